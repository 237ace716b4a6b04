import PyProof.Rows.All
import Wide.All
import OpenK.AllK
import Wide.FinOn
import Lean
import PyProof.EqAt
import PyProof.EqKinds
import PyProof.TupleCall
import PyProof.NeData
import PyProof.P3Eq
import PyProof.ConsumeWalk
import PyProof.ZipIter
import PyProof.DictItemsLoops
import KE.KDictList
import KE.KPairComp
import PyProof.Draws
import PyProof.EnumMake
import PyProof.EnumFor
import PyProof.ListRange
import PyProof.ListMulAny
import KE.KRevIter
import PyProof.Rows.SortShell
import PyProof.ListNew
import KE.KDictIter
import PyProof.DictWalks
import PyProof.StrCalls2
import KE.KSortAsk
import KE.KEqDict
import PyProof.StrCalls3
import PyProof.FString
import PyProof.Rows.FStr
import PyProof.CallType
import PyProof.EnumStmt
import PyProof.Rows.CallKwBuiltin
import PyProof.Rows.SetFrom
import PyProof.TupleKey
import PyProof.Rows.StrNews2
import PyProof.StrLaws
import PyProof.StrLawsIn
import PySem.Challenge.RW_fewopen_k63_any_so_many_hands
set_option compiler.extract_closed false
set_option bootstrap.genMatcherCode false
set_option genSizeOf false
set_option Elab.async false
set_option linter.all false
set_option maxRecDepth 100000
noncomputable section
namespace L2
open PySem PySem.Spec PyProof.Rows
abbrev Key:=Sum Int Str
def oR:Key->Value->Bool
 | .inl k,v=>Value.isInt k v
 | .inr x,v=>Value.isStrOf x v
def Nf(w:World):Key->Int
 | .inl k=>hashInt k
 | .inr x=>hashStr w x
theorem bP:∀{k:Key}{v:Value},oR k v=true->(∃i t,k=Sum.inl i/\v=Value.int i t)∨(∃x t,k=Sum.inr x/\v=Value.str x t)
 | .inl i,v,h=>by
  obtain⟨t,e⟩:=Value.isInt_shape (k:=i) (v:=v) h
  exact .inl ⟨i,t,rfl,e⟩
 | .inr x,v,h=>by
  obtain⟨t,e⟩:=Value.isStrOf_shape (x:=x) (v:=v) h
  exact .inr ⟨x,t,rfl,e⟩
theorem zJ(i:Int)(t:Tok):oR (.inl i) (.int i t)=true:=by simp[oR,Value.isInt]
theorem zK(x:Str)(t:Tok):oR (.inr x) (.str x t)=true:=by simp[oR,Value.isStrOf]
theorem Ib(a b:Int):decide ((Sum.inl a:Key)=Sum.inl b)=(a==b):=by
 by_cases e:a=b
 ·subst e;simp
 ·have h:¬ (Sum.inl a:Key)=Sum.inl b:=λq=>e (Sum.inl.inj q)
  rw[decide_eq_false h]
  exact(beq_eq_false_iff_ne.mpr e).symm
theorem Ic(a b:Str):decide ((Sum.inr a:Key)=Sum.inr b)=decide (a=b):=by
 by_cases e:a=b
 ·subst e;simp
 ·have h:¬ (Sum.inr a:Key)=Sum.inr b:=λq=>e (Sum.inr.inj q)
  rw[decide_eq_false h,decide_eq_false e]
theorem Ie(a:Int)(b:Str):decide ((Sum.inl a:Key)=Sum.inr b)=false:=decide_eq_false (λq=>nomatch q)
theorem Ig(a:Str)(b:Int):decide ((Sum.inr a:Key)=Sum.inl b)=false:=decide_eq_false (λq=>nomatch q)
def b8(prog:Program)(w:World):PySem.KeyKind prog w Key where
 is:=oR
 hash:=Nf w
 inj:=λv a b ha hb=>by
  rcases bP ha with ⟨i,t,rfl,rfl⟩|⟨x,t,rfl,rfl⟩
  ·rcases bP hb with ⟨j,u,rfl,e⟩|⟨y,u,rfl,e⟩
   ·injection e with e1 _;rw[e1]
   ·exact nomatch e
  ·rcases bP hb with ⟨j,u,rfl,e⟩|⟨y,u,rfl,e⟩
   ·exact nomatch e
   ·injection e with e1 _;rw[e1]
 byValue:=λk v h=>by
  rcases bP h with ⟨i,t,rfl,rfl⟩|⟨x,t,rfl,rfl⟩<;>rfl
 pyHash:=λhv h=>by
  rcases bP hv with ⟨i,t,rfl,rfl⟩|⟨x,t,rfl,rfl⟩
  ·exact wpAny_pyHash_int h
  ·exact wpAny_pyHash_str h
 eqBool:=λhu hv h=>by
  rcases bP hu with ⟨i,t,rfl,rfl⟩|⟨x,t,rfl,rfl⟩
  ·rcases bP hv with ⟨j,u,rfl,rfl⟩|⟨y,u,rfl,rfl⟩
   ·rw[Ib] at h;exact wpAny_eqBool_int h
   ·rw[Ie] at h;exact SeqAt.EqAt.int_str i t y u _ _ _ _ h
  ·rcases bP hv with ⟨j,u,rfl,rfl⟩|⟨y,u,rfl,rfl⟩
   ·rw[Ig] at h;exact SeqAt.EqAt.str_int x t j u _ _ _ _ h
   ·rw[Ic] at h;exact wpAny_eqBool_str h
 «strs»:=λk x t v h=>by
  rcases bP h with ⟨i,u,rfl,e⟩|⟨y,u,rfl,e⟩
  ·exact nomatch e
  ·injection e with e1 _
   subst e1
   cases v<;>rfl
theorem uw(prog:Program)(w:World)(i:Int)(t:Tok):(b8 prog w).is (.inl i) (.int i t)=true:=zJ i t
theorem ux(prog:Program)(w:World)(x:Str)(t:Tok):(b8 prog w).is (.inr x) (.str x t)=true:=zK x t
inductive V where
 | non|bl (b:Bool)|int (i:Int)|str (x:Str)|byt (b:Array UInt8)|flt (b:UInt64)|ref (a:Addr)|ty (n:String)
 deriving DecidableEq
def RelV:V->Value->Prop
 | .non,u=>u=Value.none
 | .bl b,u=>u=Value.bool b
 | .int i,u=>∃t,u=Value.int i t
 | .str x,u=>∃t,u=Value.str x t
 | .byt b,u=>∃t,u=Value.bytes b t
 | .flt b,u=>∃t,u=Value.float b t
 | .ref a,u=>u=Value.ref a
 | .ty n,u=>u=Value.type n
abbrev Vals:List V->List Value->Prop:=Paired RelV
theorem Vals.length{xs:List V}{us:List Value}(r:Vals xs us):xs.length=us.length:=Paired.length r
theorem Vals.get:∀{xs:List V}{us:List Value}{i:Nat}{x:V},Vals xs us->xs[i]?=some x->∃u,us[i]?=some u/\RelV x u
 | _,_,_,_,.nil,e=>by simp at e
 | _,_,0,_,.cons r _,e=>by simp at e;subst e;exact⟨_,rfl,r⟩
 | _,_,i+1,x,.cons _ t,e=>by
  obtain⟨u,h1,h2⟩:=Vals.get (i:=i) (x:=x) t (by simpa using e)
  exact⟨u,by simpa using h1,h2⟩
theorem Vals.set{x:V}{u:Value}(r:RelV x u):∀{xs:List V}{us:List Value} (i:Nat),Vals xs us->Vals (xs.set i x) (us.set i u)
 | _,_,_,.nil=>.nil
 | _,_,0,.cons _ t=>.cons r t
 | _,_,i+1,.cons q t=>.cons q (Vals.set r i t)
theorem Vals.append:∀{xs ys:List V}{us ws:List Value},Vals xs us->Vals ys ws->Vals (xs++ys) (us++ws)
 | _,_,_,_,.nil,s=>s
 | _,_,_,_,.cons r t,s=>.cons r (Vals.append t s)
theorem Vals.take:∀{xs:List V}{us:List Value} (n:Nat),Vals xs us->Vals (xs.take n) (us.take n)
 | _,_,0,_=>.nil
 | _,_,_+1,.nil=>.nil
 | _,_,n+1,.cons r t=>.cons r (Vals.take n t)
theorem Vals.drop:∀{xs:List V}{us:List Value} (n:Nat),Vals xs us->Vals (xs.drop n) (us.drop n)
 | _,_,0,r=>r
 | _,_,_+1,.nil=>.nil
 | _,_,n+1,.cons _ t=>Vals.drop n t
def nP:Option V->Option Value->Prop
 | some v,some u=>RelV v u
 | none,none=>True
 | _,_=>False
def KV{κ:Type}:List (κ×V)->List (κ×Value)->Prop:=Paired λ(p:κ×V) (q:κ×Value)=>p.1=q.1/\RelV p.2 q.2
noncomputable def kV : Key -> V
 | .inl i=>.int i
 | .inr x=>.str x
inductive HO where
 | lst (xs:List V)
 | tup (xs:List V)
 | dK (kvs:List (Key×V))|dT (kvs:List (List Key×V))
 | set (S:Int->Bool) (n:Nat)
 | ins (C dx:Addr) (fs:List (Str×V))
 | own (x:Addr)
 | xd (fs:List (Str×V))
 | met (f x:Addr)
 | rng (lo hi:Int)
 | frz (o:Obj) (u:HO)
 | tbl (ps:Array Value)
 | ext (φ:Heap->Prop)
abbrev Hp:=Addr->Option HO
noncomputable def upd (H : Hp) (a : Addr) (o : HO) : Hp := fun b => if b = a then some o else H b
theorem az{H:Hp}{a:Addr}{o:HO}:upd H a o a=some o:=by unfold upd;rw[if_pos rfl]
theorem aF{H:Hp}{a b:Addr}{o:HO}(h:b≠a):upd H a o b=H b:=by unfold upd;rw[if_neg h]
theorem K9{H:Hp}{a b:Addr}{o u:HO}(h:H a=some o)(h':H b=some u)(d:o≠u):a≠b:=by
 intro e;subst e;rw[h] at h';exact d (Option.some.inj h')
theorem cq{H:Hp}{a b:Addr}{o:HO}(h:H a=some o)(h':H b=none):a≠b:=by
 intro e;subst e;rw[h] at h';cases h'
section
variable(P:Program)(w:World)
def cG(H:Hp)(h:Heap)(a:Addr):HO->Prop
 | .lst xs=>xs.length≤sizeLine/\∃(its:List Value) (n:Nat),Vals xs its/\h.get? a=some { cls:=.type "list",data:=.seq its.toArray n }
 | .tup xs=>xs.length≤sizeLine/\∃its:List Value,Vals xs its/\IsTup h a its.toArray
 | .dK kvs=>kvs.length≤sizeLine/\(a==sysModules)=false/\∃vs,KV kvs vs/\h.DictAt (b8 P w) a vs vs.length
 | .dT kvs=>kvs.length≤sizeLine/\(a==sysModules)=false/\∃xs:List (List Key×Addr×Value),
   Paired (λ(p:List Key×V) (q:List Key×Addr×Value)=>p.1=q.1/\H q.2.1=some (.tup (p.1.map kV))/\RelV p.2 q.2.2) kvs xs /\
   ∃o es ep,h.get? a=some o/\o.ExactDict/\o.data=.dict es ep/\es.toList=xs.map (entryOfKey (tupleKind (b8 P w)))/\(xs.map (·.1)).Nodup
 | .set S n=>h.SetOf (intKind P w) a S n
 | .ins C dx fs=>H dx=some (.own a)/\fs.length≤1000/\dx≠a/\h.get? a=some (PySem.W.instObj C dx) /\
   ∃mA,h.Ns1 dx mA/\(∀f,nP (fs.lookup f) (mA f))/\PySem.Within mA (fs.map (·.1))
 | .own _=>∃o,h.get? a=some o
 | .xd fs=>∃mA,h.Ns1 a mA/\∀f,nP (fs.lookup f) (mA f)
 | .rng lo hi=>∃t u v,h.get? a=some { cls:=.type "range",data:=.fields #[.int lo t,.int hi u,.int 1 v] }
 | .frz o u=>h.get? a=some o/\cG H h a u
 | .tbl ps=>h.get? a=some { cls:=.none,data:=.fields ps }
 | .met f x=>h.get? a=some (PySem.W.methodObj (.ref f) (.ref x))
 | .ext φ=>φ h/\(∃o,h.get? a=some o)/\∀h1 h2:Heap,φ h1->(∀o,h1.get? a=some o->h2.get? a=some o)->φ h2
def HOk(H:Hp)(h:Heap):Prop:=∀a o,H a=some o->cG P w H h a o
end
section
variable{P:Program}{w:World}{H H':Hp}{h h':Heap}{a:Addr}{o:HO}
theorem cG.lt(x:cG P w H h a o):a<h.objs.size:=by
 cases o with
 | lst xs=>obtain⟨_,_,_,_,e⟩:=x;exact Heap.lt_size e
 | tup xs=>obtain⟨_,_,_,p⟩:=x;exact p.lt
 | dK kvs=>obtain⟨_,_,_,_,o,_,e,_⟩:=x;exact Heap.lt_size e
 | dT kvs=>obtain⟨_,_,_,_,o,_,_,e,_⟩:=x;exact Heap.lt_size e
 | set S n=>obtain⟨o,_,_,_,e,_⟩:=x;exact Heap.lt_size e
 | ins C dx fs=>obtain⟨_,_,_,e,_⟩:=x;exact Heap.lt_size e
 | own y=>obtain⟨_,e⟩:=x;exact Heap.lt_size e
 | xd fs=>obtain⟨_,⟨_,_,_,e,_⟩,_⟩:=x;exact Heap.lt_size e
 | rng lo hi=>obtain⟨_,_,_,e⟩:=x;exact Heap.lt_size e
 | frz ob u=>obtain⟨e,_⟩:=x;exact Heap.lt_size e
 | tbl ps=>exact Heap.lt_size (show h.get? a=some _ from x)
 | met f y=>exact Heap.lt_size (show h.get? a=some _ from x)
 | ext φ=>obtain⟨_,⟨_,e⟩,_⟩:=x;exact Heap.lt_size e
theorem Paired.EV{α β:Type}{F G:α->β->Prop}:∀{l₁:List α}{l₂:List β},Paired F l₁ l₂->(∀a b,F a b->G a b)->Paired G l₁ l₂
 | _,_,.nil,_=>.nil
 | _,_,.cons r t,f=>.cons (f _ _ r) (Paired.EV t f)
theorem Paired.imp'{α β:Type}{F G:α->β->Prop}(f:∀a b,F a b->G a b){l₁:List α}{l₂:List β}(r:Paired F l₁ l₂):Paired G l₁ l₂:=Paired.EV r f
theorem cG.uy(x:cG P w H h a o)(k:∀b u,(b=a∨H b=some (.own a))->h.get? b=some u->h'.get? b=some u)
  (ho:∀b,H b=some (.own a)->H' b=some (.own a)) (ht:∀b xs,H b=some (.tup xs)->H' b=some (.tup xs)):cG P w H' h' a o:=by
 induction o with
 | lst xs=>obtain⟨z,its,n,r,e⟩:=x;exact⟨z,its,n,r,k _ _ (.inl rfl) e⟩
 | tup xs=>obtain⟨z,its,r,ob,e,c⟩:=x;exact⟨z,its,r,ob,k _ _ (.inl rfl) e,c⟩
 | dK kvs=>obtain⟨z,y,vs,r,ob,es,e,c⟩:=x;exact⟨z,y,vs,r,ob,es,k _ _ (.inl rfl) e,c⟩
 | dT kvs =>
  obtain⟨z,y,xs,r,ob,es,ep,e,c⟩:=x
  exact⟨z,y,xs,Paired.EV r λp q z=>⟨z.1,ht _ _ z.2.1,z.2.2⟩,ob,es,ep,k _ _ (.inl rfl) e,c⟩
 | set S n=>obtain⟨ob,es,ep,t,e,c⟩:=x;exact⟨ob,es,ep,t,k _ _ (.inl rfl) e,c⟩
 | ins C dx fs =>
  obtain⟨d,z,ne,e,mA,⟨od,es,ep,e2,c⟩,r⟩:=x
  exact⟨ho _ d,z,ne,k _ _ (.inl rfl) e,mA,⟨od,es,ep,k _ _ (.inr d) e2,c⟩,r⟩
 | own y=>obtain⟨ob,e⟩:=x;exact⟨ob,k _ _ (.inl rfl) e⟩
 | xd fs=>obtain⟨mA,⟨od,es,ep,e,c⟩,r⟩:=x;exact⟨mA,⟨od,es,ep,k _ _ (.inl rfl) e,c⟩,r⟩
 | rng lo hi=>obtain⟨t,u,v,e⟩:=x;exact⟨t,u,v,k _ _ (.inl rfl) e⟩
 | frz ob u ih=>obtain⟨e,q⟩:=x;exact⟨k _ _ (.inl rfl) e,ih q⟩
 | tbl ps =>
  have e:h.get? a=some { cls:=.none,data:=.fields ps }:=x
  show h'.get? a=some { cls:=.none,data:=.fields ps }
  exact k a _ (.inl rfl) e
 | met f y =>
  have e:h.get? a=some (PySem.W.methodObj (.ref f) (.ref y)):=x
  show h'.get? a=some (PySem.W.methodObj (.ref f) (.ref y))
  exact k a _ (.inl rfl) e
 | ext φ=>obtain⟨p,⟨o,e⟩,st⟩:=x;exact⟨st _ _ p λo q=>k _ _ (.inl rfl) q,⟨o,k _ _ (.inl rfl) e⟩,st⟩
theorem HOk.lt(x:HOk P w H h)(e:H a=some o):a<h.objs.size:=(x a o e).lt
theorem HOk.fresh(x:HOk P w H h)(e:h.objs.size≤a):H a=none:=by
 cases q:H a with
 | none=>rfl
 | some u=>exact absurd (Nat.lt_of_lt_of_le (x.lt q) e) (Nat.lt_irrefl _)
theorem HOk.kept(x:HOk P w H h)(k:∀b u,h.get? b=some u->h'.get? b=some u):HOk P w H h':=λa o e =>
 (x a o e).uy (λb u _ q=>k b u q) (λ_ q=>q) λ_ _ q=>q
theorem HOk.laid(x:HOk P w H h)(k:∀b u,h.get? b=some u->h'.get? b=some u)(hp:h.objs.size≤a)(new:cG P w (upd H a o) h' a o):HOk P w (upd H a o) h':=λb u e=>by
 have hn:=x.fresh hp
 by_cases hb:b=a
 ·subst hb;rw[az] at e;cases e;exact new
 ·rw[aF hb] at e
  exact(x b u e).uy (λc v _ q=>k c v q) (λc q=>by rw[aF (cq q hn)];exact q) λc xs q=>by rw[aF (cq q hn)];exact q
end
def Rd(H:Hp)(a:Addr)(u:HO):Prop:=H a=some u∨∃o,H a=some (.frz o u)
theorem Rd.ok{P:Program}{w:World}{H:Hp}{h:Heap}{a:Addr}{u:HO}(r:Rd H a u)(x:HOk P w H h):cG P w H h a u:=by
 rcases r with r|⟨o,r⟩
 ·exact x a u r
 ·obtain⟨_,q⟩:=x a _ r
  exact q
def Mut:Option HO->Prop
 | some (.lst _)=>True
 | some (.dK _)=>True
 | some (.dT _)=>True
 | some (.set _ _)=>True
 | some (.ins _ _ _)=>True
 | some (.ext _)=>True
 | _=>False
section
variable{P:Program}{w:World}{H:Hp}{h h':Heap}{x e:Addr}{o':HO}
theorem HOk.write(ok:HOk P w H h)(mu:Mut (H x))(he:e=x∨H e=some (.own x))(k:∀b u,b≠e->h.get? b=some u->h'.get? b=some u)(heo:∃u,h'.get? e=some u)
  (new:cG P w (upd H x o') h' x o'):HOk P w (upd H x o') h':=λb u q=>by
 have K_:∀c y,H c=some (.own y)->c≠x:=λc y r z=>by subst z;rw[r] at mu;exact mu
 have Ng:∀c xs,H c=some (.tup xs)->c≠x:=λc xs r z=>by subst z;rw[r] at mu;exact mu
 by_cases hb:b=x
 ·subst hb;rw[az] at q;cases q;exact new
 ·rw[aF hb] at q
  by_cases hbe:b=e
  ·have q':H b=some (.own x):=by
    rcases he with z|z
    ·exact absurd (hbe.trans z) hb
    ·rw[hbe];exact z
   rw[q] at q';cases q'
   obtain⟨v,hv⟩:=heo
   exact⟨v,by rw[hbe];exact hv⟩
  ·refine(ok b u q).uy (λc v hc r=>k c v ?_ r) (λc r=>by rw[aF (K_ c b r)];exact r) λc xs r=>by rw[aF (Ng c xs r)];exact r
   rcases hc with rfl|hc
   ·exact hbe
   ·rintro rfl
    rcases he with z|z
    ·exact K_ c b hc z
    ·rw[hc] at z;cases z;exact hb rfl
end
structure Un(fs ex:List Addr)(H H':Hp)(h h':Heap):Prop where
 keep:∀b o,h.get? b=some o->H b=none->b∉fs->b∉ex->h'.get? b=some o
 slot:∀b o,h.get? b=some o->H b=none->b∈fs->b∉ex->∃sl,h'.get? b=some { o with slots:=sl }
 free:∀b o,h.get? b=some o->H b=none->b∉ex->H' b=none
 there:∀b o,h.get? b=some o->b∉ex->∃o',h'.get? b=some o'
 qy:∀b xs,H b=some (.tup xs)->H' b=some (.tup xs)
 dq:∀b o u,H b=some (.frz o u)->H' b=some (.frz o u)
 qA:∀b ps,H b=some (.tbl ps)->∃more,H' b=some (.tbl (ps++more))
section
variable{fs fs' ex ex':List Addr}{H H1 H2:Hp}{h h1 h2 h':Heap}{a x e:Addr}{o:HO}
theorem Un.any(u:Un fs ex H H1 h h1){b:Addr}{ob:Obj}(q:h.get? b=some ob)(n:H b=none)(hx:b∉ex):∃sl,h1.get? b=some { ob with slots:=sl }:=by
 by_cases hb:b∈fs
 ·exact u.slot b ob q n hb hx
 ·exact⟨ob.slots,u.keep b ob q n hb hx⟩
theorem Un.kept(k:∀b u,h.get? b=some u->h'.get? b=some u):Un fs ex H H h h' :=
 ⟨λb ob q _ _ _=>k b ob q,λb ob q _ _ _=>⟨ob.slots,k b ob q⟩,λ_ _ _ n _=>n,λb ob q _=>⟨ob,k b ob q⟩,λ_ _ q=>q,λ_ _ _ q=>q,λ_ ps q=>⟨#[],by rw[q];simp⟩⟩
theorem Un.refl:Un fs ex H H h h:=Un.kept λ_ _ q=>q
theorem Un.laid(k:∀b u,h.get? b=some u->h'.get? b=some u)(hp:h.objs.size≤a)(hn:H a=none):Un fs ex H (upd H a o) h h' where
 keep:=λb u q _ _ _=>k b u q
 slot:=λb u q _ _ _=>⟨u.slots,k b u q⟩
 free:=λb u q n _=>by rw[aF (Nat.ne_of_lt (Nat.lt_of_lt_of_le (Heap.lt_size q) hp))];exact n
 there:=λb u q _=>⟨u,k b u q⟩
 qy:=λb xs q=>by rw[aF (cq q hn)];exact q
 dq:=λb u xs q=>by rw[aF (cq q hn)];exact q
 qA:=λb ps q=>⟨#[],by rw[aF (cq q hn),q];simp⟩
theorem Un.write(mu:Mut (H x))(he:e=x∨H e=some (.own x))(k:∀b u,b≠e->h.get? b=some u->h'.get? b=some u)(heo:∃u,h'.get? e=some u):Un fs ex H (upd H x o) h h':=by
 have hx:∀b,H b=none->b≠x:=λb n z=>by subst z;rw[n] at mu;exact mu
 have hb:∀b,H b=none->b≠e:=λb n z=>by
  subst z
  rcases he with r|r
  ·exact hx b n r
  ·rw[n] at r;cases r
 have hm:∀b u,H b=some u->¬ Mut (some u)->b≠x:=λb u q nm z=>by subst z;rw[q] at mu;exact nm mu
 refine⟨λb u q n _ _=>k b u (hb b n) q,λb u q n _ _=>⟨u.slots,k b u (hb b n) q⟩,λb u q n _=>by rw[aF (hx b n)];exact n,λb u q _=>?_,
  λb xs q=>by rw[aF (hm b _ q λz=>z)];exact q,λb u xs q=>by rw[aF (hm b _ q λz=>z)];exact q,λb ps q=>⟨#[],by rw[aF (hm b _ q λz=>z),q];simp⟩⟩
 by_cases hbe:b=e
 ·subst hbe;exact heo
 ·exact⟨u,k b u hbe q⟩
end
def trk(h:Heap)(H:Hp):List Addr:=(List.range h.objs.size).filter λa=>(H a).isSome
def sy(h:Heap)(H:Hp):Heap:=PySem.W.hideAll h (trk h H)
theorem zL(h:Heap)(H:Hp):(sy h H).objs.size=h.objs.size:=PySem.W.hideAll_size _ _
theorem BB{h:Heap}{H:Hp}{b:Addr}{o:Obj}(e:h.get? b=some o)(n:H b=none):(sy h H).get? b=some o :=
 PySem.W.hideAll_get _ e λhm=>by
  have q:(H b).isSome=true:=(List.mem_filter.mp hm).2
  rw[n] at q;simp at q
theorem EW{h:Heap}{H:Hp}{b:Addr}{o:Obj}(e:(sy h H).get? b=some o):h.get? b=some o/\H b=none:=by
 have e':h.get? b=some o:=PySem.W.of_hideAll (trk h H) e
 refine⟨e',?_⟩
 cases q:H b with
 | none=>rfl
 | some x =>
  have hm:b∈trk h H:=List.mem_filter.mpr ⟨List.mem_range.mpr (Heap.lt_size e'),by simp[q]⟩
  have z:(sy h H).get? b=none:=PySem.W.hideAll_none (trk h H) hm
  rw[z] at e;cases e
structure Mod(K:PySem.W.Frag)(mg:Str->Option Value)(base:Heap):Prop where
 kin:K.In base
 glob:base.Ns mainGlobals mg
 blt:∃mb,base.Ns builtinsNs mb/\∀x:Str,x≠"__name__"->mb x=bootBuiltins x
 nolimit:base.NoLimit
structure Cx where
 prog:Program
 w:World
 K:PySem.W.Frag
 mg:Str->Option Value
 base:Heap
 A:Around
 N:List Str
 s₀:Shared
 H₀:Hp
 env:Env
 outer:List Env
 stack:List Env
 ex:List Addr
 fn:Str->Bool
 calm:Bool
 pn:List (Addr×Obj)
 xe:Value->Shared->Prop
def frs(l:List Env):List Addr:=l.filterMap (·.frame)
abbrev Cx.fs(X:Cx):List Addr:=frs X.outer
def Vis(sc:Scope)(x:Str):Prop:=sc.names.lookup x=some .local∨sc.names.lookup x=some .cell∨sc.names.lookup x=some .free
def Loc(sc:Scope)(x:Str):Prop:=sc.names.lookup x=some .local∨sc.names.lookup x=some .cell
def Look(env:Env)(h:Heap)(m:Str->Option Value)(x:Str)(u:Value):Prop :=
 (env.kindOf x=some .local/\m x=some u)∨((env.kindOf x=some .cell∨env.kindOf x=some .free)/\∃c,env.cells.lookup x=some c/\h.IsCell c (some u))
structure Cx.Ok(X:Cx):Prop where
 mod:Mod X.K X.mg X.base
 kind:X.env.scope.kind=.function
 glob:X.env.globals=mainGlobals
 blt:X.env.builtins=builtinsNs
 above:X.s₀.heap.objs.size≤X.env.locals
 inj:∀x y c,X.env.cells.lookup x=some c->X.env.cells.lookup y=some c->x=y
 has:∀x,(X.env.kindOf x=some .cell∨X.env.kindOf x=some .free)->∃c,X.env.cells.lookup x=some c
 cab:∀x c,X.fn x=true->X.env.cells.lookup x=some c->X.s₀.heap.objs.size≤c
 hd:X.calm=true->X.A.handled=none
 frames:X.A.frames=some X.stack
 stk:X.stack=X.outer∨(X.stack=X.env::X.outer/\X.env.frame=some X.env.locals)
 exf:∀b∈X.ex,b≠X.env.locals/\∀x c,X.env.cells.lookup x=some c->c≠b
 bs:∀b o,X.base.get? b=some o->X.s₀.heap.get? b=some o/\X.H₀ b=none
 bsz:X.base.objs.size≤X.s₀.heap.objs.size
 zM:∀b o,X.base.get? b=some o->b∉X.ex
 EX:∀b∈X.ex,b∉X.fs
 nQ:X.s₀.heap.FunFrames X.base X.outer
 frf:∀b∈X.fs,X.H₀ b=none
structure Inv(X:Cx)(pins:List (Addr×Obj))(σ:List (Option V))(H:Hp)(s:Shared):Prop where
 ok:X.Ok
 os:s.os=X.s₀.os
 bare:AllBare s.gens
 base:Un X.fs X.ex X.H₀ H X.s₀.heap s.heap
 loc:∃m,s.heap.Ns X.env.locals m/\∀(i:Nat) (x:Str) (v:V),X.N[i]?=some x->σ[i]?=some (some v)->Vis X.env.scope x->∃u,RelV v u/\Look X.env s.heap m x u
 cell:∀x c,X.env.cells.lookup x=some c->∃v,s.heap.IsCell c v
 free:H X.env.locals=none
 kA:∀x c,X.env.cells.lookup x=some c->H c=none
 pin:∀p∈X.pn++pins,s.heap.get? p.1=some p.2/\H p.1=none/\p.1≠X.env.locals/\p.1∉X.fs/\∀v,p.2.data≠.cell v
 hok:HOk X.prog X.w H s.heap
 len:σ.length=X.N.length
section
variable{X:Cx}{pins:List (Addr×Obj)}{σ:List (Option V)}{H H':Hp}{s:Shared}{h':Heap}
theorem Cx.Ok.Nh(ok:X.Ok){b:Addr}{o:Obj}(e:X.base.get? b=some o):b∉X.fs:=λhb=>by
 have:=(ok.nQ.mem hb).1
 rw[e] at this;cases this
theorem Inv.bs(I:Inv X pins σ H s):∀b o,X.base.get? b=some o->s.heap.get? b=some o/\H b=none:=λb o e =>
 ⟨I.base.keep b o (I.ok.bs b o e).1 (I.ok.bs b o e).2 (I.ok.Nh e) (I.ok.zM b o e),I.base.free b o (I.ok.bs b o e).1 (I.ok.bs b o e).2 (I.ok.zM b o e)⟩
theorem Inv.bk(I:Inv X pins σ H s):∀b o,X.base.get? b=some o->s.heap.get? b=some o:=λb o e=>(I.bs b o e).1
theorem Inv.mod(I:Inv X pins σ H s):Mod X.K X.mg X.base:=I.ok.mod
theorem Inv.kIn(I:Inv X pins σ H s):X.K.In s.heap:=I.ok.mod.kin.keeps I.bk
theorem Inv.nolimit(I:Inv X pins σ H s):s.heap.NoLimit:=I.ok.mod.nolimit.keeps I.bk
theorem Inv.lt(I:Inv X pins σ H s):X.env.locals<s.heap.objs.size:=let ⟨_,hn,_⟩:=I.loc;hn.lt
theorem Inv.sz(I:Inv X pins σ H s):X.s₀.heap.objs.size≤s.heap.objs.size:=Nat.le_trans I.ok.above (Nat.le_of_lt I.lt)
theorem Inv.Ni(I:Inv X pins σ H s){a:Addr}(h:s.heap.objs.size≤a):a∉X.fs:=λhb=>by
 obtain⟨_,o,ho,_⟩:=I.ok.nQ.mem hb
 exact absurd (Nat.lt_of_lt_of_le (Heap.lt_size ho) (Nat.le_trans I.sz h)) (Nat.lt_irrefl _)
theorem Inv.cne(I:Inv X pins σ H s):∀x c,X.env.cells.lookup x=some c->c≠X.env.locals:=λx c e z=>by
 obtain⟨v,o,ho,hd⟩:=I.cell x c e
 obtain⟨m,⟨o',es,ep,ho',hd',_⟩,_⟩:=I.loc
 rw[z,ho'] at ho;cases ho;rw[hd'] at hd;cases hd
theorem Inv.nQ(I:Inv X pins σ H s):s.heap.FunFrames X.base X.outer:=by
 have all:∀(l:List Env),(∀b∈frs l,b∈X.fs)->X.s₀.heap.FunFrames X.base l->s.heap.FunFrames X.base l:=by
  intro l
  induction l with
  | nil=>intro _ _;trivial
  | cons env r ih =>
   intro hs hl
   obtain⟨hk,⟨L,o,hf,hn,ho,hd⟩,hr⟩:=hl
   have hL:L∈X.fs:=hs L (by unfold frs;rw[List.filterMap_cons,hf];exact List.mem_cons_self)
   obtain⟨sl,e⟩:=I.base.slot L o ho (I.ok.frf L hL) hL λz=>I.ok.EX L z hL
   exact⟨hk,⟨L,_,hf,hn,e,hd⟩,ih (λb hb=>hs b (by unfold frs;rw[List.filterMap_cons,hf];exact List.mem_cons_of_mem _ hb)) hr⟩
 exact all X.outer (λ_ hb=>hb) I.ok.nQ
theorem Inv.stack(I:Inv X pins σ H s):s.heap.FunFrames X.base X.stack:=by
 rcases I.ok.stk with e|⟨e,hf⟩
 ·rw[e];exact I.nQ
 ·rw[e]
  obtain⟨m,hn,_⟩:=I.loc
  refine .cons (by rw[I.ok.kind];decide) hf hn ?_ I.nQ
  exact Heap.get?_none_of_le (Nat.le_trans I.ok.bsz I.ok.above)
theorem Inv.sA(I:Inv X pins σ H s):∀b∈frs X.stack,b∈X.env.locals::X.fs:=λb hb=>by
 rcases I.ok.stk with e|⟨e,hf⟩
 ·rw[e] at hb;exact List.mem_cons_of_mem _ hb
 ·rw[e] at hb
  unfold frs at hb
  rw[List.filterMap_cons,hf] at hb
  exact hb
theorem Inv.yg(I:Inv X pins σ H s):∀b∈frs X.stack,H b=none:=λb hb=>by
 rcases List.mem_cons.mp (I.sA b hb) with e|hb
 ·rw[e];exact I.free
 ·obtain⟨_,o,ho,_⟩:=I.ok.nQ.mem hb
  exact I.base.free b o ho (I.ok.frf b hb) λz=>I.ok.EX b z hb
theorem Inv.step{g':Array GenState}{t':Nat}{d':Drawn}{ch:List Addr}(I:Inv X pins σ H s)
  (hch:∀b∈ch,(b∈X.ex∨X.s₀.heap.objs.size≤b)/\b≠X.env.locals/\(∀x c,X.env.cells.lookup x=some c->c≠b)/\∀p∈X.pn++pins,p.1≠b)
  (keep:∀b o,b≠X.env.locals->b∉X.fs->b∉ch->s.heap.get? b=some o->H b=none->h'.get? b=some o)
  (slot:∀b o,b≠X.env.locals->b∈X.fs->b∉ch->s.heap.get? b=some o->H b=none->∃sl,h'.get? b=some { o with slots:=sl }) (free:∀b o,b∉ch->s.heap.get? b=some o->H b=none->H' b=none)
  (there:∀b o,b∉ch->s.heap.get? b=some o->∃o',h'.get? b=some o')
  (qy:∀b xs,H b=some (.tup xs)->H' b=some (.tup xs)) (dq:∀b o u,H b=some (.frz o u)->H' b=some (.frz o u)) (qA:∀b ps,H b=some (.tbl ps)->∃more,H' b=some (.tbl (ps++more)))
  (ns:∀m,s.heap.Ns X.env.locals m->h'.Ns X.env.locals m) (hok:HOk X.prog X.w H' h') (hg:AllBare g') :
  Inv X pins σ H' { s with heap:=h',gens:=g',drawn:=d',toks:=t' }:=by
 have neL:∀b o,X.s₀.heap.get? b=some o->b≠X.env.locals:=λb o e=>Nat.ne_of_lt (Nat.lt_of_lt_of_le (Heap.lt_size e) I.ok.above)
 have neC:∀b o,X.s₀.heap.get? b=some o->b∉X.ex->b∉ch:=λb o e hx hb=>by
  rcases (hch b hb).1 with z|z
  ·exact hx z
  ·exact absurd (Nat.lt_of_lt_of_le (Heap.lt_size e) z) (Nat.lt_irrefl _)
 have cellK:∀x c,X.env.cells.lookup x=some c->∀v,s.heap.IsCell c v->h'.IsCell c v:=λx c e v aj=>by
  obtain⟨o,ho,hd⟩:=aj
  have nch:c∉ch:=λz=>(hch c z).2.2.1 x c e rfl
  by_cases hc:c∈X.fs
  ·obtain⟨sl,q⟩:=slot c o (I.cne x c e) hc nch ho (I.kA x c e)
   exact⟨_,q,hd⟩
  ·exact⟨o,keep c o (I.cne x c e) hc nch ho (I.kA x c e),hd⟩
 refine⟨I.ok,I.os,hg,⟨λb o e n hb hx=>?_,λb o e n hb hx=>?_,λb o e n hx=>?_,λb o e hx=>?_,λb xs e=>qy b xs (I.base.qy b xs e),λb o xs e=>dq b o xs (I.base.dq b o xs e),λb ps e=>?_⟩,?_,λx c e=>?_,?_,λx c e=>?_,λp hp=>?_,hok,I.len⟩
 ·exact keep b o (neL b o e) hb (neC b o e hx) (I.base.keep b o e n hb hx) (I.base.free b o e n hx)
 ·obtain⟨sl,e1⟩:=I.base.slot b o e n hb hx
  obtain⟨sl',e2⟩:=slot b _ (neL b o e) hb (neC b o e hx) e1 (I.base.free b o e n hx)
  exact⟨sl',e2⟩
 ·obtain⟨o',e1⟩:=I.base.there b o e hx
  exact free b o' (neC b o e hx) e1 (I.base.free b o e n hx)
 ·obtain⟨o',e1⟩:=I.base.there b o e hx
  exact there b o' (neC b o e hx) e1
 ·obtain⟨m1,e1⟩:=I.base.qA b ps e
  obtain⟨m2,e2⟩:=qA b _ e1
  exact⟨m1++m2,by rw[e2,Array.append_assoc]⟩
 ·obtain⟨m,hn,hl⟩:=I.loc
  refine⟨m,ns m hn,λi x v e1 e2 e3=>?_⟩
  obtain⟨u,r,l⟩:=hl i x v e1 e2 e3
  refine⟨u,r,?_⟩
  rcases l with l|⟨k,c,e,z⟩
  ·exact .inl l
  ·exact .inr ⟨k,c,e,cellK x c e _ z⟩
 ·obtain⟨v,z⟩:=I.cell x c e
  exact⟨v,cellK x c e v z⟩
 ·obtain⟨m,⟨o,_,_,ho,_⟩,_⟩:=I.loc
  exact free _ o (λz=>(hch _ z).2.1 rfl) ho I.free
 ·obtain⟨v,o,ho,hd⟩:=I.cell x c e
  exact free c o (λz=>(hch c z).2.2.1 x c e rfl) ho (I.kA x c e)
 ·obtain⟨e,n,ne,nf,d⟩:=I.pin p hp
  have nch:p.1∉ch:=λz=>(hch p.1 z).2.2.2 p hp rfl
  exact⟨keep p.1 p.2 ne nf nch e n,free p.1 p.2 nch e n,ne,nf,d⟩
theorem Inv.un{t':Nat}(I:Inv X pins σ H s)(u:Un X.fs [] H H' s.heap h')(hok:HOk X.prog X.w H' h'):Inv X pins σ H' { s with heap:=h',toks:=t' }:=by
 obtain⟨m,⟨o,es,ep,ho,r⟩,_⟩:=id I.loc
 obtain⟨sl,hL⟩:=u.any ho I.free (by simp)
 exact I.step (g':=s.gens) (d':=s.drawn) (ch:=[]) (λ_ z=>nomatch z) (λb o _ hb _ e n=>u.keep b o e n hb (by simp)) (λb o _ hb _ e n=>u.slot b o e n hb (by simp)) (λb o _ e n=>u.free b o e n (by simp)) (λb o _ e=>u.there b o e (by simp)) u.qy u.dq u.qA (λm' hm=>by
  obtain⟨o',es',ep',ho',r'⟩:=hm
  rw[ho] at ho';cases ho'
  exact⟨_,es',ep',hL,r'⟩) hok I.bare
theorem Inv.call{g':Array GenState}{t':Nat}{d':Drawn}{ch:List Addr}(I:Inv X pins σ H s)(u:Un (frs X.stack) ch H H' s.heap h')(hok:HOk X.prog X.w H' h')(hg:AllBare g')
  (hch:∀b∈ch,(b∈X.ex∨X.s₀.heap.objs.size≤b)/\b≠X.env.locals/\(∀x c,X.env.cells.lookup x=some c->c≠b)/\∀p∈X.pn++pins,p.1≠b) :
  Inv X pins σ H' { s with heap:=h',gens:=g',drawn:=d',toks:=t' }:=by
 obtain⟨m,⟨o,es,ep,ho,r⟩,_⟩:=id I.loc
 obtain⟨sl,hL⟩:=u.any ho I.free λz=>(hch _ z).2.1 rfl
 exact I.step (ch:=ch) hch (λb o hL hb hc e n=>u.keep b o e n (λz=>(List.mem_cons.mp (I.sA b z)).elim hL hb) hc) (λb o _ _ hc e n=>u.any e n hc) (λb o hc e n=>u.free b o e n hc) (λb o hc e=>u.there b o e hc) u.qy u.dq u.qA (λm' hm=>by
  obtain⟨o',es',ep',ho',r'⟩:=hm
  rw[ho] at ho';cases ho'
  exact⟨_,es',ep',hL,r'⟩) hok hg
theorem Inv.turned{t':Nat}{it:Addr}(I:Inv X pins σ H s)(k:∀b o,b≠it->s.heap.get? b=some o->h'.get? b=some o)(hn:H it=none)(hL:it≠X.env.locals)
  (h1:it∈X.ex∨X.s₀.heap.objs.size≤it) (h2:∀x c,X.env.cells.lookup x=some c->c≠it) (h3:∀p∈X.pn++pins,p.1≠it):Inv X pins σ H { s with heap:=h',toks:=t' }:=by
 have nit:∀b u,H b=some u->b≠it:=λb u e z=>by rw[z,hn] at e;cases e
 refine I.step (g':=s.gens) (d':=s.drawn) (ch:=[it]) (λb hb=>?_) (λb o _ _ hc e _=>k b o (λz=>hc (by simp[z])) e) (λb o _ _ hc e _=>⟨o.slots,k b o (λz=>hc (by simp[z])) e⟩) (λ_ _ _ _ n=>n)
  (λb o hc e=>⟨o,k b o (λz=>hc (by simp[z])) e⟩) (λ_ _ e=>e) (λ_ _ _ e=>e) (λb ps e=>⟨#[],by rw[e];simp⟩) (λm hm=>?_) (λb u e=>?_) I.bare
 ·have e:b=it:=by simpa using hb
  subst e
  exact⟨h1,hL,h2,h3⟩
 ·obtain⟨o,es,ep,ho,r⟩:=hm
  exact⟨o,es,ep,k _ o (Ne.symm hL) ho,r⟩
 ·refine(I.hok b u e).uy (λc v hc q=>k c v ?_ q) (λ_ q=>q) λ_ _ q=>q
  rcases hc with z|z
  ·rw[z];exact nit b u e
  ·exact nit c _ z
theorem Inv.tok(I:Inv X pins σ H s)(t:Nat):Inv X pins σ H { s with toks:=t }:=I.un (h':=s.heap) (t':=t) Un.refl I.hok
theorem Inv.kept{t':Nat}(I:Inv X pins σ H s)(k:∀b u,s.heap.get? b=some u->h'.get? b=some u):Inv X pins σ H { s with heap:=h',toks:=t' }:=I.un (Un.kept k) (I.hok.kept k)
theorem Inv.laid{a:Addr}{o:HO}{t':Nat}(I:Inv X pins σ H s)(k:∀b u,s.heap.get? b=some u->h'.get? b=some u)(hp:s.heap.objs.size≤a)(new:cG X.prog X.w (upd H a o) h' a o) :
  Inv X pins σ (upd H a o) { s with heap:=h',toks:=t' }:=I.un (Un.laid k hp (I.hok.fresh hp)) (I.hok.laid k hp new)
theorem Inv.write{x e:Addr}{o:HO}{t':Nat}(I:Inv X pins σ H s)(mu:Mut (H x))(he:e=x∨H e=some (.own x))(k:∀b u,b≠e->s.heap.get? b=some u->h'.get? b=some u)(heo:∃u,h'.get? e=some u)
  (new:cG X.prog X.w (upd H x o) h' x o):Inv X pins σ (upd H x o) { s with heap:=h',toks:=t' }:=I.un (Un.write mu he k heo) (I.hok.write mu he k heo new)
theorem Inv.yh{Hv:List (Addr×Obj)}(I:Inv X pins σ H s)(h:∀p∈Hv,s.heap.get? p.1=some p.2/\H p.1=none/\p.1≠X.env.locals/\p.1∉X.fs/\∀v,p.2.data≠.cell v):Inv X Hv σ H s :=
 ⟨I.ok,I.os,I.bare,I.base,I.loc,I.cell,I.free,I.kA,λp hp=>(List.mem_append.mp hp).elim (λz=>I.pin p (List.mem_append_left _ z)) (h p),I.hok,I.len⟩
theorem uz{N:List Str}(hN:N.Nodup){i j:Nat}{x:Str}(a:N[i]?=some x)(b:N[j]?=some x):i=j:=by
 obtain⟨h1,e1⟩:=List.getElem?_eq_some_iff.mp a
 obtain⟨h2,e2⟩:=List.getElem?_eq_some_iff.mp b
 exact(List.getElem_inj hN).mp (e1.trans e2.symm)
theorem qV{M:Model}{A:Around}{E:Value->Shared->Prop}{i:Nat}{x:Str}{v:V}{u:Value}{Q:Unit->Shared->Prop}(I:Inv X pins σ H s)(hN:X.N.Nodup)(hi:X.N[i]?=some x)(hx:Loc X.env.scope x)(r:RelV v u)
  (h:∀s',Inv X pins (σ.set i (some v)) H s'->(∃a,Heap.SameBut a s.heap s'.heap/\(a=X.env.locals∨X.env.cells.lookup x=some a))->Q () s') (hf:X.fn x=true∨X.env.scope.names.lookup x=some .local:=by first|exact .inl rfl|exact .inr rfl|assumption):wpAny M A (storeName X.env x u) Q E s:=by
 obtain⟨m,hn,hl⟩:=id I.loc
 have Nj:(X.env.scope.kind==.class || (X.env.scope.kind==.module && X.env.locals != X.env.globals))=false:=by rw[I.ok.kind];rfl
 have hiσ:i<σ.length:=by rw[I.len];exact(List.getElem?_eq_some_iff.mp hi).1
 have cne:=I.cne
 have tracked:∀{a:Addr}{h':Heap},(∃o,s.heap.get? a=some o/\H a=none)->Heap.SameBut a s.heap h'->HOk X.prog X.w H h':=λ{a h'} ha hs b ob e=>by
  obtain⟨_,_,Hw⟩:=ha
  refine(I.hok b ob e).uy (λc w' hc q=>(hs.2 c ?_).trans q) (λ_ q=>q) λ_ _ q=>q
  rintro rfl
  rcases hc with rfl|hc
  ·rw[Hw] at e;cases e
  ·rw[Hw] at hc;cases hc
 rcases hx with hk|hk
 ·refine wpAny_storeName_local hk hn (λh' hn' hs=>?_) Nj
  obtain⟨oL,_,_,hoL,_⟩:=id hn
  refine h _ ⟨I.ok,I.os,I.bare,⟨λb o e n hb hx=>?_,λb o e n hb hx=>?_,I.base.free,λb o e hx=>?_,I.base.qy,I.base.dq,I.base.qA⟩,⟨_,hn',λj y v' e1 e2 e3=>?_⟩,λy c e=>?_,I.free,I.kA,λp hp=>?_,tracked ⟨oL,hoL,I.free⟩ hs,by simpa using I.len⟩ ⟨_,hs,.inl rfl⟩
  ·exact(hs.2 b (Nat.ne_of_lt (Nat.lt_of_lt_of_le (Heap.lt_size e) I.ok.above))).trans (I.base.keep b o e n hb hx)
  ·obtain⟨sl,e1⟩:=I.base.slot b o e n hb hx
   exact⟨sl,(hs.2 b (Nat.ne_of_lt (Nat.lt_of_lt_of_le (Heap.lt_size e) I.ok.above))).trans e1⟩
  ·obtain⟨o',e1⟩:=I.base.there b o e hx
   exact⟨o',(hs.2 b (Nat.ne_of_lt (Nat.lt_of_lt_of_le (Heap.lt_size e) I.ok.above))).trans e1⟩
  ·by_cases hj:j=i
   ·subst hj
    rw[hi] at e1;cases e1
    rw[List.getElem?_set_self hiσ] at e2
    cases e2
    exact⟨u,r,.inl ⟨hk,by simp⟩⟩
   ·rw[List.getElem?_set_ne (Ne.symm hj)] at e2
    obtain⟨u',r',q⟩:=hl j y v' e1 e2 e3
    refine⟨u',r',?_⟩
    rcases q with ⟨k,e⟩|⟨k,c,e,z⟩
    ·refine .inl ⟨k,?_⟩
     have:y≠x:=λe=>hj (uz hN e1 (e ▸ hi))
     simp[this,e]
    ·exact .inr ⟨k,c,e,z.sameBut hs (cne y c e)⟩
  ·obtain⟨w',z⟩:=I.cell y c e
   exact⟨w',z.sameBut hs (cne y c e)⟩
  ·obtain⟨e,n,ne,nf,d⟩:=I.pin p hp
   exact⟨(hs.2 p.1 ne).trans e,n,ne,nf,d⟩
 ·have hfn:X.fn x=true:=by
   rcases hf with z|z
   ·exact z
   ·rw[z] at hk;cases hk
  obtain⟨c,hc⟩:=I.ok.has x (.inl hk)
  obtain⟨w',z⟩:=I.cell x c hc
  refine wpAny_storeName_cell I.ok.kind hk hc z (λh' hc' hs=>?_)
  obtain⟨oc,hoc,Nk⟩:=id z
  refine h { s with heap:=h' } ⟨I.ok,I.os,I.bare,⟨λb o e n hb hx=>?_,λb o e n hb hx=>?_,I.base.free,λb o e hx=>?_,I.base.qy,I.base.dq,I.base.qA⟩,⟨m,hn.sameBut hs (Ne.symm (cne x c hc)),λj y v' e1 e2 e3=>?_⟩,λy c' e=>?_,I.free,I.kA,λp hp=>?_,tracked ⟨oc,hoc,I.kA x c hc⟩ hs,by simpa using I.len⟩ ⟨c,hs,.inr hc⟩
  ·exact(hs.2 b (Nat.ne_of_lt (Nat.lt_of_lt_of_le (Heap.lt_size e) (I.ok.cab x c hfn hc)))).trans (I.base.keep b o e n hb hx)
  ·obtain⟨sl,e1⟩:=I.base.slot b o e n hb hx
   exact⟨sl,(hs.2 b (Nat.ne_of_lt (Nat.lt_of_lt_of_le (Heap.lt_size e) (I.ok.cab x c hfn hc)))).trans e1⟩
  ·obtain⟨o',e1⟩:=I.base.there b o e hx
   exact⟨o',(hs.2 b (Nat.ne_of_lt (Nat.lt_of_lt_of_le (Heap.lt_size e) (I.ok.cab x c hfn hc)))).trans e1⟩
  ·by_cases hj:j=i
   ·subst hj
    rw[hi] at e1;cases e1
    rw[List.getElem?_set_self hiσ] at e2
    cases e2
    exact⟨u,r,.inr ⟨.inl hk,c,hc,hc'⟩⟩
   ·rw[List.getElem?_set_ne (Ne.symm hj)] at e2
    obtain⟨u',r',q⟩:=hl j y v' e1 e2 e3
    refine⟨u',r',?_⟩
    rcases q with q|⟨k,c',e,z'⟩
    ·exact .inl q
    ·refine .inr ⟨k,c',e,z'.sameBut hs ?_⟩
     rintro rfl
     exact hj (uz hN e1 (I.ok.inj _ _ _ e hc ▸ hi))
  ·by_cases hcc:c'=c
   ·subst hcc;exact⟨_,hc'⟩
   ·obtain⟨w2,z2⟩:=I.cell y c' e
    exact⟨w2,z2.sameBut hs hcc⟩
  ·obtain⟨e,n,ne,nf,d⟩:=I.pin p hp
   refine⟨(hs.2 p.1 ?_).trans e,n,ne,nf,d⟩
   intro q
   rw[q,hoc] at e
   have q':oc=p.2:=Option.some.inj e
   exact d w' (by rw[← q'];exact Nk)
theorem uA{M:Model}{A:Around}{E:Value->Shared->Prop}{i:Nat}{x:Str}{v:V}{u:Value}{Q:Unit->Shared->Prop}(I:Inv X pins σ H s)(hN:X.N.Nodup)(hi:X.N[i]?=some x)(hx:Loc X.env.scope x)(r:RelV v u)
  (h:∀s',Inv X pins (σ.set i (some v)) H s'->Q () s') (hf:X.fn x=true∨X.env.scope.names.lookup x=some .local:=by first|exact .inl rfl|exact .inr rfl|assumption):wpAny M A (storeName X.env x u) Q E s :=
 qV I hN hi hx r (λs' I' _=>h s' I') hf
theorem Inv.La{s':Shared}{ch:List Addr}(I:Inv X pins σ H s)(ho:s'.os=s.os)(u:Un (frs X.stack) ch H H' s.heap s'.heap)(hok:HOk X.prog X.w H' s'.heap)(hg:AllBare s'.gens)
  (hch:∀b∈ch,(b∈X.ex∨X.s₀.heap.objs.size≤b)/\b≠X.env.locals/\(∀x c,X.env.cells.lookup x=some c->c≠b)/\∀p∈X.pn++pins,p.1≠b):Inv X pins σ H' s':=by
 obtain⟨h',g',d',t',o'⟩:=s'
 have e:o'=s.os:=ho
 subst e
 exact I.call (g':=g') (t':=t') (d':=d') u hok hg hch
end
abbrev XK:=Value->Option Addr->Hp->Prop
abbrev St:=List (Option V)
abbrev VK:=V->Hp->Prop
abbrev TE:=St->Hp->VK->Prop
abbrev TT:=St->Hp->(Bool->Hp->Prop)->Prop
abbrev TA:=St->Hp->(List V->Hp->Prop)->Prop
structure Ends where
 nx:St->Hp->Prop
 rt:VK
 bk:St->Hp->Prop:=λ_ _=>False
 ct:St->Hp->Prop:=λ_ _=>False
abbrev TS:=Ends->St->Hp->Prop
def EP(X:Cx)(pins:List (Addr×Obj))(σ:St)(Q:VK)(u:Value)(s':Shared):Prop:=∃v H',Inv X pins σ H' s'/\RelV v u/\Q v H'
def TP(X:Cx)(pins:List (Addr×Obj))(σ:St)(Q:Bool->Hp->Prop)(b:Bool)(s':Shared):Prop:=∃H',Inv X pins σ H' s'/\Q b H'
def AP(X:Cx)(pins:List (Addr×Obj))(σ:St)(Q:List V->Hp->Prop)(us:List Value)(s':Shared):Prop:=∃vs H',Inv X pins σ H' s'/\Vals vs us/\Q vs H'
def SP(X:Cx)(pins:List (Addr×Obj))(D:Ends)(f:Flow)(s':Shared):Prop :=
 match f with
 | .next=>∃σ' H',Inv X pins σ' H' s'/\D.nx σ' H'
 | .brk=>∃σ' H',Inv X pins σ' H' s'/\D.bk σ' H'
 | .cont=>∃σ' H',Inv X pins σ' H' s'/\D.ct σ' H'
 | .ret u=>∃v σ' H',Inv X pins σ' H' s'/\RelV v u/\D.rt v H'
def PE(X:Cx)(e:Expr)(t:TE):Prop :=
 ∀(pins:List (Addr×Obj)) (s:Shared) (σ:St) (H:Hp) (Q:VK),Inv X pins σ H s->t σ H Q->wpAny (model X.prog X.w) X.A (eval e X.env) (EP X pins σ Q) X.xe s
def PT(X:Cx)(e:Expr)(t:TT):Prop :=
 ∀(pins:List (Addr×Obj)) (s:Shared) (σ:St) (H:Hp) (Q:Bool->Hp->Prop),Inv X pins σ H s->t σ H Q->wpAny (model X.prog X.w) X.A (isTrue e X.env (eval e X.env)) (TP X pins σ Q) X.xe s
def PW(X:Cx)(e:Expr)(t:TT):Prop :=
 ∀(whole:Sem Value) (pins:List (Addr×Obj)) (s:Shared) (σ:St) (H:Hp) (Q:Bool->Hp->Prop),Inv X pins σ H s->t σ H Q->wpAny (model X.prog X.w) X.A (isTrue e X.env whole) (TP X pins σ Q) X.xe s
theorem PW.pt{X:Cx}{e:Expr}{t:TT}(h:PW X e t):PT X e t:=h _
def PA(X:Cx)(es:List Expr)(t:TA):Prop :=
 ∀(pos:Pos) (pins:List (Addr×Obj)) (s:Shared) (σ:St) (H:Hp) (Q:List V->Hp->Prop),Inv X pins σ H s->t σ H Q->wpAny (model X.prog X.w) X.A (spliced (backTo pos (starEach es X.env))) (AP X pins σ Q) X.xe s
def PS(X:Cx)(st:Stmt)(t:TS):Prop :=
 ∀(pins:List (Addr×Obj)) (s:Shared) (σ:St) (H:Hp) (D:Ends),Inv X pins σ H s->t D σ H->wpAny (model X.prog X.w) X.A (exec st X.env) (SP X pins D) X.xe s
def PSs(X:Cx)(st:List Stmt)(t:TS):Prop :=
 ∀(pins:List (Addr×Obj)) (s:Shared) (σ:St) (H:Hp) (D:Ends),Inv X pins σ H s->t D σ H->wpAny (model X.prog X.w) X.A (execs st X.env) (SP X pins D) X.xe s
theorem thn{α:Type}{t:Sem α}{Q Q':α->Shared->Prop}{M:Model}{A:Around}{E:Value->Shared->Prop}{s:Shared}(h:wpAny M A t Q E s)(hQ:∀a s,Q a s->Q' a s):wpAny M A t Q' E s:=wpAny_mono h hQ λ_ _ x=>x
section
variable{X:Cx}
theorem bin{a b:Expr}{ta tb:TE}(ha:PE X a ta)(hb:PE X b tb){pins:List (Addr×Obj)}{s:Shared}{σ:St}{H:Hp}{R:V->V->Hp->Prop}(I:Inv X pins σ H s)(h:ta σ H λx H1=>tb σ H1 λy H2=>R x y H2)
  {α:Type}{Q:α->Shared->Prop}{f:Value->Value->Sem α}
  (hf:∀v u s2 x y H2,Inv X pins σ H2 s2->RelV x v->RelV y u->R x y H2->wpAny (model X.prog X.w) X.A (f v u) Q X.xe s2) :
  wpAny (model X.prog X.w) X.A (eval a X.env) (λv s₁=>wpAny (model X.prog X.w) X.A (eval b X.env) (λu s₂=>wpAny (model X.prog X.w) X.A (f v u) Q X.xe s₂) X.xe s₁) X.xe s:=by
 refine thn (ha pins s σ H _ I h) λv s1 aj=>?_
 obtain⟨x,H1,I1,r1,q1⟩:=aj
 refine thn (hb pins s1 σ H1 _ I1 q1) λu s2 b9=>?_
 obtain⟨y,H2,I2,r2,q2⟩:=b9
 exact hf v u s2 x y H2 I2 r1 r2 q2
def Lb(i:Nat):TE:=λσ H Q=>∃v,σ[i]?=some (some v)/\Q v H
def tC(v:V):TE:=λ_ H Q=>Q v H
theorem sC{i:Nat}{x:Str}{pos:Pos}(hN:X.N[i]?=some x)(hv:Vis X.env.scope x)(hd:(x==("__debug__":Str))=false:=by decide)(hcd:(x==("__classdict__":Str))=false:=by decide):PE X (.Name x pos) (Lb i):=by
 intro pins s σ H Q I h
 obtain⟨v,e,h⟩:=h
 obtain⟨m,hn,hl⟩:=I.loc
 obtain⟨u,r,l⟩:=hl i x v hN e hv
 have fin:EP X pins σ Q u s:=⟨v,H,I,r,h⟩
 rcases l with ⟨hk,hm⟩|⟨hk,c,hc,qW⟩
 ·exact wpAny_Name (wpAny_loadName_local I.ok.kind hk hn hm fin) hd
 ·rcases hk with hk|hk
  ·exact wpAny_Name (wpAny_loadName_cell I.ok.kind hk hc qW fin) hd
  ·exact wpAny_Name (wpAny_loadName_free I.ok.kind hk hc qW fin hcd) hd
theorem BC{i j pos}:PE X (.Constant (.int i) j pos) (tC (.int i)):=λ_ _ _ H _ I h=>wpAny_Constant_int ⟨.int i,H,I.tok _,⟨_,rfl⟩,h⟩
theorem Lc{b j pos}:PE X (.Constant (.bool b) j pos) (tC (.bl b)):=λ_ _ _ H _ I h=>Constant_bool ⟨.bl b,H,I,rfl,h⟩
theorem Ih{j pos}:PE X (.Constant .none j pos) (tC .non):=λ_ _ _ H _ I h=>Constant_none ⟨.non,H,I,rfl,h⟩
theorem Ii{x j pos}:PE X (.Constant (.str x) j pos) (tC (.str x)):=λ_ _ _ H _ I h=>Calls.Constant_str ⟨.str x,H,I.tok _,⟨_,rfl⟩,h⟩
def Gl(X:Cx)(x:Str):Prop:=X.env.kindOf x=some .globalImplicit
theorem yi{E:Value->Shared->Prop}{pins:List (Addr×Obj)}{s:Shared}{σ:St}{H:Hp}{x:Str}{u:Value}{pos:Pos}{Q:Value->Shared->Prop}(I:Inv X pins σ H s)(hg:Gl X x)(hm:X.mg x=some u)(h:Q u s)
  (hd:(x==("__debug__":Str))=false:=by decide):wpAny (model X.prog X.w) X.A (eval (.Name x pos) X.env) Q E s :=
 Calls.Name_function_global I.ok.kind hg (Calls.loadGlobal_global (by rw[I.ok.glob];exact I.mod.glob.keeps I.bk) hm h) hd
theorem fA{E:Value->Shared->Prop}{pins:List (Addr×Obj)}{s:Shared}{σ:St}{H:Hp}{x:Str}{u:Value}{pos:Pos}{Q:Value->Shared->Prop}(I:Inv X pins σ H s)(hg:Gl X x)(hm:X.mg x=none)(hv:bootBuiltins x=some u)(h:Q u s)
  (hn:x≠"__name__":=by decide) (hd:(x==("__debug__":Str))=false:=by decide):wpAny (model X.prog X.w) X.A (eval (.Name x pos) X.env) Q E s:=by
 obtain⟨mb,h1,h2⟩:=I.mod.blt
 exact Calls.Name_function_global I.ok.kind hg (Calls.loadGlobal_builtin (by rw[I.ok.glob];exact I.mod.glob.keeps I.bk) hm (by rw[I.ok.blt];exact h1.keeps I.bk) ((h2 x hn).trans hv) h) hd
theorem EY{x:Str}{v:V}{u:Value}{pos:Pos}(hg:Gl X x)(hm:X.mg x=some u)(r:RelV v u)(hd:(x==("__debug__":Str))=false:=by decide):PE X (.Name x pos) (tC v) :=
 λ_ _ _ H _ I h=>yi I hg hm ⟨v,H,I,r,h⟩ hd
theorem EZ{x:Str}{v:V}{u:Value}{pos:Pos}(hg:Gl X x)(hm:X.mg x=none)(hv:bootBuiltins x=some u)(r:RelV v u)(hn:x≠"__name__":=by decide)(hd:(x==("__debug__":Str))=false:=by decide):PE X (.Name x pos) (tC v) :=
 λ_ _ _ H _ I h=>fA I hg hm hv ⟨v,H,I,r,h⟩ hn hd
variable{a b:Expr}{ta tb:TE}{pos:Pos}
def PC(X:Cx)(op:CmpOp)(a b:Expr)(t:TE):Prop :=
 ∀(pins:List (Addr×Obj)) (s:Shared) (σ:St) (H:Hp) (Q:VK),Inv X pins σ H s->t σ H Q ->
  wpAny (model X.prog X.w) X.A (eval a X.env) (λv s₁=>wpAny (model X.prog X.w) X.A (eval b X.env) (λu s₂=>wpAny (model X.prog X.w) X.A (compareOp op v u) (EP X pins σ Q) X.xe s₂) X.xe s₁) X.xe s
theorem BE(b:Expr){op:CmpOp}(h:op≠.In)(h2:op≠.NotIn):behindInMarks op b=false:=by
 have e1:(op==CmpOp.In)=false:=by cases op<;>first|rfl|exact absurd rfl h
 have e2:(op==CmpOp.NotIn)=false:=by cases op<;>first|rfl|exact absurd rfl h2
 cases b<;>simp[behindInMarks,e1,e2]
def tB(t:TE):TT:=λσ H Q=>t σ H λx H1=>∃c,x=.bl c/\Q c H1
theorem Nl{op:CmpOp}{t:TE}(h:PC X op a b t)(h1:behindInMarks op b=false:=by first|exact BE _ (by decide) (by decide)|rfl):PT X (.Compare a [op] [b] pos) (tB t):=by
 intro pins s σ H Q I hw
 refine wpAny_isTrue_Compare1 (thn (h pins s σ H _ I hw) λv s1 h1=>thn h1 λu s2 h2=>thn h2 λc s3 aj=>?_) h1
 obtain⟨x,H1,I1,r1,q1⟩:=aj
 obtain⟨d,rfl,q⟩:=q1
 cases r1
 exact wpAny_truthy_bool ⟨H1,I1,q⟩
theorem Ij{e:Expr}{t:TE}(h:PE X e t)(he:∀whole,isTrue e X.env whole=(do let v ← whole;standAt e.pos;holding [v] (truthy v)):=by intro _;rfl):PT X e (tB t):=by
 intro pins s σ H Q I hw
 refine isTrue_plain (thn (h pins s σ H _ I hw) λv s1 aj=>?_) (he _)
 obtain⟨x,H1,I1,r1,q1⟩:=aj
 obtain⟨d,rfl,q⟩:=q1
 cases r1
 exact wpAny_truthy_bool ⟨H1,I1,q⟩
variable{tA tB':TT}{rest:List Expr}
def Nm(t u:TT):TT:=λσ H Q=>t σ H λc H1=>if c=true then u σ H1 Q else Q false H1
def tOr(t u:TT):TT:=λσ H Q=>t σ H λc H1=>if c=true then Q true H1 else u σ H1 Q
def Nn(t:TT):TT:=λσ H Q=>t σ H λc H1=>Q (!c) H1
theorem E1(ha:PT X a tA):PW X (.BoolOp .And [a] pos) tA:=by
 intro wh pins s σ H Q I h
 refine isTrue_and (thn (ha pins s σ H Q I h) λc s1 e=>?_)
 cases c with
 | true=>exact isTrue_and_nil e
 | false=>exact e
theorem Ik(ha:PT X a tA):PW X (.BoolOp .Or [a] pos) tA:=by
 intro wh pins s σ H Q I h
 refine isTrue_or (thn (ha pins s σ H Q I h) λc s1 e=>?_)
 cases c with
 | false=>exact isTrue_or_nil e
 | true=>exact e
theorem Il(ha:PT X a tA)(hb:PW X (.BoolOp .And (b::rest) pos) tB'):PW X (.BoolOp .And (a::b::rest) pos) (Nm tA tB'):=by
 intro wh pins s σ H Q I h
 refine isTrue_and (thn (ha pins s σ H _ I h) λc s1 aj=>?_)
 obtain⟨H1,I1,q1⟩:=aj
 cases c with
 | true=>exact hb wh pins s1 σ H1 Q I1 q1
 | false=>exact⟨H1,I1,q1⟩
theorem Le(ha:PT X a tA)(hb:PW X (.BoolOp .Or (b::rest) pos) tB'):PW X (.BoolOp .Or (a::b::rest) pos) (tOr tA tB'):=by
 intro wh pins s σ H Q I h
 refine isTrue_or (thn (ha pins s σ H _ I h) λc s1 aj=>?_)
 obtain⟨H1,I1,q1⟩:=aj
 cases c with
 | true=>exact⟨H1,I1,q1⟩
 | false=>exact hb wh pins s1 σ H1 Q I1 q1
theorem Im(ha:PT X a tA):PT X (.UnaryOp .Not a pos) (Nn tA):=by
 intro pins s σ H Q I h
 exact isTrue_not (ha pins s σ H (λc H1=>Q (!c) H1) I h)
def Lf(ta tb:TE):TE:=λσ H Q=>ta σ H λx H1=>∃c,x=.bl c/\if c=true then tb σ H1 Q else Q (.bl false) H1
def Lg(ta:TE):TE:=λσ H Q=>ta σ H λx H1=>∃c,x=.bl c/\Q (.bl (!c)) H1
theorem Io{op}{t:TE}(h:PE X a t):PE X (.BoolOp op [a] pos) t:=λpins s σ H Q I hw=>BoolOp_one (h pins s σ H Q I hw)
theorem Ip(ha:PE X a ta)(hb:PE X (.BoolOp .And (b::rest) pos) tb):PE X (.BoolOp .And (a::b::rest) pos) (Lf ta tb):=by
 intro pins s σ H Q I h
 refine BoolOp_and (thn (ha pins s σ H _ I h) λv s1 aj=>?_)
 obtain⟨x,H1,I1,r1,q1⟩:=aj
 obtain⟨c,rfl,q1⟩:=q1
 cases r1
 refine wpAny_truthy_bool ?_
 cases c with
 | true=>exact hb pins s1 σ H1 Q I1 q1
 | false=>exact⟨.bl false,H1,I1,rfl,q1⟩
theorem Iq(ha:PE X a ta):PE X (.UnaryOp .Not a pos) (Lg ta):=by
 intro pins s σ H Q I h
 refine UnaryOp_ (thn (ha pins s σ H _ I h) λv s1 aj=>?_)
 obtain⟨x,H1,I1,r1,q1⟩:=aj
 obtain⟨c,rfl,q1⟩:=q1
 cases r1
 exact not_of (wpAny_truthy_bool ⟨.bl (!c),H1,I1,rfl,q1⟩)
def tIf(t:TT)(ta tb:TE):TE:=λσ H Q=>t σ H λc H1=>if c=true then ta σ H1 Q else tb σ H1 Q
theorem BF{c:Expr}(hc:PT X c tA)(ha:PE X a ta)(hb:PE X b tb):PE X (.IfExp c a b pos) (tIf tA ta tb):=by
 intro pins s σ H Q I h
 refine wpAny_IfExp (thn (hc pins s σ H _ I h) λd s1 aj=>?_)
 obtain⟨H1,I1,q1⟩:=aj
 cases d with
 | true=>exact ha pins s1 σ H1 Q I1 q1
 | false=>exact hb pins s1 σ H1 Q I1 q1
end
def SqL(K:PySem.W.Frag)(H:Hp)(a:Addr)(xs:List V):Prop :=
 Rd H a (.lst xs) ∨
  ∃(o:Obj) (its:Array Value) (n:Nat),K.lookup a=some o/\o.cls=.type "list"/\o.dict=none/\o.data=.seq its n/\its.size≤sizeLine/\Vals xs its.toList
def SqT(K:PySem.W.Frag)(H:Hp)(a:Addr)(xs:List V):Prop :=
 H a=some (.tup xs)
def Np:Value->Option V
 | .none=>some .non
 | .bool b=>some (.bl b)
 | .int i _=>some (.int i)
 | .str x _=>some (.str x)
 | .bytes b _=>some (.byt b)
 | .float b _=>some (.flt b)
 | .ref a=>some (.ref a)
 | .type n=>some (.ty n)
 | _=>none
theorem RelV.abs{x:V}{u:Value}(r:RelV x u):Np u=some x:=by
 cases x with
 | non=>cases r;rfl
 | bl _=>cases r;rfl
 | int _=>obtain⟨t,rfl⟩:=r;rfl
 | str _=>obtain⟨t,rfl⟩:=r;rfl
 | byt _=>obtain⟨t,rfl⟩:=r;rfl
 | flt _=>obtain⟨t,rfl⟩:=r;rfl
 | ref _=>cases r;rfl
 | ty _=>cases r;rfl
theorem RelV.inj{x y:V}{u:Value}(r:RelV x u)(q:RelV y u):x=y:=Option.some.inj (r.abs.symm.trans q.abs)
theorem Vals.inj:∀{xs ys:List V}{us:List Value},Vals xs us->Vals ys us->xs=ys
 | _,_,_,.nil,.nil=>rfl
 | _,_,_,.cons r t,.cons r' t'=>by rw[r.inj r',Vals.inj t t']
section
variable{X:Cx}{pins:List (Addr×Obj)}{σ:St}{H:Hp}{s:Shared}{a:Addr}{xs ys:List V}
theorem SqL.of{K:PySem.W.Frag}(h:H a=some (.lst xs)):SqL K H a xs:=.inl (.inl h)
theorem SqT.of{K:PySem.W.Frag}(h:H a=some (.tup xs)):SqT K H a xs:=h
theorem Inv.list(I:Inv X pins σ H s)(h:SqL X.K H a xs):∃its:List Value,Vals xs its/\PlainL s.heap a its.toArray/\xs.length≤sizeLine:=by
 rcases h with h|⟨o,its,n,hk,hc,hd,hs,hz,r⟩
 ·obtain⟨z,its,n,r,e⟩:=h.ok I.hok
  exact⟨its,r,⟨_,n,e,rfl,rfl,rfl⟩,z⟩
 ·refine⟨its.toList,r,⟨o,n,I.kIn a o hk,hc,hd,by simpa using hs⟩,?_⟩
  have e:=r.length
  simp only[Array.length_toList] at e
  lia
theorem Inv.tuple(I:Inv X pins σ H s)(h:SqT X.K H a xs):∃its:List Value,Vals xs its/\IsTup s.heap a its.toArray/\xs.length≤sizeLine:=by
 obtain⟨z,its,r,p⟩:=(show cG X.prog X.w H s.heap a (.tup xs) from I.hok a _ h)
 exact⟨its,r,p,z⟩
theorem Inv.uB(I:Inv X pins σ H s)(h:SqL X.K H a xs)(h':SqL X.K H a ys):xs=ys:=by
 obtain⟨its,r,⟨o,n,e,_,_,d⟩,_⟩:=I.list h
 obtain⟨its',r',⟨o',n',e',_,_,d'⟩,_⟩:=I.list h'
 rw[e] at e';cases e'
 rw[d] at d'
 injection d' with d1 _
 have:its=its':=by simpa using congrArg Array.toList d1
 subst this
 exact r.inj r'
theorem Inv.qX(I:Inv X pins σ H s)(h:SqT X.K H a xs)(h':SqT X.K H a ys):xs=ys:=by
 obtain⟨its,r,⟨o,e,_,n,d⟩,_⟩:=I.tuple h
 obtain⟨its',r',⟨o',e',_,n',d'⟩,_⟩:=I.tuple h'
 rw[e] at e';cases e'
 rw[d] at d'
 injection d' with d1 _
 have:its=its':=by simpa using congrArg Array.toList d1
 subst this
 exact r.inj r'
end
abbrev Cx.qB(X:Cx)(E:Value->Shared->Prop):Cx:={ X with xe:=E }
abbrev Cx.nox(X:Cx):Cx:=X.qB λ_ _=>False
theorem Cx.Ok.qB{X:Cx}(ok:X.Ok)(E:Value->Shared->Prop):(X.qB E).Ok :=
 ⟨ok.mod,ok.kind,ok.glob,ok.blt,ok.above,ok.inj,ok.has,ok.cab,ok.hd,ok.frames,ok.stk,ok.exf,ok.bs,ok.bsz,ok.zM,ok.EX,ok.nQ,ok.frf⟩
theorem Cx.Ok.jc{X:Cx}{E:Value->Shared->Prop}(ok:(X.qB E).Ok):X.Ok :=
 ⟨ok.mod,ok.kind,ok.glob,ok.blt,ok.above,ok.inj,ok.has,ok.cab,ok.hd,ok.frames,ok.stk,ok.exf,ok.bs,ok.bsz,ok.zM,ok.EX,ok.nQ,ok.frf⟩
section
variable{X:Cx}{pins:List (Addr×Obj)}{σ:St}{H:Hp}{s:Shared}{E:Value->Shared->Prop}
theorem Inv.qB(I:Inv X pins σ H s)(E:Value->Shared->Prop):Inv (X.qB E) pins σ H s:=⟨I.ok.qB E,I.os,I.bare,I.base,I.loc,I.cell,I.free,I.kA,I.pin,I.hok,I.len⟩
theorem Inv.jc(I:Inv (X.qB E) pins σ H s):Inv X pins σ H s:=⟨I.ok.jc,I.os,I.bare,I.base,I.loc,I.cell,I.free,I.kA,I.pin,I.hok,I.len⟩
theorem SP.jc{D:Ends}{f:Flow}{s':Shared}(h:SP (X.qB E) pins D f s'):SP X pins D f s':=by
 cases f with
 | next=>obtain⟨σ',H',I,q⟩:=h;exact⟨σ',H',I.jc,q⟩
 | brk=>obtain⟨σ',H',I,q⟩:=h;exact⟨σ',H',I.jc,q⟩
 | cont=>obtain⟨σ',H',I,q⟩:=h;exact⟨σ',H',I.jc,q⟩
 | ret u=>obtain⟨v,σ',H',I,r,q⟩:=h;exact⟨v,σ',H',I.jc,r,q⟩
theorem PSs.nox{st:List Stmt}{t:TS}(h:PSs X.nox st t):PSs X st t:=λpins s σ H D I hw =>
 wpAny_mono (h pins s σ H D (I.qB _) hw) (λ_ _ q=>q.jc) λ_ _ z=>False.elim z
end
section
variable{X:Cx}{st:Stmt}{rest:List Stmt}{t u:TS}{e:Expr}{te:TE}{pos:Pos}
def Lh:TS:=λD σ H=>D.nx σ H
def Nq(t u:TS):TS:=λD σ H=>t { D with nx:=u D } σ H
theorem E2:PSs X [] Lh:=λ_ _ σ H _ I h=>wpAny_execs_nil ⟨σ,H,I,h⟩
theorem BG(h1:PS X st t)(h2:PSs X rest u):PSs X (st::rest) (Nq t u):=by
 intro pins s σ H D I h
 refine wpAny_execs_cons (thn (h1 pins s σ H { D with nx:=u D } I h) λf s1 q=>?_)
 cases f with
 | next =>
  obtain⟨σ',H',I',q⟩:=q
  exact h2 pins s1 σ' H' D I' q
 | ret v=>exact q
 | brk=>exact q
 | cont=>exact q
theorem E3(h1:PS X st t):PSs X [st] t:=by
 intro pins s σ H D I h
 refine wpAny_execs_cons (thn (h1 pins s σ H D I h) λf s1 q=>?_)
 cases f with
 | next=>exact wpAny_execs_nil q
 | ret v=>exact q
 | brk=>exact q
 | cont=>exact q
theorem Inv.quiet{pins:List (Addr×Obj)}{σ:St}{H:Hp}{s:Shared}(I:Inv X pins σ H s):interactive X.env=false:=by simp[interactive,I.ok.kind]
def Li(te:TE):TS:=λD σ H=>te σ H λ_ H1=>D.nx σ H1
theorem sD(he:PE X e te)(hs:swapsWith e none pos.line X.env=pure false:=by rfl):PS X (.Expr e pos) (Li te):=by
 intro pins s σ H D I h
 exact wpAny_Expr_any (thn (he pins s σ H _ I h) λv s1 ⟨x,H1,I1,r1,q1⟩=>⟨σ,H1,I1,q1⟩) I.quiet hs
def Nr(te:TE):TS:=λD σ H=>te σ H D.rt
theorem Ir(he:PE X e te):PS X (.Return (some e) pos) (Nr te):=by
 intro pins s σ H D I h
 exact wpAny_Return_some (thn (he pins s σ H _ I h) λv s1 ⟨x,H1,I1,r1,q1⟩=>⟨x,σ,H1,I1,r1,q1⟩)
def Nt(c:TT)(t u:TS):TS:=λD σ H=>c σ H λb H1=>if b=true then t D σ H1 else u D σ H1
theorem Lj{c:Expr}{a b:List Stmt}{tc:TT}(hc:PT X c tc)(ha:PSs X a t)(hb:PSs X b u):PS X (.If c a b pos) (Nt tc t u):=by
 intro pins s σ H D I h
 refine wpAny_If (thn (hc pins s σ H _ I h) λd s1 aj=>?_)
 obtain⟨H1,I1,q1⟩:=aj
 cases d with
 | true=>exact ha pins s1 σ H1 D I1 q1
 | false=>exact hb pins s1 σ H1 D I1 q1
def Iu:TS:=λ_ _ _=>False
theorem BH:PS X st Iu:=λ_ _ _ _ _ _ h=>h.elim
end
abbrev TG:=V->St->Hp->(St->Hp->Prop)->Prop
abbrev TGs:=List V->St->Hp->(St->Hp->Prop)->Prop
def PG(X:Cx)(target:Expr)(t:TG):Prop :=
 ∀(pins:List (Addr×Obj)) (s:Shared) (σ:St) (H:Hp) (v:V) (u:Value) (Q:St->Hp->Prop),Inv X pins σ H s->RelV v u->t v σ H Q ->
  wpAny (model X.prog X.w) X.A (assign target X.env u) (λ_ s'=>∃σ' H',Inv X pins σ' H' s'/\Q σ' H') X.xe s
def PGs(X:Cx)(ts:List Expr)(t:TGs):Prop :=
 ∀(pins:List (Addr×Obj)) (s:Shared) (σ:St) (H:Hp) (vs:List V) (us:List Value) (Q:St->Hp->Prop),Inv X pins σ H s->Vals vs us->t vs σ H Q ->
  wpAny (model X.prog X.w) X.A (assignInOrder ((assignEach ts X.env).map (·.2)) us) (λ_ s'=>∃σ' H',Inv X pins σ' H' s'/\Q σ' H') X.xe s
abbrev Iv:=V->V->V->Hp->(Hp->Prop)->Prop
def Lk(X:Cx)(t:Iv):Prop :=
 ∀(pins:List (Addr×Obj)) (s:Shared) (σ:St) (H:Hp) (o i v:V) (ov iv u:Value) (Q:Hp->Prop),Inv X pins σ H s->RelV o ov->RelV i iv->RelV v u->t o i v H Q ->
  wpAny (model X.prog X.w) X.A (setItem ov iv u) (λ_ s'=>∃H',Inv X pins σ H' s'/\Q H') X.xe s
section
variable{X:Cx}{pos:Pos}
def BI(i:Nat):TG:=λv σ H Q=>Q (σ.set i (some v)) H
theorem jR{i:Nat}{x:Str}(hN:X.N.Nodup)(hi:X.N[i]?=some x)(hx:Loc X.env.scope x)(hf:X.fn x=true∨X.env.scope.names.lookup x=some .local:=by first|exact .inl rfl|exact .inr rfl|assumption):PG X (.Name x pos) (BI i):=by
 intro pins s σ H v u Q I r h
 exact wpAny_assign_Name (uA I hN hi hx r (λs' I'=>⟨_,H,I',h⟩) hf)
def Nu:TGs:=λvs σ H Q=>vs=[]/\Q σ H
def Ll(t:TG)(u:TGs):TGs:=λvs σ H Q=>∃v r,vs=v::r/\t v σ H λσ' H'=>u r σ' H' Q
theorem yj:PGs X [] Nu:=by
 intro pins s σ H vs us Q I r h
 obtain⟨e,h⟩:=h
 subst e
 cases r
 exact assignInOrder_nil ⟨σ,H,I,h⟩
theorem jd{e:Expr}{es:List Expr}{t:TG}{u:TGs}(h1:PG X e t)(h2:PGs X es u)
  (hs:(assignEach (e::es) X.env).map (·.2)=assign e X.env::(assignEach es X.env).map (·.2):=by rfl):PGs X (e::es) (Ll t u):=by
 intro pins s σ H vs us Q I r h
 obtain⟨v,vr,e1,h⟩:=h
 subst e1
 cases r with
 | cons r rr =>
  rw[hs]
  refine assignInOrder_cons (thn (h1 pins s σ H _ _ _ I r h) λ_ s1 aj=>?_)
  obtain⟨σ1,H1,I1,q1⟩:=aj
  exact h2 pins s1 σ1 H1 _ _ Q I1 rr q1
def Nv(K:PySem.W.Frag)(n:Nat)(t:TGs):TG:=λv σ H Q=>∃a xs,v=.ref a/\SqT K H a xs/\xs.length=n/\t xs σ H Q
theorem BJ{es:List Expr}{k:Nat}{t:TGs}{n:Nat}(hc:X.calm=true)(h:PGs X es t)
  (hn:(assignEach es X.env).length=n:=by rfl) (hst:(assignEach es X.env).findIdx? (·.1)=none:=by rfl):PG X (.Tuple es k pos) (Nv X.K n t):=by
 intro pins s σ H v u Q I r hw
 obtain⟨a,xs,e1,hq,hl,hw⟩:=hw
 subst e1
 cases r
 obtain⟨its,rv,ht,hz⟩:=I.tuple hq
 refine assign_Tuple_tuple (I.ok.hd hc) ht (by simp[hn,← hl,rv.length]) hst λh' hx=>?_
 have I1:Inv X pins σ H { s with heap:=h' }:=I.kept (t':=s.toks) λb o e=>hx b o (Nat.ne_of_lt (Heap.lt_size e)) e
 exact h pins _ σ H xs _ Q I1 (by simpa using rv) hw
def Nw(to ti:TE)(t:Iv):TG:=λv σ H Q=>to σ H λo H1=>ti σ H1 λi H2=>t o i v H2 λH3=>Q σ H3
theorem BK{o i:Expr}{to ti:TE}{t:Iv}(ho:PE X o to)(hi:PE X i ti)(hs:Lk X t)
  (ha:∀v,assign (.Subscript o i pos) X.env v=(do
   let ov ← holding [v] (eval o X.env)
   let iv ← holding [v,ov] (eval i X.env)
   standAt pos
   holding [v,ov,iv] (setItem ov iv v)
   release [v,ov,iv] []):=by intro _;rfl):PG X (.Subscript o i pos) (Nw to ti t):=by
 intro pins s σ H v u Q I r h
 rw[ha]
 refine wpAny_bind (wpAny_holding (thn (ho pins s σ H _ I h) λov s1 aj=>?_))
 obtain⟨x,H1,I1,r1,q1⟩:=aj
 refine wpAny_bind (wpAny_holding (thn (hi pins s1 σ H1 _ I1 q1) λiv s2 b9=>?_))
 obtain⟨y,H2,I2,r2,q2⟩:=b9
 refine wpAny_bind (wpAny_standAt (wpAny_bind (wpAny_holding (thn (hs pins s2 σ H2 x y v ov iv u _ I2 r1 r2 r q2) λ_ s3 uC=>?_))))
 obtain⟨H3,I3,q3⟩:=uC
 exact wpAny_release ⟨σ,H3,I3,q3⟩
def Iw(te:TE)(g:TG):TS:=λD σ H=>te σ H λx H1=>g x σ H1 D.nx
theorem wd{tg e:Expr}{te:TE}{g:TG}(he:PE X e te)(hg:PG X tg g)(hs:swapsWithSole [tg] e pos.line X.env=pure false:=by rfl)(hw:swappedStores [tg] e X.env=pure none:=by rfl)
  (h1:(assignEach [tg] X.env).map (·.2)=[assign tg X.env]:=by rfl):PS X (.Assign [tg] e pos) (Iw te g):=by
 intro pins s σ H D I h
 refine wpAny_Assign_stores (thn (he pins s σ H _ I h) λv s1 aj=>?_) hs hw
 obtain⟨x,H1,I1,r1,q1⟩:=aj
 rw[h1]
 exact thn (hg pins s1 σ H1 x v _ I1 r1 q1) λ_ s2 q=>q
theorem Iy{i:Nat}{x:Str}{e:Expr}{te:TE}{pos':Pos}(hN:X.N.Nodup)(hi:X.N[i]?=some x)(hx:Loc X.env.scope x)(he:PE X e te)(hs:swapsWith e (some (.Name x pos')) pos.line X.env=pure false:=by rfl)(hf:X.fn x=true∨X.env.scope.names.lookup x=some .local:=by first|exact .inl rfl|exact .inr rfl|assumption) :
  PS X (.Assign [.Name x pos'] e pos) (Iw te (BI i)):=by
 intro pins s σ H D I h
 refine wpAny_Assign_Name (thn (he pins s σ H _ I h) λv s1 aj=>?_) hs
 obtain⟨y,H1,I1,r1,q1⟩:=aj
 exact uA I1 hN hi hx r1 (λs2 I2=>⟨_,H1,I2,q1⟩) hf
end
section
variable{X:Cx}{pos:Pos}
def Iz(c:TT)(tb:TS):TS:=λD σ H=>∃W:Nat->St->Hp->Prop,(∃m,W m σ H)/\∀m σ H,W m σ H ->
 c σ H λb H1=>if b=true then ∃N:St->Hp->Prop,(∀σ' H',N σ' H'->∃m',m'<m/\W m' σ' H')/\tb { D with nx:=N,ct:=N,bk:=D.nx } σ H1 else D.nx σ H1
theorem BL{c:Expr}{body:List Stmt}{tc:TT}{tb:TS}(hp:PassesOwn (model X.prog X.w) X.A X.env X.xe)(hc:PT X c tc)(hb:PSs X body tb):PS X (.While c body [] pos) (Iz tc tb):=by
 intro pins s σ H D I h
 obtain⟨W,⟨m0,w0⟩,turn⟩:=h
 refine wpAny_While (codeAny_whileLoop (λn s'=>∃σ' H',Inv X pins σ' H' s'/\W n σ' H') ?_ m0 ⟨σ,H,I,w0⟩)
 rintro n s1 ⟨σ1,H1,I1,w1⟩
 refine wpAny_passesOwn hp (thn (hc pins s1 σ1 H1 _ I1 (turn n σ1 H1 w1)) λb s2 aj=>?_)
 obtain⟨H2,I2,q2⟩:=aj
 cases b with
 | true =>
  obtain⟨N,hN,q2⟩:=q2
  rw[if_pos rfl]
  refine wpAny_passesOwn hp (thn (hb pins s2 σ1 H2 _ I2 q2) λf s3 q3=>?_)
  cases f with
  | next =>
   obtain⟨σ3,H3,I3,n3⟩:=q3
   obtain⟨m',hm,w3⟩:=hN σ3 H3 n3
   exact⟨m',hm,σ3,H3,I3,w3⟩
  | cont =>
   obtain⟨σ3,H3,I3,n3⟩:=q3
   obtain⟨m',hm,w3⟩:=hN σ3 H3 n3
   exact⟨m',hm,σ3,H3,I3,w3⟩
  | brk=>exact q3
  | ret v=>exact q3
 | false =>
  rw[if_neg Bool.false_ne_true]
  exact wpAny_execs_nil ⟨σ1,H2,I2,q2⟩
end
structure It where
 go:Nat->Hp->Prop
 yld:Nat->Hp->V->Hp->Prop
 stop:Nat->Hp->Prop
def je(X:Cx)(pins:List (Addr×Obj))(H:Hp)(b:Addr):Prop :=
 H b=none/\b≠X.env.locals/\b∉X.fs/\(b∈X.ex∨X.s₀.heap.objs.size≤b)/\(∀x c,X.env.cells.lookup x=some c->c≠b)/\∀p∈X.pn++pins,p.1≠b
theorem Inv.uD{X:Cx}{pins:List (Addr×Obj)}{σ:St}{H H':Hp}{s:Shared}{b:Addr}(I:Inv X pins σ H s)(hb:s.heap.objs.size≤b)(hn:H' b=none):je X pins H' b:=by
 refine⟨hn,Nat.ne_of_gt (Nat.lt_of_lt_of_le I.lt hb),I.Ni hb,.inr (Nat.le_trans I.sz hb),λx c e z=>?_,λp hp z=>?_⟩
 ·obtain⟨v,q⟩:=I.cell x c e
  exact absurd (Nat.lt_of_lt_of_le q.lt (by rw[z];exact hb)) (Nat.lt_irrefl _)
 ·exact absurd (Nat.lt_of_lt_of_le (Heap.lt_size (I.pin p hp).1) (by rw[z];exact hb)) (Nat.lt_irrefl _)
structure Turn(P:Program)(w:World)(K:PySem.W.Frag)(tg:Expr)(J:It)(fp:List Addr)(it:Addr)(tn:Nat->Heap->Prop):Prop where
 mem:it∈fp
 obj:∀i h,tn i h->∀b∈fp,∃o,h.get? b=some o/\∀v,o.data≠.cell v
 keep:∀i h h',tn i h->(∀b∈fp,∀o,h.get? b=some o->h'.get? b=some o)->tn i h'
 item:∀(X:Cx),X.prog=P->X.w=w->X.K=K->X.calm=true->∀(i:Nat) (pins:List (Addr×Obj)) (s:Shared) (σ:St) (H:Hp) (E:Value->Shared->Prop),Inv X pins σ H s->(∀b∈fp,je X pins H b)->tn i s.heap->J.go i H ->
  wpAny (model P w) X.A (pyNext (.ref it)) (λr s1=>∃u,r=some u /\
   wpAny (model P w) X.A (letOwnedTupleGo tg (.ref it) u) (λ_ s2=>∃x H',Inv X pins σ H' s2/\RelV x u/\J.yld i H x H'/\tn (i+1) s2.heap/\∀b∈fp,H' b=none) E s1) E s
 done:∀(X:Cx),X.prog=P->X.w=w->X.K=K->X.calm=true->∀(i:Nat) (pins:List (Addr×Obj)) (s:Shared) (σ:St) (H:Hp) (E:Value->Shared->Prop),Inv X pins σ H s->(∀b∈fp,je X pins H b)->tn i s.heap->J.stop i H ->
  wpAny (model P w) X.A (pyNext (.ref it)) (λr s1=>r=none/\Inv X pins σ H s1) E s
 self:∀(A:Around) (i:Nat) (s:Shared) (Q:Value->Shared->Prop) (E:Value->Shared->Prop),tn i s.heap->Q (.ref it) s->wpAny (model P w) A (pyIter (.ref it)) Q E s
abbrev TI:=St->Hp->(It->Hp->Prop)->Prop
def PIE(X:Cx)(pins:List (Addr×Obj))(σ:St)(tg:Expr)(R:It->Hp->Prop)(itv:Value)(s2:Shared):Prop :=
 ∃(it:Addr) (fp:List Addr) (tn:Nat->Heap->Prop) (J:It) (H':Hp),itv=.ref it/\Inv X pins σ H' s2/\Turn X.prog X.w X.K tg J fp it tn/\tn 0 s2.heap/\(∀b∈fp,je X pins H' b)/\R J H'
def PI(X:Cx)(tg iter:Expr)(wi:TI):Prop :=
 ∀(pins:List (Addr×Obj)) (s:Shared) (σ:St) (H:Hp) (R:It->Hp->Prop),Inv X pins σ H s->wi σ H R ->
  wpAny (model X.prog X.w) X.A (eval iter X.env) (λv s1=>wpAny (model X.prog X.w) X.A (pyIter v) (PIE X pins σ tg R) X.xe s1) X.xe s
theorem BM {M : Model} {A : Around} {E : Value -> Shared -> Prop} {s : Shared} {tg : Expr} {it : Addr} {u : Value} {o : Obj} {n : String} {vs : Array Value} {Q : Unit -> Shared -> Prop} (ho : s.heap.get? it = some o) (hc : o.cls = .type n) (hd : o.data = .fields vs)
    (hn : ["enumerate", "zip", "dict_itemiterator", "dict_reverseitemiterator", "odict_iterator", "itertools.zip_longest", "itertools.pairwise"].contains n = false) (hQ : Q () s) : wpAny M A (letOwnedTupleGo tg (.ref it) u) Q E s := by
  unfold letOwnedTupleGo
  cases tg <;> first
    | exact wpAny_pure hQ
    | (cases u <;> first
        | exact wpAny_pure hQ
        | (refine wpAny_bind (wpAny_load ho ?_)
           rw [hc, hd]
           show wpAny M A (if (["enumerate", "zip", "dict_itemiterator", "dict_reverseitemiterator", "odict_iterator", "itertools.zip_longest", "itertools.pairwise"].contains n && vs[0]? == some (rawInt _)) = true then _ else _) Q E s
           rw [if_neg (by intro h; rw [hn, Bool.false_and] at h; cases h)]
           exact wpAny_pure hQ))
def Itl(K:PySem.W.Frag)(a:Addr):It :=
 ⟨λi H=>∃xs x,SqL K H a xs/\xs[i]?=some x,λi H x H'=>H'=H/\∀xs,SqL K H a xs->xs[i]?=some x,λi H=>∃xs,SqL K H a xs/\xs.length≤i⟩
def Itt(K:PySem.W.Frag)(a:Addr):It :=
 ⟨λi H=>∃xs x,SqT K H a xs/\xs[i]?=some x,λi H x H'=>H'=H/\∀xs,SqT K H a xs->xs[i]?=some x,λi H=>∃xs,SqT K H a xs/\xs.length≤i⟩
def Itr(lo:Int)(n:Nat):It:=⟨λi _=>i<n,λi H x H'=>H'=H/\x=.int (lo+i),λi _=>n≤i⟩
theorem zN{P:Program}{w:World}{K:PySem.W.Frag}{tg:Expr}(a it:Addr):Turn P w K tg (Itl K a) [it] it (λi h=>h.IsListIter it a i) where
 mem:=by simp
 obj:=λi h st b hb=>by
  have e:b=it:=by simpa using hb
  subst e
  obtain⟨o,e,c,d⟩:=st
  exact⟨o,e,λv z=>by rw[d] at z;cases z⟩
 keep:=λi h h' st k=>st.at λo e=>k it (by simp) o e
 item:=by
  intro X hP hw hK hc i pins s σ H E I hf st hg
  subst hP hw hK
  obtain⟨xs,x,hq,hx⟩:=hg
  obtain⟨its,rv,p,hz⟩:=I.list hq
  obtain⟨u,hu,ru⟩:=rv.get hx
  obtain⟨f0,f1,f2,f3,f4,f5⟩:=hf it (by simp)
  refine wpAny_pyNext_list_item st p.isList (x:=u) (by simpa using hu) λh' st' sb=>?_
  have I1:Inv X pins σ H { s with heap:=h' }:=I.turned (t':=s.toks) (λb o hb e=>(sb.2 b hb).trans e) f0 f1 f3 f4 f5
  obtain⟨o,e,c,d⟩:=id st'
  exact⟨u,rfl,BM (s:={ s with heap:=h' }) e c d (by decide) ⟨x,H,I1,ru,⟨rfl,λys hy=>by rw[I.uB hy hq];exact hx⟩,st',λb hb=>(hf b hb).1⟩⟩
 done:=by
  intro X hP hw hK hc i pins s σ H E I hf st hg
  subst hP hw hK
  obtain⟨xs,hq,hx⟩:=hg
  obtain⟨its,rv,p,hz⟩:=I.list hq
  obtain⟨f0,f1,f2,f3,f4,f5⟩:=hf it (by simp)
  have hl:=rv.length
  exact wpAny_pyNext_list_end (I.ok.hd hc) st p.isList (by simp;lia) λh' eb=>⟨rfl,I.turned (t':=s.toks) (λb o hb e=>eb b o hb e) f0 f1 f3 f4 f5⟩
 self:=λ_ _ _ _ _ st h=>wpAny_pyIter_listiter st h
theorem we{P:Program}{w:World}{K:PySem.W.Frag}{tg:Expr}(a it:Addr):Turn P w K tg (Itt K a) [it] it (λi h=>h.IsTupleIter it a i) where
 mem:=by simp
 obj:=λi h st b hb=>by
  have e:b=it:=by simpa using hb
  subst e
  obtain⟨o,e,c,d⟩:=st
  exact⟨o,e,λv z=>by rw[d] at z;cases z⟩
 keep:=λi h h' st k=>st.at λo e=>k it (by simp) o e
 item:=by
  intro X hP hw hK hc i pins s σ H E I hf st hg
  subst hP hw hK
  obtain⟨xs,x,hq,hx⟩:=hg
  obtain⟨its,rv,p,hz⟩:=I.tuple hq
  obtain⟨u,hu,ru⟩:=rv.get hx
  obtain⟨f0,f1,f2,f3,f4,f5⟩:=hf it (by simp)
  refine wpAny_pyNext_tuple_item st (show s.heap.IsTuple a its.toArray from p) (x:=u) (by simpa using hu) λh' st' sb=>?_
  have I1:Inv X pins σ H { s with heap:=h' }:=I.turned (t':=s.toks) (λb o hb e=>(sb.2 b hb).trans e) f0 f1 f3 f4 f5
  obtain⟨o,e,c,d⟩:=id st'
  exact⟨u,rfl,BM (s:={ s with heap:=h' }) e c d (by decide) ⟨x,H,I1,ru,⟨rfl,λys hy=>by rw[I.qX hy hq];exact hx⟩,st',λb hb=>(hf b hb).1⟩⟩
 done:=by
  intro X hP hw hK hc i pins s σ H E I hf st hg
  subst hP hw hK
  obtain⟨xs,hq,hx⟩:=hg
  obtain⟨its,rv,p,hz⟩:=I.tuple hq
  obtain⟨f0,f1,f2,f3,f4,f5⟩:=hf it (by simp)
  have hl:=rv.length
  exact wpAny_pyNext_tuple_end (I.ok.hd hc) st (show s.heap.IsTuple a its.toArray from p) (by simp;lia) λh' eb=>⟨rfl,I.turned (t':=s.toks) (λb o hb e=>eb b o hb e) f0 f1 f3 f4 f5⟩
 self:=λ_ _ _ _ _ st h=>wpAny_pyIter_tupleiter st h
theorem wg{P:Program}{w:World}{K:PySem.W.Frag}{tg:Expr}(it:Addr)(lo:Int)(n:Nat):Turn P w K tg (Itr lo n) [it] it (λi h=>IsRangeIter h it (lo+(i:Nat)*1) ((n:Int)-(i:Nat)) 1) where
 mem:=by simp
 obj:=λi h st b hb=>by
  have e:b=it:=by simpa using hb
  subst e
  exact⟨_,st,λv z=>by
   have z':Data.fields _=Data.cell v:=z
   cases z'⟩
 keep:=λi h h' st k=>k it (by simp) _ st
 item:=by
  intro X hP hw hK hc i pins s σ H E I hf st hg
  subst hP hw hK
  obtain⟨f0,f1,f2,f3,f4,f5⟩:=hf it (by simp)
  have W:=Walks.range (prog:=X.prog) (w:=X.w) (I.ok.hd hc) it lo 1 n
  refine W.item i s _ _ hg st λv h' tk hv st' kk=>?_
  obtain⟨t,rfl⟩:=hv
  have I1:Inv X pins σ H { s with heap:=h',toks:=tk }:=I.turned (λb o hb e=>kk b o (by simpa using hb) e) f0 f1 f3 f4 f5
  refine⟨_,rfl,BM (s:={ s with heap:=h',toks:=tk }) (n:="range_iterator") st' rfl rfl (by decide) ⟨.int (lo+i),H,I1,⟨t,?_⟩,⟨rfl,rfl⟩,st',λb hb=>(hf b hb).1⟩⟩
  rw[Int.mul_one]
 done:=by
  intro X hP hw hK hc i pins s σ H E I hf st hg
  subst hP hw hK
  obtain⟨f0,f1,f2,f3,f4,f5⟩:=hf it (by simp)
  exact wpAny_pyNext_range_end (I.ok.hd hc) st (by have:n≤i:=hg;lia) λh' eb=>⟨rfl,I.turned (t':=s.toks) (λb o hb e=>eb b o hb e) f0 f1 f3 f4 f5⟩
 self:=λ_ _ _ _ _ st h=>wpAny_pyIter_rangeiter st h
section
variable{X:Cx}{tg:Expr}
theorem uE{pins:List (Addr×Obj)}{σ:St}{H:Hp}{s:Shared}{R:It->Hp->Prop}{E:Value->Shared->Prop}{lo hi:Int}{t u v:Tok}{tk:Nat}(I:Inv X pins σ H s)(h1:-(2 ^ 62)≤lo)(h2:lo<2 ^ 62)(h3:-(2 ^ 62)≤hi)(h4:hi<2 ^ 62)
  (q:R (Itr lo (hi-lo).toNat) H):wpAny (model X.prog X.w) X.A (pyIter (.ref s.heap.objs.size)) (PIE X pins σ tg R) E { s with heap:=s.heap.push { cls:=.type "range",data:=.fields #[.int lo t,.int hi u,.int 1 v] },toks:=tk }:=by
 refine wpAny_pyIter_range (IsRange.new ..) (small_one h1 h2 h3 h4) ?_
 have I1:Inv X pins σ H { s with heap:=s.heap.push { cls:=.type "range",data:=.fields #[.int lo t,.int hi u,.int 1 v] },toks:=tk }:=I.kept λb o e=>Heap.get?_push_of_some _ e
 refine⟨(s.heap.push { cls:=.type "range",data:=.fields #[.int lo t,.int hi u,.int 1 v] }).objs.size,[(s.heap.push { cls:=.type "range",data:=.fields #[.int lo t,.int hi u,.int 1 v] }).objs.size],_,_,H,rfl,
  I1.kept (t':=tk) λb o e=>Heap.get?_push_of_some _ e,wg _ lo (hi-lo).toNat,?_,λb hb=>?_,q⟩
 ·have e1:lo+((0:Nat):Int)*1=lo:=by simp
  have e2:(((hi-lo).toNat:Nat):Int)-((0:Nat):Int)=Builtin.Range.rangeSize lo hi 1:=by rw[rangeSize_one];split<;>lia
  show IsRangeIter _ _ (lo+((0:Nat):Int)*1) ((((hi-lo).toNat:Nat):Int)-((0:Nat):Int)) 1
  rw[e1,e2]
  exact Heap.get?_push_size _ rfl
 ·have e:b=(s.heap.push { cls:=.type "range",data:=.fields #[.int lo t,.int hi u,.int 1 v] }).objs.size:=by simpa using hb
  subst e
  exact I1.uD (Nat.le_refl _) (I1.hok.fresh (Nat.le_refl _))
def Lm(ta:TA):TI:=λσ H R=>ta σ H λvs H1=>∃j:Int,vs=[.int j]/\-(2 ^ 62)≤j/\j<2 ^ 62/\R (Itr 0 j.toNat) H1
def Ln(ta:TA):TI:=λσ H R=>ta σ H λvs H1=>∃i j:Int,vs=[.int i,.int j]/\(-(2 ^ 62)≤i/\i<2 ^ 62/\-(2 ^ 62)≤j/\j<2 ^ 62)/\R (Itr i (j-i).toNat) H1
theorem zO{a:Expr}{ta:TA}{p pos:Pos}(hg:Gl X "range")(hm:X.mg "range"=none)(ha:PA X [a] ta)(hs:starEach [a] X.env=[(false,eval a X.env)]:=by rfl):PI X tg (.Call (.Name "range" p) [a] [] pos) (Lm ta):=by
 intro pins s σ H R I h
 refine Call_ (fA I hg hm boot_range (PyProof.Rows.callWith_type1 (thn (ha pos pins s σ H _ I h) λus s1 aj=>?_) hs rfl))
 obtain⟨vs,H1,I1,r1,q1⟩:=aj
 obtain⟨j,e,q1,q2,q⟩:=q1
 subst e
 cases r1 with
 | cons r rr =>
  cases rr
  obtain⟨t,rfl⟩:=r
  exact call_range_1 (uE I1 (by lia) (by lia) q1 q2 (by simpa using q))
theorem zP{a b:Expr}{ta:TA}{p pos:Pos}(hg:Gl X "range")(hm:X.mg "range"=none)(ha:PA X [a,b] ta)(hs:starEach [a,b] X.env=[(false,eval a X.env),(false,eval b X.env)]:=by rfl)(hs2:starEach [b] X.env=[(false,eval b X.env)]:=by rfl) :
  PI X tg (.Call (.Name "range" p) [a,b] [] pos) (Ln ta):=by
 intro pins s σ H R I h
 refine Call_ (fA I hg hm boot_range (PyProof.Rows.callWith_type1 (thn (ha pos pins s σ H _ I h) λus s1 aj=>?_) (by rw[hs,hs2]) (by rw[hs2];rfl)))
 obtain⟨vs,H1,I1,r1,q1⟩:=aj
 obtain⟨i,j,e,⟨q1,q2,q3,q4⟩,q⟩:=q1
 subst e
 cases r1 with
 | cons r rr =>
  cases rr with
  | cons r' rr =>
   cases rr
   obtain⟨t,rfl⟩:=r
   obtain⟨t',rfl⟩:=r'
   exact call_range_2 (uE I1 q1 q2 q3 q4 q)
def Nx(wi:TI)(g:TG)(tb:TS):TS:=λD σ H=>wi σ H λJ H1=>∃W:Nat->Nat->St->Hp->Prop,(∃m,W 0 m σ H1)/\∀i m σ H,W i m σ H ->
 (J.stop i H/\D.nx σ H)∨(J.go i H/\∃N:St->Hp->Prop,(∀σ' H',N σ' H'->∃m',m'<m/\W (i+1) m' σ' H')/\∀x H',J.yld i H x H'->g x σ H' λσ2 H2=>tb { D with nx:=N,ct:=N,bk:=D.nx } σ2 H2)
def oS(fp:List Addr)(h:Heap):List (Addr×Obj):=fp.filterMap λb=>(h.get? b).map λo=>(b,o)
theorem iw{fp:List Addr}{h:Heap}{b:Addr}{o:Obj}(hb:b∈fp)(e:h.get? b=some o):(b,o)∈oS fp h:=List.mem_filterMap.mpr ⟨b,hb,by rw[e];rfl⟩
theorem zQ{fp:List Addr}{h:Heap}{p:Addr×Obj}(hp:p∈oS fp h):p.1∈fp/\h.get? p.1=some p.2:=by
 obtain⟨b,hb,e⟩:=List.mem_filterMap.mp hp
 cases q:h.get? b with
 | none=>rw[q] at e;cases e
 | some o =>
  rw[q] at e
  have e':(b,o)=p:=Option.some.inj e
  subst e'
  exact⟨hb,q⟩
theorem Inv.pinned{pins:List (Addr×Obj)}{σ:St}{H:Hp}{s:Shared}{fp:List Addr}(I:Inv X pins σ H s)(hf:∀b∈fp,je X pins H b)(ho:∀b∈fp,∃o,s.heap.get? b=some o/\∀v,o.data≠.cell v):Inv X (pins++oS fp s.heap) σ H s :=
 I.yh λp hp=>(List.mem_append.mp hp).elim (λz=>I.pin p (List.mem_append_right _ z)) λz=>by
  obtain⟨hb,e⟩:=zQ z
  obtain⟨f0,f1,f2,_⟩:=hf p.1 hb
  obtain⟨o,e',d⟩:=ho p.1 hb
  rw[e] at e';cases e'
  exact⟨e,f0,f1,f2,d⟩
theorem Inv.l3{pins pl:List (Addr×Obj)}{σ:St}{H:Hp}{s:Shared}(I:Inv X (pins++pl) σ H s):Inv X pins σ H s:=I.yh λp hp=>I.pin p (List.mem_append_right _ (List.mem_append_left _ hp))
theorem IA{iter:Expr}{body:List Stmt}{wi:TI}{g:TG}{tb:TS}{pos:Pos}(hp:PassesOwn (model X.prog X.w) X.A X.env X.xe)(hc:X.calm=true)(hi:PI X tg iter wi)(hg:PG X tg g)(hb:PSs X body tb)
  (hs:∀x,foldedSetIterable iter X.env x=pure x:=by intro _;rfl):PS X (.For tg iter body [] pos) (Nx wi g tb):=by
 intro pins s σ H D I h
 refine wpAny_For (thn (hi pins s σ H _ I h) λv s1 h1=>thn h1 λitv s2 h2=>?_) hs
 obtain⟨it,fp,tn,J,H2,e,I2,T,st2,f2,W,⟨m0,w0⟩,turn⟩:=h2
 subst e
 have wj:∀{H':Hp},(∀b∈fp,H' b=none)->∀b∈fp,je X pins H' b:=λhn b hb=>⟨hn b hb,(f2 b hb).2⟩
 refine codeAny_forLoop_any (λn s'=>∃i σ' H',Inv X pins σ' H' s'/\tn i s'.heap/\(∀b∈fp,H' b=none)/\W i n σ' H') ?_ m0 ⟨0,σ,H2,I2,st2,λb hb=>(f2 b hb).1,w0⟩
 rintro n s3 ⟨i,σ3,H3,I3,st3,fr3,w3⟩
 rcases turn i n σ3 H3 w3 with ⟨stop,qn⟩|⟨go,N,hN,step⟩
 ·refine wpAny_passesOwn hp (thn (T.done X rfl rfl rfl hc i pins s3 σ3 H3 X.xe I3 (wj fr3) st3 stop) λr s4 ⟨hr,I4⟩=>?_)
  subst hr
  exact wpAny_execs_nil ⟨σ3,H3,I4,qn⟩
 ·refine wpAny_passesOwn hp (thn (T.item X rfl rfl rfl hc i pins s3 σ3 H3 X.xe I3 (wj fr3) st3 go) λr s4 ⟨u,hr,h4⟩=>?_)
  subst hr
  refine wpAny_passesOwn hp (thn h4 λ_ s5 aj=>?_)
  obtain⟨x,H5,I5,r5,y5,st5,fr5⟩:=aj
  have I5':=I5.pinned (wj fr5) (T.obj _ _ st5)
  refine wpAny_passesOwn hp (thn (hg _ s5 σ3 H5 x u _ I5' r5 (step x H5 y5)) λ_ s6 b9=>?_)
  obtain⟨σ6,H6,I6,q6⟩:=b9
  refine wpAny_passesOwn hp (thn (hb _ s6 σ6 H6 _ I6 q6) λf s7 q7=>?_)
  have again:∀{σ7:St}{H7:Hp},Inv X (pins++oS fp s5.heap) σ7 H7 s7->N σ7 H7->∃m,m<n/\∃i σ' H',Inv X pins σ' H' s7/\tn i s7.heap/\(∀b∈fp,H' b=none)/\W i m σ' H':=λ{σ7 H7} I7 n7=>by
   obtain⟨m',hm,w7⟩:=hN σ7 H7 n7
   refine⟨m',hm,i+1,σ7,H7,I7.l3,T.keep _ _ _ st5 λb hb o e=>(I7.pin (b,o) (List.mem_append_right _ (List.mem_append_right _ (iw hb e)))).1,λb hb=>?_,w7⟩
   obtain⟨o,e,d⟩:=T.obj _ _ st5 b hb
   exact(I7.pin (b,o) (List.mem_append_right _ (List.mem_append_right _ (iw hb e)))).2.1
  cases f with
  | next=>obtain⟨σ7,H7,I7,n7⟩:=q7;exact again I7 n7
  | cont=>obtain⟨σ7,H7,I7,n7⟩:=q7;exact again I7 n7
  | brk=>obtain⟨σ7,H7,I7,q7⟩:=q7;exact⟨σ7,H7,I7.l3,q7⟩
  | ret v=>obtain⟨x7,σ7,H7,I7,r7,q7⟩:=q7;exact⟨x7,σ7,H7,I7.l3,r7,q7⟩
end
abbrev R2:=V->V->Hp->VK->Prop
def OpR(X:Cx)(f:Value->Value->Sem Value)(r:R2):Prop :=
 ∀(pins:List (Addr×Obj)) (s:Shared) (σ:St) (H:Hp) (x y:V) (v u:Value) (Q:VK),Inv X pins σ H s->RelV x v->RelV y u->r x y H Q ->
  wpAny (model X.prog X.w) X.A (f v u) (EP X pins σ Q) X.xe s
def UnR(X:Cx)(f:Value->Sem Value)(r:V->Hp->VK->Prop):Prop :=
 ∀(pins:List (Addr×Obj)) (s:Shared) (σ:St) (H:Hp) (x:V) (v:Value) (Q:VK),Inv X pins σ H s->RelV x v->r x H Q ->
  wpAny (model X.prog X.w) X.A (f v) (EP X pins σ Q) X.xe s
def cX(X:Cx)(f:Value)(r:List V->Hp->VK->Prop):Prop :=
 ∀(pins:List (Addr×Obj)) (s:Shared) (σ:St) (H:Hp) (xs:List V) (us:List Value) (Q:VK),Inv X pins σ H s->Vals xs us->r xs H Q ->
  wpAny (model X.prog X.w) X.A (call f us) (EP X pins σ Q) X.xe s
def tOp(r:R2)(ta tb:TE):TE:=λσ H Q=>ta σ H λx H1=>tb σ H1 λy H2=>r x y H2 Q
def tUn(r:V->Hp->VK->Prop)(ta:TE):TE:=λσ H Q=>ta σ H λx H1=>r x H1 Q
def rI(C:Int->Int->Prop)(g:Int->Int->V):R2:=λx y H Q=>∃i j,x=.int i/\y=.int j/\C i j/\Q (g i j) H
def rI0(g:Int->Int->V):R2:=λx y H Q=>∃i j,x=.int i/\y=.int j/\Q (g i j) H
def rU(g:Int->V):V->Hp->VK->Prop:=λx H Q=>∃i,x=.int i/\Q (g i) H
section
variable{X:Cx}{a b c:Expr}{ta tb tc:TE}{pos:Pos}
theorem IB(ha:PE X a ta)(hb:PE X b tb){pins:List (Addr×Obj)}{s:Shared}{σ:St}{H:Hp}{R:V->V->Hp->Prop}(I:Inv X pins σ H s)
  (h:ta σ H λx H1=>tb σ H1 λy H2=>R x y H2) {Q:Value->Shared->Prop}{f:Value->Value->Sem Value}
  (hf:∀v u s2 x y H2,Inv X pins σ H2 s2->RelV x v->RelV y u->R x y H2->wpAny (model X.prog X.w) X.A (f v u) Q X.xe s2) :
  wpAny (model X.prog X.w) X.A (eval a X.env) (λv s₁=>wpAny (model X.prog X.w) X.A (eval b X.env) (λu s₂=>wpAny (model X.prog X.w) X.A (f v u) Q X.xe s₂) X.xe s₁) X.xe s:=by
 refine thn (ha pins s σ H _ I h) λv s1 aj=>?_
 obtain⟨x,H1,I1,r1,q1⟩:=aj
 refine thn (hb pins s1 σ H1 _ I1 q1) λu s2 b9=>?_
 obtain⟨y,H2,I2,r2,q2⟩:=b9
 exact hf v u s2 x y H2 I2 r1 r2 q2
theorem Hx{op:Operator}{r:R2}(ho:OpR X (binaryOp op) r)(ha:PE X a ta)(hb:PE X b tb):PE X (.BinOp a op b pos) (tOp r ta tb):=by
 intro pins s σ H Q I h
 exact wpAny_BinOp (IB ha hb I h λv u s2 x y H2 I2 rx ry q=>ho pins s2 σ H2 x y v u Q I2 rx ry q)
theorem Lo{op:UnaryOp}{r:V->Hp->VK->Prop}(ho:UnR X (unaryOp op) r)(ha:PE X a ta):PE X (.UnaryOp op a pos) (tUn r ta):=by
 intro pins s σ H Q I h
 exact UnaryOp_ (thn (ha pins s σ H _ I h) λv s1 ⟨x,H1,I1,r1,q1⟩=>ho pins s1 σ H1 x v Q I1 r1 q1)
theorem opI{f:Value->Value->Sem Value}{C:Int->Int->Prop}{g:Int->Int->Int}
  (rule:∀(i j:Int) (t u:Tok) (s:Shared) (Q:Value->Shared->Prop) (E:Value->Shared->Prop),C i j->Q (.int (g i j) s.toks) { s with toks:=s.toks+1 }->wpAny (model X.prog X.w) X.A (f (.int i t) (.int j u)) Q E s) :
  OpR X f (rI C λi j=>.int (g i j)):=by
 intro pins s σ H x y v u Q I rx ry h
 obtain⟨i,j,rfl,rfl,hc,q⟩:=h
 obtain⟨t,rfl⟩:=rx
 obtain⟨t',rfl⟩:=ry
 exact rule i j t t' s _ _ hc ⟨.int (g i j),H,I.tok _,⟨_,rfl⟩,q⟩
theorem Lp{f:Value->Value->Sem Value}{g:Int->Int->Int}
  (rule:∀(i j:Int) (t u:Tok) (s:Shared) (Q:Value->Shared->Prop) (E:Value->Shared->Prop),Q (.int (g i j) s.toks) { s with toks:=s.toks+1 }->wpAny (model X.prog X.w) X.A (f (.int i t) (.int j u)) Q E s) :
  OpR X f (rI0 λi j=>.int (g i j)):=by
 intro pins s σ H x y v u Q I rx ry h
 obtain⟨i,j,rfl,rfl,q⟩:=h
 obtain⟨t,rfl⟩:=rx
 obtain⟨t',rfl⟩:=ry
 exact rule i j t t' s _ _ ⟨.int (g i j),H,I.tok _,⟨_,rfl⟩,q⟩
theorem E4{f:Value->Value->Sem Value}{g:Int->Int->Bool}
  (rule:∀(i j:Int) (t u:Tok) (s:Shared) (Q:Value->Shared->Prop) (E:Value->Shared->Prop),Q (.bool (g i j)) s->wpAny (model X.prog X.w) X.A (f (.int i t) (.int j u)) Q E s) :
  OpR X f (rI0 λi j=>.bl (g i j)):=by
 intro pins s σ H x y v u Q I rx ry h
 obtain⟨i,j,rfl,rfl,q⟩:=h
 obtain⟨t,rfl⟩:=rx
 obtain⟨t',rfl⟩:=ry
 exact rule i j t t' s _ _ ⟨.bl (g i j),H,I,rfl,q⟩
def IC(i j:Int):Prop:=0<j/\j<1073741824
def BN(i j:Int):Prop:=(-(2 ^ 64)<i/\i<2 ^ 64)∨(-(2 ^ 64)<j/\j<2 ^ 64)
theorem BN.ok{i j:Int}(h:BN i j):IntMulOk i j:=by
 rcases h with ⟨h1,h2⟩|⟨h1,h2⟩
 ·exact .of_left (intBits_le_64 h1 h2)
 ·exact .of_right (intBits_le_64 h1 h2)
theorem ID:OpR X (binaryOp .Add) (rI0 λi j=>.int (i+j)):=Lp λ_ _ _ _ _ _ _ q=>add_int q
theorem IE:OpR X (binaryOp .Sub) (rI0 λi j=>.int (i-j)):=Lp λ_ _ _ _ _ _ _ q=>sub_int q
theorem IF:OpR X (binaryOp .Mult) (rI BN λi j=>.int (i*j)):=opI λ_ _ _ _ _ _ _ hc q=>mul_int q hc.ok
theorem E5:OpR X (binaryOp .FloorDiv) (rI IC λi j=>.int (i / j)):=opI λi j _ _ _ _ _ hc q=>by
 have h1:(0:Int)<j:=hc.1
 have h2:j<1073741824:=hc.2
 exact floordiv_int (by lia) (by rw[Int.fdiv_eq_ediv_of_nonneg i (by lia)];exact q) (.inl (PyProof.noPylong_small (by lia)))
theorem IG:OpR X (binaryOp .Mod) (rI (λ_ j=>0<j) λi j=>.int (i%j)):=opI λi j _ _ _ _ _ hc q=>by
 have h1:(0:Int)<j:=hc
 exact mod_int' (by lia) (by rw[Int.fmod_eq_emod_of_nonneg i (by lia)];exact q)
theorem unI{f:Value->Sem Value}{g:Int->Int}
  (rule:∀(i:Int) (t:Tok) (s:Shared) (Q:Value->Shared->Prop) (E:Value->Shared->Prop),Q (.int (g i) s.toks) { s with toks:=s.toks+1 }->wpAny (model X.prog X.w) X.A (f (.int i t)) Q E s) :
  UnR X f (rU λi=>.int (g i)):=by
 intro pins s σ H x v Q I rx h
 obtain⟨i,rfl,q⟩:=h
 obtain⟨t,rfl⟩:=rx
 exact rule i t s _ _ ⟨.int (g i),H,I.tok _,⟨_,rfl⟩,q⟩
theorem IH:UnR X (unaryOp .USub) (rU λi=>.int (-i)):=unI λ_ _ _ _ _ q=>neg_int q
end
def Lq:V->V->Bool
 | .non,.non=>true|.non,.int _=>true|.int _,.non=>true|.non,.bl _=>true|.bl _,.non=>true|.non,.str _=>true|.str _,.non=>true
 | .int _,.int _=>true|.bl _,.bl _=>true|.str _,.str _=>true|.byt _,.byt _=>true
 | .int _,.str _=>true|.str _,.int _=>true|.bl _,.str _=>true|.str _,.bl _=>true
 | _,_=>false
def rEq:R2:=λx y H Q=>Lq x y=true/\Q (.bl (decide (x=y))) H
def rNe:R2:=λx y H Q=>Lq x y=true/\Q (.bl (!decide (x=y))) H
theorem yk{i j:Int}:decide (V.int i=V.int j)=(i==j):=by
 rw[Bool.eq_iff_iff]
 simp
theorem BO{i j:Bool}:decide (V.bl i=V.bl j)=(i==j):=by
 rw[Bool.eq_iff_iff]
 simp
theorem ou{i j:Str}:decide (V.str i=V.str j)=(i==j):=by
 rw[Bool.eq_iff_iff]
 simp
theorem ym{i j:Array UInt8}:decide (V.byt i=V.byt j)=(i.toList==j.toList):=by
 rw[Bool.eq_iff_iff]
 cases i
 cases j
 simp
section
variable{X:Cx}{a b c:Expr}{ta tb tc:TE}{pos:Pos}
theorem br{pins:List (Addr×Obj)}{σ:St}{H:Hp}{s:Shared}{Q:VK}{k k':Bool}(I:Inv X pins σ H s)(q:Q (.bl k) H)(e:k=k'):EP X pins σ Q (.bool k') s:=by
 subst e
 exact⟨.bl k,H,I,rfl,q⟩
theorem Hy:OpR X (compareOp .Eq) rEq:=by
 intro pins s σ H x y v u Q I rx ry h
 obtain⟨hs,q⟩:=h
 cases x with
 | non =>
  cases rx
  cases y with
  | non=>cases ry;exact PySem.EqNone.eq_none_none (br I q (by simp))
  | bl j=>cases ry;exact PySem.EqNone.eq_none_bool (br I q (by simp))
  | int j=>obtain⟨t',rfl⟩:=ry;exact PySem.EqNone.eq_none_int (br I q (by simp))
  | str j=>obtain⟨t',rfl⟩:=ry;exact PySem.EqNone.eq_none_str (br I q (by simp))
  | _=>exact absurd (show false=true from hs) Bool.false_ne_true
 | bl i =>
  cases rx
  cases y with
  | non=>cases ry;exact PySem.EqNone.eq_bool_none (br I q (by simp))
  | bl j=>cases ry;exact eq_bool (br I q BO)
  | str j=>obtain⟨t',rfl⟩:=ry;exact PySem.EqMixed.eq_bool_str (br I q (by simp))
  | _=>exact absurd (show false=true from hs) Bool.false_ne_true
 | int i =>
  obtain⟨t,rfl⟩:=rx
  cases y with
  | non=>cases ry;exact PySem.EqNone.eq_int_none (br I q (by simp))
  | int j=>obtain⟨t',rfl⟩:=ry;exact eq_int (br I q yk)
  | str j=>obtain⟨t',rfl⟩:=ry;exact PySem.EqMixed.eq_int_str (br I q (by simp))
  | _=>exact absurd (show false=true from hs) Bool.false_ne_true
 | str i =>
  obtain⟨t,rfl⟩:=rx
  cases y with
  | non=>cases ry;exact PySem.EqNone.eq_str_none (br I q (by simp))
  | bl j=>cases ry;exact PySem.EqMixed.eq_str_bool (br I q (by simp))
  | int j=>obtain⟨t',rfl⟩:=ry;exact PySem.EqMixed.eq_str_int (br I q (by simp))
  | str j=>obtain⟨t',rfl⟩:=ry;exact eq_str (br I q ou)
  | _=>exact absurd (show false=true from hs) Bool.false_ne_true
 | byt i =>
  obtain⟨t,rfl⟩:=rx
  cases y with
  | byt j=>obtain⟨t',rfl⟩:=ry;exact PySem.W.eq_bytes (br I q ym)
  | _=>exact absurd (show false=true from hs) Bool.false_ne_true
 | _=>cases y<;>exact absurd (show false=true from hs) Bool.false_ne_true
theorem Lr:OpR X (compareOp .NotEq) rNe:=by
 intro pins s σ H x y v u Q I rx ry h
 obtain⟨hs,q⟩:=h
 cases x with
 | non =>
  cases rx
  cases y with
  | non=>cases ry;exact PySem.EqNone.ne_none_none (br I q (by simp))
  | bl j=>cases ry;exact PySem.EqNone.ne_none_bool (br I q (by simp))
  | int j=>obtain⟨t',rfl⟩:=ry;exact PySem.EqNone.ne_none_int (br I q (by simp))
  | str j=>obtain⟨t',rfl⟩:=ry;exact PySem.EqNone.ne_none_str (br I q (by simp))
  | _=>exact absurd (show false=true from hs) Bool.false_ne_true
 | bl i =>
  cases rx
  cases y with
  | non=>cases ry;exact PySem.EqNone.ne_bool_none (br I q (by simp))
  | bl j=>cases ry;exact ne_bool (br I q (congrArg not BO))
  | str j=>obtain⟨t',rfl⟩:=ry;exact PySem.EqMixed.ne_bool_str (br I q (by simp))
  | _=>exact absurd (show false=true from hs) Bool.false_ne_true
 | int i =>
  obtain⟨t,rfl⟩:=rx
  cases y with
  | non=>cases ry;exact PySem.EqNone.ne_int_none (br I q (by simp))
  | int j=>obtain⟨t',rfl⟩:=ry;exact ne_int (br I q (congrArg not yk))
  | str j=>obtain⟨t',rfl⟩:=ry;exact PySem.EqMixed.ne_int_str (br I q (by simp))
  | _=>exact absurd (show false=true from hs) Bool.false_ne_true
 | str i =>
  obtain⟨t,rfl⟩:=rx
  cases y with
  | non=>cases ry;exact PySem.EqNone.ne_str_none (br I q (by simp))
  | bl j=>cases ry;exact PySem.EqMixed.ne_str_bool (br I q (by simp))
  | int j=>obtain⟨t',rfl⟩:=ry;exact PySem.EqMixed.ne_str_int (br I q (by simp))
  | str j=>obtain⟨t',rfl⟩:=ry;exact ne_str (br I q (congrArg not ou))
  | _=>exact absurd (show false=true from hs) Bool.false_ne_true
 | byt i =>
  obtain⟨t,rfl⟩:=rx
  cases y with
  | byt j=>obtain⟨t',rfl⟩:=ry;exact PySem.W.ne_bytes (br I q (congrArg not ym))
  | _=>exact absurd (show false=true from hs) Bool.false_ne_true
 | _=>cases y<;>exact absurd (show false=true from hs) Bool.false_ne_true
theorem Hz:OpR X (compareOp .Lt) (rI0 λi j=>.bl (decide (i<j))):=E4 λ_ _ _ _ _ _ _ q=>lt_int q
theorem Ls:OpR X (compareOp .LtE) (rI0 λi j=>.bl (decide (i≤j))):=E4 λ_ _ _ _ _ _ _ q=>le_int q
theorem Lu:OpR X (compareOp .Gt) (rI0 λi j=>.bl (decide (j<i))):=E4 λ_ _ _ _ _ _ _ q=>gt_int q
theorem HA:OpR X (compareOp .GtE) (rI0 λi j=>.bl (decide (j≤i))):=E4 λ_ _ _ _ _ _ _ q=>ge_int q
theorem II:OpR X (compareOp .Is) (λx y H Q=>y=.non/\Q (.bl (decide (x=.non))) H):=by
 intro pins s σ H x y v u Q I rx ry h
 obtain⟨rfl,q⟩:=h
 cases ry
 refine is_none_gen (br I q ?_)
 cases x<;>first
  | (cases rx;rfl)
  | (obtain⟨t,rfl⟩:=rx;rfl)
theorem OpR.or{f:Value->Value->Sem Value}{r r':R2}(h:OpR X f r)(h':OpR X f r'):OpR X f (λx y H Q=>r x y H Q∨r' x y H Q):=by
 intro pins s σ H x y v u Q I rx ry q
 rcases q with q|q
 ·exact h pins s σ H x y v u Q I rx ry q
 ·exact h' pins s σ H x y v u Q I rx ry q
theorem ix(b:Expr){op:CmpOp}(h:op≠.In:=by decide)(h2:op≠.NotIn:=by decide):behindInMarks op b=false:=by
 have e1:(op==CmpOp.In)=false:=by cases op<;>first|rfl|exact absurd rfl h
 have e2:(op==CmpOp.NotIn)=false:=by cases op<;>first|rfl|exact absurd rfl h2
 cases b<;>simp[behindInMarks,e1,e2]
theorem yn{op:CmpOp}{r:R2}(ho:OpR X (compareOp op) r)(ha:PE X a ta)(hb:PE X b tb)(hm:behindInMarks op b=false):PE X (.Compare a [op] [b] pos) (tOp r ta tb):=by
 intro pins s σ H Q I h
 exact wpAny_Compare1 (IB ha hb I h λv u s2 x y H2 I2 rx ry q=>ho pins s2 σ H2 x y v u Q I2 rx ry q) hm
def Lv(t:TE):TT:=λσ H Q=>t σ H λx H'=>∃k,x=.bl k/\Q k H'
theorem E6{op:CmpOp}{r:R2}(ho:OpR X (compareOp op) r)(ha:PE X a ta)(hb:PE X b tb)(hm:behindInMarks op b=false):PT X (.Compare a [op] [b] pos) (Lv (tOp r ta tb)):=by
 intro pins s σ H Q I h
 refine wpAny_isTrue_Compare1 (thn (ha pins s σ H _ I h) λv s1 ⟨x,H1,I1,r1,q1⟩=>thn (hb pins s1 σ H1 _ I1 q1) λu s2 ⟨y,H2,I2,r2,q2⟩ =>
  thn (ho pins s2 σ H2 x y v u _ I2 r1 r2 q2) λc s3 ⟨z,H3,I3,r3,k,e,q3⟩=>?_) hm
 subst e
 cases r3
 exact wpAny_truthy_bool ⟨H3,I3,q3⟩
def BP(r r':R2)(ta tb tc:TE):TE:=λσ H Q=>ta σ H λx H1=>tb σ H1 λy H2=>r x y H2 λz H3=>∃k,z=.bl k /\
 (if k=true then tc σ H3 λw' H4=>r' y w' H4 Q else Q (.bl false) H3)
theorem BQ{op op':CmpOp}{r r':R2}(ho:OpR X (compareOp op) r)(ho':OpR X (compareOp op') r')(ha:PE X a ta)(hb:PE X b tb)(hc:PE X c tc)
  (hm:lastMarks [op,op'] [b,c]=false:=by with_unfolding_all rfl):PE X (.Compare a [op,op'] [b,c] pos) (BP r r' ta tb tc):=by
 intro pins s σ H Q I h
 refine Compare_chain (thn (ha pins s σ H _ I h) λv s1 ⟨x,H1,I1,r1,q1⟩=>chain_link (thn (hb pins s1 σ H1 _ I1 q1) λu s2 ⟨y,H2,I2,r2,q2⟩ =>
  thn (ho pins s2 σ H2 x y v u _ I2 r1 r2 q2) λd s3 ⟨z,H3,I3,r3,k,e,q3⟩=>?_)) hm
 subst e
 cases r3
 refine wpAny_truthy_bool ?_
 cases k with
 | false=>exact ite_ff ⟨.bl false,H3,I3,rfl,q3⟩
 | true=>exact ite_tt (chain_last (thn (hc pins s3 σ H3 _ I3 q3) λw' s4 ⟨z',H4,I4,r4,q4⟩=>ho' pins s4 σ H4 y z' u w' Q I4 r2 r4 q4))
theorem mS:(sizeLine:Nat)<2 ^ 63:=by rw[sizeLine_eq];decide
theorem wk:OpR X (binaryOp .Add) (λx y H Q=>∃i j,x=.str i/\y=.str j/\i.length+j.length≤sizeLine/\Q (.str (i++j)) H):=by
 intro pins s σ H x y v u Q I rx ry h
 obtain⟨i,j,rfl,rfl,hz,q⟩:=h
 obtain⟨t,rfl⟩:=rx
 obtain⟨t',rfl⟩:=ry
 exact add_str (λt' tk=>⟨.str (i++j),H,I.tok _,⟨_,rfl⟩,q⟩) hz
theorem vals1{x:V}{us:List Value}(r:Vals [x] us):∃u,us=[u]/\RelV x u:=by
 cases r with
 | cons r1 r2=>cases r2;exact⟨_,rfl,r1⟩
theorem vals2{x y:V}{us:List Value}(r:Vals [x,y] us):∃u w',us=[u,w']/\RelV x u/\RelV y w':=by
 cases r with
 | cons r1 r2 =>
  cases r2 with
  | cons r3 r4=>cases r4;exact⟨_,_,rfl,r1,r3⟩
theorem zR(hc:X.calm=true):cX X (.builtin "max") (λxs H Q=>∃i j,xs=[.int i,.int j]/\Q (.int (if j > i then j else i)) H):=by
 intro pins s σ H xs us Q I r h
 obtain⟨i,j,rfl,q⟩:=h
 obtain⟨u,w',rfl,⟨t,rfl⟩,⟨t',rfl⟩⟩:=vals2 r
 refine max_two_ints (I.ok.hd hc) λh' tk k=>⟨_,H,I.kept k,?_,q⟩
 by_cases hj:j > i
 ·rw[if_pos hj,if_pos hj];exact⟨_,rfl⟩
 ·rw[if_neg hj,if_neg hj];exact⟨_,rfl⟩
theorem zS(hc:X.calm=true):cX X (.builtin "min") (λxs H Q=>∃i j,xs=[.int i,.int j]/\Q (.int (if j<i then j else i)) H):=by
 intro pins s σ H xs us Q I r h
 obtain⟨i,j,rfl,q⟩:=h
 obtain⟨u,w',rfl,⟨t,rfl⟩,⟨t',rfl⟩⟩:=vals2 r
 refine min_two_ints (I.ok.hd hc) λh' tk k=>⟨_,H,I.kept k,?_,q⟩
 by_cases hj:j<i
 ·rw[if_pos hj,if_pos hj];exact⟨_,rfl⟩
 ·rw[if_neg hj,if_neg hj];exact⟨_,rfl⟩
theorem zT:cX X (.type "int") (λxs H Q=>(∃i,xs=[.int i]/\Q (.int i) H)∨∃k,xs=[.bl k]/\Q (.int (if k then 1 else 0)) H):=by
 intro pins s σ H xs us Q I r h
 rcases h with ⟨i,rfl,q⟩|⟨k,rfl,q⟩
 ·obtain⟨u,rfl,t,rfl⟩:=vals1 r
  exact call_int_int ⟨.int i,H,I,⟨_,rfl⟩,q⟩
 ·obtain⟨u,rfl,r1⟩:=vals1 r
  cases r1
  exact call_int_bool ⟨.int (if k then 1 else 0),H,I.tok _,⟨_,rfl⟩,q⟩
end
section
variable{prog:Program}{w:World}{A:Around}{E:Value->Shared->Prop}{s:Shared}{K:PySem.W.Frag}{x dx C f:Addr}{mA:Str->Option Value}{name:Str}{v:Value}
end
theorem nP.some_of{v:V}{o:Option Value}(r:nP (some v) o):∃u,o=some u/\RelV v u:=by
 cases o with
 | none=>exact(show False from r).elim
 | some u=>exact⟨u,rfl,r⟩
section
variable{P:Program}{w:World}{H H':Hp}{h h':Heap}{a C dx:Addr}{fs fs':List (Str×V)}
end
section
variable{X:Cx}{pins:List (Addr×Obj)}{σ:St}{H:Hp}{s:Shared}{a C dx:Addr}{fs:List (Str×V)}{f:Str}{v:V}{A:Around}{E:Value->Shared->Prop}
theorem Inv.made(I:Inv X pins σ H s):Inv X pins σ (upd (upd H s.heap.objs.size (.own (s.heap.objs.size+1))) (s.heap.objs.size+1) (.ins C s.heap.objs.size []))
  { s with heap:=(s.heap.push PySem.W.emptyDict).push (PySem.W.instObj C s.heap.objs.size) }:=by
 have e1:(s.heap.push PySem.W.emptyDict).get? s.heap.objs.size=some PySem.W.emptyDict:=Heap.get?_push_size s.heap rfl
 have e2:((s.heap.push PySem.W.emptyDict).push (PySem.W.instObj C s.heap.objs.size)).get? (s.heap.objs.size+1)=some (PySem.W.instObj C s.heap.objs.size):=by
  have:=Heap.get?_push_size (s.heap.push PySem.W.emptyDict) (o:=PySem.W.instObj C s.heap.objs.size) rfl
  rwa [Heap.size_push] at this
 have e3:(s.heap.push PySem.W.emptyDict).Ns s.heap.objs.size (λ_=>none):=⟨PySem.W.emptyDict,#[],_,e1,rfl,(λe he=>absurd he (by simp)),λ_=>rfl⟩
 have I1:=I.laid (a:=s.heap.objs.size) (o:=.own (s.heap.objs.size+1)) (h':=s.heap.push PySem.W.emptyDict) (t':=s.toks) (λb u q=>Heap.get?_push_of_some _ q) (Nat.le_refl _) ⟨_,e1⟩
 refine I1.laid (a:=s.heap.objs.size+1) (o:=.ins C s.heap.objs.size []) (t':=s.toks) (λb u q=>Heap.get?_push_of_some _ q) (Nat.le_of_eq (Heap.size_push _ _)) ?_
 have ne:s.heap.objs.size≠s.heap.objs.size+1:=Nat.ne_of_lt (Nat.lt_succ_self _)
 refine⟨by rw[aF ne,az],Nat.zero_le _,ne,e2,λ_=>none,(Heap.Ns1.of_empty e3).at λo q=>Heap.get?_push_of_some _ q,λ_=>True.intro,λy hy=>absurd rfl hy⟩
end
section
variable{X:Cx}{o e value:Expr}{f:Str}{pos pos' cW:Pos}{ta tv:TE}
end
section
variable{X:Cx}{pins:List (Addr×Obj)}{σ:St}{H:Hp}{s:Shared}{A:Around}{E:Value->Shared->Prop}{Q:Value->Shared->Prop}{c:Value}{b:Bool}
end
structure cz(k:Nat)(A:Around):Prop where
 hd:A.handled=none
 dp:A.depth+3*k+5<recursionLimit
 un:A.units+16*k+200<cLine
theorem cz.mono{j k:Nat}{A:Around}(r:cz k A)(h:j≤k):cz j A:=⟨r.hd,by have:=r.dp;lia,by have:=r.un;lia⟩
theorem cz.deeper{k:Nat}{A:Around}(r:cz (k+1) A)(env:Env):cz k (A.deeper env) :=
 ⟨r.hd,by have:=r.dp;show A.depth+1+3*k+5<_;lia,by have:=r.un;show A.units+3+16*k+200<_;lia⟩
theorem cz.in1{k:Nat}{A:Around}(r:cz (k+1) A):cz k A.in1 :=
 ⟨r.hd,by have:=r.dp;show A.depth+3*k+5<_;lia,by have:=r.un;show A.units+1+16*k+200<_;lia⟩
theorem cz.depth{k:Nat}{A:Around}(r:cz k A):A.depth<recursionLimit:=by have:=r.dp;lia
theorem cz.units{k:Nat}{A:Around}(r:cz k A):A.units+64<cLine:=by have:=r.un;lia
def Ny:TA:=λ_ H Q=>Q [] H
def Lw(ta:TE)(tr:TA):TA:=λσ H Q=>ta σ H λx H1=>tr σ H1 λxs H2=>Q (x::xs) H2
section
variable{X:Cx}{e:Expr}{es:List Expr}{te:TE}{t:TA}{pos:Pos}
theorem wm:PA X [] Ny:=λ_ _ _ _ H Q I h=>Calls.spliced_nil ⟨[],H,I,.nil,h⟩
theorem ox(ha:PE X e te)(hr:PA X es t)(hs:starEach (e::es) X.env=(false,eval e X.env)::starEach es X.env:=by rfl):PA X (e::es) (Lw te t):=by
 intro pos pins s σ H Q I h
 rw[hs]
 show wpAny _ _ (spliced ((false,eval e X.env)::backTo pos (starEach es X.env))) _ _ s
 refine Calls.spliced_cons (thn (ha pins s σ H _ I h) λu s1 aj=>?_)
 obtain⟨x,H1,I1,r1,q1⟩:=aj
 exact thn (hr pos pins s1 σ H1 _ I1 q1) λus s2 ⟨xs,H2,I2,r2,q2⟩=>⟨x::xs,H2,I2,.cons r1 r2,q2⟩
def Nz(t:TA):TE:=λσ H Q=>t σ H λxs H1=>xs.length≤sizeLine/\∀p,H1 p=none->Q (.ref p) (upd H1 p (.tup xs))
def NA(t:TA):TE:=λσ H Q=>t σ H λxs H1=>xs.length≤sizeLine/\∀p,H1 p=none->Q (.ref p) (upd H1 p (.lst xs))
theorem BR{x1}(h:PA X es t):PE X (.Tuple es x1 pos) (Nz t):=by
 intro pins s σ H Q I hq
 refine wpAny_Tuple_spliced (thn (h pos pins s σ H _ I hq) λus s1 ⟨xs,H1,I1,r,z,q⟩=>⟨by rw[← r.length];exact z,?_⟩)
 have hf:H1 s1.heap.objs.size=none:=I1.hok.fresh (Nat.le_refl _)
 refine⟨.ref s1.heap.objs.size,upd H1 s1.heap.objs.size (.tup xs),I1.laid (t':=s1.toks) (λb u e=>Heap.get?_push_of_some _ e) (Nat.le_refl _) ?_,rfl,q _ hf⟩
 exact⟨z,us,r,⟨_,Heap.get?_push_size _ rfl,rfl,_,rfl⟩⟩
theorem BS(h:PA X es t):PE X (.List es pos) (NA t):=by
 intro pins s σ H Q I hq
 refine wpAny_List_spliced (thn (h pos pins s σ H _ I hq) λus s1 ⟨xs,H1,I1,r,z,q⟩=>⟨by rw[← r.length];exact z,?_⟩)
 have hf:H1 s1.heap.objs.size=none:=I1.hok.fresh (Nat.le_refl _)
 refine⟨.ref s1.heap.objs.size,upd H1 s1.heap.objs.size (.lst xs),I1.laid (t':=s1.toks) (λb u e=>Heap.get?_push_of_some _ e) (Nat.le_refl _) ?_,rfl,q _ hf⟩
 exact⟨z,us,0,r,Heap.get?_push_size _ rfl⟩
end
abbrev Sp:=List V->Hp->VK->XK->Prop
abbrev CXT:=List Env->Hp->Shared->XK->Value->Shared->Prop
structure wo(P:Program)(w:World)(K:PySem.W.Frag)(mg:Str->Option Value)(base:Heap)(A:Around)(outer:List Env)(s:Shared)(H:Hp):Prop where
 frames:A.frames=some outer
 mod:Mod K mg base
 bs:∀b o,base.get? b=some o->s.heap.get? b=some o/\H b=none
 bsz:base.objs.size≤s.heap.objs.size
 nQ:s.heap.FunFrames base outer
 frf:∀b∈frs outer,H b=none
 hok:HOk P w H s.heap
 bare:AllBare s.gens
def CE(outer:List Env)(P:Program)(w:World)(H:Hp)(s:Shared)(Q:VK)(u:Value)(s':Shared):Prop :=
 ∃v H',s'.os=s.os/\AllBare s'.gens/\Un (frs outer) [] H H' s.heap s'.heap/\HOk P w H' s'.heap/\RelV v u/\Q v H'
def CR(CX:CXT)(outer:List Env)(P:Program)(w:World)(H:Hp)(s:Shared)(Q:VK)(E:XK)(r:Result)(s':Shared):Prop :=
 match r with
 | .ok (.ret u)=>CE outer P w H s Q u s'
 | .ok _=>False
 | .error e=>CX outer H s E e s'
structure kj(P:Program)(w:World)(K:PySem.W.Frag)(mg:Str->Option Value)(base:Heap)(CX:CXT)(k:Nat)(f:Addr)(fd:FuncData)(ps:List Str)(sp:Sp):Prop where
 len:∀vs H Q E,sp vs H Q E->vs.length=ps.length
 run:∀(A:Around) (outer:List Env) (s:Shared) (H:Hp) (args:Args) (us:List Value) (vs:List V) (Q:VK) (E:XK),cz k A->wo P w K mg base A outer s H->BindsTo s fd args (ps.zip us)->Vals vs us->sp vs H Q E ->
  codeAny (model P w) A (.call (.ref f) args) (CR CX outer P w H s Q E) s
theorem kj.mono{P:Program}{w:World}{K:PySem.W.Frag}{mg:Str->Option Value}{base:Heap}{CX:CXT}{j k:Nat}{f:Addr}{fd:FuncData}{ps:List Str}{sp:Sp}(F:kj P w K mg base CX j f fd ps sp)(h:j≤k) :
  kj P w K mg base CX k f fd ps sp:=⟨F.len,λA outer s H args us vs Q E hr=>F.run A outer s H args us vs Q E (hr.mono h)⟩
theorem wo.in1{P:Program}{w:World}{K:PySem.W.Frag}{mg:Str->Option Value}{base:Heap}{A:Around}{outer:List Env}{s:Shared}{H:Hp}(e:wo P w K mg base A outer s H) :
  wo P w K mg base A.in1 outer s H:=⟨e.frames,e.mod,e.bs,e.bsz,e.nQ,e.frf,e.hok,e.bare⟩
section
variable{X:Cx}{pins:List (Addr×Obj)}{σ:St}{H:Hp}{s s':Shared}
theorem Inv.NB(I:Inv X pins σ H s):wo X.prog X.w X.K X.mg X.base X.A X.stack s H :=
 ⟨I.ok.frames,I.ok.mod,I.bs,Nat.le_trans I.ok.bsz I.sz,I.stack,I.yg,I.hok,I.bare⟩
theorem Inv.after{Q:VK}{u:Value}(I:Inv X pins σ H s)(h:CE X.stack X.prog X.w H s Q u s'):EP X pins σ Q u s':=by
 obtain⟨v,H',os,bare,un,hok,r,q⟩:=h
 obtain⟨hh,g,d,t,os'⟩:=s'
 obtain rfl:os'=s.os:=os
 exact⟨v,H',I.call (h':=hh) (g':=g) (d':=d) (t':=t) (ch:=[]) un hok bare (λb z=>absurd z (by simp)),r,q⟩
end
def HB(sp:Sp)(dvs:List V)(E:XK)(t:TA):TE:=λσ H Q=>t σ H λvs H1=>sp (vs++dvs) H1 Q E
def Binds(K:PySem.W.Frag)(fd:FuncData)(ps:List Str)(ds:List Value):Prop :=
 ∀(s:Shared) (us:List Value),K.In s.heap->(us++ds).length=ps.length->BindsTo s fd ⟨us,[]⟩ (ps.zip (us++ds))
theorem Binds.all{K:PySem.W.Frag}{fd:FuncData}{ps:List Str}(h:∀us:List Value,us.length=ps.length->bindArgs fd ⟨us,[]⟩=pure (ps.zip us)):Binds K fd ps []:=λs us _ hl=>by
 rw[List.append_nil] at hl ⊢
 exact .of_eq (h us hl)
def Passes(CX:CXT)(X:Cx)(E:XK):Prop:=∀(pins:List (Addr×Obj)) (σ:St) (H:Hp) (s:Shared) (e:Value) (s':Shared),Inv X pins σ H s->CX X.stack H s E e s'->X.xe e s'
section
variable{X:Cx}{CX:CXT}{k:Nat}{f C:Addr}{fd:FuncData}{ps:List Str}{sp:Sp}{dvs:List V}{ds:List Value}{E:XK}{x m:Str}{p pos apos:Pos}{e o:Expr}{es:List Expr}{ta:TE}{t:TA}
theorem IJ{pins:List (Addr×Obj)}{σ:St}{H:Hp}{s:Shared}{Q:VK}{us:List Value}{vs:List V}(F:kj X.prog X.w X.K X.mg X.base CX k f fd ps sp)(hr:cz k X.A)(hb:Binds X.K fd ps ds)(hd:Vals dvs ds)(hx:Passes CX X E)
  (I:Inv X pins σ H s) (r:Vals vs us) (h:sp (vs++dvs) H Q E):wpAny (model X.prog X.w) X.A (call (.ref f) us) (EP X pins σ Q) X.xe s:=by
 have r2:Vals (vs++dvs) (us++ds):=r.append hd
 have hl:(us++ds).length=ps.length:=by rw[← r2.length];exact F.len _ _ _ _ h
 refine wpAny_call (codeAny_mono (F.run X.A X.stack s H ⟨us,[]⟩ (us++ds) (vs++dvs) Q E hr I.NB (hb s us I.kIn hl) r2 h) λr s' hq=>?_)
 cases r with
 | error e=>exact hx pins σ H s e s' I hq
 | ok fl =>
  cases fl with
  | ret u=>exact I.after hq
  | next=>exact False.elim hq
  | brk=>exact False.elim hq
  | cont=>exact False.elim hq
theorem E7(F:kj X.prog X.w X.K X.mg X.base CX k f fd ps sp)(hr:cz k X.A)(hg:Gl X x)(hm:X.mg x=some (.ref f))(hk:PySem.W.keepIn X.K (.ref f)=true)(hb:Binds X.K fd ps ds)(hd:Vals dvs ds)(hx:Passes CX X E)
  (ha:PA X (e::es) t) (hdb:(x==("__debug__":Str))=false:=by decide) (he:starEach (e::es) X.env=(false,eval e X.env)::starEach es X.env:=by rfl) (hpl:(backTo pos (starEach es X.env)).any (·.1)=false:=by rfl) :
  PE X (.Call (.Name x p) (e::es) [] pos) (HB sp dvs E t):=by
 intro pins s σ H Q I h
 refine wpAny_Call_Name_kw (yi I hg hm ?_ hdb)
 refine PySem.W.callWith_K (h₀:=X.base) I.ok.mod.kin hk (thn (ha pos pins s σ H _ I h) λus s1 ⟨vs,H1,I1,r,q⟩=>⟨I1.kIn,?_⟩) he hpl
 exact IJ F hr hb hd hx I1 r q
end
section
variable{X:Cx}{CX:CXT}{k:Nat}{f C:Addr}{fd:FuncData}{ps ks:List Str}{sp:Sp}{E:XK}{x m:Str}{p pos apos Ob:Pos}{e o:Expr}{es:List Expr}{kws:List Keyword}{te ta:TE}{t tk:TA}{nm:Option Str}
variable{g:List Value->List Value->List Value}{gV:List V->List V->List V}
end
structure aU(N P:List Str)(sc:Scope):Prop where
 kind:sc.kind=.function
 co:sc.isCoroutine=false
 gen:sc.isGenerator=false
 nd:N.Nodup
 pre:N.take P.length=P
 par:∀x∈P,sc.names.lookup x=some .local∨sc.names.lookup x=some .cell
 IK:∀y∈sc.names,y.2≠.free
theorem qY{kindOf:Str->Option NameKind}{x:Str}:∀{binds:List (Str×Value)}{m:Str->Option Value},(∀v,(x,v)∉binds)->bindL kindOf binds m x=m x
 | [],_,_=>rfl
 | (n,v)::r,m,h=>by
  unfold bindL
  rw[qY λw hw=>h w (List.mem_cons_of_mem _ hw)]
  split
  ·have:x≠n:=by rintro rfl;exact h v List.mem_cons_self
   simp[this]
  ·rfl
theorem qZ{kindOf:Str->Option NameKind}{x:Str}:∀{binds:List (Str×Value)}{m:Str->Option Value},(∀v,(x,v)∉binds)->bindC kindOf binds m x=m x
 | [],_,_=>rfl
 | (n,v)::r,m,h=>by
  unfold bindC
  rw[qZ λw hw=>h w (List.mem_cons_of_mem _ hw)]
  split
  ·rfl
  ·have:x≠n:=by rintro rfl;exact h v List.mem_cons_self
   simp[this]
theorem q5{kindOf:Str->Option NameKind}{x:Str}{v:Value}:∀{P:List Str}{vs:List Value}{i:Nat}{m:Str->Option Value},P.Nodup->P[i]?=some x->vs[i]?=some v->kindOf x=some .local ->
  bindL kindOf (P.zip vs) m x=some v
 | [],_,_,_,_,h,_,_=>by simp at h
 | _::_,[],_,_,_,_,h,_=>by simp at h
 | p::P,w::vs,0,m,nd,h1,h2,hk=>by
  simp at h1 h2;subst h1;subst h2
  show bindL kindOf ((p,w)::P.zip vs) m p=_
  unfold bindL
  rw[qY λv hv=>(List.nodup_cons.mp nd).1 (List.of_mem_zip hv).1,if_pos hk]
  simp
 | p::P,w::vs,i+1,m,nd,h1,h2,hk=>by
  show bindL kindOf ((p,w)::P.zip vs) m x=_
  unfold bindL
  exact q5 (i:=i) (List.nodup_cons.mp nd).2 (by simpa using h1) (by simpa using h2) hk
theorem q_{kindOf:Str->Option NameKind}{x:Str}{v:Value}:∀{P:List Str}{vs:List Value}{i:Nat}{m:Str->Option Value},P.Nodup->P[i]?=some x->vs[i]?=some v->kindOf x≠some .local ->
  bindC kindOf (P.zip vs) m x=some v
 | [],_,_,_,_,h,_,_=>by simp at h
 | _::_,[],_,_,_,_,h,_=>by simp at h
 | p::P,w::vs,0,m,nd,h1,h2,hk=>by
  simp at h1 h2;subst h1;subst h2
  show bindC kindOf ((p,w)::P.zip vs) m p=_
  unfold bindC
  rw[qZ λv hv=>(List.nodup_cons.mp nd).1 (List.of_mem_zip hv).1,if_neg hk]
  simp
 | p::P,w::vs,i+1,m,nd,h1,h2,hk=>by
  show bindC kindOf ((p,w)::P.zip vs) m x=_
  unfold bindC
  exact q_ (i:=i) (List.nodup_cons.mp nd).2 (by simpa using h1) (by simpa using h2) hk
def start(N:List Str)(vs:List V):St:=vs.map some++List.replicate (N.length-vs.length) none
def wq(CX:CXT)(P:Program)(w:World)(K:PySem.W.Frag)(mg:Str->Option Value)(base:Heap)(N:List Str)(qual:Str)(scope:Scope)(f:Addr)(cd:Value)(A:Around)(outer:List Env)(s:Shared)(H:Hp)(E:XK):Cx where
 prog:=P
 w:=w
 K:=K
 mg:=mg
 base:=base
 A:=A.deeper (envOfC qual scope s.heap.objs.size f cd)
 N:=N
 s₀:=s
 H₀:=H
 env:=envOfC qual scope s.heap.objs.size f cd
 outer:=outer
 stack:=envOfC qual scope s.heap.objs.size f cd::outer
 ex:=[]
 calm:=true
 fn:=λ_=>true
 pn:=[]
 xe:=λe s'=>wpAny (model P w) (A.deeper (envOfC qual scope s.heap.objs.size f cd)) (leaving (envOfC qual scope s.heap.objs.size f cd) e) (λ_ s''=>CX outer H s E e s'') (λe' s''=>CX outer H s E e' s'') s'
theorem uF{sc:Scope}{n:Nat}{x:Str}(h:sc.names.lookup x=some .cell):∃c,(cellsFrom n sc.names []).lookup x=some c:=by
 have q:=PySem.W.cellsFrom_some sc.names n [] (.inl h)
 exact Option.isSome_iff_exists.mp q
theorem zU{CX:CXT}{P:Program}{w:World}{K:PySem.W.Frag}{mg:Str->Option Value}{base:Heap}{N ps:List Str}{qual:Str}{scope:Scope}{f:Addr}{cd:Value}{A:Around}{outer:List Env}{s s1:Shared}{H:Hp}{E:XK}{us:List Value}{vs:List V}
  (S:aU N ps scope) (hd:A.handled=none) (e0:wo P w K mg base A outer s H) (hl:vs.length=ps.length) (r:Vals vs us)
  (x:InCallC s s.heap.objs.size (bindL (envOfC qual scope s.heap.objs.size f cd).kindOf (ps.zip us) λ_=>none) (cellsFrom (s.heap.objs.size+1) scope.names []) (bindC (envOfC qual scope s.heap.objs.size f cd).kindOf (ps.zip us) λ_=>none) s1) :
  Inv (wq CX P w K mg base N qual scope f cd A outer s H E) [] (start N vs) H s1:=by
 have hpl:ps.length≤N.length:=by have:=congrArg List.length S.pre;rw[List.length_take] at this;lia
 obtain⟨h1,tk,rfl,hk⟩:=x.done
 have noA:∀b:Addr,b∉(wq CX P w K mg base N qual scope f cd A outer s H E).ex:=λb z=>absurd (show b∈([]:List Addr) from z) (by simp)
 refine⟨⟨e0.mod,S.kind,rfl,rfl,Nat.le_refl _,λy z c h1 h2=>?_,λy hy=>?_,λy c _ h=>?_,λ_=>hd,Around.frames_deeper e0.frames,.inr ⟨rfl,rfl⟩,λb z=>absurd z (noA b),e0.bs,e0.bsz,λb _ _=>noA b,λb z=>absurd z (noA b),e0.nQ,e0.frf⟩,
  rfl,e0.bare,Un.kept hk,⟨_,x.toInCall.ns,λi y v h1 h2 h3=>?_⟩,λy c h=>⟨_,x.cell y c h⟩,e0.hok.fresh (Nat.le_refl _),λy c h=>?_,λp hp=>absurd (show p∈([]:List (Addr×Obj)) from hp) (by simp),e0.hok.kept hk,?_⟩
 ·exact name_of_addr x.apart (PySem.mem_of_lookup h1) (PySem.mem_of_lookup h2)
 ·have hy:scope.names.lookup y=some .cell∨scope.names.lookup y=some .free:=hy
  rcases hy with hy|hy
  ·exact uF hy
  ·exact absurd rfl (S.IK _ (PySem.mem_of_lookup hy))
 ·exact Nat.le_of_lt (x.above y c (PySem.mem_of_lookup h))
 ·have hi:i<vs.length:=by
   unfold start at h2
   by_cases hi:i<vs.length
   ·exact hi
   ·rw[List.getElem?_append_right (by simpa using hi)] at h2
    rw[List.getElem?_replicate] at h2
    split at h2<;>cases h2
  have ha:vs[i]?=some v:=by
   unfold start at h2
   rw[List.getElem?_append_left (by simpa using hi),List.getElem?_map] at h2
   cases e:vs[i]? with
   | none=>rw[e] at h2;cases h2
   | some a=>rw[e] at h2;cases h2;rfl
  obtain⟨u,hu,rv⟩:=r.get ha
  have hp:ps[i]?=some y:=by
   rw[← S.pre,List.getElem?_take_of_lt (by lia)];exact h1
  have ndP:ps.Nodup:=by rw[← S.pre];exact S.nd.sublist (List.take_sublist _ _)
  refine⟨u,rv,?_⟩
  rcases S.par y (List.mem_of_getElem? hp) with k|k
  ·exact .inl ⟨k,q5 ndP hp hu k⟩
  ·obtain⟨c,e⟩:=uF (n:=s.heap.objs.size+1) k
   refine .inr ⟨.inl k,c,e,?_⟩
   have q:=x.cell y c e
   rw[q_ ndP hp hu (by show scope.names.lookup y≠_;rw[k];decide)] at q
   exact q
 ·exact e0.hok.fresh (Nat.le_of_lt (x.above y c (PySem.mem_of_lookup h)))
 ·unfold start
  show _=N.length
  rw[List.length_append,List.length_map,List.length_replicate]
  lia
theorem Lx{CX:CXT}{P:Program}{w:World}{K:PySem.W.Frag}{mg:Str->Option Value}{base:Heap}{k:Nat}{f:Addr}{name qual:Str}{params:Arguments}{body:List Stmt}{scope:Scope}{dV kV doc pm cdv ct oc:Value}{an od:Option Addr}
  {osl:Array (Option Value)}{N ps:List Str}{sp:Sp} (lk:K.lookup f=some ⟨oc,od,.func (PySem.W.fnOf name qual params body scope dV kV doc pm an cdv ct),osl⟩) (hcd:PySem.W.codeIn K cdv qual=true) (S:aU N ps scope)
  (len:∀vs H Q E,sp vs H Q E->vs.length=ps.length)
  (BU:∀(A:Around) (outer:List Env) (s:Shared) (H:Hp) (vs:List V) (Q:VK) (E:XK),cz k (A.deeper (envOfC qual scope s.heap.objs.size f cdv))->sp vs H Q E ->
   ∃t,PSs (wq CX P w K mg base N qual scope f cdv A outer s H E) body t/\t { nx:=λ_ H'=>Q .non H',rt:=Q } (start N vs) H) :
  kj P w K mg base CX (k+1) f (PySem.W.fnOf name qual params body scope dV kV doc pm an cdv ct) ps sp:=by
 refine⟨len,λA outer s H args us vs Q E hr e0 hb r hsp=>?_⟩
 have hl:=len _ _ _ _ hsp
 have KX:K.In s.heap:=e0.mod.kin.keeps λb o e=>(e0.bs b o e).1
 have lim:s.heap.NoLimit:=e0.mod.nolimit.keeps λb o e=>(e0.bs b o e).1
 have Ly:∀y∈ps.zip us,scope.names.lookup y.1=some .local∨(scope.names.lookup y.1=some .cell/\((cellsFrom (s.heap.objs.size+1) scope.names []).lookup y.1).isSome=true):=λaj hy=>by
  obtain⟨n,v⟩:=aj
  rcases S.par n (List.of_mem_zip hy).1 with q|q
  ·exact .inl q
  ·exact .inr ⟨q,PySem.W.cellsFrom_some _ _ _ (.inl q)⟩
 refine codeAny_call_function hr.depth (KX _ _ lk) rfl S.co S.gen rfl (PySem.W.codeRec_of KX hcd) (hb _ _ _ _ ?_)
 refine wpAny_newFunctionEnv_cells S.kind Ly λenv he s1 x=>?_
 subst he
 refine⟨lim.keeps x.toInCall.keep,codeAny_func ?_⟩
 obtain⟨t,ht,hq⟩:=BU A outer s H vs Q E (hr.deeper _) hsp
 have I:Inv (wq CX P w K mg base N qual scope f cdv A outer s H E) [] (start N vs) H s1:=zU S hr.hd e0 hl r x
 refine wpAny_mono (ht [] s1 (start N vs) H _ I hq) (λfl s' hs=>?_) λe s' hs=>hs
 have fin:∀{σ':St}{H':Hp}{v:V}{u:Value},Inv (wq CX P w K mg base N qual scope f cdv A outer s H E) [] σ' H' s'->RelV v u->Q v H'->CE outer P w H s Q u s' :=
  λ{σ' H' v u} J rv q=>⟨v,H',J.os,J.bare,J.base,J.hok,rv,q⟩
 cases fl with
 | ret u =>
  obtain⟨v,σ',H',J,rv,q⟩:=hs
  exact fin J rv q
 | next =>
  obtain⟨σ',H',J,q⟩:=hs
  exact fin (v:=V.non) (u:=Value.none) J rfl q
 | brk =>
  obtain⟨_,_,_,q⟩:=hs
  exact False.elim q
 | cont =>
  obtain⟨_,_,_,q⟩:=hs
  exact False.elim q
section
variable{X:Cx}{x:Str}{p pos:Pos}{e:Expr}{es:List Expr}{t:TA}{id T:String}{r:List V->Hp->VK->Prop}
def tCB(r:List V->Hp->VK->Prop)(t:TA):TE:=λσ H Q=>t σ H λvs H1=>r vs H1 Q
theorem l4(hc:cX X (.builtin id) r)(hg:Gl X x)(hm:X.mg x=none)(hv:bootBuiltins x=some (.builtin id))(ha:PA X (e::es) t)(hn:x≠"__name__":=by decide)(hdb:(x==("__debug__":Str))=false:=by decide)
  (he:starEach (e::es) X.env=(false,eval e X.env)::starEach es X.env:=by rfl) (hpl:(backTo pos (starEach es X.env)).any (·.1)=false:=by rfl):PE X (.Call (.Name x p) (e::es) [] pos) (tCB r t):=by
 intro pins s σ H Q I h
 refine wpAny_Call_Name_kw (fA I hg hm hv ?_ hn hdb)
 exact PyProof.Rows.callWith_builtin1 (thn (ha pos pins s σ H _ I h) λus s1 ⟨vs,H1,I1,r1,q1⟩=>hc pins s1 σ H1 vs us Q I1 r1 q1) he hpl
theorem rf(hc:cX X (.type T) r)(hg:Gl X x)(hm:X.mg x=none)(hv:bootBuiltins x=some (.type T))(ha:PA X (e::es) t)(hn:x≠"__name__":=by decide)(hdb:(x==("__debug__":Str))=false:=by decide)
  (he:starEach (e::es) X.env=(false,eval e X.env)::starEach es X.env:=by rfl) (hpl:(backTo pos (starEach es X.env)).any (·.1)=false:=by rfl):PE X (.Call (.Name x p) (e::es) [] pos) (tCB r t):=by
 intro pins s σ H Q I h
 refine wpAny_Call_Name_kw (fA I hg hm hv ?_ hn hdb)
 exact PyProof.Rows.callWith_type1 (thn (ha pos pins s σ H _ I h) λus s1 ⟨vs,H1,I1,r1,q1⟩=>hc pins s1 σ H1 vs us Q I1 r1 q1) he hpl
end
end L2
namespace HT
open PySem PyProof.Rows
section
open PySem.SeqAt
open PySem.AutoSeq1 (wpAny_loadPart')
open PySem.MeetsSeq PySem.MeetsSeq2 PySem.MeetsSeq3
end
section
variable{prog:Program}{w:World}{A:Around}{E:Value->Shared->Prop}{s:Shared}
theorem E8{t b:Addr}{vs ws:List Value}{Q:Value->Shared->Prop}(ht:IsTup s.heap t vs.toArray)(hb:IsTup s.heap b ws.toArray)(hv:vs≠[])
  (h1:ws=[]->Q (.ref t) s) (h2:ws≠[]->Q (.ref s.heap.objs.size) { s with heap:=s.heap.push { cls:=.type "tuple",data:=.seq (vs++ws).toArray } })
  (hsz:vs.length+ws.length≤sizeLine):wpAny (model prog w) A (binaryOp .Add (.ref t) (.ref b)) Q E s:=by
 obtain⟨⟨cls,dd,data,sl⟩,ho,hc,n,hd⟩:=id ht
 obtain⟨⟨Lz,dd2,data2,sl2⟩,ho2,hc2,n2,hd2⟩:=id hb
 simp only at hc hd hc2 hd2
 subst hc hd hc2 hd2
 have e:vs.toArray++ws.toArray=(vs++ws).toArray:=by simp
 by_cases hw:ws=[]
 ·exact concat_meets ⟨_,ho,rfl⟩ ⟨_,ho2,rfl⟩ noFill_tuple_add seq_tuple_add PySem.F.slot_tuple_add PySem.F.entry_tuple_add (PySem.F.args_tuple_add_2 _ _)
   (tuple_addW1 t b vs.toArray ws.toArray n n2 dd dd2 sl sl2 (by simpa using hv) (by simp[hw])) ⟨ho,ho2,h1 hw⟩
 ·refine concat_meets ⟨_,ho,rfl⟩ ⟨_,ho2,rfl⟩ noFill_tuple_add seq_tuple_add PySem.F.slot_tuple_add PySem.F.entry_tuple_add (PySem.F.args_tuple_add_2 _ _)
   (tuple_addW2 t b vs.toArray ws.toArray n n2 dd dd2 sl sl2 (by simpa using hv) (by simpa using hw) (by rw[List.size_toArray,List.size_toArray];exact hsz)) ⟨ho,ho2,?_⟩
  rw[e]
  exact h2 hw
noncomputable def sIx (n d : Nat) : Option Int -> Nat
 | none=>d
 | some v=>if v<0 then (v+(n:Int)).toNat else min v.toNat n
theorem IL(n d:Nat)(hd:d≤n)(o:Option Int):sIx n d o≤n:=by
 cases o with
 | none=>exact hd
 | some v =>
  show(if v<0 then (v+(n:Int)).toNat else min v.toNat n)≤n
  by_cases hv:v<0
  ·rw[if_pos hv];lia
  ·rw[if_neg hv];exact Nat.min_le_right _ _
theorem yo(v:Int)(n d:Nat):(if v<0 then max (v+(n:Int)) 0 else min v (n:Int))=((sIx n d (some v):Nat):Int):=by
 show(if v<0 then max (v+(n:Int)) 0 else min v (n:Int))=(((if v<0 then (v+(n:Int)).toNat else min v.toNat n):Nat):Int)
 by_cases hv:v<0
 ·simp only[if_pos hv];lia
 ·simp only[if_neg hv];lia
theorem wt(lo hi:Option Int)(n:Nat):Builtin.Slice.sliceAdjust lo hi 1 (n:Int)=(((sIx n 0 lo:Nat):Int),((sIx n n hi:Nat):Int)):=by
 have h1:¬ ((1:Int)<0):=by lia
 unfold Builtin.Slice.sliceAdjust
 simp only[h1,if_false]
 refine Prod.ext ?_ ?_
 ·cases lo with
  | none=>rfl
  | some v=>exact yo v n 0
 ·cases hi with
  | none=>rfl
  | some v=>exact yo v n n
theorem wu(i j:Nat):Builtin.Slice.slicePlaces (i:Int) (j:Int) 1=j-i:=by
 unfold Builtin.Slice.slicePlaces
 have h1:(1:Int) > 0:=by lia
 simp only[h1,if_true,Int.ediv_one]
 split<;>lia
theorem oT{v:Value}{o:Option Int}{Q:Option Int->Shared->Prop}(p:IsPart v o)(h:Q o s):wpAny (model prog w) A (Builtin.Slice.slicePartIndex v) Q E s:=by
 cases p with
 | none=>exact slicePart_none h
 | int i t=>exact slicePart_int h
theorem ia{sl:Addr}{vl vu:Value}{lo hi:Option Int}{n:Nat}{Q:Int×Int×Nat->Shared->Prop}(hs:s.heap.IsSliceOf sl vl vu .none)(pl:IsPart vl lo)(pu:IsPart vu hi)
  (h:Q (((sIx n 0 lo:Nat):Int),1,sIx n n hi-sIx n 0 lo) s):wpAny (model prog w) A (Builtin.Slice.sliceApplied (.ref sl) (pure (n:Int))) Q E s:=by
 obtain⟨os,hos,hcs,hds⟩:=id hs
 unfold Builtin.Slice.sliceApplied Builtin.Slice.sliceFields
 refine wpAny_bind (wpAny_bind (wpAny_field hos hds (x:=vl) rfl (wpAny_bind (wpAny_field hos hds (x:=vu) rfl (wpAny_bind (wpAny_field hos hds (x:=.none) rfl (wpAny_pure ?_)))))))
 refine wpAny_bind (slicePart_none ?_)
 show wpAny _ _ (if ((1:Int)==0)=true then _ else _) _ _ s
 rw[if_neg (by decide)]
 refine wpAny_bind (oT pl (wpAny_bind (oT pu (wpAny_bind (wpAny_pure ?_)))))
 show wpAny _ _ (match Builtin.Slice.sliceAdjust lo hi 1 (n:Int) with|(lo,hi)=>pure (lo,(1:Int),Builtin.Slice.slicePlaces lo hi 1)) _ _ s
 rw[wt lo hi n]
 show wpAny _ _ (pure (((sIx n 0 lo:Nat):Int),(1:Int),Builtin.Slice.slicePlaces ((sIx n 0 lo:Nat):Int) ((sIx n n hi:Nat):Int) 1)) _ _ s
 rw[wu]
 exact wpAny_pure h
theorem BV(xs:Array Value)(i k:Nat):((List.range k).filterMap λ(m:Nat)=>xs[((i:Int)+(m:Int)*1).toNat]?).toArray=((xs.toList.drop i).take k).toArray:=by
 have e:(λ(m:Nat)=>xs[((i:Int)+(m:Int)*1).toNat]?)=λm=>xs[i+m]?:=by
  funext m
  have:((i:Int)+(m:Int)*1).toNat=i+m:=by lia
  rw[this]
 rw[e]
 have:=pick_run xs i k
 rw[List.filterMap_map] at this
 have e2:((λx=>xs[x]?) ∘ λx=>i+x)=λm=>xs[i+m]?:=rfl
 rw[e2] at this
 rw[this]
theorem l5{t sl:Addr}{items:Array Value}{vl vu:Value}{lo hi:Option Int}{Q:Value->Shared->Prop}(ht:IsTup s.heap t items)(hs:s.heap.IsSliceOf sl vl vu .none)(pl:IsPart vl lo)(pu:IsPart vu hi)
  (hw:¬ (sIx items.size 0 lo=0/\sIx items.size items.size hi=items.size))
  (h:Q (.ref s.heap.objs.size) { s with heap:=s.heap.push { cls:=.type "tuple",data:=.seq ((items.toList.drop (sIx items.size 0 lo)).take (sIx items.size items.size hi-sIx items.size 0 lo)).toArray } })
  (hsz:items.size≤sizeLine):wpAny (model prog w) A (getItem (.ref t) (.ref sl)) Q E s:=by
 have yp:sizeOk (.seq ((items.toList.drop (sIx items.size 0 lo)).take (sIx items.size items.size hi-sIx items.size 0 lo)).toArray):=by
  show((items.toList.drop (sIx items.size 0 lo)).take (sIx items.size items.size hi-sIx items.size 0 lo)).toArray.size≤sizeLine
  rw[List.size_toArray,List.length_take,List.length_drop,Array.length_toList]
  lia
 have hj:sIx items.size items.size hi≤items.size:=IL _ _ (Nat.le_refl _) hi
 obtain⟨os,hos,hcs,hds⟩:=id hs
 have hTs:s.TypeIs (.ref sl) "slice":=⟨os,hos,hcs⟩
 unfold getItem
 try with_reducible refine wpAny_holding ?_
 first|refine wpAny_bind (wpAny_pure ?_)|skip
 refine wpAny_bind (wpAny_sequenceKey ht.typeIs (by decide) ?_)
 refine wpAny_bind (wpAny_callSpecial?_slot (name:=Str.ofString "__getitem__") ht.typeIs PyProof.Rows.slot_tuple_getitem
  (wpAny_call_entry PyProof.Rows.slot_tuple_getitem ht.typeIs entry_tuple_getitem ?_ (args_tuple_getitem _ _)))
 show wpAny _ _ (Builtin.Tuple.tupleItemsOf (.ref t)>>=_) _ _ s
 refine wpAny_bind (tupleItemsOf_ ht ?_)
 refine wpAny_bind (wpAny_typeOf hTs ?_)
 rw[if_pos (by decide)]
 refine wpAny_bind (ia hs pl pu ?_)
 have hno:¬ ((((sIx items.size 0 lo:Nat):Int)==0 && (1:Int)==1 && (sIx items.size items.size hi-sIx items.size 0 lo)==items.size)=true):=by
  intro q
  rw[Bool.and_eq_true,Bool.and_eq_true] at q
  have q1:((sIx items.size 0 lo:Nat):Int)=0:=eq_of_beq q.1.1
  have q2:sIx items.size items.size hi-sIx items.size 0 lo=items.size:=eq_of_beq q.2
  exact hw ⟨by lia,by lia⟩
 show wpAny _ _ (if (((sIx items.size 0 lo:Nat):Int)==0 && (1:Int)==1 && (sIx items.size items.size hi-sIx items.size 0 lo)==items.size)=true then _ else _) _ _ s
 rw[if_neg hno,BV]
 first
  | exact wpAny_bind (m:=Builtin.Tuple.tupleExact _) (wpAny_newObj_type (wpAny_pure ⟨_,rfl,wpAny_pure h⟩) yp)
  | exact wpAny_bind (m:=Builtin.Tuple.tupleExact _) (wpAny_newObj_type (wpAny_bind (wpAny_pure (wpAny_pure ⟨_,rfl,wpAny_pure h⟩))) yp)
  | exact wpAny_bind (wpAny_bind (m:=Builtin.Tuple.tupleExact _) (wpAny_newObj_type (wpAny_pure (wpAny_pure ⟨_,rfl,wpAny_pure h⟩)) yp))
  | exact wpAny_bind (wpAny_bind (m:=Builtin.Tuple.tupleExact _) (wpAny_newObj_type (wpAny_pure ⟨_,rfl,wpAny_pure h⟩) yp))
end
end HT
namespace L2
open PySem PySem.Spec PyProof.Rows
abbrev TO:=St->Hp->(Option Int->Hp->Prop)->Prop
def PO(X:Cx)(e:Option Expr)(t:TO):Prop :=
 ∀(pins:List (Addr×Obj)) (s:Shared) (σ:St) (H:Hp) (Q:Option Int->Hp->Prop),Inv X pins σ H s->t σ H Q ->
  wpAny (model X.prog X.w) X.A (evalPart e X.env) (λu s'=>∃o H',Inv X pins σ H' s'/\IsPart u o/\Q o H') X.xe s
def E9:TO:=λ_ H Q=>Q none H
def LA(t:TE):TO:=λσ H Q=>t σ H λx H1=>∃i,x=.int i/\Q (some i) H1
theorem intsAre_of{ns:List Int}:∀{us:List Value},Vals (ns.map V.int) us->IntsAre us ns:=by
 induction ns with
 | nil=>intro us r;rw[List.map_nil] at r;cases r;exact .nil
 | cons n ns ih =>
  intro us r
  rw[List.map_cons] at r
  cases r with
  | cons r1 r2 =>
   obtain⟨t,e⟩:=r1
   subst e
   exact .cons n t (ih r2)
section
variable{X:Cx}{e:Expr}{te:TE}{lo hi:Option Expr}{tl th:TO}{pos p2:Pos}
theorem E_:PO X none E9:=by
 intro pins s σ H Q I h
 rw[evalPart_none]
 exact wpAny_pure ⟨none,H,I,.none,h⟩
theorem Fb(h:PE X e te):PO X (some e) (LA te):=by
 intro pins s σ H Q I hw
 rw[evalPart_some]
 refine thn (h pins s σ H _ I hw) λu s1 aj=>?_
 obtain⟨x,H1,I1,r1,q1⟩:=aj
 obtain⟨i,rfl,q⟩:=q1
 obtain⟨t,rfl⟩:=r1
 exact⟨some i,H1,I1,.int i t,q⟩
def SlR(X:Cx)(r:V->Option Int->Option Int->Hp->VK->Prop):Prop :=
 ∀(pins:List (Addr×Obj)) (s:Shared) (σ:St) (H:Hp) (x:V) (v vl vu:Value) (lo hi:Option Int) (sl:Addr) (Q:VK),Inv X pins σ H s->RelV x v->s.heap.IsSliceOf sl vl vu .none->IsPart vl lo->IsPart vu hi->r x lo hi H Q ->
  ∃T id,typeLookup (.type T) "__getitem__"=pure (some (.builtin id))/\s.TypeIs v T/\wpAny (model X.prog X.w) X.A (getItem v (.ref sl)) (EP X pins σ Q) X.xe s
theorem SlR.or{r r':V->Option Int->Option Int->Hp->VK->Prop}(h:SlR X r)(h':SlR X r'):SlR X (λx lo hi H Q=>r x lo hi H Q∨r' x lo hi H Q):=by
 intro pins s σ H x v vl vu lo hi sl Q I rx hs pl pu q
 rcases q with q|q
 ·exact h pins s σ H x v vl vu lo hi sl Q I rx hs pl pu q
 ·exact h' pins s σ H x v vl vu lo hi sl Q I rx hs pl pu q
def tSl(r:V->Option Int->Option Int->Hp->VK->Prop)(te:TE)(tl th:TO):TE:=λσ H Q=>te σ H λx H1=>tl σ H1 λl H2=>th σ H2 λu H3=>r x l u H3 Q
theorem uG{r:V->Option Int->Option Int->Hp->VK->Prop}(hr:SlR X r)(he:PE X e te)(hl:PO X lo tl)(hu:PO X hi th):PE X (.Subscript e (.Slice lo hi none p2) pos) (tSl r te tl th):=by
 intro pins s σ H Q I h
 refine Subscript_ (thn (he pins s σ H _ I h) λv s1 aj=>?_)
 obtain⟨x,H1,I1,r1,q1⟩:=aj
 refine wpAny_Slice (thn (hl pins s1 σ H1 _ I1 q1) λvl s2 ⟨l,H2,I2,pl,q2⟩=>thn (hu pins s2 σ H2 _ I2 q2) λvu s3 b9=>?_)
 obtain⟨u,H3,I3,pu,q3⟩:=b9
 rw[evalPart_none]
 refine wpAny_pure ?_
 have I4:Inv X pins σ H3 { s3 with heap:=s3.heap.push { cls:=.type "slice",data:=.fields #[vl,vu,.none] } }:=I3.kept (t':=s3.toks) λb ob q=>Heap.get?_push_of_some _ q
 obtain⟨T,id,hT,ht,hg⟩:=hr pins { s3 with heap:=s3.heap.push { cls:=.type "slice",data:=.fields #[vl,vu,.none] } } σ H3 x v vl vu l u s3.heap.objs.size Q I4 r1 (Heap.IsSliceOf.new ..) pl pu q3
 show wpAny (model X.prog X.w) X.A (subscriptTail e (.Slice lo hi none p2) v (.ref s3.heap.objs.size)) (EP X pins σ Q) X.xe { s3 with heap:=s3.heap.push { cls:=.type "slice",data:=.fields #[vl,vu,.none] } }
 exact tail_any (ops:=[.ref s3.heap.objs.size,v]) ht hT hg (by with_unfolding_all rfl)
def uH(xs:List V)(lo hi:Option Int):List V:=(xs.drop (HT.sIx xs.length 0 lo)).take (HT.sIx xs.length xs.length hi-HT.sIx xs.length 0 lo)
theorem nD(xs:List V)(lo hi:Option Int):(uH xs lo hi).length≤xs.length:=by
 unfold uH
 rw[List.length_take,List.length_drop]
 lia
def NC(K:PySem.W.Frag):V->Option Int->Option Int->Hp->VK->Prop:=λx lo hi H Q=>∃a xs,x=.ref a/\SqT K H a xs /\
 ¬ (HT.sIx xs.length 0 lo=0/\HT.sIx xs.length xs.length hi=xs.length)/\∀p,H p=none->Q (.ref p) (upd H p (.tup (uH xs lo hi)))
theorem BW:SlR X (NC X.K):=by
 intro pins s σ H x v vl vu lo hi sl Q I rx hs pl pu h
 obtain⟨a,xs,rfl,hx,hw,q⟩:=h
 cases rx
 obtain⟨its,r,ht,hz⟩:=I.tuple hx
 have hlen:its.toArray.size=xs.length:=by rw[List.size_toArray];exact r.length.symm
 refine⟨"tuple",_,PyProof.Rows.slot_tuple_getitem.lookup,ht.typeIs,?_⟩
 refine HT.l5 ht hs pl pu (by rw[hlen];exact hw) ?_ (by rw[hlen];exact hz)
 rw[hlen]
 refine⟨.ref s.heap.objs.size,_,I.laid (t':=s.toks) (o:=.tup (uH xs lo hi)) (λb ob q=>Heap.get?_push_of_some _ q) (Nat.le_refl _) ?_,rfl,q _ (I.hok.fresh (Nat.le_refl _))⟩
 exact⟨Nat.le_trans (nD xs lo hi) hz,_,(r.drop (HT.sIx xs.length 0 lo)).take (HT.sIx xs.length xs.length hi-HT.sIx xs.length 0 lo),IsTup.new _ _⟩
def LC(K:PySem.W.Frag):R2:=λx y H Q=>∃a b xs ys,x=.ref a/\y=.ref b/\SqT K H a xs/\SqT K H b ys/\xs≠[]/\xs.length+ys.length≤sizeLine /\
 (ys=[]->Q (.ref a) H)/\(ys≠[]->∀p,H p=none->Q (.ref p) (upd H p (.tup (xs++ys))))
theorem Vals.oy{xs:List V}{us:List Value}(r:Vals xs us):us=[]↔xs=[]:=by
 cases r with
 | nil=>simp
 | cons _ _=>simp
theorem Fc:OpR X (binaryOp .Add) (LC X.K):=by
 intro pins s σ H x y v u Q I rx ry h
 obtain⟨a,b,xs,ys,rfl,rfl,ha,hb,hx,hz,q1,q2⟩:=h
 cases rx
 cases ry
 obtain⟨its,r1,p1,_⟩:=I.tuple ha
 obtain⟨g8,r2,p2,_⟩:=I.tuple hb
 refine HT.E8 p1 p2 (λz=>hx (r1.oy.mp z)) (λz=>⟨.ref a,H,I,rfl,q1 (r2.oy.mp z)⟩) (λz=>?_) (by rw[← r1.length,← r2.length];exact hz)
 refine⟨.ref s.heap.objs.size,_,I.laid (t':=s.toks) (o:=.tup (xs++ys)) (λb ob q=>Heap.get?_push_of_some _ q) (Nat.le_refl _) ?_,rfl,q2 (λw=>z (r2.oy.mpr w)) _ (I.hok.fresh (Nat.le_refl _))⟩
 exact⟨by rw[List.length_append];exact hz,_,r1.append r2,IsTup.new _ _⟩
end
noncomputable def ixN (n : Nat) (i : Int) : Option Nat := if 0 ≤ i then (if i < n then some i.toNat else none) else if -(n : Int) ≤ i then some (i + n).toNat else none
noncomputable def atI {α : Type} (xs : List α) (i : Int) : Option α := (ixN xs.length i).bind fun j => xs[j]?
theorem yq{n:Nat}{i:Int}{j:Nat}(h:ixN n i=some j):seqIndex? i n=some j/\j<n/\-(n:Int)≤i/\i<n:=by
 unfold ixN at h
 by_cases h0:0≤i
 ·rw[if_pos h0] at h
  by_cases h1:i<n
  ·rw[if_pos h1] at h
   have e:i.toNat=j:=Option.some.inj h
   exact⟨by rw[seqIndex_of h0 h1,e],by lia,by lia,h1⟩
  ·rw[if_neg h1] at h;cases h
 ·rw[if_neg h0] at h
  by_cases h1:-(n:Int)≤i
  ·rw[if_pos h1] at h
   have e:(i+n).toNat=j:=Option.some.inj h
   exact⟨by rw[seqIndex_neg (by lia) h1,e],by lia,h1,by lia⟩
  ·rw[if_neg h1] at h;cases h
theorem sE{α:Type}{xs:List α}{i:Int}{v:α}(h:atI xs i=some v):∃j,seqIndex? i xs.length=some j/\xs[j]?=some v/\j<xs.length/\-(xs.length:Int)≤i/\i<xs.length:=by
 unfold atI at h
 cases e:ixN xs.length i with
 | none=>rw[e] at h;cases h
 | some j =>
  rw[e] at h
  obtain⟨h1,h2,h3,h4⟩:=yq e
  exact⟨j,h1,h,h2,h3,h4⟩
def yr(b:Expr):Prop:=∀o i,subscripted b false o i=operate [o,i] (getItem o i)
def IxR(X:Cx)(r:R2):Prop :=
 ∀(value slice:Expr) (pins:List (Addr×Obj)) (s:Shared) (σ:St) (H:Hp) (x y:V) (v u:Value) (Q:VK),Inv X pins σ H s->RelV x v->RelV y u->r x y H Q ->
  subscripted slice false v u=operate [v,u] (getItem v u)->wpAny (model X.prog X.w) X.A (subscriptTail value slice v u) (EP X pins σ Q) X.xe s
def MtR(X:Cx)(id:String)(r:V->List V->Hp->VK->Prop):Prop :=
 ∀(pins:List (Addr×Obj)) (s:Shared) (σ:St) (H:Hp) (x:V) (xs:List V) (v:Value) (us:List Value) (Q:VK),Inv X pins σ H s->RelV x v->Vals xs us->r x xs H Q ->
  wpAny (model X.prog X.w) X.A (call (.builtin id) (v::us)) (EP X pins σ Q) X.xe s
section
variable{X:Cx}{a b:Expr}{ta tb:TE}{pos:Pos}
theorem IxR.or{r r':R2}(h:IxR X r)(h':IxR X r'):IxR X (λx y H Q=>r x y H Q∨r' x y H Q):=by
 intro value slice pins s σ H x y v u Q I rx ry q hs
 rcases q with q|q
 ·exact h value slice pins s σ H x y v u Q I rx ry q hs
 ·exact h' value slice pins s σ H x y v u Q I rx ry q hs
theorem LD{r:R2}(hr:IxR X r)(ha:PE X a ta)(hb:PE X b tb)(hs:yr b):PE X (.Subscript a b pos) (tOp r ta tb):=by
 intro pins s σ H Q I h
 exact Subscript_ (IB ha hb I h λv u s2 x y H2 I2 rx ry q=>hr a b pins s2 σ H2 x y v u Q I2 rx ry q (hs _ _))
def LF(K:PySem.W.Frag):R2:=λx y H Q=>∃p xs i v,x=.ref p/\y=.int i/\SqL K H p xs/\atI xs i=some v/\Q v H
def LG(K:PySem.W.Frag):R2:=λx y H Q=>∃p xs i v,x=.ref p/\y=.int i/\SqT K H p xs/\atI xs i=some v/\Q v H
def LH:R2:=λx y H Q=>∃z i c,x=.str z/\y=.int i/\z.length≤sizeLine/\atI z.cps.toList i=some c/\Q (.str ⟨#[c]⟩) H
theorem Fd:IxR X (LF X.K):=by
 intro value slice pins s σ H x y v u Q I rx ry h hs
 obtain⟨p,xs,i,z,rfl,rfl,hq,he,q⟩:=h
 cases rx
 obtain⟨t,rfl⟩:=ry
 obtain⟨its,r,pl,hz⟩:=I.list hq
 obtain⟨j,h1,h2,h3,h4,h5⟩:=sE he
 obtain⟨w,ew,rw'⟩:=r.get h2
 have hl:=r.length
 have hn:=mS
 have fin:EP X pins σ Q w s:=⟨z,H,I,rw',q⟩
 by_cases h0:0≤i
 ·have hj:i.toNat=j:=by
   rw[seqIndex_of h0 h5] at h1
   exact Option.some.inj h1
  exact item_listR pl.isList h0 (by lia) (by rw[hj];simpa using ew) fin hs
 ·have hj:(i+(its.toArray.size:Int)).toNat=j:=by
   rw[seqIndex_neg (by lia) h4] at h1
   rw[List.size_toArray,← hl]
   exact Option.some.inj h1
  exact subscriptTail_builtinR (x:=w) pl.isList.typeIs slot_list_getitem.lookup
   (wpAny_getItem_list_neg (Q:=λr s'=>r=w/\EP X pins σ Q r s') pl.isList (by lia) (by rw[List.size_toArray]<;>lia) (by lia) (by rw[hj];simpa using ew) ⟨rfl,fin⟩) hs
theorem IM:IxR X (LG X.K):=by
 intro value slice pins s σ H x y v u Q I rx ry h hs
 obtain⟨p,xs,i,z,rfl,rfl,hq,he,q⟩:=h
 cases rx
 obtain⟨t,rfl⟩:=ry
 obtain⟨its,r,pl,hz⟩:=I.tuple hq
 obtain⟨j,h1,h2,h3,h4,h5⟩:=sE he
 obtain⟨w,ew,rw'⟩:=r.get h2
 have hl:=r.length
 have hn:=mS
 have fin:EP X pins σ Q w s:=⟨z,H,I,rw',q⟩
 exact subscriptTail_builtinR (x:=w) pl.typeIs slot_tuple_getitem.lookup
  (getItem_tuple (j:=j) (Q:=λr s'=>r=w/\EP X pins σ Q r s') pl (by lia) (by lia) (by rw[List.size_toArray,← hl];exact h1) (by simpa using ew) ⟨rfl,fin⟩) hs
theorem IP:IxR X LH:=by
 intro value slice pins s σ H x y v u Q I rx ry h hs
 obtain⟨z,i,c,rfl,rfl,hz,he,q⟩:=h
 obtain⟨t,rfl⟩:=rx
 obtain⟨t',rfl⟩:=ry
 obtain⟨j,h1,h2,h3,h4,h5⟩:=sE he
 have hl:z.cps.toList.length=z.length:=by simp[Str.length]
 rw[hl] at h1 h4 h5
 have hn:=mS
 exact tail_any (typeIs_str s z t) slot_str_getitem.lookup (getItem_str (c:=c) (by
  have e1:decide (i< -(2 ^ 63:Int))=false:=decide_eq_false (by lia)
  have e2:decide (i ≥ 2 ^ 63)=false:=decide_eq_false (by lia)
  rw[e1,e2,Bool.or_false]) (by rw[h1];simpa using h2) ⟨.str ⟨#[c]⟩,H,I.tok _,⟨_,rfl⟩,q⟩) hs
def rIx(K:PySem.W.Frag):R2:=λx y H Q=>LF K x y H Q∨LG K x y H Q∨LH x y H Q
theorem IQ:IxR X (rIx X.K):=Fd.or (IM.or IP)
theorem wx(its:List Value)(n j:Nat)(u:Value):Obj.mapSeq (·.setIfInBounds j u) { cls:=.type "list",data:=.seq its.toArray n }={ cls:=.type "list",data:=.seq (its.set j u).toArray n }:=by
 simp[Obj.mapSeq]
theorem Inv.lst{pins:List (Addr×Obj)}{σ:St}{H:Hp}{s:Shared}{p:Addr}{xs:List V}(I:Inv X pins σ H s)(h:H p=some (.lst xs)) :
  ∃(its:List Value) (n:Nat),Vals xs its/\s.heap.get? p=some { cls:=.type "list",data:=.seq its.toArray n }/\xs.length≤sizeLine:=by
 obtain⟨z,its,n,r,e⟩:=I.hok p _ h
 exact⟨its,n,r,e,z⟩
theorem Inv.IS{pins:List (Addr×Obj)}{σ:St}{H:Hp}{s:Shared}{p:Addr}{xs ys:List V}{its its':List Value}{n n':Nat}{f:Obj->Obj}(I:Inv X pins σ H s)(h:H p=some (.lst xs))
  (ho:s.heap.get? p=some { cls:=.type "list",data:=.seq its.toArray n }) (hf:f { cls:=.type "list",data:=.seq its.toArray n }={ cls:=.type "list",data:=.seq its'.toArray n' }) (r:Vals ys its') (hz:ys.length≤sizeLine) (t:Nat) :
  Inv X pins σ (upd H p (.lst ys)) { s with heap:=s.heap.update p f,toks:=t }:=by
 have e:(s.heap.update p f).get? p=some { cls:=.type "list",data:=.seq its'.toArray n' }:=by
  rw[Heap.get?_update_self f ho (by rw[hf]<;>rfl),hf]
 refine I.write (x:=p) (e:=p) (by rw[h];trivial) (.inl rfl) (λb u hb q=>(Heap.get?_update_other _ _ (Ne.symm hb)).trans q) ⟨_,e⟩ ?_
 exact⟨hz,its',n',r,e⟩
def LI:V->V->V->Hp->(Hp->Prop)->Prop:=λo i v H Q=>∃p xs k j,o=.ref p/\i=.int k/\H p=some (.lst xs)/\ixN xs.length k=some j/\Q (upd H p (.lst (xs.set j v)))
theorem set_list:Lk X LI:=by
 intro pins s σ H o i v ov iv u Q I ro ri rv h
 obtain⟨p,xs,k,j,rfl,rfl,hp,hj,q⟩:=h
 cases ro
 obtain⟨t,rfl⟩:=ri
 obtain⟨its,n,r,ho,hz⟩:=I.lst hp
 obtain⟨h1,h2,h3,h4⟩:=yq hj
 have hl:=r.length
 have hn:=mS
 have I':Inv X pins σ (upd H p (.lst (xs.set j v))) { s with heap:=s.heap.update p (Obj.mapSeq (·.setIfInBounds j u)) } :=
  I.IS hp ho (wx its n j u) (r.set rv j) (by rw[List.length_set];exact hz) s.toks
 by_cases h0:0≤k
 ·have hk:k.toNat=j:=by
   rw[seqIndex_of h0 h4] at h1
   exact Option.some.inj h1
  exact PySem.W.ki_setAt ho h0 (by lia) (by rw[List.size_toArray,← hl];exact h4) (by rw[hk];exact⟨_,I',q⟩)
 ·have hk:(k+(its.toArray.size:Int)).toNat=j:=by
   rw[seqIndex_neg (by lia) h3] at h1
   rw[List.size_toArray,← hl]
   exact Option.some.inj h1
  exact PySem.W.ki_setBack ho (by lia) (by rw[List.size_toArray,← hl];exact h3) (by lia) (by rw[hk];exact⟨_,I',q⟩)
theorem sF(lo hi:Option Int)(n:Nat):(sliceBounds lo hi none n).1=((HT.sIx n 0 lo:Nat):Int)/\(sliceBounds lo hi none n).2.1=((HT.sIx n n hi:Nat):Int)/\(sliceBounds lo hi none n).2.2=1:=by
 refine⟨?_,?_,rfl⟩
 ·cases lo with
  | none=>simp[sliceBounds,HT.sIx]
  | some i =>
   simp only[sliceBounds,HT.sIx,Option.getD_none,show(1:Int) > 0 by decide,if_true]
   by_cases h:i<0
   ·simp only[h,if_true]<;>lia
   ·simp only[h,if_false]<;>lia
 ·cases hi with
  | none=>simp[sliceBounds,HT.sIx]
  | some i =>
   simp only[sliceBounds,HT.sIx,Option.getD_none,show(1:Int) > 0 by decide,if_true]
   by_cases h:i<0
   ·simp only[h,if_true]<;>lia
   ·simp only[h,if_false]<;>lia
theorem qC(its:List Value)(lo hi:Option Int):slicePick its.toArray lo hi none=((its.drop (HT.sIx its.length 0 lo)).take (HT.sIx its.length its.length hi-HT.sIx its.length 0 lo)).toArray:=by
 obtain⟨h1,h2,h3⟩:=sF lo hi its.toArray.size
 unfold slicePick
 rw[h1,h2,h3]
 simp only[sliceRange_one,pick_run,List.size_toArray]<;>rfl
def ND(K:PySem.W.Frag):V->Option Int->Option Int->Hp->VK->Prop:=λx lo hi H Q=>∃a xs,x=.ref a/\SqL K H a xs/\∀p,H p=none->Q (.ref p) (upd H p (.lst (uH xs lo hi)))
theorem yt:SlR X (ND X.K):=by
 intro pins s σ H x v vl vu lo hi sl Q I rx hs pl pu h
 obtain⟨a,xs,rfl,hx,q⟩:=h
 cases rx
 obtain⟨its,r,ht,hz⟩:=I.list hx
 have hlen:=r.length
 refine⟨"list",_,slot_list_getitem.lookup,ht.isList.typeIs,?_⟩
 refine wpAny_getItem_list_slice ht.isList hs pl pu .none (by simp) ?_ (by rw[List.size_toArray]<;>lia)
 rw[qC,← hlen]
 refine⟨.ref s.heap.objs.size,_,I.laid (t':=s.toks) (o:=.lst (uH xs lo hi)) (λb ob q=>Heap.get?_push_of_some _ q) (Nat.le_refl _) ?_,rfl,q _ (I.hok.fresh (Nat.le_refl _))⟩
 exact⟨Nat.le_trans (nD xs lo hi) hz,_,0,(r.drop (HT.sIx xs.length 0 lo)).take (HT.sIx xs.length xs.length hi-HT.sIx xs.length 0 lo),Heap.get?_push_size _ rfl⟩
def kB:V->Bool
 | .non=>true
 | .bl _=>true
 | .int _=>true
 | .str _=>true
 | _=>false
def eqV:V->V->Bool
 | .non,.non=>true
 | .bl a,.bl b=>a==b
 | .bl a,.int b=>(if a then 1 else 0)==b
 | .int a,.bl b=>a==(if b then 1 else 0)
 | .int a,.int b=>a==b
 | .str a,.str b=>a==b
 | _,_=>false
theorem IT{A:Around}{s:Shared}{y x:V}{u v:Value}(ry:RelV y u)(rx:RelV x v)(fy:kB y=true)(fx:kB x=true):SeqAt.EqAt A s u v (eqV y x):=by
 cases y with
 | non =>
  cases ry
  cases x with
  | non=>cases rx;exact SeqAt.EqAt.same _
  | bl b=>cases rx;exact SeqAt.EqAt.none_bool b
  | int b=>obtain⟨t,rfl⟩:=rx;exact SeqAt.EqAt.none_int b t
  | str b=>obtain⟨t,rfl⟩:=rx;exact SeqAt.EqAt.none_str b t
  | _=>exact absurd (show false=true from fx) Bool.false_ne_true
 | bl a =>
  cases ry
  cases x with
  | non=>cases rx;exact SeqAt.EqAt.bool_none a
  | bl b=>cases rx;exact SeqAt.EqAt.bool_bool a b
  | int b=>obtain⟨t,rfl⟩:=rx;exact SeqAt.EqAt.bool_int a b t
  | str b=>obtain⟨t,rfl⟩:=rx;exact SeqAt.EqAt.bool_str a b t
  | _=>exact absurd (show false=true from fx) Bool.false_ne_true
 | int a =>
  obtain⟨t',rfl⟩:=ry
  cases x with
  | non=>cases rx;exact SeqAt.EqAt.int_none a t'
  | bl b=>cases rx;exact SeqAt.EqAt.int_bool a t' b
  | int b=>obtain⟨t,rfl⟩:=rx;exact SeqAt.EqAt.int_int a t' b t
  | str b=>obtain⟨t,rfl⟩:=rx;exact SeqAt.EqAt.int_str a t' b t
  | _=>exact absurd (show false=true from fx) Bool.false_ne_true
 | str a =>
  obtain⟨t',rfl⟩:=ry
  cases x with
  | non=>cases rx;exact SeqAt.EqAt.str_none a t'
  | bl b=>cases rx;exact SeqAt.EqAt.str_bool a t' b
  | int b=>obtain⟨t,rfl⟩:=rx;exact SeqAt.EqAt.str_int a t' b t
  | str b=>obtain⟨t,rfl⟩:=rx;exact SeqAt.EqAt.str_str a t' b t
  | _=>exact absurd (show false=true from fx) Bool.false_ne_true
 | _=>exact absurd (show false=true from fy) Bool.false_ne_true
def eqU(x:V)(u:Value):Bool:=match u with
 | .none=>eqV .non x
 | .bool b=>eqV (.bl b) x
 | .int i _=>eqV (.int i) x
 | .str z _=>eqV (.str z) x
 | _=>false
theorem BX{x y:V}{u:Value}(r:RelV y u)(f:kB y=true):eqU x u=eqV y x:=by
 cases y with
 | non=>cases r;rfl
 | bl b=>cases r;rfl
 | int i=>obtain⟨t,rfl⟩:=r;rfl
 | str z=>obtain⟨t,rfl⟩:=r;rfl
 | _=>exact absurd (show false=true from f) Bool.false_ne_true
theorem sG{x:V}:∀{xs:List V}{us:List Value},Vals xs us->xs.all kB=true->us.any (eqU x)=xs.any λy=>eqV y x
 | _,_,.nil,_=>rfl
 | y::xs,u::us,.cons r t,f=>by
  rw[List.all_cons,Bool.and_eq_true] at f
  rw[List.any_cons,List.any_cons,BX r f.1,sG t f.2]
theorem oU{A:Around}{s:Shared}{x:V}{v:Value}(rx:RelV x v)(fx:kB x=true):∀{xs:List V}{us:List Value},Vals xs us->xs.all kB=true->∀u∈us,SeqAt.EqAt A s u v (eqU x u)
 | _,_,.nil,_=>λu hu=>by cases hu
 | y::xs,u::us,.cons r t,f=>λu' hu=>by
  rw[List.all_cons,Bool.and_eq_true] at f
  rcases List.mem_cons.mp hu with rfl|hu
  ·rw[BX r f.1];exact IT r rx f.1 fx
  ·exact oU rx fx t f.2 u' hu
def inV(x:V)(xs:List V):Bool:=xs.any λy=>eqV y x
def rIn(K:PySem.W.Frag)(neg:Bool):R2:=λx y H Q=>∃p xs,y=.ref p/\(SqL K H p xs∨SqT K H p xs)/\kB x=true/\xs.all kB=true/\Q (.bl (if neg then !inV x xs else inV x xs)) H
theorem zV:OpR X (compareOp .In) (rIn X.K false):=by
 intro pins s σ H x y v u Q I rx ry h
 obtain⟨p,xs,rfl,hq,fx,fs,q⟩:=h
 cases ry
 rcases hq with hq|hq
 ·obtain⟨its,r,pl,hz⟩:=I.list hq
  refine SeqAt.in_listAt (eqU x) pl.isList (λw hw=>oU rx fx r fs w (by simpa using hw)) ⟨.bl _,H,I,rfl,?_⟩
  rw[show its.toArray.any (eqU x)=its.any (eqU x) by simp,sG r fs]
  exact q
 ·obtain⟨its,r,pl,hz⟩:=I.tuple hq
  refine SeqAt.in_tupleAt (eqU x) pl (λw hw=>oU rx fx r fs w (by simpa using hw)) ⟨.bl _,H,I,rfl,?_⟩
  rw[show its.toArray.any (eqU x)=its.any (eqU x) by simp,sG r fs]
  exact q
theorem sH:cX X (.builtin "len") (λxs H Q=>∃p ys,xs=[.ref p]/\(SqL X.K H p ys∨SqT X.K H p ys)/\Q (.int ys.length) H):=by
 intro pins s σ H xs us Q I r h
 obtain⟨p,ys,rfl,hq,q⟩:=h
 obtain⟨u,rfl,rx⟩:=vals1 r
 cases rx
 have hn:=mS
 rcases hq with hq|hq
 ·obtain⟨its,r',pl,hz⟩:=I.list hq
  have hlen:=r'.length
  exact Calls.call_len_list pl.isList (by simp only[List.size_toArray]<;>lia) ⟨.int ys.length,H,I.tok _,⟨s.toks+1,by rw[List.size_toArray,hlen]⟩,q⟩
 ·obtain⟨its,r',pl,hz⟩:=I.tuple hq
  have hlen:=r'.length
  exact len_tuple pl (by simp only[List.size_toArray]<;>lia) ⟨.int ys.length,H,I.tok _,⟨s.toks+1,by rw[List.size_toArray,hlen]⟩,q⟩
theorem sI:cX X (.builtin "len") (λxs H Q=>∃z,xs=[.str z]/\z.length≤sizeLine/\Q (.int z.length) H):=by
 intro pins s σ H xs us Q I r h
 obtain⟨z,rfl,hz,q⟩:=h
 obtain⟨u,rfl,t,rfl⟩:=vals1 r
 have hn:=mS
 exact len_str (by lia) ⟨.int z.length,H,I.tok _,⟨_,rfl⟩,q⟩
theorem cX.or{f:Value}{r r':List V->Hp->VK->Prop}(h:cX X f r)(h':cX X f r'):cX X f (λxs H Q=>r xs H Q∨r' xs H Q):=by
 intro pins s σ H xs us Q I rs q
 rcases q with q|q
 ·exact h pins s σ H xs us Q I rs q
 ·exact h' pins s σ H xs us Q I rs q
theorem sJ:cX X (.type "list") (λxs H Q=>∃p ys,xs=[.ref p]/\(SqL X.K H p ys∨SqT X.K H p ys)/\∀l,H l=none->Q (.ref l) (upd H l (.lst ys))):=by
 intro pins s σ H xs us Q I r h
 obtain⟨p,ys,rfl,hq,q⟩:=h
 obtain⟨u,rfl,rx⟩:=vals1 r
 cases rx
 have fin:∀(its:List Value),Vals ys its->ys.length≤sizeLine->∀(h':Heap) (c':Nat),(∀b o',s.heap.get? b=some o'->h'.get? b=some o') ->
   h'.get? s.heap.objs.size=some { cls:=.type "list",dict:=none,data:=.seq its.toArray c',slots:=#[] }->EP X pins σ Q (.ref s.heap.objs.size) { s with heap:=h' }:=λits r' hz h' c' kp e =>
  ⟨.ref s.heap.objs.size,_,I.laid (t':=s.toks) kp (Nat.le_refl _) (show cG X.prog X.w _ h' _ (.lst ys) from ⟨hz,its,c',r',e⟩),rfl,q _ (I.hok.fresh (Nat.le_refl _))⟩
 rcases hq with hq|hq
 ·obtain⟨its,r',pl,hz⟩:=I.list hq
  have hlen:=r'.length
  obtain⟨o,ho,hc,n,hd⟩:=pl.isList
  exact call_list_seq p (.inl rfl) ho hc hd (λh' c' kp e=>fin its r' hz h' c' kp e) (by simp only[List.size_toArray]<;>lia)
 ·obtain⟨its,r',pl,hz⟩:=I.tuple hq
  have hlen:=r'.length
  obtain⟨o,ho,hc,n,hd⟩:=pl
  exact call_list_seq p (.inr rfl) ho hc hd (λh' c' kp e=>fin its r' hz h' c' kp e) (by simp only[List.size_toArray]<;>lia)
theorem qD:cX X (.type "tuple") (λxs H Q=>∃p ys,xs=[.ref p]/\((SqL X.K H p ys/\∀l,H l=none->Q (.ref l) (upd H l (.tup ys)))∨(SqT X.K H p ys/\Q (.ref p) H))):=by
 intro pins s σ H xs us Q I r h
 obtain⟨p,ys,rfl,h⟩:=h
 obtain⟨u,rfl,rx⟩:=vals1 r
 cases rx
 rcases h with ⟨hq,q⟩|⟨hq,q⟩
 ·obtain⟨its,r',pl,hz⟩:=I.list hq
  have hlen:=r'.length
  refine call_tuple_list pl.isList (λh' kp=>?_) (by simp only[List.size_toArray]<;>lia)
  have I1:Inv X pins σ H { s with heap:=h' }:=I.kept (t':=s.toks) kp
  have I2:Inv X pins σ (upd H h'.objs.size (.tup ys)) { s with heap:=h'.push { cls:=.type "tuple",data:=.seq its.toArray } } :=
   I1.laid (t':=s.toks) (λb o e=>Heap.get?_push_of_some _ e) (Nat.le_refl _) (show cG X.prog X.w _ _ _ (.tup ys) from ⟨hz,its,r',IsTup.new _ _⟩)
  exact⟨.ref h'.objs.size,_,I2,rfl,q _ (I1.hok.fresh (Nat.le_refl _))⟩
 ·obtain⟨its,r',pl,hz⟩:=I.tuple hq
  exact call_tuple_same pl ⟨.ref p,H,I,rfl,q⟩
def tyV(K:PySem.W.Frag)(T:String)(x:V)(H:Hp):Prop:=match x with
 | .str _=>T="str"
 | .int _=>T="int"
 | .ref p=>(T="list"/\∃xs,SqL K H p xs)∨(T="tuple"/\∃o,K.lookup p=some o/\o.cls=.type "tuple"/\o.dict=none) ∨
   (T="dict"/\((∃kvs,H p=some (.dK kvs))∨∃kvs,H p=some (.dT kvs)))∨(T="set"/\∃S n,H p=some (.set S n))
 | _=>False
theorem IU{pins:List (Addr×Obj)}{σ:St}{H:Hp}{s:Shared}{T:String}{x:V}{v:Value}(I:Inv X pins σ H s)(r:RelV x v)(ty:tyV X.K T x H) :
  s.TypeIs v T/\∀a,v=.ref a->∃ob,s.heap.get? a=some ob/\ob.dict=none:=by
 cases x with
 | str z =>
  obtain⟨t,rfl⟩:=r
  cases (show T="str" from ty)
  exact⟨typeIs_str s z t,λ_ e=>nomatch e⟩
 | int i =>
  obtain⟨t,rfl⟩:=r
  cases (show T="int" from ty)
  exact⟨typeIs_int s i t,λ_ e=>nomatch e⟩
 | ref p =>
  cases r
  rcases ty with ⟨rfl,xs,hq⟩|⟨rfl,o,hk,hc,hd⟩|⟨rfl,hk⟩|⟨rfl,S,n,hk⟩
  ·obtain⟨its,_,pl,_⟩:=I.list hq
   refine⟨pl.isList.typeIs,λa e=>?_⟩
   cases e
   obtain⟨o,n,e,c,hd,_⟩:=pl
   exact⟨o,e,hd⟩
  ·refine⟨⟨o,I.kIn p o hk,hc⟩,λa e=>?_⟩
   cases e
   exact⟨o,I.kIn _ o hk,hd⟩
  ·have z:∃o,s.heap.get? p=some o/\o.ExactDict:=by
    rcases hk with ⟨kvs,hk⟩|⟨kvs,hk⟩
    ·obtain⟨_,_,_,_,o,_,e,ex,_⟩:=I.hok p _ hk
     exact⟨o,e,ex⟩
    ·obtain⟨_,_,_,_,o,_,_,e,ex,_⟩:=I.hok p _ hk
     exact⟨o,e,ex⟩
   obtain⟨o,e,ex⟩:=z
   refine⟨⟨o,e,ex.1⟩,λa e2=>?_⟩
   cases e2
   exact⟨o,e,ex.2.1⟩
  ·obtain⟨o,_,_,_,e,ex,_⟩:=I.hok p _ hk
   refine⟨⟨o,e,ex.1⟩,λa e2=>?_⟩
   cases e2
   exact⟨o,e,ex.2.1⟩
 | _=>exact False.elim ty
def tBM(K:PySem.W.Frag)(T:String)(r:V->List V->Hp->VK->Prop)(to:TE)(t:TA):TE:=λσ H Q=>to σ H λx H1=>tyV K T x H1/\t σ H1 λxs H2=>r x xs H2 Q
variable{o e:Expr}{es:List Expr}{to:TE}{t:TA}{name:Str}{apos cL:Pos}{T id:String}{r:V->List V->Hp->VK->Prop}
theorem yu(pa:PlainAttrs T)(slot:Slot T name id)(hty:typeOf (.builtin id)=pure (.type "method_descriptor"))(hm:MtR X id r)(ho:PE X o to)(ha:PA X (e::es) t)
  (ib:attributeBase o name X.env (eval o X.env)=eval o X.env:=by rfl)
  (sL:((backTo cL (starEach (e::es) X.env)).all (λx=>!x.1) && (backToKw cL (keywordEach [] X.env)).all (λx=>x.1.isSome)
   && decide ((e::es).length+([]:List Keyword).length+(if ([]:List Keyword).isEmpty then 0 else 1)<30))=true:=by rfl)
  (ic:(apos.endLine==cL.line)=true:=by rfl) (hs:starEach (e::es) X.env=(false,eval e X.env)::starEach es X.env:=by rfl) (IV:(backTo cL (starEach es X.env)).any (·.1)=false:=by rfl) :
  PE X (.Call (.Attribute o name apos) (e::es) [] cL) (tBM X.K T r to t):=by
 intro pins s σ H Q I h
 refine wpAny_Call_method_late ib sL ic rfl (thn (ho pins s σ H _ I h) λv s1 aj=>?_)
 obtain⟨x,H1,I1,r1,ty,q1⟩:=aj
 obtain⟨h1,h2⟩:=IU I1 r1 ty
 refine⟨T,id,pa,slot,hty,h1,h2,?_⟩
 have hA:=ha cL pins s1 σ H1 _ I1 q1
 rw[hs] at hA ⊢
 refine Calls.callWith_builtin (by show(false || (backTo cL (starEach es X.env)).any (·.1))=false;rw[IV]<;>rfl) (Calls.evalArgs_plain ?_)
 exact thn hA λus s2 ⟨vs,H2,I2,r2,q2⟩=>hm pins s2 σ H2 x vs v us Q I2 r1 r2 q2
end
def MtM(X:Cx)(id:String)(r:V->List V->Hp->VK->Prop):Prop :=
 ∀(pins:List (Addr×Obj)) (s:Shared) (σ:St) (H:Hp) (x:V) (xs:List V) (v:Value) (us:List Value) (Q:VK),Inv X pins σ H s->RelV x v->Vals xs us->r x xs H Q ->
  wpAny (model X.prog X.w) X.A (call (.builtin id) (v::us)) (EP X pins σ Q) X.xe s
theorem Vals.one:∀{x:V}{us:List Value},Vals [x] us->∃u,us=[u]/\RelV x u
 | _,_,.cons r .nil=>⟨_,rfl,r⟩
theorem Vals.eraseIdx:∀{xs:List V}{us:List Value} (i:Nat),Vals xs us->Vals (xs.eraseIdx i) (us.eraseIdx i)
 | _,_,_,.nil=>.nil
 | _,_,0,.cons _ t=>t
 | _,_,i+1,.cons r t=>.cons r (Vals.eraseIdx i t)
theorem Vals.reverse{xs:List V}{us:List Value}(h:Vals xs us):Vals xs.reverse us.reverse:=by
 induction h with
 | nil=>exact .nil
 | cons r t ih=>rw[List.reverse_cons,List.reverse_cons];exact Vals.append ih (.cons r .nil)
theorem Vals.rep{xs:List V}{us:List Value}(h:Vals xs us):∀k:Nat,Vals (List.replicate k xs).flatten (List.replicate k us).flatten
 | 0=>.nil
 | k+1=>by
  rw[List.replicate_succ,List.replicate_succ,List.flatten_cons,List.flatten_cons]
  exact Vals.append h (Vals.rep h k)
theorem rg{α:Type}:∀(l:List α) (i:Nat),(l.eraseIdx i).length≤l.length
 | [],_=>Nat.le_refl _
 | _::_,0=>Nat.le_succ _
 | _::r,i+1=>Nat.succ_le_succ (rg r i)
theorem foldl_rep(its:List Value):∀(k:Nat) (acc:List Value),
  List.foldl (λx1 x2=>x1++x2) acc.toArray (List.replicate k its.toArray)=(acc++(List.replicate k its).flatten).toArray
 | 0,acc=>by simp
 | k+1,acc=>by
  have e:acc.toArray++its.toArray=(acc++its).toArray:=by simp
  have e2:(acc++its)++(List.replicate k its).flatten=acc++(List.replicate (k+1) its).flatten:=by
   rw[List.replicate_succ,List.flatten_cons,List.append_assoc]
  rw[← e2,← foldl_rep its k (acc++its),← e,List.replicate_succ,List.foldl_cons]
section
variable{X:Cx}{pins:List (Addr×Obj)}{σ:St}{H:Hp}{s:Shared}{l b:Addr}{xs ys zs:List V}
theorem Inv.Fe{its its':List Value}{n:Nat}{f:Array Value->Array Value}{t':Nat}(I:Inv X pins σ H s)(hH:H l=some (.lst xs))
  (e:s.heap.get? l=some { cls:=.type "list",data:=.seq its.toArray n }) (hf:f its.toArray=its'.toArray) (hv:Vals ys its') (hz:ys.length≤sizeLine) :
  Inv X pins σ (upd H l (.lst ys)) { s with heap:=s.heap.update l (Obj.mapSeq f),toks:=t' }:=by
 have q:=PySem.IsL.update e f
 rw[hf] at q
 refine I.write (x:=l) (e:=l) (by rw[hH];exact trivial) (.inl rfl) (λb' u hb hu=>(Heap.get?_update_other s.heap (Obj.mapSeq f) (Ne.symm hb)).trans hu) ⟨_,q⟩ ?_
 exact⟨hz,its',_,hv,q⟩
theorem Inv.IW{its:List Value}{t':Nat}(I:Inv X pins σ H s)(hv:Vals ys its)(hz:ys.length≤sizeLine) :
  Inv X pins σ (upd H s.heap.objs.size (.lst ys)) { s with heap:=s.heap.push { cls:=.type "list",data:=.seq its.toArray },toks:=t' } :=
 I.laid (λ_ _ q=>Heap.get?_push_of_some _ q) (Nat.le_refl _) ⟨hz,its,0,hv,Heap.get?_push_size _ rfl⟩
theorem Inv.fresh(I:Inv X pins σ H s):H s.heap.objs.size=none:=I.hok.fresh (Nat.le_refl _)
theorem Inv.zW(I:Inv X pins σ H s)(hH:H l=some (.lst xs)):xs.length≤sizeLine/\∃(its:List Value) (n:Nat),Vals xs its/\xs.length=its.length/\s.heap.get? l=some { cls:=.type "list",data:=.seq its.toArray n }:=by
 obtain⟨z,its,n,r,e⟩:=I.hok l _ hH
 exact⟨z,its,n,r,r.length,e⟩
theorem oV{n:Nat}(h:n≤sizeLine):Builtin.List.listTooLong n=false:=by
 unfold Builtin.List.listTooLong
 exact decide_eq_false (by lia)
end
section
variable{X:Cx}
def yw:V->List V->Hp->VK->Prop:=λx vs H Q=>∃l xs y,x=.ref l/\vs=[y]/\H l=some (.lst xs)/\xs.length<sizeLine/\Q .non (upd H l (.lst (xs++[y])))
theorem rh:MtM X "list.append" yw:=by
 intro pins s σ H x vs v us Q I rx rv h
 obtain⟨l,xs,y,rfl,rfl,hH,hz,q⟩:=h
 cases rx
 obtain⟨u,rfl,ru⟩:=rv.one
 obtain⟨z,its,n,r,hl,e⟩:=I.zW hH
 refine call_meets F.slot_list_append ⟨_,e,rfl⟩ F.entry_list_append (F.args_list_append_2 _ _) (PySem.list_append l its.toArray n u (by rw[List.size_toArray];lia)) ⟨e,?_⟩
 refine⟨.non,_,I.Fe (its':=its++[u]) hH e (by simp) (r.append (.cons ru .nil)) ?_,rfl,q⟩
 rw[List.length_append,List.length_singleton]
 lia
def Ff:V->List V->Hp->VK->Prop:=λx vs H Q=>∃l b xs zs,x=.ref l/\vs=[.ref b]/\H l=some (.lst xs)/\H b=some (.lst zs)/\xs.length+zs.length≤sizeLine/\Q .non (upd H l (.lst (xs++zs)))
theorem zX:MtM X "list.extend" Ff:=by
 intro pins s σ H x vs v us Q I rx rv h
 obtain⟨l,b,xs,zs,rfl,rfl,hH,hB,hz,q⟩:=h
 cases rx
 obtain⟨u,rfl,ru⟩:=rv.one
 cases ru
 obtain⟨z,its,n,r,hl,e⟩:=I.zW hH
 obtain⟨z2,g8,n2,r2,hl2,e2⟩:=I.zW hB
 have hsz:its.toArray.size+g8.toArray.size≤sizeLine:=by rw[List.size_toArray,List.size_toArray];lia
 have uI:¬ (!its.toArray.isEmpty && Builtin.List.listTooLong (its.toArray.size+g8.toArray.size))=true:=by
  rw[oV hsz,Bool.and_false]
  exact Bool.false_ne_true
 refine call_meets F.slot_list_extend ⟨_,e,rfl⟩ F.entry_list_extend (F.args_list_extend_2 _ _)
  (AutoSeq1.list_extend_list_list_0 l its.toArray n b g8.toArray n2 uI (by rw[List.size_toArray];lia) (by lia)) ⟨e,e2,?_⟩
 refine⟨.non,_,I.Fe (its':=its++g8) hH e (by simp) (r.append r2) ?_,rfl,q⟩
 rw[List.length_append]
 lia
def IX:V->List V->Hp->VK->Prop:=λx vs H Q=>∃l xs i k y,x=.ref l/\vs=[.int i]/\H l=some (.lst xs)/\-(2 ^ 63)≤i/\i<2 ^ 63/\seqIndex? i xs.length=some k/\xs[k]?=some y/\Q y (upd H l (.lst (xs.eraseIdx k)))
theorem BY:MtM X "list.pop" IX:=by
 intro pins s σ H x vs v us Q I rx rv h
 obtain⟨l,xs,i,k,y,rfl,rfl,hH,h1,h2,hk,hy,q⟩:=h
 cases rx
 obtain⟨u,rfl,ru⟩:=rv.one
 obtain⟨t,rfl⟩:=ru
 obtain⟨z,its,n,r,hl,e⟩:=I.zW hH
 obtain⟨w,hw,rw'⟩:=r.get hy
 refine call_meets F.slot_list_pop ⟨_,e,rfl⟩ F.entry_list_pop (F.args_list_pop_2 _ _)
  (MeetsSeq.list_pop_at l its.toArray n i t k w (fitsIndex_both h1 h2) (by rw[List.size_toArray,← hl];exact hk) (by rw[← Array.getElem?_toList];exact hw) (by rw[List.size_toArray];lia)) ⟨e,?_⟩
 refine⟨y,_,I.Fe (its':=its.eraseIdx k) hH e ?_ (r.eraseIdx k) ?_,rw',q⟩
 ·show its.toArray.eraseIdxIfInBounds k=(its.eraseIdx k).toArray
  rw[List.eraseIdxIfInBounds_toArray]
 ·have:=rg xs k
  lia
def NF:R2:=λx y H Q=>∃l k xs,x=.ref l/\y=.int k/\H l=some (.lst xs)/\-(2 ^ 63)≤k/\k<2 ^ 63/\xs.length*k.toNat≤sizeLine /\
 ∀p,H p=none->Q (.ref p) (upd H p (.lst (List.replicate k.toNat xs).flatten))
theorem len_rep{α:Type}(xs:List α)(k:Nat):(List.replicate k xs).flatten.length=k*xs.length:=by
 induction k with
 | zero=>simp
 | succ k ih=>rw[List.replicate_succ,List.flatten_cons,List.length_append,ih,Nat.succ_mul,Nat.add_comm]
theorem IY:OpR X (binaryOp .Mult) NF:=by
 intro pins s σ H x y v u Q I rx ry h
 obtain⟨l,k,xs,rfl,rfl,hH,h1,h2,hz,q⟩:=h
 cases rx
 obtain⟨t,rfl⟩:=ry
 obtain⟨z,its,n,r,hl,e⟩:=I.zW hH
 have hlen:its.toArray.size*k.toNat≤sizeLine:=by rw[List.size_toArray,← hl];exact hz
 have NG:¬ its.toArray.size*k.toNat > (2 ^ 63-1) / 8:=by
  have:(sizeLine:Nat)≤(2 ^ 63-1) / 8:=by decide
  lia
 have NH:¬ (!Builtin.List.listFitsIndex k)=true:=by
  rw[fitsIndex_both h1 h2]
  exact Bool.false_ne_true
 have uI:¬ Builtin.List.listTooLong (its.toArray.size*k.toNat)=true:=by
  rw[oV hlen]
  exact Bool.false_ne_true
 have nR:List.foldl (λx1 x2=>x1++x2) #[] (List.replicate (if its.toArray.isEmpty=true then 0 else k.toNat) its.toArray)=(List.replicate k.toNat its).flatten.toArray:=by
  have f0:∀m:Nat,List.foldl (λx1 x2=>x1++x2) #[] (List.replicate m its.toArray)=(List.replicate m its).flatten.toArray:=λm=>by
   have:=foldl_rep its m []
   rw[List.nil_append] at this
   exact this
  rw[f0]
  cases its with
  | nil=>simp
  | cons a r'=>rw[if_neg (by simp)]
 refine wpAny_binaryOp_repeat_ref (T:="list") (U:="int") (by decide) ⟨_,e,rfl⟩ (λs'=>typeIs_int s' k t) noFill_list_mul F.fills_int_mul F.slot_int_rmul repeat_list F.slot_int_index.lookup
  (call_meets F.slot_int_rmul (typeIs_int s k t) F.entry_int_rmul (F.args_int_rmul_2 _ _) (int___rmul___int_list k t l its.toArray n)
   ⟨e,rfl,⟨_,e,rfl⟩,call_meets F.slot_list_mul ⟨_,e,rfl⟩ F.entry_list_mul (F.args_list_mul_2 _ _) (AutoListH.list___mul___list_int_3 l its.toArray n k t NH NG uI) ⟨e,?_⟩⟩)
 rw[nR]
 exact⟨.ref _,_,I.IW (t':=s.toks) (r.rep k.toNat) (by rw[len_rep,Nat.mul_comm];exact hz),rfl,q _ I.fresh⟩
end
section
variable{prog:Program}{w:World}{A:Around}{E:Value->Shared->Prop}{s:Shared}
end
section
variable{X:Cx}
end
section
variable{κ:Type}[DecidableEq κ]
def mT(kvs:List (κ×V))(k:κ):Option V:=(kvs.find? λkv=>decide (kv.1=k)).map (·.2)
def putK(kvs:List (κ×V))(k:κ)(v:V):List (κ×V) :=
 if (kvs.any λkv=>decide (kv.1=k))=true then kvs.map (λkv=>if kv.1=k then (kv.1,v) else kv) else kvs++[(k,v)]
theorem l6{p:κ×V}{r:List (κ×V)}{k:κ}(e:p.1=k):mT (p::r) k=some p.2:=by simp[mT,List.find?_cons,e]
theorem l7{p:κ×V}{r:List (κ×V)}{k:κ}(e:¬ p.1=k):mT (p::r) k=mT r k:=by simp[mT,List.find?_cons,e]
theorem uJ(k:κ):∀kvs:List (κ×V),(kvs.any λkv=>decide (kv.1=k))=(mT kvs k).isSome
 | []=>rfl
 | p::r=>by
  rw[List.any_cons]
  by_cases e:p.1=k
  ·simp only[l6 e,decide_eq_true e,Bool.true_or,Option.isSome_some]
  ·rw[l7 e,decide_eq_false e,Bool.false_or];exact uJ k r
theorem nE(kvs:List (κ×V))(k:κ)(v:V):(putK kvs k v).length≤kvs.length+1:=by
 unfold putK
 split
 ·rw[List.length_map];lia
 ·rw[List.length_append,List.length_cons,List.length_nil];lia
theorem nP.zY{o:Option V}{u:Option Value}(r:nP o u):o.isSome=u.isSome:=by
 cases o with
 | none=>cases u with
  | none=>rfl
  | some _=>exact(show False from r).elim
 | some _=>cases u with
  | none=>exact(show False from r).elim
  | some _=>rfl
theorem nP.getD{o:Option V}{u:Option Value}{d:V}{d':Value}(r:nP o u)(rd:RelV d d'):RelV (o.getD d) (u.getD d'):=by
 cases o with
 | none=>cases u with
  | none=>exact rd
  | some _=>exact(show False from r).elim
 | some _=>cases u with
  | none=>exact(show False from r).elim
  | some _=>exact r
theorem KV.val{kvs:List (κ×V)}{vs:List (κ×Value)}(r:KV kvs vs)(k:κ):nP (mT kvs k) (valueAt vs k):=by
 unfold KV at r
 induction r with
 | nil=>exact True.intro
 | @cons p q ps qs h t ih =>
  obtain⟨h1,h2⟩:=h
  by_cases e:p.1=k
  ·have e':q.1=k:=h1.symm.trans e
   have b:valueAt (q::qs) k=some q.2:=by simp[valueAt,List.find?_cons,e']
   rw[l6 e,b];exact h2
  ·have e':¬ q.1=k:=λz=>e (h1.trans z)
   have b:valueAt (q::qs) k=valueAt qs k:=by simp[valueAt,List.find?_cons,e']
   rw[l7 e,b];exact ih
theorem KV.any{kvs:List (κ×V)}{vs:List (κ×Value)}(r:KV kvs vs)(k:κ):(kvs.any λkv=>decide (kv.1=k))=vs.any λkv=>decide (kv.1=k):=by
 unfold KV at r
 induction r with
 | nil=>rfl
 | cons h t ih=>rw[List.any_cons,List.any_cons,ih,h.1]
theorem KV.wy{kvs:List (κ×V)}{vs:List (κ×Value)}(r:KV kvs vs)(k:κ){y:V}{u:Value}(ry:RelV y u) :
  KV (kvs.map λkv=>if kv.1=k then (kv.1,y) else kv) (vs.map λkv=>if kv.1=k then (kv.1,u) else kv):=by
 unfold KV at r ⊢
 induction r with
 | nil=>exact .nil
 | @cons p q ps qs h t ih =>
  rw[List.map_cons,List.map_cons]
  refine .cons ?_ ih
  obtain⟨h1,h2⟩:=h
  by_cases e:p.1=k
  ·rw[if_pos e,if_pos (h1.symm.trans e)];exact⟨h1,ry⟩
  ·rw[if_neg e,if_neg (λz=>e (h1.trans z))];exact⟨h1,h2⟩
theorem KV.put{kvs:List (κ×V)}{vs:List (κ×Value)}(r:KV kvs vs)(k:κ){y:V}{u:Value}(ry:RelV y u):KV (putK kvs k y) (stored vs k u):=by
 unfold putK stored
 rw[r.any k]
 by_cases e:(vs.any λkv=>decide (kv.1=k))=true
 ·rw[if_pos e,if_pos e];exact r.wy k ry
 ·rw[if_neg e,if_neg e];exact Paired.snoc r ⟨rfl,ry⟩
theorem KV.length{kvs:List (κ×V)}{vs:List (κ×Value)}(r:KV kvs vs):kvs.length=vs.length:=Paired.length r
end
theorem BZ{P:Program}{w:World}{k:Key}{u:Value}(r:RelV (kV k) u):(b8 P w).is k u=true:=by
 cases k with
 | inl i=>obtain⟨t,e⟩:=(show ∃t,u=Value.int i t from r);subst e;exact uw P w i t
 | inr x=>obtain⟨t,e⟩:=(show ∃t,u=Value.str x t from r);subst e;exact ux P w x t
theorem rj{P:Program}{w:World}:∀{ks:List Key}{us:List Value},Vals (ks.map kV) us->ItemsAre (b8 P w) ks us
 | [],_,r=>by rw[List.map_nil] at r;cases r;exact .nil
 | k::ks,_,r=>by
  rw[List.map_cons] at r
  cases r with
  | cons h t=>exact .cons (BZ h) (rj t)
abbrev KT(H:Hp):List (List Key×V)->List (List Key×Addr×Value)->Prop:=Paired λp q=>p.1=q.1/\H q.2.1=some (.tup (p.1.map kV))/\RelV p.2 q.2.2
theorem KT.val{H:Hp}{kvs:List (List Key×V)}{xs:List (List Key×Addr×Value)}(r:KT H kvs xs)(k:List Key):nP (mT kvs k) ((atKey xs k).map (·.2)):=by
 induction r with
 | nil=>exact True.intro
 | @cons p q ps qs h t ih =>
  obtain⟨h1,_,h2⟩:=h
  by_cases e:p.1=k
  ·have e':q.1=k:=h1.symm.trans e
   have b:atKey (q::qs) k=some q.2:=by simp[atKey,List.find?_cons,e']
   rw[l6 e,b];exact h2
  ·have e':¬ q.1=k:=λz=>e (h1.trans z)
   have b:atKey (q::qs) k=atKey qs k:=by simp[atKey,List.find?_cons,e']
   rw[l7 e,b];exact ih
theorem KT.wy{H:Hp}{kvs:List (List Key×V)}{xs:List (List Key×Addr×Value)}(r:KT H kvs xs)(k:List Key){y:V}{u:Value}(ry:RelV y u) :
  KT H (kvs.map λkv=>if kv.1=k then (kv.1,y) else kv) (xs.map (putAt k u)):=by
 induction r with
 | nil=>exact .nil
 | @cons p q ps qs h t ih =>
  rw[List.map_cons,List.map_cons]
  refine .cons ?_ ih
  obtain⟨h1,h2,h3⟩:=h
  unfold putAt
  by_cases e:p.1=k
  ·rw[if_pos e,if_pos (h1.symm.trans e)];exact⟨h1,h2,ry⟩
  ·rw[if_neg e,if_neg (λz=>e (h1.trans z))];exact⟨h1,h2,h3⟩
theorem KT.put{H:Hp}{kvs:List (List Key×V)}{xs:List (List Key×Addr×Value)}(r:KT H kvs xs)(k:List Key){b:Addr}{y:V}{u:Value}(hb:H b=some (.tup (k.map kV)))(ry:RelV y u) :
  KT H (putK kvs k y) (storedH xs k b u):=by
 have e:(kvs.any λkv=>decide (kv.1=k))=(atKey xs k).isSome:=by
  rw[uJ,(r.val k).zY,Option.isSome_map]
 unfold putK storedH
 rw[e]
 by_cases q:(atKey xs k).isSome=true
 ·rw[if_pos q,if_pos q];exact r.wy k ry
 ·rw[if_neg q,if_neg q];exact Paired.snoc r ⟨rfl,hb,ry⟩
theorem KT.keeps{H H':Hp}{kvs:List (List Key×V)}{xs:List (List Key×Addr×Value)}(r:KT H kvs xs)(ht:∀b ys,H b=some (.tup ys)->H' b=some (.tup ys)):KT H' kvs xs :=
 Paired.EV r λ_ _ z=>⟨z.1,ht _ _ z.2.1,z.2.2⟩
section
variable{P:Program}{w:World}{H:Hp}{h:Heap}{a:Addr}
theorem B0{u:HO}(ok:HOk P w H h)(e:Rd H a u):cG P w H h a u:=e.ok ok
theorem B1{kvs:List (Key×V)}(ok:HOk P w H h)(e:Rd H a (.dK kvs)):kvs.length≤sizeLine/\(a==sysModules)=false/\∃vs,KV kvs vs/\h.DictOf (b8 P w) a vs :=
 let ⟨z,y,vs,r,d⟩:=(show cG P w H h a (.dK kvs) from B0 ok e);⟨z,y,vs,r,d.dictOf⟩
theorem uK{kvs:List (Key×V)}(ok:HOk P w H h)(e:Rd H a (.dK kvs)):kvs.length≤sizeLine/\(a==sysModules)=false/\∃vs,KV kvs vs/\h.DictAt (b8 P w) a vs vs.length :=
 show cG P w H h a (.dK kvs) from B0 ok e
theorem wz{ks:List Key}(ok:HOk P w H h)(e:H a=some (.tup (ks.map kV))):(tupleKind (b8 P w)).is h ks a:=by
 obtain⟨_,its,r,o,h1,h2,n,h3⟩:=(show cG P w H h a (.tup (ks.map kV)) from ok a _ e)
 exact⟨o,its.toArray,n,h1,h2,h3,by simpa using rj r⟩
theorem B2{kvs:List (List Key×V)}(ok:HOk P w H h)(e:Rd H a (.dT kvs)):kvs.length≤sizeLine/\(a==sysModules)=false /\
  ∃xs,KT H kvs xs/\h.DictOfH (tupleKind (b8 P w)) a xs:=by
 obtain⟨z,y,xs,r,o,es,ep,h1,h2,h3,h4,h5⟩:=(show cG P w H h a (.dT kvs) from B0 ok e)
 refine⟨z,y,xs,r,o,es,ep,h1,h2,h3,h4,λx hx=>?_,h5⟩
 have all:∀{l:List (List Key×V)}{m:List (List Key×Addr×Value)},KT H l m->∀x∈m,(tupleKind (b8 P w)).is h x.1 x.2.1:=by
  intro l m q
  induction q with
  | nil=>intro x hx;exact nomatch hx
  | @cons p q ps qs hq t ih =>
   intro x hx
   rcases List.mem_cons.mp hx with e|hx
   ·subst e
    exact wz ok (by rw[← hq.1];exact hq.2.1)
   ·exact ih x hx
 exact all r x hx
theorem LJ{kvs:List (List Key×V)}(ok:HOk P w H h)(e:H a=some (.dT kvs)):kvs.length≤sizeLine/\(a==sysModules)=false /\
  ∃xs,KT H kvs xs/\h.DictOfH (tupleKind (b8 P w)) a xs:=B2 ok (.inl e)
end
def zZ(H:Hp)(a:Addr)(y:V)(r:Option V):Prop :=
 (∃kvs k,Rd H a (.dK kvs)/\y=kV k/\r=mT kvs k)∨∃kvs k b,Rd H a (.dT kvs)/\y=.ref b/\H b=some (.tup (k.map kV))/\r=mT kvs k
def B3(H:Hp)(a:Addr)(y v:V)(H':Hp):Prop :=
 (∃kvs k,H a=some (.dK kvs)/\y=kV k/\kvs.length<sizeLine/\H'=upd H a (.dK (putK kvs k v))) ∨
 ∃kvs k b,H a=some (.dT kvs)/\y=.ref b/\H b=some (.tup (k.map kV))/\kvs.length<sizeLine/\H'=upd H a (.dT (putK kvs k v))
theorem zZ.k{H:Hp}{a:Addr}{kvs:List (Key×V)}{k:Key}(e:H a=some (.dK kvs)):zZ H a (kV k) (mT kvs k):=.inl ⟨kvs,k,.inl e,rfl,rfl⟩
theorem B3.k{H:Hp}{a:Addr}{kvs:List (Key×V)}{k:Key}{v:V}(e:H a=some (.dK kvs))(hl:kvs.length<sizeLine):B3 H a (kV k) v (upd H a (.dK (putK kvs k v))):=.inl ⟨kvs,k,e,rfl,hl,rfl⟩
section
variable{X:Cx}{pins:List (Addr×Obj)}{σ:St}{H:Hp}{s:Shared}{a:Addr}{y v:V}{u r:Value}{o:Option V}{A:Around}{E:Value->Shared->Prop}
theorem Inv.big(I:Inv X pins σ H s):sysModules<s.heap.objs.size:=by
 have h:mainGlobals<s.heap.objs.size:=(I.mod.glob.keeps I.bk).lt
 exact Nat.lt_trans (by decide) h
theorem z_{Q:Value->Shared->Prop}(hu:A.units+1<cLine)(I:Inv X pins σ H s)(g:zZ H a y (some v))(ry:RelV y u)(h:∀w' s',Inv X pins σ H s'->RelV v w'->Q w' s') :
  wpAny (model X.prog X.w) A (getItem (.ref a) u) Q E s:=by
 rcases g with ⟨kvs,k,e,ey,l⟩|⟨kvs,k,b,e,ey,eb,l⟩
 ·subst ey
  obtain⟨z,hd,vs,rel,dd⟩:=B1 I.hok e
  obtain⟨w',hw,rw'⟩:=nP.some_of (v:=v) (o:=valueAt vs k) (by rw[l];exact rel.val k)
  exact wpAny_getItem_of (BZ ry) dd.mapOf hw (h w' _ (I.tok _) rw')
 ·subst ey
  cases (show u=Value.ref b from ry)
  obtain⟨z,hd,xs,rel,dd⟩:=B2 I.hok e
  obtain⟨w',hw,rw'⟩:=nP.some_of (v:=v) (o:=(atKey xs k).map (·.2)) (by rw[l];exact rel.val k)
  obtain⟨p,hp,hp2⟩:=Option.map_eq_some_iff.mp hw
  refine wpAny_getItem_heap (tupleKind_room_in1 hu) (wz I.hok eb) dd hp ?_
  rw[hp2]
  exact h w' _ (I.tok _) rw'
theorem yx{h':Heap}{t':Nat}{ob:HO}(I:Inv X pins σ H s)(mu:Mut (H a))(hs:Heap.SameBut a s.heap h')(he:∃q,h'.get? a=some q)(new:cG X.prog X.w (upd H a ob) h' a ob) :
  Inv X pins σ (upd H a ob) { s with heap:=h',toks:=t' } :=
 I.write (x:=a) (e:=a) mu (.inl rfl) (λb q hb z=>(hs.2 b hb).trans z) he new
theorem IZ{P:Program}{w:World}{H':Hp}{h':Heap}{kvs:List (Key×V)}{vs:List (Key×Value)}(z:kvs.length≤sizeLine)(hd:(a==sysModules)=false)(rel:KV kvs vs)(dd:h'.DictAt (b8 P w) a vs vs.length) :
  cG P w H' h' a (.dK kvs):=⟨z,hd,vs,rel,dd⟩
theorem wA {P : Program} {w : World} {κ : Type} [DecidableEq κ] {knd : KeyKind P w κ} {A : Around} {E : Value -> Shared -> Prop} {s : Shared} {d : Addr} {kvs : List (κ × Value)} {k : κ} {key v : Value} {Q : Unit -> Shared -> Prop} (Aa : knd.is k key = true) (hm : s.heap.DictAt knd d kvs kvs.length)
    (hsz : kvs.length ≤ sizeLine) (hQ : ∀ h', h'.DictAt knd d (stored kvs k v) (stored kvs k v).length -> Heap.SameBut d s.heap h' -> Q () { s with heap := h', toks := s.toks + 1 }) :
    wpAny (model P w) A (dictSet d key v) Q E s := by
  obtain ⟨o, es, ho, hc, hd, hk, hp, hn⟩ := hm
  have hes : es.size ≤ sizeLine := by have e1 := hp.length; have e2 : es.toList.length = es.size := by simp
                                      lia
  unfold dictSet
  try with_reducible refine wpAny_holding ?_
  refine wpAny_bind (knd.pyHash Aa ?_)
  unfold dictSetHashed
  try with_reducible refine wpAny_holding ?_
  refine wpAny_bind (wpAny_dictFind_of (s := { s with toks := s.toks + 1 }) Aa ho hd hk ?_)
  have Fg : (es.findIdx? fun e => knd.is k e.key) = kvs.findIdx? fun kv => decide (kv.1 = k) := by
    rw [← hp.findIdx k]; obtain ⟨l⟩ := es; simp
  cases hi : es.findIdx? fun e => knd.is k e.key with
  | some i =>
    have hst : stored kvs k v = kvs.map fun kv => if kv.1 = k then (kv.1, v) else kv := by rw [stored, if_pos (any_of_findIdx_some (Fg ▸ hi))]
    have hlen : kvs.length = (stored kvs k v).length := by rw [hst, List.length_map]
    refine wpAny_bind (wpAny_rule (wpAny_bind (wpAny_updateDict (s := { s with toks := s.toks + 1 }) ho hd (wpAny_point (hQ _ ⟨_, _, Heap.get?_update_self _ ho (Obj.isFreed_of_dict (Obj.data_mapDict hd _)),
      hc.mapDict _, (Obj.data_mapDict hd _).trans (congrArg (fun n => Data.dict _ n) hlen), hk.modify _ _, ?_, ?_⟩ (Heap.SameBut.update ..))))))
    · rw [stored, if_pos (any_of_findIdx_some (Fg ▸ hi))]
      have hl : (es.toList.findIdx? fun e => knd.is k e.key) = some i := by rw [← hi]; obtain ⟨l⟩ := es; simp
      have := hp.modify hn hl v
      obtain ⟨l⟩ := es
      simpa using this
    · rw [stored, if_pos (any_of_findIdx_some (Fg ▸ hi)), keys_map_store]; exact hn
  | none =>
    have LK : k ∉ kvs.map (·.1) := not_mem_of_findIdx_none (Fg ▸ hi)
    have I0 : ¬ (kvs.any fun kv => decide (kv.1 = k)) = true := by
      rw [List.any_eq_true]; rintro ⟨kv, hkv, he⟩
      exact LK (List.mem_map.mpr ⟨kv, hkv, of_decide_eq_true he⟩)
    have hst : stored kvs k v = kvs ++ [(k, v)] := by rw [stored, if_neg I0]
    have hlen : kvs.length + 1 = (stored kvs k v).length := by rw [hst, List.length_append]; rfl
    refine wpAny_bind (wpAny_rule (wpAny_updateDictKeys (hz := hes) (s := { s with toks := s.toks + 1 }) ho hd (hQ _ ⟨_, _, Heap.get?_update_self _ ho (Obj.isFreed_of_dict (Obj.data_mapDictKeys hd _)),
      hc.mapDictKeys _, (Obj.data_mapDictKeys hd _).trans (congrArg (fun n => Data.dict _ n) hlen), hk.push Aa _, ?_, ?_⟩ (Heap.SameBut.update ..))))
    · rw [stored, if_neg I0]
      have := hp.append Aa (knd.hash k) v
      obtain ⟨l⟩ := es
      simpa using this
    · rw [stored, if_neg I0, List.map_append, List.nodup_append]
      refine ⟨hn, by simp, ?_⟩
      intro a ha b hb
      simp only [List.map_cons, List.map_nil, List.mem_singleton] at hb
      subst hb
      exact fun e => LK (e ▸ ha)
theorem wB{P:Program}{w:World}{κ:Type}[DecidableEq κ]{knd:KeyKind P w κ}{A:Around}{E:Value->Shared->Prop}{s:Shared}{d:Addr}{kvs:List (κ×Value)}{k:κ}{key v:Value}{Q:Unit->Shared->Prop}(Aa:knd.is k key=true)(hm:s.heap.DictAt knd d kvs kvs.length)
  (hsz:kvs.length≤sizeLine) (hQ:∀h',h'.DictAt knd d (stored kvs k v) (stored kvs k v).length->Heap.SameBut d s.heap h'->Q () { s with heap:=h',toks:=s.toks+1 }) :
  wpAny (model P w) A (setItem (.ref d) key v) Q E s:=by
 have hT:=hm.dictOf.typeIs
 unfold setItem
 try with_reducible refine wpAny_holding ?_
 refine wpAny_bind (wpAny_sequenceKey hT (by decide) ?_)
 refine wpAny_bind (wpAny_callSpecial?_slot (name:=Str.ofString "__setitem__") hT slot_dict_setitem
  (wpAny_call_entry slot_dict_setitem hT entry_dict_setitem ?_ (args_dict_setitem _ _ _)))
 show wpAny _ _ (Builtin.Dict.notOrdered "__setitem__" ⟨[.ref d,key,v],[]⟩>>=_) _ _ s
 refine wpAny_bind (wpAny_notOrdered_dict hT ?_)
 show wpAny _ _ (dictSet d key v>>=_) _ _ s
 exact wpAny_bind (wA Aa hm hsz λh' hm' hs'=>wpAny_pure ⟨.none,rfl,wpAny_pure (hQ h' hm' hs')⟩)
theorem Ab{H':Hp}{Q:Unit->Shared->Prop}(hu:A.units+1<cLine)(I:Inv X pins σ H s)(g:B3 H a y v H')(ry:RelV y u)(rv:RelV v r)(h:∀s',Inv X pins σ H' s'->Q () s') :
  wpAny (model X.prog X.w) A (setItem (.ref a) u r) Q E s:=by
 rcases g with ⟨kvs,k,e,ey,l,eH⟩|⟨kvs,k,b,e,ey,eb,l,eH⟩
 ·subst ey eH
  obtain⟨z,hd,vs,rel,dd⟩:=uK I.hok (.inl e)
  have hz:vs.length≤sizeLine:=by rw[← rel.length];exact z
  have hl:(putK kvs k v).length≤sizeLine:=by have:=nE kvs k v;lia
  refine wB (BZ ry) dd hz λh' dd' hs=>h _ ?_
  have he:∃q,h'.get? a=some q:=let ⟨q,_,hq,_⟩:=dd';⟨q,hq⟩
  exact yx I (by rw[e];exact True.intro) hs he (IZ hl hd (rel.put k rv) dd')
 ·subst ey eH
  cases (show u=Value.ref b from ry)
  obtain⟨z,hd,xs,rel,dd⟩:=LJ I.hok e
  have hz:xs.length≤sizeLine:=by rw[← Paired.length rel];exact z
  have hl:(putK kvs k v).length≤sizeLine:=by have:=nE kvs k v;lia
  refine wpAny_setItem_heap (hsz:=hz) (tupleKind_room_in1 hu) (wz I.hok eb) dd λh' dd' hs=>h _ ?_
  obtain⟨q,es,ep,hq,h2,h3,h4,_,h5⟩:=dd'
  refine yx I (by rw[e];exact True.intro) hs ⟨q,hq⟩ ⟨hl,hd,_,(rel.put k eb rv).keeps λc ys ec=>?_,q,es,ep,hq,h2,h3,h4,h5⟩
  rw[aF (K9 ec e (λz=>nomatch z))]
  exact ec
end
section
variable{X:Cx}{pins:List (Addr×Obj)}{σ:St}{H:Hp}{s:Shared}{a:Addr}{kvs:List (Key×V)}{k:Key}{u:Value}{A:Around}{E:Value->Shared->Prop}
theorem LM{Q:Value->Shared->Prop}(I:Inv X pins σ H s)(e:Rd H a (.dK kvs))(h:∀t s',Inv X pins σ H s'->Q (.int kvs.length t) s'):wpAny (model X.prog X.w) A (call (.builtin "len") [.ref a]) Q E s:=by
 obtain⟨z,hd,vs,rel,dd⟩:=B1 I.hok e
 refine call_len_dict hd dd (by rw[← rel.length];rw[sizeLine_eq] at z;lia) ?_
 rw[← rel.length]
 exact h _ _ (I.tok _)
end
def I_(i:Expr):Prop:=∀ov iv,subscripted i false ov iv=operate [ov,iv] (getItem ov iv)
theorem Fh{prog:Program}{w:World}{A:Around}{E:Value->Shared->Prop}{s:Shared}{env:Env}{value slice:Expr}{pos:Pos}{T id:String}{Q:Value->Shared->Prop}
  (hl:typeLookup (.type T) "__getitem__"=pure (some (.builtin id))) (hs:I_ slice)
  (h:wpAny (model prog w) A (eval value env) (λo s₁=>wpAny (model prog w) A (eval slice env) (λi s₂=>s₂.TypeIs o T/\wpAny (model prog w) A (getItem o i) Q E s₂) E s₁) E s) :
  wpAny (model prog w) A (eval (.Subscript value slice pos) env) Q E s:=by
 refine Subscript_ (wpAny_mono h (λo s₁ h₁=>wpAny_mono h₁ (λi s₂ h₂=>?_) λ_ _ x=>x) λ_ _ x=>x)
 obtain⟨hT,h₂⟩:=h₂
 unfold subscriptTail
 refine wpAny_bind ?_
 rw[getitemInPython_of_ne hT.not_modules]
 refine wpAny_bind (wpAny_specialOf hT hl ?_)
 have fin:wpAny (model prog w) A (subscripted slice false o i) (λr s₃=>wpAny (model prog w) A (letTemporaryGo value o r>>=λ_=>pure r) Q E s₃) E s₂:=by
  rw[hs o i]
  exact wpAny_operating (wpAny_mono h₂ (λr s₃ h₃=>wpAny_bind (wpAny_letTemporaryGo (wpAny_pure h₃))) λ_ _ x=>x)
 first
  | exact wpAny_pure (wpAny_bind fin)
  | exact wpAny_bind (wpAny_pure (wpAny_bind fin))
  | exact wpAny_bind fin
theorem uL{X:Cx}{pins:List (Addr×Obj)}{σ:St}{H:Hp}{s:Shared}{a:Addr}{y:V}{o:Option V}(I:Inv X pins σ H s)(g:zZ H a y o):s.TypeIs (.ref a) "dict":=by
 rcases g with ⟨kvs,k,e,_,_⟩|⟨kvs,k,b,e,_,_,_⟩
 ·obtain⟨_,_,vs,_,dd⟩:=B1 I.hok e
  exact dd.typeIs
 ·obtain⟨_,_,xs,_,dd⟩:=B2 I.hok e
  exact dd.typeIs
def HC(td ty:TE):TE:=λσ H Q=>td σ H λx H1=>ty σ H1 λy H2=>∃a v,x=.ref a/\zZ H2 a y (some v)/\Q v H2
def LN(td ty tv:TE):TS:=λD σ H=>tv σ H λv H1=>td σ H1 λx H2=>ty σ H2 λy H3=>∃a H4,x=.ref a/\B3 H3 a y v H4/\D.nx σ H4
section
variable{X:Cx}{o i e value:Expr}{pos pos' cW:Pos}{td ty tv:TE}
theorem Fi(hu:X.A.units+1<cLine)(ho:PE X o td)(hi:PE X i ty)(hs:I_ i):PE X (.Subscript o i pos) (HC td ty):=by
 intro pins s σ H Q I h
 refine Fh PySem.F.slot_dict_getitem.lookup hs (thn (ho pins s σ H _ I h) λu s1 ⟨x,H1,I1,rx,q1⟩=>thn (hi pins s1 σ H1 _ I1 q1) λiv s2 aj=>?_)
 obtain⟨y,H2,I2,ry,a,v,ex,g,q2⟩:=aj
 subst ex
 obtain rfl:u=Value.ref a:=rx
 exact⟨uL I2 g,z_ hu I2 g ry λw' s3 I3 rw'=>⟨v,H2,I3,rw',q2⟩⟩
theorem Fj(hu:X.A.units+1<cLine)(ho:PE X o td)(hi:PE X i ty)(hv:PE X value tv)(hs:swapsWith value (some (.Subscript o i pos')) pos.line X.env=pure false) :
  PS X (.Assign [.Subscript o i pos'] value pos) (LN td ty tv):=by
 intro pins s σ H D I h
 refine wpAny_Assign_Subscript (thn (hv pins s σ H _ I h) λr s1 ⟨v,H1,I1,rv,q1⟩=>thn (ho pins s1 σ H1 _ I1 q1) λu s2 ⟨x,H2,I2,rx,q2⟩=>thn (hi pins s2 σ H2 _ I2 q2) λiv s3 aj=>?_) hs
 obtain⟨y,H3,I3,ry,a,H4,ex,g,q3⟩:=aj
 subst ex
 obtain rfl:u=Value.ref a:=rx
 exact Ab hu I3 g ry rv λs4 I4=>⟨σ,H4,I4,q3⟩
end
theorem B4{P:Program}{w:World}{H:Hp}(h:Heap)(hb:sysModules<h.objs.size):cG P w H (h.push { cls:=.type "dict",data:=.dict #[] }) h.objs.size (.dK []) :=
 ⟨Nat.zero_le _,beq_eq_false_iff_ne.mpr (Ne.symm (Nat.ne_of_lt hb)),[],.nil,_,#[],Heap.get?_push_size _ rfl,⟨rfl,rfl,rfl⟩,rfl,λe he=>by simp at he,.nil,List.nodup_nil⟩
def Ja:TE:=λ_ H Q=>∀p,H p=none->Q (.ref p) (upd H p (.dK []))
section
variable{X:Cx}{pos:Pos}
theorem B5:PE X (.Dict [] [] pos) Ja:=λpins s σ H Q I h =>
 wpAny_Dict_empty ⟨.ref s.heap.objs.size,_,I.laid (a:=s.heap.objs.size) (o:=.dK []) (t':=s.toks) (λ_ _ q=>Heap.get?_push_of_some _ q) (Nat.le_refl _) (B4 s.heap I.big),rfl,h _ (I.hok.fresh (Nat.le_refl _))⟩
end
section
variable{X:Cx}{pins:List (Addr×Obj)}{σ:St}{H:Hp}{s:Shared}{a:Addr}{y d:V}{u r:Value}{o:Option V}{A:Around}{E:Value->Shared->Prop}
end
section
variable{X:Cx}{o e f:Expr}{apos cL:Pos}{td ty tx:TE}
end
section
variable{X:Cx}{pins:List (Addr×Obj)}{σ:St}{H:Hp}{s:Shared}{a:Addr}{kvs:List (Key×V)}{A:Around}{E:Value->Shared->Prop}
end
section
variable{X:Cx}{pins:List (Addr×Obj)}{σ:St}{H:Hp}{s:Shared}{a:Addr}{y:V}{u:Value}{A:Around}{E:Value->Shared->Prop}
end
end L2
namespace Att
open PySem PySem.W PySem.Calls PyProof.Rows
theorem nS{P:Params}{h:Heap}:∀(ns:List Int) (vs:List Value),WellAll P h vs (ns.map WData.int)->IntsAre vs ns:=by
 intro ns
 induction ns with
 | nil =>
  intro vs w
  rw[List.map_nil] at w
  cases w
  exact .nil
 | cons n ns ih =>
  intro vs w
  rw[List.map_cons] at w
  cases w with
  | cons a b =>
   cases a
   exact .cons _ _ (ih _ b)
theorem Ac{l:OpenLaw}{n:Nat}(hn:l.most=some n){P:Params}{h:Heap}{args:List WData}{vals:List Value}
  (Fl:l.row.toRowW.claim.pre args=true) (hwl:WellAll P h vals args) :
  ∃a vs ns,vals=[Value.ref a]/\args=[WData.list (ns.map WData.int)]/\h.get? a=some { cls:=.type "list",data:=.seq vs.toArray }/\IntsAre vs ns/\ns.length≤n:=by
 have hsh:WShape.hasAll [] args [.list .int]=true:=(pre_splitW Fl).1
 have hc:l.pre.holds [] { args:=args }=true:=(pre_splitW Fl).2
 obtain⟨d,r,rfl,h1,h2⟩:=hasAllW_cons hsh
 obtain rfl:=hasAllW_nil h2
 obtain⟨xs,rfl,h3⟩:=hasW_list h1
 obtain⟨ns,rfl⟩:=items_int h3
 have hlen:ns.length≤n:=by
  unfold OpenLaw.pre at hc
  have h4:(WTm.not (.lt (.lit (.int (n:Int))) (.len (.arg 0)))).holds [] { args:=[.list (ns.map .int)] }=true:=by
   have h4:=(holds_andW hc).1
   rw[hn] at h4
   exact h4
  have h5:=condW_of h4 (w_not (w_lt w_lit (w_len_list (w_arg rfl))))
  rw[List.length_map] at h5
  refine Nat.le_of_not_lt λq=>?_
  have q':(n:Int)<((ns.length:Nat):Int):=by lia
  first
   | (rw[decide_eq_true q'] at h5;exact absurd h5 (by decide))
   | (simp at h5;lia)
 cases hwl with
 | cons w1 w2 =>
  cases w2
  cases w1 with
  | list ho Jb=>exact⟨_,_,ns,rfl,rfl,ho,nS ns _ Jb,hlen⟩
theorem Ad(l:OpenLaw)(args:List WData):l.row.toRowW.claim.post args (.bool true) args=true :=
 postW_of (r:=l.row.toRowW) (X:=(true==true))
  (show WShape.has [] (.bool true) .bool=true by first|rfl|decide|simp[WShape.has,WShape.arms,WShape.armsAll])
  (show(WTm.eq .res (.lit (.bool true))).value [] { args:=args,res:=some (.bool true),after:=args }=some (.bool (true==true)) from w_eq_bool (w_res rfl) w_lit) rfl
theorem uM{l:OpenLaw}{n:Nat}{q:Program}{loose:List Str}{XP:(Str->Option Value)->Heap->Prop}{YP:World->Heap->Prop}{d:DefRec}
  (hn:l.most=some n) (hdf:d.params.defaults=[])
  (call:∀(w:World) (s₀ s₁:Shared) (mg mb:Str->Option Value) (fa:Addr) (o:Obj) (pm cd doc:Value) (a:Addr) (vs:List Value) (ns:List Int),
   Ground q loose [] XP w s₀ mg mb s₁.heap->YP w s₁.heap ->
   s₁.heap.get? fa=some o->o.data=.func (docDef d.name d.params d.body d.scope pm cd doc)->s₁.heap.CodeRec cd d.name->mg d.name=some (.ref fa) ->
   s₁.heap.get? a=some { cls:=.type "list",data:=.seq vs.toArray }->IntsAre vs ns->ns.length≤n->s₁.gens=#[] ->
   codeAny (model l.prog w) callerA (.call (.ref fa) ⟨[.ref a],[]⟩) (λr s'=>r=.ok (.ret (.bool true))/\OldK s₁.heap s'.heap/\s'.os=s₁.os/\AllBare s'.gens) s₁) :
  WalkO q loose XP YP l.row.toRowW d [] (λf vs=>PySem.call f vs):=by
 intro w s₀ s₁ mg mb G Y fa o pm cd doc dV kV ho hd hcd hD hmg hg args vals as Fl Oc hrd hwl hlo
 obtain rfl:dV=.none:=Dflts.none hD hdf
 obtain rfl:kV=.none:=Dflts.noKw hD
 obtain⟨a,vs,ns,rfl,rfl,Jc,hints,hlen⟩:=Ac hn Fl hwl
 refine enter_call (codeAny_mono (call w s₀ s₁ mg mb fa o pm cd doc a vs ns G Y ho (fd_plain hd) hcd hmg Jc hints hlen hg) λr s' hq=>?_)
 obtain⟨rfl,h2,h3,h4⟩:=hq
 exact⟨.inl ⟨.bool true,.bool true,[],rfl,λ_=>rfl,.bool true,Ad l _,λ_=>⟨List.Pairwise.nil,λ_ hm=>(nomatch hm)⟩⟩,h2,h3,h4⟩
section
variable{prog:Program}{w:World}{A:Around}{E:Value->Shared->Prop}{s:Shared}{K:Frag}
end
end Att
namespace L2
open PySem PySem.Spec PyProof.Rows
theorem rk:∀{vs:List Value}{ns:List Int},IntsAre vs ns->Vals (ns.map V.int) vs
 | _,_,.nil=>.nil
 | _,_,.cons n t h=>.cons ⟨t,rfl⟩ (rk h)
def Fm(H:Hp):Prop:=∀b,H b=none∨∃o xs,H b=some (.frz o (.lst xs))
theorem B6{P:Program}{w:World}{K:PySem.W.Frag}{mg mb:Str->Option Value}{CX:CXT}{k:Nat}{fa a:Addr}{fd:FuncData}{x:Str}{sp:Sp}{s₁:Shared}{vs:List Value}{ns:List Int}
  (KX:K.In s₁.heap) (hns:s₁.heap.Ns mainGlobals mg) (hb:s₁.heap.Ns builtinsNs mb) (hbb:∀x:Str,x≠"__name__"->mb x=bootBuiltins x) (NI:s₁.heap.NoLimit) (hg:s₁.gens=#[])
  (ha:s₁.heap.get? a=some { cls:=.type "list",data:=.seq vs.toArray }) (hi:IntsAre vs ns) (hl:ns.length≤sizeLine) (hr:cz k callerA)
  (F:∀base:Heap,K.In base->base.Ns mainGlobals mg->kj P w K mg base CX k fa fd [x] sp) (LO:∀(s:Shared) (u:Value),BindsTo s fd ⟨[u],[]⟩ [(x,u)])
  (hsp:∀H:Hp,Fm H->SqL K H a (ns.map V.int)->sp [.ref a] H (λv _=>v=.bl true) λ_ _ _=>False)
  (hCX:∀H e s',CX [] H s₁ (λ_ _ _=>False) e s'->False) :
  codeAny (model P w) callerA (.call (.ref fa) ⟨[.ref a],[]⟩) (λr s'=>r=.ok (.ret (.bool true))/\OldK s₁.heap s'.heap/\s'.os=s₁.os/\AllBare s'.gens) s₁:=by
 have rv:=rk hi
 have NJ:=hi.length
 have core:∀H:Hp,Fm H->SqL K H a (ns.map V.int)->HOk P w H s₁.heap->(∀b,H b≠none->b=a)->(H a≠none->K.lookup a=none) ->
   codeAny (model P w) callerA (.call (.ref fa) ⟨[.ref a],[]⟩) (λr s'=>r=.ok (.ret (.bool true))/\OldK s₁.heap s'.heap/\s'.os=s₁.os/\AllBare s'.gens) s₁:=by
  intro H hO hS hok hA hK
  have yA:∀{b:Addr}{o:Obj},s₁.heap.get? b=some o->H b=none->(sy s₁.heap H).get? b=some o:=λe n=>BB e n
  have noA:∀{b:Addr}{o:Obj}{es:Array DictEntry}{ep:Nat},s₁.heap.get? b=some o->o.data=.dict es ep->H b=none:=λ{b o es ep} e d=>by
   cases q:H b with
   | none=>rfl
   | some u =>
    have e':b=a:=hA b (by rw[q];simp)
    subst e'
    rw[ha] at e;cases e
    have d':Data.seq vs.toArray _=Data.dict es ep:=d
    cases d'
  have nsK:∀{b:Addr}{m:Str->Option Value},s₁.heap.Ns b m->(sy s₁.heap H).Ns b m:=λ{b m} ⟨o,es,ep,e,d,r⟩=>⟨o,es,ep,yA e (noA e d),d,r⟩
  have hKb:K.In (sy s₁.heap H):=λb o e=>yA (KX b o e) (by
   cases q:H b with
   | none=>rfl
   | some u =>
    have e':b=a:=hA b (by rw[q];simp)
    subst e'
    rw[hK (by rw[q];simp)] at e;cases e)
  have hM:Mod K mg (sy s₁.heap H):=⟨hKb,nsK hns,⟨mb,nsK hb,hbb⟩,let ⟨mc,h1,h2⟩:=NI;⟨mc,nsK h1,h2⟩⟩
  have e0:wo P w K mg (sy s₁.heap H) callerA [] s₁ H:=⟨rfl,hM,λb o e=>EW e,Nat.le_of_eq (zL _ _),trivial,λb hb=>absurd (show b∈([]:List Addr) from hb) (by simp),hok,.of_eq hg⟩
  refine codeAny_mono ((F _ hKb (nsK hns)).run callerA [] s₁ H ⟨[.ref a],[]⟩ [.ref a] [.ref a] _ _ hr e0 (LO s₁ (.ref a)) (.cons rfl .nil) (hsp H hO hS)) λr s' h=>?_
  cases r with
  | error e=>exact(hCX H e s' h).elim
  | ok fl =>
   cases fl with
   | next=>exact False.elim h
   | brk=>exact False.elim h
   | cont=>exact False.elim h
   | ret u =>
    obtain⟨v,H',os,bare,un,NK,r',q⟩:=h
    have q':v=.bl true:=q
    subst q'
    obtain rfl:u=Value.bool true:=r'
    refine⟨rfl,OldK.of_keep λb o e=>?_,os,bare⟩
    cases q:H b with
    | none=>exact un.keep b o e q (by intro z;exact absurd (show b∈([]:List Addr) from z) (by simp)) (by simp)
    | some u =>
     rcases hO b with z|⟨ob,xs,z⟩
     ·rw[q] at z;cases z
     ·have z2:=un.dq b ob _ z
      obtain⟨e1,_⟩:=hok b _ z
      obtain⟨e2,_⟩:=NK b _ z2
      rw[e] at e1;cases e1
      exact e2
 cases hk:K.lookup a with
 | some o =>
  have e:=KX a o hk
  rw[ha] at e
  cases e
  refine core (λ_=>none) (λ_=>.inl rfl) (.inr ⟨_,vs.toArray,_,hk,rfl,rfl,rfl,by rw[List.size_toArray,NJ];exact hl,by simpa using rv⟩) (λb u z=>by have z':(none:Option HO)=some u:=z;cases z') (λb z=>absurd rfl z) λz=>absurd rfl z
 | none =>
  refine core (λb=>if b=a then some (.frz { cls:=.type "list",data:=.seq vs.toArray } (.lst (ns.map V.int))) else none) (λb=>?_) (.inl (.inr ⟨{ cls:=.type "list",data:=.seq vs.toArray },if_pos rfl⟩)) (λb u z=>?_) (λb z=>?_) λ_=>hk
  ·by_cases hb:b=a
   ·exact .inr ⟨_,_,if_pos hb⟩
   ·exact .inl (if_neg hb)
  ·by_cases hb:b=a
   ·have z':=(if_pos hb).symm.trans z
    cases z'
    subst hb
    exact⟨ha,by rw[List.length_map];exact hl,vs,_,rv,ha⟩
   ·have z':=(if_neg hb).symm.trans z
    cases z'
  ·by_cases hb:b=a
   ·exact hb
   ·exact absurd (if_neg hb) z
theorem Fn{l:PySem.W.OpenLaw}{n k:Nat}{q:Program}{loose:List Str}{XP:(Str->Option Value)->Heap->Prop}{YP:World->Heap->Prop}{d:DefRec}{K:Params->PySem.W.Frag}{CX:World->CXT}{sp:World->Sp}{x:Str}
  (hn:l.most=some n) (hn2:n≤sizeLine) (hdf:d.params.defaults=[]) (hr:cz k callerA)
  (hY:∀(w:World) (h:Heap),YP w h->(K w.params).In h)
  (F:∀(w:World) (mg:Str->Option Value) (fa:Addr) (h:Heap),(K w.params).In h->h.Ns mainGlobals mg->mg d.name=some (.ref fa) ->
   ∃fd:FuncData,(∀(s:Shared) (u:Value),BindsTo s fd ⟨[u],[]⟩ [(x,u)]) /\
    ∀base:Heap,(K w.params).In base->base.Ns mainGlobals mg->kj l.prog w (K w.params) mg base (CX w) k fa fd [x] (sp w))
  (hsp:∀(w:World) (H:Hp) (a:Addr) (ns:List Int),ns.length≤n->Fm H->SqL (K w.params) H a (ns.map V.int)->sp w [.ref a] H (λv _=>v=.bl true) λ_ _ _=>False)
  (hCX:∀(w:World) (H:Hp) (s:Shared) (e:Value) (s':Shared),CX w [] H s (λ_ _ _=>False) e s'->False) :
  PySem.W.WalkO q loose XP YP l.row.toRowW d [] (λf vs=>PySem.call f vs):=by
 refine Att.uM hn hdf λw s₀ s₁ mg mb fa o pm cd doc a vs ns G Y ho hd hcd hmg Jc hints hlen hg=>?_
 have KX:=hY w _ Y
 obtain⟨fd,hb,hF⟩:=F w mg fa _ KX G.T.g hmg
 exact B6 KX G.T.g G.T.b G.T.builtins G.T.nolimit hg Jc hints (Nat.le_trans hlen hn2) hr hF hb (λH hO hS=>hsp w H a ns hlen hO hS) λH e s'=>hCX w H s₁ e s'
end L2
namespace L2
open PySem PySem.Spec PyProof.Rows
def gG(s:Stmt):Arguments:=match s with
 | .FunctionDef _ a _ _ _ _ _ _ _ _=>a
 | _=>{ posonlyargs:=[],args:=[],vararg:=none,kwonlyargs:=[],kw_defaults:=[],kwarg:=none,defaults:=[] }
def fP(s:Stmt):List Stmt:=match s with
 | .FunctionDef _ _ b _ _ _ _ _ _ _=>b
 | _=>[]
def ar(s:Stmt):Scope:=match s with
 | .FunctionDef _ _ _ _ _ _ sc _ _ _=>sc
 | _=>{ kind:=.function,names:=[],isGenerator:=false,isCoroutine:=false }
abbrev CX0:CXT:=λ_ _ _ _ _ _=>False
abbrev E0:XK:=λ_ _ _=>False
theorem LP{X:Cx}:Passes CX0 X E0:=λ_ _ _ _ _ _ _ h=>h.elim
structure Fun(K:PySem.W.Frag)(x qual:Str)(st:Stmt)(f:Addr)(fd:FuncData):Prop where
 ex:∃(oc:Value) (od:Option Addr) (kV doc pm:Value) (an:Option Addr) (cdv ct:Value) (osl:Array (Option Value)),
  fd=PySem.W.fnOf x qual (gG st) (fP st) (ar st) .none kV doc pm an cdv ct/\K.lookup f=some ⟨oc,od,.func fd,osl⟩/\PySem.W.codeIn K cdv qual=true
 kp:PySem.W.keepIn K (.ref f)=true
section
variable{P:Program}{w:World}{K:PySem.W.Frag}{mg:Str->Option Value}{base:Heap}
theorem Fun.ok{x qual:Str}{st:Stmt}{f:Addr}{fd:FuncData}{N ps:List Str}{k:Nat}{sp:Sp}(F:Fun K x qual st f fd)(S:aU N ps (ar st))(len:∀vs H Q E,sp vs H Q E->vs.length=ps.length)
  (BU:∀(cdv:Value) (A:Around) (outer:List Env) (s:Shared) (H:Hp) (vs:List V) (Q:VK) (E:XK),cz k (A.deeper (envOfC qual (ar st) s.heap.objs.size f cdv))->sp vs H Q E ->
   ∃t,PSs (wq CX0 P w K mg base N qual (ar st) f cdv A outer s H E).nox (fP st) t/\t { nx:=λ_ H'=>Q .non H',rt:=Q } (start N vs) H):kj P w K mg base CX0 (k+1) f fd ps sp:=by
 obtain⟨oc,od,kV,doc,pm,an,cdv,ct,osl,rfl,lk,hcd⟩:=F.ex
 refine Lx lk hcd S len λA outer s H vs Q E hr hsp=>?_
 obtain⟨t,h,q⟩:=BU cdv A outer s H vs Q E hr hsp
 exact⟨t,h.nox,q⟩
theorem Fun.binds{x qual:Str}{st:Stmt}{f:Addr}{fd:FuncData}{ps:List Str}(F:Fun K x qual st f fd)
  (h:∀(kV doc pm:Value) (an:Option Addr) (cdv ct:Value) (us:List Value),us.length=ps.length->bindArgs (PySem.W.fnOf x qual (gG st) (fP st) (ar st) .none kV doc pm an cdv ct) ⟨us,[]⟩=pure (ps.zip us)):Binds K fd ps []:=by
 obtain⟨oc,od,kV,doc,pm,an,cdv,ct,osl,rfl,lk,hcd⟩:=F.ex
 exact .all (h kV doc pm an cdv ct)
theorem Jd{x qual:Str}{st:Stmt}{f:Addr}{oc:Value}{od an:Option Addr}{osl:Array (Option Value)}{kV doc pm cdv ct:Value}(l:K.lookup f=some ⟨oc,od,.func (PySem.W.fnOf x qual (gG st) (fP st) (ar st) .none kV doc pm an cdv ct),osl⟩)
  (c:PySem.W.codeIn K cdv qual=true) (k:PySem.W.keepIn K (.ref f)=true):Fun K x qual st f (PySem.W.fnOf x qual (gG st) (fP st) (ar st) .none kV doc pm an cdv ct):=⟨⟨oc,od,kV,doc,pm,an,cdv,ct,osl,rfl,l,c⟩,k⟩
end
theorem Ae{n:Nat}(h:n≤1000):n<sizeLine:=Nat.lt_of_le_of_lt h (by decide)
section
variable{X:Cx}
theorem pv(i:Nat){x:Str}{pos:Pos}(hN:X.N[i]?=some x:=by rfl)(hv:Vis X.env.scope x:=by first|exact Or.inl rfl|exact Or.inr (Or.inl rfl)|exact Or.inr (Or.inr rfl))(hd:(x==("__debug__":Str))=false:=by decide)
  (hcd:(x==("__classdict__":Str))=false:=by decide):PE X (.Name x pos) (Lb i):=sC hN hv hd hcd
end
def aI(H H':Hp):Prop:=∀b o,H b=some o->H' b=some o
theorem aI.refl(H:Hp):aI H H:=λ_ _ h=>h
theorem aI.trans{H H1 H2:Hp}(a:aI H H1)(b:aI H1 H2):aI H H2:=λc o h=>b c o (a c o h)
theorem aI.free{H H':Hp}(e:aI H H'){l:Addr}(h:H' l=Option.none):H l=Option.none:=by
 cases q:H l with
 | none=>rfl
 | some o =>
  rw[e l o q] at h
  cases h
theorem aI.seq{K:PySem.W.Frag}{H H':Hp}{a:Addr}{xs:List V}(e:aI H H')(h:SqL K H a xs):SqL K H' a xs:=by
 rcases h with (h|⟨o,h⟩)|h
 ·exact .inl (.inl (e _ _ h))
 ·exact .inl (.inr ⟨o,e _ _ h⟩)
 ·exact .inr h
section
variable{X:Cx}
theorem Af:cX X (.builtin "len") (λxs H Q=>∃a kvs,xs=[V.ref a]/\H a=some (.dK kvs)/\Q (.int kvs.length) H):=by
 intro pins s σ H xs us Q I r h
 obtain⟨a,kvs,rfl,ha,q⟩:=h
 obtain⟨u,rfl,ru⟩:=vals1 r
 cases ru
 exact LM I (.inl ha) λt s' I'=>⟨.int kvs.length,H,I',⟨t,rfl⟩,q⟩
end
section
variable{κ:Type}[DecidableEq κ]
end
def CX1(P:Program)(w:World):CXT:=λouter H s E ev s'=>∃(e t C:Addr) (H':Hp) (B:Heap),ev=.ref e/\s'.os=s.os/\AllBare s'.gens/\Un (frs outer) [] H H' s.heap s'.heap/\HOk P w H' s'.heap/\E (.ref C) none H' /\
 Heap.FlyingW B outer e (.ref C) (.ref t) s'.heap/\(∀b o,s.heap.get? b=some o->b∉frs outer->∃o',B.get? b=some o')/\∀b o,H' b=some o->∃o',B.get? b=some o'
theorem Un.held{P:Program}{w:World}{l:List Env}{H H':Hp}{h0 h3 h5 B:Heap}{e:Addr}{cls a0:Value}(U:Un (frs l) [] H H' h0 h3)(hok:HOk P w H' h3)(fl:Heap.FlyingW B l e cls a0 h3)(st:B.StaysIn h5)(up:h3.UpToSlots h5)
  (cov:∀b o,h0.get? b=some o->b∉frs l->∃o',B.get? b=some o') (Je:∀b o,H' b=some o->∃o',B.get? b=some o'):Un (frs l) [] H H' h0 h5/\HOk P w H' h5:=by
 have same:∀b o o',h3.get? b=some o->B.get? b=some o'->h5.get? b=some o:=λb o o' q1 q2=>by
  have:=fl.1 b o' q2
  rw[q1] at this
  cases this
  exact st b o q2
 have slot:∀b o,h3.get? b=some o->b∈frs l->∃sl,h5.get? b=some { o with slots:=sl }:=λb o q hb=>by
  obtain⟨_,o',ho',hnr⟩:=fl.2.2.1.mem hb
  rw[q] at ho'
  cases ho'
  exact up b o q hnr
 refine⟨⟨λb o q n nb hx=>?_,λb o q n hb hx=>?_,U.free,λb o q hx=>?_,U.qy,U.dq,U.qA⟩,λa o q=>?_⟩
 ·obtain⟨o',hB⟩:=cov b o q nb
  exact same b o o' (U.keep b o q n nb hx) hB
 ·obtain⟨sl,e1⟩:=U.slot b o q n hb hx
  obtain⟨sl2,e2⟩:=slot b _ e1 hb
  exact⟨sl2,e2⟩
 ·obtain⟨o2,e2⟩:=U.there b o q hx
  by_cases hb:b∈frs l
  ·obtain⟨sl,e3⟩:=slot b o2 e2 hb
   exact⟨_,e3⟩
  ·obtain⟨o',hB⟩:=cov b o q hb
   exact⟨o2,same b o2 o' e2 hB⟩
 ·refine(hok a o q).uy (λc v hc r=>?_) (λ_ r=>r) λ_ _ r=>r
  have hT:∃o1,H' c=some o1:=by
   rcases hc with rfl|hc
   ·exact⟨_,q⟩
   ·exact⟨_,hc⟩
  obtain⟨o1,h1⟩:=hT
  obtain⟨o',hB⟩:=Je c o1 h1
  exact same c v o' r hB
section
variable{M:Model}{A:Around}{E:Value->Shared->Prop}{h:Heap}{g:Array GenState}{d:Drawn}{t:Nat}{os:OsState}{e C:Addr}{oe:Obj}
 {nm q:Str}{N:Addr}{bs bm:List Value}{Od:Bool}{sn:List Str}{sub:List Value}{ab:Bool}{col:Option Bool}{dd:Option Addr}{k0 k1 k2 k3 k5:Option Value}{newId:String}
 {nm' q':Str}{N' D:Addr}{bs' bm':List Value}{N9:Bool}{sn':List Str}{Oe:List Value}{ab':Bool}{Of:Option Bool}{dd':Option Addr}{k0' k1' k2' k3' k5':Option Value}{NL:String}
end
structure Cau(X:Cx)(pins:List (Addr×Obj))(σ:L2.St)(H':Hp)(e t C:Addr)(B:Heap)(s:Shared):Prop where
 org:∃H0 s0,Inv X pins σ H0 s0/\s.os=s0.os/\Un (frs X.stack) [] H0 H' s0.heap s.heap/\∀b o,s0.heap.get? b=some o->b∉frs X.stack->∃o',B.get? b=some o'
 bare:AllBare s.gens
 hok:HOk X.prog X.w H' s.heap
 fly:Heap.FlyingW B X.stack e (.ref C) (.ref t) s.heap
 cov:∀b o,H' b=some o->∃o',B.get? b=some o'
section
variable{X:Cx}{pins:List (Addr×Obj)}{σ:L2.St}{H':Hp}{e t C:Addr}{B h':Heap}{s:Shared}
theorem Cau.slots{tk:Nat}(c:Cau X pins σ H' e t C B s)(fl:Heap.FlyingW B X.stack e (.ref C) (.ref t) h')(up:s.heap.UpToSlots h'):Cau X pins σ H' e t C B { s with heap:=h',toks:=tk }:=by
 obtain⟨H0,s0,I,hos,U,cov⟩:=c.org
 obtain⟨U',hk⟩:=U.held c.hok c.fly fl.1 up cov c.cov
 exact⟨⟨H0,s0,I,hos,U',cov⟩,c.bare,hk,fl,c.cov⟩
end
section
variable{X:Cx}{pins:List (Addr×Obj)}{σ:L2.St}{H:Hp}{s:Shared}{ev:Value}
end
section
variable{X:Cx}{pins:List (Addr×Obj)}{σ:L2.St}{H':Hp}{e t C D:Addr}{B:Heap}{s:Shared}{bm:List Value}{x:Str}{np pos:Pos}{name:Option Str}{body:List Stmt}{rest:List ExceptHandler}{Q:Flow->Shared->Prop}{E:Value->Shared->Prop}
end
section
variable{X:Cx}{pins:List (Addr×Obj)}{σ:L2.St}{H':Hp}{e t C:Addr}{B:Heap}{s:Shared}{bm:List Value}{pos:Pos}{name:Option Str}{body:List Stmt}{rest:List ExceptHandler}{Q:Flow->Shared->Prop}{E:Value->Shared->Prop}
end
section
variable{X:Cx}{pins:List (Addr×Obj)}{σ:L2.St}{H:Hp}{s:Shared}
end
def Jf(e C:Addr)(h:Heap):Prop:=∃o,h.get? e=some o/\o.cls=.ref C
section
variable{X:Cx}{pins:List (Addr×Obj)}{σ:L2.St}{H':Hp}{e t C:Addr}{B:Heap}{s:Shared}{pos:Pos}{E:Value->Shared->Prop}
end
structure Hel(X:Cx)(pins:List (Addr×Obj))(σ:L2.St)(H':Hp)(e t C:Addr)(B:Heap)(s:Shared):Prop where
 org:∃H0 s0,Inv X pins σ H0 s0/\s.os=s0.os/\Un (frs X.stack) [] H0 H' s0.heap s.heap/\∀b o,s0.heap.get? b=some o->b∉frs X.stack->∃o',B.get? b=some o'
 bare:AllBare s.gens
 hok:HOk X.prog X.w H' s.heap
 held:Heap.HeldW B X.stack e (.ref C) (.ref t) X.env.locals s.heap
 cov:∀b o,H' b=some o->∃o',B.get? b=some o'
theorem Fo{P:Program}{w:World}{l:List Env}{H H':Hp}{h0 h3 h5 B:Heap}(U:Un (frs l) [] H H' h0 h3)(hok:HOk P w H' h3)(st0:B.StaysIn h3)(ff:h3.FunFrames B l)(st:B.StaysIn h5)(up:h3.UpToSlots h5)
  (cov:∀b o,h0.get? b=some o->b∉frs l->∃o',B.get? b=some o') (Je:∀b o,H' b=some o->∃o',B.get? b=some o'):Un (frs l) [] H H' h0 h5/\HOk P w H' h5:=by
 have same:∀b o o',h3.get? b=some o->B.get? b=some o'->h5.get? b=some o:=λb o o' q1 q2=>by
  have:=st0 b o' q2
  rw[q1] at this
  cases this
  exact st b o q2
 have slot:∀b o,h3.get? b=some o->b∈frs l->∃sl,h5.get? b=some { o with slots:=sl }:=λb o q hb=>by
  obtain⟨_,o',ho',hnr⟩:=ff.mem hb
  rw[q] at ho'
  cases ho'
  exact up b o q hnr
 refine⟨⟨λb o q n nb hx=>?_,λb o q n hb hx=>?_,U.free,λb o q hx=>?_,U.qy,U.dq,U.qA⟩,λa o q=>?_⟩
 ·obtain⟨o',hB⟩:=cov b o q nb
  exact same b o o' (U.keep b o q n nb hx) hB
 ·obtain⟨sl,e1⟩:=U.slot b o q n hb hx
  obtain⟨sl2,e2⟩:=slot b _ e1 hb
  exact⟨sl2,e2⟩
 ·obtain⟨o2,e2⟩:=U.there b o q hx
  by_cases hb:b∈frs l
  ·obtain⟨sl,e3⟩:=slot b o2 e2 hb
   exact⟨_,e3⟩
  ·obtain⟨o',hB⟩:=cov b o q hb
   exact⟨o2,same b o2 o' e2 hB⟩
 ·refine(hok a o q).uy (λc v hc r=>?_) (λ_ r=>r) λ_ _ r=>r
  have hT:∃o1,H' c=some o1:=by
   rcases hc with rfl|hc
   ·exact⟨_,q⟩
   ·exact⟨_,hc⟩
  obtain⟨o1,h1⟩:=hT
  obtain⟨o',hB⟩:=Je c o1 h1
  exact same c v o' r hB
section
variable{X:Cx}{pins:List (Addr×Obj)}{σ:L2.St}{H H':Hp}{e t C:Addr}{B:Heap}{s s3:Shared}{ev:Value}{E:Value->Shared->Prop}
theorem Hel.slots{h':Heap}(c:Hel X pins σ H' e t C B s)(hl:Heap.HeldW B X.stack e (.ref C) (.ref t) X.env.locals h')(up:s.heap.UpToSlots h'):Hel X pins σ H' e t C B { s with heap:=h' }:=by
 obtain⟨H0,s0,I,hos,U,cov⟩:=c.org
 obtain⟨U',hk⟩:=Fo U c.hok c.held.1 c.held.2.2.1 hl.1 up cov c.cov
 exact⟨⟨H0,s0,I,hos,U',cov⟩,c.bare,hk,hl,c.cov⟩
end
end L2
namespace Fw
open PySem
abbrev Key:=Sum Int Str
inductive T where
 | non|bl (b:Bool)|int (i:Int)|str (x:Str)
 | lst (ts:List T)|tup (ts:List T)|dct (kts:List (Key×T))|exc (c:Str) (t:Option Str)|dtt (fz:Bool) (kts:List (List Int×Bool))
inductive SV where
 | val (t:T)|cel (k:Nat)|box (xs:List (Sum T Nat))|lbx (xs:List (Sum T Nat))
abbrev af:=List (Bool×T)
abbrev Slots:=List (Option SV)
inductive R(α:Type) where
 | ok (a:α) (μ:af)|err (c:T) (μ:af)|bad
noncomputable def R.bind {α β : Type} (x : R α) (f : α -> af -> R β) : R β := match x with
 | .ok a μ=>f a μ
 | .err c μ=>.err c μ
 | .bad=>.bad
@[simp] theorem R.aQ{α β:Type}(a:α)(μ:af)(f:α->af->R β):(R.ok a μ).bind f=f a μ:=(rfl)
noncomputable def R.lift {α : Type} (o : Option α) (μ : af) : R α := match o with
 | some a=>.ok a μ
 | none=>.bad
@[simp] theorem R.aP{α:Type}(a:α)(μ:af):R.lift (some a) μ=.ok a μ:=(rfl)
theorem R.aM{α β:Type}{x:R α}{f:α->af->R β}{b:β}{μ:af}(h:x.bind f=.ok b μ):∃a μ1,x=.ok a μ1/\f a μ1=.ok b μ:=by
 cases x with
 | ok a μ1=>exact⟨a,μ1,rfl,h⟩
 | err c μ1=>cases h
 | bad=>cases h
theorem R.iy{α:Type}{o:Option α}{μ μ':af}{a:α}(h:R.lift o μ=.ok a μ'):o=some a/\μ=μ':=by
 cases o with
 | none=>cases h
 | some x=>cases h;exact⟨rfl,rfl⟩
def R.calm{α:Type}:R α->R α
 | .ok a μ=>.ok a μ
 | _=>.bad
@[simp] theorem R.cw{α:Type}(a:α)(μ:af):(R.ok a μ).calm=.ok a μ:=(rfl)
theorem R.calm_eq{α:Type}{r:R α}{a:α}{μ:af}(h:r.calm=.ok a μ):r=.ok a μ:=by
 cases r with
 | ok b ν=>exact h
 | err c ν=>cases h
 | bad=>cases h
abbrev D:=Slots->af->R SV
noncomputable def szL : Nat := 16777216
noncomputable def rd (μ : af) : SV -> Option T
 | .val t=>some t
 | .cel k=>(μ[k]?).map (·.2)
 | .box _=>none
 | .lbx _=>none
@[simp] theorem g9(μ:af)(t:T):rd μ (.val t)=some t:=(rfl)
noncomputable def uN (x : Sum T Nat) (μ : af) : R T := match x with
 | .inl t=>.ok t μ
 | .inr k=>match μ[k]? with
  | some (_,t)=>.ok t (μ.set k (false,t))
  | none=>.bad
def jf:List (Sum T Nat)->af->R (List T)
 | [],μ=>.ok [] μ
 | x::xs,μ=>(uN x μ).bind λt μ1=>(jf xs μ1).bind λts μ2=>.ok (t::ts) μ2
def frz(sv:SV)(μ:af):R T:=match sv with
 | .val t=>.ok t μ
 | .cel k=>match μ[k]? with
  | some (_,t)=>.ok t (μ.set k (false,t))
  | none=>.bad
 | .box xs=>(jf xs μ).bind λts μ1=>.ok (.tup ts) μ1
 | .lbx _=>.bad
@[simp] theorem l9(μ:af)(t:T):frz (.val t) μ=.ok t μ:=(rfl)
def dq:List SV->af->R (List T)
 | [],μ=>.ok [] μ
 | x::xs,μ=>(frz x μ).bind λt μ1=>(dq xs μ1).bind λts μ2=>.ok (t::ts) μ2
@[simp] theorem oW(μ:af):dq [] μ=.ok [] μ:=(rfl)
@[simp] theorem jS(x:SV)(xs:List SV)(μ:af):dq (x::xs) μ=(frz x μ).bind λt μ1=>(dq xs μ1).bind λts μ2=>.ok (t::ts) μ2:=(rfl)
theorem Fp(x:Sum T Nat)(μ:af)(c:T)(μ':af):uN x μ≠.err c μ':=by
 cases x with
 | inl t=>intro h;cases h
 | inr k =>
  unfold uN
  cases q:μ[k]? with
  | none=>simp[q]
  | some p=>simp[q]
theorem uO:∀(xs:List (Sum T Nat)) (μ:af) (c:T) (μ':af),jf xs μ≠.err c μ'
 | [],μ,c,μ'=>by intro h;cases h
 | x::xs,μ,c,μ'=>by
  unfold jf
  cases q:uN x μ with
  | err d μ1=>exact absurd q (Fp x μ d μ1)
  | bad=>intro h;cases h
  | ok t μ1 =>
   rw[R.aQ]
   cases q2:jf xs μ1 with
   | err d μ2=>exact absurd q2 (uO xs μ1 d μ2)
   | bad=>intro h;cases h
   | ok ts μ2=>intro h;cases h
theorem oX(x:SV)(μ:af)(c:T)(μ':af):frz x μ≠.err c μ':=by
 cases x with
 | val t=>intro h;cases h
 | cel k =>
  unfold frz
  cases q:μ[k]? with
  | none=>simp[q]
  | some p=>simp[q]
 | box xs =>
  show(jf xs μ).bind _≠_
  cases q:jf xs μ with
  | err d μ1=>exact absurd q (uO xs μ d μ1)
  | bad=>intro h;cases h
  | ok t μ1=>intro h;cases h
 | lbx xs=>intro h;cases h
theorem oA:∀(xs:List SV) (μ:af) (c:T) (μ':af),dq xs μ≠.err c μ'
 | [],μ,c,μ'=>by intro h;cases h
 | x::xs,μ,c,μ'=>by
  rw[jS]
  cases q:frz x μ with
  | err d μ1=>exact absurd q (oX x μ d μ1)
  | bad=>intro h;cases h
  | ok t μ1 =>
   rw[R.aQ]
   cases q2:dq xs μ1 with
   | err d μ2=>exact absurd q2 (oA xs μ1 d μ2)
   | bad=>intro h;cases h
   | ok ts μ2=>intro h;cases h
noncomputable def slot (e : Slots) (i : Nat) : Option SV := match e[i]? with
 | some (some sv)=>some sv
 | _=>none
@[simp] theorem bT(x:SV)(e:Slots):slot (some x::e) 0=some x:=(rfl)
@[simp] theorem Ag(e:Slots):slot (none::e) 0=none:=(rfl)
@[simp] theorem bU(x:Option SV)(e:Slots)(i:Nat):slot (x::e) (i+1)=slot e i:=(rfl)
def aa(i:Nat):D:=λe μ=>R.lift (slot e i) μ
@[simp] theorem cU(i:Nat)(e:Slots)(μ:af):aa i e μ=R.lift (slot e i) μ:=(rfl)
noncomputable def dC (t : T) : D := fun _ μ => .ok (.val t) μ
@[simp] theorem oY(t:T)(e:Slots)(μ:af):dC t e μ=.ok (.val t) μ:=(rfl)
noncomputable def ap1 (f : T -> Option T) : Option T -> Option SV
 | some t=>(f t).map SV.val
 | none=>none
noncomputable def ap2 (f : T -> T -> Option T) : Option T -> Option T -> Option SV
 | some t,some u=>(f t u).map SV.val
 | _,_=>none
@[simp] theorem l_(f:T->Option T)(t:T):ap1 f (some t)=(f t).map SV.val:=(rfl)
@[simp] theorem ma(f:T->T->Option T)(t u:T):ap2 f (some t) (some u)=(f t u).map SV.val:=(rfl)
theorem iz{f:T->Option T}{o:Option T}{w:SV}(h:ap1 f o=some w):∃t u,o=some t/\f t=some u/\w=.val u:=by
 cases o with
 | none=>cases h
 | some t =>
  obtain⟨u,h1,rfl⟩:=Option.map_eq_some_iff.mp (show(f t).map SV.val=some w from h)
  exact⟨t,u,rfl,h1,rfl⟩
theorem mU{f:T->T->Option T}{o p:Option T}{w:SV}(h:ap2 f o p=some w):∃t u v,o=some t/\p=some u/\f t u=some v/\w=.val v:=by
 cases o with
 | none=>cases p<;>cases h
 | some t =>
  cases p with
  | none=>cases h
  | some u =>
   obtain⟨v,h1,rfl⟩:=Option.map_eq_some_iff.mp (show(f t u).map SV.val=some w from h)
   exact⟨t,u,v,rfl,rfl,h1,rfl⟩
def dUn(f:T->Option T)(a:D):D:=λe μ=>(a e μ).bind λx μ1=>R.lift (ap1 f (rd μ1 x)) μ1
@[simp] theorem sM(f:T->Option T)(a:D)(e:Slots)(μ:af):dUn f a e μ=(a e μ).bind λx μ1=>R.lift (ap1 f (rd μ1 x)) μ1:=(rfl)
def ah(f:T->T->Option T)(a b:D):D:=λe μ=>(a e μ).bind λx μ1=>(b e μ1).bind λy μ2=>R.lift (ap2 f (rd μ2 x) (rd μ2 y)) μ2
@[simp] theorem gH(f:T->T->Option T)(a b:D)(e:Slots)(μ:af):ah f a b e μ=(a e μ).bind λx μ1=>(b e μ1).bind λy μ2=>R.lift (ap2 f (rd μ2 x) (rd μ2 y)) μ2:=(rfl)
noncomputable def asB : SV -> Option Bool
 | .val (.bl b)=>some b
 | _=>none
@[simp] theorem gg(b:Bool):asB (.val (.bl b))=some b:=(rfl)
def mV(a b:D):D:=λe μ=>(a e μ).bind λx μ1=>(R.lift (asB x) μ1).bind λk μ1=>if k=true then b e μ1 else .ok (.val (.bl false)) μ1
def dOr(a b:D):D:=λe μ=>(a e μ).bind λx μ1=>(R.lift (asB x) μ1).bind λk μ1=>if k=true then .ok (.val (.bl true)) μ1 else b e μ1
def gh(a:D):D:=λe μ=>(a e μ).bind λx μ1=>(R.lift (asB x) μ1).bind λk μ1=>.ok (.val (.bl (!k))) μ1
def Fq(c a b:D):D:=λe μ=>(c e μ).bind λx μ1=>(R.lift (asB x) μ1).bind λk μ1=>if k=true then a e μ1 else b e μ1
@[simp] theorem Fs(a b:D)(e:Slots)(μ:af):mV a b e μ=(a e μ).bind λx μ1=>(R.lift (asB x) μ1).bind λk μ1=>if k=true then b e μ1 else .ok (.val (.bl false)) μ1:=(rfl)
@[simp] theorem Jg(a b:D)(e:Slots)(μ:af):dOr a b e μ=(a e μ).bind λx μ1=>(R.lift (asB x) μ1).bind λk μ1=>if k=true then .ok (.val (.bl true)) μ1 else b e μ1:=(rfl)
@[simp] theorem Ft(a:D)(e:Slots)(μ:af):gh a e μ=(a e μ).bind λx μ1=>(R.lift (asB x) μ1).bind λk μ1=>.ok (.val (.bl (!k))) μ1:=(rfl)
@[simp] theorem Fu(c a b:D)(e:Slots)(μ:af):Fq c a b e μ=(c e μ).bind λx μ1=>(R.lift (asB x) μ1).bind λk μ1=>if k=true then a e μ1 else b e μ1:=(rfl)
def cM:List D->Slots->af->R (List SV)
 | [],_,μ=>.ok [] μ
 | d::ds,e,μ=>(d e μ).bind λx μ1=>(cM ds e μ1).bind λxs μ2=>.ok (x::xs) μ2
@[simp] theorem cP(e:Slots)(μ:af):cM [] e μ=.ok [] μ:=(rfl)
@[simp] theorem bh(d:D)(ds:List D)(e:Slots)(μ:af):cM (d::ds) e μ=(d e μ).bind λx μ1=>(cM ds e μ1).bind λxs μ2=>.ok (x::xs) μ2:=(rfl)
def ee(ds:List D):D:=λe μ=>(cM ds e μ).bind λxs μ1=>(dq xs μ1).bind λts μ2=>.ok (.val (.tup ts)) μ2
def eK(ds:List D):D:=λe μ=>(cM ds e μ).bind λxs μ1=>(dq xs μ1).bind λts μ2=>.ok (.val (.lst ts)) μ2
@[simp] theorem Fv(ds:List D)(e:Slots)(μ:af):ee ds e μ=(cM ds e μ).bind λxs μ1=>(dq xs μ1).bind λts μ2=>.ok (.val (.tup ts)) μ2:=(rfl)
@[simp] theorem sN(ds:List D)(e:Slots)(μ:af):eK ds e μ=(cM ds e μ).bind λxs μ1=>(dq xs μ1).bind λts μ2=>.ok (.val (.lst ts)) μ2:=(rfl)
def kl(f:T->T->Option T)(ds:List D)(b:D):D:=λe μ=>(cM ds e μ).bind λxs μ1=>(dq xs μ1).bind λts μ2=>(b e μ2).bind λy μ3=>R.lift (ap1 (f (.lst ts)) (rd μ3 y)) μ3
@[simp] theorem yB(f:T->T->Option T)(ds:List D)(b:D)(e:Slots)(μ:af):kl f ds b e μ=(cM ds e μ).bind λxs μ1=>(dq xs μ1).bind λts μ2=>(b e μ2).bind λy μ3=>R.lift (ap1 (f (.lst ts)) (rd μ3 y)) μ3:=(rfl)
def boxed:List SV->Option (List (Sum T Nat))
 | []=>some []
 | .val t::xs=>(boxed xs).map λys=>.inl t::ys
 | .cel k::xs=>(boxed xs).map λys=>.inr k::ys
 | .box _::_=>none
 | .lbx _::_=>none
def uP(ds:List D):D:=λe μ=>(cM ds e μ).bind λxs μ1=>(R.lift (boxed xs) μ1).bind λys μ1=>.ok (.box ys) μ1
@[simp] theorem sO(ds:List D)(e:Slots)(μ:af):uP ds e μ=(cM ds e μ).bind λxs μ1=>(R.lift (boxed xs) μ1).bind λys μ1=>.ok (.box ys) μ1:=(rfl)
def cell(t:T)(μ:af):R SV:=.ok (.cel μ.length) (μ++[(true,t)])
def bG(d:D):D:=λe μ=>(d e μ).bind λx μ1=>match x with
 | .val t=>cell t μ1
 | .cel k=>.ok (.cel k) μ1
 | .box xs=>.ok (.box xs) μ1
 | .lbx xs=>.ok (.lbx xs) μ1
def toCell(x:SV)(μ:af):R SV:=match x with
 | .val t=>cell t μ
 | .cel k=>.ok (.cel k) μ
 | .box xs=>.ok (.box xs) μ
 | .lbx xs=>.ok (.lbx xs) μ
@[simp] theorem toCell_val(t:T)(μ:af):toCell (.val t) μ=.ok (.cel μ.length) (μ++[(true,t)]):=(rfl)
@[simp] theorem oZ(d:D)(e:Slots)(μ:af):bG d e μ=(d e μ).bind toCell:=by
 unfold bG toCell;rfl
abbrev FN:=List SV->af->R SV
def ax(f:FN)(ds:List D):D:=λe μ=>(cM ds e μ).bind λxs μ1=>f xs μ1
@[simp] theorem fk(f:FN)(ds:List D)(e:Slots)(μ:af):ax f ds e μ=(cM ds e μ).bind λxs μ1=>f xs μ1:=(rfl)
def cal(f:FN):FN:=λxs μ=>(f xs μ).calm
@[simp] theorem jg(f:FN)(xs:List SV)(μ:af):cal f xs μ=(f xs μ).calm:=(rfl)
noncomputable def ixN (n : Nat) (i : Int) : Option Nat := if 0 ≤ i then (if i < n then some i.toNat else none) else if -(n : Int) ≤ i then some (i + n).toNat else none
noncomputable def atI {α : Type} (xs : List α) (i : Int) : Option α := (ixN xs.length i).bind fun j => xs[j]?
noncomputable def sIx (n d : Nat) : Option Int -> Nat
 | none=>d
 | some v=>if v<0 then (v+(n:Int)).toNat else min v.toNat n
def bx:T->T->Option T
 | .int i,.int j=>some (.int (i+j))
 | .str x,.str y=>if x.length+y.length≤szL then some (.str (x++y)) else none
 | .tup xs,.tup ys=>if xs.length+ys.length≤szL then some (.tup (xs++ys)) else none
 | .lst xs,.lst ys=>if xs.length+ys.length≤szL then some (.lst (xs++ys)) else none
 | _,_=>none
theorem o5(xs ys:List T)(h:xs.length+ys.length≤szL):bx (.lst xs) (.lst ys)=some (.lst (xs++ys)):=if_pos h
@[simp] theorem uQ(i j:Int):bx (.int i) (.int j)=some (.int (i+j)):=(rfl)
def jh:T->T->Option T
 | .lst xs,.int k=>if -(2 ^ 63)≤k/\k<2 ^ 63/\xs.length*k.toNat≤szL then some (.lst (List.replicate k.toNat xs).flatten) else none
 | _,_=>none
def o7:T->T->Option T
 | .int i,.int j=>some (.int (i-j))
 | _,_=>none
@[simp] theorem B7(i j:Int):o7 (.int i) (.int j)=some (.int (i-j)):=(rfl)
def Jh:T->T->Option T
 | .int i,.int j=>if (-(2 ^ 64)<i/\i<2 ^ 64)∨(-(2 ^ 64)<j/\j<2 ^ 64) then some (.int (i*j)) else none
 | _,_=>none
def aG(t u:T):Option T:=Jh t u
theorem Ji(i j:Int)(h1:-18446744073709551616<i)(h2:i<18446744073709551616):Jh (.int i) (.int j)=some (.int (i*j)):=if_pos (.inl ⟨h1,h2⟩)
theorem Jj(i j:Int)(h1:-18446744073709551616<j)(h2:j<18446744073709551616):Jh (.int i) (.int j)=some (.int (i*j)):=if_pos (.inr ⟨h1,h2⟩)
@[simp] theorem e8(i j:Int)(h1:-18446744073709551616<i)(h2:i<18446744073709551616):aG (.int i) (.int j)=some (.int (i*j)):=Ji i j h1 h2
@[simp] theorem gI(i j:Int)(h1:-18446744073709551616<j)(h2:j<18446744073709551616):aG (.int i) (.int j)=some (.int (i*j)):=Jj i j h1 h2
def bg:T->T->Option T
 | .int i,.int j=>if 0<j then some (.int (i%j)) else none
 | _,_=>none
@[simp] theorem ei(i j:Int)(h:0<j):bg (.int i) (.int j)=some (.int (i%j)):=if_pos h
def kN:T->T->Option T
 | .int i,.int j=>if 0<j/\j<1073741824 then some (.int (i / j)) else none
 | _,_=>none
@[simp] theorem o8(i j:Int)(h:0<j)(h2:j<1073741824):kN (.int i) (.int j)=some (.int (i / j)):=if_pos ⟨h,h2⟩
def Fx:T->Option T
 | .int i=>some (.int (-i))
 | _=>none
@[simp] theorem B8(i:Int):Fx (.int i)=some (.int (-i)):=(rfl)
def fLt:T->T->Option T
 | .int i,.int j=>some (.bl (decide (i<j)))
 | _,_=>none
def fLe:T->T->Option T
 | .int i,.int j=>some (.bl (decide (i≤j)))
 | _,_=>none
def fGt:T->T->Option T
 | .int i,.int j=>some (.bl (decide (j<i)))
 | _,_=>none
def fGe:T->T->Option T
 | .int i,.int j=>some (.bl (decide (j≤i)))
 | _,_=>none
@[simp] theorem Fy(i j:Int):fLt (.int i) (.int j)=some (.bl (decide (i<j))):=(rfl)
@[simp] theorem Fz(i j:Int):fLe (.int i) (.int j)=some (.bl (decide (i≤j))):=(rfl)
@[simp] theorem FA(i j:Int):fGt (.int i) (.int j)=some (.bl (decide (j<i))):=(rfl)
@[simp] theorem FC(i j:Int):fGe (.int i) (.int j)=some (.bl (decide (j≤i))):=(rfl)
mutual
def eqT:T->T->Bool
 | .non,.non=>true
 | .bl a,.bl b=>a==b
 | .bl a,.int b=>(if a then 1 else 0)==b
 | .int a,.bl b=>a==(if b then 1 else 0)
 | .int a,.int b=>a==b
 | .str a,.str b=>a==b
 | .lst a,.lst b=>g_ a b
 | .tup a,.tup b=>g_ a b
 | _,_=>false
def g_:List T->List T->Bool
 | [],[]=>true
 | a::as,b::bs=>eqT a b && g_ as bs
 | [],_::_=>false
 | _::_,[]=>false
end
mutual
def okT:Nat->T->Bool
 | _,.non=>true
 | _,.bl _=>true
 | _,.int _=>true
 | _,.str x=>x.cps.all (·<1114112)
 | 0,.lst _=>false
 | n+1,.lst ts=>eA n ts
 | 0,.tup _=>false
 | n+1,.tup ts=>eA n ts
 | _,.dct _=>false
 | _,.exc _ _=>false
 | _,.dtt _ _=>false
def eA:Nat->List T->Bool
 | _,[]=>true
 | n,t::ts=>okT n t && eA n ts
end
def fEq(t u:T):Option T:=match t,u with
 | .str a,.str b=>some (.bl (a==b))
 | t,u=>if okT 100 t=true/\okT 100 u=true then some (.bl (eqT t u)) else none
def fNe(t u:T):Option T:=match t,u with
 | .str a,.str b=>some (.bl (!(a==b)))
 | t,u=>if okT 100 t=true/\okT 100 u=true then some (.bl (!eqT t u)) else none
@[simp] theorem M4(n:Nat)(i:Int):okT n (.int i)=true:=by unfold okT;rfl
@[simp] theorem NM(n:Nat)(i:Bool):okT n (.bl i)=true:=by unfold okT;rfl
@[simp] theorem M5(n:Nat):okT n .non=true:=by unfold okT;rfl
@[simp] theorem sP(n:Nat)(ts:List T):okT (n+1) (.lst ts)=eA n ts:=by rw[okT]
@[simp] theorem M6(n:Nat)(ts:List T):okT (n+1) (.tup ts)=eA n ts:=by rw[okT]
@[simp] theorem LQ(n:Nat):eA n []=true:=by rw[eA]
@[simp] theorem Ah(n:Nat)(t:T)(ts:List T):eA n (t::ts)=(okT n t && eA n ts):=by rw[eA]
theorem ji(n:Nat):∀ts:List T,eA n ts=true↔∀t∈ts,okT n t=true
 | []=>by simp
 | t::ts=>by simp[ji n ts]
@[simp] theorem KN(n:Nat)(ns:List Int):eA n (ns.map T.int)=true:=by
 rw[ji]
 intro t ht
 obtain⟨i,_,rfl⟩:=List.mem_map.mp ht
 simp
@[simp] theorem yC(i j:Int):eqT (.int i) (.int j)=(i==j):=by rw[eqT]
@[simp] theorem M7(i j:Str):eqT (.str i) (.str j)=(i==j):=by rw[eqT]
@[simp] theorem NN(i j:Bool):eqT (.bl i) (.bl j)=(i==j):=by rw[eqT]
@[simp] theorem M8:eqT .non .non=true:=by rw[eqT]
@[simp] theorem FD(i j:List T):eqT (.lst i) (.lst j)=g_ i j:=by rw[eqT]
@[simp] theorem FE(i j:List T):eqT (.tup i) (.tup j)=g_ i j:=by rw[eqT]
@[simp] theorem LR:g_ [] []=true:=by rw[g_]
@[simp] theorem KO(a b:T)(as bs:List T):g_ (a::as) (b::bs)=(eqT a b && g_ as bs):=by rw[g_]
@[simp] theorem M9(b:T)(bs:List T):g_ [] (b::bs)=false:=by rw[g_]
@[simp] theorem M_(b:T)(bs:List T):g_ (b::bs) []=false:=by rw[g_]
mutual
theorem o9:∀(n:Nat) (t:T),okT n t=true->eqT t t=true
 | n,.non,_=>by simp
 | n,.bl b,_=>by simp
 | n,.int i,_=>by simp
 | n,.str x,_=>by simp
 | 0,.lst ts,h=>by rw[okT] at h;cases h
 | n+1,.lst ts,h=>by simp only[FD];exact mW n ts (by simpa using h)
 | 0,.tup ts,h=>by rw[okT] at h;cases h
 | n+1,.tup ts,h=>by simp only[FE];exact mW n ts (by simpa using h)
 | n,.dct _,h=>by unfold okT at h;cases h
 | n,.exc _ _,h=>by unfold okT at h;cases h
 | n,.dtt _ _,h=>by unfold okT at h;cases h
theorem mW:∀(n:Nat) (ts:List T),eA n ts=true->g_ ts ts=true
 | n,[],_=>by simp
 | n,t::ts,h=>by
  simp only[Ah,Bool.and_eq_true] at h
  simp[o9 n t h.1,mW n ts h.2]
end
theorem mX:∀(xs ys:List Int),g_ (xs.map T.int) (ys.map T.int)=(xs==ys)
 | [],[]=>by simp
 | [],y::ys=>by simp
 | x::xs,[]=>by simp
 | x::xs,y::ys=>by simp[mX xs ys]
theorem B9{t u:T}(h1:okT 100 t=true)(h2:okT 100 u=true):fEq t u=some (.bl (eqT t u)):=by
 unfold fEq
 split
 ·simp
 ·rw[if_pos ⟨h1,h2⟩]
theorem B_{t u:T}(h1:okT 100 t=true)(h2:okT 100 u=true):fNe t u=some (.bl (!eqT t u)):=by
 unfold fNe
 split
 ·simp
 ·rw[if_pos ⟨h1,h2⟩]
@[simp] theorem FF(i j:Int):fEq (.int i) (.int j)=some (.bl (i==j)):=by rw[B9 (by simp) (by simp)];simp
@[simp] theorem yD(i j:Int):fNe (.int i) (.int j)=some (.bl (!(i==j))):=by rw[B_ (by simp) (by simp)];simp
@[simp] theorem iA(i j:Str):fEq (.str i) (.str j)=some (.bl (i==j)):=(rfl)
@[simp] theorem FG(i j:Str):fNe (.str i) (.str j)=some (.bl (!(i==j))):=(rfl)
@[simp] theorem uR(xs ys:List Int):fEq (.lst (xs.map T.int)) (.lst (ys.map T.int))=some (.bl (xs==ys)):=by rw[B9 (by simp) (by simp)];simp[mX]
@[simp] theorem uS(xs ys:List Int):fNe (.lst (xs.map T.int)) (.lst (ys.map T.int))=some (.bl (!(xs==ys))):=by rw[B_ (by simp) (by simp)];simp[mX]
def o_:T->Option T
 | .non=>some (.bl true)
 | _=>some (.bl false)
def FH:T->T->Option T
 | .lst xs,.int i=>atI xs i
 | .tup xs,.int i=>atI xs i
 | .str x,.int i=>if x.length≤szL then (atI x.cps.toList i).map λc=>.str ⟨#[c]⟩ else none
 | _,_=>none
@[simp] theorem Ca(xs:List T)(i:Int):FH (.lst xs) (.int i)=atI xs i:=(rfl)
def pick:Sum T Nat->SV
 | .inl t=>.val t
 | .inr k=>.cel k
def eg(μ:af)(x:SV)(u:T):Option SV:=match x,u with
 | .box xs,.int i=>(atI xs i).map pick
 | .box _,_=>none
 | .lbx xs,.int i=>(atI xs i).map pick
 | .lbx _,_=>none
 | x,u=>ap1 (λt=>FH t u) (rd μ x)
def ao(a b:D):D:=λe μ=>(a e μ).bind λx μ1=>(b e μ1).bind λy μ2=>R.lift ((rd μ2 y).bind λu=>eg μ2 x u) μ2
@[simp] theorem iB(a b:D)(e:Slots)(μ:af):ao a b e μ=(a e μ).bind λx μ1=>(b e μ1).bind λy μ2=>R.lift ((rd μ2 y).bind λu=>eg μ2 x u) μ2:=(rfl)
@[simp] theorem mf(μ:af)(xs:List T)(i:Int):eg μ (.val (.lst xs)) (.int i)=(atI xs i).map SV.val:=(rfl)
@[simp] theorem cN(μ:af)(xs:List T)(i:Int):eg μ (.val (.tup xs)) (.int i)=(atI xs i).map SV.val:=(rfl)
@[simp] theorem Cb(μ:af)(xs:List (Sum T Nat))(i:Int):eg μ (.lbx xs) (.int i)=(atI xs i).map pick:=(rfl)
@[simp] theorem Cc(μ:af)(xs:List (Sum T Nat))(i:Int):eg μ (.box xs) (.int i)=(atI xs i).map pick:=(rfl)
@[simp] theorem Cd(μ:af)(k:Nat)(u:T):eg μ (.cel k) u=ap1 (λt=>FH t u) (rd μ (.cel k)):=(rfl)
noncomputable def FI : T -> Option T
 | .lst xs=>some (.int xs.length)
 | .tup xs=>some (.int xs.length)
 | .str x=>if x.length≤szL then some (.int x.length) else none
 | .dct kts=>some (.int kts.length)
 | _=>none
def nT(μ:af):SV->Option T
 | .box xs=>some (.int xs.length)
 | x=>(rd μ x).bind FI
def cS(a:D):D:=λe μ=>(a e μ).bind λx μ1=>R.lift ((nT μ1 x).map SV.val) μ1
@[simp] theorem yE(a:D)(e:Slots)(μ:af):cS a e μ=(a e μ).bind λx μ1=>R.lift ((nT μ1 x).map SV.val) μ1:=(rfl)
@[simp] theorem Ce(μ:af)(xs:List T):nT μ (.val (.lst xs))=some (.int xs.length):=(rfl)
@[simp] theorem Cf(μ:af)(xs:List T):nT μ (.val (.tup xs))=some (.int xs.length):=(rfl)
@[simp] theorem Cg(μ:af)(k:Nat):nT μ (.cel k)=(rd μ (.cel k)).bind FI:=(rfl)
inductive Kd where
 | int|bool|str|list|tuple|dict
noncomputable def isK : Kd -> T -> Bool
 | .int,.int _=>true
 | .int,.bl _=>true
 | .bool,.bl _=>true
 | .str,.str _=>true
 | .list,.lst _=>true
 | .tuple,.tup _=>true
 | .dict,.dct _=>true
 | .dict,.dtt _ _=>true
 | _,_=>false
def isT(k:Kd):T->Option T
 | .exc _ _=>none
 | .dtt _ _=>none
 | t=>some (.bl (isK k t))
def isS(k:Kd)(μ:af):SV->Option T
 | .box _=>some (.bl (isK k (.tup [])))
 | x=>(rd μ x).bind (isT k)
@[simp] theorem FJ(k:Kd)(i:Int):isT k (.int i)=some (.bl (isK k (.int i))):=(rfl)
def dIs(k:Kd)(a:D):D:=λe μ=>(a e μ).bind λx μ1=>R.lift ((isS k μ1 x).map SV.val) μ1
@[simp] theorem kO(k:Kd)(a:D)(e:Slots)(μ:af):dIs k a e μ=(a e μ).bind λx μ1=>R.lift ((isS k μ1 x).map SV.val) μ1:=(rfl)
@[simp] theorem sQ(k:Kd)(μ:af)(t:T):isS k μ (.val t)=isT k t:=(rfl)
@[simp] theorem yF(k:Kd)(μ:af)(j:Nat):isS k μ (.cel j)=(rd μ (.cel j)).bind (isT k):=(rfl)
def cH:T->Option T
 | .lst xs=>some (.tup xs)
 | .tup xs=>some (.tup xs)
 | _=>none
@[simp] theorem pb(xs:List T):cH (.lst xs)=some (.tup xs):=(rfl)
@[simp] theorem wC(xs:List T):cH (.tup xs)=some (.tup xs):=(rfl)
def yG:T->Option T
 | .lst xs=>some (.lst xs)
 | .tup xs=>some (.lst xs)
 | _=>none
noncomputable def uT : Key -> T
 | .inl i=>.int i
 | .inr x=>.str x
def yH:T->Option T
 | .dct kts=>some (.lst (kts.map λp=>uT p.1))
 | _=>none
@[simp] theorem Ai(xs:List T):yG (.lst xs)=some (.lst xs):=(rfl)
def gi{α:Type}(xs:List α)(lo hi:Option Int):List α:=(xs.drop (sIx xs.length 0 lo)).take (sIx xs.length xs.length hi-sIx xs.length 0 lo)
noncomputable def jk : T -> Option Int
 | .int i=>some i
 | _=>none
@[simp] theorem mY(i:Int):jk (.int i)=some i:=(rfl)
def eO:List T->Option (List Int)
 | []=>some []
 | t::ts=>(jk t).bind λi=>(eO ts).map λis=>i::is
theorem pd(ns:List Int):eO (ns.map T.int)=some ns:=by
 induction ns with
 | nil=>rfl
 | cons n ns ih=>simp[eO,ih]
def qE:T->Option T
 | .lst xs=>(eO xs).map λis=>.int is.sum
 | _=>none
@[simp] theorem Aj(ns:List Int):qE (.lst (ns.map T.int))=some (.int ns.sum):=by simp[qE,pd]
def pf:List T->Option (List Bool)
 | []=>some []
 | .bl b::ts=>(pf ts).map λbs=>b::bs
 | _::_=>none
theorem Ak(bs:List Bool):pf (bs.map T.bl)=some bs:=by
 induction bs with
 | nil=>rfl
 | cons n ns ih=>simp[pf,ih]
def uU:T->Option T
 | .lst xs=>(pf xs).map λbs=>.bl (bs.any id)
 | _=>none
@[simp] theorem Ci(bs:List Bool):uU (.lst (bs.map T.bl))=some (.bl (bs.any id)):=by simp[uU,Ak]
def Cj:T->Option T
 | .non=>some (.bl false)
 | _=>some (.bl true)
@[simp] theorem KP:o_ .non=some (.bl true):=(rfl)
@[simp] theorem Al(i:Int):o_ (.int i)=some (.bl false):=(rfl)
@[simp] theorem wD:Cj .non=some (.bl false):=(rfl)
@[simp] theorem wF(i:Int):Cj (.int i)=some (.bl true):=(rfl)
def sR(f g:T->T->Option T)(a b c:D):D:=λe μ=>(a e μ).bind λx μ1=>(b e μ1).bind λy μ2 =>
 (R.lift (ap2 f (rd μ2 x) (rd μ2 y)) μ2).bind λw μ2=>(R.lift (asB w) μ2).bind λk μ2 =>
 if k=true then (c e μ2).bind λz μ3=>R.lift (ap2 g (rd μ3 y) (rd μ3 z)) μ3 else .ok (.val (.bl false)) μ2
@[simp] theorem Am(f g:T->T->Option T)(a b c:D)(e:Slots)(μ:af):sR f g a b c e μ=(a e μ).bind λx μ1=>(b e μ1).bind λy μ2 =>
 (R.lift (ap2 f (rd μ2 x) (rd μ2 y)) μ2).bind λw μ2=>(R.lift (asB w) μ2).bind λk μ2 =>
 if k=true then (c e μ2).bind λz μ3=>R.lift (ap2 g (rd μ3 y) (rd μ3 z)) μ3 else .ok (.val (.bl false)) μ2:=(rfl)
def Jk(t:T)(lo hi:Option Int):Option T:=match t with
 | .lst xs=>some (.lst (gi xs lo hi))
 | .tup xs=>if sIx xs.length 0 lo=0/\sIx xs.length xs.length hi=xs.length then none else some (.tup (gi xs lo hi))
 | _=>none
def pg(o:Option D)(e:Slots)(μ:af):R (Option Int):=match o with
 | none=>.ok none μ
 | some d=>(d e μ).bind λx μ1=>(R.lift ((rd μ1 x).bind jk) μ1).bind λi μ1=>.ok (some i) μ1
@[simp] theorem rm(e:Slots)(μ:af):pg none e μ=.ok none μ:=(rfl)
@[simp] theorem rq(d:D)(e:Slots)(μ:af):pg (some d) e μ=(d e μ).bind λx μ1=>(R.lift ((rd μ1 x).bind jk) μ1).bind λi μ1=>.ok (some i) μ1:=(rfl)
def Ck(a:D)(lo hi:Option D):D:=λe μ=>(a e μ).bind λx μ1=>(pg lo e μ1).bind λl μ2=>(pg hi e μ2).bind λh μ3=>R.lift (ap1 (λt=>Jk t l h) (rd μ3 x)) μ3
@[simp] theorem yI(a:D)(lo hi:Option D)(e:Slots)(μ:af):Ck a lo hi e μ=(a e μ).bind λx μ1=>(pg lo e μ1).bind λl μ2=>(pg hi e μ2).bind λh μ3=>R.lift (ap1 (λt=>Jk t l h) (rd μ3 x)) μ3:=(rfl)
inductive RS where
 | nx (e:Slots) (μ:af)|rt (x:SV) (μ:af)|bk (e:Slots) (μ:af)|ct (e:Slots) (μ:af)|err (c:T) (e:Slots) (μ:af)|bad
abbrev DS:=Slots->af->RS
noncomputable def R.toS {α : Type} (x : R α) (e : Slots) (f : α -> af -> RS) : RS := match x with
 | .ok a μ=>f a μ
 | .err c μ=>.err c e μ
 | .bad=>.bad
@[simp] theorem R.toS_ok{α:Type}(a:α)(e:Slots)(μ:af)(f:α->af->RS):(R.ok a μ).toS e f=f a μ:=(rfl)
@[simp] theorem R.toS_err{α:Type}(c:T)(e:Slots)(μ:af)(f:α->af->RS):(R.err c μ:R α).toS e f=.err c e μ:=(rfl)
noncomputable def RS.seq (r : RS) (f : Slots -> af -> RS) : RS := match r with
 | .nx e μ=>f e μ
 | r=>r
@[simp] theorem RS.bV(e:Slots)(μ:af)(f:Slots->af->RS):(RS.nx e μ).seq f=f e μ:=(rfl)
@[simp] theorem RS.Jl(x:SV)(μ:af)(f:Slots->af->RS):(RS.rt x μ).seq f=.rt x μ:=(rfl)
def bB:DS:=λe μ=>.nx e μ
def aq(a b:DS):DS:=λe μ=>(a e μ).seq b
def LS(d:D):DS:=λe μ=>(d e μ).toS e λ_ μ1=>.nx e μ1
def aC(i:Nat)(d:D):DS:=λe μ=>(d e μ).toS e λx μ1=>.nx (e.set i (some x)) μ1
def aH(d:D):DS:=λe μ=>(d e μ).toS e λx μ1=>.rt x μ1
def sIf(c:D)(a b:DS):DS:=λe μ=>(c e μ).toS e λx μ1=>(R.lift (asB x) μ1).toS e λk μ1=>if k=true then a e μ1 else b e μ1
def sS:DS:=λ_ _=>.bad
@[simp] theorem FK(e:Slots)(μ:af):bB e μ=.nx e μ:=(rfl)
@[simp] theorem fQ(a b:DS)(e:Slots)(μ:af):aq a b e μ=(a e μ).seq b:=(rfl)
@[simp] theorem Cm(d:D)(e:Slots)(μ:af):LS d e μ=(d e μ).toS e λ_ μ1=>.nx e μ1:=(rfl)
@[simp] theorem gJ(i:Nat)(d:D)(e:Slots)(μ:af):aC i d e μ=(d e μ).toS e λx μ1=>.nx (e.set i (some x)) μ1:=(rfl)
@[simp] theorem sT(d:D)(e:Slots)(μ:af):aH d e μ=(d e μ).toS e λx μ1=>.rt x μ1:=(rfl)
@[simp] theorem wG(c:D)(a b:DS)(e:Slots)(μ:af):sIf c a b e μ=(c e μ).toS e λx μ1=>(R.lift (asB x) μ1).toS e λk μ1=>if k=true then a e μ1 else b e μ1:=(rfl)
def appendAt(x:SV)(t:T)(μ:af):Option af:=match x with
 | .cel k=>match μ[k]? with
  | some (true,.lst ts)=>if ts.length<szL then some (μ.set k (true,.lst (ts++[t]))) else none
  | _=>none
 | _=>none
noncomputable def iC (x : SV) (μ : af) : Option Unit := match x with
 | .cel k=>match μ[k]? with
  | some (_,.lst _)=>some ()
  | _=>none
 | _=>none
theorem yJ{μ:af}{k:Nat}{b:Bool}{ts:List T}(h:μ[k]?=some (b,.lst ts)):iC (.cel k) μ=some ():=by unfold iC;simp only[h]
def dB(o d:D):DS:=λe μ=>(o e μ).toS e λx μ0=>(R.lift (iC x μ0) μ0).toS e λ_ μ0=>(d e μ0).toS e λy μ1=>(frz y μ1).toS e λt μ2=>(R.lift (appendAt x t μ2) μ2).toS e λμ3 _=>.nx e μ3
@[simp] theorem ph(o d:D)(e:Slots)(μ:af):dB o d e μ=(o e μ).toS e λx μ0=>(R.lift (iC x μ0) μ0).toS e λ_ μ0=>(d e μ0).toS e λy μ1=>(frz y μ1).toS e λt μ2=>(R.lift (appendAt x t μ2) μ2).toS e λμ3 _=>.nx e μ3:=(rfl)
def setAt(x:SV)(k:T)(t:T)(μ:af):Option af:=match x,k with
 | .cel c,.int i=>match μ[c]? with
  | some (true,.lst ts)=>(ixN ts.length i).map λj=>μ.set c (true,.lst (ts.set j t))
  | _=>none
 | _,_=>none
def cO(i:Nat)(dk dv:D):DS:=λe μ=>(dv e μ).toS e λy μ1=>(R.lift (slot e i) μ1).toS e λx μ1=>(dk e μ1).toS e λz μ2=>(R.lift (rd μ2 z) μ2).toS e λk μ2 =>
 (frz y μ2).toS e λt μ3=>(R.lift (setAt x k t μ3) μ3).toS e λμ4 _=>.nx e μ4
@[simp] theorem nF(i:Nat)(dk dv:D)(e:Slots)(μ:af):cO i dk dv e μ=(dv e μ).toS e λy μ1=>(R.lift (slot e i) μ1).toS e λx μ1=>(dk e μ1).toS e λz μ2=>(R.lift (rd μ2 z) μ2).toS e λk μ2 =>
 (frz y μ2).toS e λt μ3=>(R.lift (setAt x k t μ3) μ3).toS e λμ4 _=>.nx e μ4:=(rfl)
structure Wk where
 items:List T
 same:af->Prop
abbrev DI:=Slots->af->R Wk
noncomputable def b_ : T -> Option (List T)
 | .lst ts=>some ts
 | .tup ts=>some ts
 | _=>none
@[simp] theorem fR(ts:List T):b_ (.lst ts)=some ts:=(rfl)
@[simp] theorem sU(ts:List T):b_ (.tup ts)=some ts:=(rfl)
def bD(d:D):DI:=λe μ=>(d e μ).bind λx μ1=>(R.lift ((rd μ1 x).bind b_) μ1).bind λts μ1=>.ok ⟨ts,λμ'=>rd μ' x=rd μ1 x⟩ μ1
@[simp] theorem sV(d:D)(e:Slots)(μ:af):bD d e μ=(d e μ).bind λx μ1=>(R.lift ((rd μ1 x).bind b_) μ1).bind λts μ1=>.ok ⟨ts,λμ'=>rd μ' x=rd μ1 x⟩ μ1:=(rfl)
noncomputable def a_ (lo : Int) : Nat -> List T
 | 0=>[]
 | n+1=>.int lo::a_ (lo+1) n
def bQ(j:Int):Bool:=decide (-(2 ^ 62)≤j) && decide (j<2 ^ 62)
@[simp] theorem bH{j:Int}(h0:0≤j)(h1:j≤1000000):bQ j=true:=by
 unfold bQ
 rw[decide_eq_true (by lia),decide_eq_true (by lia)];rfl
theorem fX{j:Int}(h:bQ j=true):-(2 ^ 62)≤j/\j<2 ^ 62:=by
 unfold bQ at h
 simp only[Bool.and_eq_true,decide_eq_true_eq] at h
 exact h
def aK(d:D):DI:=λe μ=>(d e μ).bind λx μ1=>(R.lift ((rd μ1 x).bind jk) μ1).bind λj μ1=>if bQ j=true then .ok ⟨a_ 0 j.toNat,λ_=>True⟩ μ1 else .bad
def oB(d d':D):DI:=λe μ=>(d e μ).bind λx μ1=>(d' e μ1).bind λy μ2=>(R.lift ((rd μ2 x).bind jk) μ2).bind λi μ2=>(R.lift ((rd μ2 y).bind jk) μ2).bind λj μ2 =>
 if (bQ i && bQ j)=true then .ok ⟨a_ i (j-i).toNat,λ_=>True⟩ μ2 else .bad
@[simp] theorem pj(d:D)(e:Slots)(μ:af):aK d e μ=(d e μ).bind λx μ1=>(R.lift ((rd μ1 x).bind jk) μ1).bind λj μ1=>if bQ j=true then .ok ⟨a_ 0 j.toNat,λ_=>True⟩ μ1 else .bad:=(rfl)
@[simp] theorem wH(d d':D)(e:Slots)(μ:af):oB d d' e μ=(d e μ).bind λx μ1=>(d' e μ1).bind λy μ2=>(R.lift ((rd μ2 x).bind jk) μ2).bind λi μ2=>(R.lift ((rd μ2 y).bind jk) μ2).bind λj μ2 =>
 if (bQ i && bQ j)=true then .ok ⟨a_ i (j-i).toNat,λ_=>True⟩ μ2 else .bad:=(rfl)
noncomputable def ie : List T -> List T -> List T
 | t::ts,u::us=>.tup [t,u]::ie ts us
 | _,_=>[]
def An(d d':D):DI:=λe μ=>(d e μ).bind λx μ1=>(d' e μ1).bind λy μ2=>(R.lift ((rd μ2 x).bind b_) μ2).bind λts μ2=>(R.lift ((rd μ2 y).bind b_) μ2).bind λus μ2 =>
 .ok ⟨ie ts us,λμ'=>rd μ' x=rd μ2 x/\rd μ' y=rd μ2 y⟩ μ2
@[simp] theorem FO(d d':D)(e:Slots)(μ:af):An d d' e μ=(d e μ).bind λx μ1=>(d' e μ1).bind λy μ2=>(R.lift ((rd μ2 x).bind b_) μ2).bind λts μ2=>(R.lift ((rd μ2 y).bind b_) μ2).bind λus μ2 =>
 .ok ⟨ie ts us,λμ'=>rd μ' x=rd μ2 x/\rd μ' y=rd μ2 y⟩ μ2:=(rfl)
abbrev BD:=T->Slots->Option Slots
def av(i:Nat):BD:=λt e=>some (e.set i (some (.val t)))
def cT(is:List Nat):BD:=λt e=>match t with
 | .tup ts=>if ts.length=is.length then some ((is.zip ts).foldl (λe p=>e.set p.1 (some (.val p.2))) e) else none
 | _=>none
@[simp] theorem ig(i:Nat)(t:T)(e:Slots):av i t e=some (e.set i (some (.val t))):=(rfl)
@[simp] theorem dZ(i j:Nat)(t u:T)(e:Slots):cT [i,j] (.tup [t,u]) e=some ((e.set i (some (.val t))).set j (some (.val u))):=(rfl)
open Classical in
noncomputable def forL (same : af -> Prop) (b : BD) (body : DS) : List T -> Slots -> af -> RS
 | [],e,μ=>if same μ then .nx e μ else .bad
 | t::ts,e,μ=>if same μ then
   match b t e with
   | none=>.bad
   | some e1=>match body e1 μ with
    | .nx e2 μ2=>forL same b body ts e2 μ2
    | .ct e2 μ2=>forL same b body ts e2 μ2
    | .bk e2 μ2=>.nx e2 μ2
    | r=>r
  else .bad
def bE(it:DI)(b:BD)(body:DS):DS:=λe μ=>(it e μ).toS e λW μ1=>forL W.same b body W.items e μ1
@[simp] theorem jT(it:DI)(b:BD)(body:DS)(e:Slots)(μ:af):bE it b body e μ=(it e μ).toS e λW μ1=>forL W.same b body W.items e μ1:=(rfl)
def b4(c:D)(body:DS):Nat->Slots->af->RS
 | 0,_,_=>.bad
 | n+1,e,μ=>(c e μ).toS e λx μ1=>(R.lift (asB x) μ1).toS e λk μ1=>if k=true then
   match body e μ1 with
   | .nx e2 μ2=>b4 c body n e2 μ2
   | .ct e2 μ2=>b4 c body n e2 μ2
   | .bk e2 μ2=>.nx e2 μ2
   | r=>r
  else .nx e μ1
open Classical in
def kP(c:D)(body:DS):DS:=λe μ=>if h:∃n,b4 c body n e μ≠.bad then b4 c body h.choose e μ else .bad
open Classical in
noncomputable def bI (same : af -> Prop) (b : BD) (c : D) (d : D) (e : Slots) : List T -> af -> R (List T)
 | [],μ=>if same μ then .ok [] μ else .bad
 | t::ts,μ=>if same μ then
   match b t e with
   | none=>.bad
   | some e1=>(c e1 μ).calm.bind λx μ1=>(R.lift (asB x) μ1).bind λk μ1 =>
    if k=true then (d e1 μ1).calm.bind λy μ2=>(frz y μ2).bind λu μ3=>(bI same b c d e ts μ3).bind λus μ4=>.ok (u::us) μ4
    else bI same b c d e ts μ1
  else .bad
def ini(mp:List (Option Nat))(e:Slots):Slots:=mp.map λo=>o.bind λj=>slot e j
def aW(it:DI)(mp:List (Option Nat))(b:BD)(c:D)(d:D):D:=λe μ=>(it e μ).bind λW μ1=>(bI W.same b c d (ini mp e) W.items μ1).calm.bind λus μ2 =>
 if W.items.length≤szL then .ok (.val (.lst us)) μ2 else .bad
@[simp] theorem Cn(it:DI)(mp:List (Option Nat))(b:BD)(c:D)(d:D)(e:Slots)(μ:af):aW it mp b c d e μ=(it e μ).bind λW μ1=>(bI W.same b c d (ini mp e) W.items μ1).calm.bind λus μ2 =>
 if W.items.length≤szL then .ok (.val (.lst us)) μ2 else .bad:=(rfl)
@[simp] theorem FP(e:Slots):ini [] e=[]:=(rfl)
@[simp] theorem Co(mp:List (Option Nat))(e:Slots):ini (none::mp) e=none::ini mp e:=(rfl)
@[simp] theorem Cp(j:Nat)(mp:List (Option Nat))(e:Slots):ini (some j::mp) e=slot e j::ini mp e:=(rfl)
def gc(n:Nat)(x:SV)(μ:af):R SV:=match x with
 | .val t=>.ok (.val t) (μ.take n)
 | .cel k=>if k<n then .ok (.cel k) (μ.take n) else match μ[k]? with
  | some c=>.ok (.cel n) (μ.take n++[c])
  | none=>.bad
 | .box _=>.bad
 | .lbx _=>.bad
noncomputable def starts (m : Nat) (xs : List SV) : Slots := xs.map some ++ List.replicate (m - xs.length) none
def RS.Jm(n:Nat):RS->R SV
 | .rt x μ'=>gc n x μ'
 | .nx _ μ'=>gc n (.val .non) μ'
 | .err c _ μ'=>.err c (μ'.take n)
 | _=>.bad
def fnD(m:Nat)(body:DS):FN:=λxs μ=>(body (starts m xs) μ).Jm μ.length
def ice(n:Nat)(x:SV)(μ:af):R SV:=(frz x μ).bind λt μ1=>.ok (.val t) (μ1.take n)
def RS.uV(n:Nat):RS->R SV
 | .rt x μ'=>ice n x μ'
 | .nx _ μ'=>ice n (.val .non) μ'
 | .err c _ μ'=>.err c (μ'.take n)
 | _=>.bad
def fnV(m:Nat)(body:DS):FN:=λxs μ=>(body (starts m xs) μ).uV μ.length
def RS.Jn:RS->R SV
 | .rt x μ'=>.ok x μ'
 | .nx _ μ'=>.ok (.val .non) μ'
 | .err c _ μ'=>.err c μ'
 | _=>.bad
def fnK(m:Nat)(body:DS):FN:=λxs μ=>(body (starts m xs) μ).Jn
@[simp] theorem jU(n:Nat)(x:SV)(μ:af):(RS.rt x μ).uV n=ice n x μ:=(rfl)
@[simp] theorem FQ(n:Nat)(x:SV)(μ:af):(RS.rt x μ).Jm n=gc n x μ:=(rfl)
@[simp] theorem FT(x:SV)(μ:af):(RS.rt x μ).Jn=.ok x μ:=(rfl)
@[simp] theorem cI(m:Nat)(body:DS)(xs:List SV)(μ:af):fnV m body xs μ=(body (starts m xs) μ).uV μ.length:=(rfl)
@[simp] theorem kQ(m:Nat)(body:DS)(xs:List SV)(μ:af):fnD m body xs μ=(body (starts m xs) μ).Jm μ.length:=(rfl)
@[simp] theorem kR(m:Nat)(body:DS)(xs:List SV)(μ:af):fnK m body xs μ=(body (starts m xs) μ).Jn:=(rfl)
end Fw
namespace Fw
open PySem L2
def ExcAt(K:PySem.W.Frag)(a:Addr)(c:Str)(t:Option Str)(h:Heap):Prop:=∃C,PySem.W.nsIn K mainGlobals c=some (some (.ref C))/\Jf a C h
def kvT(kts:List (List Int×Bool)):List (List Key×V):=kts.map λp=>(p.1.map Sum.inl,V.bl p.2)
section
variable(K:PySem.W.Frag)(F:Hp)
mutual
def Rep:T->V->Prop
 | .non,v=>v=.non
 | .bl b,v=>v=.bl b
 | .int i,v=>v=.int i
 | .str x,v=>v=.str x
 | .lst ts,v=>∃a vs,v=.ref a/\SqL K F a vs/\aA ts vs
 | .tup ts,v=>∃a vs,v=.ref a/\SqT K F a vs/\aA ts vs
 | .dct kts,v=>∃a kvs,v=.ref a/\F a=some (.dK kvs)/\bj kts kvs
 | .exc c t,v=>∃a,v=.ref a/\F a=some (.ext (ExcAt K a c t))
 | .dtt fz kts,v=>∃a,v=.ref a/\((fz=false/\F a=some (.dT (kvT kts)))∨(fz=true/\∃o,F a=some (.frz o (.dT (kvT kts)))))
def aA:List T->List V->Prop
 | [],vs=>vs=[]
 | t::ts,vs=>∃v vs',vs=v::vs'/\Rep t v/\aA ts vs'
def bj:List (Key×T)->List (Key×V)->Prop
 | [],kvs=>kvs=[]
 | (k,t)::kts,kvs=>∃v mZ,kvs=(k,v)::mZ/\Rep t v/\bj kts mZ
end
end
theorem aI.fm{K:PySem.W.Frag}{H H':Hp}{a:Addr}{xs:List V}(e:aI H H')(h:SqT K H a xs):SqT K H' a xs:=e _ _ h
section
variable{K:PySem.W.Frag}{F F' H H':Hp}
mutual
theorem Rep.mono(s:aI F F'):∀(t:T) (v:V),Rep K F t v->Rep K F' t v
 | .non,v,h=>by rw[Rep] at h ⊢;exact h
 | .bl b,v,h=>by rw[Rep] at h ⊢;exact h
 | .int i,v,h=>by rw[Rep] at h ⊢;exact h
 | .str x,v,h=>by rw[Rep] at h ⊢;exact h
 | .lst ts,v,h=>by
  rw[Rep] at h ⊢
  obtain⟨a,vs,e,q,r⟩:=h
  exact⟨a,vs,e,s.seq q,aA.mono s ts vs r⟩
 | .tup ts,v,h=>by
  rw[Rep] at h ⊢
  obtain⟨a,vs,e,q,r⟩:=h
  exact⟨a,vs,e,aI.fm s q,aA.mono s ts vs r⟩
 | .dct kts,v,h=>by
  rw[Rep] at h ⊢
  obtain⟨a,vs,e,q,r⟩:=h
  exact⟨a,vs,e,s _ _ q,bj.mono s kts vs r⟩
 | .exc c t,v,h=>by
  rw[Rep] at h ⊢
  obtain⟨a,e,q⟩:=h
  exact⟨a,e,s _ _ q⟩
 | .dtt fz kts,v,h=>by
  rw[Rep] at h ⊢
  obtain⟨a,e,q⟩:=h
  exact⟨a,e,q.elim (λz=>.inl ⟨z.1,s _ _ z.2⟩) λ⟨z,o,y⟩=>.inr ⟨z,o,s _ _ y⟩⟩
theorem aA.mono(s:aI F F'):∀(ts:List T) (vs:List V),aA K F ts vs->aA K F' ts vs
 | [],vs,h=>by rw[aA] at h ⊢;exact h
 | t::ts,vs,h=>by
  rw[aA] at h ⊢
  obtain⟨v,vs',e,q,r⟩:=h
  exact⟨v,vs',e,Rep.mono s t v q,aA.mono s ts vs' r⟩
theorem bj.mono(s:aI F F'):∀(kts:List (Key×T)) (kvs:List (Key×V)),bj K F kts kvs->bj K F' kts kvs
 | [],vs,h=>by rw[bj] at h ⊢;exact h
 | (k,t)::ts,vs,h=>by
  rw[bj] at h ⊢
  obtain⟨v,vs',e,q,r⟩:=h
  exact⟨v,vs',e,Rep.mono s t v q,bj.mono s ts vs' r⟩
end
theorem Rep.jl{i:Int}{v:V}(h:Rep K F (.int i) v):v=.int i:=by rw[Rep] at h;exact h
theorem Rep.gK{i:Bool}{v:V}(h:Rep K F (.bl i) v):v=.bl i:=by rw[Rep] at h;exact h
theorem Rep.kS{i:Str}{v:V}(h:Rep K F (.str i) v):v=.str i:=by rw[Rep] at h;exact h
theorem Rep.iD{v:V}(h:Rep K F .non v):v=.non:=by rw[Rep] at h;exact h
theorem Rep.fS(i:Int):Rep K F (.int i) (.int i):=by rw[Rep]
theorem Rep.bl'(i:Bool):Rep K F (.bl i) (.bl i):=by rw[Rep]
theorem Rep.FU(i:Str):Rep K F (.str i) (.str i):=by rw[Rep]
theorem Rep.LU:Rep K F .non .non:=by rw[Rep]
theorem aA.length:∀{ts:List T}{vs:List V},aA K F ts vs->ts.length=vs.length
 | [],vs,h=>by rw[aA] at h;subst h;rfl
 | t::ts,vs,h=>by
  rw[aA] at h
  obtain⟨v,vs',rfl,_,r⟩:=h
  rw[List.length_cons,List.length_cons,aA.length r]
theorem aA.get:∀{ts:List T}{vs:List V}{i:Nat}{t:T},aA K F ts vs->ts[i]?=some t->∃v,vs[i]?=some v/\Rep K F t v
 | [],_,_,_,_,e=>by simp at e
 | t::ts,vs,0,t',h,e=>by
  rw[aA] at h
  obtain⟨v,vs',rfl,q,_⟩:=h
  simp at e;subst e
  exact⟨v,rfl,q⟩
 | t::ts,vs,i+1,t',h,e=>by
  rw[aA] at h
  obtain⟨v,vs',rfl,q,r⟩:=h
  obtain⟨v',h1,h2⟩:=aA.get (i:=i) r (by simpa using e)
  exact⟨v',by simpa using h1,h2⟩
theorem aA.append:∀{ts us:List T}{vs ws:List V},aA K F ts vs->aA K F us ws->aA K F (ts++us) (vs++ws)
 | [],us,vs,ws,h,g=>by rw[aA] at h;subst h;exact g
 | t::ts,us,vs,ws,h,g=>by
  rw[aA] at h
  obtain⟨v,vs',rfl,q,r⟩:=h
  rw[List.cons_append,List.cons_append,aA]
  exact⟨v,vs'++ws,rfl,q,r.append g⟩
theorem aA.iE:aA K F [] []:=by rw[aA]
theorem aA.dj{t:T}{v:V}{ts:List T}{vs:List V}(q:Rep K F t v)(r:aA K F ts vs):aA K F (t::ts) (v::vs):=by rw[aA];exact⟨v,vs,rfl,q,r⟩
theorem aA.one{t:T}{v:V}(q:Rep K F t v):aA K F [t] [v]:=.dj q .iE
theorem aA.take:∀{ts:List T}{vs:List V} (n:Nat),aA K F ts vs->aA K F (ts.take n) (vs.take n)
 | _,_,0,_=>by simpa using aA.iE
 | [],vs,n+1,h=>by rw[aA] at h;subst h;simpa using aA.iE
 | t::ts,vs,n+1,h=>by
  rw[aA] at h
  obtain⟨v,vs',rfl,q,r⟩:=h
  exact .dj q (r.take n)
theorem aA.drop:∀{ts:List T}{vs:List V} (n:Nat),aA K F ts vs->aA K F (ts.drop n) (vs.drop n)
 | _,_,0,h=>by simpa using h
 | [],vs,n+1,h=>by rw[aA] at h;subst h;simpa using aA.iE
 | t::ts,vs,n+1,h=>by
  rw[aA] at h
  obtain⟨v,vs',rfl,q,r⟩:=h
  exact r.drop n
theorem aA.set:∀{ts:List T}{vs:List V} (i:Nat) {t:T}{v:V},aA K F ts vs->Rep K F t v->aA K F (ts.set i t) (vs.set i v)
 | [],vs,i,_,_,h,_=>by rw[aA] at h;subst h;simpa using aA.iE
 | t::ts,vs,0,t',v',h,g=>by
  rw[aA] at h
  obtain⟨v,vs',rfl,q,r⟩:=h
  exact .dj g r
 | t::ts,vs,i+1,t',v',h,g=>by
  rw[aA] at h
  obtain⟨v,vs',rfl,q,r⟩:=h
  exact .dj q (r.set i g)
theorem aA.flat{ts:List T}{vs:List V}(h:aA K F ts vs):∀k:Nat,aA K F (List.replicate k ts).flatten (List.replicate k vs).flatten
 | 0=>by simpa using aA.iE
 | k+1=>by
  rw[List.replicate_succ,List.replicate_succ,List.flatten_cons,List.flatten_cons]
  exact h.append (h.flat k)
theorem aA.oE:∀(ns:List Int),aA K F (ns.map T.int) (ns.map V.int)
 | []=>.iE
 | n::ns=>.dj (Rep.fS n) (aA.oE ns)
def Now(K:PySem.W.Frag)(F H:Hp)(v:V):T->Prop
 | .lst ts=>∃a vs,v=.ref a/\SqL K H a vs/\aA K F ts vs
 | .tup ts=>∃a vs,v=.ref a/\SqT K F a vs/\aA K F ts vs
 | .dct kts=>∃a kvs,v=.ref a/\H a=some (.dK kvs)/\bj K F kts kvs
 | .dtt fz kts=>∃a,v=.ref a/\Rd H a (.dT (kvT kts))
 | t=>Rep K F t v
theorem Now.Cq(s:aI F H){t:T}{v:V}(h:Rep K F t v):Now K F H v t:=by
 cases t with
 | lst ts=>rw[Rep] at h;obtain⟨a,vs,e,q,r⟩:=h;exact⟨a,vs,e,s.seq q,r⟩
 | tup ts=>rw[Rep] at h;obtain⟨a,vs,e,q,r⟩:=h;exact⟨a,vs,e,q,r⟩
 | dct ts=>rw[Rep] at h;obtain⟨a,vs,e,q,r⟩:=h;exact⟨a,vs,e,s _ _ q,r⟩
 | dtt fz ts=>rw[Rep] at h;obtain⟨a,e,q⟩:=h;exact⟨a,e,q.elim (λz=>.inl (s _ _ z.2)) λ⟨_,o,y⟩=>.inr ⟨o,s _ _ y⟩⟩
 | _=>exact h
theorem Now.int{i:Int}{v:V}(h:Now K F H v (.int i)):v=.int i:=Rep.jl (K:=K) (F:=F) h
theorem Now.bl{i:Bool}{v:V}(h:Now K F H v (.bl i)):v=.bl i:=Rep.gK (K:=K) (F:=F) h
theorem Now.str{i:Str}{v:V}(h:Now K F H v (.str i)):v=.str i:=Rep.kS (K:=K) (F:=F) h
end
def i_(K:PySem.W.Frag)(F:Hp)(α:List Addr)(v:V):Sum T Nat->Prop
 | .inl t=>Rep K F t v
 | .inr k=>∃a,α[k]?=some a/\v=.ref a
def eL(K:PySem.W.Frag)(F:Hp)(α:List Addr)(v:V):SV->Prop
 | .val t=>Rep K F t v
 | .cel k=>∃a,α[k]?=some a/\v=.ref a
 | .box xs=>∃a vs,v=.ref a/\SqT K F a vs/\Paired (i_ K F α) vs xs
 | .lbx xs=>∃a vs,v=.ref a/\SqL K F a vs/\Paired (i_ K F α) vs xs
def gj(K:PySem.W.Frag)(F H:Hp)(a:Addr):T->Prop
 | .lst ts=>∃vs,H a=some (.lst vs)/\aA K F ts vs
 | .dct kts=>∃kvs,H a=some (.dK kvs)/\bj K F kts kvs
 | .dtt fz kts=>fz=false/\H a=some (.dT (kvT kts))
 | _=>False
def Tps(F H:Hp):Prop:=∀b xs,H b=some (.tup xs)->F b=some (.tup xs)
def NT(o:HO):Prop:=∀xs,o≠.tup xs
theorem Tps.upd{F H:Hp}{p:Addr}{o:HO}(h:Tps F H)(n:NT o):Tps F (upd H p o):=λb xs q=>by
 by_cases e:b=p
 ·subst e;rw[az] at q;cases q;exact absurd rfl (n _)
 ·rw[aF e] at q;exact h _ _ q
theorem Tps.mono{F F' H:Hp}(h:Tps F H)(s:aI F F'):Tps F' H:=λb xs q=>s _ _ (h b xs q)
theorem gj.nt{K:PySem.W.Frag}{F H:Hp}{a:Addr}{t:T}{o:HO}(c:gj K F (upd H a o) a t):NT o:=λxs e=>by
 subst e
 cases t with
 | lst ts=>obtain⟨vs,h1,_⟩:=c;rw[az] at h1;cases h1
 | dct ts=>obtain⟨vs,h1,_⟩:=c;rw[az] at h1;cases h1
 | dtt fz ts=>have h1:=c.2;rw[az] at h1;cases h1
 | _=>exact c.elim
structure cf(K:PySem.W.Frag)(F:Hp)(α:List Addr)(μ:af)(H:Hp):Prop where
 ext:aI F H
 len:α.length=μ.length
 nd:α.Nodup
 there:∀(k:Nat) (a:Addr),α[k]?=some a->∃o,H a=some o
 cell:∀(k:Nat) (b:Bool) (t:T) (a:Addr),μ[k]?=some (b,t)->α[k]?=some a->(b=true->F a=none/\gj K F H a t)/\(b=false->Rep K F t (.ref a))
 tps:Tps F H
structure Sim(K:PySem.W.Frag)(F:Hp)(α:List Addr)(e:Slots)(μ:af)(σ:St)(H:Hp):Prop where
 st:cf K F α μ H
 sl:∀i x,slot e i=some x->∃v,σ[i]?=some (some v)/\eL K F α v x
 len:e.length=σ.length
section
variable{K:PySem.W.Frag}{F F' F2 H H':Hp}{α α':List Addr}{e:Slots}{μ:af}{σ:St}{v:V}{x:SV}{t:T}
theorem e9{k:Nat}{a:Addr}(p:α <+: α')(h:α[k]?=some a):α'[k]?=some a:=by
 obtain⟨l,rfl⟩:=p
 have hk:k<α.length:=(List.getElem?_eq_some_iff.mp h).1
 rw[List.getElem?_append_left hk];exact h
theorem i_.mono{y:Sum T Nat}(s:aI F F')(p:α <+: α')(h:i_ K F α v y):i_ K F' α' v y:=by
 cases y with
 | inl t=>exact Rep.mono s t v h
 | inr k=>obtain⟨a,h1,h2⟩:=h;exact⟨a,e9 p h1,h2⟩
theorem eL.mono(s:aI F F')(p:α <+: α')(h:eL K F α v x):eL K F' α' v x:=by
 cases x with
 | val t=>exact Rep.mono s t v h
 | cel k=>obtain⟨a,h1,h2⟩:=h;exact⟨a,e9 p h1,h2⟩
 | box xs=>obtain⟨a,vs,e,q,r⟩:=h;exact⟨a,vs,e,aI.fm s q,Paired.imp' (λ_ _ z=>i_.mono s p z) r⟩
 | lbx xs=>obtain⟨a,vs,e,q,r⟩:=h;exact⟨a,vs,e,aI.seq s q,Paired.imp' (λ_ _ z=>i_.mono s p z) r⟩
theorem aO(S:cf K F α μ H)(h:eL K F α v x)(r:rd μ x=some t):Now K F H v t:=by
 cases x with
 | val u=>cases r;exact Now.Cq S.ext h
 | cel k =>
  obtain⟨a,h1,rfl⟩:=h
  cases q:μ[k]? with
  | none=>simp[rd,q] at r
  | some c =>
   obtain⟨b,u⟩:=c
   simp only[rd,q,Option.map_some] at r
   cases r
   obtain⟨c1,c2⟩:=S.cell k b t a q h1
   cases b with
   | false=>exact Now.Cq S.ext (c2 rfl)
   | true =>
    obtain⟨_,c⟩:=c1 rfl
    cases t with
    | lst ts=>obtain⟨vs,g1,g2⟩:=c;exact⟨a,vs,rfl,SqL.of g1,g2⟩
    | dct ts=>obtain⟨vs,g1,g2⟩:=c;exact⟨a,vs,rfl,g1,g2⟩
    | dtt fz ts=>exact⟨a,rfl,.inl c.2⟩
    | _=>exact c.elim
 | box xs=>cases r
 | lbx xs=>cases r
def bt(F H F' H':Hp):Prop:=∀b,(F' b=F b/\H' b=H b)∨(H b=none/\F' b=H' b)
theorem bt.refl:bt F H F H:=λ_=>.inl ⟨rfl,rfl⟩
theorem bt.new{p:Addr}{o:HO}(h:H p=none):bt F H (upd F p o) (upd H p o):=λb=>by
 by_cases e:b=p
 ·subst e;exact .inr ⟨h,by rw[az,az]⟩
 ·exact .inl ⟨aF e,aF e⟩
theorem bt.same(g:bt F H F' H')(s:aI F H):aI F F':=λb o h=>by
 rcases g b with ⟨e1,e2⟩|⟨e1,e2⟩
 ·rw[e1];exact h
 ·rw[s b o h] at e1;cases e1
theorem bt.ext(g:bt F H F' H')(s:aI F H):aI F' H':=λb o h=>by
 rcases g b with ⟨e1,e2⟩|⟨e1,e2⟩
 ·rw[e2];rw[e1] at h;exact s b o h
 ·rw[← e2];exact h
theorem gj.grow(g:bt F H F' H')(s:aI F H){a:Addr}(h:gj K F H a t):gj K F' H' a t:=by
 have keep:∀{o:HO},H a=some o->H' a=some o:=λ{o} h=>by
  rcases g a with ⟨e1,e2⟩|⟨e1,e2⟩
  ·rw[e2];exact h
  ·rw[h] at e1;cases e1
 cases t with
 | lst ts=>obtain⟨vs,h1,h2⟩:=h;exact⟨vs,keep h1,aA.mono (g.same s) _ _ h2⟩
 | dct ts=>obtain⟨vs,h1,h2⟩:=h;exact⟨vs,keep h1,bj.mono (g.same s) _ _ h2⟩
 | dtt fz ts=>exact⟨h.1,keep h.2⟩
 | _=>exact h.elim
theorem gj.there{a:Addr}(h:gj K F H a t):∃o,H a=some o:=by
 cases t with
 | lst ts=>obtain⟨vs,h1,h2⟩:=h;exact⟨_,h1⟩
 | dct ts=>obtain⟨vs,h1,h2⟩:=h;exact⟨_,h1⟩
 | dtt fz ts=>exact⟨_,h.2⟩
 | _=>exact h.elim
theorem cf.grow(S:cf K F α μ H)(g:bt F H F' H'):cf K F' α μ H' where
 ext:=g.ext S.ext
 len:=S.len
 nd:=S.nd
 there:=λk a h=>by
  obtain⟨o,ho⟩:=S.there k a h
  rcases g a with ⟨e1,e2⟩|⟨e1,e2⟩
  ·exact⟨o,by rw[e2];exact ho⟩
  ·rw[ho] at e1;cases e1
 cell:=λk b t a h1 h2=>by
  obtain⟨c1,c2⟩:=S.cell k b t a h1 h2
  refine⟨λhb=>?_,λhb=>Rep.mono (g.same S.ext) _ _ (c2 hb)⟩
  obtain⟨d1,d2⟩:=c1 hb
  refine⟨?_,d2.grow g S.ext⟩
  obtain⟨o,ho⟩:=d2.there
  rcases g a with ⟨e1,e2⟩|⟨e1,e2⟩
  ·rw[e1];exact d1
  ·rw[ho] at e1;cases e1
 tps:=λb xs q=>by
  rcases g b with ⟨e1,e2⟩|⟨e1,e2⟩
  ·rw[e1];rw[e2] at q;exact S.tps _ _ q
  ·rw[e2];exact q
theorem Sim.grow(S:Sim K F α e μ σ H)(g:bt F H F' H'):Sim K F' α e μ σ H' where
 st:=S.st.grow g
 sl:=λi x h=>by
  obtain⟨v,h1,h2⟩:=S.sl i x h
  exact⟨v,h1,h2.mono (g.same S.st.ext) (List.prefix_refl _)⟩
 len:=S.len
theorem Sim.of(S:Sim K F α e μ σ H){μ':af}(s:aI F F')(p:α <+: α')(S':cf K F' α' μ' H'):Sim K F' α' e μ' σ H' :=
 ⟨S',λi x h=>by
  obtain⟨v,h1,h2⟩:=S.sl i x h
  exact⟨v,h1,h2.mono s p⟩,S.len⟩
theorem jm{k j:Nat}{a:Addr}(n:α.Nodup)(h1:α[k]?=some a)(h2:α[j]?=some a):k=j:=by
 obtain⟨a1,b1⟩:=List.getElem?_eq_some_iff.mp h1
 obtain⟨a2,b2⟩:=List.getElem?_eq_some_iff.mp h2
 exact(List.getElem_inj n).mp (b1.trans b2.symm)
theorem yK{k:Nat}(S:cf K F α μ H)(h:∃a,α[k]?=some a/\v=.ref a){μ':af}(r:frz (.cel k) μ=.ok t μ'):∃F',aI F F'/\(∀b,b∉α->F' b=F b)/\cf K F' α μ' H/\Rep K F' t v:=by
  obtain⟨a,h1,rfl⟩:=h
  unfold frz at r
  cases q:μ[k]? with
  | none=>simp only[q] at r;cases r
  | some c =>
   obtain⟨b,u⟩:=c
   simp only[q] at r
   cases r
   have hk:k<μ.length:=(List.getElem?_eq_some_iff.mp q).1
   obtain⟨c1,c2⟩:=S.cell k b t a q h1
   have main:∃F',aI F F'/\aI F' H/\Rep K F' t (.ref a)/\∀c,c≠a->F' c=F c:=by
    cases b with
    | false=>exact⟨F,aI.refl F,S.ext,c2 rfl,λ_ _=>rfl⟩
    | true =>
     obtain⟨d1,d2⟩:=c1 rfl
     obtain⟨o,ho⟩:=d2.there
     have s1:aI F (upd F a o):=λc z hz=>by
      rw[aF (λq=>by subst q;rw[d1] at hz;cases hz)];exact hz
     refine⟨upd F a o,s1,λc z hz=>?_,?_,λc hc=>aF hc⟩
     ·by_cases e:c=a
      ·subst e;rw[az] at hz;cases hz;exact ho
      ·rw[aF e] at hz;exact S.ext c z hz
     ·cases t with
      | lst ts=>obtain⟨vs,g1,g2⟩:=d2;rw[g1] at ho;cases ho;rw[Rep];exact⟨a,vs,rfl,SqL.of az,aA.mono s1 _ _ g2⟩
      | dct ts=>obtain⟨vs,g1,g2⟩:=d2;rw[g1] at ho;cases ho;rw[Rep];exact⟨a,vs,rfl,az,bj.mono s1 _ _ g2⟩
      | dtt fz ts=>obtain⟨d4,d3⟩:=d2;rw[d3] at ho;cases ho;rw[Rep];exact⟨a,rfl,.inl ⟨d4,az⟩⟩
      | _=>exact d2.elim
   obtain⟨F',s1,s2,rp,ne⟩:=main
   refine⟨F',s1,λc hc=>ne c λq=>hc (by rw[q];exact List.mem_of_getElem? h1),⟨s2,by rw[List.length_set];exact S.len,S.nd,S.there,λj b' u' a' g1 g2=>?_,S.tps.mono s1⟩,rp⟩
   by_cases e:j=k
   ·subst e
    rw[List.getElem?_set_self hk] at g1
    cases g1
    rw[h1] at g2;cases g2
    exact⟨λz=>(by cases z),λ_=>rp⟩
   ·rw[List.getElem?_set_ne (Ne.symm e)] at g1
    obtain⟨z1,z2⟩:=S.cell j b' u' a' g1 g2
    have na:a'≠a:=λq=>by subst q;exact e (jm S.nd g2 h1)
    refine⟨λhb=>?_,λhb=>Rep.mono s1 _ _ (z2 hb)⟩
    obtain⟨y1,y2⟩:=z1 hb
    refine⟨by rw[ne _ na];exact y1,?_⟩
    cases u' with
    | lst ts=>obtain⟨vs,w1,w2⟩:=y2;exact⟨vs,w1,aA.mono s1 _ _ w2⟩
    | dct ts=>obtain⟨vs,w1,w2⟩:=y2;exact⟨vs,w1,bj.mono s1 _ _ w2⟩
    | dtt fz ts=>exact y2
    | _=>exact y2.elim
theorem FV(k:Nat)(μ:af):uN (.inr k) μ=frz (.cel k) μ:=by unfold uN frz;rfl
theorem uW:∀{xs:List (Sum T Nat)}{vs:List V}{μ μ':af}{F:Hp}{ts:List T},cf K F α μ H->Paired (i_ K F α) vs xs->jf xs μ=.ok ts μ'->∃F',aI F F'/\(∀b,b∉α->F' b=F b)/\cf K F' α μ' H/\aA K F' ts vs
 | [],vs,μ,μ',F,ts,S,p,r=>by
  cases p
  cases r
  exact⟨F,aI.refl F,λ_ _=>rfl,S,aA.iE⟩
 | x::xs,vs,μ,μ',F,ts,S,p,r=>by
  cases p with
  | @cons v₁ _ vs₁ _ hv p =>
   unfold jf at r
   obtain⟨t,μ1,r1,r⟩:=R.aM r
   obtain⟨ts',μ2,r2,r⟩:=R.aM r
   cases r
   have one:∃F',aI F F'/\(∀b,b∉α->F' b=F b)/\cf K F' α μ1 H/\Rep K F' t v₁:=by
    cases x with
    | inl u=>cases r1;exact⟨F,aI.refl F,λ_ _=>rfl,S,hv⟩
    | inr k=>rw[FV] at r1;exact yK S hv r1
   obtain⟨F1,s1,n1,S1,q1⟩:=one
   obtain⟨F2,s2,n2,S2,q2⟩:=uW S1 (Paired.imp' (λ_ _ z=>i_.mono s1 (List.prefix_refl _) z) p) r2
   exact⟨F2,s1.trans s2,λb hb=>(n2 b hb).trans (n1 b hb),S2,.dj (Rep.mono s2 _ _ q1) q2⟩
theorem kT(S:cf K F α μ H)(h:eL K F α v x){μ':af}(r:frz x μ=.ok t μ'):∃F',aI F F'/\(∀b,b∉α->F' b=F b)/\cf K F' α μ' H/\Rep K F' t v:=by
 cases x with
 | val u=>cases r;exact⟨F,aI.refl F,λ_ _=>rfl,S,h⟩
 | cel k=>exact yK S h r
 | box xs =>
  obtain⟨a,vs,rfl,q,p⟩:=h
  unfold frz at r
  obtain⟨ts,μ1,r1,r⟩:=R.aM r
  cases r
  obtain⟨F1,s1,n1,S1,q1⟩:=uW S p r1
  refine⟨F1,s1,n1,S1,?_⟩
  rw[Rep]
  exact⟨a,vs,rfl,aI.fm s1 q,q1⟩
 | lbx xs=>cases r
theorem oF:∀{xs:List SV}{vs:List V}{μ μ':af}{F:Hp}{ts:List T},cf K F α μ H->Paired (λv x=>eL K F α v x) vs xs->dq xs μ=.ok ts μ'->∃F',aI F F'/\(∀b,b∉α->F' b=F b)/\cf K F' α μ' H/\aA K F' ts vs
 | [],vs,μ,μ',F,ts,S,p,r=>by
  cases p
  cases r
  exact⟨F,aI.refl F,λ_ _=>rfl,S,aA.iE⟩
 | x::xs,vs,μ,μ',F,ts,S,p,r=>by
  cases p with
  | cons hv p =>
   rw[jS] at r
   obtain⟨t,μ1,r1,r⟩:=R.aM r
   obtain⟨ts',μ2,r2,r⟩:=R.aM r
   cases r
   obtain⟨F1,s1,n1,S1,q1⟩:=kT S hv r1
   obtain⟨F2,s2,n2,S2,q2⟩:=oF S1 (Paired.imp' (λ_ _ z=>eL.mono s1 (List.prefix_refl _) z) p) r2
   exact⟨F2,s1.trans s2,λb hb=>(n2 b hb).trans (n1 b hb),S2,.dj (Rep.mono s2 _ _ q1) q2⟩
theorem kU(S:cf K F α μ H){k:Nat}{a:Addr}{t₀:T}{o:HO}(hk:μ[k]?=some (true,t₀))(ha:α[k]?=some a)(c:gj K F (upd H a o) a t):cf K F α (μ.set k (true,t)) (upd H a o):=by
 have hlt:k<μ.length:=(List.getElem?_eq_some_iff.mp hk).1
 have hF:=((S.cell k true t₀ a hk ha).1 rfl).1
 refine⟨λb z hz=>?_,by rw[List.length_set];exact S.len,S.nd,λj b h=>?_,λj b u a' h1 h2=>?_,S.tps.upd c.nt⟩
 ·rw[aF (λq=>by subst q;rw[hF] at hz;cases hz)];exact S.ext b z hz
 ·by_cases e:b=a
  ·subst e;exact⟨o,az⟩
  ·rw[aF e];exact S.there j b h
 ·by_cases e:j=k
  ·subst e
   rw[List.getElem?_set_self hlt] at h1
   cases h1
   rw[ha] at h2;cases h2
   exact⟨λ_=>⟨hF,c⟩,λz=>(by cases z)⟩
  ·rw[List.getElem?_set_ne (Ne.symm e)] at h1
   have na:a'≠a:=λq=>by subst q;exact e (jm S.nd h2 ha)
   obtain⟨c1,c2⟩:=S.cell j b u a' h1 h2
   refine⟨λhb=>⟨(c1 hb).1,?_⟩,c2⟩
   have d:=(c1 hb).2
   cases u with
   | lst ts=>obtain⟨vs,w1,w2⟩:=d;exact⟨vs,by rw[aF na];exact w1,w2⟩
   | dct ts=>obtain⟨vs,w1,w2⟩:=d;exact⟨vs,by rw[aF na];exact w1,w2⟩
   | dtt fz ts=>exact⟨d.1,(aF na).trans d.2⟩
   | _=>exact d.elim
theorem cf.take{β:List Addr}(S:cf K F β μ H)(n:Nat):cf K F (β.take n) (μ.take n) H:=by
 have cut:∀{γ:Type}{l:List γ}{k:Nat}{z:γ},(l.take n)[k]?=some z->l[k]?=some z:=λ{γ l k z} h=>by
  rw[List.getElem?_take] at h
  split at h
  ·exact h
  ·cases h
 exact⟨S.ext,by rw[List.length_take,List.length_take,S.len],S.nd.sublist (List.take_sublist _ _),λk a h=>S.there k a (cut h),λk b t a h1 h2=>S.cell k b t a (cut h1) (cut h2),S.tps⟩
theorem LV{μ₀:af}{β:List Addr}{r:SV}{μ':af}(hα:α.length=μ₀.length)(p:α <+: β)(S:cf K F β μ H)(h:eL K F β v x)(hg:gc μ₀.length x μ=.ok r μ') :
  ∃γ,α <+: γ/\(∀b,b∈γ->b∈β)/\cf K F γ μ' H/\eL K F γ v r:=by
 have hn:β.take μ₀.length=α:=by
  rw[← hα]
  obtain⟨l,rfl⟩:=p
  simp
 have hp:α <+: β.take μ₀.length:=by rw[hn];exact List.prefix_refl _
 unfold gc at hg
 cases x with
 | val t =>
  simp only at hg
  cases hg
  exact⟨β.take μ₀.length,hp,λb hb=>List.mem_of_mem_take hb,S.take _,h⟩
 | cel k =>
  obtain⟨a,ha,rfl⟩:=h
  simp only at hg
  by_cases hk:k<μ₀.length
  ·rw[if_pos hk] at hg
   cases hg
   exact⟨β.take μ₀.length,hp,λb hb=>List.mem_of_mem_take hb,S.take _,a,by rw[List.getElem?_take_of_lt hk];exact ha,rfl⟩
  ·rw[if_neg hk] at hg
   cases hc:μ[k]? with
   | none=>rw[hc] at hg;cases hg
   | some c =>
    rw[hc] at hg
    cases hg
    have T:=S.take μ₀.length
    have hl:(β.take μ₀.length).length=μ₀.length:=by rw[hn];exact hα
    have hl2:(μ.take μ₀.length).length=μ₀.length:=by rw[← T.len];exact hl
    have pk:∀{γ:Type}{l:List γ}{z:γ}{j:Nat}{y:γ},l.length=μ₀.length->(l++[z])[j]?=some y->(j<μ₀.length/\l[j]?=some y)∨(j=μ₀.length/\y=z):=λ{γ l z j y} e h=>by
     by_cases hj:j<l.length
     ·rw[List.getElem?_append_left hj] at h;exact .inl ⟨by lia,h⟩
     ·rw[List.getElem?_append_right (by lia)] at h
      by_cases h0:j-l.length=0
      ·rw[h0] at h;simp at h;exact .inr ⟨by lia,h.symm⟩
      ·rw[List.getElem?_eq_none (by simp;lia)] at h;cases h
    have cut:∀{γ:Type}{l:List γ}{j:Nat}{z:γ},(l.take μ₀.length)[j]?=some z->l[j]?=some z:=λ{γ l j z} h=>by
     rw[List.getElem?_take] at h
     split at h
     ·exact h
     ·cases h
    refine⟨β.take μ₀.length++[a],hp.trans (List.prefix_append _ _),λb hb=>(List.mem_append.mp hb).elim (λz=>List.mem_of_mem_take z) λz=>by simp at z;subst z;exact List.mem_of_getElem? ha,⟨S.ext,by rw[List.length_append,List.length_append,hl,hl2];rfl,?_,λj b g=>?_,λj b u a' g1 g2=>?_,S.tps⟩,a,?_,rfl⟩
    ·rw[List.nodup_append]
     refine⟨T.nd,by simp,λb hb b' hb'=>?_⟩
     simp at hb'
     subst hb'
     intro q
     subst q
     obtain⟨j,hj⟩:=List.mem_iff_getElem?.mp hb
     have hj':j<μ₀.length:=by rw[← hl];exact(List.getElem?_eq_some_iff.mp hj).1
     have:=jm S.nd (cut hj) ha
     lia
    ·rcases pk hl g with ⟨_,g'⟩|⟨_,rfl⟩
     ·exact T.there j b g'
     ·exact S.there k _ ha
    ·rcases pk hl g2 with ⟨hj,g'⟩|⟨hj,rfl⟩
     ·rcases pk hl2 g1 with ⟨_,g1'⟩|⟨hj',_⟩
      ·exact T.cell j b u a' g1' g'
      ·lia
     ·rcases pk hl2 g1 with ⟨hj',_⟩|⟨_,e⟩
      ·lia
      ·exact S.cell k b u _ (by rw[hc,e]) ha
    ·rw[List.getElem?_append_right (by lia),hl]
     simp
 | box xs=>cases hg
 | lbx xs=>cases hg
theorem Jo{μ₀:af}{β:List Addr}{r:SV}{μ':af}(hα:α.length=μ₀.length)(p:α <+: β)(S:cf K F β μ H)(h:eL K F β v x)(hg:ice μ₀.length x μ=.ok r μ') :
  ∃F',aI F F'/\(∀b,b∉β->F' b=F b)/\cf K F' α μ' H/\eL K F' α v r:=by
 unfold ice at hg
 obtain⟨t,μ1,h1,hg⟩:=R.aM hg
 cases hg
 obtain⟨F1,s1,n1,S1,q1⟩:=kT S h h1
 have hn:β.take μ₀.length=α:=by
  rw[← hα]
  obtain⟨l,rfl⟩:=p
  simp
 have S2:=S1.take μ₀.length
 rw[hn] at S2
 exact⟨F1,s1,n1,S2,q1⟩
end
structure Ex(F:Hp)(α:List Addr)(H F':Hp)(α':List Addr)(H':Hp):Prop where
 same:aI F F'
 pre:α <+: α'
 fr:∀b o,H b=some o->F b=none->b∉α->H' b=some o/\F' b=none/\b∉α'
section
variable{K:PySem.W.Frag}{F F' F1 F2 H H' H1 H2:Hp}{α α' α1 α2:List Addr}{μ μ':af}
theorem Ex.refl:Ex F α H F α H:=⟨aI.refl F,List.prefix_refl _,λ_ _ h1 h2 h3=>⟨h1,h2,h3⟩⟩
theorem Ex.trans(x:Ex F α H F1 α1 H1)(y:Ex F1 α1 H1 F2 α2 H2):Ex F α H F2 α2 H2 :=
 ⟨x.same.trans y.same,x.pre.trans y.pre,λb o h1 h2 h3=>let ⟨g1,g2,g3⟩:=x.fr b o h1 h2 h3;y.fr b o g1 g2 g3⟩
theorem Ex.nG(s:aI F F')(n:∀b,b∉α->F' b=F b):Ex F α H F' α H:=⟨s,List.prefix_refl _,λb o h1 h2 h3=>⟨h1,by rw[n b h3];exact h2,h3⟩⟩
theorem bt.ex(g:bt F H F' H')(s:aI F H):Ex F α H F' α H':=⟨g.same s,List.prefix_refl _,λb o h1 h2 h3=>by
 rcases g b with ⟨e1,e2⟩|⟨e1,e2⟩
 ·exact⟨by rw[e2];exact h1,by rw[e1];exact h2,h3⟩
 ·rw[h1] at e1;cases e1⟩
theorem Ex.was{p:Addr}(x:Ex F α H F1 α1 H1)(S:cf K F1 α1 μ H1)(h:H1 p=none):H p=none:=by
 cases q:H p with
 | none=>rfl
 | some o =>
  exfalso
  cases f:F p with
  | some z=>rw[S.ext p z (x.same p z f)] at h;cases h
  | none =>
   by_cases hm:p∈α
   ·obtain⟨k,hk⟩:=List.mem_iff_getElem?.mp hm
    obtain⟨z,hz⟩:=S.there k p (e9 x.pre hk)
    rw[hz] at h;cases h
   ·rw[(x.fr p o q f hm).1] at h;cases h
theorem Ex.lay{p:Addr}{o:HO}(h:H p=none):Ex F α H F α (upd H p o):=⟨aI.refl F,List.prefix_refl _,λb z h1 h2 h3=>⟨by rw[aF (λq=>by subst q;rw[h] at h1;cases h1)];exact h1,h2,h3⟩⟩
theorem Ex.put{k:Nat}{a:Addr}{o:HO}(ha:α[k]?=some a):Ex F α H F α (upd H a o):=⟨aI.refl F,List.prefix_refl _,λb z h1 h2 h3=>⟨by rw[aF (λq=>h3 (by rw[q];exact List.mem_of_getElem? ha))];exact h1,h2,h3⟩⟩
theorem Ex.more{p:Addr}(x:Ex F α H F' α' H')(h:H p=none):Ex F α H F' (α'++[p]) H':=⟨x.same,x.pre.trans (List.prefix_append _ _),λb o h1 h2 h3=>by
 obtain⟨g1,g2,g3⟩:=x.fr b o h1 h2 h3
 refine⟨g1,g2,λhm=>?_⟩
 rcases List.mem_append.mp hm with z|z
 ·exact g3 z
 ·simp at z;subst z;rw[h] at h1;cases h1⟩
theorem Ex.ice{p:Addr}{o:HO}(x:Ex F α H F' α' H')(h:H p=none)(h':F' p=none):Ex F α H (upd F' p o) α' H':=⟨x.same.trans λb z hz=>by
  rw[aF (λq=>by subst q;rw[h'] at hz;cases hz)];exact hz,x.pre,λb z h1 h2 h3=>by
 obtain⟨g1,g2,g3⟩:=x.fr b z h1 h2 h3
 exact⟨g1,by rw[aF (λq=>by subst q;rw[h] at h1;cases h1)];exact g2,g3⟩⟩
end
theorem bj.length{K:PySem.W.Frag}{F:Hp}:∀{ts:List (Key×T)}{vs:List (Key×V)},bj K F ts vs->ts.length=vs.length
 | [],vs,h=>by rw[bj] at h;subst h;rfl
 | (k,t)::ts,vs,h=>by
  rw[bj] at h
  obtain⟨v,vs',rfl,_,r⟩:=h
  rw[List.length_cons,List.length_cons,bj.length r]
def R.wp{α:Type}(r:R α)(Q:α->af->Prop)(E:T->af->Prop):Prop:=match r with
 | .ok a μ=>Q a μ
 | .err c μ=>E c μ
 | .bad=>False
theorem R.wp_bind{α β:Type}{r:R α}{f:α->af->R β}{Q:β->af->Prop}{E:T->af->Prop}(h:(r.bind f).wp Q E):r.wp (λa μ=>(f a μ).wp Q E) E:=by
 cases r<;>exact h
theorem R.wp.mono{α:Type}{r:R α}{Q Q':α->af->Prop}{E E':T->af->Prop}(h:r.wp Q E)(hQ:∀a μ,Q a μ->Q' a μ)(hE:∀c μ,E c μ->E' c μ):r.wp Q' E':=by
 cases r with
 | ok a μ=>exact hQ a μ h
 | err c μ=>exact hE c μ h
 | bad=>exact h
theorem R.aY{α:Type}{o:Option α}{μ:af}{Q:α->af->Prop}{E:T->af->Prop}(h:(R.lift o μ).wp Q E):∃a,o=some a/\Q a μ:=by
 cases o with
 | none=>exact h.elim
 | some a=>exact⟨a,rfl,h⟩
def FW(K:PySem.W.Frag)(F:Hp)(α:List Addr)(H:Hp)(e:Slots)(σ:St)(Q:VK)(x:SV)(μ:af):Prop :=
 ∀v H' F' α',Ex F α H F' α' H'->Sim K F' α' e μ σ H'->eL K F' α' v x->Q v H'
def LW(X:Cx)(pins:List (Addr×Obj))(σ:St)(H:Hp)(c:T)(ev:Value)(s':Shared):Prop :=
 ∃n C,c=.exc n none/\X.mg n=some (.ref C)/\((X.calm=true/\∃s h' e vs,Inv X pins σ H s/\Heap.MadeExcOf s.heap h' e (.ref C) vs/\ev=.ref e/\s'={ s with heap:=h' }) ∨
  (∃H0 s,Inv X pins σ H0 s/\CX1 X.prog X.w X.stack H0 s (λcv _ H'=>cv=.ref C/\H'=H) ev s')∨(X.calm=true/\∃e t B,ev=.ref e/\Hel X pins σ H e t C B s'))
def eN(X:Cx)(F:Hp)(α:List Addr)(H:Hp)(e:Slots)(c:T)(μ:af):Prop :=
 ∀ev s',(∃pins σ' H' F' α',Ex F α H F' α' H'/\Sim X.K F' α' e μ σ' H'/\LW X pins σ' H' c ev s')->X.xe ev s'
theorem eN.mono{X:Cx}{F F1 H H1:Hp}{α α1:List Addr}{e:Slots}{c:T}{μ:af}(x:Ex F α H F1 α1 H1)(h:eN X F α H e c μ):eN X F1 α1 H1 e c μ :=
 λev s' ⟨pins,σ',H',F',α',y,S,f⟩=>h ev s' ⟨pins,σ',H',F',α',x.trans y,S,f⟩
def tD(X:Cx)(d:D):TE:=λσ H Q=>∃F α e μ,Sim X.K F α e μ σ H/\(d e μ).wp (FW X.K F α H e σ Q) (eN X F α H e)
def tDT(X:Cx)(d:D):TT:=λσ H Q=>∃F α e μ,Sim X.K F α e μ σ H/\(d e μ).wp (λx μ'=>∃b,x=.val (.bl b) /\
 ∀H' F' α',Ex F α H F' α' H'->Sim X.K F' α' e μ' σ H'->Q b H') (eN X F α H e)
def tDA(X:Cx)(ds:List D):TA:=λσ H Q=>∃F α e μ,Sim X.K F α e μ σ H/\(cM ds e μ).wp (λxs μ' =>
 ∀vs H' F' α',Ex F α H F' α' H'->Sim X.K F' α' e μ' σ H'->Paired (λv x=>eL X.K F' α' v x) vs xs->Q vs H') (eN X F α H e)
def CE(X:Cx)(e:Expr)(d:D):Prop:=PE X e (tD X d)
def CT(X:Cx)(e:Expr)(d:D):Prop:=PT X e (tDT X d)
def CA(X:Cx)(es:List Expr)(ds:List D):Prop:=PA X es (tDA X ds)
theorem PE.imp{X:Cx}{e:Expr}{t t':TE}(h:PE X e t)(i:∀σ H Q,t' σ H Q->t σ H Q):PE X e t':=λpins s σ H Q I q=>h pins s σ H Q I (i σ H Q q)
theorem PT.imp{X:Cx}{e:Expr}{t t':TT}(h:PT X e t)(i:∀σ H Q,t' σ H Q->t σ H Q):PT X e t':=λpins s σ H Q I q=>h pins s σ H Q I (i σ H Q q)
theorem PA.imp{X:Cx}{e:List Expr}{t t':TA}(h:PA X e t)(i:∀σ H Q,t' σ H Q->t σ H Q):PA X e t':=λpos pins s σ H Q I q=>h pos pins s σ H Q I (i σ H Q q)
theorem PS.imp{X:Cx}{e:Stmt}{t t':TS}(h:PS X e t)(i:∀D σ H,t' D σ H->t D σ H):PS X e t':=λpins s σ H D I q=>h pins s σ H D I (i D σ H q)
theorem PSs.imp{X:Cx}{e:List Stmt}{t t':TS}(h:PSs X e t)(i:∀D σ H,t' D σ H->t D σ H):PSs X e t':=λpins s σ H D I q=>h pins s σ H D I (i D σ H q)
def du(K:PySem.W.Frag)(r:R2)(f:T->T->Option T):Prop:=∀F H v u t t' w Q,aI F H->Now K F H v t->Now K F H u t'->f t t'=some w ->
 (∀v' H' F',bt F H F' H'->Rep K F' w v'->Q v' H')->r v u H Q
def HD(K:PySem.W.Frag)(r:V->Hp->VK->Prop)(f:T->Option T):Prop:=∀F H v t w Q,aI F H->Now K F H v t->f t=some w ->
 (∀v' H' F',bt F H F' H'->Rep K F' w v'->Q v' H')->r v H Q
def mh(K:PySem.W.Frag)(r:List V->Hp->VK->Prop)(f:T->Option T):Prop:=∀F H v t w Q,aI F H->Now K F H v t->f t=some w ->
 (∀v' H' F',bt F H F' H'->Rep K F' w v'->Q v' H')->r [v] H Q
def uX(K:PySem.W.Frag)(r:List V->Hp->VK->Prop)(f:T->T->Option T):Prop:=∀F H v u t t' w Q,aI F H->Now K F H v t->Now K F H u t'->f t t'=some w ->
 (∀v' H' F',bt F H F' H'->Rep K F' w v'->Q v' H')->r [v,u] H Q
def uY(K:PySem.W.Frag)(r:List V->Hp->VK->Prop)(f:T->Option T):Prop:=∀F H v t w Q,aI F H->Now K F H v t->f t=some w ->
 (∀p o,H p=none->gj K F (upd H p o) p w->Q (.ref p) (upd H p o))->r [v] H Q
section
variable{X:Cx}{a b c:Expr}{da db dc:D}{pos:Pos}
theorem ae(i:Nat){x:Str}(hN:X.N[i]?=some x:=by rfl)(hv:Vis X.env.scope x:=by first|exact Or.inl rfl|exact Or.inr (Or.inl rfl)|exact Or.inr (Or.inr rfl))(hd:(x==("__debug__":Str))=false:=by decide)
  (hcd:(x==("__classdict__":Str))=false:=by decide):CE X (.Name x pos) (aa i) :=
 PE.imp (sC hN hv hd hcd) λσ H Q aj=>by
  obtain⟨F,α,e,μ,S,h⟩:=aj
  obtain⟨x,h1,h⟩:=R.aY h
  obtain⟨v,hv,ok⟩:=S.sl i x h1
  exact⟨v,hv,h v H F α Ex.refl S ok⟩
theorem jn{v:V}{t:T}(h:PE X a (tC v))(r:∀F,Rep X.K F t v):CE X a (dC t) :=
 PE.imp h λσ H Q ⟨F,α,e,μ,S,h⟩=>h v H F α Ex.refl S (r F)
theorem ak{i:Int}{j pos}:CE X (.Constant (.int i) j pos) (dC (.int i)):=jn BC λ_=>Rep.fS i
theorem gL{i:Bool}{j pos}:CE X (.Constant (.bool i) j pos) (dC (.bl i)):=jn Lc λ_=>Rep.bl' i
theorem gk{i:Str}{j pos}:CE X (.Constant (.str i) j pos) (dC (.str i)):=jn Ii λ_=>Rep.FU i
theorem Cr{j pos}:CE X (.Constant .none j pos) (dC .non):=jn Ih λ_=>Rep.LU
theorem sW{x:Str}{i:Int}{tk:Nat}(hm:X.mg x=some (.int i tk))(hg:Gl X x:=by rfl)(hd:(x==("__debug__":Str))=false:=by decide):CE X (.Name x pos) (dC (.int i)):=jn (v:=.int i) (EY hg hm ⟨tk,rfl⟩ hd) λ_=>Rep.fS i
theorem two{r:R2}{f:T->T->Option T}(hs:du X.K r f)(σ:St)(H:Hp)(Q:VK)(h:tD X (ah f da db) σ H Q):tOp r (tD X da) (tD X db) σ H Q:=by
 obtain⟨F,α,e,μ,S,h⟩:=h
 refine⟨F,α,e,μ,S,?_⟩
 refine(R.wp_bind h).mono (λx μ1 h v H1 F1 α1 x1 S1 o1=>⟨F1,α1,e,μ1,S1,?_⟩) λ_ _ h=>h
 refine(R.wp_bind h).mono (λy μ2 h v2 H2 F2 α2 x2 S2 o2=>?_) λ_ _ h=>h.mono x1
 obtain⟨w,h9,post⟩:=R.aY h
 obtain⟨t,u,w',ht,hu,h,rfl⟩:=mU h9
 exact hs F2 H2 v v2 t u w' Q S2.st.ext (aO S2.st (o1.mono x2.same x2.pre) ht) (aO S2.st o2 hu) h λv' H' F' g rp =>
  post v' H' F' α2 (x1.trans (x2.trans (g.ex S2.st.ext))) (S2.grow g) rp
theorem pA{op:Operator}{r:R2}{f:T->T->Option T}(ho:OpR X (binaryOp op) r)(hs:du X.K r f)(ha:CE X a da)(hb:CE X b db):CE X (.BinOp a op b pos) (ah f da db) :=
 PE.imp (Hx ho ha hb) (two hs)
theorem Cs{op:CmpOp}{r:R2}{f:T->T->Option T}(ho:OpR X (compareOp op) r)(hs:du X.K r f)(hm:behindInMarks op b=false)(ha:CE X a da)(hb:CE X b db):CE X (.Compare a [op] [b] pos) (ah f da db) :=
 PE.imp (yn ho ha hb hm) (two hs)
theorem one{r:V->Hp->VK->Prop}{f:T->Option T}(hs:HD X.K r f)(σ:St)(H:Hp)(Q:VK)(h:tD X (dUn f da) σ H Q):tUn r (tD X da) σ H Q:=by
 obtain⟨F,α,e,μ,S,h⟩:=h
 refine⟨F,α,e,μ,S,?_⟩
 refine(R.wp_bind h).mono (λx μ1 h v H1 F1 α1 x1 S1 o1=>?_) λ_ _ h=>h
 obtain⟨w,h9,post⟩:=R.aY h
 obtain⟨t,w',ht,h,rfl⟩:=iz h9
 exact hs F1 H1 v t w' Q S1.st.ext (aO S1.st o1 ht) h λv' H' F' g rp =>
  post v' H' F' α1 (x1.trans (g.ex S1.st.ext)) (S1.grow g) rp
theorem LX{op:UnaryOp}{r:V->Hp->VK->Prop}{f:T->Option T}(ho:UnR X (unaryOp op) r)(hs:HD X.K r f)(ha:CE X a da):CE X (.UnaryOp op a pos) (dUn f da):=PE.imp (Lo ho ha) (one hs)
theorem aw:CA X [] []:=PA.imp wm λσ H Q ⟨F,α,e,μ,S,h⟩=>h [] H F α Ex.refl S .nil
theorem ag{es:List Expr}{ds:List D}(ha:CE X a da)(hr:CA X es ds)(hs:starEach (a::es) X.env=(false,eval a X.env)::starEach es X.env:=by rfl):CA X (a::es) (da::ds) :=
 PA.imp (ox ha hr hs) λσ H Q aj=>by
  obtain⟨F,α,e,μ,S,h⟩:=aj
  rw[bh] at h
  refine⟨F,α,e,μ,S,(R.wp_bind h).mono (λx μ1 h v H1 F1 α1 x1 S1 o1=>⟨F1,α1,e,μ1,S1,?_⟩) λ_ _ h=>h⟩
  refine(R.wp_bind h).mono (λxs μ2 h vs H2 F2 α2 x2 S2 o2=>?_) λ_ _ h=>h.mono x1
  exact h (v::vs) H2 F2 α2 (x1.trans x2) S2 (.cons (o1.mono x2.same x2.pre) o2)
theorem rz:∀{ds:List D}{e:Slots}{μ μ':af}{xs:List SV},cM ds e μ=.ok xs μ'->xs.length=ds.length
 | [],e,μ,μ',xs,h=>by cases h;rfl
 | d::ds,e,μ,μ',xs,h=>by
  rw[bh] at h
  obtain⟨x,μ1,hx,h⟩:=R.aM h
  obtain⟨ys,μ2,hy,h⟩:=R.aM h
  cases h
  rw[List.length_cons,List.length_cons,rz hy]
theorem eB{ds:List D}{e:Slots}{μ:af}{Q:List SV->af->Prop}{E:T->af->Prop}(h:(cM ds e μ).wp Q E):(cM ds e μ).wp (λxs μ'=>xs.length=ds.length/\Q xs μ') E:=by
 cases q:cM ds e μ with
 | ok xs μ'=>rw[q] at h;exact⟨rz q,h⟩
 | err c μ'=>rw[q] at h;exact h
 | bad=>rw[q] at h;exact h
theorem jV{n:Nat}{xs:List SV}{vs:List V}{P:V->SV->Prop}(h:xs.length=n)(o:Paired P vs xs)(hl:n≤1000):vs.length≤sizeLine:=by
 have e1:=o.length
 exact Nat.le_of_lt (Ae (by lia))
theorem hG{es:List Expr}{ds:List D}{x1}(h:CA X es ds)(hl:ds.length≤1000:=by decide):CE X (.Tuple es x1 pos) (ee ds) :=
 PE.imp (BR h) λσ H Q aj=>by
  obtain⟨F,α,e,μ,S,h⟩:=aj
  refine⟨F,α,e,μ,S,(eB (R.wp_bind h)).mono (λxs μ1 b9 vs H1 F1 α1 x1 S1 o1=>?_) λ_ _ h=>h⟩
  obtain⟨hn,h⟩:=b9
  have h:=R.wp_bind h
  cases hz:dq xs μ1 with
  | err c μ2 =>
   exact absurd hz (oA xs μ1 c μ2)
  | bad=>rw[hz] at h;exact h.elim
  | ok ts μ2 =>
   rw[hz] at h
   obtain⟨F2,s2,n2,S2,r2⟩:=oF S1.st o1 hz
   refine⟨jV hn o1 hl,λp hp=>?_⟩
   have g:bt F2 H1 (upd F2 p (.tup vs)) (upd H1 p (.tup vs)):=bt.new hp
   refine h _ _ (upd F2 p (.tup vs)) α1 (x1.trans ((Ex.nG s2 n2).trans (g.ex S2.ext))) ((S1.of s2 (List.prefix_refl _) S2).grow g) ?_
   show Rep X.K _ (.tup ts) _
   rw[Rep]
   exact⟨p,vs,rfl,SqT.of az,aA.mono (g.same S2.ext) _ _ r2⟩
theorem pB{K:PySem.W.Frag}{F:Hp}{α:List Addr}:∀{xs:List SV}{vs:List V}{ys:List (Sum T Nat)},Paired (λv x=>eL K F α v x) vs xs->boxed xs=some ys->Paired (i_ K F α) vs ys
 | [],vs,ys,p,h=>by cases p;cases h;exact .nil
 | .val t::xs,vs,ys,p,h=>by
  cases p with
  | cons hv p =>
   obtain⟨zs,h1,rfl⟩:=Option.map_eq_some_iff.mp (show(boxed xs).map _=some ys from h)
   exact .cons hv (pB p h1)
 | .cel t::xs,vs,ys,p,h=>by
  cases p with
  | cons hv p =>
   obtain⟨zs,h1,rfl⟩:=Option.map_eq_some_iff.mp (show(boxed xs).map _=some ys from h)
   exact .cons hv (pB p h1)
 | .box t::xs,vs,ys,p,h=>by cases h
 | .lbx t::xs,vs,ys,p,h=>by cases h
theorem Ct{es:List Expr}{ds:List D}{x1}(h:CA X es ds)(hl:ds.length≤1000:=by decide):CE X (.Tuple es x1 pos) (uP ds) :=
 PE.imp (BR h) λσ H Q aj=>by
  obtain⟨F,α,e,μ,S,h⟩:=aj
  refine⟨F,α,e,μ,S,(eB (R.wp_bind h)).mono (λxs μ1 b9 vs H1 F1 α1 x1 S1 o1=>?_) λ_ _ h=>h⟩
  obtain⟨hn,h⟩:=b9
  obtain⟨ys,hy,h⟩:=R.aY (R.wp_bind h)
  refine⟨jV hn o1 hl,λp hp=>?_⟩
  have g:bt F1 H1 (upd F1 p (.tup vs)) (upd H1 p (.tup vs)):=bt.new hp
  refine h _ _ (upd F1 p (.tup vs)) α1 (x1.trans (g.ex S1.st.ext)) (S1.grow g) ?_
  exact⟨p,vs,rfl,SqT.of az,Paired.imp' (λ_ _ z=>i_.mono (g.same S1.st.ext) (List.prefix_refl _) z) (pB o1 hy)⟩
def tF(X:Cx)(d:D):TE:=λσ H Q=>∃F α e μ,Sim X.K F α e μ σ H/\(d e μ).wp (λx μ'=>∃t,x=.val t /\
 ∀p H' F' α',Ex F α H F' α' H'->Sim X.K F' α' e μ' σ H'->H p=none->F' p=none->p∉α'->gj X.K F' H' p t->Q (.ref p) H') (eN X F α H e)
def CF(X:Cx)(e:Expr)(d:D):Prop:=PE X e (tF X d)/\∀e μ x μ',d e μ=.ok x μ'->∃t,x=.val t
theorem R.wI{P:SV->af->Prop}{r:R SV}{E:T->af->Prop}(h:r.wp P E):r.wp (λx μ=>r=.ok x μ/\P x μ) E:=by
 cases r with
 | ok a μ=>exact⟨rfl,h⟩
 | err c μ=>exact h
 | bad=>exact h
theorem uZ{σ:St}{H:Hp}{Q:VK}(h2:∀e μ x μ',da e μ=.ok x μ'->∃t,x=.val t)(h:tD X da σ H Q):tF X da σ H Q:=by
 obtain⟨F,α,e,μ,S,hd⟩:=h
 refine⟨F,α,e,μ,S,(R.wI hd).mono (λx μ' aj=>?_) λ_ _ h=>h⟩
 obtain⟨hx,post⟩:=aj
 obtain⟨t,rfl⟩:=h2 e μ x μ' hx
 refine⟨t,rfl,λp H1 F1 α1 x1 S1 h0 hp hn c=>?_⟩
 obtain⟨o,ho⟩:=c.there
 have s2:aI F1 (upd F1 p o):=λb z hz=>by
  rw[aF (λq=>by subst q;rw[hp] at hz;cases hz)];exact hz
 have st:cf X.K (upd F1 p o) α1 μ' H1:=by
  refine⟨λb z hz=>?_,S1.st.len,S1.st.nd,S1.st.there,λk b u a' h1 h2=>?_,S1.st.tps.mono s2⟩
  ·by_cases eb:b=p
   ·subst eb;rw[az] at hz;cases hz;exact ho
   ·rw[aF eb] at hz;exact S1.st.ext b z hz
  ·have na:a'≠p:=λq=>by subst q;exact hn (List.mem_of_getElem? h2)
   obtain⟨c1,c2⟩:=S1.st.cell k b u a' h1 h2
   refine⟨λhb=>⟨by rw[aF na];exact(c1 hb).1,?_⟩,λhb=>Rep.mono s2 _ _ (c2 hb)⟩
   have d2:=(c1 hb).2
   cases u with
   | lst ts=>obtain⟨vs,w1,w2⟩:=d2;exact⟨vs,w1,aA.mono s2 _ _ w2⟩
   | dct ts=>obtain⟨vs,w1,w2⟩:=d2;exact⟨vs,w1,bj.mono s2 _ _ w2⟩
   | dtt fz ts=>exact d2
   | _=>exact d2.elim
 refine post _ _ (upd F1 p o) α1 (x1.ice h0 hp) (S1.of s2 (List.prefix_refl _) st) ?_
 show Rep X.K _ t _
 cases t with
 | lst ts=>obtain⟨vs,w1,w2⟩:=c;rw[w1] at ho;cases ho;rw[Rep];exact⟨p,vs,rfl,SqL.of az,aA.mono s2 _ _ w2⟩
 | dct ts=>obtain⟨vs,w1,w2⟩:=c;rw[w1] at ho;cases ho;rw[Rep];exact⟨p,vs,rfl,az,bj.mono s2 _ _ w2⟩
 | dtt fz ts=>obtain⟨d4,d3⟩:=c;rw[d3] at ho;cases ho;rw[Rep];exact⟨p,rfl,.inl ⟨d4,az⟩⟩
 | _=>exact c.elim
theorem CF.ce(h:CF X a da):CE X a da:=PE.imp h.1 λσ H Q q=>uZ h.2 q
theorem Ao{σ:St}{H:Hp}{Q:VK}(h2:∀e μ x μ',da e μ=.ok x μ'->∃t,x=.val t)(h:tD X (bG da) σ H Q):tF X da σ H Q:=by
 obtain⟨F,α,e,μ,S,hd⟩:=h
 rw[oZ] at hd
 refine⟨F,α,e,μ,S,(R.wI (R.wp_bind hd)).mono (λx μ1 aj=>?_) λ_ _ h=>h⟩
 obtain⟨hx,post⟩:=aj
 obtain⟨t,rfl⟩:=h2 e μ x μ1 hx
 refine⟨t,rfl,λp H1 F1 α1 x1 S1 h0 hp hn c=>?_⟩
 obtain⟨o,ho⟩:=c.there
 have pk:∀{k:Nat}{a:Addr},(α1++[p])[k]?=some a->(k<α1.length/\α1[k]?=some a)∨(k=α1.length/\a=p):=λ{k a} h=>by
  by_cases hk:k<α1.length
  ·rw[List.getElem?_append_left hk] at h;exact .inl ⟨hk,h⟩
  ·rw[List.getElem?_append_right (by lia)] at h
   by_cases h0:k-α1.length=0
   ·rw[h0] at h;simp at h;exact .inr ⟨by lia,h.symm⟩
   ·rw[List.getElem?_eq_none (by simp;lia)] at h;cases h
 have st:cf X.K F1 (α1++[p]) (μ1++[(true,t)]) H1:=by
  refine⟨S1.st.ext,by simp[S1.st.len],?_,λk a h=>?_,λk b u a h1 h2=>?_,S1.st.tps⟩
  ·rw[List.nodup_append]
   refine⟨S1.st.nd,by simp,λa ha b hb=>?_⟩
   simp at hb
   subst hb
   exact λq=>hn (by rw[← q];exact ha)
  ·rcases pk h with ⟨_,g⟩|⟨_,rfl⟩
   ·exact S1.st.there k a g
   ·exact⟨o,ho⟩
  ·rcases pk h2 with ⟨hk,g⟩|⟨hk,rfl⟩
   ·rw[List.getElem?_append_left (by rw[← S1.st.len];exact hk)] at h1
    exact S1.st.cell k b u a h1 g
   ·rw[hk,S1.st.len] at h1
    simp at h1
    obtain⟨rfl,rfl⟩:=h1
    exact⟨λ_=>⟨hp,c⟩,λz=>(by cases z)⟩
 refine post _ _ F1 (α1++[p]) (x1.more h0) (S1.of (aI.refl _) (List.prefix_append _ _) st) ⟨p,?_,rfl⟩
 rw[List.getElem?_append_right (by rw[S1.st.len];exact Nat.le_refl _),S1.st.len]
 simp
theorem CF.cell(h:CF X a da):CE X a (bG da):=PE.imp h.1 λσ H Q q=>Ao h.2 q
theorem bC{K:PySem.W.Frag}{F H:Hp}{α:List Addr}{μ:af}{p:Addr}(S:cf K F α μ H)(h:H p=none):p∉α:=λhm=>by
 obtain⟨k,hk⟩:=List.mem_iff_getElem?.mp hm
 obtain⟨o,ho⟩:=S.there k p hk
 rw[h] at ho;cases ho
theorem cf.lay{K:PySem.W.Frag}{F H:Hp}{α:List Addr}{μ:af}{p:Addr}{o:HO}(S:cf K F α μ H)(h:H p=none)(n:NT o:=by intro _ h;cases h):cf K F α μ (upd H p o):=by
 have hup:∀c z,H c=some z->(upd H p o) c=some z:=λc z hz=>by
  rw[aF (λq=>by subst q;rw[h] at hz;cases hz)];exact hz
 refine⟨λa z hz=>hup _ _ (S.ext a z hz),S.len,S.nd,λk a g=>?_,λk b u a h1 h2=>?_,S.tps.upd n⟩
 ·obtain⟨z,hz⟩:=S.there k a g
  exact⟨z,hup _ _ hz⟩
 ·obtain⟨c1,c2⟩:=S.cell k b u a h1 h2
  refine⟨λhb=>⟨(c1 hb).1,?_⟩,c2⟩
  have d2:=(c1 hb).2
  cases u with
  | lst ts=>obtain⟨vs,w1,w2⟩:=d2;exact⟨vs,hup _ _ w1,w2⟩
  | dct ts=>obtain⟨vs,w1,w2⟩:=d2;exact⟨vs,hup _ _ w1,w2⟩
  | dtt fz ts=>exact⟨d2.1,hup _ _ d2.2⟩
  | _=>exact d2.elim
theorem gm{es:List Expr}{ds:List D}(h:CA X es ds)(hl:ds.length≤1000:=by decide):CF X (.List es pos) (eK ds) :=
 ⟨PE.imp (BS h) λσ H Q aj=>by
  obtain⟨F,α,e,μ,S,h⟩:=aj
  refine⟨F,α,e,μ,S,(eB (R.wp_bind h)).mono (λxs μ1 b9 vs H1 F1 α1 x1 S1 o1=>?_) λ_ _ h=>h⟩
  obtain⟨hn,h⟩:=b9
  have h:=R.wp_bind h
  cases hz:dq xs μ1 with
  | err c μ2 =>
   exact absurd hz (oA xs μ1 c μ2)
  | bad=>rw[hz] at h;exact h.elim
  | ok ts μ2 =>
   rw[hz] at h
   obtain⟨t,e1,post⟩:=h
   cases e1
   obtain⟨F2,s2,n2,S2,r2⟩:=oF S1.st o1 hz
   refine⟨jV hn o1 hl,λp hp=>?_⟩
   exact post p _ F2 α1 (x1.trans ((Ex.nG s2 n2).trans (Ex.lay hp))) (S1.of s2 (List.prefix_refl _) (S2.lay hp)) (x1.was S1.st hp) (S2.ext.free hp) (bC S2 hp) ⟨vs,az,r2⟩,
 λe μ x μ' h=>by
  unfold eK at h
  obtain⟨xs,μ1,hx,h⟩:=R.aM h
  obtain⟨ts,μ2,hz,h⟩:=R.aM h
  cases h
  exact⟨_,rfl⟩⟩
theorem yL{f:T->Option T}{e:Slots}{μ μ':af}{x:SV}(h:dUn f da e μ=.ok x μ'):∃t,x=.val t:=by
 unfold dUn at h
 obtain⟨x,μ1,hx,h⟩:=R.aM h
 obtain⟨h9,rfl⟩:=R.iy h
 obtain⟨t,w',ht,h,rfl⟩:=iz h9
 exact⟨_,rfl⟩
theorem kC{σ:St}{H:Hp}{Q:List V->Hp->Prop}(h:tD X da σ H λv H'=>Q [v] H'):tDA X [da] σ H Q:=by
 obtain⟨F,α,e,μ,S,h⟩:=h
 refine⟨F,α,e,μ,S,?_⟩
 rw[bh]
 cases q:da e μ with
 | err c μ1=>rw[q] at h;exact h
 | bad=>rw[q] at h;exact h
 | ok x μ1 =>
  rw[q] at h
  intro vs H1 F1 α1 x1 S1 o1
  cases o1 with
  | cons o1 o2=>cases o2;exact h _ H1 F1 α1 x1 S1 o1
theorem Cu{r:List V->Hp->VK->Prop}{f:T->Option T}(hs:mh X.K r f)(σ:St)(H:Hp)(Q:VK)(h:tD X (dUn f da) σ H Q):tCB r (tDA X [da]) σ H Q :=
 kC (one (r:=λv H Q=>r [v] H Q) hs σ H Q h)
theorem Jp{r:List V->Hp->VK->Prop}{f:T->Option T}(hs:uY X.K r f)(σ:St)(H:Hp)(Q:VK)(h:tF X (dUn f da) σ H Q):tCB r (tDA X [da]) σ H Q:=by
 refine kC ?_
 obtain⟨F,α,e,μ,S,h⟩:=h
 refine⟨F,α,e,μ,S,?_⟩
 refine(R.wp_bind h).mono (λx μ1 h v H1 F1 α1 x1 S1 o1=>?_) λ_ _ h=>h
 obtain⟨w,h9,t',e1,post⟩:=R.aY h
 obtain⟨t,w',ht,h,e2⟩:=iz h9
 subst e1
 cases e2
 exact hs F1 H1 _ t _ Q S1.st.ext (aO S1.st o1 ht) h λp o hp c =>
  post p _ F1 α1 (x1.trans (Ex.lay hp)) (S1.of (aI.refl _) (List.prefix_refl _) (S1.st.lay hp c.nt)) (x1.was S1.st hp) (S1.st.ext.free hp) (bC S1.st hp) c
theorem call2{r:List V->Hp->VK->Prop}{f:T->T->Option T}(hs:uX X.K r f)(σ:St)(H:Hp)(Q:VK)(h:tD X (ah f da db) σ H Q):tCB r (tDA X [da,db]) σ H Q:=by
 obtain⟨F,α,e,μ,S,h⟩:=h
 refine⟨F,α,e,μ,S,?_⟩
 rw[bh]
 cases q:da e μ with
 | err c μ1=>rw[gH,q] at h;exact h
 | bad=>rw[gH,q] at h;exact h
 | ok x μ1 =>
  rw[gH,q] at h
  rw[R.aQ] at h ⊢
  rw[bh]
  cases q2:db e μ1 with
  | err c μ2=>rw[q2] at h;exact h
  | bad=>rw[q2] at h;exact h
  | ok y μ2 =>
   rw[q2] at h
   intro vs H1 F1 α1 x1 S1 o1
   cases o1 with
   | cons o1 o2 =>
    cases o2 with
    | cons o2 o3 =>
     cases o3
     obtain⟨w,h9,post⟩:=R.aY h
     obtain⟨t,u,w',ht,hu,h,rfl⟩:=mU h9
     exact hs F1 H1 _ _ t u w' Q S1.st.ext (aO S1.st o1 ht) (aO S1.st o2 hu) h λv' H' F' g rp =>
      post v' H' F' α1 (x1.trans (g.ex S1.st.ext)) (S1.grow g) rp
end
theorem wJ{x:SV}{k:Bool}(h:asB x=some k):x=.val (.bl k):=by
 cases x with
 | val t=>cases t<;>first|(cases h;rfl)|cases h
 | cel j=>cases h
 | box xs=>cases h
 | lbx xs=>cases h
theorem jW{β:Type}{r:R SV}{f:Bool->af->R β}{Q:β->af->Prop}{E:T->af->Prop}(h:(r.bind λy μ1=>(R.lift (asB y) μ1).bind f).wp Q E) :
  r.wp (λx μ=>∃k,x=.val (.bl k)/\(f k μ).wp Q E) E:=(R.wp_bind h).mono (λx μ h=>by
 obtain⟨k,hk,h⟩:=R.aY (R.wp_bind h)
 exact⟨k,wJ hk,h⟩) λ_ _ h=>h
def CW(X:Cx)(e:Expr)(d:D):Prop:=PW X e (tDT X d)
theorem PW.imp{X:Cx}{e:Expr}{t t':TT}(h:PW X e t)(i:∀σ H Q,t' σ H Q->t σ H Q):PW X e t':=λwhole pins s σ H Q I q=>h whole pins s σ H Q I (i σ H Q q)
theorem rA{X:Cx}{d:D}{σ:St}{H:Hp}{Q:Bool->Hp->Prop}(h:tDT X d σ H Q):tD X d σ H λx H'=>∃k,x=.bl k/\Q k H':=by
 obtain⟨F,α,e,μ,S,h⟩:=h
 refine⟨F,α,e,μ,S,h.mono (λx μ' aj v H' F' α' y S' o=>?_) λ_ _ h=>h⟩
 obtain⟨b,hb,post⟩:=aj
 subst hb
 exact⟨b,Rep.gK (K:=X.K) (F:=F') o,post H' F' α' y S'⟩
section
variable{X:Cx}{a b c:Expr}{da db dc:D}{pos:Pos}{rest:List Expr}
theorem gp(h:CE X a da)(he:∀whole,isTrue a X.env whole=(do let v ← whole;standAt a.pos;holding [v] (truthy v)):=by intro _;rfl):CT X a da :=
 PT.imp (Ij h he) λσ H Q q=>rA q
theorem jo{op:CmpOp}{r:R2}{f:T->T->Option T}(ho:OpR X (compareOp op) r)(hs:du X.K r f)(hm:behindInMarks op b=false)(ha:CE X a da)(hb:CE X b db):CT X (.Compare a [op] [b] pos) (ah f da db) :=
 PT.imp (E6 ho ha hb hm) λσ H Q q=>two hs σ H _ (rA q)
theorem kW(h:CT X a da):CT X (.UnaryOp .Not a pos) (gh da):=PT.imp (Im h) λσ H Q aj=>by
 obtain⟨F,α,e,μ,S,h⟩:=aj
 refine⟨F,α,e,μ,S,(jW h).mono (λx μ1 ⟨k,hx,b,hb,h⟩=>⟨k,hx,?_⟩) λ_ _ h=>h⟩
 cases hb
 exact h
theorem wK(h:CT X a da):CW X (.BoolOp .And [a] pos) da:=E1 h
theorem fY(h:CT X a da):CW X (.BoolOp .Or [a] pos) da:=Ik h
theorem CW.ct(h:CW X a da):CT X a da:=PW.pt h
theorem Jq(ha:CT X a da)(hb:CW X (.BoolOp .And (b::rest) pos) db):CW X (.BoolOp .And (a::b::rest) pos) (mV da db) :=
 PW.imp (Il ha hb) λσ H Q aj=>by
  obtain⟨F,α,e,μ,S,h⟩:=aj
  refine⟨F,α,e,μ,S,(jW h).mono (λx μ1 ⟨k,hx,h⟩=>⟨k,hx,λH1 F1 α1 x1 S1=>?_⟩) λ_ _ h=>h⟩
  cases k with
  | true =>
   rw[if_pos rfl] at h ⊢
   exact⟨F1,α1,e,μ1,S1,h.mono (λy μ2 ⟨b,hb,h⟩=>⟨b,hb,λH2 F2 α2 x2 S2=>h H2 F2 α2 (x1.trans x2) S2⟩) λ_ _ h=>h.mono x1⟩
  | false =>
   rw[if_neg Bool.false_ne_true] at h ⊢
   obtain⟨b,hb,h⟩:=h
   cases hb
   exact h H1 F1 α1 x1 S1
theorem pC(ha:CT X a da)(hb:CW X (.BoolOp .Or (b::rest) pos) db):CW X (.BoolOp .Or (a::b::rest) pos) (dOr da db) :=
 PW.imp (Le ha hb) λσ H Q aj=>by
  obtain⟨F,α,e,μ,S,h⟩:=aj
  refine⟨F,α,e,μ,S,(jW h).mono (λx μ1 ⟨k,hx,h⟩=>⟨k,hx,λH1 F1 α1 x1 S1=>?_⟩) λ_ _ h=>h⟩
  cases k with
  | true =>
   rw[if_pos rfl] at h ⊢
   obtain⟨b,hb,h⟩:=h
   cases hb
   exact h H1 F1 α1 x1 S1
  | false =>
   rw[if_neg Bool.false_ne_true] at h ⊢
   exact⟨F1,α1,e,μ1,S1,h.mono (λy μ2 ⟨b,hb,h⟩=>⟨b,hb,λH2 F2 α2 x2 S2=>h H2 F2 α2 (x1.trans x2) S2⟩) λ_ _ h=>h.mono x1⟩
theorem wL{op}(h:CE X a da):CE X (.BoolOp op [a] pos) da:=Io h
theorem sX(ha:CE X a da)(hb:CE X (.BoolOp .And (b::rest) pos) db):CE X (.BoolOp .And (a::b::rest) pos) (mV da db) :=
 PE.imp (Ip ha hb) λσ H Q aj=>by
  obtain⟨F,α,e,μ,S,h⟩:=aj
  refine⟨F,α,e,μ,S,(jW h).mono (λx μ1 b9 v H1 F1 α1 x1 S1 o1=>?_) λ_ _ h=>h⟩
  obtain⟨k,hx,h⟩:=b9
  subst hx
  refine⟨k,Rep.gK (K:=X.K) (F:=F1) o1,?_⟩
  cases k with
  | true =>
   rw[if_pos rfl] at h ⊢
   exact⟨F1,α1,e,μ1,S1,h.mono (λy μ2 h v H2 F2 α2 x2 S2 o2=>h v H2 F2 α2 (x1.trans x2) S2 o2) λ_ _ h=>h.mono x1⟩
  | false =>
   rw[if_neg Bool.false_ne_true] at h ⊢
   exact h _ H1 F1 α1 x1 S1 (Rep.bl' (K:=X.K) (F:=F1) _)
theorem Jr(ha:CE X a da):CE X (.UnaryOp .Not a pos) (gh da):=PE.imp (Iq ha) λσ H Q aj=>by
 obtain⟨F,α,e,μ,S,h⟩:=aj
 refine⟨F,α,e,μ,S,(jW h).mono (λx μ1 b9 v H1 F1 α1 x1 S1 o1=>?_) λ_ _ h=>h⟩
 obtain⟨k,hx,h⟩:=b9
 subst hx
 refine⟨k,Rep.gK (K:=X.K) (F:=F1) o1,?_⟩
 exact h _ H1 F1 α1 x1 S1 (Rep.bl' (K:=X.K) (F:=F1) _)
theorem Js(hc:CT X c dc)(ha:CE X a da)(hb:CE X b db):CE X (.IfExp c a b pos) (Fq dc da db) :=
 PE.imp (BF hc ha hb) λσ H Q aj=>by
  obtain⟨F,α,e,μ,S,h⟩:=aj
  refine⟨F,α,e,μ,S,(jW h).mono (λx μ1 ⟨k,hx,h⟩=>⟨k,hx,λH1 F1 α1 x1 S1=>?_⟩) λ_ _ h=>h⟩
  cases k with
  | true =>
   rw[if_pos rfl] at h ⊢
   exact⟨F1,α1,e,μ1,S1,h.mono (λy μ2 h v H2 F2 α2 x2 S2 o2=>h v H2 F2 α2 (x1.trans x2) S2 o2) λ_ _ h=>h.mono x1⟩
  | false =>
   rw[if_neg Bool.false_ne_true] at h ⊢
   exact⟨F1,α1,e,μ1,S1,h.mono (λy μ2 h v H2 F2 α2 x2 S2 o2=>h v H2 F2 α2 (x1.trans x2) S2 o2) λ_ _ h=>h.mono x1⟩
end
def aV(X:Cx)(F:Hp)(α:List Addr)(H:Hp)(D:Ends):RS->Prop
 | .nx e' μ'=>∀σ' H' F' α',Ex F α H F' α' H'->Sim X.K F' α' e' μ' σ' H'->D.nx σ' H'
 | .rt x μ'=>∀v H' F' α',Ex F α H F' α' H'->cf X.K F' α' μ' H'->eL X.K F' α' v x->D.rt v H'
 | .bk e' μ'=>∀σ' H' F' α',Ex F α H F' α' H'->Sim X.K F' α' e' μ' σ' H'->D.bk σ' H'
 | .ct e' μ'=>∀σ' H' F' α',Ex F α H F' α' H'->Sim X.K F' α' e' μ' σ' H'->D.ct σ' H'
 | .err c e' μ'=>eN X F α H e' c μ'
 | .bad=>False
theorem aV.mono{X:Cx}{F F' H H':Hp}{α α':List Addr}{D:Ends}{r:RS}(x:Ex F α H F' α' H')(h:aV X F α H D r):aV X F' α' H' D r:=by
 cases r with
 | nx e μ=>exact λσ H F2 α2 x2=>h σ H F2 α2 (x.trans x2)
 | rt y μ=>exact λσ H F2 α2 x2=>h σ H F2 α2 (x.trans x2)
 | bk e μ=>exact λσ H F2 α2 x2=>h σ H F2 α2 (x.trans x2)
 | ct e μ=>exact λσ H F2 α2 x2=>h σ H F2 α2 (x.trans x2)
 | err c e μ=>exact eN.mono x h
 | bad=>exact h
def tDS(X:Cx)(d:DS):TS:=λD σ H=>∃F α e μ,Sim X.K F α e μ σ H/\aV X F α H D (d e μ)
def CS(X:Cx)(st:Stmt)(d:DS):Prop:=PS X st (tDS X d)
def CSs(X:Cx)(st:List Stmt)(d:DS):Prop:=PSs X st (tDS X d)
theorem aV.toS{α':Type}{X:Cx}{F H:Hp}{α:List Addr}{D:Ends}{x:R α'}{e:Slots}{f:α'->af->RS}(h:aV X F α H D (x.toS e f)):x.wp (λa μ=>aV X F α H D (f a μ)) (eN X F α H e):=by
 cases x with
 | ok a μ=>exact h
 | err c μ=>exact h
 | bad=>exact h
theorem aV.lift{α':Type}{X:Cx}{F H:Hp}{α:List Addr}{D:Ends}{o:Option α'}{μ:af}{e:Slots}{f:α'->af->RS}(h:aV X F α H D ((R.lift o μ).toS e f)):∃a,o=some a/\aV X F α H D (f a μ):=R.aY h.toS
theorem aV.asB{X:Cx}{F H:Hp}{α:List Addr}{D:Ends}{x:R SV}{e:Slots}{f:Bool->af->RS}(h:aV X F α H D (x.toS e λy μ1=>(R.lift (Fw.asB y) μ1).toS e f)):x.wp (λy μ1=>∃k,y=.val (.bl k)/\aV X F α H D (f k μ1)) (eN X F α H e) :=
 h.toS.mono (λy μ h=>by
  obtain⟨k,hk,h⟩:=h.lift
  exact⟨k,wJ hk,h⟩) λ_ _ h=>h
section
variable{X:Cx}{st:Stmt}{sts:List Stmt}{d d1 d2:DS}{e:Expr}{de:D}{pos:Pos}
theorem bp:CSs X [] bB:=PSs.imp E2 λD σ H ⟨F,α,e,μ,S,h⟩=>h σ H F α Ex.refl S
theorem au(h:CS X st d):CSs X [st] d:=E3 h
theorem ai(h1:CS X st d1)(h2:CSs X sts d2):CSs X (st::sts) (aq d1 d2):=PSs.imp (BG h1 h2) λD σ H aj=>by
 obtain⟨F,α,e,μ,S,h⟩:=aj
 refine⟨F,α,e,μ,S,?_⟩
 unfold aq at h
 cases q:d1 e μ with
 | nx e1 μ1 =>
  rw[q] at h
  exact λσ' H' F' α' x S'=>⟨F',α',e1,μ1,S',h.mono x⟩
 | rt x μ1=>rw[q] at h;exact h
 | bk e1 μ1=>rw[q] at h;exact h
 | ct e1 μ1=>rw[q] at h;exact h
 | err c e1 μ1=>rw[q] at h;exact h
 | bad=>rw[q] at h;exact h
theorem aL(he:CE X e de):CS X (.Return (some e) pos) (aH de):=PS.imp (Ir he) λD σ H ⟨F,α,e,μ,S,h⟩ =>
 ⟨F,α,e,μ,S,(aV.toS h).mono (λx μ1 h v H1 F1 α1 x1 S1 o1=>h v H1 F1 α1 x1 S1.st o1) λ_ _ h=>h⟩
theorem slot_set{e:Slots}{i j:Nat}{x y:SV}(h:slot (e.set i (some x)) j=some y):(j=i/\y=x)∨slot e j=some y:=by
 unfold slot at h
 by_cases q:i=j
 ·subst q
  by_cases hl:i<e.length
  ·rw[List.getElem?_set_self hl] at h
   cases h
   exact .inl ⟨rfl,rfl⟩
  ·rw[List.getElem?_eq_none (by rw[List.length_set];omega)] at h
   cases h
 ·rw[List.getElem?_set_ne q] at h
  exact .inr h
theorem Sim.set{K:PySem.W.Frag}{F H:Hp}{α:List Addr}{e:Slots}{μ:af}{σ:St}{v:V}{x:SV}{i:Nat}(S:Sim K F α e μ σ H)(o:eL K F α v x):Sim K F α (e.set i (some x)) μ (σ.set i (some v)) H:=by
 refine⟨S.st,λj y h=>?_,by rw[List.length_set,List.length_set,S.len]⟩
 by_cases q:i=j
 ·subst q
  have hl:i<e.length:=by
   unfold slot at h
   by_cases hl:i<e.length
   ·exact hl
   ·rw[List.getElem?_eq_none (by rw[List.length_set];omega)] at h
    cases h
  have hy:y=x:=by
   unfold slot at h
   rw[List.getElem?_set_self hl] at h
   cases h;rfl
  subst hy
  exact⟨v,by rw[List.getElem?_set_self (by rw[← S.len];exact hl)],o⟩
 ·rcases slot_set h with ⟨rfl,_⟩|h
  ·exact absurd rfl q
  ·obtain⟨w,h1,h2⟩:=S.sl j y h
   exact⟨w,by rw[List.getElem?_set_ne q];exact h1,h2⟩
theorem aJ(i:Nat){x:Str}{pos':Pos}(hN:X.N.Nodup)(he:CE X e de)(hi:X.N[i]?=some x:=by rfl)(hx:Loc X.env.scope x:=by first|exact Or.inl rfl|exact Or.inr rfl)(hs:swapsWith e (some (.Name x pos')) pos.line X.env=pure false:=by rfl)
  (hf:X.fn x=true∨X.env.scope.names.lookup x=some .local:=by first|exact .inl rfl|exact .inr rfl|assumption):CS X (.Assign [.Name x pos'] e pos) (aC i de) :=
 PS.imp (Iy hN hi hx he hs hf) λD σ H ⟨F,α,e,μ,S,h⟩ =>
  ⟨F,α,e,μ,S,(aV.toS h).mono (λx μ1 h v H1 F1 α1 x1 S1 o1=>h _ H1 F1 α1 x1 (S1.set o1)) λ_ _ h=>h⟩
theorem cA{c:Expr}{as bs:List Stmt}{dc:D}(hc:CT X c dc)(ha:CSs X as d1)(hb:CSs X bs d2):CS X (.If c as bs pos) (sIf dc d1 d2):=PS.imp (Lj hc ha hb) λD σ H aj=>by
 obtain⟨F,α,e,μ,S,h⟩:=aj
 refine⟨F,α,e,μ,S,(aV.asB h).mono (λx μ1 ⟨k,hk,h⟩=>⟨k,hk,λH1 F1 α1 x1 S1=>?_⟩) λ_ _ h=>h⟩
 cases k with
 | true=>exact⟨F1,α1,e,μ1,S1,aV.mono x1 h⟩
 | false=>exact⟨F1,α1,e,μ1,S1,aV.mono x1 h⟩
theorem sY:CS X st sS:=PS.imp BH λD σ H ⟨F,α,e,μ,S,h⟩=>h
end
end Fw
namespace Fw
open PySem PySem.Spec PyProof.Rows L2
def LY(K:PySem.W.Frag)(F:Hp)(α:List Addr)(J:It)(W:Wk):Prop:=∀F2 α2 μ2 H2,aI F F2->α <+: α2->cf K F2 α2 μ2 H2->W.same μ2 ->
 (∀i t,W.items[i]?=some t->J.go i H2/\∀x H3,J.yld i H2 x H3->∃F3,bt F2 H2 F3 H3/\Rep K F3 t x)/\J.stop W.items.length H2
def tDI(X:Cx)(d:DI):TI:=λσ H R=>∃F α e μ,Sim X.K F α e μ σ H/\(d e μ).wp (λW μ' =>
 ∀J H' F' α',Ex F α H F' α' H'->Sim X.K F' α' e μ' σ H'->LY X.K F' α' J W->R J H') (eN X F α H e)
def CI(X:Cx)(tg e:Expr)(d:DI):Prop:=PI X tg e (tDI X d)
theorem PI.imp{X:Cx}{tg e:Expr}{t t':TI}(h:PI X tg e t)(i:∀σ H R,t' σ H R->t σ H R):PI X tg e t':=λpins s σ H R I q=>h pins s σ H R I (i σ H R q)
def LZ(K:PySem.W.Frag)(tl:TE):TI:=λσ H R=>tl σ H λx H1=>∃a,x=.ref a/\(((∃xs,SqL K H1 a xs)/\R (Itl K a) H1)∨((∃xs,SqT K H1 a xs)/\R (Itt K a) H1))
section
variable{X:Cx}{tg:Expr}
theorem FX{l:Expr}{tl:TE}(hl:PE X l tl):PI X tg l (LZ X.K tl):=by
 intro pins s σ H R I h
 refine thn (hl pins s σ H _ I h) λv s1 aj=>?_
 obtain⟨x,H1,I1,r1,q1⟩:=aj
 obtain⟨a,e,q⟩:=q1
 subst e
 cases r1
 rcases q with ⟨⟨xs,hq⟩,q⟩|⟨⟨xs,hq⟩,q⟩
 ·obtain⟨its,rv,p,hz⟩:=I1.list hq
  refine wpAny_pyIter_list p.isList ?_
  refine⟨s1.heap.objs.size,[s1.heap.objs.size],_,_,H1,rfl,I1.kept (t':=s1.toks) λb o e=>Heap.get?_push_of_some _ e,zN a _,⟨_,Heap.get?_push_size _ rfl,rfl,rfl⟩,λb hb=>?_,q⟩
  have e:b=s1.heap.objs.size:=by simpa using hb
  subst e
  exact I1.uD (Nat.le_refl _) (I1.hok.fresh (Nat.le_refl _))
 ·obtain⟨its,rv,p,hz⟩:=I1.tuple hq
  refine wpAny_pyIter_tuple (show s1.heap.IsTuple a its.toArray from p) ?_
  refine⟨s1.heap.objs.size,[s1.heap.objs.size],_,_,H1,rfl,I1.kept (t':=s1.toks) λb o e=>Heap.get?_push_of_some _ e,we a _,⟨_,Heap.get?_push_size _ rfl,rfl,rfl⟩,λb hb=>?_,q⟩
  have e:b=s1.heap.objs.size:=by simpa using hb
  subst e
  exact I1.uD (Nat.le_refl _) (I1.hok.fresh (Nat.le_refl _))
theorem b5{a:Expr}{da:D}(h:CE X a da):CI X tg a (bD da):=PI.imp (FX h) λσ H R0 aj=>by
 obtain⟨F,α,e,μ,S,h⟩:=aj
 refine⟨F,α,e,μ,S,(R.wp_bind h).mono (λx μ1 h v H1 F1 α1 x1 S1 o1=>?_) λ_ _ h=>h⟩
 obtain⟨ts,ht,post⟩:=R.aY (R.wp_bind h)
 obtain⟨t,hr,ht⟩:=Option.bind_eq_some_iff.mp ht
 have n1:=aO S1.st o1 hr
 cases t with
 | lst us =>
  cases ht
  obtain⟨a,vs,rfl,hq,hl⟩:=n1
  refine⟨a,rfl,.inl ⟨⟨vs,hq⟩,post _ H1 F1 α1 x1 S1 λF2 α2 μ2 H2 s2 p2 S2 same=>?_⟩⟩
  obtain⟨a',vs',e1,hq2,hl2⟩:=aO S2 (o1.mono s2 p2) ((show rd μ2 x=rd μ1 x from same).trans hr)
  cases e1
  refine⟨λi t hi=>?_,⟨vs',hq2,by rw[← hl2.length];exact Nat.le_refl _⟩⟩
  obtain⟨v,hv,rv⟩:=hl2.get hi
  exact⟨⟨vs',v,hq2,hv⟩,λy H3 b9=>by
   obtain⟨e3,hy⟩:=b9
   subst e3
   have:=hy vs' hq2
   rw[hv] at this;cases this
   exact⟨F2,bt.refl,rv⟩⟩
 | tup us =>
  cases ht
  obtain⟨a,vs,rfl,hq,hl⟩:=n1
  refine⟨a,rfl,.inr ⟨⟨vs,aI.fm S1.st.ext hq⟩,post _ H1 F1 α1 x1 S1 λF2 α2 μ2 H2 s2 p2 S2 same=>?_⟩⟩
  obtain⟨a',vs',e1,hq2,hl2⟩:=aO S2 (o1.mono s2 p2) ((show rd μ2 x=rd μ1 x from same).trans hr)
  have hq2:=aI.fm S2.ext hq2
  cases e1
  refine⟨λi t hi=>?_,⟨vs',hq2,by rw[← hl2.length];exact Nat.le_refl _⟩⟩
  obtain⟨v,hv,rv⟩:=hl2.get hi
  exact⟨⟨vs',v,hq2,hv⟩,λy H3 uC=>by
   obtain⟨e3,hy⟩:=uC
   subst e3
   have:=hy vs' hq2
   rw[hv] at this;cases this
   exact⟨F2,bt.refl,rv⟩⟩
 | _=>cases ht
theorem rB:∀{n:Nat}{lo:Int}{i:Nat}{t:T},(a_ lo n)[i]?=some t->i<n/\t=.int (lo+i)
 | 0,lo,i,t,h=>by simp[a_] at h
 | n+1,lo,0,t,h=>by
  simp[a_] at h
  subst h
  exact⟨Nat.succ_pos _,by simp⟩
 | n+1,lo,i+1,t,h=>by
  have h:(a_ (lo+1) n)[i]?=some t:=by simpa [a_] using h
  obtain⟨h1,h2⟩:=rB h
  exact⟨Nat.succ_lt_succ h1,by rw[h2];congr 1;omega⟩
theorem mi:∀(n:Nat) (lo:Int),(a_ lo n).length=n
 | 0,_=>rfl
 | n+1,lo=>by rw[a_,List.length_cons,mi]
theorem Cv{K:PySem.W.Frag}{F:Hp}{α:List Addr}(lo:Int)(n:Nat):LY K F α (Itr lo n) ⟨a_ lo n,λ_=>True⟩:=λF2 α2 μ2 H2 s2 p2 S2 _=>by
 refine⟨λi t hi=>?_,?_⟩
 ·obtain⟨h1,rfl⟩:=rB hi
  exact⟨h1,λx H3 aj=>by obtain⟨e1,e2⟩:=aj;subst e1;subst e2;exact⟨F2,bt.refl,Rep.fS _⟩⟩
 ·show n≤(a_ lo n).length
  rw[mi];exact Nat.le_refl _
theorem mj{t:T}{i:Int}(h:jk t=some i):t=.int i:=by
 cases t<;>first|(cases h;rfl)|cases h
theorem bL{a:Expr}{da:D}{p pos:Pos}(hm:X.mg "range"=none)(h:CE X a da)(hg:Gl X "range":=by rfl)(hs:starEach [a] X.env=[(false,eval a X.env)]:=by rfl):CI X tg (.Call (.Name "range" p) [a] [] pos) (aK da) :=
 PI.imp (zO hg hm (ag h aw hs) hs) λσ H R0 aj=>by
  obtain⟨F,α,e,μ,S,h⟩:=aj
  refine kC ⟨F,α,e,μ,S,(R.wp_bind h).mono (λx μ1 h v H1 F1 α1 x1 S1 o1=>?_) λ_ _ h=>h⟩
  obtain⟨j,ht,h⟩:=R.aY (R.wp_bind h)
  obtain⟨t,hr,ht⟩:=Option.bind_eq_some_iff.mp ht
  cases mj ht
  by_cases hb':bQ j=true
  ·rw[if_pos hb'] at h
   have hb:=fX hb'
   cases (aO S1.st o1 hr).int
   exact⟨j,rfl,hb.1,hb.2,h _ H1 F1 α1 x1 S1 (Cv 0 j.toNat)⟩
  ·rw[if_neg hb'] at h;exact h.elim
theorem HE{da db:D}{σ:L2.St}{H:Hp}{Q:List V->Hp->Prop}(h:∃F α e μ,Sim X.K F α e μ σ H/\(da e μ).wp (λx μ1=>(db e μ1).wp (λy μ2=>∀v u H' F' α',Ex F α H F' α' H'->Sim X.K F' α' e μ2 σ H'->eL X.K F' α' v x->eL X.K F' α' u y->Q [v,u] H') (eN X F α H e)) (eN X F α H e)):tDA X [da,db] σ H Q:=by
 obtain⟨F,α,e,μ,S,h⟩:=h
 refine⟨F,α,e,μ,S,?_⟩
 rw[bh]
 cases q:da e μ with
 | err c μ1=>rw[q] at h;exact h
 | bad=>rw[q] at h;exact h
 | ok x μ1 =>
  rw[q] at h
  rw[R.aQ,bh]
  have h:(db e μ1).wp _ _:=h
  cases q2:db e μ1 with
  | err c μ2=>rw[q2] at h;exact h
  | bad=>rw[q2] at h;exact h
  | ok y μ2 =>
   rw[q2] at h
   intro vs H1 F1 α1 x1 S1 o1
   cases o1 with
   | cons o1 o2 =>
    cases o2 with
    | cons o2 o3=>cases o3;exact h _ _ H1 F1 α1 x1 S1 o1 o2
theorem Ap{a b:Expr}{da db:D}{p pos:Pos}(hm:X.mg "range"=none)(h:CE X a da)(h':CE X b db)(hg:Gl X "range":=by rfl)(hs:starEach [a,b] X.env=[(false,eval a X.env),(false,eval b X.env)]:=by rfl)(hs2:starEach [b] X.env=[(false,eval b X.env)]:=by rfl) :
  CI X tg (.Call (.Name "range" p) [a,b] [] pos) (oB da db) :=
 PI.imp (zP hg hm (ag h (ag h' aw hs2) (by rw[hs,hs2])) hs hs2) λσ H R0 aj=>by
  obtain⟨F,α,e,μ,S,h⟩:=aj
  refine HE ⟨F,α,e,μ,S,(R.wp_bind h).mono (λx μ1 h=>(R.wp_bind h).mono (λy μ2 h v u H1 F1 α1 x1 S1 o1 o2=>?_) λ_ _ h=>h) λ_ _ h=>h⟩
  obtain⟨i,ht,h⟩:=R.aY (R.wp_bind h)
  obtain⟨t,hr,ht⟩:=Option.bind_eq_some_iff.mp ht
  cases mj ht
  obtain⟨j,ht,h⟩:=R.aY (R.wp_bind h)
  obtain⟨t,hr2,ht⟩:=Option.bind_eq_some_iff.mp ht
  cases mj ht
  by_cases hb':(bQ i && bQ j)=true
  ·rw[if_pos hb'] at h
   rw[Bool.and_eq_true] at hb'
   have hb:-(2 ^ 62)≤i/\i<2 ^ 62/\-(2 ^ 62)≤j/\j<2 ^ 62:=⟨(fX hb'.1).1,(fX hb'.1).2,(fX hb'.2).1,(fX hb'.2).2⟩
   cases (aO S1.st o1 hr).int
   cases (aO S1.st o2 hr2).int
   exact⟨i,j,rfl,hb,h _ H1 F1 α1 x1 S1 (Cv i (j-i).toNat)⟩
  ·rw[if_neg hb'] at h;exact h.elim
end
def tBd(K:PySem.W.Frag)(b:BD):TG:=λv σ H Q=>∃F α e μ t e',Sim K F α e μ σ H/\Rep K F t v/\b t e=some e'/\∀σ',Sim K F α e' μ σ' H->Q σ' H
def CB(X:Cx)(tg:Expr)(b:BD):Prop:=PG X tg (tBd X.K b)
theorem PG.imp{X:Cx}{tg:Expr}{t t':TG}(h:PG X tg t)(i:∀v σ H Q,t' v σ H Q->t v σ H Q):PG X tg t':=λpins s σ H v u Q I r q=>h pins s σ H v u Q I r (i v σ H Q q)
section
variable{X:Cx}{pos:Pos}
theorem aR(i:Nat){x:Str}(hN:X.N.Nodup)(hi:X.N[i]?=some x:=by rfl)(hx:Loc X.env.scope x:=by first|exact Or.inl rfl|exact Or.inr rfl)(hf:X.fn x=true∨X.env.scope.names.lookup x=some .local:=by first|exact .inl rfl|exact .inr rfl|assumption) :
  CB X (.Name x pos) (av i):=PG.imp (jR hN hi hx hf) λv σ H Q aj=>by
 obtain⟨F,α,e,μ,t,e',S,r,hb,q⟩:=aj
 cases hb
 exact q _ (S.set (x:=.val t) r)
theorem gM(i j:Nat){x y:Str}{px py:Pos}{k:Nat}(hN:X.N.Nodup)(hc:X.calm=true)(hi:X.N[i]?=some x:=by rfl)(hj:X.N[j]?=some y:=by rfl)(hx:Loc X.env.scope x:=by first|exact Or.inl rfl|exact Or.inr rfl)
  (hy:Loc X.env.scope y:=by first|exact Or.inl rfl|exact Or.inr rfl)
  (hf:X.fn x=true∨X.env.scope.names.lookup x=some .local:=by first|exact .inl rfl|exact .inr rfl|assumption) (hf':X.fn y=true∨X.env.scope.names.lookup y=some .local:=by first|exact .inl rfl|exact .inr rfl|assumption)
  : CB X (.Tuple [.Name x px,.Name y py] k pos) (cT [i,j]) :=
 PG.imp (BJ hc (jd (jR hN hi hx hf) (jd (jR hN hj hy hf') yj))) λv σ H Q aj=>by
  obtain⟨F,α,e,μ,t,e',S,r,hb,q⟩:=aj
  cases t with
  | tup ts =>
   unfold cT at hb
   simp only at hb
   by_cases hl:ts.length=[i,j].length
   ·rw[if_pos hl] at hb
    rw[Rep] at r
    obtain⟨a,vs,rfl,hq,hr⟩:=r
    match ts,vs,hl,hr with
    | [t1,t2],vs,_,hr =>
     rw[aA] at hr
     obtain⟨v1,vs1,rfl,r1,hr⟩:=hr
     rw[aA] at hr
     obtain⟨v2,vs2,rfl,r2,hr⟩:=hr
     rw[aA] at hr
     subst hr
     cases hb
     exact⟨a,_,rfl,aI.fm S.st.ext hq,rfl,v1,[v2],rfl,v2,[],rfl,rfl,q _ ((S.set (x:=.val t1) r1).set (x:=.val t2) r2)⟩
   ·rw[if_neg hl] at hb;cases hb
  | _=>cases hb
end
section
variable{X:Cx}{tg iter c:Expr}{body:List Stmt}{di:DI}{b:BD}{d:DS}{dc:D}{pos:Pos}
theorem cB(hp:PassesOwn (model X.prog X.w) X.A X.env X.xe)(hc:X.calm=true)(hi:CI X tg iter di)(hg:CB X tg b)(hb:CSs X body d)(hs:∀x,foldedSetIterable iter X.env x=pure x:=by intro _;rfl) :
  CS X (.For tg iter body [] pos) (bE di b d):=PS.imp (IA hp hc hi hg hb hs) λD σ H aj=>by
 obtain⟨F,α,e,μ,S,h⟩:=aj
 refine⟨F,α,e,μ,S,(aV.toS h).mono (λW μ1 h J H1 F1 α1 x1 S1 ok=>?_) λ_ _ h=>h⟩
 refine⟨λi m σ H=>m=W.items.length-i/\i≤W.items.length/\∃F2 α2 e2 μ2,aI F1 F2/\α1 <+: α2/\Sim X.K F2 α2 e2 μ2 σ H/\aV X F2 α2 H D (forL W.same b d (W.items.drop i) e2 μ2),
  ⟨_,rfl,Nat.zero_le _,F1,α1,e,μ1,aI.refl _,List.prefix_refl _,S1,aV.mono x1 h⟩,?_⟩
 rintro i m σ2 H2 ⟨rfl,hi,F2,α2,e2,μ2,s2,p2,S2,h⟩
 by_cases hlt:i<W.items.length
 ·rw[List.drop_eq_getElem_cons hlt] at h
  unfold forL at h
  by_cases hs:W.same μ2
  ·rw[if_pos hs] at h
   obtain⟨g1,g2⟩:=ok F2 α2 μ2 H2 s2 p2 S2.st hs
   obtain⟨go,yl⟩:=g1 i W.items[i] (by simp[hlt])
   cases hb':b W.items[i] e2 with
   | none=>simp only[hb'] at h;exact h.elim
   | some e3 =>
    simp only[hb'] at h
    refine .inr ⟨go,λσ' H'=>∃F4 α4 e4 μ4,aI F1 F4/\α1 <+: α4/\Sim X.K F4 α4 e4 μ4 σ' H'/\aV X F4 α4 H' D (forL W.same b d (W.items.drop (i+1)) e4 μ4),
     λσ' H' q=>⟨W.items.length-(i+1),by omega,rfl,hlt,q⟩,λx H3 y=>?_⟩
    obtain⟨F3,gr,rp⟩:=yl x H3 y
    have x3:Ex F2 α2 H2 F3 α2 H3:=gr.ex S2.st.ext
    refine⟨F3,α2,e2,μ2,W.items[i],e3,S2.grow gr,rp,hb',λσ4 S4=>⟨F3,α2,e3,μ2,S4,?_⟩⟩
    cases q:d e3 μ2 with
    | nx e5 μ5 =>
     simp only[q] at h
     exact λσ' H' F' α' x S'=>⟨F',α',e5,μ5,s2.trans (x3.same.trans x.same),p2.trans x.pre,S',aV.mono (x3.trans x) h⟩
    | ct e5 μ5 =>
     simp only[q] at h
     exact λσ' H' F' α' x S'=>⟨F',α',e5,μ5,s2.trans (x3.same.trans x.same),p2.trans x.pre,S',aV.mono (x3.trans x) h⟩
    | bk e5 μ5 =>
     simp only[q] at h
     exact λσ' H' F' α' x S'=>h σ' H' F' α' (x3.trans x) S'
    | rt x μ5 =>
     simp only[q] at h
     exact λv H' F' α' x S'=>h v H' F' α' (x3.trans x) S'
    | err c e5 μ5=>simp only[q] at h;exact eN.mono x3 h
    | bad=>simp only[q] at h;exact h
  ·rw[if_neg hs] at h;exact h.elim
 ·have e1:i=W.items.length:=by omega
  subst e1
  rw[List.drop_length] at h
  unfold forL at h
  by_cases hs:W.same μ2
  ·rw[if_pos hs] at h
   obtain⟨g1,g2⟩:=ok F2 α2 μ2 H2 s2 p2 S2.st hs
   exact .inl ⟨g2,h σ2 H2 F2 α2 Ex.refl S2⟩
  ·rw[if_neg hs] at h;exact h.elim
theorem Cw(hp:PassesOwn (model X.prog X.w) X.A X.env X.xe)(hc:CT X c dc)(hb:CSs X body d):CS X (.While c body [] pos) (kP dc d):=PS.imp (BL hp hc hb) λD σ H aj=>by
 obtain⟨F,α,e,μ,S,h⟩:=aj
 unfold kP at h
 by_cases hn:∃n,b4 dc d n e μ≠.bad
 ·rw[dif_pos hn] at h
  refine⟨λm σ H=>∃F2 α2 e2 μ2,Sim X.K F2 α2 e2 μ2 σ H/\aV X F2 α2 H D (b4 dc d m e2 μ2),⟨_,F,α,e,μ,S,h⟩,?_⟩
  rintro m σ H ⟨F2,α2,e2,μ2,S2,h⟩
  cases m with
  | zero=>exact h.elim
  | succ m =>
   unfold b4 at h
   refine⟨F2,α2,e2,μ2,S2,(aV.asB h).mono (λx μ3 ⟨k,hx,h⟩=>⟨k,hx,λH3 F3 α3 x3 S3=>?_⟩) λ_ _ h=>h⟩
   cases k with
   | false =>
    rw[if_neg Bool.false_ne_true] at h ⊢
    exact h σ H3 F3 α3 x3 S3
   | true =>
    rw[if_pos rfl] at h ⊢
    refine⟨λσ' H'=>∃F4 α4 e4 μ4,Sim X.K F4 α4 e4 μ4 σ' H'/\aV X F4 α4 H' D (b4 dc d m e4 μ4),λσ' H' q=>⟨m,Nat.lt_succ_self m,q⟩,F3,α3,e2,μ3,S3,?_⟩
    cases q:d e2 μ3 with
    | nx e5 μ5 =>
     rw[q] at h
     exact λσ' H' F' α' x S'=>⟨F',α',e5,μ5,S',aV.mono (x3.trans x) h⟩
    | ct e5 μ5 =>
     rw[q] at h
     exact λσ' H' F' α' x S'=>⟨F',α',e5,μ5,S',aV.mono (x3.trans x) h⟩
    | bk e5 μ5 =>
     rw[q] at h
     exact λσ' H' F' α' x S'=>h σ' H' F' α' (x3.trans x) S'
    | rt x μ5 =>
     rw[q] at h
     exact λσ' H' F' α' x S'=>h σ' H' F' α' (x3.trans x) S'
    | err c e5 μ5=>rw[q] at h;exact eN.mono x3 h
    | bad=>rw[q] at h;exact h
 ·rw[dif_neg hn] at h;exact h.elim
end
end Fw
namespace L2
open PySem PySem.Spec PyProof.Rows
theorem sZ{prog:Program}{w:World}{A:Around}{R:Result->Shared->Prop}{s:Shared}{elt target iter:Expr}{ifs:List Expr}{scope:Scope}{pos:Pos}{it acc:Value}{env:Env}(I:Nat->Shared->Prop)
  (turn:∀n s,I n s->wpAny (model prog w) A (pyNext it) (λr s₁=>match r with
   | none=>R (.ok .next) s₁
   | some v=>wpAny (model prog w) A (letOwnedTupleGo target it v) (λ_ s₁'=>wpAny (model prog w) A (assign target env v) (λ_ s₂ =>
     wpAny (model prog w) A (forIn ifs true λc r=>if r=true then do let ok ← isTrue c env (eval c env);pure (ForInStep.yield ok) else pure (ForInStep.yield r)) (λok s₃ =>
      if ok=true then wpAny (model prog w) A (eval elt env) (λx s₄ =>
       wpAny (model prog w) A (call (.builtin "list.append") [acc,x]) (λ_ s₅=>∃m,m<n/\I m s₅) (λ_ _=>False) s₄) (λ_ _=>False) s₃
      else ∃m,m<n/\I m s₃) (λ_ _=>False) s₂) (λ_ _=>False) s₁') (λ_ _=>False) s₁) (λ_ _=>False) s)
  (n:Nat) (h:I n s):codeAny (model prog w) A (.compLoop (.ListComp elt [⟨target,iter,ifs,0⟩] scope pos) 0 it acc env) R s:=by
 have no:∀{α:Type}{t:Sem α}{Q:α->Shared->Prop}{E:Value->Shared->Prop}{s:Shared},wpAny (model prog w) A t Q (λ_ _=>False) s->wpAny (model prog w) A t Q E s:=λh=>wpAny_mono h (λ_ _ x=>x) λ_ _ x=>x.elim
 refine codeAny_loop rfl I (λn s hI=>?_) n h
 show wpAny _ A ((compTurn (.ListComp elt [⟨target,iter,ifs,0⟩] scope pos) 0 it acc env).onRaise (λx=>do noteFrame x env;theTreesLotGoes x)) _ _ s
 refine wpAny_noted ?_
 rw[compTurn_list]
 refine wpAny_bind (wpAny_standAt (wpAny_bind (wpAny_mono (no (turn n s hI)) (λr s₁ h₁=>?_) λ_ _ h'=>h')))
 cases r with
 | none=>exact wpAny_pure h₁
 | some v =>
  refine wpAny_bind (wpAny_mono (no h₁) (λ_ s₁' h₁'=>?_) λ_ _ h'=>h')
  refine wpAny_bind (wpAny_mono (no h₁') (λ_ s₂ h₂=>wpAny_bind (wpAny_mono (no h₂) (λok s₃ h₃=>?_) λ_ _ h'=>h')) λ_ _ h'=>h')
  cases ok with
  | false=>exact wpAny_pure ⟨rfl,h₃⟩
  | true =>
   exact wpAny_bind (wpAny_bind (wpAny_mono (no h₃) (λx s₄ h₄=>wpAny_bind (wpAny_mono (no h₄) (λ_ s₅ h₅=>wpAny_pure (wpAny_pure ⟨rfl,h₅⟩)) λ_ _ h'=>h')) λ_ _ h'=>h'))
def bu(X:Cx)(N':List Str)(scope:Scope)(cl:List (Str×Addr))(C:Addr)(s₀:Shared)(H₀:Hp)(ex:List Addr):Cx :=
 { X with N:=N',s₀:=s₀,H₀:=H₀,env:=compEnvC scope cl C X.env,outer:=X.stack,stack:=X.stack,ex:=ex,fn:=λx=>(scope.names.lookup x==some NameKind.cell),pn:=[],xe:=λ_ _=>False }
def ja(X:Cx)(ifs:List Expr)(t:TT):Prop :=
 ∀(pins:List (Addr×Obj)) (s:Shared) (σ:St) (H:Hp) (Q:Bool->Hp->Prop),Inv X pins σ H s->t σ H Q ->
  wpAny (model X.prog X.w) X.A (forIn ifs true λc r=>if r=true then do let ok ← isTrue c X.env (eval c X.env);pure (ForInStep.yield ok) else pure (ForInStep.yield r)) (TP X pins σ Q) X.xe s
theorem Cy{X:Cx}:ja X [] (λ_ H Q=>Q true H):=λ_ _ _ H _ I h=>wpAny_tests_nil ⟨H,I,h⟩
theorem Cz{X:Cx}{c:Expr}{t:TT}(h:PT X c t):ja X [c] t:=λpins s σ H Q I q=>wpAny_tests_one (h pins s σ H Q I q)
def qF(mp:List (Option Nat))(σ:St):St:=mp.map λo=>o.bind λj=>(σ[j]?).bind id
structure c9(X:Cx)(N':List Str)(scope:Scope)(mp:List (Option Nat)):Prop where
 kind:scope.kind=.function
 cells:(scope.names.filter λy=>y.2==NameKind.cell).length≤1
 nd:(scope.names.map (·.1)).Nodup
 loc:∀x∈scope.names,x.2=.local->scope.names.lookup x.1=some .local
 free:∀y∈scope.names,y.2=.free->X.env.kindOf y.1=some .cell∨X.env.kindOf y.1=some .free
 len:mp.length=N'.length
 L1:∀(i j:Nat),mp[i]?=some (some j)->∃x,N'[i]?=some x/\X.N[j]?=some x/\(x,NameKind.free)∈scope.names/\(X.env.scope.names.lookup x=some .cell∨X.env.scope.names.lookup x=some .free)
 seen:∀x,(x,NameKind.free)∈scope.names->(relabel scope X.env).names.lookup x=some .cell∨(relabel scope X.env).names.lookup x=some .free
 back:∀x,(relabel scope X.env).names.lookup x=some .cell∨(relabel scope X.env).names.lookup x=some .free->(x,NameKind.free)∈scope.names∨scope.names.lookup x=some .cell
inductive FY(names:List (Str×NameKind))(n:Nat)(h:Heap)(acc:List (Str×Addr)):Prop where
 | no (h0:∀x,names.lookup x≠some .cell) (h1:cellsFrom n names acc=acc) (h2:pushCells h names=h)
 | one (y:Str) (h0:∀x,names.lookup x=some .cell->x=y) (hy:names.lookup y=some .cell) (h1:cellsFrom n names acc=(y,n)::acc) (h2:pushCells h names=h.push { cls:=.type "cell",data:=.cell none })
theorem u0:∀(names:List (Str×NameKind)) (n:Nat) (h:Heap) (acc:List (Str×Addr)),names.filter (λy=>y.2==NameKind.cell)=[]->(∀x,names.lookup x≠some .cell)/\cellsFrom n names acc=acc/\pushCells h names=h
 | [],n,h,acc,_=>⟨λx=>by simp,rfl,rfl⟩
 | (y,k)::names,n,h,acc,e=>by
  rw[List.filter_cons] at e
  cases hk:(k==NameKind.cell) with
  | true=>rw[if_pos (by exact hk)] at e;cases e
  | false =>
   rw[if_neg (by simp[hk])] at e
   obtain⟨h1,h2,h3⟩:=u0 names n h acc e
   refine⟨λx hx=>?_,?_,?_⟩
   ·rw[List.lookup_cons] at hx
    cases hb:x==y with
    | true=>rw[hb] at hx;cases hx;simp at hk
    | false=>rw[hb] at hx;exact h1 x hx
   ·unfold cellsFrom;rw[if_neg (by simp[hk])];exact h2
   ·unfold pushCells;rw[if_neg (by simp[hk])];exact h3
theorem u3:∀(names:List (Str×NameKind)) (n:Nat) (h:Heap) (acc:List (Str×Addr)),(names.filter λy=>y.2==NameKind.cell).length≤1->(names.map (·.1)).Nodup->FY names n h acc
 | [],n,h,acc,_,_=>.no (λx=>by simp) rfl rfl
 | (y,k)::names,n,h,acc,e,nd=>by
  rw[List.filter_cons] at e
  have nd':=List.nodup_cons.mp (by simpa using nd:(y::names.map (·.1)).Nodup)
  cases hk:(k==NameKind.cell) with
  | true =>
   rw[if_pos (by exact hk)] at e
   have e0:names.filter (λy=>y.2==NameKind.cell)=[]:=List.length_eq_zero_iff.mp (by simpa using e)
   obtain⟨h1,h2,h3⟩:=u0 names (n+1) (h.push { cls:=.type "cell",data:=.cell none }) ((y,n)::acc) e0
   have ek:k=.cell:=by simpa using hk
   subst ek
   refine .one y (λx hx=>?_) (by simp) ?_ ?_
   ·rw[List.lookup_cons] at hx
    cases hb:x==y with
    | true=>exact eq_of_beq hb
    | false=>rw[hb] at hx;exact absurd hx (h1 x)
   ·unfold cellsFrom;rw[if_pos (by simp)];exact h2
   ·unfold pushCells;rw[if_pos (by simp)];exact h3
  | false =>
   rw[if_neg (by simp[hk])] at e
   have kn:k≠.cell:=by simpa using hk
   have lk:∀x,((y,k)::names).lookup x=some .cell->names.lookup x=some .cell:=λx hx=>by
    rw[List.lookup_cons] at hx
    cases hb:x==y with
    | true=>rw[hb] at hx;cases hx;exact absurd rfl kn
    | false=>rw[hb] at hx;exact hx
   cases u3 names n h acc e nd'.2 with
   | no h0 h1 h2 =>
    refine .no (λx hx=>h0 x (lk x hx)) ?_ ?_
    ·unfold cellsFrom;rw[if_neg (by simp[hk])];exact h1
    ·unfold pushCells;rw[if_neg (by simp[hk])];exact h2
   | one z h0 hz h1 h2 =>
    have zne:(z==y)=false:=by
     have:z≠y:=λq=>by
      subst q
      exact nd'.1 (List.mem_map.mpr ⟨_,PySem.mem_of_lookup hz,rfl⟩)
     simpa using this
    refine .one z (λx hx=>h0 x (lk x hx)) (by rw[List.lookup_cons,zne];exact hz) ?_ ?_
    ·unfold cellsFrom;rw[if_neg (by simp[hk])];exact h1
    ·unfold pushCells;rw[if_neg (by simp[hk])];exact h2
theorem u4{M:Model}{A:Around}{E:Value->Shared->Prop}{s:Shared}{scope:Scope}{globals:Addr}{cl:List (Str×Addr)}{qual:Str}{outer:Env}{Q:Env->Shared->Prop}
  (hQ:Q (newEnv scope s.heap.objs.size globals (cellsFrom (s.heap.objs.size+1) scope.names cl) qual none .none (some outer) builtinsNs) { s with heap:=pushCells (s.heap.push { cls:=.type "dict",data:=.dict #[] }) scope.names }) :
  wpAny M A (newFunctionEnv scope globals cl [] qual none .none (some outer)) Q E s:=by
 simp only[newFunctionEnv,Option.isSome_some,if_true]
 refine wpAny_bind (wpAny_alloc ?_)
 refine wpAny_bind (wpAny_layCells _ (λname kind cells=>by cases hkc:kind==NameKind.cell<;>simp[hkc]) _ _ _ _ ?_)
 rw[show({ s with heap:=s.heap.push { cls:=.type "dict",data:=.dict #[] } }:Shared).heap.objs.size=s.heap.objs.size+1 from Heap.size_push ..]
 simp only[List.forIn_nil]
 exact wpAny_bind (wpAny_pure (wpAny_pure hQ))
theorem iF{env:Env}:∀(names:List (Str×NameKind)) (acc:List (Str×Addr)),(∀y∈names,y.2=.free->∃c,env.cells.lookup y.1=some c) ->
  ∃cl:List (Str×Addr),(forIn names acc λx r=>(if (x.2==NameKind.free)=true then do let c ← cellOf env x.1;pure (ForInStep.yield ((x.1,c)::r)) else pure (ForInStep.yield r):Sem (ForInStep (List (Str×Addr)))))=pure cl /\
   (∀x c,cl.lookup x=some c->acc.lookup x=some c∨env.cells.lookup x=some c)/\(∀x,(x,NameKind.free)∈names∨(acc.lookup x).isSome=true->(cl.lookup x).isSome=true)
 | [],acc,_=>⟨acc,rfl,λx c h=>.inl h,λx h=>by
   rcases h with h|h
   ·simp at h
   ·exact h⟩
 | (n,k)::r,acc,h=>by
  by_cases hk:k=.free
  ·subst hk
   obtain⟨c,hc⟩:=h (n,.free) List.mem_cons_self rfl
   obtain⟨cl,e,h1,h2⟩:=iF r ((n,c)::acc) λy hy=>h y (List.mem_cons_of_mem _ hy)
   refine⟨cl,?_,λx d hx=>?_,λx hx=>h2 x ?_⟩
   ·rw[List.forIn_cons]
    have e1:(NameKind.free==NameKind.free)=true:=by decide
    simp only[e1,if_true]
    have e2:cellOf env n=pure c:=by simp only[cellOf,hc]
    rw[e2]
    exact e
   ·rcases h1 x d hx with g|g
    ·rw[List.lookup_cons] at g
     cases q:x==n with
     | true =>
      rw[q] at g
      cases g
      have:x=n:=by simpa using q
      subst this
      exact .inr hc
     | false=>rw[q] at g;exact .inl g
    ·exact .inr g
   ·rcases hx with hx|hx
    ·rcases List.mem_cons.mp hx with g|g
     ·cases g
      right
      simp[List.lookup_cons]
     ·exact .inl g
    ·right
     rw[List.lookup_cons]
     cases q:x==n with
     | true=>rfl
     | false=>exact hx
  ·obtain⟨cl,e,h1,h2⟩:=iF r acc λy hy=>h y (List.mem_cons_of_mem _ hy)
   refine⟨cl,?_,h1,λx hx=>h2 x ?_⟩
   ·rw[List.forIn_cons]
    have e1:(k==NameKind.free)=false:=by simpa using hk
    simp only[e1,Bool.false_eq_true,if_false]
    exact e
   ·rcases hx with hx|hx
    ·rcases List.mem_cons.mp hx with g|g
     ·cases g
      exact absurd rfl hk
     ·exact .inl g
    ·exact .inr hx
theorem pD{scope:Scope}{env:Env}(h:∀y∈scope.names,y.2=.free->∃c,env.cells.lookup y.1=some c) :
  ∃cl,closureFor scope env=pure cl/\(∀x c,cl.lookup x=some c->env.cells.lookup x=some c)/\(∀x,(x,NameKind.free)∈scope.names->(cl.lookup x).isSome=true):=by
 obtain⟨cl,e,h1,h2⟩:=iF (env:=env) scope.names [] h
 refine⟨cl,?_,λx c hx=>(h1 x c hx).elim (λg=>by simp at g) id,λx hx=>h2 x (.inl hx)⟩
 simp only[closureFor]
 rw[e]
 rfl
section
variable{X:Cx}{elt iter tg:Expr}{ifs:List Expr}{scope:Scope}{pos:Pos}{N':List Str}{g:TG}{tc:TT}{te:TE}{mp:List (Option Nat)}
def u5(J:It)(mp:List (Option Nat))(g:TG)(tc:TT)(te:TE)(σ:St)(H:Hp)(Q:VK):Prop:=∀p,H p=none->∃W:Nat->Nat->St->Hp->Prop,(∃m,W 0 m (qF mp σ) (upd H p (.lst [])))/\∀i m σ H,W i m σ H ->
 (J.stop i H/\Q (.ref p) H)∨(J.go i H/\∃N:St->Hp->Prop,(∀σ' H',N σ' H'->∃m',m'<m/\W (i+1) m' σ' H')/\∀x H',J.yld i H x H'->g x σ H' λσ2 H2=>tc σ2 H2 λb H3 =>
  if b=true then te σ2 H3 λy H4=>yw (.ref p) [y] H4 λ_ H5=>N σ2 H5 else N σ2 H3)
theorem CC{mp:List (Option Nat)}{σ:St}{i:Nat}{v:V}(h:(qF mp σ)[i]?=some (some v)):∃j,mp[i]?=some (some j)/\σ[j]?=some (some v):=by
 unfold qF at h
 rw[List.getElem?_map] at h
 cases q:mp[i]? with
 | none=>rw[q] at h;cases h
 | some o =>
  cases o with
  | none=>rw[q] at h;cases h
  | some j =>
   rw[q] at h
   refine⟨j,rfl,?_⟩
   have h:(σ[j]?).bind id=some v:=by simpa using h
   cases z:σ[j]? with
   | none=>rw[z] at h;cases h
   | some y=>rw[z] at h;have h:y=some v:=h;rw[h]
theorem CD{pins:List (Addr×Obj)}{σ:St}{H:Hp}{s₀:Shared}{C:Addr}{h₁:Heap}{t':Nat}{cl:List (Str×Addr)}{fp:List Addr}(hS:c9 X N' scope mp)(I:Inv X pins σ H s₀)
  (hcl:∀x c,cl.lookup x=some c->X.env.cells.lookup x=some c∨(scope.names.lookup x=some .cell/\c=C+1/\h₁.IsCell c none/\∀z,scope.names.lookup z=some .cell->z=x)) (hcs:∀x,(x,NameKind.free)∈scope.names->(cl.lookup x).isSome=true/\∀c,cl.lookup x=some c->X.env.cells.lookup x=some c)
  (hcn:∀x,scope.names.lookup x=some .cell->cl.lookup x=some (C+1))
  (hC:C=s₀.heap.objs.size) (keep:∀b o,s₀.heap.get? b=some o->h₁.get? b=some o) (ns:∃m,h₁.Ns C m) (hf:∀b∈fp,je X pins H b) (hfp:∀b∈fp,b<s₀.heap.objs.size) :
  Inv (bu X N' scope cl C s₀ H fp) [] (qF mp σ) H { s₀ with heap:=h₁,toks:=t' }:=by
 obtain⟨m0,ns⟩:=ns
 have cellK:∀c v,s₀.heap.IsCell c v->h₁.IsCell c v:=λc v ⟨o,ho,hd⟩=>⟨o,keep c o ho,hd⟩
 refine⟨⟨I.ok.mod,hS.kind,I.ok.glob,I.ok.blt,Nat.le_of_eq hC.symm,λx y c h1 h2=>?_,λx hx=>?_,λx c h hx=>?_,I.ok.hd,I.ok.frames,.inl rfl,λb hb=>⟨?_,λx c h=>?_⟩,I.bs,Nat.le_trans I.ok.bsz I.sz,
   λb o e hb=>?_,λb hb hs=>?_,I.stack,I.yg⟩,rfl,I.bare,Un.kept keep,⟨m0,ns,λi x v e1 e2 e3=>?_⟩,λx c h=>?_,?_,λx c h=>?_,λp hp=>absurd hp (by intro z;cases z),I.hok.kept keep,?_⟩
 ·have old:∀z,X.env.cells.lookup z=some c->c<s₀.heap.objs.size:=λz hz=>by
   obtain⟨v,q⟩:=I.cell z c hz
   exact q.lt
  rcases hcl x c h1 with a|⟨a,ca,_,ua⟩
  ·rcases hcl y c h2 with b|⟨b,cb,_⟩
   ·exact I.ok.inj x y c a b
   ·have:=old x a
    rw[cb,hC] at this
    exact absurd this (Nat.not_lt.mpr (Nat.le_succ _))
  ·rcases hcl y c h2 with b|⟨b,cb,_⟩
   ·have:=old y b
    rw[ca,hC] at this
    exact absurd this (Nat.not_lt.mpr (Nat.le_succ _))
   ·exact(ua y b).symm
 ·rcases hS.back x hx with q|q
  ·exact Option.isSome_iff_exists.mp (hcs x q).1
  ·exact⟨_,hcn x q⟩
 ·have q:scope.names.lookup x=some .cell:=by
   have h:(scope.names.lookup x==some NameKind.cell)=true:=h
   simpa using h
  have hx:cl.lookup x=some c:=hx
  rw[hcn x q] at hx
  cases hx
  rw[hC]
  exact Nat.le_succ _
 ·intro z
  have:=hfp b hb
  rw[z] at this
  have h2:C<s₀.heap.objs.size:=this
  rw[hC] at h2
  exact Nat.lt_irrefl _ h2
 ·rcases hcl x c h with a|⟨a,ca,_⟩
  ·exact(hf b hb).2.2.2.2.1 x c a
  ·have:=hfp b hb
   rw[ca,hC]
   exact λq=>absurd (q ▸ this) (Nat.not_lt.mpr (Nat.le_succ _))
 ·rcases (hf b hb).2.2.2.1 with z|z
  ·exact I.ok.zM b o e z
  ·exact absurd (Nat.lt_of_lt_of_le (Heap.lt_size e) (Nat.le_trans I.ok.bsz z)) (Nat.lt_irrefl _)
 ·rcases List.mem_cons.mp (I.sA b hs) with z|z
  ·exact(hf b hb).2.1 z
  ·exact(hf b hb).2.2.1 z
 ·obtain⟨j,hj,hv⟩:=CC e2
  obtain⟨y,y1,y2,y3,y4⟩:=hS.L1 i j hj
  have hy:y=x:=by
   have:(bu X N' scope cl C s₀ H fp).N[i]?=some y:=y1
   rw[e1] at this
   exact(Option.some.inj this).symm
  subst hy
  obtain⟨m,hn,hl⟩:=I.loc
  obtain⟨u,ru,lk⟩:=hl j y v y2 hv (y4.elim (λz=>.inr (.inl z)) λz=>.inr (.inr z))
  refine⟨u,ru,?_⟩
  rcases lk with ⟨hk,_⟩|⟨hk,c,hc,qW⟩
  ·exfalso
   have hk:X.env.scope.names.lookup y=some .local:=hk
   rcases y4 with z|z
   ·rw[hk] at z;cases z
   ·rw[hk] at z;cases z
  ·obtain⟨c',hc'⟩:=Option.isSome_iff_exists.mp (hcs y y3).1
   have:c'=c:=by
    have q:=(hcs y y3).2 c' hc'
    rw[hc] at q
    exact(Option.some.inj q).symm
   subst this
   exact .inr ⟨hS.seen y y3,c',hc',cellK _ _ qW⟩
 ·rcases hcl x c h with a|⟨_,_,a,_⟩
  ·obtain⟨v,hv⟩:=I.cell x c a
   exact⟨v,cellK _ _ hv⟩
  ·exact⟨none,a⟩
 ·show H C=none
  rw[hC]
  exact I.hok.fresh (Nat.le_refl _)
 ·rcases hcl x c h with a|⟨_,a,_⟩
  ·exact I.kA x c a
  ·rw[a,hC];exact I.hok.fresh (Nat.le_succ _)
 ·show(qF mp σ).length=N'.length
  unfold qF
  rw[List.length_map,hS.len]
theorem rD{pins:List (Addr×Obj)}{s₂:Shared}{σ:St}{H₂:Hp}{it:Addr}{fp:List Addr}{tn:Nat->Heap->Prop}{J:It}{cl:List (Str×Addr)}{Q:VK}{RR:Value->Addr->Result->Shared->Prop}{E:Value->Shared->Prop}
  (hS:c9 X N' scope mp) (jq:X.calm=true) (hg:∀cl C s₀ H₀ ex,PG (bu X N' scope cl C s₀ H₀ ex) tg g) (hc:∀cl C s₀ H₀ ex,ja (bu X N' scope cl C s₀ H₀ ex) ifs tc) (he:∀cl C s₀ H₀ ex,PE (bu X N' scope cl C s₀ H₀ ex) elt te)
  (hcl:∀x c,cl.lookup x=some c->X.env.cells.lookup x=some c) (hcs:∀x,(x,NameKind.free)∈scope.names->(cl.lookup x).isSome=true)
  (I:Inv X pins σ H₂ s₂) (T:Turn X.prog X.w X.K tg J fp it tn) (st:tn 0 s₂.heap) (hf:∀b∈fp,je X pins H₂ b) (hq:u5 J mp g tc te σ H₂ Q)
  (fin:∀p C s' H',Inv X pins σ H' s'->je X pins H' C->(∃m,s'.heap.Ns C m)->Q (.ref p) H'->RR (.ref p) C (.ok .next) s') :
  wpAny (model X.prog X.w) X.A (newList []) (λacc s₃=>wpAny (model X.prog X.w) X.A (newFunctionEnv scope X.env.globals cl [] X.env.qual none .none (some X.env)) (λL4 s₄ =>
   codeAny (model X.prog X.w) X.A (.compStart (.ListComp elt [⟨tg,iter,ifs,0⟩] scope pos) 0 (.ref it) acc { L4 with scope:=relabel scope X.env }) (RR acc L4.locals) s₄) E s₃) E s₂:=by
 refine wpAny_newObj_type (u4 ?_)
 dsimp only
 have I₃:Inv X pins σ (upd H₂ s₂.heap.objs.size (.lst [])) { s₂ with heap:=s₂.heap.push { cls:=.type "list",dict:=none,data:=.seq ([]:List Value).toArray } } :=
  I.IW (t':=s₂.toks) (ys:=[]) .nil (Nat.zero_le _)
 generalize hH2:s₂.heap.push { cls:=.type "list",dict:=none,data:=.seq ([]:List Value).toArray }=H2 at I₃ ⊢
 obtain⟨h₁,hh1⟩:∃h₁,h₁=pushCells (H2.push { cls:=.type "dict",data:=.dict #[] }) scope.names:=⟨_,rfl⟩
 rw[← hh1]
 have hns₁:h₁.Ns H2.objs.size (λ_=>none):=by rw[hh1];exact(Heap.Ns.new H2 (.type "dict")).keeps (pushCells_keeps _ _)
 obtain⟨cl',Aq⟩:∃cl',cl'=cellsFrom (H2.objs.size+1) scope.names cl:=⟨_,rfl⟩
 rw[← Aq]
 have Jt:=u3 scope.names (H2.objs.size+1) (H2.push { cls:=.type "dict",data:=.dict #[] }) cl hS.cells hS.nd
 have fc:∀x,(x,NameKind.free)∈scope.names->scope.names.lookup x≠some .cell:=λx hx q=>by
  have nd:=hS.nd
  have m2:=PySem.mem_of_lookup q
  have key:∀l:List (Str×NameKind),(l.map (·.1)).Nodup->(x,NameKind.free)∈l->(x,NameKind.cell)∈l->False:=by
   intro l
   induction l with
   | nil=>intro _ h;cases h
   | cons a l ih =>
    intro nd h1 h2
    have nd':=List.nodup_cons.mp (by simpa using nd:(a.1::l.map (·.1)).Nodup)
    rcases List.mem_cons.mp h1 with e1|h1
    ·rcases List.mem_cons.mp h2 with e2|h2
     ·rw[← e1] at e2;cases e2
     ·exact nd'.1 (List.mem_map.mpr ⟨_,h2,by rw[← e1]⟩)
    ·rcases List.mem_cons.mp h2 with e2|h2
     ·exact nd'.1 (List.mem_map.mpr ⟨_,h1,by rw[← e2]⟩)
     ·exact ih nd'.2 h1 h2
  exact key _ nd hx m2
 have L5:∀x c,cl'.lookup x=some c->X.env.cells.lookup x=some c∨(scope.names.lookup x=some .cell/\c=H2.objs.size+1/\h₁.IsCell c none/\∀z,scope.names.lookup z=some .cell->z=x):=λx c h=>by
  cases Jt with
  | no _ e1 _=>rw[Aq.trans e1] at h;exact .inl (hcl x c h)
  | one y h0 hy e1 e2 =>
   rw[Aq.trans e1,List.lookup_cons] at h
   cases hb:x==y with
   | true =>
    rw[hb] at h
    have hxy:x=y:=eq_of_beq hb
    have h:some (H2.objs.size+1)=some c:=h
    cases h
    subst hxy
    refine .inr ⟨hy,rfl,?_,λz hz=>h0 z hz⟩
    rw[hh1.trans e2,← Heap.size_push H2 { cls:=.type "dict",data:=.dict #[] }]
    exact⟨_,Heap.get?_push_size _ rfl,rfl⟩
   | false=>rw[hb] at h;exact .inl (hcl x c h)
 have NO:∀x,(x,NameKind.free)∈scope.names->(cl'.lookup x).isSome=true/\∀c,cl'.lookup x=some c->X.env.cells.lookup x=some c:=λx hx=>by
  have el:cl'.lookup x=cl.lookup x:=by
   cases Jt with
   | no _ e1 _=>rw[Aq.trans e1]
   | one y h0 hy e1 e2 =>
    rw[Aq.trans e1,List.lookup_cons]
    cases hb:x==y with
    | true=>exact absurd ((eq_of_beq hb) ▸ hy) (fc x hx)
    | false=>rfl
  rw[el]
  exact⟨hcs x hx,λc hc=>hcl x c hc⟩
 have NP:∀x,scope.names.lookup x=some .cell->cl'.lookup x=some (H2.objs.size+1):=λx hx=>by
  cases Jt with
  | no h0 _ _=>exact absurd hx (h0 x)
  | one y h0 hy e1 e2 =>
   rw[Aq.trans e1,h0 x hx,List.lookup_cons]
   simp
 have fresh:H₂ s₂.heap.objs.size=none:=I.hok.fresh (Nat.le_refl _)
 have fpl:∀b∈fp,b<s₂.heap.objs.size:=λb hb=>by
  obtain⟨o,ho,_⟩:=T.obj _ _ st b hb
  exact Heap.lt_size ho
 have Ju:s₂.heap.objs.size≤H2.objs.size:=by rw[← hH2,Heap.size_push];exact Nat.le_succ _
 have NQ:∀b o,s₂.heap.get? b=some o->H2.get? b=some o:=λb o e=>by rw[← hH2];exact Heap.get?_push_of_some _ e
 have old:∀b o,H2.get? b=some o->h₁.get? b=some o:=λb o e=>by rw[hh1];exact pushCells_keeps _ _ _ _ (Heap.get?_push_of_some _ e)
 have hf3:∀b∈fp,je X pins (upd H₂ s₂.heap.objs.size (.lst [])) b:=λb hb=>⟨by rw[aF (Nat.ne_of_lt (fpl b hb))];exact(hf b hb).1,(hf b hb).2⟩
 have I₄:=CD (t':=s₂.toks) (N':=N') (C:=H2.objs.size) (h₁:=h₁) hS I₃ L5 NO NP rfl old ⟨_,hns₁⟩ hf3 λb hb=>Nat.lt_of_lt_of_le (fpl b hb) Ju
 have st4:tn 0 h₁:=T.keep _ _ _ st λb hb o e=>old b o (NQ b o e)
 obtain⟨W,⟨m0,w0⟩,turn⟩:=hq s₂.heap.objs.size fresh
 generalize hX':bu X N' scope cl' H2.objs.size { s₂ with heap:=H2 } (upd H₂ s₂.heap.objs.size (.lst [])) fp=X' at I₄
 have hg':PG X' tg g:=hX' ▸ hg _ _ _ _ _
 have hc':ja X' ifs tc:=hX' ▸ hc _ _ _ _ _
 have he':PE X' elt te:=hX' ▸ he _ _ _ _ _
 have e1:X'.prog=X.prog:=by rw[← hX'];rfl
 have e2:X'.w=X.w:=by rw[← hX'];rfl
 have e3:X'.K=X.K:=by rw[← hX'];rfl
 have e4:X'.calm=true:=by rw[← hX'];exact jq
 have e5:X'.A=X.A:=by rw[← hX'];rfl
 have e6:X'.env=compEnvC scope cl' H2.objs.size X.env:=by rw[← hX'];rfl
 have e7:X'.xe=λ_ _=>False:=by rw[← hX'];rfl
 have wj:∀{H':Hp},(∀b∈fp,H' b=none)->∀b∈fp,je X' [] H' b:=λ{H'} hn b hb=>by
  refine⟨hn b hb,?_,?_,?_,λx c h=>?_,λp hp=>?_⟩
  ·rw[e6];exact Nat.ne_of_lt (Nat.lt_of_lt_of_le (fpl b hb) Ju)
  ·rw[← hX']
   intro hs
   rcases List.mem_cons.mp (I.sA b hs) with z|z
   ·exact(hf b hb).2.1 z
   ·exact(hf b hb).2.2.1 z
  ·rw[← hX'];exact .inl hb
  ·rw[e6] at h
   rcases L5 x c h with a|⟨_,a,_⟩
   ·exact(hf b hb).2.2.2.2.1 x c a
   ·rw[a]
    have q1:=Nat.lt_of_lt_of_le (fpl b hb) Ju
    exact λq=>absurd (q ▸ q1) (Nat.not_lt.mpr (Nat.le_succ _))
  ·rw[← hX'] at hp;cases hp
 have loop:∀s₃:Shared,Inv X' [] (qF mp σ) (upd H₂ s₂.heap.objs.size (.lst [])) s₃->tn 0 s₃.heap ->
   codeAny (model X.prog X.w) X.A (.compLoop (.ListComp elt [⟨tg,iter,ifs,0⟩] scope pos) 0 (.ref it) (.ref s₂.heap.objs.size) (compEnvC scope cl' H2.objs.size X.env)) (RR (.ref s₂.heap.objs.size) H2.objs.size) s₃:=by
  intro s₃ I₃' st3
  refine sZ (λn s'=>∃i σ' H',Inv X' [] σ' H' s'/\tn i s'.heap/\(∀b∈fp,H' b=none)/\W i n σ' H') ?_ m0 ⟨0,_,_,I₃',st3,λb hb=>(hf3 b hb).1,w0⟩
  rintro n s4 ⟨i,σ4,H4,I4,st4,fr4,w4⟩
  rcases turn i n σ4 H4 w4 with ⟨stop,qn⟩|⟨go,N,hN,step⟩
  ·have q:=T.done X' e1 e2 e3 e4 i [] s4 σ4 H4 (λ_ _=>False) I4 (wj fr4) st4 stop
   rw[e5] at q
   refine thn q λr s5 aj=>?_
   obtain⟨hr,I5⟩:=aj
   subst hr
   have I6:Inv X pins σ H4 s5:=by
    subst hX'
    exact I₃.La (ch:=fp) I5.os I5.base I5.hok I5.bare λb hb=>⟨(hf3 b hb).2.2.2.1,(hf3 b hb).2.1,(hf3 b hb).2.2.2.2.1,(hf3 b hb).2.2.2.2.2⟩
   have hC:H4 H2.objs.size=none:=by
    have:=I5.free
    rw[e6] at this
    exact this
   have hns:∃m,s5.heap.Ns H2.objs.size m:=by
    obtain⟨m,hm,_⟩:=I5.loc
    rw[e6] at hm
    exact⟨m,hm⟩
   exact fin _ _ s5 H4 I6 (I₃.uD (Nat.le_refl _) hC) hns qn
  ·have q:=T.item X' e1 e2 e3 e4 i [] s4 σ4 H4 (λ_ _=>False) I4 (wj fr4) st4 go
   rw[e5] at q
   refine thn q λr s5 b9=>?_
   obtain⟨u,hr,h5⟩:=b9
   subst hr
   refine thn h5 λ_ s6 uC=>?_
   obtain⟨x,H6,I6,r6,y6,st6,fr6⟩:=uC
   have I6':=I6.pinned (wj fr6) (T.obj _ _ st6)
   have g6:=hg' _ s6 σ4 H6 x u _ I6' r6 (step x H6 y6)
   rw[e1,e2,e5,e6,e7] at g6
   refine thn g6 λ_ s7 L6=>?_
   obtain⟨σ7,H7,I7,q7⟩:=L6
   have c7:=hc' _ s7 σ7 H7 _ I7 q7
   rw[e1,e2,e5,e6,e7] at c7
   refine thn c7 λok s8 L7=>?_
   obtain⟨H8,I8,q8⟩:=L7
   have again:∀{s9:Shared}{σ9:St}{H9:Hp},Inv X' ([]++oS fp s6.heap) σ9 H9 s9->N σ9 H9->∃m,m<n/\∃i σ' H',Inv X' [] σ' H' s9/\tn i s9.heap/\(∀b∈fp,H' b=none)/\W i m σ' H':=λ{s9 σ9 H9} I9 n9=>by
    obtain⟨m',hm,w9⟩:=hN σ9 H9 n9
    refine⟨m',hm,i+1,σ9,H9,I9.l3,T.keep _ _ _ st6 λb hb o e=>(I9.pin (b,o) (List.mem_append_right _ (List.mem_append_right _ (iw hb e)))).1,λb hb=>?_,w9⟩
    obtain⟨o,e,d⟩:=T.obj _ _ st6 b hb
    exact(I9.pin (b,o) (List.mem_append_right _ (List.mem_append_right _ (iw hb e)))).2.1
   cases ok with
   | false =>
    rw[if_neg Bool.false_ne_true] at q8 ⊢
    exact again I8 q8
   | true =>
    rw[if_pos rfl] at q8 ⊢
    have l8:=he' _ s8 σ7 H8 _ I8 q8
    rw[e1,e2,e5,e6,e7] at l8
    refine thn l8 λy s9 L8=>?_
    obtain⟨z,H9,I9,r9,q9⟩:=L8
    have a9:=(rh (X:=X')) _ s9 σ7 H9 (.ref s₂.heap.objs.size) [z] (.ref s₂.heap.objs.size) [y] _ I9 rfl (.cons r9 .nil) q9
    rw[e1,e2,e5,e7] at a9
    refine thn a9 λ_ s10 ⟨_,H10,I10,_,q10⟩=>again I10 q10
 refine codeAny_compStart_list (loop _ I₄ st4) ?_
 exact T.self X.A 0 _ _ _ st4 (loop _ I₄ st4)
theorem FZ{wi:TI}(hx:X.xe=λ_ _=>False)(hS:c9 X N' scope mp)(jq:X.calm=true)(hi:PI X tg iter wi)(hg:∀cl C s₀ H₀ ex,PG (bu X N' scope cl C s₀ H₀ ex) tg g)(hc:∀cl C s₀ H₀ ex,ja (bu X N' scope cl C s₀ H₀ ex) ifs tc)
  (he:∀cl C s₀ H₀ ex,PE (bu X N' scope cl C s₀ H₀ ex) elt te) (hs:∀x,foldedSetIterable iter X.env x=pure x:=by intro _;rfl) :
  PE X (.ListComp elt [⟨tg,iter,ifs,0⟩] scope pos) (λσ H Q=>wi σ H λJ H1=>u5 J mp g tc te σ H1 Q):=by
 intro pins s σ H Q I h
 have hfr:∀y∈scope.names,y.2=.free->∃c,X.env.cells.lookup y.1=some c:=λy hy hk=>I.ok.has y.1 (hS.free y hy hk)
 obtain⟨cl,hcl,h1,h2⟩:=pD hfr
 rw[eval_ListComp]
 refine wpAny_comprehension_free (use:=none) rfl hs hcl hS.kind hS.loc (thn (hi pins s σ H _ I h) λv s1 q1=>thn q1 λitv s2 aj=>?_)
 obtain⟨it,fp,tn,J,H2,e,I2,T,st2,f2,q2⟩:=aj
 subst e
 refine rD (RR:=λacc C=>compPost (model X.prog X.w) X.A X.xe none (EP X pins σ Q) acc C) hS jq hg hc he h1 h2 I2 T st2 f2 q2 λp C s' H' I' fp' ns q'=>?_
 obtain⟨m,hm⟩:=ns
 refine⟨m,hm,λh' sb=>⟨.ref p,H',?_,rfl,q'⟩⟩
 exact I'.turned (t':=s'.toks) (λb o hb e=>(sb.2 b hb).trans e) fp'.1 fp'.2.1 fp'.2.2.2.1 fp'.2.2.2.2.1 fp'.2.2.2.2.2
theorem nH{wi:TI}{i:Nat}{y:Str}{py u6:Pos}(hx:X.xe=λ_ _=>False)(hS:c9 X N' scope mp)(jq:X.calm=true)(hi:PI X tg iter wi)(hg:∀cl C s₀ H₀ ex,PG (bu X N' scope cl C s₀ H₀ ex) tg g)
  (hc:∀cl C s₀ H₀ ex,ja (bu X N' scope cl C s₀ H₀ ex) ifs tc) (he:∀cl C s₀ H₀ ex,PE (bu X N' scope cl C s₀ H₀ ex) elt te) (hN:X.N.Nodup) (hiN:X.N[i]?=some y) (hl:Loc X.env.scope y)
  (hsw:swapsWith (.ListComp elt [⟨tg,iter,ifs,0⟩] scope pos) (some (.Name y py)) u6.line X.env=pure true) (hs:∀x,foldedSetIterable iter X.env x=pure x:=by intro _;rfl)
  (hf:X.fn y=true∨X.env.scope.names.lookup y=some .local:=by first|exact .inl rfl|exact .inr rfl|assumption) :
  PS X (.Assign [.Name y py] (.ListComp elt [⟨tg,iter,ifs,0⟩] scope pos) u6) (Iw (λσ H Q=>wi σ H λJ H1=>u5 J mp g tc te σ H1 Q) (BI i)):=by
 intro pins s σ H D I h
 have hfr:∀y∈scope.names,y.2=.free->∃c,X.env.cells.lookup y.1=some c:=λy hy hk=>I.ok.has y.1 (hS.free y hy hk)
 obtain⟨cl,hcl,h1,h2⟩:=pD hfr
 rw[exec_Assign_Name_used _ _ _ _ hsw]
 refine wpAny_bind (wpAny_standAt (wpAny_bind ?_))
 show wpAny _ X.A (do let _ ← comprehension (.ListComp elt [⟨tg,iter,ifs,0⟩] scope pos) scope X.env _ (newList []) false (eval iter X.env) (some (assign (.Name y py) X.env))) _ _ s
 refine wpAny_bind (wpAny_mono (wpAny_comprehension_free (use:=some (assign (.Name y py) X.env)) (Q:=λ_ s'=>SP X pins D .next s') rfl hs hcl hS.kind hS.loc
  (thn (hi pins s σ H _ I h) λv s1 q1=>thn q1 λitv s2 ⟨it,fp,tn,J,H2,e,I2,T,st2,f2,q2⟩=>?_)) (λ_ s' hq=>wpAny_pure (wpAny_pure hq)) λ_ _ e=>e)
 subst e
 refine rD (RR:=λacc C=>compPost (model X.prog X.w) X.A X.xe (some (assign (.Name y py) X.env)) (λ_ s'=>SP X pins D .next s') acc C) hS jq hg hc he h1 h2 I2 T st2 f2 q2 λp C s' H' I' fp' ns q'=>?_
 obtain⟨m,hm⟩:=ns
 obtain⟨oC,es,ep,hoC,rC⟩:=id hm
 show wpAny _ X.A (assign (.Name y py) X.env (.ref p)) _ _ _
 refine wpAny_assign_Name (qV I' hN hiN hl (v:=.ref p) rfl (λs'' I'' sb=>?_) hf)
 obtain⟨a,sb,ha⟩:=sb
 have hCa:C≠a:=by
  rcases ha with rfl|ha
  ·exact fp'.2.1
  ·exact λz=>fp'.2.2.2.2.1 y a ha z.symm
 refine⟨m,⟨oC,es,ep,(sb.2 C hCa).trans hoC,rC⟩,λh3 sb3=>⟨_,H',?_,q'⟩⟩
 exact I''.turned (t':=s''.toks) (λb o hb e=>(sb3.2 b hb).trans e) fp'.1 fp'.2.1 fp'.2.2.2.1 fp'.2.2.2.2.1 fp'.2.2.2.2.2
end
end L2
namespace Fw
open PySem PySem.Spec PyProof.Rows L2
section
variable{K:PySem.W.Frag}{F F' F1 F2 H H' H1 H2:Hp}{α α' α1 α2:List Addr}{μ μ':af}{e:Slots}{σ:L2.St}
theorem pE{mp:List (Option Nat)}{i:Nat}{x:SV}(h:slot (ini mp e) i=some x):∃j,mp[i]?=some (some j)/\slot e j=some x:=by
 unfold slot ini at h
 rw[List.getElem?_map] at h
 cases q:mp[i]? with
 | none=>rw[q] at h;cases h
 | some o =>
  cases o with
  | none=>rw[q] at h;cases h
  | some j =>
   rw[q] at h
   refine⟨j,rfl,?_⟩
   simp only[Option.map_some,Option.bind_some] at h
   cases z:slot e j with
   | none=>rw[z] at h;cases h
   | some y=>rw[z] at h;cases h;rfl
theorem Sim.ini(S:Sim K F α e μ σ H)(mp:List (Option Nat)):Sim K F α (Fw.ini mp e) μ (qF mp σ) H:=by
 refine⟨S.st,λi x h=>?_,by unfold Fw.ini qF;rw[List.length_map,List.length_map]⟩
 obtain⟨j,hj,hx⟩:=pE h
 obtain⟨v,hv,ok⟩:=S.sl j x hx
 refine⟨v,?_,ok⟩
 unfold qF
 rw[List.getElem?_map,hj]
 simp[hv]
theorem cf.CG{p:Addr}{o:HO}(S:cf K F α μ H)(h1:F p=none)(h2:p∉α)(n:NT o:=by intro _ h;cases h):cf K F α μ (upd H p o):=by
 have na:∀{k:Nat}{a:Addr},α[k]?=some a->a≠p:=λ{k a} h q=>h2 (by rw[← q];exact List.mem_of_getElem? h)
 refine⟨λa z hz=>?_,S.len,S.nd,λk a g=>?_,λk b u a g1 g2=>?_,S.tps.upd n⟩
 ·rw[aF (λq=>by subst q;rw[h1] at hz;cases hz)];exact S.ext a z hz
 ·rw[aF (na g)];exact S.there k a g
 ·obtain⟨c1,c2⟩:=S.cell k b u a g1 g2
  refine⟨λhb=>⟨(c1 hb).1,?_⟩,c2⟩
  have d2:=(c1 hb).2
  cases u with
  | lst ts=>obtain⟨vs,w1,w2⟩:=d2;exact⟨vs,by rw[aF (na g2)];exact w1,w2⟩
  | dct ts=>obtain⟨vs,w1,w2⟩:=d2;exact⟨vs,by rw[aF (na g2)];exact w1,w2⟩
  | dtt fz ts=>exact⟨d2.1,(aF (na g2)).trans d2.2⟩
  | _=>exact d2.elim
theorem Ex.CG{p:Addr}{o:HO}(x:Ex F α H F' α' H')(h:H p=none):Ex F α H F' α' (upd H' p o):=⟨x.same,x.pre,λb z h1 h2 h3=>by
 obtain⟨g1,g2,g3⟩:=x.fr b z h1 h2 h3
 exact⟨by rw[aF (λq=>by subst q;rw[h] at h1;cases h1)];exact g1,g2,g3⟩⟩
theorem Sim.back{e':Slots}(S:Sim K F α e' μ σ H)(hl:e.length=e'.length)(h:∀j x,slot e j=some x->slot e' j=some x):Sim K F α e μ σ H :=
 ⟨S.st,λi x g=>S.sl i x (h i x g),by rw[hl];exact S.len⟩
end
section
variable{X:Cx}{elt iter tg:Expr}{ifs:List Expr}{scope:Scope}{pos:Pos}{N':List Str}{mp:List (Option Nat)}{di:DI}{b:BD}{dc d:D}
def kX(mp:List (Option Nat))(b:BD):Prop:=∀t e e1,b t (ini mp e)=some e1->(ini mp e).length=e1.length/\∀j x,slot (ini mp e) j=some x->slot e1 j=some x
theorem slot_set_ne{e:Slots}{i j:Nat}{x:SV}(h:i≠j):slot (e.set i (some x)) j=slot e j:=by
 unfold slot
 rw[List.getElem?_set_ne h]
theorem aS{i:Nat}(h:mp[i]?=some none):kX mp (av i):=λt e e1 hb=>by
 cases hb
 refine⟨by rw[List.length_set],λj x hx=>?_⟩
 obtain⟨k,hk,_⟩:=pE hx
 rw[slot_set_ne (λq=>by subst q;rw[h] at hk;cases hk)];exact hx
theorem gN{i i':Nat}(h:mp[i]?=some none)(h':mp[i']?=some none):kX mp (cT [i,i']):=λt e e1 hb=>by
 cases t with
 | tup ts =>
  unfold cT at hb
  simp only at hb
  by_cases hl:ts.length=[i,i'].length
  ·rw[if_pos hl] at hb
   match ts,hl with
   | [t1,t2],_ =>
    cases hb
    refine⟨by simp,λj x hx=>?_⟩
    obtain⟨k,hk,_⟩:=pE hx
    have n1:i≠j:=λq=>by subst q;rw[h] at hk;cases hk
    have n2:i'≠j:=λq=>by subst q;rw[h'] at hk;cases hk
    simp only[List.zip_cons_cons,List.zip_nil_right,List.foldl_cons,List.foldl_nil]
    rw[slot_set_ne n2,slot_set_ne n1];exact hx
  ·rw[if_neg hl] at hb;cases hb
 | _=>cases hb
theorem bw{X':Cx}:ja X' [] (tDT X' (dC (.bl true))):=λpins s σ H Q I aj=>by
 obtain⟨F,α,e,μ,S,h⟩:=aj
 obtain⟨b,hb,h⟩:=h
 cases hb
 exact Cy pins s σ H Q I (h H F α Ex.refl S)
theorem fZ{X':Cx}{c:Expr}(h:CT X' c dc):ja X' [c] (tDT X' dc):=Cz h
def oD(K:PySem.W.Frag)(d:D):TE:=λσ H Q=>∃F α e μ x μ',Sim K F α e μ σ H/\d e μ=.ok x μ'/\FW K F α H e σ Q x μ'
def oDT(K:PySem.W.Frag)(d:D):TT:=λσ H Q=>∃F α e μ b μ',Sim K F α e μ σ H/\d e μ=.ok (.val (.bl b)) μ' /\
 ∀H' F' α',Ex F α H F' α' H'->Sim K F' α' e μ' σ H'->Q b H'
theorem CH{X':Cx}{σ:L2.St}{H:Hp}{Q:VK}(h:oD X'.K d σ H Q):tD X' d σ H Q:=by
 obtain⟨F,α,e,μ,x,μ',S,h,p⟩:=h
 exact⟨F,α,e,μ,S,by rw[h];exact p⟩
theorem wM{X':Cx}{σ:L2.St}{H:Hp}{Q:Bool->Hp->Prop}(h:oDT X'.K d σ H Q):tDT X' d σ H Q:=by
 obtain⟨F,α,e,μ,b,μ',S,h,p⟩:=h
 exact⟨F,α,e,μ,S,by rw[h];exact⟨b,rfl,p⟩⟩
inductive CIv(K:PySem.W.Frag)(same:af->Prop)(items:List T)(b:BD)(dc d:D)(e0:Slots)(us:List T)(μ':af)(F1:Hp)(α1:List Addr)(H1:Hp)(p:Addr)(i:Nat)(σ':L2.St)(Hc:Hp):Prop
 | mk (F2:Hp) (α2:List Addr) (μ3:af) (done rest:List T) (vs:List V) (x2:Ex F1 α1 H1 F2 α2 Hc) (S2:Sim K F2 α2 e0 μ3 σ' Hc) (n1:F2 p=none) (n2:p∉α2) (hv:Hc p=some (.lst vs)) (hr:aA K F2 done vs) (hdl:done.length≤i) (hL:bI same b dc d e0 (items.drop i) μ3=.ok rest μ') (hu:us=done++rest)
theorem rE{σ:L2.St}{H:Hp}{Q:VK}(hb:kX mp b)(h:tF X (aW di mp b dc d) σ H Q):tDI X di σ H λJ H1=>u5 J mp (tBd X.K b) (oDT X.K dc) (oD X.K d) σ H1 Q:=by
 obtain⟨F,α,e,μ,S,h⟩:=h
 refine⟨F,α,e,μ,S,(R.wp_bind h).mono (λW μ1 h J H1 F1 α1 x1 S1 ok=>?_) λ_ _ h=>h⟩
 cases hL:(bI W.same b dc d (ini mp e) W.items μ1).calm with
 | err c μ'=>cases q:bI W.same b dc d (ini mp e) W.items μ1<;>rw[q] at hL<;>cases hL
 | bad=>rw[hL] at h;exact h.elim
 | ok us μ' =>
 rw[hL] at h
 have hL:=R.calm_eq hL
 rw[R.aQ] at h
 by_cases hz:W.items.length≤szL
 ·rw[if_pos hz] at h
  obtain⟨t,et,post⟩:=h
  cases et
  intro p hp
  refine⟨λi m σ' Hc=>m=W.items.length-i/\i≤W.items.length/\CIv X.K W.same W.items b dc d (ini mp e) us μ' F1 α1 H1 p i σ' Hc,
   ⟨_,rfl,Nat.zero_le _,.mk F1 α1 μ1 [] us [] (Ex.lay hp) ((S1.ini mp).of (aI.refl _) (List.prefix_refl _) (S1.st.lay hp)) (S1.st.ext.free hp) (bC S1.st hp) az aA.iE (Nat.zero_le _) hL rfl⟩,?_⟩
  rintro i m σ2 H2 ⟨rfl,hi',hC⟩
  obtain⟨F2,α2,μ3,done,rest,vs,x2,S2,n1,n2,hv,hr,hdl,hL,hu⟩:=hC
  by_cases hlt:i<W.items.length
  ·rw[List.drop_eq_getElem_cons hlt] at hL
   unfold bI at hL
   by_cases hs:W.same μ3
   ·rw[if_pos hs] at hL
    obtain⟨g1,g2⟩:=ok F2 α2 μ3 H2 x2.same x2.pre S2.st hs
    obtain⟨go,yl⟩:=g1 i W.items[i] (by simp[hlt])
    cases hb':b W.items[i] (ini mp e) with
    | none=>simp only[hb'] at hL;cases hL
    | some e3 =>
     simp only[hb'] at hL
     obtain⟨y0,μ4,hy,hL⟩:=R.aM hL
     have hy:=R.calm_eq hy
     obtain⟨k,μ5,hk,hK⟩:=R.aM hL
     obtain⟨hk1,hk2⟩:=R.iy hk
     subst hk2
     have ek:=wJ hk1
     rw[ek] at hy
     clear hL hk hk1 ek
     obtain⟨hl3,hb3⟩:=hb _ _ _ hb'
     refine .inr ⟨go,CIv X.K W.same W.items b dc d (ini mp e) us μ' F1 α1 H1 p (i+1),λσ' H' q=>⟨W.items.length-(i+1),by lia,rfl,hlt,q⟩,λx H3 yy=>?_⟩
     obtain⟨F3,gr,rp⟩:=yl x H3 yy
     have x3:Ex F2 α2 H2 F3 α2 H3:=gr.ex S2.st.ext
     refine⟨F3,α2,ini mp e,μ3,W.items[i],e3,S2.grow gr,rp,hb',λσ4 S4=>?_⟩
     refine⟨F3,α2,e3,μ3,k,μ4,S4,hy,λH5 F5 α5 x5 S5=>?_⟩
     obtain⟨v3,n3,m3⟩:=x3.fr p _ hv n1 n2
     obtain⟨v5,n5,m5⟩:=x5.fr p _ v3 n3 m3
     cases k with
     | false =>
      rw[if_neg Bool.false_ne_true] at hK ⊢
      exact .mk F5 α5 μ4 done rest vs (x2.trans (x3.trans x5)) (S5.back hl3 hb3) n5 m5 v5 (aA.mono (x3.same.trans x5.same) _ _ hr) (Nat.le_succ_of_le hdl) hK hu
     | true =>
      rw[if_pos rfl] at hK ⊢
      obtain⟨y2,μ6,hd,hK⟩:=R.aM hK
      have hd:=R.calm_eq hd
      obtain⟨u,μ7,hfz,hK⟩:=R.aM hK
      obtain⟨us',μ8,hL2,hK⟩:=R.aM hK
      cases hK
      refine⟨F5,α5,e3,μ4,y2,μ6,S5,hd,λv H6 F6 α6 x6 S6 o6=>?_⟩
      obtain⟨v6,n6,m6⟩:=x6.fr p _ v5 n5 m5
      obtain⟨F7,s7,ne7,S7,r7⟩:=kT S6.st o6 hfz
      have hvl:vs.length<sizeLine:=by
       have:=hr.length
       have hz':W.items.length≤sizeLine:=hz
       lia
      have n7:F7 p=none:=by rw[ne7 p m6];exact n6
      have x7:Ex F1 α1 H1 F7 α6 H6:=x2.trans (x3.trans (x5.trans (x6.trans (Ex.nG s7 ne7))))
      refine⟨p,vs,v,rfl,rfl,v6,hvl,.mk F7 α6 μ7 (done++[u]) us' (vs++[v]) (x7.CG hp) ?_ n7 m6 az ?_ ?_ hL2 ?_⟩
      ·exact((S6.back hl3 hb3).of s7 (List.prefix_refl _) S7).of (aI.refl _) (List.prefix_refl _) (S7.CG n7 m6)
      ·exact(aA.mono (x3.same.trans (x5.same.trans (x6.same.trans s7))) _ _ hr).append (aA.one r7)
      ·rw[List.length_append,List.length_singleton];lia
      ·rw[hu,List.append_assoc];rfl
   ·rw[if_neg hs] at hL;cases hL
  ·have e1:i=W.items.length:=by lia
   subst e1
   rw[List.drop_length] at hL
   unfold bI at hL
   by_cases hs:W.same μ3
   ·rw[if_pos hs] at hL
    cases hL
    obtain⟨g1,g2⟩:=ok F2 α2 _ H2 x2.same x2.pre S2.st hs
    refine .inl ⟨g2,post p H2 F2 α2 (x1.trans x2) (S1.of x2.same x2.pre S2.st) (x1.was S1.st hp) n1 n2 ⟨vs,hv,?_⟩⟩
    rw[hu,List.append_nil];exact hr
   ·rw[if_neg hs] at hL;cases hL
 ·rw[if_neg hz] at h;exact h.elim
theorem jX{e:Slots}{μ μ':af}{x:SV}(h:aW di mp b dc d e μ=.ok x μ'):∃t,x=.val t:=by
 unfold aW at h
 obtain⟨W,μ1,hW,h⟩:=R.aM h
 obtain⟨us,μ2,hL,h⟩:=R.aM h
 by_cases hz:W.items.length≤szL
 ·rw[if_pos hz] at h;cases h;exact⟨_,rfl⟩
 ·rw[if_neg hz] at h;cases h
theorem ja.imp{X':Cx}{cs:List Expr}{t t':TT}(h:ja X' cs t)(i:∀σ H Q,t' σ H Q->t σ H Q):ja X' cs t':=λpins s σ H Q I q=>h pins s σ H Q I (i σ H Q q)
theorem bN(hx:X.xe=λ_ _=>False)(hS:c9 X N' scope mp)(jq:X.calm=true)(hb:kX mp b)(hi:CI X tg iter di)(hg:∀cl C s₀ H₀ ex,CB (bu X N' scope cl C s₀ H₀ ex) tg b)
  (hc:∀cl C s₀ H₀ ex,ja (bu X N' scope cl C s₀ H₀ ex) ifs (tDT (bu X N' scope cl C s₀ H₀ ex) dc)) (he:∀cl C s₀ H₀ ex,CE (bu X N' scope cl C s₀ H₀ ex) elt d) (hs:∀x,foldedSetIterable iter X.env x=pure x:=by intro _;rfl) :
  CF X (.ListComp elt [⟨tg,iter,ifs,0⟩] scope pos) (aW di mp b dc d) :=
 ⟨PE.imp (FZ hx hS jq hi (g:=tBd X.K b) hg (λcl C s₀ H₀ ex=>ja.imp (hc cl C s₀ H₀ ex) λσ H Q q=>wM (X':=bu X N' scope cl C s₀ H₀ ex) q) (te:=oD X.K d) (λcl C s₀ H₀ ex=>PE.imp (he cl C s₀ H₀ ex) λσ H Q q=>CH (X':=bu X N' scope cl C s₀ H₀ ex) q) hs) λσ H Q q=>rE hb q,λ_ _ _ _ h=>jX h⟩
theorem jr(i:Nat){y:Str}{py u6:Pos}(hx:X.xe=λ_ _=>False)(hS:c9 X N' scope mp)(jq:X.calm=true)(hb:kX mp b)(hi:CI X tg iter di)(hg:∀cl C s₀ H₀ ex,CB (bu X N' scope cl C s₀ H₀ ex) tg b)
  (hc:∀cl C s₀ H₀ ex,ja (bu X N' scope cl C s₀ H₀ ex) ifs (tDT (bu X N' scope cl C s₀ H₀ ex) dc)) (he:∀cl C s₀ H₀ ex,CE (bu X N' scope cl C s₀ H₀ ex) elt d) (hN:X.N.Nodup) (hiN:X.N[i]?=some y:=by rfl) (hl:Loc X.env.scope y:=by first|exact Or.inl rfl|exact Or.inr rfl)
  (hsw:swapsWith (.ListComp elt [⟨tg,iter,ifs,0⟩] scope pos) (some (.Name y py)) u6.line X.env=pure true:=by rfl) (hs:∀x,foldedSetIterable iter X.env x=pure x:=by intro _;rfl)
  (hf:X.fn y=true∨X.env.scope.names.lookup y=some .local:=by first|exact .inl rfl|exact .inr rfl|assumption) :
  PS X (.Assign [.Name y py] (.ListComp elt [⟨tg,iter,ifs,0⟩] scope pos) u6) (λD σ H=>tF X (aW di mp b dc d) σ H λv H1=>D.nx (σ.set i (some v)) H1) :=
 PS.imp (nH hx hS jq hi (g:=tBd X.K b) hg (λcl C s₀ H₀ ex=>ja.imp (hc cl C s₀ H₀ ex) λσ H Q q=>wM (X':=bu X N' scope cl C s₀ H₀ ex) q) (te:=oD X.K d) (λcl C s₀ H₀ ex=>PE.imp (he cl C s₀ H₀ ex) λσ H Q q=>CH (X':=bu X N' scope cl C s₀ H₀ ex) q) hN hiN hl hsw hs hf) λD σ H q=>rE hb q
theorem kY{st:Stmt}{i:Nat}{da:D}(h:PS X st (λD σ H=>tF X da σ H λv H1=>D.nx (σ.set i (some v)) H1))(hv:∀e μ x μ',da e μ=.ok x μ'->∃t,x=.val t):CS X st (aC i da) :=
 PS.imp h λD σ H ⟨F,α,e,μ,S,h⟩=>uZ hv ⟨F,α,e,μ,S,(aV.toS h).mono (λx μ1 h v H1 F1 α1 x1 S1 o1=>h _ H1 F1 α1 x1 (S1.set o1)) λ_ _ h=>h⟩
end
def spD(K:PySem.W.Frag)(fn:FN)(n:Nat):Sp:=λvs H Q _=>vs.length=n/\∃F α μ xs r μ',cf K F α μ H/\Paired (λv x=>eL K F α v x) vs xs/\fn xs μ=.ok r μ' /\
 ∀v H' F' α',Ex F α H F' α' H'->cf K F' α' μ' H'->eL K F' α' v r->Q v H'
section
variable{X:Cx}{f:Addr}{fd:FuncData}{ps:List Str}{x:Str}{p pos:Pos}{e:Expr}{es:List Expr}{ds:List D}{fn:FN}{k:Nat}
theorem Ar{σ:L2.St}{H:Hp}{Q:VK}(hl:ds.length=ps.length)(h:tD X (ax (cal fn) ds) σ H Q):HB (spD X.K fn ps.length) [] E0 (tDA X ds) σ H Q:=by
 obtain⟨F,α,e,μ,S,h⟩:=h
 refine⟨F,α,e,μ,S,(eB (R.wp_bind h)).mono (λxs μ1 aj vs H1 F1 α1 x1 S1 o1=>?_) λ_ _ h=>h⟩
 obtain⟨hn,h⟩:=aj
 show spD X.K fn ps.length (vs++[]) H1 Q E0
 rw[List.append_nil]
 have h:((fn xs μ1).calm).wp (FW X.K F α H e σ Q) (eN X F α H e):=h
 cases q:fn xs μ1 with
 | err c μ2=>rw[q] at h;exact h.elim
 | bad=>rw[q] at h;exact h.elim
 | ok r μ2 =>
  rw[q] at h
  exact⟨by rw[o1.length,hn,hl],F1,α1,μ1,xs,r,μ2,S1.st,o1,q,λv H2 F2 α2 x2 S2 o2=>h v H2 F2 α2 (x1.trans x2) (S1.of x2.same x2.pre S2) o2⟩
theorem F8(G:kj X.prog X.w X.K X.mg X.base CX0 k f fd ps (spD X.K fn ps.length))(hr:cz k X.A)(hm:X.mg x=some (.ref f))(hk:PySem.W.keepIn X.K (.ref f)=true)(hb:Binds X.K fd ps [])(ha:CA X (e::es) ds)
  (hl:ds.length=ps.length:=by rfl) (hg:Gl X x:=by rfl) (hdb:(x==("__debug__":Str))=false:=by decide) (he:starEach (e::es) X.env=(false,eval e X.env)::starEach es X.env:=by rfl) (hpl:(backTo pos (starEach es X.env)).any (·.1)=false:=by rfl) :
  CE X (.Call (.Name x p) (e::es) [] pos) (ax (cal fn) ds):=PE.imp (E7 G hr hg hm hk hb .nil LP ha hdb he hpl) λσ H Q q=>Ar hl q
theorem s_{id:String}{r:List V->Hp->VK->Prop}{g:T->Option T}{d:D}(hc:cX X (.builtin id) r)(hs:mh X.K r g)(hm:X.mg x=none)(hv:bootBuiltins x=some (.builtin id))(ha:CE X e d)(hg:Gl X x:=by rfl)(hn:x≠"__name__":=by decide)
  (hdb:(x==("__debug__":Str))=false:=by decide) (hs1:starEach [e] X.env=(false,eval e X.env)::starEach [] X.env:=by rfl) (hpl:(backTo pos (starEach [] X.env)).any (·.1)=false:=by rfl):CE X (.Call (.Name x p) [e] [] pos) (dUn g d) :=
 PE.imp (l4 hc hg hm hv (ag ha aw hs1) hn hdb hs1 hpl) (Cu hs)
theorem CJ{id:String}{r:List V->Hp->VK->Prop}{g:T->Option T}{d:D}(hc:cX X (.type id) r)(hs:mh X.K r g)(hm:X.mg x=none)(hv:bootBuiltins x=some (.type id))(ha:CE X e d)(hg:Gl X x:=by rfl)(hn:x≠"__name__":=by decide)
  (hdb:(x==("__debug__":Str))=false:=by decide) (hs1:starEach [e] X.env=(false,eval e X.env)::starEach [] X.env:=by rfl) (hpl:(backTo pos (starEach [] X.env)).any (·.1)=false:=by rfl):CE X (.Call (.Name x p) [e] [] pos) (dUn g d) :=
 PE.imp (rf hc hg hm hv (ag ha aw hs1) hn hdb hs1 hpl) (Cu hs)
theorem CK{id:String}{r:List V->Hp->VK->Prop}{g:T->Option T}{d:D}(hc:cX X (.type id) r)(hs:uY X.K r g)(hm:X.mg x=none)(hv:bootBuiltins x=some (.type id))(ha:CE X e d)(hg:Gl X x:=by rfl)(hn:x≠"__name__":=by decide)
  (hdb:(x==("__debug__":Str))=false:=by decide) (hs1:starEach [e] X.env=(false,eval e X.env)::starEach [] X.env:=by rfl) (hpl:(backTo pos (starEach [] X.env)).any (·.1)=false:=by rfl):CF X (.Call (.Name x p) [e] [] pos) (dUn g d) :=
 ⟨PE.imp (rf hc hg hm hv (ag ha aw hs1) hn hdb hs1 hpl) (Jp hs),λ_ _ _ _ h=>yL h⟩
end
inductive Md where
 | V|D|K
def Md.fn:Md->Nat->DS->FN
 | .V=>fnV
 | .D=>fnD
 | .K=>fnK
section
variable{P:Program}{w:World}{K:PySem.W.Frag}{mg:Str->Option Value}{base:Heap}
theorem As{F H:Hp}{α:List Addr}{μ:af}{N:List Str}{vs:List V}{xs:List SV}(S:cf K F α μ H)(o:Paired (λv x=>eL K F α v x) vs xs):Sim K F α (starts N.length xs) μ (L2.start N vs) H:=by
 unfold starts
 have hl:=o.length
 refine⟨S,λi x h=>?_,by unfold L2.start;simp[hl]⟩
 have get:∀{vs:List V}{xs:List SV}{i:Nat}{x:SV},Paired (λv x=>eL K F α v x) vs xs->xs[i]?=some x->∃v,vs[i]?=some v/\eL K F α v x:=λ{vs}=>by
  intro xs i x o
  induction o generalizing i with
  | nil=>intro e;simp at e
  | cons r _ ih =>
   intro e
   cases i with
   | zero=>simp at e;subst e;exact⟨_,rfl,r⟩
   | succ i =>
    obtain⟨v,h1,h2⟩:=ih (i:=i) (by simpa using e)
    exact⟨v,by simpa using h1,h2⟩
 unfold slot at h
 by_cases hi:i<xs.length
 ·rw[List.getElem?_append_left (by simpa using hi),List.getElem?_map] at h
  cases q:xs[i]? with
  | none=>rw[q] at h;cases h
  | some y =>
   rw[q] at h
   cases h
   obtain⟨v,h1,h2⟩:=get o q
   refine⟨v,?_,h2⟩
   unfold L2.start
   rw[List.getElem?_append_left (by simpa [hl] using hi),List.getElem?_map,h1]
   rfl
 ·rw[List.getElem?_append_right (by simpa using hi),List.getElem?_replicate] at h
  split at h<;>rename_i q
  ·split at q<;>cases q
  ·cases h
theorem cg{x qual:Str}{st:Stmt}{f:Addr}{fd:FuncData}{N ps:List Str}{k:Nat}{d:DS}(md:Md)(F:Fun K x qual st f fd)(S:aU N ps (ar st))
  (hb:∀(cdv:Value) (A:Around) (outer:List Env) (s:Shared) (H:Hp) (E:XK),cz k (A.deeper (envOfC qual (ar st) s.heap.objs.size f cdv))->CSs (wq CX0 P w K mg base N qual (ar st) f cdv A outer s H E).nox (fP st) d) :
  kj P w K mg base CX0 (k+1) f fd ps (spD K (md.fn N.length d) ps.length):=by
 refine F.ok S (λvs H Q E h=>h.1) λcdv A outer s H vs Q E hr h=>⟨_,hb cdv A outer s H E hr,?_⟩
 obtain⟨hl,F0,α,μ,xs,r,μ',S0,o,h,post⟩:=h
 refine⟨F0,α,_,μ,As S0 o,?_⟩
 have fin:∀{y:SV}{μ1:af}{v:V}{H1 F1:Hp}{α1:List Addr},(match md with
   | .V=>ice μ.length y μ1
   | .D=>gc μ.length y μ1
   | .K=>.ok y μ1)=.ok r μ'->Ex F0 α H F1 α1 H1->cf K F1 α1 μ1 H1->eL K F1 α1 v y->Q v H1:=λ{y μ1 v H1 F1 α1} hg x1 S1 o1=>by
  cases md with
  | V =>
   obtain⟨F2,g1,g2,g3,g4⟩:=Jo S0.len x1.pre S1 o1 hg
   exact post v H1 F2 α ⟨x1.same.trans g1,List.prefix_refl _,λb z h1 h2 h3=>let ⟨a1,a2,a3⟩:=x1.fr b z h1 h2 h3;⟨a1,by rw[g2 b a3];exact a2,h3⟩⟩ g3 g4
  | D =>
   obtain⟨γ,g1,g2,g3,g4⟩:=LV S0.len x1.pre S1 o1 hg
   exact post v H1 F1 γ ⟨x1.same,g1,λb z h1 h2 h3=>let ⟨a1,a2,a3⟩:=x1.fr b z h1 h2 h3;⟨a1,a2,λhm=>a3 (g2 b hm)⟩⟩ g3 g4
  | K =>
   cases hg
   exact post v H1 F1 α1 x1 S1 o1
 cases q:d (starts N.length xs) μ with
 | rt y μ1=>exact λv H1 F1 α1 x1 S1 o1=>fin (by cases md<;>(simp only[Md.fn,cI,kQ,kR,q] at h;exact h)) x1 S1 o1
 | nx e1 μ1=>exact λσ1 H1 F1 α1 x1 S1=>fin (y:=.val .non) (by cases md<;>(simp only[Md.fn,cI,kQ,kR,q] at h;exact h)) x1 S1.st (Rep.LU (K:=K) (F:=F1))
 | bk e1 μ1=>cases md<;>(simp only[Md.fn,cI,kQ,kR,q] at h;cases h)
 | ct e1 μ1=>cases md<;>(simp only[Md.fn,cI,kQ,kR,q] at h;cases h)
 | err c e1 μ1=>cases md<;>(simp only[Md.fn,cI,kQ,kR,q] at h;cases h)
 | bad=>cases md<;>(simp only[Md.fn,cI,kQ,kR,q] at h;cases h)
theorem tj{f:Addr}{fd:FuncData}{ps:List Str}:kj P w K mg base CX0 0 f fd ps (spD K (λ_ _=>.bad) ps.length) :=
 ⟨λvs H Q E h=>h.1,λA outer s H args us vs Q E _ _ _ _ h=>by obtain⟨_,_,_,_,_,_,_,_,_,h,_⟩:=h;cases h⟩
end
end Fw
namespace Fw
open PySem
section
variable{α:Type}{μ:List α}{a b c x:α}{l:List α}
@[simp] theorem eC:(μ++a::l)[μ.length]?=some a:=by simp
@[simp] theorem F9:(μ++a::b::l)[μ.length+1]?=some b:=by simp[List.getElem?_append_right]
@[simp] theorem iG:(μ++a::l).set μ.length x=μ++x::l:=by simp
@[simp] theorem F_:(μ++a::b::l).set (μ.length+1) x=μ++a::x::l:=by simp[List.set_append]
@[simp] theorem Ga:(μ++l).take μ.length=μ:=by simp
end
@[simp] theorem hJ(μ:af)(k:Nat):rd μ (.cel k)=(μ[k]?).map (·.2):=(rfl)
theorem wN{μ:af}{k:Nat}{b:Bool}{t:T}(h:μ[k]?=some (b,t)):frz (.cel k) μ=.ok t (μ.set k (false,t)):=by
 unfold frz;simp only[h]
@[simp] theorem Na(μ l:af)(b:Bool)(t:T):frz (.cel μ.length) (μ++(b,t)::l)=.ok t (μ++(false,t)::l):=by
 rw[wN (b:=b) (t:=t) (by simp)];simp
@[simp] theorem Nb(μ l:af)(a:Bool×T)(b:Bool)(t:T):frz (.cel (μ.length+1)) (μ++a::(b,t)::l)=.ok t (μ++a::(false,t)::l):=by
 rw[wN (b:=b) (t:=t) (by simp)];simp
@[simp] theorem tw(n:Nat)(t:T)(μ:af):ice n (.val t) μ=.ok (.val t) (μ.take n):=(rfl)
@[simp] theorem yM(μ l:af)(b:Bool)(t:T):ice μ.length (.cel μ.length) (μ++(b,t)::l)=.ok (.val t) μ:=by unfold ice;simp
@[simp] theorem gq(μ l:af)(b:Bool)(ts:List T):iC (.cel μ.length) (μ++(b,.lst ts)::l)=some ():=yJ (b:=b) (ts:=ts) (by simp)
@[simp] theorem L9(μ l:af)(a:Bool×T)(b:Bool)(ts:List T):iC (.cel (μ.length+1)) (μ++a::(b,.lst ts)::l)=some ():=yJ (b:=b) (ts:=ts) (by simp)
theorem append_at{μ:af}{k:Nat}{ts:List T}{t:T}(h:μ[k]?=some (true,.lst ts))(hl:ts.length<szL):appendAt (.cel k) t μ=some (μ.set k (true,.lst (ts++[t]))):=by
 unfold appendAt;simp only[h];rw[if_pos hl]
theorem pF(μ l:af)(ts:List T)(t:T)(hl:ts.length<szL):appendAt (.cel μ.length) t (μ++(true,.lst ts)::l)=some (μ++(true,.lst (ts++[t]))::l):=by
 rw[append_at (ts:=ts) (by simp) hl];simp
theorem wO(μ l:af)(a:Bool×T)(ts:List T)(t:T)(hl:ts.length<szL):appendAt (.cel (μ.length+1)) t (μ++a::(true,.lst ts)::l)=some (μ++a::(true,.lst (ts++[t]))::l):=by
 rw[append_at (ts:=ts) (by simp) hl];simp
theorem ml{μ:af}{k:Nat}{ts:List T}{t:T}{i:Int}(h:μ[k]?=some (true,.lst ts))(h0:0≤i)(h1:i<ts.length):setAt (.cel k) (.int i) t μ=some (μ.set k (true,.lst (ts.set i.toNat t))):=by
 unfold setAt;simp only[h];unfold ixN;rw[if_pos h0,if_pos h1];rfl
@[simp] theorem rF(m:Nat)(xs:List SV):starts m xs=xs.map some++List.replicate (m-xs.length) none:=(rfl)
theorem gO{α:Type}{xs:List α}{i:Int}(h0:0≤i):atI xs i=xs[i.toNat]?:=by
 unfold atI ixN
 rw[if_pos h0]
 by_cases h:i<xs.length
 ·rw[if_pos h];rfl
 ·rw[if_neg h]
  exact(List.getElem?_eq_none (by lia)).symm
theorem mq{α β:Type}{xs:List α}{f:α->β}{i:Int}(h0:0≤i)(h1:i<xs.length):atI (xs.map f) i=some (f (xs[i.toNat]'(by lia))):=by
 rw[gO h0,List.getElem?_map,List.getElem?_eq_getElem (by lia)];rfl
@[simp] theorem u7{α:Type}(x:α)(xs:List α):atI (x::xs) 0=some x:=by rw[gO (by lia)];rfl
@[simp] theorem yN{α:Type}(x y:α)(xs:List α):atI (x::y::xs) 1=some y:=by rw[gO (by lia)];rfl
@[simp] theorem Gb{α:Type}(x y z:α)(xs:List α):atI (x::y::z::xs) 2=some z:=by rw[gO (by lia)];rfl
noncomputable def bJ (lo : Int) (n : Nat) : List Int := (List.range n).map fun (k : Nat) => lo + (k : Int)
theorem fo(lo:Int)(n:Nat):a_ lo n=(bJ lo n).map T.int:=by
 unfold bJ
 induction n generalizing lo with
 | zero=>rfl
 | succ n ih =>
  rw[a_,ih (lo+1),List.range_succ_eq_map]
  simp only[List.map_cons,List.map_map]
  congr 1
  ·simp
  ·apply List.map_congr_left
   intro k _
   simp only[Function.comp]
   congr 1
   lia
@[simp] theorem ET(lo:Int)(n:Nat):(bJ lo n).length=n:=by simp[bJ]
theorem wQ{lo:Int}{n:Nat}{k:Int}:k∈bJ lo n↔lo≤k/\k<lo+n:=by
 unfold bJ
 rw[List.mem_map]
 constructor
 ·rintro⟨j,hj,rfl⟩
  rw[List.mem_range] at hj
  lia
 ·rintro⟨h1,h2⟩
  exact⟨(k-lo).toNat,by rw[List.mem_range];lia,by lia⟩
theorem wR{lo:Int}{n i:Nat}{k:Int}(h:(bJ lo n)[i]?=some k):i<n/\k=lo+i:=by
 unfold bJ at h
 rw[List.getElem?_map] at h
 by_cases hi:i<n
 ·rw[List.getElem?_range hi] at h
  cases h
  exact⟨hi,rfl⟩
 ·rw[List.getElem?_eq_none (by simpa using hi)] at h
  cases h
theorem pG{lo:Int}{n i:Nat}{t:T}(h:(a_ lo n)[i]?=some t):i<n/\t=.int (lo+i):=by
 rw[fo,List.getElem?_map] at h
 cases q:(bJ lo n)[i]? with
 | none=>rw[q] at h;cases h
 | some k =>
  rw[q] at h
  cases h
  obtain⟨h1,rfl⟩:=wR q
  exact⟨h1,rfl⟩
theorem jY{lo:Int}{n i:Nat}{t:T}(h:(a_ lo n)[i]?=some t):∃k:Int,t=.int k/\i<n/\k=lo+i:=by
 obtain⟨h1,rfl⟩:=pG h
 exact⟨_,rfl,h1,rfl⟩
@[simp] theorem bA(lo:Int)(n:Nat):(a_ lo n).length=n:=by rw[fo];simp
theorem CL{α:Type}(g:α->Bool)(xs:List α):uU (.lst (xs.map λk=>T.bl (g k)))=some (.bl (xs.any g)):=by
 have e:(xs.map λk=>T.bl (g k))=(xs.map g).map T.bl:=by simp
 rw[e,Ci];simp[List.any_map]
theorem u9{α:Type}(g:α->Int)(xs:List α):qE (.lst (xs.map λk=>T.int (g k)))=some (.int (xs.map g).sum):=by
 have e:(xs.map λk=>T.int (g k))=(xs.map g).map T.int:=by simp
 rw[e,Aj]
def RS.wU(r:RS)(J:Slots->af->Prop)(P:RS->Prop):Prop:=match r with
 | .nx e μ=>J e μ
 | .ct e μ=>J e μ
 | .bk e μ=>P (.nx e μ)
 | r=>P r
@[simp] theorem Gd(e:Slots)(μ:af)(J:Slots->af->Prop)(P:RS->Prop):(RS.nx e μ).wU J P=J e μ:=(rfl)
@[simp] theorem Ge(x:SV)(μ:af)(J:Slots->af->Prop)(P:RS->Prop):(RS.rt x μ).wU J P=P (.rt x μ):=(rfl)
theorem mr{same:af->Prop}{b:BD}{body:DS}(P:RS->Prop)(I:Nat->Slots->af->Prop)(hs:∀i e μ,I i e μ->same μ){ts:List T}
  (step:∀i t e μ,ts[i]?=some t->I i e μ->∃e1,b t e=some e1/\(body e1 μ).wU (I (i+1)) P) (fin:∀e μ,I ts.length e μ->P (.nx e μ)) {e:Slots}{μ:af} (h:I 0 e μ):P (forL same b body ts e μ):=by
 have all:∀(us:List T) (i:Nat) (e:Slots) (μ:af),ts.drop i=us->I i e μ->i≤ts.length->P (forL same b body us e μ):=by
  intro us
  induction us with
  | nil =>
   intro i e μ hd hI hi
   have hl:ts.length≤i:=by
    have:=congrArg List.length hd
    simp at this
    lia
   have e1:i=ts.length:=by lia
   subst e1
   unfold forL
   rw[if_pos (hs _ _ _ hI)]
   exact fin e μ hI
  | cons t us ih =>
   intro i e μ hd hI hi
   have hlt:i<ts.length:=by
    have:=congrArg List.length hd
    simp at this
    lia
   have hg:ts[i]?=some t:=by
    have:(ts.drop i)[0]?=some t:=by rw[hd];rfl
    rw[List.getElem?_drop] at this
    simpa using this
   have hd':ts.drop (i+1)=us:=by
    rw[← List.tail_drop,hd];rfl
   obtain⟨e1,h1,h2⟩:=step i t e μ hg hI
   unfold forL
   rw[if_pos (hs _ _ _ hI)]
   simp only[h1]
   cases q:body e1 μ with
   | nx e2 μ2=>rw[q] at h2;exact ih (i+1) e2 μ2 hd' h2 hlt
   | ct e2 μ2=>rw[q] at h2;exact ih (i+1) e2 μ2 hd' h2 hlt
   | bk e2 μ2=>rw[q] at h2;exact h2
   | rt x μ2=>rw[q] at h2;exact h2
   | err c e2 μ2=>rw[q] at h2;exact h2
   | bad=>rw[q] at h2;exact h2
 exact all ts 0 e μ rfl h (Nat.zero_le _)
theorem cx{same:af->Prop}{b:BD}{body:DS}(I:Nat->Slots->af->Prop)(hs:∀i e μ,I i e μ->same μ){ts:List T}
  (step:∀i t e μ,ts[i]?=some t->I i e μ->∃e1 e2 μ2,b t e=some e1/\body e1 μ=.nx e2 μ2/\I (i+1) e2 μ2) {e:Slots}{μ:af} (h:I 0 e μ):∃e' μ',forL same b body ts e μ=.nx e' μ'/\I ts.length e' μ' :=
 mr (P:=λr=>∃e' μ',r=.nx e' μ'/\I ts.length e' μ') I hs (λi t e μ ht hI=>by
  obtain⟨e1,e2,μ2,h1,h2,h3⟩:=step i t e μ ht hI
  exact⟨e1,h1,by rw[h2];exact h3⟩) (λe μ hI=>⟨e,μ,rfl,hI⟩) h
theorem pH{same:af->Prop}{b:BD}{c d:D}{e:Slots}{μ:af}(p:Int->Bool)(g:Int->T)(hs:same μ)(ns:List Int)
  (h:∀n∈ns,∃e1,b (.int n) e=some e1/\c e1 μ=.ok (.val (.bl (p n))) μ/\(p n=true->d e1 μ=.ok (.val (g n)) μ)):bI same b c d e (ns.map T.int) μ=.ok ((ns.filter p).map g) μ:=by
 induction ns with
 | nil=>unfold bI;rw[List.map_nil];simp only;rw[if_pos hs];rfl
 | cons n ns ih =>
  obtain⟨e1,h1,h2,h3⟩:=h n List.mem_cons_self
  have ih:=ih λu hu=>h u (List.mem_cons_of_mem _ hu)
  rw[List.map_cons]
  unfold bI
  rw[if_pos hs]
  simp only[h1,h2,R.cw,R.aQ,gg,R.aP]
  cases q:p n with
  | true=>rw[if_pos rfl,h3 q];simp[q,ih]
  | false=>rw[if_neg Bool.false_ne_true,ih];simp[q]
theorem jZ{same:af->Prop}{b:BD}{d:D}{e:Slots}{μ:af}(g:Int->T)(hs:same μ)(ns:List Int)
  (h:∀n∈ns,∃e1,b (.int n) e=some e1/\d e1 μ=.ok (.val (g n)) μ):bI same b (dC (.bl true)) d e (ns.map T.int) μ=.ok (ns.map g) μ:=by
 have:=pH (same:=same) (b:=b) (c:=dC (.bl true)) (d:=d) (e:=e) (μ:=μ) (λ_=>true) g hs ns λn hn=>by
  obtain⟨e1,h1,h2⟩:=h n hn
  exact⟨e1,h1,rfl,λ_=>h2⟩
 rw[this]
 congr 2
 exact List.filter_eq_self.mpr λ_ _=>rfl
theorem ij{α:Type}{same:af->Prop}{b:BD}{c d:D}{e:Slots}{μ:af}(f:α->T)(p:α->Bool)(g:α->T)(hs:same μ)(as:List α)
  (h:∀a∈as,∃e1,b (f a) e=some e1/\c e1 μ=.ok (.val (.bl (p a))) μ/\(p a=true->d e1 μ=.ok (.val (g a)) μ)):bI same b c d e (as.map f) μ=.ok ((as.filter p).map g) μ:=by
 induction as with
 | nil=>unfold bI;rw[List.map_nil];simp only;rw[if_pos hs];rfl
 | cons n ns ih =>
  obtain⟨e1,h1,h2,h3⟩:=h n List.mem_cons_self
  have ih:=ih λu hu=>h u (List.mem_cons_of_mem _ hu)
  rw[List.map_cons]
  unfold bI
  rw[if_pos hs]
  simp only[h1,h2,R.cw,R.aQ,gg,R.aP]
  cases q:p n with
  | true=>rw[if_pos rfl,h3 q];simp[q,ih]
  | false=>rw[if_neg Bool.false_ne_true,ih];simp[q]
theorem cC{α:Type}{same:af->Prop}{b:BD}{d:D}{e:Slots}{μ:af}(f:α->T)(g:α->T)(hs:same μ)(as:List α)
  (h:∀a∈as,∃e1,b (f a) e=some e1/\d e1 μ=.ok (.val (g a)) μ):bI same b (dC (.bl true)) d e (as.map f) μ=.ok (as.map g) μ:=by
 have:=ij (same:=same) (b:=b) (c:=dC (.bl true)) (d:=d) (e:=e) (μ:=μ) f (λ_=>true) g hs as λn hn=>by
  obtain⟨e1,h1,h2⟩:=h n hn
  exact⟨e1,h1,rfl,λ_=>h2⟩
 rw[this]
 congr 2
 exact List.filter_eq_self.mpr λ_ _=>rfl
theorem Au(xs ys:List Int):ie (xs.map T.int) (ys.map T.int)=(xs.zip ys).map λq=>.tup [.int q.1,.int q.2]:=by
 induction xs generalizing ys with
 | nil=>rfl
 | cons x xs ih =>
  cases ys with
  | nil=>rfl
  | cons y ys=>simp[ie,ih]
theorem u_(ts us:List T):(ie ts us).length=min ts.length us.length:=by
 induction ts generalizing us with
 | nil=>simp[ie]
 | cons t ts ih =>
  cases us with
  | nil=>simp[ie]
  | cons u us=>simp[ie,ih]
theorem gP{c:D}{body:DS}:∀(n m:Nat) (e:Slots) (μ:af),n≤m->b4 c body n e μ≠.bad->b4 c body m e μ=b4 c body n e μ
 | 0,m,e,μ,_,h=>absurd rfl h
 | n+1,0,e,μ,h,_=>absurd h (by lia)
 | n+1,m+1,e,μ,hnm,h=>by
  unfold b4 at h ⊢
  cases q:c e μ with
  | err x μ1=>simp only[R.toS_err]
  | bad=>rw[q] at h;exact absurd rfl h
  | ok x μ1 =>
   rw[q] at h
   simp only[R.toS_ok] at h ⊢
   cases q2:asB x with
   | none=>rw[q2] at h;exact absurd rfl h
   | some k =>
    rw[q2] at h
    simp only[R.aP,R.toS_ok] at h ⊢
    cases k with
    | false=>rfl
    | true =>
     rw[if_pos rfl] at h ⊢
     rw[if_pos rfl]
     cases q3:body e μ1 with
     | nx e2 μ2=>rw[q3] at h;simp only at h ⊢;exact gP n m e2 μ2 (by lia) h
     | ct e2 μ2=>rw[q3] at h;simp only at h ⊢;exact gP n m e2 μ2 (by lia) h
     | bk e2 μ2=>rfl
     | rt x μ2=>rfl
     | err x e2 μ2=>rfl
     | bad=>rfl
theorem Av{c:D}{body:DS}{n:Nat}{e:Slots}{μ:af}(h:b4 c body n e μ≠.bad):kP c body e μ=b4 c body n e μ:=by
 have hn:∃n,b4 c body n e μ≠.bad:=⟨n,h⟩
 unfold kP
 rw[dif_pos hn]
 have h2:=hn.choose_spec
 rcases Nat.le_total n hn.choose with z|z
 ·exact gP _ _ _ _ z h
 ·exact(gP _ _ _ _ z h2).symm
theorem wV{c:D}{body:DS}(P:RS->Prop)(hP:¬ P .bad)(I:Nat->Slots->af->Prop)
  (step:∀m e μ,I m e μ->∃k μ1,c e μ=.ok (.val (.bl k)) μ1/\if k=true then (body e μ1).wU (λe2 μ2=>∃m',m'<m/\I m' e2 μ2) P else P (.nx e μ1)) :
  ∀(m:Nat) (e:Slots) (μ:af),I m e μ->P (kP c body e μ):=by
 have key:∀(m:Nat) (e:Slots) (μ:af),I m e μ->∃n,P (b4 c body n e μ):=by
  intro m
  induction m using Nat.strongRecOn with
  | ind m ih =>
   intro e μ hI
   obtain⟨k,μ1,h1,h2⟩:=step m e μ hI
   cases k with
   | false =>
    refine⟨1,?_⟩
    unfold b4
    simp only[h1,R.toS_ok,gg,R.aP,Bool.false_eq_true,if_false]
    exact h2
   | true =>
    rw[if_pos rfl] at h2
    cases q:body e μ1 with
    | nx e2 μ2 =>
     rw[q] at h2
     obtain⟨m',hm,hI'⟩:=h2
     obtain⟨n,hn⟩:=ih m' hm e2 μ2 hI'
     refine⟨n+1,?_⟩
     unfold b4
     simp only[h1,R.toS_ok,gg,R.aP,if_true,q]
     exact hn
    | ct e2 μ2 =>
     rw[q] at h2
     obtain⟨m',hm,hI'⟩:=h2
     obtain⟨n,hn⟩:=ih m' hm e2 μ2 hI'
     refine⟨n+1,?_⟩
     unfold b4
     simp only[h1,R.toS_ok,gg,R.aP,if_true,q]
     exact hn
    | bk e2 μ2 =>
     rw[q] at h2
     refine⟨1,?_⟩
     unfold b4
     simp only[h1,R.toS_ok,gg,R.aP,if_true,q]
     exact h2
    | rt x μ2 =>
     rw[q] at h2
     refine⟨1,?_⟩
     unfold b4
     simp only[h1,R.toS_ok,gg,R.aP,if_true,q]
     exact h2
    | err x e2 μ2 =>
     rw[q] at h2
     refine⟨1,?_⟩
     unfold b4
     simp only[h1,R.toS_ok,gg,R.aP,if_true,q]
     exact h2
    | bad=>rw[q] at h2;exact absurd h2 hP
 intro m e μ hI
 obtain⟨n,hn⟩:=key m e μ hI
 rw[Av (n:=n) (λz=>hP (z ▸ hn))]
 exact hn
def Gg:T->T->Option T
 | .int i,.int j=>some (.int (if j<i then j else i))
 | _,_=>none
def Jv:T->T->Option T
 | .int i,.int j=>some (.int (if j > i then j else i))
 | _,_=>none
@[simp] theorem CM(i j:Int):Gg (.int i) (.int j)=some (.int (if j<i then j else i)):=(rfl)
@[simp] theorem CN(i j:Int):Jv (.int i) (.int j)=some (.int (if j > i then j else i)):=(rfl)
noncomputable def rG : T -> Option Key
 | .int i=>some (.inl i)
 | .str x=>some (.inr x)
 | _=>none
@[simp] theorem Aw(i:Int):rG (.int i)=some (.inl i):=(rfl)
noncomputable def nU (kts : List (Key × T)) (k : Key) : Option T := (kts.find? fun kv => decide (kv.1 = k)).map (·.2)
noncomputable def tE (kts : List (Key × T)) (k : Key) (t : T) : List (Key × T) :=
 if (kts.any λkv=>decide (kv.1=k))=true then kts.map (λkv=>if kv.1=k then (kv.1,t) else kv) else kts++[(k,t)]
def pI:T->T->Option T
 | .dct kts,u=>(rG u).bind λk=>nU kts k
 | _,_=>none
@[simp] theorem Ax(kts:List (Key×T))(i:Int):pI (.dct kts) (.int i)=nU kts (.inl i):=(rfl)
def js(x:SV)(k:T)(t:T)(μ:af):Option af:=match x with
 | .cel c=>match μ[c]? with
  | some (true,.dct kts)=>(rG k).bind λkk=>if kts.length<szL then some (μ.set c (true,.dct (tE kts kk t))) else none
  | _=>none
 | _=>none
def nJ(i:Nat)(dk dv:D):DS:=λe μ=>(dv e μ).toS e λy μ1=>(R.lift (slot e i) μ1).toS e λx μ1=>(dk e μ1).toS e λz μ2=>(R.lift (rd μ2 z) μ2).toS e λk μ2 =>
 (frz y μ2).toS e λt μ3=>(R.lift (js x k t μ3) μ3).toS e λμ4 _=>.nx e μ4
@[simp] theorem pJ(i:Nat)(dk dv:D)(e:Slots)(μ:af):nJ i dk dv e μ=(dv e μ).toS e λy μ1=>(R.lift (slot e i) μ1).toS e λx μ1=>(dk e μ1).toS e λz μ2=>(R.lift (rd μ2 z) μ2).toS e λk μ2 =>
 (frz y μ2).toS e λt μ3=>(R.lift (js x k t μ3) μ3).toS e λμ4 _=>.nx e μ4:=(rfl)
theorem rH{μ:af}{c:Nat}{kts:List (Key×T)}{i:Int}{t:T}(h:μ[c]?=some (true,.dct kts))(hl:kts.length<szL):js (.cel c) (.int i) t μ=some (μ.set c (true,.dct (tE kts (.inl i) t))):=by
 unfold js
 simp only[h,Aw,Option.bind_some,hl,if_true]
def dW(kts:List (Key×T)):List T:=kts.map λp=>.tup [uT p.1,p.2]
def asD:T->Option (List (Key×T))
 | .dct kts=>some kts
 | _=>none
@[simp] theorem yO(kts:List (Key×T)):asD (.dct kts)=some kts:=(rfl)
def kZ(d:D):DI:=λe μ=>(d e μ).bind λx μ1=>(R.lift ((rd μ1 x).bind asD) μ1).bind λkts μ1=>.ok ⟨dW kts,λμ'=>rd μ' x=rd μ1 x⟩ μ1
@[simp] theorem m7(d:D)(e:Slots)(μ:af):kZ d e μ=(d e μ).bind λx μ1=>(R.lift ((rd μ1 x).bind asD) μ1).bind λkts μ1=>.ok ⟨dW kts,λμ'=>rd μ' x=rd μ1 x⟩ μ1:=(rfl)
noncomputable def dw (i : Int) : List T -> List T
 | []=>[]
 | t::ts=>.tup [.int i,t]::dw (i+1) ts
theorem m8:∀(i:Int) (ts:List T),(dw i ts).length=ts.length
 | i,[]=>rfl
 | i,t::ts=>by simp[dw,m8 (i+1) ts]
theorem m_:∀{i:Int}{ts:List T}{j:Nat}{t:T},(dw i ts)[j]?=some t->∃a,ts[j]?=some a/\t=.tup [.int (i+j),a]
 | i,[],j,t,h=>by simp[dw] at h
 | i,a::ts,0,t,h=>by simp[dw] at h;exact⟨a,rfl,by simp[← h]⟩
 | i,a::ts,j+1,t,h=>by
  obtain⟨b,h1,h2⟩:=m_ (i:=i+1) (ts:=ts) (j:=j) (t:=t) (by simpa [dw] using h)
  refine⟨b,by simpa using h1,?_⟩
  rw[h2,show i+1+(j:Int)=i+((j+1:Nat):Int) by lia]
theorem CP(i:Int)(ts:List T)(j:Nat):(dw i ts)[j]?=(ts[j]?).map λt=>.tup [.int (i+j),t]:=by
 induction ts generalizing i j with
 | nil=>simp[dw]
 | cons a ts ih =>
  cases j with
  | zero=>simp[dw]
  | succ j=>simp only[dw,List.getElem?_cons_succ,ih];congr 1;funext t;rw[show i+1+(j:Int)=i+((j+1:Nat):Int) by lia]
def yP(d:D):DI:=λe μ=>(d e μ).bind λx μ1=>(R.lift ((rd μ1 x).bind b_) μ1).bind λts μ1=>.ok ⟨dw 0 ts,λμ'=>rd μ' x=rd μ1 x⟩ μ1
@[simp] theorem CQ(d:D)(e:Slots)(μ:af):yP d e μ=(d e μ).bind λx μ1=>(R.lift ((rd μ1 x).bind b_) μ1).bind λts μ1=>.ok ⟨dw 0 ts,λμ'=>rd μ' x=rd μ1 x⟩ μ1:=(rfl)
noncomputable def gQ : T -> Bool
 | .non=>true
 | .bl _=>true
 | .int _=>true
 | .str _=>true
 | _=>false
def inT(t:T)(us:List T):Bool:=us.any λy=>eqT y t
def fIn(t u:T):Option T:=match b_ u with
 | some us=>if (gQ t && us.all gQ)=true then some (.bl (inT t us)) else none
 | none=>none
@[simp] theorem qG(ns:List Int):(ns.map T.int).all gQ=true:=by simp[gQ]
theorem CU(i:Int)(ns:List Int):inT (.int i) (ns.map T.int)=decide (i∈ns):=by
 unfold inT
 rw[Bool.eq_iff_iff,decide_eq_true_iff,List.any_eq_true]
 constructor
 ·rintro⟨t,ht,he⟩
  obtain⟨j,hj,rfl⟩:=List.mem_map.mp ht
  rw[yC,beq_iff_eq] at he
  exact he ▸ hj
 ·intro h
  exact⟨_,List.mem_map.mpr ⟨i,h,rfl⟩,by rw[yC,beq_iff_eq]⟩
@[simp] theorem va(i:Int)(ns:List Int):fIn (.int i) (.lst (ns.map T.int))=some (.bl (decide (i∈ns))):=by
 unfold fIn
 simp only[fR,qG,Bool.and_true,CU]
 rfl
def L_:T->T->Option T
 | .int i,.int j=>if 0≤i/\j=1 then some (.int (i%2)) else none
 | _,_=>none
@[simp] theorem Ay(i:Int)(h:0≤i):L_ (.int i) (.int 1)=some (.int (i%2)):=if_pos ⟨h,rfl⟩
def wW:T->Option T
 | .int i=>some (.int i)
 | .bl b=>some (.int (if b then 1 else 0))
 | _=>none
@[simp] theorem CV(i:Int):wW (.int i)=some (.int i):=(rfl)
@[simp] theorem Gh(b:Bool):wW (.bl b)=some (.int (if b then 1 else 0)):=(rfl)
def asV:SV->Option T
 | .val t=>some t
 | _=>none
@[simp] theorem Gi(t:T):asV (.val t)=some t:=(rfl)
def Az(is:List Nat)(d:D):DS:=λe μ=>(d e μ).toS e λx μ1=>(R.lift ((asV x).bind λt=>cT is t e) μ1).toS e λe' μ1=>.nx e' μ1
@[simp] theorem Gj(is:List Nat)(d:D)(e:Slots)(μ:af):Az is d e μ=(d e μ).toS e λx μ1=>(R.lift ((asV x).bind λt=>cT is t e) μ1).toS e λe' μ1=>.nx e' μ1:=(rfl)
@[simp] theorem CY(i j k:Nat)(t u v:T)(e:Slots):cT [i,j,k] (.tup [t,u,v]) e=some (((e.set i (some (.val t))).set j (some (.val u))).set k (some (.val v))):=(rfl)
def Gk:T->Option T
 | .int j=>if (bQ j && decide (j.toNat≤szL))=true then some (.lst (a_ 0 j.toNat)) else none
 | _=>none
def yQ(x:SV)(μ:af):Option af:=match x with
 | .cel k=>match μ[k]? with
  | some (true,.lst _)=>some (μ.set k (true,.lst []))
  | _=>none
 | _=>none
def Jw(o:D):DS:=λe μ=>(o e μ).toS e λx μ0=>(R.lift (yQ x μ0) μ0).toS e λμ1 _=>.nx e μ1
@[simp] theorem AA(o:D)(e:Slots)(μ:af):Jw o e μ=(o e μ).toS e λx μ0=>(R.lift (yQ x μ0) μ0).toS e λμ1 _=>.nx e μ1:=(rfl)
def bW(x:SV)(t:T)(μ:af):Option af:=match x,t with
 | .cel k,.lst us=>match μ[k]? with
  | some (true,.lst ts)=>if ts.length+us.length≤szL then some (μ.set k (true,.lst (ts++us))) else none
  | _=>none
 | _,_=>none
def NR:T->Option T
 | .lst ts=>some (.lst ts.reverse)
 | _=>none
@[simp] theorem CZ(ts:List T):NR (.lst ts)=some (.lst ts.reverse):=(rfl)
def cV(o d:D):DS:=λe μ=>(o e μ).toS e λx μ0=>(R.lift (iC x μ0) μ0).toS e λ_ μ0=>(d e μ0).toS e λy μ1=>(R.lift ((asV y).bind λt=>bW x t μ1) μ1).toS e λμ2 _=>.nx e μ2
@[simp] theorem iH(o d:D)(e:Slots)(μ:af):cV o d e μ=(o e μ).toS e λx μ0=>(R.lift (iC x μ0) μ0).toS e λ_ μ0=>(d e μ0).toS e λy μ1=>(R.lift ((asV y).bind λt=>bW x t μ1) μ1).toS e λμ2 _=>.nx e μ2:=(rfl)
def plain:List (Sum T Nat)->Option (List T)
 | []=>some []
 | .inl t::xs=>(plain xs).map λts=>t::ts
 | .inr _::_=>none
def pK(t:T)(lo hi:Option Int):Option T:=match t with
 | .lst xs=>some (.lst (gi xs lo hi))
 | .tup xs=>some (.tup (gi xs lo hi))
 | _=>none
def dm(a:D)(lo hi:Option D):D:=λe μ=>(a e μ).bind λx μ1=>(pg lo e μ1).bind λl μ2=>(pg hi e μ2).bind λh μ3=>R.lift (ap1 (λt=>pK t l h) (rd μ3 x)) μ3
theorem mw(a:D)(lo hi:Option D)(e:Slots)(μ:af):dm a lo hi e μ=(a e μ).bind λx μ1=>(pg lo e μ1).bind λl μ2=>(pg hi e μ2).bind λh μ3=>R.lift (ap1 (λt=>pK t l h) (rd μ3 x)) μ3:=(rfl)
def nK(x y:SV)(μ:af):R SV:=match x,y with
 | .cel k,.val (.int i)=>match μ[k]? with
  | some (true,.lst ts)=>if 0≤i/\i<1073741824 then (match ts[i.toNat]? with
   | some t=>.ok (.val t) (μ.set k (true,.lst (ts.eraseIdx i.toNat)))
   | none=>.bad) else .bad
  | _=>.bad
 | _,_=>.bad
def tG(do_ di:D):D:=λe μ=>(do_ e μ).bind λx μ1=>(R.lift (iC x μ1) μ1).bind λ_ _=>(di e μ1).bind λy μ2=>nK x y μ2
def N_:T->Option (List T)
 | .lst ts=>some ts
 | _=>none
def wX(x:Int):List Int->List Int
 | []=>[x]
 | y::r=>if y<x then y::wX x r else x::y::r
noncomputable def nV (ns : List Int) : List Int := ns.foldr wX []
theorem nc(x:Int):∀l,(wX x l).Perm (x::l)
 | []=>.refl _
 | y::r=>by
  unfold wX;split
  ·exact((nc x r).cons y).trans (.swap _ _ _)
  ·exact .refl _
theorem j0:∀ns,(nV ns).Perm ns
 | []=>.refl _
 | x::r=>(nc x _).trans ((j0 r).cons x)
theorem pL(x:Int):∀l:List Int,l.Pairwise (·≤·)->(wX x l).Pairwise (·≤·)
 | [],_=>by simp[wX]
 | y::r,h=>by
  obtain⟨h1,h2⟩:=List.pairwise_cons.mp h
  unfold wX;split
  ·refine List.pairwise_cons.mpr ⟨λz hz=>?_,pL x r h2⟩
   rcases List.mem_cons.mp ((nc x r).mem_iff.mp hz) with rfl|hz
   ·omega
   ·exact h1 z hz
  ·refine List.pairwise_cons.mpr ⟨λz hz=>?_,h⟩
   rcases List.mem_cons.mp hz with rfl|hz
   ·omega
   ·have:=h1 z hz;omega
theorem pM:∀ns,(nV ns).Pairwise (·≤·)
 | []=>.nil
 | x::r=>pL x _ (pM r)
theorem Gm{ns ns':List Int}(hp:ns'.Perm ns)(hs:ns'.Pairwise (·≤·)):ns'=nV ns :=
 List.Perm.eq_of_pairwise (λ_ _ _ _ a b=>Int.le_antisymm a b) hs (pM ns) (hp.trans (j0 ns).symm)
def mx:T->Option T
 | .lst ts=>(eO ts).bind λns=>if ns.length<64 then some (.lst ((nV ns).map T.int)) else none
 | _=>none
def pN(t u:T):Option T:=match u with
 | .lst us=>if okT 100 t=true/\okT 100 (.lst us)=true then some (.bl (!inT t us)) else none
 | _=>none
theorem C0{t:T}{us:List T}(h1:okT 100 t=true)(h2:okT 100 (.lst us)=true):pN t (.lst us)=some (.bl (!inT t us)):=if_pos ⟨h1,h2⟩
end Fw
namespace Fw
open PySem L2 PyProof.Rows
section
variable{P:Program}{w:World}{K:PySem.W.Frag}{mg:Str->Option Value}{base:Heap}
end
section
variable{X:Cx}{f:Addr}{fd:FuncData}{ps:List Str}{x:Str}{p pos:Pos}{e:Expr}{es:List Expr}{ds:List D}{fn:FN}{k:Nat}
end
section
variable{X:Cx}{pins:List (Addr×Obj)}{σ:L2.St}{H:Hp}{s:Shared}
end
end Fw
namespace L2
open PySem PySem.Spec PyProof.Rows
section
variable{prog:Program}{w:World}{A:Around}{E:Value->Shared->Prop}{s:Shared}{e C:Addr}{bm:List Value}{Q:Value->Shared->Prop}{c:Value}
end
end L2
namespace Fw
open PySem L2 PyProof.Rows
section
variable{X:Cx}{n x:Str}{C D:Addr}{np pos tp:Pos}{name:Option Str}{body tl:List Stmt}{b₀:Stmt}{rest:List ExceptHandler}{d:DS}
end
section
variable{X:Cx}{D:Addr}{T:String}{x:Str}{p p2 pos:Pos}{a:Expr}{da:Fw.D}{ns:List Str}
end
end Fw
namespace L2
open PySem PySem.Spec PySem.Calls PySem.W PyProof.Rows Builtin Builtin.ObjectAttr Builtin.Getset_descriptor
section
variable{prog:Program}{w:World}{A:Around}{E:Value->Shared->Prop}{s:Shared}{K:Frag}{x C:Addr}
end
end L2
namespace Fw
open PySem L2 PyProof.Rows
section
variable{X:Cx}{D:Addr}{Tn:String}{x:Str}{p p2 pos:Pos}{a:Expr}{da:Fw.D}{f:Str->Option Bool}
end
end Fw
namespace Fw.H
open PySem Fw
def hU(p:Int):Prop:=p∈([2,3,5,7,11,13,17,19,23,29,31,37,41,43,47,53,59,61,67,71,73,79,83,89,97]:List Int)
theorem hU.pos{p:Int}(h:hU p):2≤p/\p≤97:=by
 have key:∀p∈([2,3,5,7,11,13,17,19,23,29,31,37,41,43,47,53,59,61,67,71,73,79,83,89,97]:List Int),2≤p/\p≤97:=by decide +kernel
 exact key p h
end Fw.H
namespace Fw
open PySem PySem.Spec PyProof.Rows L2
structure Gf(K:PySem.W.Frag)(mg:Str->Option Value)(x:Str)(st:Stmt)(ps:List Str)(f:Addr)(fd:FuncData):Prop where
 F:Fun K x x st f fd
 b:Binds K fd ps []
 m:mg x=some (.ref f)
noncomputable def gs (scope so : Scope) : Scope := { scope with names := scope.names.map fun (n, k) => if (k == .free && so.kind == .function && so.names.lookup n == some .cell) then (n, .cell) else (n, k) }
def tH(N N':List Str)(scope so:Scope)(mp:List (Option Nat)):Prop :=
 scope.kind=.function/\(scope.names.filter λy=>y.2==NameKind.cell).length≤1/\(scope.names.map (·.1)).Nodup/\(∀y∈scope.names,(y.2=.local->scope.names.lookup y.1=some .local)/\(y.2=.free->(so.names.lookup y.1=some .cell∨so.names.lookup y.1=some .free) /\
  ((gs scope so).names.lookup y.1=some .cell∨(gs scope so).names.lookup y.1=some .free)))/\mp.length=N'.length /\
 ∀q∈mp.zip N',match q.1 with
  | none=>True
  | some j=>N[j]?=some q.2/\(q.2,NameKind.free)∈scope.names/\(so.names.lookup q.2=some .cell∨so.names.lookup q.2=some .free)
instance (N N':List Str) (scope so:Scope) (mp:List (Option Nat)):Decidable (tH N N' scope so mp):=by
 unfold tH
 have:∀q:Option Nat×Str,Decidable (match q.1 with
  | none=>True
  | some j=>N[j]?=some q.2/\(q.2,NameKind.free)∈scope.names/\(so.names.lookup q.2=some .cell∨so.names.lookup q.2=some .free)):=λq=>by
  cases q.1<;>infer_instance
 infer_instance
theorem kD{α:Type}{x:Str}{k:α}:∀{l:List (Str×α)},(l.map (·.1)).Nodup->(x,k)∈l->l.lookup x=some k
 | [],_,h=>by cases h
 | (y,k')::l,nd,h=>by
  have nd':=List.nodup_cons.mp (by simpa using nd:(y::l.map (·.1)).Nodup)
  rw[List.lookup_cons]
  rcases List.mem_cons.mp h with e|h
  ·cases e;simp
  ·have:(x==y)=false:=by
    have:x≠y:=λq=>nd'.1 (List.mem_map.mpr ⟨_,h,q⟩)
    simpa using this
   rw[this]
   exact kD nd'.2 h
theorem aD{X:Cx}{N':List Str}{scope:Scope}{mp:List (Option Nat)}(so:Scope)(hso:X.env.scope=so)(N:List Str)(hN:X.N=N)(h:tH N N' scope so mp):c9 X N' scope mp:=by
 subst hso
 subst hN
 obtain⟨h1,hc1,hnd,h2,h3,h4⟩:=h
 have er:(relabel scope X.env).names=(gs scope X.env.scope).names:=rfl
 refine⟨h1,hc1,hnd,λy hy=>(h2 y hy).1,λy hy hf=>((h2 y hy).2 hf).1,h3,λi j hij=>?_,λx hx=>?_,λx hx=>?_⟩
 ·have hi:i<mp.length:=(List.getElem?_eq_some_iff.mp hij).1
  have hz:(mp.zip N')[i]?=some (some j,N'[i]'(by omega)):=by
   rw[List.getElem?_zip_eq_some]
   exact⟨hij,by simp⟩
  have:=h4 _ (List.mem_of_getElem? hz)
  exact⟨_,by simp,this⟩
 ·rw[er];exact((h2 _ hx).2 rfl).2
 ·rw[er] at hx
  have mem:∀k,(gs scope X.env.scope).names.lookup x=some k->(k=.cell∨k=.free)->(x,NameKind.free)∈scope.names∨scope.names.lookup x=some .cell:=λk hk hkk=>by
   have hm:=PySem.mem_of_lookup hk
   unfold gs at hm
   obtain⟨⟨n,k'⟩,hm1,hm2⟩:=List.mem_map.mp hm
   by_cases hc:(k'==.free && X.env.scope.kind==.function && X.env.scope.names.lookup n==some .cell)=true
   ·simp only[hc,if_true] at hm2
    cases hm2
    have:k'=.free:=by
     simp only[Bool.and_eq_true,beq_iff_eq] at hc
     exact hc.1.1
    subst this
    exact .inl hm1
   ·simp only[hc,if_false] at hm2
    cases hm2
    rcases hkk with rfl|rfl
    ·exact .inr (kD hnd hm1)
    ·exact .inl hm1
  rcases hx with hx|hx
  ·exact mem _ hx (.inl rfl)
  ·exact mem _ hx (.inr rfl)
theorem pO{X0:Cx}{N' N2:List Str}{scope C1:Scope}{cl:List (Str×Addr)}{C:Addr}{s₀:Shared}{H₀:Hp}{ex:List Addr}{mp:List (Option Nat)}(so:Scope)(hso:X0.env.scope=so)(h:tH N' N2 C1 (gs scope so) mp) :
  c9 (bu X0 N' scope cl C s₀ H₀ ex) N2 C1 mp:=aD (gs scope so) (by subst hso;rfl) N' rfl h
theorem Jx{K:PySem.W.Frag}{fn:FN}{H:Hp}{a:Addr}{ns:List Int}(Jy:∀ns:List Int,ns.length≤63->∃μ',fn [.val (.lst (ns.map T.int))] []=.ok (.val (.bl true)) μ')(hl:ns.length≤63)(hS:SqL K H a (ns.map V.int))(hO:Fm H) :
  spD K fn 1 [.ref a] H (λv _=>v=.bl true) (λ_ _ _=>False):=by
 obtain⟨μ',h⟩:=Jy ns hl
 refine⟨rfl,H,[],[],_,_,μ',⟨aI.refl _,rfl,List.nodup_nil,λk a h=>by simp at h,λk b t a h=>by simp at h,λb xs q=>by rcases hO b with z|⟨_,_,z⟩<;>(rw[z] at q;cases q)⟩,.cons ?_ .nil,h,λv H' F' α' _ _ o=>Rep.gK (K:=K) (F:=F') o⟩
 show Rep K H (.lst (ns.map T.int)) (.ref a)
 rw[Rep]
 exact⟨a,_,rfl,hS,aA.oE ns⟩
section
variable{K:PySem.W.Frag}
theorem Now.iJ{F H:Hp}{v:V}{ts:List T}(h:Now K F H v (.lst ts)):∃a vs,v=.ref a/\SqL K H a vs/\aA K F ts vs:=h
theorem Now.pP{F H:Hp}{v:V}{ts:List T}(h:Now K F H v (.tup ts)):∃a vs,v=.ref a/\SqT K F a vs/\aA K F ts vs:=h
theorem jt{r:R2}{f:T->T->Option T}(g:Int->Int->T)(gV:Int->Int->V)(C:Int->Int->Prop)(hr:∀i j H Q,C i j->Q (gV i j) H->r (.int i) (.int j) H Q)
  (hf:∀t u w,f t u=some w->∃i j,t=.int i/\u=.int j/\w=g i j/\C i j) (hg:∀F i j,Rep K F (g i j) (gV i j)):du K r f:=by
 intro F H v u t t' w Q s hv hu hw q
 obtain⟨i,j,rfl,rfl,rfl,hc⟩:=hf _ _ _ hw
 cases hv.int
 cases hu.int
 exact hr i j H Q hc (q _ H F bt.refl (hg F i j))
theorem Gn:du K (rI0 λi j=>.int (i-j)) o7:=jt (λi j=>.int (i-j)) (λi j=>.int (i-j)) (λ_ _=>True) (λi j H Q _ q=>⟨i,j,rfl,rfl,q⟩)
 (λt u w h=>by cases t<;>cases u<;>first|(cases h;exact⟨_,_,rfl,rfl,rfl,trivial⟩)|cases h) λF i j=>Rep.fS _
theorem Gp:du K (rI (λ_ j=>0<j) λi j=>.int (i%j)) bg:=jt (λi j=>.int (i%j)) (λi j=>.int (i%j)) (λ_ j=>0<j) (λi j H Q c q=>⟨i,j,rfl,rfl,c,q⟩)
 (λt u w h=>by
  cases t<;>cases u<;>first|cases h|skip
  rename_i i j
  by_cases hj:0<j
  ·have h:(if 0<j then some (T.int (i%j)) else none)=some w:=h
   rw[if_pos hj] at h
   cases h
   exact⟨_,_,rfl,rfl,rfl,hj⟩
  ·have h:(if 0<j then some (T.int (i%j)) else none)=some w:=h
   rw[if_neg hj] at h;cases h) λF i j=>Rep.fS _
theorem Gq:du K (rI IC λi j=>.int (i / j)) kN:=jt (λi j=>.int (i / j)) (λi j=>.int (i / j)) IC (λi j H Q c q=>⟨i,j,rfl,rfl,c,q⟩)
 (λt u w h=>by
  cases t<;>cases u<;>first|cases h|skip
  rename_i i j
  have h:(if 0<j/\j<1073741824 then some (T.int (i / j)) else none)=some w:=h
  by_cases hj:0<j/\j<1073741824
  ·rw[if_pos hj] at h
   cases h
   exact⟨_,_,rfl,rfl,rfl,hj⟩
  ·rw[if_neg hj] at h;cases h) λF i j=>Rep.fS _
theorem C2:du K (rI0 λi j=>.bl (decide (i<j))) fLt:=jt (λi j=>.bl (decide (i<j))) (λi j=>.bl (decide (i<j))) (λ_ _=>True) (λi j H Q _ q=>⟨i,j,rfl,rfl,q⟩)
 (λt u w h=>by cases t<;>cases u<;>first|(cases h;exact⟨_,_,rfl,rfl,rfl,trivial⟩)|cases h) λF i j=>Rep.bl' _
theorem Jz:du K (rI0 λi j=>.bl (decide (i≤j))) fLe:=jt (λi j=>.bl (decide (i≤j))) (λi j=>.bl (decide (i≤j))) (λ_ _=>True) (λi j H Q _ q=>⟨i,j,rfl,rfl,q⟩)
 (λt u w h=>by cases t<;>cases u<;>first|(cases h;exact⟨_,_,rfl,rfl,rfl,trivial⟩)|cases h) λF i j=>Rep.bl' _
theorem JA:du K (rI0 λi j=>.bl (decide (j<i))) fGt:=jt (λi j=>.bl (decide (j<i))) (λi j=>.bl (decide (j<i))) (λ_ _=>True) (λi j H Q _ q=>⟨i,j,rfl,rfl,q⟩)
 (λt u w h=>by cases t<;>cases u<;>first|(cases h;exact⟨_,_,rfl,rfl,rfl,trivial⟩)|cases h) λF i j=>Rep.bl' _
theorem C3:du K (rI0 λi j=>.bl (decide (j≤i))) fGe:=jt (λi j=>.bl (decide (j≤i))) (λi j=>.bl (decide (j≤i))) (λ_ _=>True) (λi j H Q _ q=>⟨i,j,rfl,rfl,q⟩)
 (λt u w h=>by cases t<;>cases u<;>first|(cases h;exact⟨_,_,rfl,rfl,rfl,trivial⟩)|cases h) λF i j=>Rep.bl' _
end
section
variable{X:Cx}{a b c:Expr}{da db dc:D}{pos p p2:Pos}
theorem tI(ha:CE X a da)(hb:CE X b db):CE X (.BinOp a .Sub b pos) (ah o7 da db):=pA IE Gn ha hb
theorem bO(ha:CE X a da)(hb:CE X b db):CE X (.BinOp a .Mod b pos) (ah bg da db):=pA IG Gp ha hb
theorem pQ(ha:CE X a da)(hb:CE X b db):CE X (.BinOp a .FloorDiv b pos) (ah kN da db):=pA E5 Gq ha hb
theorem Ma(ha:CE X a da)(hb:CE X b db):CE X (.Compare a [.GtE] [b] pos) (ah fGe da db):=Cs HA C3 (ix _) ha hb
theorem Mb(ha:CE X a da)(hb:CE X b db):CT X (.Compare a [.Lt] [b] pos) (ah fLt da db):=jo Hz C2 (ix _) ha hb
theorem vb(ha:CE X a da)(hb:CE X b db):CT X (.Compare a [.Gt] [b] pos) (ah fGt da db):=jo Lu JA (ix _) ha hb
theorem Mc(ha:CE X a da)(hb:CE X b db):CT X (.Compare a [.GtE] [b] pos) (ah fGe da db):=jo HA C3 (ix _) ha hb
theorem JB(ha:CE X a da):CE X (.UnaryOp .USub a pos) (dUn Fx da):=LX IH (by
 intro F H v t w Q s hv hw q
 cases t<;>first|cases hw|skip
 cases hv.int
 exact⟨_,rfl,q _ H F bt.refl (Rep.fS _)⟩) ha
end
end Fw
namespace L2
open PySem PySem.Spec PyProof.Rows
section
variable{X:Cx}
def C4(K:PySem.W.Frag):R2:=λx y H Q=>∃a b xs ys,x=.ref a/\y=.ref b/\SqT K H a xs/\SqT K H b ys/\xs.length+ys.length≤sizeLine /\
 (xs=[]->Q (.ref b) H)/\(xs≠[]->ys=[]->Q (.ref a) H)/\(xs≠[]->ys≠[]->∀p,H p=none->Q (.ref p) (upd H p (.tup (xs++ys))))
theorem C5:OpR X (binaryOp .Add) (C4 X.K):=by
 intro pins s σ H x y v u Q I rx ry h
 obtain⟨a,b,xs,ys,hx0,hy0,ha,hb,hz,q0,q1,q2⟩:=h
 by_cases hx:xs=[]
 ·subst hx0;subst hy0
  cases rx
  cases ry
  obtain⟨its,r1,p1,_⟩:=I.tuple ha
  obtain⟨g8,r2,p2,_⟩:=I.tuple hb
  obtain⟨⟨cls,dd,data,sl⟩,ho,hc,n,hd⟩:=id p1
  obtain⟨⟨Lz,dd2,data2,sl2⟩,ho2,hc2,n2,hd2⟩:=id p2
  simp only at hc hd hc2 hd2
  subst hc hd hc2 hd2
  have e:its=[]:=r1.oy.mpr hx
  exact concat_meets ⟨_,ho,rfl⟩ ⟨_,ho2,rfl⟩ noFill_tuple_add seq_tuple_add PySem.F.slot_tuple_add PySem.F.entry_tuple_add (PySem.F.args_tuple_add_2 _ _)
   (tuple_addW0 a b its.toArray g8.toArray n n2 dd dd2 sl sl2 (by simp[e])) ⟨ho,ho2,.ref b,H,I,rfl,q0 hx⟩
 ·exact Fc pins s σ H x y v u Q I rx ry ⟨a,b,xs,ys,hx0,hy0,ha,hb,hx,hz,q1 hx,q2 hx⟩
def HF(K:PySem.W.Frag):R2:=λx y H Q=>∃l b xs zs,x=.ref l/\y=.ref b/\SqL K H l xs/\SqL K H b zs/\xs.length+zs.length≤sizeLine/\∀p,H p=none->Q (.ref p) (upd H p (.lst (xs++zs)))
theorem Gr:OpR X (binaryOp .Add) (HF X.K):=by
 intro pins s σ H x y v u Q I rx ry h
 obtain⟨l,b,xs,zs,rfl,rfl,hA,hB,hz,q⟩:=h
 cases rx
 cases ry
 obtain⟨its,r,p1,_⟩:=I.list hA
 obtain⟨g8,r2,p2,_⟩:=I.list hB
 obtain⟨⟨cls,dd,data,sl⟩,ho,hc,n,hd⟩:=id p1.isList
 obtain⟨⟨Lz,dd2,data2,sl2⟩,ho2,hc2,n2,hd2⟩:=id p2.isList
 simp only at hc hd hc2 hd2
 subst hc hd hc2 hd2
 have hl:=r.length
 have hl2:=r2.length
 have e:its.toArray++g8.toArray=(its++g8).toArray:=by simp
 refine concat_meets ⟨_,ho,rfl⟩ ⟨_,ho2,rfl⟩ noFill_list_add seq_list_add PySem.F.slot_list_add PySem.F.entry_list_add (PySem.F.args_list_add_2 _ _)
  (list_addW l b its.toArray g8.toArray n n2 dd dd2 sl sl2 (by rw[List.size_toArray,List.size_toArray];lia)) ⟨ho,ho2,?_⟩
 rw[e]
 exact⟨.ref _,_,I.IW (t':=s.toks) (r.append r2) (by rw[List.length_append];lia),rfl,q _ I.fresh⟩
end
end L2
namespace Fw
open PySem PySem.Spec PyProof.Rows L2
section
variable{K:PySem.W.Frag}
theorem ng:szL=sizeLine:=rfl
theorem aA.nil_of{F:Hp}{ts:List T}{vs:List V}(h:aA K F ts vs)(e:vs=[]):ts=[]:=by
 have:=h.length
 subst e
 exact List.length_eq_zero_iff.mp (by simpa using this)
theorem oG{F H:Hp}{ts:List T}{vs:List V}{Q:VK}{p:Addr}(s:aI F H)(hp:H p=none)(r:aA K F ts vs)(q:∀v' H' F',bt F H F' H'->Rep K F' (.lst ts) v'->Q v' H'):Q (.ref p) (upd H p (.lst vs)):=by
 have g:bt F H (upd F p (.lst vs)) (upd H p (.lst vs)):=bt.new hp
 refine q _ _ _ g ?_
 rw[Rep]
 exact⟨p,vs,rfl,SqL.of az,aA.mono (g.same s) _ _ r⟩
theorem oH{F H:Hp}{ts:List T}{vs:List V}{Q:VK}{p:Addr}(s:aI F H)(hp:H p=none)(r:aA K F ts vs)(q:∀v' H' F',bt F H F' H'->Rep K F' (.tup ts) v'->Q v' H'):Q (.ref p) (upd H p (.tup vs)):=by
 have g:bt F H (upd F p (.tup vs)) (upd H p (.tup vs)):=bt.new hp
 refine q _ _ _ g ?_
 rw[Rep]
 exact⟨p,vs,rfl,SqT.of az,aA.mono (g.same s) _ _ r⟩
theorem tJ{F:Hp}{a:Addr}{ts:List T}{vs:List V}(h:SqT K F a vs)(r:aA K F ts vs):Rep K F (.tup ts) (.ref a):=by
 rw[Rep];exact⟨a,vs,rfl,h,r⟩
theorem Gs:du K (λx y H Q=>(rI0 λi j=>.int (i+j)) x y H Q∨(λx y H Q=>∃i j,x=.str i/\y=.str j/\i.length+j.length≤sizeLine/\Q (.str (i++j)) H) x y H Q∨C4 K x y H Q∨HF K x y H Q) bx:=by
 intro F H v u t t' w Q s hv hu hw q
 cases t with
 | int i =>
  cases t' with
  | int j =>
   cases hw
   cases hv.int
   cases hu.int
   exact .inl ⟨i,j,rfl,rfl,q _ H F bt.refl (Rep.fS _)⟩
  | _=>cases hw
 | str i =>
  cases t' with
  | str j =>
   have hw:(if i.length+j.length≤szL then some (T.str (i++j)) else none)=some w:=hw
   by_cases hz:i.length+j.length≤szL
   ·rw[if_pos hz] at hw
    cases hw
    cases hv.str
    cases hu.str
    exact .inr (.inl ⟨i,j,rfl,rfl,hz,q _ H F bt.refl (Rep.FU _)⟩)
   ·rw[if_neg hz] at hw;cases hw
  | _=>cases hw
 | tup xs =>
  cases t' with
  | tup ys =>
   have hw:(if xs.length+ys.length≤szL then some (T.tup (xs++ys)) else none)=some w:=hw
   by_cases hz:xs.length+ys.length≤szL
   ·rw[if_pos hz] at hw
    cases hw
    obtain⟨a,vs,rfl,ha,ra⟩:=hv.pP
    obtain⟨b,us,rfl,hb,rb⟩:=hu.pP
    refine .inr (.inr (.inl ⟨a,b,vs,us,rfl,rfl,aI.fm s ha,aI.fm s hb,?_,λe=>?_,λe e2=>?_,λe e2 p hp=>?_⟩))
    ·have:=ra.length;have:=rb.length;rw[ng] at hz;lia
    ·refine q _ H F bt.refl ?_
     rw[ra.nil_of e,List.nil_append]
     exact tJ hb rb
    ·refine q _ H F bt.refl ?_
     rw[rb.nil_of e2,List.append_nil]
     exact tJ ha ra
    ·exact oH s hp (ra.append rb) q
   ·rw[if_neg hz] at hw;cases hw
  | _=>cases hw
 | lst xs =>
  cases t' with
  | lst ys =>
   have hw:(if xs.length+ys.length≤szL then some (T.lst (xs++ys)) else none)=some w:=hw
   by_cases hz:xs.length+ys.length≤szL
   ·rw[if_pos hz] at hw
    cases hw
    obtain⟨a,vs,rfl,ha,ra⟩:=hv.iJ
    obtain⟨b,us,rfl,hb,rb⟩:=hu.iJ
    exact .inr (.inr (.inr ⟨a,b,vs,us,rfl,rfl,ha,hb,by have:=ra.length;have:=rb.length;rw[ng] at hz;lia,λp hp=>oG s hp (ra.append rb) q⟩))
   ·rw[if_neg hz] at hw;cases hw
  | _=>cases hw
 | _=>cases hw
end
section
variable{X:Cx}{a b c:Expr}{da db dc:D}{pos p p2:Pos}
theorem b6(ha:CE X a da)(hb:CE X b db):CE X (.BinOp a .Add b pos) (ah bx da db):=pA (ID.or (wk.or (C5.or Gr))) Gs ha hb
end
section
variable{K:PySem.W.Frag}
theorem Gu:du K (rI BN λi j=>.int (i*j)) aG:=jt (λi j=>.int (i*j)) (λi j=>.int (i*j)) BN (λi j H Q c q=>⟨i,j,rfl,rfl,c,q⟩)
 (λt u w h=>by
  unfold aG at h
  cases t<;>cases u<;>first|cases h|skip
  rename_i i j
  have h:(if (-(2 ^ 64)<i/\i<2 ^ 64)∨(-(2 ^ 64)<j/\j<2 ^ 64) then some (T.int (i*j)) else none)=some w:=h
  by_cases hj:(-(2 ^ 64)<i/\i<2 ^ 64)∨(-(2 ^ 64)<j/\j<2 ^ 64)
  ·rw[if_pos hj] at h
   cases h
   exact⟨_,_,rfl,rfl,rfl,hj⟩
  ·rw[if_neg hj] at h;cases h) λF i j=>Rep.fS _
theorem aA.atI{F:Hp}{ts:List T}{vs:List V}{i:Int}{t:T}(h:aA K F ts vs)(e:Fw.atI ts i=some t):∃v,L2.atI vs i=some v/\Rep K F t v:=by
 have hl:=h.length
 unfold Fw.atI at e
 obtain⟨j,h1,h2⟩:=Option.bind_eq_some_iff.mp e
 obtain⟨v,hv,rv⟩:=h.get h2
 refine⟨v,?_,rv⟩
 unfold L2.atI
 have:L2.ixN vs.length i=some j:=by rw[← hl];exact h1
 rw[this]
 exact hv
theorem Paired.atI{α β:Type}{P:α->β->Prop}{xs:List α}{ys:List β}{i:Int}{y:β}(h:Paired P xs ys)(e:Fw.atI ys i=some y):∃x,L2.atI xs i=some x/\P x y:=by
 have hl:=h.length
 unfold Fw.atI at e
 obtain⟨j,h1,h2⟩:=Option.bind_eq_some_iff.mp e
 have get:∀{xs:List α}{ys:List β}{j:Nat}{y:β},Paired P xs ys->ys[j]?=some y->∃x,xs[j]?=some x/\P x y:=by
  intro xs ys j y o
  induction o generalizing j with
  | nil=>intro e;simp at e
  | cons r _ ih =>
   intro e
   cases j with
   | zero=>simp at e;subst e;exact⟨_,rfl,r⟩
   | succ j =>
    obtain⟨v,h1,h2⟩:=ih (j:=j) (by simpa using e)
    exact⟨v,by simpa using h1,h2⟩
 obtain⟨v,hv,rv⟩:=get h h2
 refine⟨v,?_,rv⟩
 unfold L2.atI
 have:L2.ixN xs.length i=some j:=by rw[hl];exact h1
 rw[this]
 exact hv
end
section
variable{X:Cx}{a b c:Expr}{da db dc:D}{pos p p2:Pos}
theorem b7(ha:CE X a da)(hb:CE X b db):CE X (.BinOp a .Mult b pos) (ah aG da db):=pA IF Gu ha hb
theorem ay(ha:CE X a da)(hb:CE X b db)(hp:yr b:=by intro _ _;rfl):CE X (.Subscript a b pos) (ao da db) :=
 PE.imp (LD IQ ha hb hp) λσ H Q aj=>by
  obtain⟨F,α,e,μ,S,h⟩:=aj
  refine⟨F,α,e,μ,S,?_⟩
  refine(R.wp_bind h).mono (λx μ1 h v H1 F1 α1 x1 S1 o1=>⟨F1,α1,e,μ1,S1,?_⟩) λ_ _ h=>h
  refine(R.wp_bind h).mono (λy μ2 h v2 H2 F2 α2 x2 S2 o2=>?_) λ_ _ h=>h.mono x1
  obtain⟨w,h9,post⟩:=R.aY h
  obtain⟨u,hu,h⟩:=Option.bind_eq_some_iff.mp h9
  have nu:=aO S2.st o2 hu
  have fin:∀{v'},eL X.K F2 α2 v' w->Q v' H2:=λ{v'} o=>post v' H2 F2 α2 (x1.trans x2) S2 o
  have o1':=o1.mono x2.same x2.pre
  have gen:∀t,rd μ2 x=some t->ap1 (λt=>FH t u) (some t)=some w->rIx X.K v v2 H2 Q:=λt hr h=>by
   obtain⟨t',w',e1,h,rfl⟩:=iz h
   cases e1
   have nt:=aO S2.st o1' hr
   cases t with
   | lst ts =>
    cases u with
    | int i =>
     cases nu.int
     obtain⟨a,vs,rfl,hq,hl⟩:=nt.iJ
     obtain⟨v',g1,g2⟩:=hl.atI h
     exact .inl ⟨a,vs,i,v',rfl,rfl,hq,g1,fin g2⟩
    | _=>cases h
   | tup ts =>
    cases u with
    | int i =>
     cases nu.int
     obtain⟨a,vs,rfl,hq,hl⟩:=nt.pP
     obtain⟨v',g1,g2⟩:=hl.atI h
     exact .inr (.inl ⟨a,vs,i,v',rfl,rfl,aI.fm S2.st.ext hq,g1,fin g2⟩)
    | _=>cases h
   | str z =>
    cases u with
    | int i =>
     cases nu.int
     cases nt.str
     have h:(if z.length≤szL then (Fw.atI z.cps.toList i).map λc=>T.str ⟨#[c]⟩ else none)=some w':=h
     by_cases hz:z.length≤szL
     ·rw[if_pos hz] at h
      obtain⟨ch,g1,rfl⟩:=Option.map_eq_some_iff.mp h
      exact .inr (.inr ⟨z,i,ch,rfl,rfl,hz,g1,fin (Rep.FU (K:=X.K) (F:=F2) _)⟩)
     ·rw[if_neg hz] at h;cases h
    | _=>cases h
   | _=>cases u<;>cases h
  cases x with
  | val t=>exact gen t rfl (by unfold eg at h;exact h)
  | cel k =>
   cases q:rd μ2 (.cel k) with
   | none=>unfold eg at h;simp only at h;rw[q] at h;cases h
   | some t=>exact gen t q (by unfold eg at h;simp only at h;rw[q] at h;exact h)
  | box xs =>
   cases u with
   | int i =>
    cases nu.int
    obtain⟨y',h1,rfl⟩:=Option.map_eq_some_iff.mp (show(Fw.atI xs i).map pick=some w from h)
    obtain⟨a,vs,rfl,hq,hp⟩:=o1'
    obtain⟨v',g1,g2⟩:=Paired.atI hp h1
    refine .inr (.inl ⟨a,vs,i,v',rfl,rfl,aI.fm S2.st.ext hq,g1,fin ?_⟩)
    cases y' with
    | inl t=>exact g2
    | inr k=>exact g2
   | _=>cases h
  | lbx xs =>
   cases u with
   | int i =>
    cases nu.int
    obtain⟨y',h1,rfl⟩:=Option.map_eq_some_iff.mp (show(Fw.atI xs i).map pick=some w from h)
    obtain⟨a,vs,rfl,hq,hp⟩:=o1'
    obtain⟨v',g1,g2⟩:=Paired.atI hp h1
    refine .inl ⟨a,vs,i,v',rfl,rfl,aI.seq S2.st.ext hq,g1,fin ?_⟩
    cases y' with
    | inl t=>exact g2
    | inr k=>exact g2
   | _=>cases h
theorem eD(hm:X.mg "len"=none)(ha:CE X a da)(hg:Gl X "len":=by rfl)(hs1:starEach [a] X.env=(false,eval a X.env)::starEach [] X.env:=by rfl)(hpl:(backTo pos (starEach [] X.env)).any (·.1)=false:=by rfl) :
  CE X (.Call (.Name "len" p) [a] [] pos) (cS da) :=
 PE.imp (l4 (sH.or (sI.or Af)) hg hm PySem.boot_len (ag ha aw hs1) (by decide) (by decide) hs1 hpl) λσ H Q aj=>by
  obtain⟨F,α,e,μ,S,h⟩:=aj
  refine kC ⟨F,α,e,μ,S,(R.wp_bind h).mono (λx μ1 h v H1 F1 α1 x1 S1 o1=>?_) λ_ _ h=>h⟩
  obtain⟨w,h9,post⟩:=R.aY h
  obtain⟨w',h,rfl⟩:=Option.map_eq_some_iff.mp h9
  have fin:∀{v'},Rep X.K F1 w' v'->Q v' H1:=λ{v'} o=>post v' H1 F1 α1 x1 S1 o
  have gen:∀t,rd μ1 x=some t->FI t=some w'->(∃p ys,[v]=[V.ref p]/\(SqL X.K H1 p ys∨SqT X.K H1 p ys)/\Q (.int ys.length) H1)∨(∃z,[v]=[V.str z]/\z.length≤sizeLine/\Q (.int z.length) H1) ∨
    ∃d kvs,[v]=[V.ref d]/\H1 d=some (.dK kvs)/\Q (.int kvs.length) H1:=λt hr h=>by
   have nt:=aO S1.st o1 hr
   cases t with
   | lst ts =>
    cases h
    obtain⟨a,vs,rfl,hq,hl⟩:=nt.iJ
    exact .inl ⟨a,vs,rfl,.inl hq,fin (by rw[hl.length];exact Rep.fS _)⟩
   | tup ts =>
    cases h
    obtain⟨a,vs,rfl,hq,hl⟩:=nt.pP
    exact .inl ⟨a,vs,rfl,.inr (aI.fm S1.st.ext hq),fin (by rw[hl.length];exact Rep.fS _)⟩
   | str z =>
    cases nt.str
    have h:(if z.length≤szL then some (T.int z.length) else none)=some w':=h
    by_cases hz:z.length≤szL
    ·rw[if_pos hz] at h
     cases h
     exact .inr (.inl ⟨z,rfl,hz,fin (Rep.fS _)⟩)
    ·rw[if_neg hz] at h;cases h
   | dct kts =>
    cases h
    obtain⟨a,kvs,rfl,hq,hl⟩:=nt
    exact .inr (.inr ⟨a,kvs,rfl,hq,fin (by rw[hl.length];exact Rep.fS _)⟩)
   | _=>cases h
  cases x with
  | val t=>exact gen t rfl (by unfold nT at h;exact h)
  | cel k =>
   cases q:rd μ1 (.cel k) with
   | none=>unfold nT at h;simp only at h;rw[q] at h;cases h
   | some t=>exact gen t q (by unfold nT at h;simp only at h;rw[q] at h;exact h)
  | box xs =>
   cases h
   obtain⟨a,vs,rfl,hq,hp⟩:=o1
   exact .inl ⟨a,vs,rfl,.inr (aI.fm S1.st.ext hq),fin (by rw[hp.length];exact Rep.fS _)⟩
  | lbx xs=>cases h
end
end Fw
set_option maxHeartbeats 4000000
namespace Fw
open PySem PySem.Spec PyProof.Rows L2
mutual
def toPy:T->PyData
 | .non=>.none
 | .bl b=>.bool b
 | .int i=>.int i
 | .str x=>.str x
 | .lst ts=>.list (toPys ts)
 | .tup ts=>.tuple (toPys ts)
 | .dct _=>.dict []
 | .exc _ _=>.dict []
 | .dtt _ _=>.dict []
def toPys:List T->List PyData
 | []=>[]
 | t::ts=>toPy t::toPys ts
end
mutual
theorem k8:∀(n:Nat) (t:T),okT n t=true->(toPy t).canLay0=true/\(toPy t).depth≤n
 | n,.non,_=>⟨by rw[toPy,PyData.canLay0],by rw[toPy,PyData.depth];exact Nat.zero_le _⟩
 | n,.bl _,_=>⟨by rw[toPy,PyData.canLay0],by rw[toPy,PyData.depth];exact Nat.zero_le _⟩
 | n,.int _,_=>⟨by rw[toPy,PyData.canLay0],by rw[toPy,PyData.depth];exact Nat.zero_le _⟩
 | n,.str x,h=>by
  unfold okT at h
  exact⟨by rw[toPy,PyData.canLay0];exact h,by rw[toPy,PyData.depth];exact Nat.zero_le _⟩
 | 0,.lst ts,h=>by rw[okT] at h;cases h
 | n+1,.lst ts,h=>by
  rw[okT] at h
  obtain⟨h1,h2⟩:=tK n ts h
  exact⟨by rw[toPy,PyData.canLay0];exact h1,by rw[toPy,PyData.depth];lia⟩
 | 0,.tup ts,h=>by rw[okT] at h;cases h
 | n+1,.tup ts,h=>by
  rw[okT] at h
  obtain⟨h1,h2⟩:=tK n ts h
  exact⟨by rw[toPy,PyData.canLay0];exact h1,by rw[toPy,PyData.depth];lia⟩
 | n,.dct _,h=>by unfold okT at h;cases h
 | n,.exc _ _,h=>by unfold okT at h;cases h
 | n,.dtt _ _,h=>by unfold okT at h;cases h
theorem tK:∀(n:Nat) (ts:List T),eA n ts=true->PyData.canLayAll0 (toPys ts)=true/\PyData.depthAll (toPys ts)≤n
 | n,[],_=>⟨by rw[toPys,PyData.canLayAll0],by rw[toPys,PyData.depthAll];exact Nat.zero_le _⟩
 | n,t::ts,h=>by
  rw[eA,Bool.and_eq_true] at h
  obtain⟨h1,h2⟩:=k8 n t h.1
  obtain⟨h3,h4⟩:=tK n ts h.2
  exact⟨by rw[toPys,PyData.canLayAll0,h1,h3];rfl,by rw[toPys,PyData.depthAll];lia⟩
end
mutual
theorem tL:∀(n:Nat) (t u:T),okT n t=true->okT n u=true->PyData.eqv (toPy t) (toPy u)=eqT t u
 | n,.non,u,_,h=>by cases u<;>first|(simp[toPy,eqT,PyData.eqv];done)|(unfold okT at h;cases h)
 | n,.bl a,u,_,h=>by cases u<;>first|(simp[toPy,eqT,PyData.eqv];done)|(unfold okT at h;cases h)
 | n,.int a,u,_,h=>by cases u<;>first|(simp[toPy,eqT,PyData.eqv];done)|(unfold okT at h;cases h)
 | n,.str a,u,_,h=>by cases u<;>first|(simp[toPy,eqT,PyData.eqv];done)|(unfold okT at h;cases h)
 | 0,.lst a,u,h,_=>by rw[okT] at h;cases h
 | n+1,.lst a,u,h1,h=>by
  cases u with
  | lst b=>rw[toPy,toPy,eqT,PyData.eqv];rw[okT] at h1 h;exact tM n a b h1 h
  | dct _=>unfold okT at h;cases h
  | exc _ _=>unfold okT at h;cases h
  | dtt _ _=>unfold okT at h;cases h
  | _=>simp[toPy,eqT,PyData.eqv]
 | 0,.tup a,u,h,_=>by rw[okT] at h;cases h
 | n+1,.tup a,u,h1,h=>by
  cases u with
  | tup b=>rw[toPy,toPy,eqT,PyData.eqv];rw[okT] at h1 h;exact tM n a b h1 h
  | dct _=>unfold okT at h;cases h
  | exc _ _=>unfold okT at h;cases h
  | dtt _ _=>unfold okT at h;cases h
  | _=>simp[toPy,eqT,PyData.eqv]
 | n,.dct _,u,h,_=>by unfold okT at h;cases h
 | n,.exc _ _,u,h,_=>by unfold okT at h;cases h
 | n,.dtt _ _,u,h,_=>by unfold okT at h;cases h
theorem tM:∀(n:Nat) (ts us:List T),eA n ts=true->eA n us=true->PyData.eqvAll (toPys ts) (toPys us)=g_ ts us
 | n,[],[],_,_=>by rw[toPys,PyData.eqvAll,g_]
 | n,[],u::us,_,_=>by rw[toPys,toPys,PyData.eqvAll,g_]
 | n,t::ts,[],_,_=>by rw[toPys,toPys,PyData.eqvAll,g_]
 | n,t::ts,u::us,h1,h2=>by
  rw[eA,Bool.and_eq_true] at h1 h2
  rw[toPys,toPys,PyData.eqvAll,g_,tL n t u h1.1 h2.1,tM n ts us h1.2 h2.2]
end
section
variable{X:Cx}{pins:List (Addr×Obj)}{σ:L2.St}{H:Hp}{s:Shared}
mutual
theorem gu(I:Inv X pins σ H s):∀(n:Nat) (t:T) (v:V) (u:Value),Rep X.K H t v->RelV v u->okT n t=true->∃as,Reads s.heap u (toPy t) as
 | n,.non,v,u,h,r,_=>by cases h.iD;cases r;rw[toPy];exact⟨_,.none⟩
 | n,.bl b,v,u,h,r,_=>by cases h.gK;cases r;rw[toPy];exact⟨_,.bool b⟩
 | n,.int i,v,u,h,r,_=>by cases h.jl;obtain⟨t,rfl⟩:=r;rw[toPy];exact⟨_,.int i t⟩
 | n,.str i,v,u,h,r,_=>by cases h.kS;obtain⟨t,rfl⟩:=r;rw[toPy];exact⟨_,.str i t⟩
 | 0,.lst ts,v,u,h,r,ok=>by rw[okT] at ok;cases ok
 | n+1,.lst ts,v,u,h,r,ok=>by
  rw[Rep] at h
  rw[okT] at ok
  obtain⟨a,vs,rfl,hq,hl⟩:=h
  cases r
  obtain⟨its,rv,pl,_⟩:=I.list hq
  obtain⟨o,ho,hc,m,hd⟩:=pl.isList
  obtain⟨as,ra⟩:=ju I n ts vs its hl rv ok
  rw[toPy]
  exact⟨_,.list ho hc hd (by simpa using ra)⟩
 | 0,.tup ts,v,u,h,r,ok=>by rw[okT] at ok;cases ok
 | n+1,.tup ts,v,u,h,r,ok=>by
  rw[Rep] at h
  rw[okT] at ok
  obtain⟨a,vs,rfl,hq,hl⟩:=h
  cases r
  obtain⟨its,rv,pl,_⟩:=I.tuple hq
  obtain⟨o,ho,hc,m,hd⟩:=pl
  obtain⟨as,ra⟩:=ju I n ts vs its hl rv ok
  rw[toPy]
  exact⟨_,.tuple ho hc hd (by simpa using ra)⟩
 | n,.dct _,v,u,h,r,ok=>by unfold okT at ok;cases ok
 | n,.exc _ _,v,u,h,r,ok=>by unfold okT at ok;cases ok
 | n,.dtt _ _,v,u,h,r,ok=>by unfold okT at ok;cases ok
theorem ju(I:Inv X pins σ H s):∀(n:Nat) (ts:List T) (vs:List V) (us:List Value),aA X.K H ts vs->Vals vs us->eA n ts=true->∃as,ReadsAll s.heap us (toPys ts) as
 | n,[],vs,us,h,r,_=>by
  rw[aA] at h;subst h;cases r
  rw[toPys];exact⟨_,.nil⟩
 | n,t::ts,vs,us,h,r,ok=>by
  rw[aA] at h
  obtain⟨v,vs',rfl,q,hl⟩:=h
  rw[eA,Bool.and_eq_true] at ok
  cases r with
  | cons r1 r2 =>
   obtain⟨as,ra⟩:=gu I n t v _ q r1 ok.1
   obtain⟨bs,rb⟩:=ju I n ts vs' _ hl r2 ok.2
   rw[toPys]
   exact⟨_,.cons ra rb⟩
end
end
theorem Now.rep{K:PySem.W.Frag}{F H:Hp}{v:V}{t:T}(s:aI F H)(h:Now K F H v t)(hx:(∀c n,t≠.exc c n)/\∀f k,t≠.dtt f k):Rep K H t v:=by
 cases t with
 | lst ts=>rw[Rep];obtain⟨a,vs,e,q,r⟩:=h;exact⟨a,vs,e,q,aA.mono s _ _ r⟩
 | tup ts=>rw[Rep];obtain⟨a,vs,e,q,r⟩:=h;exact⟨a,vs,e,aI.fm s q,aA.mono s _ _ r⟩
 | dct ts=>rw[Rep];obtain⟨a,vs,e,q,r⟩:=h;exact⟨a,vs,e,q,bj.mono s _ _ r⟩
 | dtt fz ts=>rw[Rep];exact absurd rfl (hx.2 fz ts)
 | exc c n=>exact absurd rfl (hx.1 c n)
 | _=>exact Rep.mono s _ _ h
def C6(K:PySem.W.Frag)(neg:Bool):R2:=λx y H Q=>∃t u,Rep K H t x/\Rep K H u y/\okT 100 t=true/\okT 100 u=true/\Q (.bl (if neg then !eqT t u else eqT t u)) H
section
variable{X:Cx}{a b c:Expr}{da db dc:D}{pos p p2:Pos}{k:Nat}
theorem wY(hr:cz k X.A):OpR X (compareOp .Eq) (C6 X.K false):=by
 intro pins s σ H x y v u Q I rx ry h
 obtain⟨t,t',h1,h2,o1,o2,q⟩:=h
 obtain⟨as,r1⟩:=gu I 100 t x v h1 rx o1
 obtain⟨bs,r2⟩:=gu I 100 t' y u h2 ry o2
 obtain⟨c1,d1⟩:=k8 100 t o1
 obtain⟨c2,d2⟩:=k8 100 t' o2
 refine SeqAt.compareEq_reads r1 r2 c1 c2 (by have:=hr.un;lia) ⟨.bl _,H,I,rfl,?_⟩
 rw[tL 100 t t' o1 o2]
 exact q
theorem JC(hr:cz k X.A):OpR X (compareOp .NotEq) (C6 X.K true):=by
 intro pins s σ H x y v u Q I rx ry h
 obtain⟨t,t',h1,h2,o1,o2,q⟩:=h
 obtain⟨as,r1⟩:=gu I 100 t x v h1 rx o1
 obtain⟨bs,r2⟩:=gu I 100 t' y u h2 ry o2
 obtain⟨c1,d1⟩:=k8 100 t o1
 obtain⟨c2,d2⟩:=k8 100 t' o2
 refine SeqAt.compareNe_reads r1 r2 c1 c2 (by have:=hr.un;lia) ⟨.bl _,H,I,rfl,?_⟩
 rw[tL 100 t t' o1 o2]
 exact q
theorem eE{n:Nat}{t:T}(h:okT n t=true):(∀c m,t≠.exc c m)/\∀f k,t≠.dtt f k:=⟨λc m e=>(by subst e;unfold okT at h;cases h),λc m e=>(by subst e;unfold okT at h;cases h)⟩
theorem C7{K:PySem.W.Frag}:du K (λx y H Q=>C6 K false x y H Q∨rEq x y H Q) fEq:=by
 intro F H v u t t' w Q s hv hu hw q
 by_cases hs:∃a b,t=.str a/\t'=.str b
 ·obtain⟨a,b,rfl,rfl⟩:=hs
  cases hw
  cases hv.str
  cases hu.str
  refine .inr ⟨rfl,?_⟩
  have e:decide (V.str a=V.str b)=(a==b):=ou
  rw[e]
  exact q _ H F bt.refl (Rep.bl' _)
 ·have hw:(if okT 100 t=true/\okT 100 t'=true then some (T.bl (eqT t t')) else none)=some w:=by
   unfold fEq at hw
   split at hw
   ·exact absurd ⟨_,_,rfl,rfl⟩ hs
   ·exact hw
  by_cases ho:okT 100 t=true/\okT 100 t'=true
  ·rw[if_pos ho] at hw
   cases hw
   exact .inl ⟨t,t',hv.rep s (eE ho.1),hu.rep s (eE ho.2),ho.1,ho.2,q _ H F bt.refl (Rep.bl' _)⟩
  ·rw[if_neg ho] at hw;cases hw
theorem JD{K:PySem.W.Frag}:du K (λx y H Q=>C6 K true x y H Q∨rNe x y H Q) fNe:=by
 intro F H v u t t' w Q s hv hu hw q
 by_cases hs:∃a b,t=.str a/\t'=.str b
 ·obtain⟨a,b,rfl,rfl⟩:=hs
  cases hw
  cases hv.str
  cases hu.str
  refine .inr ⟨rfl,?_⟩
  have e:decide (V.str a=V.str b)=(a==b):=ou
  rw[e]
  exact q _ H F bt.refl (Rep.bl' _)
 ·have hw:(if okT 100 t=true/\okT 100 t'=true then some (T.bl (!eqT t t')) else none)=some w:=by
   unfold fNe at hw
   split at hw
   ·exact absurd ⟨_,_,rfl,rfl⟩ hs
   ·exact hw
  by_cases ho:okT 100 t=true/\okT 100 t'=true
  ·rw[if_pos ho] at hw
   cases hw
   exact .inl ⟨t,t',hv.rep s (eE ho.1),hu.rep s (eE ho.2),ho.1,ho.2,q _ H F bt.refl (Rep.bl' _)⟩
  ·rw[if_neg ho] at hw;cases hw
theorem rJ(hr:cz k X.A)(ha:CE X a da)(hb:CE X b db):CE X (.Compare a [.Eq] [b] pos) (ah fEq da db):=Cs ((wY hr).or Hy) C7 (ix _) ha hb
theorem my(hr:cz k X.A)(ha:CE X a da)(hb:CE X b db):CT X (.Compare a [.Eq] [b] pos) (ah fEq da db):=jo ((wY hr).or Hy) C7 (ix _) ha hb
theorem jv(hr:cz k X.A)(ha:CE X a da)(hb:CE X b db):CT X (.Compare a [.NotEq] [b] pos) (ah fNe da db):=jo ((JC hr).or Lr) JD (ix _) ha hb
def TyN(K:PySem.W.Frag)(H:Hp)(v:V)(ty:String):Prop:=match v with
 | .non=>ty="NoneType"
 | .bl _=>ty="bool"
 | .int _=>ty="int"
 | .str _=>ty="str"
 | .ref a=>(ty="list"/\∃xs,SqL K H a xs)∨(ty="tuple"/\∃xs,SqT K H a xs)∨(ty="dict"/\∃kvs,H a=some (.dK kvs))
 | _=>False
theorem C8{cn:String}:cX X (.builtin "isinstance") (λxs H Q=>∃v ty r,xs=[v,.ty cn]/\TyN X.K H v ty/\PySem.W.kitOne X.K (.type ty) (.type cn)=some r/\Q (.bl r) H):=by
 intro pins s σ H xs us Q I r h
 obtain⟨v,ty,b,rfl,hty,e,q⟩:=h
 obtain⟨u1,u2,rfl,r1,r2⟩:=vals2 r
 have r2:u2=Value.type cn:=r2
 subst r2
 have fin:∀tk,EP X pins σ Q (.bool b) { s with toks:=tk }:=λtk=>⟨.bl b,H,I.tok _,rfl,q⟩
 cases v with
 | non=>cases (show u1=Value.none from r1);cases hty;exact PySem.W.kia_one PySem.W.kitx_none I.kIn True.intro e (λz=>nomatch z) fin
 | bl y=>cases (show u1=Value.bool y from r1);cases hty;exact PySem.W.kia_one PySem.W.kitx_bool I.kIn True.intro e (λz=>nomatch z) fin
 | int i=>obtain⟨t,q⟩:=(show ∃t,u1=Value.int i t from r1);cases q;cases hty;exact PySem.W.kia_one PySem.W.kitx_int I.kIn True.intro e (λz=>nomatch z) fin
 | str y=>obtain⟨t,q⟩:=(show ∃t,u1=Value.str y t from r1);cases q;cases hty;exact PySem.W.kia_one PySem.W.kitx_str I.kIn True.intro e (λz=>nomatch z) fin
 | ref a =>
  cases (show u1=Value.ref a from r1)
  rcases hty with ⟨rfl,xs,hq⟩|⟨rfl,xs,hq⟩|⟨rfl,kvs,hq⟩
  ·obtain⟨its,_,pl,_⟩:=I.list hq
   obtain⟨o,ho,hc,_⟩:=pl.isList
   exact PySem.W.kia_one PySem.W.kitx_list I.kIn ⟨o,ho,hc⟩ e (λz=>nomatch z) fin
  ·obtain⟨its,_,pl,_⟩:=I.tuple hq
   obtain⟨o,ho,hc,_⟩:=pl
   exact PySem.W.kia_one PySem.W.kitx_tuple I.kIn ⟨o,ho,hc⟩ e (λz=>nomatch z) fin
  ·obtain⟨_,_,vs,_,pz⟩:=(show cG X.prog X.w H s.heap a (.dK kvs) from I.hok a _ hq)
   obtain⟨o,es,h1,h2,_⟩:=pz
   exact PySem.W.kia_one PySem.W.kitx_dict I.kIn ⟨o,h1,h2.1⟩ e (λz=>nomatch z) fin
 | _=>exact hty.elim
def Kd.name:Kd->String
 | .int=>"int"
 | .bool=>"bool"
 | .str=>"str"
 | .list=>"list"
 | .tuple=>"tuple"
 | .dict=>"dict"
def kdT:T->String
 | .non=>"NoneType"
 | .bl _=>"bool"
 | .int _=>"int"
 | .str _=>"str"
 | .lst _=>"list"
 | .tup _=>"tuple"
 | .dct _=>"dict"
 | .exc _ _=>""
 | .dtt _ _=>"dict"
def Me(x y:String):Option Bool:=if (Value.type x==Value.type y)=true then some true else if PySem.W.kitMeta y=true then (PySem.fastBuiltinMro x).map (·.contains (Value.type y)) else none
def C9(x y:String):Bool:=x==y || (x=="bool" && y=="int")
theorem C_:∀x∈["NoneType","bool","int","str","list","tuple","dict"],∀y∈["int","bool","str","list","tuple","dict"],Me x y=some (C9 x y):=by decide +kernel
theorem yR{K:PySem.W.Frag}(kd:Kd)(t:T)(hx:∀c n,t≠.exc c n):PySem.W.kitOne K (.type (kdT t)) (.type kd.name)=some (isK kd t):=by
 have e:PySem.W.kitOne K (.type (kdT t)) (.type kd.name)=Me (kdT t) kd.name:=rfl
 have h1:kdT t∈["NoneType","bool","int","str","list","tuple","dict"]:=by cases t<;>first|exact absurd rfl (hx _ _)|simp[kdT]
 have h2:kd.name∈["int","bool","str","list","tuple","dict"]:=by cases kd<;>simp[Kd.name]
 have h3:C9 (kdT t) kd.name=isK kd t:=by cases kd<;>cases t<;>first|exact absurd rfl (hx _ _)|rfl
 rw[e,C_ _ h1 _ h2,h3]
theorem tN(kd:Kd){cn:Str}(hm:X.mg "isinstance"=none)(hm2:X.mg cn=none)(hv2:bootBuiltins cn=some (.type kd.name))(ha:CE X a da)(hn2:cn≠"__name__")(hd2:(cn==("__debug__":Str))=false)(hg:Gl X "isinstance":=by rfl)(hg2:Gl X cn:=by rfl)
  (hs1:starEach [a,.Name cn p2] X.env=(false,eval a X.env)::starEach [.Name cn p2] X.env:=by rfl) (hs2:starEach [.Name cn p2] X.env=(false,eval (.Name cn p2) X.env)::starEach [] X.env:=by rfl) (hpl:(backTo pos (starEach [.Name cn p2] X.env)).any (·.1)=false:=by rfl) :
  CE X (.Call (.Name "isinstance" p) [a,.Name cn p2] [] pos) (dIs kd da) :=
 PE.imp (l4 C8 hg hm (by decide +kernel) (ox ha (ox (EZ (v:=.ty kd.name) hg2 hm2 hv2 rfl hn2 hd2) wm hs2) hs1) (by decide) (by decide) hs1 hpl) λσ H Q aj=>by
  obtain⟨F,α,e,μ,S,h⟩:=aj
  refine⟨F,α,e,μ,S,(R.wp_bind h).mono (λx μ1 h v H1 F1 α1 x1 S1 o1=>?_) λ_ _ h=>h⟩
  obtain⟨w,h9,post⟩:=R.aY h
  obtain⟨w',h,rfl⟩:=Option.map_eq_some_iff.mp h9
  have fin:∀{v'},Rep X.K F1 w' v'->Q v' H1:=λ{v'} o=>post v' H1 F1 α1 x1 S1 o
  have gen:∀t,rd μ1 x=some t->isT kd t=some w'->∃v' ty r,[v,V.ty kd.name]=[v',.ty kd.name]/\TyN X.K H1 v' ty/\PySem.W.kitOne X.K (.type ty) (.type kd.name)=some r/\Q (.bl r) H1:=λt hr h=>by
   have nt:=aO S1.st o1 hr
   have hx:∀c n,t≠.exc c n:=λc n z=>by subst z;cases h
   have ew:w'=.bl (isK kd t):=by
    cases t<;>first|exact(Option.some.inj h).symm|cases h
   subst ew
   refine⟨v,kdT t,_,rfl,?_,yR kd t hx,fin (Rep.bl' _)⟩
   cases t with
   | non=>rw[show v=.non from Rep.iD (K:=X.K) (F:=F1) nt];rfl
   | bl b=>rw[nt.bl];rfl
   | int b=>rw[nt.int];rfl
   | str b=>rw[nt.str];rfl
   | lst ts=>obtain⟨a,vs,rfl,hq,_⟩:=nt.iJ;exact .inl ⟨rfl,vs,hq⟩
   | tup ts=>obtain⟨a,vs,rfl,hq,_⟩:=nt.pP;exact .inr (.inl ⟨rfl,vs,aI.fm S1.st.ext hq⟩)
   | dct ts=>obtain⟨a,vs,rfl,hq,_⟩:=nt;exact .inr (.inr ⟨rfl,vs,hq⟩)
   | exc c n=>exact absurd rfl (hx c n)
   | dtt fz ts=>cases h
  cases x with
  | val t=>exact gen t rfl h
  | cel j =>
   cases q:rd μ1 (.cel j) with
   | none=>rw[yF,q] at h;cases h
   | some t=>exact gen t q (by rw[yF,q] at h;exact h)
  | box xs =>
   cases h
   obtain⟨a,vs,rfl,hq,_⟩:=o1
   exact⟨_,"tuple",_,rfl,.inr (.inl ⟨rfl,vs,aI.fm S1.st.ext hq⟩),yR kd (.tup []) (λc n z=>by cases z),fin (Rep.bl' _)⟩
  | lbx xs=>cases h
theorem AB(hm:X.mg "isinstance"=none)(hm2:X.mg "int"=none)(ha:CE X a da)(hg:Gl X "isinstance":=by rfl)(hg2:Gl X "int":=by rfl)
  (hs1:starEach [a,.Name "int" p2] X.env=(false,eval a X.env)::starEach [.Name "int" p2] X.env:=by rfl) (hs2:starEach [.Name "int" p2] X.env=(false,eval (.Name "int" p2) X.env)::starEach [] X.env:=by rfl) (hpl:(backTo pos (starEach [.Name "int" p2] X.env)).any (·.1)=false:=by rfl) :
  CE X (.Call (.Name "isinstance" p) [a,.Name "int" p2] [] pos) (dIs .int da):=tN .int hm hm2 (by decide +kernel) ha (by decide +kernel) (by decide +kernel) hg hg2 hs1 hs2 hpl
theorem wZ(hm:X.mg "isinstance"=none)(hm2:X.mg "bool"=none)(ha:CE X a da)(hg:Gl X "isinstance":=by rfl)(hg2:Gl X "bool":=by rfl)
  (hs1:starEach [a,.Name "bool" p2] X.env=(false,eval a X.env)::starEach [.Name "bool" p2] X.env:=by rfl) (hs2:starEach [.Name "bool" p2] X.env=(false,eval (.Name "bool" p2) X.env)::starEach [] X.env:=by rfl) (hpl:(backTo pos (starEach [.Name "bool" p2] X.env)).any (·.1)=false:=by rfl) :
  CE X (.Call (.Name "isinstance" p) [a,.Name "bool" p2] [] pos) (dIs .bool da):=tN .bool hm hm2 (by decide +kernel) ha (by decide +kernel) (by decide +kernel) hg hg2 hs1 hs2 hpl
theorem w5(hm:X.mg "isinstance"=none)(hm2:X.mg "list"=none)(ha:CE X a da)(hg:Gl X "isinstance":=by rfl)(hg2:Gl X "list":=by rfl)
  (hs1:starEach [a,.Name "list" p2] X.env=(false,eval a X.env)::starEach [.Name "list" p2] X.env:=by rfl) (hs2:starEach [.Name "list" p2] X.env=(false,eval (.Name "list" p2) X.env)::starEach [] X.env:=by rfl) (hpl:(backTo pos (starEach [.Name "list" p2] X.env)).any (·.1)=false:=by rfl) :
  CE X (.Call (.Name "isinstance" p) [a,.Name "list" p2] [] pos) (dIs .list da):=tN .list hm hm2 (by decide +kernel) ha (by decide +kernel) (by decide +kernel) hg hg2 hs1 hs2 hpl
theorem gR(hm:X.mg "isinstance"=none)(hm2:X.mg "tuple"=none)(ha:CE X a da)(hg:Gl X "isinstance":=by rfl)(hg2:Gl X "tuple":=by rfl)
  (hs1:starEach [a,.Name "tuple" p2] X.env=(false,eval a X.env)::starEach [.Name "tuple" p2] X.env:=by rfl) (hs2:starEach [.Name "tuple" p2] X.env=(false,eval (.Name "tuple" p2) X.env)::starEach [] X.env:=by rfl) (hpl:(backTo pos (starEach [.Name "tuple" p2] X.env)).any (·.1)=false:=by rfl) :
  CE X (.Call (.Name "isinstance" p) [a,.Name "tuple" p2] [] pos) (dIs .tuple da):=tN .tuple hm hm2 (by decide +kernel) ha (by decide +kernel) (by decide +kernel) hg hg2 hs1 hs2 hpl
end
theorem vc:∀{ts:List T}{bs:List Bool},pf ts=some bs->ts=bs.map T.bl
 | [],bs,h=>by cases h;rfl
 | t::ts,bs,h=>by
  cases t with
  | bl b =>
   obtain⟨cs,h1,rfl⟩:=Option.map_eq_some_iff.mp (show(pf ts).map (λbs=>b::bs)=some bs from h)
   rw[vc h1];rfl
  | _=>cases h
theorem j3:∀{ts:List T}{bs:List Int},eO ts=some bs->ts=bs.map T.int
 | [],bs,h=>by cases h;rfl
 | t::ts,bs,h=>by
  cases t with
  | int b =>
   obtain⟨cs,h1,rfl⟩:=Option.map_eq_some_iff.mp (show(eO ts).map (λbs=>b::bs)=some bs from h)
   rw[j3 h1];rfl
  | _=>cases h
theorem aA.bls{K:PySem.W.Frag}{F:Hp}:∀{bs:List Bool}{vs:List V},aA K F (bs.map T.bl) vs->vs=bs.map V.bl
 | [],vs,h=>by rw[List.map_nil,aA] at h;exact h
 | b::bs,vs,h=>by
  rw[List.map_cons,aA] at h
  obtain⟨v,vs',rfl,q,r⟩:=h
  rw[r.bls,q.gK];rfl
theorem aA.yS{K:PySem.W.Frag}{F:Hp}:∀{bs:List Int}{vs:List V},aA K F (bs.map T.int) vs->vs=bs.map V.int
 | [],vs,h=>by rw[List.map_nil,aA] at h;exact h
 | b::bs,vs,h=>by
  rw[List.map_cons,aA] at h
  obtain⟨v,vs',rfl,q,r⟩:=h
  rw[r.yS,q.jl];rfl
theorem vd:∀{bs:List Bool}{us:List Value},Vals (bs.map V.bl) us->us=bs.map Value.bool
 | [],us,h=>by cases h;rfl
 | b::bs,us,h=>by
  rw[List.map_cons] at h
  cases h with
  | cons r h=>rw[vd h,show _=Value.bool b from r];rfl
section
variable{X:Cx}{a b c:Expr}{da db dc:D}{pos p p2:Pos}{k:Nat}
theorem AD{prog:Program}{w:World}{A:Around}{E:Value->Shared->Prop}{s:Shared}{l:Addr}{its:Array Value}{Q:Value->Shared->Prop}(hl:s.heap.IsList l its)
  (h:∀s₂:Shared,s₂={ s with heap:=s.heap.push { cls:=.type "list_iterator",data:=.fields #[.ref l,.int 0 0] } }->(s₂.heap.IsListIter s.heap.objs.size l 0/\s₂.heap.IsList l its)->l≠s.heap.objs.size->Q (.ref s.heap.objs.size) s₂) :
  wpAny (model prog w) A (pyIter (.ref l)) Q E s:=by
 have hlt:l<s.heap.objs.size:=by obtain⟨_,e,_⟩:=hl;exact Heap.lt_size e
 exact wpAny_pyIter_list hl (h _ rfl ⟨⟨_,Heap.get?_push_size _ rfl,rfl,rfl⟩,hl.push _⟩ (Nat.ne_of_lt hlt))
theorem range_any(bs:List Bool):(List.range bs.length).any (λi=>bs.getD i true)=bs.any id:=by
 rw[Bool.eq_iff_iff,List.any_eq_true,List.any_eq_true]
 constructor
 ·rintro⟨i,hi,h⟩
  have hl:i<bs.length:=List.mem_range.mp hi
  rw[List.getD_eq_getElem?_getD,List.getElem?_eq_getElem hl] at h
  exact⟨_,List.getElem_mem hl,h⟩
 ·rintro⟨x,hx,h⟩
  obtain⟨i,hi⟩:=List.mem_iff_getElem?.mp hx
  have hl:i<bs.length:=(List.getElem?_eq_some_iff.mp hi).1
  refine⟨i,List.mem_range.mpr hl,?_⟩
  rw[List.getD_eq_getElem?_getD,hi]
  exact h
theorem AE{prog:Program}{w:World}{A:Around}(bs:List Bool):TruthOf prog w A (λi v=>((bs.map Value.bool).toArray)[i]?=some v) (λi=>bs.getD i true):=by
 intro i v s Q E hP hQ
 have hP:(bs.map Value.bool)[i]?=some v:=by simpa using hP
 rw[List.getElem?_map] at hP
 cases q:bs[i]? with
 | none=>rw[q] at hP;cases hP
 | some y =>
  rw[q] at hP
  cases hP
  have hQ:Q (bs.getD i true) s:=hQ
  rw[List.getD_eq_getElem?_getD,q] at hQ
  exact wpAny_truthy_bool hQ
theorem AF(hr:cz k X.A):cX X (.builtin "any") (λxs H Q=>∃(p:Addr) (bs:List Bool),xs=[.ref p]/\SqL X.K H p (bs.map V.bl)/\Q (.bl (bs.any id)) H):=by
 intro pins s σ H xs us Q I r h
 obtain⟨p,bs,rfl,hq,q⟩:=h
 obtain⟨u,rfl,ru⟩:=vals1 r
 cases ru
 obtain⟨its,rv,pl,hz⟩:=I.list hq
 cases vd rv
 refine call_any_walk (AD pl.isList λs₂ e st hne=>?_)
 subst e
 refine⟨_,_,_,_,_,_,_,rfl,Walks.list (A:=X.A.in1) hr.hd _ p hne _,st,AE bs,λh' tk hk=>?_⟩
 rw[List.size_toArray,List.length_map,range_any]
 exact⟨.bl _,H,I.kept (t':=tk) (old_kept hk),rfl,q⟩
theorem AG(hr:cz k X.A):cX X (.builtin "sum") (λxs H Q=>∃(p:Addr) (ns:List Int),xs=[.ref p]/\SqL X.K H p (ns.map V.int)/\Q (.int ns.sum) H):=by
 intro pins s σ H xs us Q I r h
 obtain⟨p,ns,rfl,hq,q⟩:=h
 obtain⟨u,rfl,ru⟩:=vals1 r
 cases ru
 obtain⟨its,rv,pl,hz⟩:=I.list hq
 have hi:IntsAre its ns:=intsAre_of rv
 have Jb:AllInts its.toArray:=hi.allInts
 obtain⟨xs,hxs⟩:=Jb.items
 rw[hxs] at pl
 refine sum_intListG hr.hd pl.isList λh' tk t' hk=>⟨.int ns.sum,H,I.kept (t':=tk) hk,⟨t',?_⟩,q⟩
 rw[preSum_eq,List.take_of_length_le (by simp)]
 have e1:=hi.numsOf
 have e2:its=(intItems xs).toList:=by rw[← hxs]
 rw[e2,nums_intItems] at e1
 rw[e1]
theorem JE(hr:cz k X.A)(hm:X.mg "any"=none)(ha:CE X a da)(hg:Gl X "any":=by rfl)(hs1:starEach [a] X.env=(false,eval a X.env)::starEach [] X.env:=by rfl)(hpl:(backTo pos (starEach [] X.env)).any (·.1)=false:=by rfl) :
  CE X (.Call (.Name "any" p) [a] [] pos) (dUn uU da):=s_ (AF hr) (by
 intro F H v t w Q s hv hw q
 cases t with
 | lst ts =>
  obtain⟨bs,h1,rfl⟩:=Option.map_eq_some_iff.mp (show(pf ts).map _=some w from hw)
  obtain⟨a,vs,rfl,hq,hl⟩:=hv.iJ
  rw[vc h1] at hl
  rw[hl.bls] at hq
  exact⟨a,bs,rfl,hq,q _ H F bt.refl (Rep.bl' _)⟩
 | _=>cases hw) hm (by decide +kernel) ha hg (by decide) (by decide) hs1 hpl
theorem Dc(hr:cz k X.A)(hm:X.mg "sum"=none)(ha:CE X a da)(hg:Gl X "sum":=by rfl)(hs1:starEach [a] X.env=(false,eval a X.env)::starEach [] X.env:=by rfl)(hpl:(backTo pos (starEach [] X.env)).any (·.1)=false:=by rfl) :
  CE X (.Call (.Name "sum" p) [a] [] pos) (dUn qE da):=s_ (AG hr) (by
 intro F H v t w Q s hv hw q
 cases t with
 | lst ts =>
  obtain⟨bs,h1,rfl⟩:=Option.map_eq_some_iff.mp (show(eO ts).map _=some w from hw)
  obtain⟨a,vs,rfl,hq,hl⟩:=hv.iJ
  rw[j3 h1] at hl
  rw[hl.yS] at hq
  exact⟨a,bs,rfl,hq,q _ H F bt.refl (Rep.fS _)⟩
 | _=>cases hw) hm (by decide +kernel) ha hg (by decide) (by decide) hs1 hpl
theorem fq(hm:X.mg "tuple"=none)(ha:CE X a da)(hg:Gl X "tuple":=by rfl)(hs1:starEach [a] X.env=(false,eval a X.env)::starEach [] X.env:=by rfl)(hpl:(backTo pos (starEach [] X.env)).any (·.1)=false:=by rfl) :
  CE X (.Call (.Name "tuple" p) [a] [] pos) (dUn cH da):=CJ qD (by
 intro F H v t w Q s hv hw q
 cases t with
 | lst ts =>
  cases hw
  obtain⟨a,vs,rfl,hq,hl⟩:=hv.iJ
  exact⟨a,vs,rfl,.inl ⟨hq,λl hp=>oH s hp hl q⟩⟩
 | tup ts =>
  cases hw
  obtain⟨a,vs,rfl,hq,hl⟩:=hv.pP
  exact⟨a,vs,rfl,.inr ⟨aI.fm s hq,q _ H F bt.refl (tJ hq hl)⟩⟩
 | _=>cases hw) hm (by decide +kernel) ha hg (by decide) (by decide) hs1 hpl
theorem Gv(hm:X.mg "list"=none)(ha:CE X a da)(hg:Gl X "list":=by rfl)(hs1:starEach [a] X.env=(false,eval a X.env)::starEach [] X.env:=by rfl)(hpl:(backTo pos (starEach [] X.env)).any (·.1)=false:=by rfl) :
  CF X (.Call (.Name "list" p) [a] [] pos) (dUn yG da):=CK sJ (by
 intro F H v t w Q s hv hw q
 cases t with
 | lst ts =>
  cases hw
  obtain⟨a,vs,rfl,hq,hl⟩:=hv.iJ
  exact⟨a,vs,rfl,.inl hq,λl hp=>q l _ hp ⟨vs,az,hl⟩⟩
 | tup ts =>
  cases hw
  obtain⟨a,vs,rfl,hq,hl⟩:=hv.pP
  exact⟨a,vs,rfl,.inr (aI.fm s hq),λl hp=>q l _ hp ⟨vs,az,hl⟩⟩
 | _=>cases hw) hm (by decide +kernel) ha hg (by decide) (by decide) hs1 hpl
theorem JF:CF X (.Dict [] [] pos) (dC (.dct [])):=by
 refine⟨PE.imp B5 λσ H Q ⟨F,α,e,μ,S,h⟩=>?_,λe μ x μ' h=>?_⟩
 ·obtain⟨t,et,post⟩:=h
  cases et
  intro d hd
  exact post d _ F α (Ex.lay hd) (S.of (aI.refl _) (List.prefix_refl _) (S.st.lay hd)) hd (S.st.ext.free hd) (bC S.st hd) ⟨[],az,by rw[bj]⟩
 ·cases h;exact⟨_,rfl⟩
theorem tO{es:List Expr}{ds:List D}(h:CA X es ds)(hb:CE X b db)(hl:ds.length≤1000:=by decide):CF X (.BinOp (.List es p) .Mult b pos) (kl jh ds db):=by
 refine⟨PE.imp (Hx IY (BS h) hb) λσ H Q ⟨F,α,e,μ,S,h⟩=>?_,λe μ x μ' h=>?_⟩
 ·refine⟨F,α,e,μ,S,(eB (R.wp_bind h)).mono (λxs μ1 ⟨hn,h⟩ vs H1 F1 α1 x1 S1 o1=>?_) λ_ _ h=>h⟩
  have h:=R.wp_bind h
  cases hz:dq xs μ1 with
  | err c μ2=>exact absurd hz (oA xs μ1 c μ2)
  | bad=>rw[hz] at h;exact h.elim
  | ok ts μ2 =>
   rw[hz] at h
   obtain⟨F2,s2,n2,S2,r2⟩:=oF S1.st o1 hz
   refine⟨jV hn o1 hl,λl hp=>?_⟩
   have x2:Ex F α H F2 α1 (upd H1 l (.lst vs)):=x1.trans ((Ex.nG s2 n2).trans (Ex.lay hp))
   refine⟨F2,α1,e,μ2,S1.of s2 (List.prefix_refl _) (S2.lay hp),(R.wp_bind h).mono (λy μ3 h v3 H3 F3 α3 x3 S3 o3=>?_) λ_ _ h=>h.mono x2⟩
   obtain⟨w,h9,t',e1,post⟩:=R.aY h
   obtain⟨t,w',ht,h,e2⟩:=iz h9
   subst e1
   cases e2
   cases t with
   | int i =>
    cases (aO S3.st o3 ht).int
    have h:(if -(2 ^ 63)≤i/\i<2 ^ 63/\ts.length*i.toNat≤szL then some (T.lst (List.replicate i.toNat ts).flatten) else none)=some t':=h
    by_cases hc:-(2 ^ 63)≤i/\i<2 ^ 63/\ts.length*i.toNat≤szL
    ·rw[if_pos hc] at h
     cases h
     obtain⟨g1,g2,g3⟩:=x3.fr l _ az (S2.ext.free hp) (bC S2 hp)
     refine⟨l,i,vs,rfl,rfl,g1,hc.1,hc.2.1,by rw[← r2.length];exact hc.2.2,λp' hp'=>?_⟩
     exact post p' _ F3 α3 ((x2.trans x3).trans (Ex.lay hp')) (S3.of (aI.refl _) (List.prefix_refl _) (S3.st.lay hp')) ((x2.trans x3).was S3.st hp') (S3.st.ext.free hp') (bC S3.st hp')
      ⟨_,az,(aA.mono x3.same _ _ r2).flat i.toNat⟩
    ·rw[if_neg hc] at h;cases h
   | _=>cases h
 ·unfold kl at h
  obtain⟨xs,μ1,hx,h⟩:=R.aM h
  obtain⟨ts,μ2,hz,h⟩:=R.aM h
  obtain⟨y,μ3,hy,h⟩:=R.aM h
  obtain⟨h9,rfl⟩:=R.iy h
  obtain⟨t,w',ht,h,rfl⟩:=iz h9
  exact⟨_,rfl⟩
theorem j4{o e1:Expr}{do_ de:D}{apos cL:Pos}(ho:CE X o do_)(he:CE X e1 de)(ib:attributeBase o "append" X.env (eval o X.env)=eval o X.env:=by rfl)
  (sL:((backTo cL (starEach [e1] X.env)).all (λx=>!x.1) && (backToKw cL (keywordEach [] X.env)).all (λx=>x.1.isSome) && decide (([e1]:List Expr).length+([]:List Keyword).length+(if ([]:List Keyword).isEmpty then 0 else 1)<30))=true:=by rfl)
  (ic:(apos.endLine==cL.line)=true:=by rfl) (hs1:starEach [e1] X.env=(false,eval e1 X.env)::starEach [] X.env:=by rfl) (hpl:(backTo cL (starEach [] X.env)).any (·.1)=false:=by rfl)
  (hs:swapsWith (.Call (.Attribute o "append" apos) [e1] [] cL) none pos.line X.env=pure false:=by rfl) :
  CS X (.Expr (.Call (.Attribute o "append" apos) [e1] [] cL) pos) (dB do_ de) :=
 PS.imp (sD (yu PySem.F.plainAttrs_list PySem.F.slot_list_append PySem.F.type_list_append rh ho (ag he aw hs1) ib sL ic hs1 hpl) hs) λD σ H aj=>by
  obtain⟨F,α,e,μ,S,h⟩:=aj
  refine⟨F,α,e,μ,S,(aV.toS h).mono (λx μ1 h v H1 F1 α1 x1 S1 o1=>?_) λ_ _ h=>h⟩
  obtain⟨_,hl,h⟩:=h.lift
  cases x with
  | cel j =>
   obtain⟨ad,ha,rfl⟩:=o1
   have hc:∃bb ts,μ1[j]?=some (bb,.lst ts):=by
    unfold iC at hl
    simp only at hl
    split at hl
    ·exact⟨_,_,by assumption⟩
    ·cases hl
   obtain⟨bb,ts,hj⟩:=hc
   have n1:=aO S1.st (x:=.cel j) (t:=.lst ts) ⟨ad,ha,rfl⟩ (by rw[hJ,hj];rfl)
   obtain⟨a',vs,e1,hq,_⟩:=n1.iJ
   cases e1
   refine⟨.inl ⟨rfl,vs,hq⟩,kC ⟨F1,α1,e,μ1,S1,(aV.toS h).mono (λy μ2 h v2 H2 F2 α2 x2 S2 o2=>?_) λ_ _ h=>h.mono x1⟩⟩
   have h:=h.toS
   cases hz:frz y μ2 with
   | err c μ3=>exact absurd hz (oX y μ2 c μ3)
   | bad=>rw[hz] at h;exact h.elim
   | ok t μ3 =>
    rw[hz] at h
    obtain⟨μ4,ha4,h⟩:=aV.lift h
    obtain⟨F3,s3,n3,S3,r3⟩:=kT S2.st o2 hz
    unfold appendAt at ha4
    simp only at ha4
    have hc:∃us,μ3[j]?=some (true,.lst us)/\us.length<szL/\μ4=μ3.set j (true,.lst (us++[t])):=by
     split at ha4
     ·rename_i us hjs
      by_cases hu:us.length<szL
      ·rw[if_pos hu] at ha4
       cases ha4
       exact⟨us,hjs,hu,rfl⟩
      ·rw[if_neg hu] at ha4;cases ha4
     ·cases ha4
    obtain⟨us,hj3,hu,rfl⟩:=hc
    have ha3:α2[j]?=some ad:=e9 x2.pre ha
    obtain⟨_,ws,hw,rw'⟩:=(S3.cell j true _ ad hj3 ha3).1 rfl
    have el:=rw'.length
    refine⟨ad,ws,v2,rfl,rfl,hw,by rw[ng] at hu;omega,?_⟩
    have x3:Ex F α H F3 α2 H2:=x1.trans (x2.trans (Ex.nG s3 n3))
    exact h σ _ F3 α2 (x3.trans (Ex.put ha3)) ((S2.of s3 (List.prefix_refl _) S3).of (aI.refl _) (List.prefix_refl _) (kU S3 hj3 ha3 ⟨_,az,rw'.append (aA.one r3)⟩))
  | val t=>cases hl
  | box xs=>cases hl
  | lbx xs=>cases hl
end
end Fw
namespace Fw
open PySem L2 PyProof.Rows
theorem Dd{x y r:SV}{μ μ':af}(h:nK x y μ=.ok r μ'):∃k i ts t,x=.cel k/\y=.val (.int i)/\μ[k]?=some (true,.lst ts)/\0≤i/\i<1073741824/\ts[i.toNat]?=some t/\r=.val t/\μ'=μ.set k (true,.lst (ts.eraseIdx i.toNat)):=by
 unfold nK at h
 split at h
 ·rename_i k i
  split at h
  ·rename_i ts hk
   by_cases hi:0≤i/\i<1073741824
   ·rw[if_pos hi] at h
    split at h
    ·rename_i t ht
     cases h
     exact⟨k,i,ts,t,rfl,rfl,hk,hi.1,hi.2,ht,rfl,rfl⟩
    ·cases h
   ·rw[if_neg hi] at h;cases h
  ·cases h
 ·cases h
theorem De(x y:SV)(μ:af)(c:T)(μ':af):nK x y μ≠.err c μ':=by
 intro h
 unfold nK at h
 split at h
 ·split at h
  ·split at h
   ·split at h<;>cases h
   ·cases h
  ·cases h
 ·cases h
theorem aA.erase{K:PySem.W.Frag}{F:Hp}{ts:List T}{vs:List V}(h:aA K F ts vs)(i:Nat):aA K F (ts.eraseIdx i) (vs.eraseIdx i):=by
 rw[List.eraseIdx_eq_take_drop_succ,List.eraseIdx_eq_take_drop_succ]
 exact(h.take i).append (h.drop (i+1))
section
variable{X:Cx}
theorem JG{o e1:Expr}{do_ de:D}{apos cL:Pos}(ho:CE X o do_)(he:CE X e1 de)(ib:attributeBase o "pop" X.env (eval o X.env)=eval o X.env:=by rfl)
  (sL:((backTo cL (starEach [e1] X.env)).all (λx=>!x.1) && (backToKw cL (keywordEach [] X.env)).all (λx=>x.1.isSome) && decide (([e1]:List Expr).length+([]:List Keyword).length+(if ([]:List Keyword).isEmpty then 0 else 1)<30))=true:=by rfl)
  (ic:(apos.endLine==cL.line)=true:=by rfl) (hs1:starEach [e1] X.env=(false,eval e1 X.env)::starEach [] X.env:=by rfl) (hpl:(backTo cL (starEach [] X.env)).any (·.1)=false:=by rfl) :
  CE X (.Call (.Attribute o "pop" apos) [e1] [] cL) (tG do_ de) :=
 PE.imp (yu PySem.F.plainAttrs_list PySem.F.slot_list_pop PySem.F.type_list_pop BY ho (ag he aw hs1) ib sL ic hs1 hpl) λσ H Q aj=>by
  obtain⟨F,α,e,μ,S,h⟩:=aj
  refine⟨F,α,e,μ,S,(R.wp_bind h).mono (λx μ1 h v H1 F1 α1 x1 S1 o1=>?_) λ_ _ h=>h⟩
  obtain⟨_,hl,h⟩:=R.aY (R.wp_bind h)
  cases x with
  | cel j =>
   obtain⟨ad,ha,rfl⟩:=o1
   have hc:∃bb ts,μ1[j]?=some (bb,.lst ts):=by
    unfold iC at hl
    simp only at hl
    split at hl
    ·exact⟨_,_,by assumption⟩
    ·cases hl
   obtain⟨bb,ts,hj⟩:=hc
   have n1:=aO S1.st (x:=.cel j) (t:=.lst ts) ⟨ad,ha,rfl⟩ (by rw[hJ,hj];rfl)
   obtain⟨a',vs,e1,hq,_⟩:=n1.iJ
   cases e1
   refine⟨.inl ⟨rfl,vs,hq⟩,kC ⟨F1,α1,e,μ1,S1,(R.wp_bind h).mono (λy μ2 h v2 H2 F2 α2 x2 S2 o2=>?_) λ_ _ h=>h.mono x1⟩⟩
   cases q:nK (.cel j) y μ2 with
   | err c μ3=>exact absurd q (De _ _ _ _ _)
   | bad=>rw[q] at h;exact h.elim
   | ok r μ3 =>
    rw[q] at h
    obtain⟨k,i,us,t,e1,rfl,hj3,h0,h1,ht,rfl,rfl⟩:=Dd q
    cases e1
    have ha3:α2[j]?=some ad:=e9 x2.pre ha
    obtain⟨_,ws,hw,rw'⟩:=(S2.st.cell j true _ ad hj3 ha3).1 rfl
    obtain⟨yv,hy,ry⟩:=rw'.get ht
    have hlt:i.toNat<ws.length:=(List.getElem?_eq_some_iff.mp hy).1
    have o2:v2=.int i:=by
     have o2:Rep X.K F2 (.int i) v2:=o2
     rw[Rep] at o2
     exact o2
    subst o2
    refine⟨ad,ws,i,i.toNat,yv,rfl,rfl,hw,by omega,by omega,?_,hy,?_⟩
    ·unfold seqIndex?
     have hn:¬ i<0:=by omega
     have hj:i<(ws.length:Int):=by omega
     simp[hn,h0,hj]
    ·exact h yv _ F2 α2 ((x1.trans x2).trans (Ex.put ha3)) (S2.of (aI.refl _) (List.prefix_refl _) (kU S2.st hj3 ha3 ⟨_,az,rw'.erase _⟩)) ry
  | val t=>cases hl
  | box xs=>cases hl
  | lbx xs=>cases hl
end
end Fw
namespace L2
open PySem PySem.Spec PyProof.Rows
def KIt(k:Bool)(h:Heap)(i l:Addr)(n:Nat):Prop:=match k with
 | true=>h.IsListIter i l n
 | false=>h.IsTupleIter i l n
def KSq(k:Bool)(h:Heap)(l:Addr)(xs:Array Value):Prop:=match k with
 | true=>h.IsList l xs
 | false=>h.IsTuple l xs
theorem KIt.at{k:Bool}{h h':Heap}{i l:Addr}{n:Nat}(x:KIt k h i l n)(e:∀o,h.get? i=some o->h'.get? i=some o):KIt k h' i l n:=by
 cases k with
 | true=>exact Heap.IsListIter.at x e
 | false=>exact Heap.IsTupleIter.at x e
theorem KSq.at{k:Bool}{h h':Heap}{l:Addr}{xs:Array Value}(x:KSq k h l xs)(e:∀o,h.get? l=some o->h'.get? l=some o):KSq k h' l xs:=by
 cases k with
 | true=>exact Heap.IsList.at x e
 | false=>exact Heap.IsTuple.at x e
theorem KIt.ob{k:Bool}{h:Heap}{i l:Addr}{n:Nat}(x:KIt k h i l n):∃o,h.get? i=some o/\o.data=.fields #[.ref l,.int n 0]:=by
 cases k with
 | true=>obtain⟨o,a,_,b⟩:=x;exact⟨o,a,b⟩
 | false=>obtain⟨o,a,_,b⟩:=x;exact⟨o,a,b⟩
section
variable{prog:Program}{w:World}{A:Around}{E:Value->Shared->Prop}{s:Shared}
theorem w6{it t:Addr}{i:Nat}{items:Array Value}{x:Value}{Q:Value->Shared->Prop}(hit:s.heap.IsTupleIter it t i)(ht:s.heap.IsTuple t items)(hx:items[i]?=some x)
  (hQ:∀h',h'.IsTupleIter it t (i+1)->Heap.SameBut it s.heap h'->Q x { s with heap:=h' }):wpAny (model prog w) A (Builtin.SmallTypes.nextOf (.ref it)) Q E s:=by
 obtain⟨⟨o,ho,hc,hd⟩,⟨ol,hol,_,nl,hdl⟩⟩:=And.intro (id hit) ht
 unfold Builtin.SmallTypes.nextOf
 refine wpAny_bind (wpAny_callSpecial?_slot (name:=Str.ofString "__next__") hit.typeIs F.slot_tuple_iterator_next (wpAny_call_entry F.slot_tuple_iterator_next hit.typeIs F.entry_tuple_iterator_next ?_ (F.args_tuple_iterator_next_1 _)))
 show wpAny _ _ (field (.ref it) 0>>=_) _ _ s;refine wpAny_bind (wpAny_field ho hd (x:=.ref t) rfl ?_)
 show wpAny _ _ (if (Value.ref t==Value.none)=true then _ else _) _ _ s;rw[if_neg (show ¬ ((Value.ref t==Value.none)=true) from Bool.false_ne_true)]
 show wpAny _ _ (field (.ref it) 1>>=_) _ _ s;refine wpAny_bind (wpAny_field ho hd (x:=.int i 0) rfl ?_)
 show wpAny _ _ (seqItems? (.ref t)>>=_) _ _ s;refine wpAny_bind (wpAny_seqItems hol hdl ?_)
 simp only[Int.toNat_natCast,hx];refine wpAny_bind (wpAny_setField ho hd (by simp) (wpAny_pure ⟨x,rfl,wpAny_pure (hQ _ ?_ (Heap.SameBut.update ..))⟩))
 exact⟨_,Heap.get?_update_self _ ho (Obj.isFreed_of_fields (Obj.data_mapFields hd _)),(Obj.cls_mapFields ..).trans hc,by rw[Obj.data_mapFields hd];simp[rawInt]⟩
theorem AH{it t:Addr}{i:Nat}{items:Array Value}{Q:Value->Shared->Prop}(hh:A.handled=none)(hit:s.heap.IsTupleIter it t i)(ht:s.heap.IsTuple t items)(hx:items[i]?=none)
  (hE:∀h' e,Heap.ExtBut it s.heap h'->(∃o,h'.get? e=some o/\o.cls=.type "StopIteration")->E (.ref e) { s with heap:=h' }):wpAny (model prog w) A (Builtin.SmallTypes.nextOf (.ref it)) Q E s:=by
 obtain⟨⟨o,ho,hc,hd⟩,⟨ol,hol,_,nl,hdl⟩⟩:=And.intro (id hit) ht
 unfold Builtin.SmallTypes.nextOf
 refine wpAny_bind (wpAny_callSpecial?_slot (name:=Str.ofString "__next__") hit.typeIs F.slot_tuple_iterator_next (wpAny_call_entry F.slot_tuple_iterator_next hit.typeIs F.entry_tuple_iterator_next ?_ (F.args_tuple_iterator_next_1 _)))
 show wpAny _ _ (field (.ref it) 0>>=_) _ _ s;refine wpAny_bind (wpAny_field ho hd (x:=.ref t) rfl ?_)
 show wpAny _ _ (if (Value.ref t==Value.none)=true then _ else _) _ _ s;rw[if_neg (show ¬ ((Value.ref t==Value.none)=true) from Bool.false_ne_true)]
 show wpAny _ _ (field (.ref it) 1>>=_) _ _ s;refine wpAny_bind (wpAny_field ho hd (x:=.int i 0) rfl ?_)
 show wpAny _ _ (seqItems? (.ref t)>>=_) _ _ s;refine wpAny_bind (wpAny_seqItems hol hdl ?_)
 simp only[Int.toNat_natCast,hx];refine wpAny_bind (wpAny_rule (wpAny_bind (wpAny_setField ho hd (by simp) ?_)))
 show wpAny _ _ (newExc (.type "StopIteration") []>>=_) _ _ _;refine wpAny_bind ?_
 simp only[newExc,newTuple];refine wpAny_bind (wpAny_newObj_type ?_ (by size_fits))
 refine wpAny_bind (m:=firstArgMember _ _) (wpAny_of_eq (a:=Value.none) (by first|rfl|(simp only[firstArgMember];rfl)) ?_);refine wpAny_newObj_type ?_ (by size_fits)
 simp only[raiseNew];refine wpAny_bind (wpAny_handled ?_);first|rw[show A.in1.handled=none from hh]|rw[hh]
 refine wpAny_bind (wpAny_pure (wpAny_throw ?_));exact hE _ _ (((Heap.SameBut.update ..).extBut.push _).push _) ⟨_,Heap.get?_push_size _ rfl,rfl⟩
theorem gv{k:Bool}{it t:Addr}{i:Nat}{items:Array Value}{x:Value}{Q:Value->Shared->Prop}(hit:KIt k s.heap it t i)(ht:KSq k s.heap t items)(hx:items[i]?=some x)
  (hQ:∀h',KIt k h' it t (i+1)->Heap.SameBut it s.heap h'->Q x { s with heap:=h' }):wpAny (model prog w) A (Builtin.SmallTypes.nextOf (.ref it)) Q E s:=by
 cases k with
 | true=>exact wpAny_nextOf_list_item hit ht hx hQ
 | false=>exact w6 hit ht hx hQ
theorem j5{k:Bool}{it t:Addr}{i:Nat}{items:Array Value}{Q:Value->Shared->Prop}(hh:A.handled=none)(hit:KIt k s.heap it t i)(ht:KSq k s.heap t items)(hx:items[i]?=none)
  (hE:∀h' e,Heap.ExtBut it s.heap h'->(∃o,h'.get? e=some o/\o.cls=.type "StopIteration")->E (.ref e) { s with heap:=h' }):wpAny (model prog w) A (Builtin.SmallTypes.nextOf (.ref it)) Q E s:=by
 cases k with
 | true=>exact wpAny_nextOf_list_end hh hit ht hx hE
 | false=>exact AH hh hit ht hx hE
theorem AI{k1 k2:Bool}{z TI TO i1 i2 l1 l2:Addr}{n1 n2:Nat}{xs ys:Array Value}{x y a b:Value}{Q:Value->Shared->Prop}(D:ZipApart z TI TO i1 i2 l1 l2)
  (hz:IsZip s.heap z TI TO .none) (hTI:IsPair s.heap TI (.ref i1) (.ref i2)) (hTO:IsPair s.heap TO a b) (h1:KIt k1 s.heap i1 l1 n1) (h2:KIt k2 s.heap i2 l2 n2) (hl1:KSq k1 s.heap l1 xs) (hl2:KSq k2 s.heap l2 ys) (hx:xs[n1]?=some x) (hy:ys[n2]?=some y)
  (hQ:∀h',IsZip h' z TI TO (rawInt s.heap.objs.size)->IsPair h' TO x y->KIt k1 h' i1 l1 (n1+1)->KIt k2 h' i2 l2 (n2+1)->IsPair h' s.heap.objs.size x y->h'.objs.size=s.heap.objs.size+1 ->
   (∀c o,c≠z->c≠TO->c≠i1->c≠i2->s.heap.get? c=some o->h'.get? c=some o)->Q (.ref s.heap.objs.size) { s with heap:=h' }) :
  wpAny (model prog w) A (Builtin.«zip.__next__» ⟨[.ref z],[]⟩) (λfin s'=>∃v,fin=.done (.ret v)/\Q v s') E s:=by
 show wpAny _ _ (field (.ref z) 2>>=_) _ _ _;refine wpAny_bind (wpAny_field hz rfl (x:=.bool false) rfl ?_)
 show wpAny _ _ (field (.ref z) 3>>=_) _ _ _;refine wpAny_bind (wpAny_field hz rfl (x:=.ref TI) rfl ?_)
 refine wpAny_bind (wpAny_seqItems hTI rfl ?_);show wpAny _ _ (Builtin.SmallTypes.ownedTupleIsFree (.ref z)>>=_) _ _ _;refine wpAny_bind ?_
 unfold Builtin.SmallTypes.ownedTupleIsFree;refine wpAny_bind (wpAny_field hz rfl (x:=.none) rfl (wpAny_pure ?_))
 simp only[if_true];refine wpAny_bind (wpAny_rule ?_);refine wpAny_bind (wpAny_field hz rfl (x:=.ref TO) rfl ?_)
 refine wpAny_bind (wpAny_setField_rec hz (by simp) λg₁ hz₁ hs₁=>?_);replace hz₁:IsZip g₁ z TI TO .ellipsis:=hz₁
 refine wpAny_bind ?_;simp only[List.zipIdx_cons,List.zipIdx_nil,List.forIn_cons,List.forIn_nil];refine wpAny_bind (wpAny_bind (wpAny_onRaise ?_))
 show wpAny _ _ (Builtin.SmallTypes.nextOf (.ref i1)>>=_) _ _ _
 refine wpAny_bind (gv (h1.at λo e=>hs₁.extBut _ _ D.i1z e) (hl1.at λo e=>hs₁.extBut _ _ D.l1z e) hx λg₂ h1₂ hs₂=>wpAny_pure ?_)
 have hTO₂:IsPair g₂ TO a b:=hs₂.extBut _ _ D.TOi1 (hs₁.extBut _ _ D.TOz hTO)
 refine wpAny_bind (wpAny_seqItems hTO₂ rfl ?_);refine wpAny_bind (wpAny_updateSeq_pair hTO₂ λg₃ hTO₃ hs₃=>?_)
 replace hTO₃:IsPair g₃ TO x b:=hTO₃;refine wpAny_bind (wpAny_letGo (wpAny_pure ?_));refine wpAny_bind (wpAny_bind (wpAny_onRaise ?_))
 show wpAny _ _ (Builtin.SmallTypes.nextOf (.ref i2)>>=_) _ _ _
 refine wpAny_bind (gv (h2.at λo e=>hs₃.extBut _ _ D.TOi2.symm (hs₂.extBut _ _ D.i12.symm (hs₁.extBut _ _ D.i2z e))) (hl2.at λo e=>hs₃.extBut _ _ D.l2TO (hs₂.extBut _ _ D.l2i1 (hs₁.extBut _ _ D.l2z e))) hy λg₄ h2₄ hs₄=>wpAny_pure ?_)
 have hTO₄:IsPair g₄ TO x b:=hs₄.extBut _ _ D.TOi2 hTO₃
 refine wpAny_bind (wpAny_seqItems hTO₄ rfl ?_);refine wpAny_bind (wpAny_updateSeq_pair hTO₄ λg₅ hTO₅ hs₅=>?_)
 replace hTO₅:IsPair g₅ TO x y:=hTO₅;refine wpAny_bind (wpAny_letGo (wpAny_pure (wpAny_pure ?_)))
 refine wpAny_bind (wpAny_seqItems hTO₅ rfl ?_);refine wpAny_bind (wpAny_newTuple ?_)
 have hsz:g₅.objs.size=s.heap.objs.size:=by rw[hs₅.1,hs₄.1,hs₃.1,hs₂.1,hs₁.1]
 have hz₅:IsZip g₅ z TI TO .ellipsis:=hs₅.extBut _ _ D.TOz.symm (hs₄.extBut _ _ D.i2z.symm (hs₃.extBut _ _ D.TOz.symm (hs₂.extBut _ _ D.i1z.symm hz₁)))
 have hk₅:∀c o,c≠z->c≠TO->c≠i1->c≠i2->s.heap.get? c=some o->g₅.get? c=some o:=λc o c1 c2 c3 c4 e=>hs₅.extBut _ _ c2 (hs₄.extBut _ _ c4 (hs₃.extBut _ _ c2 (hs₂.extBut _ _ c3 (hs₁.extBut _ _ c1 e))))
 have h1₅:KIt k1 g₅ i1 l1 (n1+1):=h1₂.at λo e=>hs₅.extBut _ _ D.TOi1.symm (hs₄.extBut _ _ D.i12 (hs₃.extBut _ _ D.TOi1.symm e))
 have h2₅:KIt k2 g₅ i2 l2 (n2+1):=h2₄.at λo e=>hs₅.extBut _ _ D.TOi2.symm e
 have Mf:z<g₅.objs.size:=Heap.lt_size hz₅
 show wpAny _ _ (Builtin.SmallTypes.ownedTupleHandOut (.ref z) (.ref g₅.objs.size)>>=_) _ _ _;refine wpAny_bind ?_
 unfold Builtin.SmallTypes.ownedTupleHandOut
 have hz₆:IsZip (g₅.push { cls:=.type "tuple",data:=.seq #[x,y] }) z TI TO .ellipsis:=Heap.get?_push_of_some _ hz₅
 refine wpAny_bind (wpAny_setField_rec hz₆ (by simp) λg₇ hz₇ hs₇=>?_);replace hz₇:IsZip g₇ z TI TO (rawInt g₅.objs.size):=hz₇
 refine wpAny_setField_rec hz₇ (by simp) λg₈ hz₈ hs₈=>?_
 replace hz₈:IsZip g₈ z TI TO (rawInt g₅.objs.size):=hz₈
 have up:∀c o,c≠z->g₅.get? c=some o->g₈.get? c=some o:=λc o c1 e=>hs₈.extBut _ _ c1 (hs₇.extBut _ _ c1 (Heap.get?_push_of_some _ e))
 have hT₈:IsPair g₈ g₅.objs.size x y:=hs₈.extBut _ _ (Nat.ne_of_gt Mf) (hs₇.extBut _ _ (Nat.ne_of_gt Mf) (Heap.get?_push_size _ rfl))
 have hz8:g₈.objs.size=g₅.objs.size+1:=by rw[hs₈.1,hs₇.1,Heap.size_push]
 rw[hsz] at hz₈ hT₈ hz8
 refine wpAny_pure ⟨_,rfl,?_⟩
 show Q (.ref g₅.objs.size) _
 rw[hsz]
 exact hQ g₈ hz₈ (up _ _ D.TOz hTO₅) (h1₅.at λo e=>up _ o D.i1z e) (h2₅.at λo e=>up _ o D.i2z e) hT₈ hz8 λc o c1 c2 c3 c4 e=>up c o c1 (hk₅ c o c1 c2 c3 c4 e)
theorem Df{k1 k2:Bool}{z TI TO i1 i2 l1 l2:Addr}{n1 n2:Nat}{xs ys:Array Value}{a b:Value}{Q:Fin->Shared->Prop}(hh:A.handled=none)(D:ZipApart z TI TO i1 i2 l1 l2)
  (hz:IsZip s.heap z TI TO .none) (hTI:IsPair s.heap TI (.ref i1) (.ref i2)) (hTO:IsPair s.heap TO a b) (h1:KIt k1 s.heap i1 l1 n1) (h2:KIt k2 s.heap i2 l2 n2) (hl1:KSq k1 s.heap l1 xs) (hl2:KSq k2 s.heap l2 ys) (pk:xs[n1]?=none∨ys[n2]?=none)
  (hE:∀h' e,(∀c o,c≠z->c≠TO->c≠i1->c≠i2->s.heap.get? c=some o->h'.get? c=some o)->(∃o,h'.get? e=some o/\o.cls=.type "StopIteration")->E (.ref e) { s with heap:=h' }) :
  wpAny (model prog w) A (Builtin.«zip.__next__» ⟨[.ref z],[]⟩) Q E s:=by
 show wpAny _ _ (field (.ref z) 2>>=_) _ _ _;refine wpAny_bind (wpAny_field hz rfl (x:=.bool false) rfl ?_)
 show wpAny _ _ (field (.ref z) 3>>=_) _ _ _;refine wpAny_bind (wpAny_field hz rfl (x:=.ref TI) rfl ?_)
 refine wpAny_bind (wpAny_seqItems hTI rfl ?_);show wpAny _ _ (Builtin.SmallTypes.ownedTupleIsFree (.ref z)>>=_) _ _ _;refine wpAny_bind ?_
 unfold Builtin.SmallTypes.ownedTupleIsFree;refine wpAny_bind (wpAny_field hz rfl (x:=.none) rfl (wpAny_pure ?_))
 simp only[if_true];refine wpAny_bind (wpAny_rule ?_);refine wpAny_bind (wpAny_field hz rfl (x:=.ref TO) rfl ?_)
 refine wpAny_bind (wpAny_setField_rec hz (by simp) λg₁ hz₁ hs₁=>?_);replace hz₁:IsZip g₁ z TI TO .ellipsis:=hz₁
 refine wpAny_bind ?_;simp only[List.zipIdx_cons,List.zipIdx_nil,List.forIn_cons,List.forIn_nil];refine wpAny_bind (wpAny_bind (wpAny_onRaise ?_))
 show wpAny _ _ (Builtin.SmallTypes.nextOf (.ref i1)>>=_) _ _ _
 have h1':=h1.at λo e=>hs₁.extBut _ _ D.i1z e
 have Mg:=hl1.at λo e=>hs₁.extBut _ _ D.l1z e
 cases hx:xs[n1]? with
 | none =>
  refine wpAny_bind (j5 hh h1' Mg hx λg₂ e hs₂ he=>?_)
  obtain⟨oe,hoe,hce⟩:=he
  have hz₂:IsZip g₂ z TI TO .ellipsis:=hs₂ _ _ D.i1z.symm hz₁
  have hez:e≠z:=λq=>by subst q;rw[hz₂] at hoe;cases hoe;simp at hce
  exact wpAny_setField_rec hz₂ (by simp) λg₃ _ hs₃=>hE g₃ e (λc o c1 _ c3 _ q=>hs₃.extBut _ _ c1 (hs₂ _ _ c3 (hs₁.extBut _ _ c1 q))) ⟨oe,hs₃.extBut _ _ hez hoe,hce⟩
 | some x =>
  have hy:ys[n2]?=none:=by
   rcases pk with h|h
   ·rw[hx] at h;cases h
   ·exact h
  refine wpAny_bind (gv h1' Mg hx λg₂ h1₂ hs₂=>wpAny_pure ?_)
  have hTO₂:IsPair g₂ TO a b:=hs₂.extBut _ _ D.TOi1 (hs₁.extBut _ _ D.TOz hTO)
  refine wpAny_bind (wpAny_seqItems hTO₂ rfl ?_);refine wpAny_bind (wpAny_updateSeq_pair hTO₂ λg₃ hTO₃ hs₃=>?_)
  refine wpAny_bind (wpAny_letGo (wpAny_pure ?_));refine wpAny_bind (wpAny_bind (wpAny_onRaise ?_))
  show wpAny _ _ (Builtin.SmallTypes.nextOf (.ref i2)>>=_) _ _ _
  refine wpAny_bind (j5 hh (h2.at λo e=>hs₃.extBut _ _ D.TOi2.symm (hs₂.extBut _ _ D.i12.symm (hs₁.extBut _ _ D.i2z e))) (hl2.at λo e=>hs₃.extBut _ _ D.l2TO (hs₂.extBut _ _ D.l2i1 (hs₁.extBut _ _ D.l2z e))) hy λg₄ e hs₄ he=>?_)
  obtain⟨oe,hoe,hce⟩:=he
  have hz₄:IsZip g₄ z TI TO .ellipsis:=hs₄ _ _ D.i2z.symm (hs₃.extBut _ _ D.TOz.symm (hs₂.extBut _ _ D.i1z.symm hz₁))
  have hez:e≠z:=λq=>by subst q;rw[hz₄] at hoe;cases hoe;simp at hce
  exact wpAny_setField_rec hz₄ (by simp) λg₅ _ hs₅=>hE g₅ e (λc o c1 c2 c3 c4 q=>hs₅.extBut _ _ c1 (hs₄ _ _ c4 (hs₃.extBut _ _ c2 (hs₂.extBut _ _ c3 (hs₁.extBut _ _ c1 q))))) ⟨oe,hs₅.extBut _ _ hez hoe,hce⟩
theorem tP{k1 k2:Bool}{z TI TO i1 i2 l1 l2:Addr}{n1 n2:Nat}{xs ys:Array Value}{x y a b:Value}{Q:Option Value->Shared->Prop}(D:ZipApart z TI TO i1 i2 l1 l2)
  (hz:IsZip s.heap z TI TO .none) (hTI:IsPair s.heap TI (.ref i1) (.ref i2)) (hTO:IsPair s.heap TO a b) (h1:KIt k1 s.heap i1 l1 n1) (h2:KIt k2 s.heap i2 l2 n2) (hl1:KSq k1 s.heap l1 xs) (hl2:KSq k2 s.heap l2 ys) (hx:xs[n1]?=some x) (hy:ys[n2]?=some y)
  (hQ:∀h',IsZip h' z TI TO (rawInt s.heap.objs.size)->IsPair h' TO x y->KIt k1 h' i1 l1 (n1+1)->KIt k2 h' i2 l2 (n2+1)->IsPair h' s.heap.objs.size x y->h'.objs.size=s.heap.objs.size+1 ->
   (∀c o,c≠z->c≠TO->c≠i1->c≠i2->s.heap.get? c=some o->h'.get? c=some o)->Q (some (.ref s.heap.objs.size)) { s with heap:=h' }):wpAny (model prog w) A (pyNext (.ref z)) Q E s:=by
 have hT:s.TypeIs (.ref z) "zip":=⟨_,hz,rfl⟩
 unfold pyNext
 exact wpAny_bind (wpAny_attempt (wpAny_callSpecial?_slot (name:=Str.ofString "__next__") hT F.slot_zip_next (wpAny_call_entry F.slot_zip_next hT F.entry_zip_next
  (AI D hz hTI hTO h1 h2 hl1 hl2 hx hy λh' a1 a2 a3 a4 a5 a6 a7=>wpAny_pure (hQ h' a1 a2 a3 a4 a5 a6 a7)) (F.args_zip_next_1 _))))
theorem ve{k1 k2:Bool}{z TI TO i1 i2 l1 l2:Addr}{n1 n2:Nat}{xs ys:Array Value}{a b:Value}{Q:Option Value->Shared->Prop}(hh:A.handled=none)(D:ZipApart z TI TO i1 i2 l1 l2)
  (hz:IsZip s.heap z TI TO .none) (hTI:IsPair s.heap TI (.ref i1) (.ref i2)) (hTO:IsPair s.heap TO a b) (h1:KIt k1 s.heap i1 l1 n1) (h2:KIt k2 s.heap i2 l2 n2) (hl1:KSq k1 s.heap l1 xs) (hl2:KSq k2 s.heap l2 ys) (pk:xs[n1]?=none∨ys[n2]?=none)
  (hQ:∀h',(∀c o,c≠z->c≠TO->c≠i1->c≠i2->s.heap.get? c=some o->h'.get? c=some o)->Q none { s with heap:=h' }):wpAny (model prog w) A (pyNext (.ref z)) Q E s:=by
 have hT:s.TypeIs (.ref z) "zip":=⟨_,hz,rfl⟩
 unfold pyNext
 refine wpAny_bind (wpAny_attempt (wpAny_callSpecial?_slot (name:=Str.ofString "__next__") hT F.slot_zip_next (wpAny_call_entry F.slot_zip_next hT F.entry_zip_next (Df hh D hz hTI hTO h1 h2 hl1 hl2 pk λh' e hk he=>?_) (F.args_zip_next_1 _))))
 obtain⟨o,ho,hc⟩:=he
 refine wpAny_bind (wpAny_isInstance (T:="StopIteration") (b:=true) ⟨o,ho,hc⟩ isSubtype_stop ?_);exact wpAny_pure (hQ _ hk)
end
def dy(k:Bool)(l:Addr):Obj:={ cls:=.type (if k then "list_iterator" else "tuple_iterator"),data:=.fields #[.ref l,.int 0 0] }
abbrev zH2(k1 k2:Bool)(h:Heap)(l1 l2:Addr):Heap:=(h.push (dy k1 l1)).push (dy k2 l2)
abbrev zH4(k1 k2:Bool)(h:Heap)(l1 l2:Addr):Heap:=((zH2 k1 k2 h l1 l2).push { cls:=.type "tuple",data:=.seq #[.ref h.objs.size,.ref (h.push (dy k1 l1)).objs.size] }).push { cls:=.type "tuple",data:=.seq #[.none,.none] }
abbrev zH5(k1 k2:Bool)(h:Heap)(l1 l2:Addr):Heap:=(zH4 k1 k2 h l1 l2).push { cls:=.type "zip",data:=.fields #[.none,.bool false,.bool false,.ref (zH2 k1 k2 h l1 l2).objs.size,.ref ((zH2 k1 k2 h l1 l2).push { cls:=.type "tuple",data:=.seq #[.ref h.objs.size,.ref (h.push (dy k1 l1)).objs.size] }).objs.size] }
set_option maxHeartbeats 4000000 in
theorem Gw(k1 k2:Bool)(l1 l2:Addr)(xs ys:Array Value) :
  Meets (Builtin.«zip.__new__» ⟨[.type "zip",.ref l1,.ref l2],[]⟩) (λ_ R s=>KSq k1 s.heap l1 xs/\KSq k2 s.heap l2 ys/\R (.ok (.ret (.ref (zH4 k1 k2 s.heap l1 l2).objs.size))) { s with heap:=zH5 k1 k2 s.heap l1 l2 }) :=
 .of_wp λprog w A R s h=>by
  obtain⟨hp,g,d,tk,os⟩:=s;obtain⟨hl1,hl2,h⟩:=h
  have Gx:=sub_zip
  cases k1 with
  | true =>
   have hL1:Heap.IsList (Shared.heap ⟨hp,g,d,tk,os⟩) l1 xs:=hl1
   cases k2 with
   | true =>
    have hL2:Heap.IsList (Shared.heap ⟨hp.push { cls:=.type "list_iterator",data:=.fields #[.ref l1,.int 0 0] },g,d,tk,os⟩) l2 ys:=Heap.IsList.push hl2 _
    wp_walk using wpAny_pyIter_list hL1,wpAny_pyIter_list hL2
    exact⟨_,rfl,h⟩
   | false =>
    have hL2:Heap.IsTuple (Shared.heap ⟨hp.push { cls:=.type "list_iterator",data:=.fields #[.ref l1,.int 0 0] },g,d,tk,os⟩) l2 ys:=Heap.IsTuple.push hl2 _
    wp_walk using wpAny_pyIter_list hL1,wpAny_pyIter_tuple hL2
    exact⟨_,rfl,h⟩
  | false =>
   have hL1:Heap.IsTuple (Shared.heap ⟨hp,g,d,tk,os⟩) l1 xs:=hl1
   cases k2 with
   | true =>
    have hL2:Heap.IsList (Shared.heap ⟨hp.push { cls:=.type "tuple_iterator",data:=.fields #[.ref l1,.int 0 0] },g,d,tk,os⟩) l2 ys:=Heap.IsList.push hl2 _
    wp_walk using wpAny_pyIter_tuple hL1,wpAny_pyIter_list hL2
    exact⟨_,rfl,h⟩
   | false =>
    have hL2:Heap.IsTuple (Shared.heap ⟨hp.push { cls:=.type "tuple_iterator",data:=.fields #[.ref l1,.int 0 0] },g,d,tk,os⟩) l2 ys:=Heap.IsTuple.push hl2 _
    wp_walk using wpAny_pyIter_tuple hL1,wpAny_pyIter_tuple hL2
    exact⟨_,rfl,h⟩
theorem KIt.new{k:Bool}{h:Heap}{i l:Addr}(e:h.get? i=some (dy k l)):KIt k h i l 0:=by
 cases k with
 | true=>exact⟨_,e,rfl,rfl⟩
 | false=>exact⟨_,e,rfl,rfl⟩
section
variable{prog:Program}{w:World}{A:Around}{E:Value->Shared->Prop}{s:Shared}
theorem AJ{k1 k2:Bool}{l1 l2:Addr}{xs ys:Array Value}{Q:Value->Shared->Prop}(hl1:KSq k1 s.heap l1 xs)(hl2:KSq k2 s.heap l2 ys)
  (h:∀h',IsZip h' (s.heap.objs.size+4) (s.heap.objs.size+2) (s.heap.objs.size+3) .none->IsPair h' (s.heap.objs.size+2) (.ref s.heap.objs.size) (.ref (s.heap.objs.size+1))->IsPair h' (s.heap.objs.size+3) .none .none ->
   KIt k1 h' s.heap.objs.size l1 0->KIt k2 h' (s.heap.objs.size+1) l2 0->h'.objs.size=s.heap.objs.size+5->(∀c o,s.heap.get? c=some o->h'.get? c=some o)->Q (.ref (s.heap.objs.size+4)) { s with heap:=h' }) :
  wpAny (model prog w) A (call (.type "zip") [.ref l1,.ref l2]) Q E s:=by
 refine callType_new F.called_zip (by decide) (F.typeCall_zip_2 _ _) (F.newCall_zip_2 _ _) (λobj=>F.args_object_init_3 obj _ _) F.entry_zip_new (Gw k1 k2 l1 l2 xs ys) ⟨hl1,hl2,?_⟩
 have z1:(s.heap.push (dy k1 l1)).objs.size=s.heap.objs.size+1:=Heap.size_push ..
 have z2:(zH2 k1 k2 s.heap l1 l2).objs.size=s.heap.objs.size+2:=by rw[Heap.size_push,z1]
 have z3:((zH2 k1 k2 s.heap l1 l2).push { cls:=.type "tuple",data:=.seq #[.ref s.heap.objs.size,.ref (s.heap.push (dy k1 l1)).objs.size] }).objs.size=s.heap.objs.size+3:=by rw[Heap.size_push,z2]
 have z4:(zH4 k1 k2 s.heap l1 l2).objs.size=s.heap.objs.size+4:=by rw[Heap.size_push,z3]
 have z5:(zH5 k1 k2 s.heap l1 l2).objs.size=s.heap.objs.size+5:=by rw[Heap.size_push,z4]
 have g5:(zH5 k1 k2 s.heap l1 l2).get? (zH4 k1 k2 s.heap l1 l2).objs.size=some _:=Heap.get?_push_size _ rfl
 have g4:(zH5 k1 k2 s.heap l1 l2).get? ((zH2 k1 k2 s.heap l1 l2).push { cls:=.type "tuple",data:=.seq #[.ref s.heap.objs.size,.ref (s.heap.push (dy k1 l1)).objs.size] }).objs.size=some _:=Heap.get?_push_of_some _ (Heap.get?_push_size _ rfl)
 have g3:(zH5 k1 k2 s.heap l1 l2).get? (zH2 k1 k2 s.heap l1 l2).objs.size=some _:=Heap.get?_push_of_some _ (Heap.get?_push_of_some _ (Heap.get?_push_size _ rfl))
 have g2:(zH5 k1 k2 s.heap l1 l2).get? (s.heap.push (dy k1 l1)).objs.size=some (dy k2 l2):=Heap.get?_push_of_some _ (Heap.get?_push_of_some _ (Heap.get?_push_of_some _ (Heap.get?_push_size _ rfl)))
 have g1:(zH5 k1 k2 s.heap l1 l2).get? s.heap.objs.size=some (dy k1 l1):=Heap.get?_push_of_some _ (Heap.get?_push_of_some _ (Heap.get?_push_of_some _ (Heap.get?_push_of_some _ (Heap.get?_push_size _ rfl))))
 show _/\_
 rw[z2,z3,z4] at g5;rw[z1,z2] at g3;rw[z3] at g4;rw[z1] at g2;rw[z4]
 exact⟨⟨_,g5,rfl⟩,h _ g5 g3 g4 (KIt.new g1) (KIt.new g2) z5 λc o q =>
  Heap.get?_push_of_some _ (Heap.get?_push_of_some _ (Heap.get?_push_of_some _ (Heap.get?_push_of_some _ (Heap.get?_push_of_some _ q))))⟩
end
def fv(K:PySem.W.Frag)(k:Bool)(H:Hp)(a:Addr)(xs:List V):Prop:=match k with
 | true=>SqL K H a xs
 | false=>SqT K H a xs
theorem Inv.ksq{X:Cx}{pins:List (Addr×Obj)}{σ:L2.St}{H:Hp}{s:Shared}{k:Bool}{a:Addr}{xs:List V}(I:Inv X pins σ H s)(h:fv X.K k H a xs):∃its:List Value,Vals xs its/\KSq k s.heap a its.toArray/\xs.length≤sizeLine:=by
 cases k with
 | true=>obtain⟨its,r,p,z⟩:=I.list h;exact⟨its,r,p.isList,z⟩
 | false=>obtain⟨its,r,p,z⟩:=I.tuple h;exact⟨its,r,p,z⟩
theorem Inv.oI{X:Cx}{pins:List (Addr×Obj)}{σ:L2.St}{H:Hp}{s:Shared}{k:Bool}{a:Addr}{xs ys:List V}(I:Inv X pins σ H s)(h:fv X.K k H a xs)(h':fv X.K k H a ys):xs=ys:=by
 cases k with
 | true=>exact I.uB h h'
 | false=>exact I.qX h h'
def Itz(K:PySem.W.Frag)(k1 k2:Bool)(a b:Addr):It :=
 ⟨λi H=>∃xs ys x y,fv K k1 H a xs/\fv K k2 H b ys/\xs[i]?=some x/\ys[i]?=some y,
  λi H v H'=>∃p x y,v=.ref p/\H p=none/\H'=upd H p (.tup [x,y])/\(∀xs,fv K k1 H a xs->xs[i]?=some x)/\∀ys,fv K k2 H b ys->ys[i]?=some y,
  λi H=>∃xs ys,fv K k1 H a xs/\fv K k2 H b ys/\(xs.length≤i∨ys.length≤i)⟩
theorem dz{X:Cx}{pins:List (Addr×Obj)}{σ:L2.St}{H:Hp}{s:Shared}{k:Bool}{a c:Addr}{xs:List V}(I:Inv X pins σ H s)(h:fv X.K k H a xs)(hf:je X pins H c):a≠c:=λe=>by
 subst e
 have key:∀o,X.K.lookup a=some o->False:=λo hk=>by
  have hb:=I.ok.mod.kin a o hk
  rcases hf.2.2.2.1 with z|z
  ·exact I.ok.zM a o hb z
  ·exact absurd (Nat.lt_of_lt_of_le (Heap.lt_size hb) (Nat.le_trans I.ok.bsz z)) (Nat.lt_irrefl _)
 cases k with
 | true =>
  rcases h with (h|⟨o,h⟩)|⟨o,its,n,hk,_⟩
  ·rw[hf.1] at h;cases h
  ·rw[hf.1] at h;cases h
  ·exact key o hk
 | false =>
  have h:H a=some (.tup xs):=h
  rw[hf.1] at h;cases h
section
variable{X:Cx}{pins:List (Addr×Obj)}{σ:L2.St}{H:Hp}{s:Shared}{h':Heap}{ch:List Addr}
theorem yT{b:Addr}{u o:HO}{H':Hp}{tr:Addr}(I:Inv X pins σ H s)(k:∀b o,b∉ch->s.heap.get? b=some o->h'.get? b=some o)(hf:∀b∈ch,je X pins H b)(e:H b=some u)
  (ho:∀c,H c=some (.own b)->H' c=some (.own b)) (ht:∀c xs,H c=some (.tup xs)->H' c=some (.tup xs)):cG X.prog X.w H' h' b u:=by
 refine(I.hok b u e).uy (λc v hc q=>k c v (λz=>?_) q) ho ht
 have hn:=(hf c z).1
 rcases hc with rfl|hc
 ·rw[hn] at e;cases e
 ·rw[hn] at hc;cases hc
theorem Inv.oJ{t':Nat}(I:Inv X pins σ H s)(k:∀b o,b∉ch->s.heap.get? b=some o->h'.get? b=some o)(hf:∀b∈ch,je X pins H b):Inv X pins σ H { s with heap:=h',toks:=t' }:=by
 refine I.step (g':=s.gens) (d':=s.drawn) (ch:=ch) (λb hb=>⟨(hf b hb).2.2.2.1,(hf b hb).2.1,(hf b hb).2.2.2.2.1,(hf b hb).2.2.2.2.2⟩) (λb o _ _ hc e _=>k b o hc e) (λb o _ _ hc e _=>⟨o.slots,k b o hc e⟩) (λ_ _ _ _ n=>n)
  (λb o hc e=>⟨o,k b o hc e⟩) (λ_ _ e=>e) (λ_ _ _ e=>e) (λb ps e=>⟨#[],by rw[e];simp⟩) (λm hm=>?_) (λb u e=>yT (o:=u) (tr:=b) I k hf e (λ_ q=>q) λ_ _ q=>q) I.bare
 obtain⟨o,es,ep,ho,r⟩:=hm
 exact⟨o,es,ep,k _ o (λz=>(hf _ z).2.1 rfl) ho,r⟩
theorem Inv.oK{o:HO}(I:Inv X pins σ H s)(k:∀b o,b∉ch->s.heap.get? b=some o->h'.get? b=some o)(hf:∀b∈ch,je X pins H b)(new:cG X.prog X.w (upd H s.heap.objs.size o) h' s.heap.objs.size o) :
  Inv X pins σ (upd H s.heap.objs.size o) { s with heap:=h' }:=by
 have hn:H s.heap.objs.size=none:=I.hok.fresh (Nat.le_refl _)
 have ne:∀{b:Addr}{ob:Obj},s.heap.get? b=some ob->b≠s.heap.objs.size:=λe=>Nat.ne_of_lt (Heap.lt_size e)
 refine I.step (g':=s.gens) (d':=s.drawn) (t':=s.toks) (ch:=ch) (λb hb=>⟨(hf b hb).2.2.2.1,(hf b hb).2.1,(hf b hb).2.2.2.2.1,(hf b hb).2.2.2.2.2⟩) (λb o _ _ hc e _=>k b o hc e) (λb o _ _ hc e _=>⟨o.slots,k b o hc e⟩) (λb ob _ e n=>by rw[aF (ne e)];exact n)
  (λb o hc e=>⟨o,k b o hc e⟩) (λb xs q=>by rw[aF (cq q hn)];exact q) (λb u xs q=>by rw[aF (cq q hn)];exact q) (λb ps q=>⟨#[],by rw[aF (cq q hn),q];simp⟩) (λm hm=>?_) (λb u e=>?_) I.bare
 ·obtain⟨o,es,ep,ho,r⟩:=hm
  exact⟨o,es,ep,k _ o (λz=>(hf _ z).2.1 rfl) ho,r⟩
 ·by_cases hb:b=s.heap.objs.size
  ·subst hb;rw[az] at e;cases e;exact new
  ·rw[aF hb] at e
   exact yT (o:=u) (tr:=b) I k hf e (λc q=>by rw[aF (cq q hn)];exact q) λc xs q=>by rw[aF (cq q hn)];exact q
end
structure ZSt(k1 k2:Bool)(z TI TO i1 i2 l1 l2:Addr)(i:Nat)(h:Heap):Prop where
 z:IsZip h z TI TO .none
 ti:IsPair h TI (.ref i1) (.ref i2)
 to:∃a b,IsPair h TO a b
 one:KIt k1 h i1 l1 i
 two:KIt k2 h i2 l2 i
theorem Mh{P:Addr->Prop}{a b c d e:Addr}(h1:P a)(h2:P b)(h3:P c)(h4:P d)(h5:P e):∀x∈[a,b,c,d,e],P x:=by
 simp[h1,h2,h3,h4,h5]
theorem HG{a b c d e x:Addr}(h:x∈[a,c,d,e]):x∈[a,b,c,d,e]:=by
 simp at h ⊢
 rcases h with h|h|h|h<;>simp[h]
theorem Mi{a b c d x:Addr}(h:x∉[a,b,c,d]):x≠a/\x≠b/\x≠c/\x≠d:=by
 simpa using h
theorem Dg {P : Program} {w : World} {K : PySem.W.Frag} {elts : List Expr} {x1 : Nat} {pos : Pos} {k1 k2 : Bool} {z TI TO i1 i2 l1 l2 : Addr} (d1 : TI ≠ TO) (d2 : i1 ≠ i2) :
    Turn P w K (.Tuple elts x1 pos) (Itz K k1 k2 l1 l2) [z, TI, TO, i1, i2] z (ZSt k1 k2 z TI TO i1 i2 l1 l2) := by
  have ap : ∀ {X : Cx} {pins : List (Addr × Obj)} {σ : L2.St} {H : Hp} {s : Shared} {i : Nat} {xs ys : List V}, X.K = K -> Inv X pins σ H s -> (∀ b ∈ [z, TI, TO, i1, i2], je X pins H b) -> ZSt k1 k2 z TI TO i1 i2 l1 l2 i s.heap -> fv K k1 H l1 xs -> fv K k2 H l2 ys -> ZipApart z TI TO i1 i2 l1 l2 := by
    intro X pins σ H s i xs ys hK I hf st h1 h2
    subst hK
    obtain ⟨a, b, hto⟩ := st.to
    obtain ⟨o1, e1, q1⟩ := st.one.ob
    obtain ⟨o2, e2, q2⟩ := st.two.ob
    have neP : ∀ {c d : Addr} {o : Obj} {u v : Value} {vs : Array Value}, IsPair s.heap c u v -> s.heap.get? d = some o -> o.data = .fields vs -> c ≠ d := fun {c d o u v vs} hp ho hd e => by
      subst e
      have hp : s.heap.get? c = some { cls := .type "tuple", data := .seq #[u, v] } := hp
      rw [hp] at ho; cases ho; cases hd
    have neZ : ∀ {d : Addr} {l : Addr} {o : Obj} {n : Nat}, s.heap.get? d = some o -> o.data = .fields #[.ref l, .int n 0] -> d ≠ z := fun {d l o n} ho hd e => by
      subst e
      have hz : s.heap.get? d = some _ := st.z
      rw [hz] at ho; cases ho
      have : (#[Value.none, .bool false, .bool false, .ref TI, .ref TO] : Array Value) = #[.ref l, .int n 0] := by injection hd
      exact absurd (congrArg Array.size this) (by simp)
    have w : ∀ c ∈ [z, TI, TO, i1, i2], l1 ≠ c /\ l2 ≠ c := fun c hc => ⟨dz I h1 (hf c hc), dz I h2 (hf c hc)⟩
    exact { TIz := neP st.ti st.z rfl, TOz := neP hto st.z rfl, i1z := neZ e1 q1, i2z := neZ e2 q2, TITO := d1, TIi1 := neP st.ti e1 q1, TIi2 := neP st.ti e2 q2, TOi1 := neP hto e1 q1, TOi2 := neP hto e2 q2, i12 := d2,
            l1z := (w z (.head _)).1, l1TO := (w TO (.tail _ (.tail _ (.head _)))).1, l1i1 := (w i1 (.tail _ (.tail _ (.tail _ (.head _))))).1, l1i2 := (w i2 (.tail _ (.tail _ (.tail _ (.tail _ (.head _)))))).1, l2z := (w z (.head _)).2, l2TO := (w TO (.tail _ (.tail _ (.head _)))).2, l2i1 := (w i1 (.tail _ (.tail _ (.tail _ (.head _))))).2, l2i2 := (w i2 (.tail _ (.tail _ (.tail _ (.tail _ (.head _)))))).2 }
  refine ⟨by simp, fun i h st => ?_, fun i h h' st k => ?_, ?_, ?_, fun A i s Q E st hq => wpAny_pyIter_zip st.z hq⟩
  · obtain ⟨a, b', hto⟩ := st.to
    obtain ⟨o1, e1, q1⟩ := st.one.ob
    obtain ⟨o2, e2, q2⟩ := st.two.ob
    exact Mh ⟨_, st.z, fun v e => by cases e⟩ ⟨_, st.ti, fun v e => by cases e⟩ ⟨_, hto, fun v e => by cases e⟩ ⟨_, e1, fun v e => by rw [q1] at e; cases e⟩ ⟨_, e2, fun v e => by rw [q2] at e; cases e⟩
  · obtain ⟨a, b', hto⟩ := st.to
    exact ⟨k z (.head _) _ st.z, k TI (.tail _ (.head _)) _ st.ti, ⟨a, b', k TO (.tail _ (.tail _ (.head _))) _ hto⟩, st.one.at fun o e => k i1 (.tail _ (.tail _ (.tail _ (.head _)))) o e, st.two.at fun o e => k i2 (.tail _ (.tail _ (.tail _ (.tail _ (.head _))))) o e⟩
  · intro X hP hw hK hc i pins s σ H E I hf st hg
    obtain ⟨xs, ys, x, y, h1, h2, hx, hy⟩ := hg
    have D := ap hK I hf st h1 h2
    subst hP hw hK
    obtain ⟨jb, r1, s1, z1⟩ := I.ksq h1
    obtain ⟨g8, r2, s2, z2⟩ := I.ksq h2
    obtain ⟨u, hu, ru⟩ := r1.get hx
    obtain ⟨v, hv, rv⟩ := r2.get hy
    obtain ⟨a, b', hto⟩ := st.to
    refine tP D st.z st.ti hto st.one st.two s1 s2 (x := u) (y := v) (by simpa using hu) (by simpa using hv) fun h' g1 g2 g3 g4 g5 g6 g7 => ⟨_, rfl, ?_⟩
    refine wpAny_letOwnedTupleGo_zip g1 fun h'' q1 q2 => ?_
    have lt : ∀ {c : Addr} {o : Obj}, s.heap.get? c = some o -> c ≠ s.heap.objs.size := fun e => Nat.ne_of_lt (Heap.lt_size e)
    have hTz : s.heap.objs.size ≠ z := (lt st.z).symm
    obtain ⟨o1, e1, _⟩ := st.one.ob
    obtain ⟨o2, e2, _⟩ := st.two.ob
    have new : IsPair h'' s.heap.objs.size u v := q2.extBut _ _ hTz g5
    refine ⟨.ref s.heap.objs.size, upd H s.heap.objs.size (.tup [x, y]), ?_, rfl, ⟨s.heap.objs.size, x, y, rfl, I.hok.fresh (Nat.le_refl _), rfl, fun ws hw => by rw [I.oI hw h1]; exact hx, fun ws hw => by rw [I.oI hw h2]; exact hy⟩, ?_, fun c hcm => ?_⟩
    · refine I.oK (ch := [z, TO, i1, i2]) (fun c o hcn e => ?_) (fun c hcm => hf c (HG hcm)) ?_
      · have hcn := Mi hcn
        exact q2.extBut _ _ hcn.1 (g7 c o hcn.1 hcn.2.1 hcn.2.2.1 hcn.2.2.2 e)
      · exact ⟨by show 2 ≤ sizeLine; decide, [u, v], .cons ru (.cons rv .nil), ⟨_, new, rfl, 0, rfl⟩⟩
    · exact ⟨q1, q2.extBut _ _ D.TIz (g7 TI _ D.TIz D.TITO D.TIi1 D.TIi2 st.ti), ⟨_, _, q2.extBut _ _ D.TOz g2⟩, g3.at fun o e => q2.extBut _ _ D.i1z e, g4.at fun o e => q2.extBut _ _ D.i2z e⟩
    · rw [aF]
      · exact (hf c hcm).1
      · exact Mh (P := fun c => c ≠ s.heap.objs.size) (lt st.z) (lt st.ti) (lt hto) (lt e1) (lt e2) c hcm
  · intro X hP hw hK hc i pins s σ H E I hf st hg
    obtain ⟨xs, ys, h1, h2, hle⟩ := hg
    have D := ap hK I hf st h1 h2
    subst hP hw hK
    obtain ⟨jb, r1, s1, z1⟩ := I.ksq h1
    obtain ⟨g8, r2, s2, z2⟩ := I.ksq h2
    obtain ⟨a, b', hto⟩ := st.to
    have l1' := r1.length
    have l2' := r2.length
    refine ve (I.ok.hd hc) D st.z st.ti hto st.one st.two s1 s2 (by
      rcases hle with q | q
      · exact .inl (by simp; lia)
      · exact .inr (by simp; lia)) fun h' g7 => ⟨rfl, I.oJ (t' := s.toks) (ch := [z, TO, i1, i2]) (fun c o hcn e => ?_) fun c hcm => hf c (HG hcm)⟩
    have hcn := Mi hcn
    exact g7 c o hcn.1 hcn.2.1 hcn.2.2.1 hcn.2.2.2 e
def Mj(K:PySem.W.Frag)(t:TA):TI:=λσ H R=>t σ H λvs H1=>∃a b k1 k2 xs ys,vs=[.ref a,.ref b]/\fv K k1 H1 a xs/\fv K k2 H1 b ys/\R (Itz K k1 k2 a b) H1
theorem JH{X:Cx}{elts:List Expr}{x1:Nat}{cW p pos:Pos}{a b:Expr}{t:TA}(hg:Gl X "zip")(hm:X.mg "zip"=none)(ha:PA X [a,b] t)(he:starEach [a,b] X.env=(false,eval a X.env)::starEach [b] X.env)(hpl:(backTo pos (starEach [b] X.env)).any (·.1)=false) :
  PI X (.Tuple elts x1 cW) (.Call (.Name "zip" p) [a,b] [] pos) (Mj X.K t):=by
 intro pins s σ H R I h
 refine wpAny_Call_Name_kw (fA I hg hm PyProof.Rows.boot_zip ?_ (by decide) (by decide))
 refine PyProof.Rows.callWith_type1 (thn (ha pos pins s σ H _ I h) λus s1 aj=>?_) he hpl
 obtain⟨vs,H1,I1,r1,q1⟩:=aj
 obtain⟨c,d,k1,k2,xs,ys,rfl,h1,h2,q⟩:=q1
 obtain⟨u1,u2,rfl,ru1,ru2⟩:=vals2 r1
 cases ru1
 cases ru2
 obtain⟨jb,_,s1',_⟩:=I1.ksq h1
 obtain⟨g8,_,s2',_⟩:=I1.ksq h2
 refine AJ s1' s2' λh' g1 g2 g3 g4 g5 g6 g7=>wpAny_pyIter_zip g1 ?_
 have I2:Inv X pins σ H1 { s1 with heap:=h' }:=I1.kept (t':=s1.toks) g7
 refine⟨_,_,_,_,H1,rfl,I2,Dg (k1:=k1) (k2:=k2) (TI:=s1.heap.objs.size+2) (TO:=s1.heap.objs.size+3) (i1:=s1.heap.objs.size) (i2:=s1.heap.objs.size+1) (l1:=c) (l2:=d) (λe=>by have e:s1.heap.objs.size+2=s1.heap.objs.size+3:=e;lia) (λe=>by have e:s1.heap.objs.size=s1.heap.objs.size+1:=e;lia),⟨g1,g2,⟨_,_,g3⟩,g4,g5⟩,λe he=>?_,q⟩
 have:s1.heap.objs.size≤e:=by
  simp only[List.mem_cons,List.not_mem_nil,or_false] at he
  rcases he with rfl|rfl|rfl|rfl|rfl
  ·exact Nat.le_add_right _ _
  ·exact Nat.le_add_right _ _
  ·exact Nat.le_add_right _ _
  ·exact Nat.le_refl _
  ·exact Nat.le_add_right _ _
 exact I1.uD this (I1.hok.fresh this)
end L2
namespace Fw
open PySem PySem.Spec PyProof.Rows L2
theorem vf:∀{ts us:List T}{i:Nat}{t:T},(ie ts us)[i]?=some t->∃a b,ts[i]?=some a/\us[i]?=some b/\t=.tup [a,b]
 | [],us,i,t,h=>by simp[ie] at h
 | a::ts,[],i,t,h=>by simp[ie] at h
 | a::ts,b::us,0,t,h=>by simp[ie] at h;exact⟨a,b,rfl,rfl,h.symm⟩
 | a::ts,b::us,i+1,t,h=>by
  obtain⟨c,d,h1,h2,h3⟩:=vf (ts:=ts) (us:=us) (i:=i) (t:=t) (by simpa [ie] using h)
  exact⟨c,d,by simpa using h1,by simpa using h2,h3⟩
theorem iK{K:PySem.W.Frag}{F H:Hp}{v:V}{t:T}{ts:List T}(s:aI F H)(h:Now K F H v t)(e:b_ t=some ts):∃a vs k,v=.ref a/\fv K k H a vs/\aA K F ts vs/\(k=true↔∃l,t=.lst l):=by
 cases t with
 | lst us=>cases e;obtain⟨a,vs,rfl,q,r⟩:=h.iJ;exact⟨a,vs,true,rfl,q,r,by simp⟩
 | tup us=>cases e;obtain⟨a,vs,rfl,q,r⟩:=h.pP;exact⟨a,vs,false,rfl,aI.fm s q,r,by simp⟩
 | _=>cases e
theorem Dh{X:Cx}{elts:List Expr}{x1:Nat}{cW p pos:Pos}{a b:Expr}{da db:D}(hm:X.mg "zip"=none)(ha:CE X a da)(hb:CE X b db)(hg:Gl X "zip":=by rfl)(hs:starEach [a,b] X.env=(false,eval a X.env)::starEach [b] X.env:=by rfl)(hs2:starEach [b] X.env=(false,eval b X.env)::starEach [] X.env:=by rfl)(hpl:(backTo pos (starEach [b] X.env)).any (·.1)=false:=by rfl) :
  CI X (.Tuple elts x1 cW) (.Call (.Name "zip" p) [a,b] [] pos) (An da db) :=
 PI.imp (JH hg hm (ag ha (ag hb aw hs2) hs) hs hpl) λσ H R0 aj=>by
  obtain⟨F,α,e,μ,S,h⟩:=aj
  refine HE ⟨F,α,e,μ,S,(R.wp_bind h).mono (λx μ1 h=>(R.wp_bind h).mono (λy μ2 h v u H1 F1 α1 x1 S1 o1 o2=>?_) λ_ _ h=>h) λ_ _ h=>h⟩
  obtain⟨ts,ht,h⟩:=R.aY (R.wp_bind h)
  obtain⟨us,hu,post⟩:=R.aY (R.wp_bind h)
  obtain⟨t,hr,ht⟩:=Option.bind_eq_some_iff.mp ht
  obtain⟨t2,hr2,hu⟩:=Option.bind_eq_some_iff.mp hu
  obtain⟨a1,vs1,k1,rfl,q1,r1,m1⟩:=iK S1.st.ext (aO S1.st o1 hr) ht
  obtain⟨a2,vs2,k2,rfl,q2,r2,m2⟩:=iK S1.st.ext (aO S1.st o2 hr2) hu
  refine⟨a1,a2,k1,k2,vs1,vs2,rfl,q1,q2,post _ H1 F1 α1 x1 S1 λF2 α2 μ3 H2 s2 p2 S2 same=>?_⟩
  obtain⟨e1,e2⟩:=(show rd μ3 x=rd μ2 x/\rd μ3 y=rd μ2 y from same)
  obtain⟨b1,ws1,j1,g1,n1,l1,m1'⟩:=iK S2.ext (aO S2 (o1.mono s2 p2) (e1.trans hr)) ht
  obtain⟨b2,ws2,j2,g2,n2,l2,m2'⟩:=iK S2.ext (aO S2 (o2.mono s2 p2) (e2.trans hr2)) hu
  cases g1
  cases g2
  have ej1:j1=k1:=by rw[Bool.eq_iff_iff,m1,m1']
  have ej2:j2=k2:=by rw[Bool.eq_iff_iff,m2,m2']
  subst ej1
  subst ej2
  refine⟨λi t hi=>?_,?_⟩
  ·obtain⟨c,d,hc,hd,rfl⟩:=vf hi
   obtain⟨v1,hv1,rv1⟩:=l1.get hc
   obtain⟨v2,hv2,rv2⟩:=l2.get hd
   refine⟨⟨ws1,ws2,v1,v2,n1,n2,hv1,hv2⟩,?_⟩
   rintro z H3 ⟨q,z1,z2,rfl,hq,rfl,f1,f2⟩
   have w1:=f1 ws1 n1
   have w2:=f2 ws2 n2
   rw[hv1] at w1
   rw[hv2] at w2
   cases w1
   cases w2
   have g:bt F2 H2 (upd F2 q (.tup [v1,v2])) (upd H2 q (.tup [v1,v2])):=bt.new hq
   refine⟨_,g,?_⟩
   rw[Rep]
   exact⟨q,_,rfl,SqT.of az,aA.mono (g.same S2.ext) _ _ (.dj rv1 (.dj rv2 .iE))⟩
  ·refine⟨ws1,ws2,n1,n2,?_⟩
   have:=l1.length
   have:=l2.length
   show ws1.length≤(ie ts us).length∨ws2.length≤(ie ts us).length
   rw[u_]
   lia
def tDO(X:Cx)(o:Option D):TO:=λσ H Q=>∃F α e μ,Sim X.K F α e μ σ H/\(pg o e μ).wp (λi μ'=>∀H' F' α',Ex F α H F' α' H'->Sim X.K F' α' e μ' σ H'->Q i H') (eN X F α H e)
def CO(X:Cx)(e:Option Expr)(o:Option D):Prop:=PO X e (tDO X o)
theorem PO.imp{X:Cx}{e:Option Expr}{t t':TO}(h:PO X e t)(i:∀σ H Q,t' σ H Q->t σ H Q):PO X e t':=λpins s σ H Q I q=>h pins s σ H Q I (i σ H Q q)
section
variable{X:Cx}{a b:Expr}{da db:D}{pos p2:Pos}
theorem iL:CO X none none:=PO.imp E_ λσ H Q ⟨F,α,e,μ,S,h⟩=>h H F α Ex.refl S
theorem fT(h:CE X a da):CO X (some a) (some da):=PO.imp (Fb h) λσ H Q aj=>by
 obtain⟨F,α,e,μ,S,h⟩:=aj
 refine⟨F,α,e,μ,S,(R.wp_bind h).mono (λx μ1 h v H1 F1 α1 x1 S1 o1=>?_) λ_ _ h=>h⟩
 obtain⟨i,hi,h⟩:=R.aY (R.wp_bind h)
 obtain⟨t,hr,ht⟩:=Option.bind_eq_some_iff.mp hi
 cases mj ht
 cases (aO S1.st o1 hr).int
 exact⟨i,rfl,h H1 F1 α1 x1 S1⟩
theorem aA.cut{K:PySem.W.Frag}{F:Hp}{ts:List T}{vs:List V}(h:aA K F ts vs)(lo hi:Option Int):aA K F (gi ts lo hi) (uH vs lo hi):=by
 have e:∀d o,Fw.sIx ts.length d o=HT.sIx vs.length d o:=λd o=>by rw[h.length];cases o<;>rfl
 unfold gi uH
 rw[e,e,h.length]
 exact(h.drop _).take _
theorem JI{lo hi:Option Expr}{dl dh:Option D}(ha:CE X a da)(hl:CO X lo dl)(hh:CO X hi dh):CE X (.Subscript a (.Slice lo hi none p2) pos) (Ck da dl dh) :=
 PE.imp (uG (yt.or BW) ha hl hh) λσ H Q aj=>by
  obtain⟨F,α,e,μ,S,h⟩:=aj
  refine⟨F,α,e,μ,S,(R.wp_bind h).mono (λx μ1 h v H1 F1 α1 x1 S1 o1=>⟨F1,α1,e,μ1,S1,?_⟩) λ_ _ h=>h⟩
  refine(R.wp_bind h).mono (λl μ2 h H2 F2 α2 x2 S2=>⟨F2,α2,e,μ2,S2,?_⟩) λ_ _ h=>h.mono x1
  refine(R.wp_bind h).mono (λr μ3 h H3 F3 α3 x3 S3=>?_) λ_ _ h=>h.mono (x1.trans x2)
  obtain⟨w,h9,post⟩:=R.aY h
  obtain⟨t,w',ht,h,rfl⟩:=iz h9
  have nt:=aO S3.st (o1.mono (x2.trans x3).same (x2.trans x3).pre) ht
  have fin:∀v' H' F',bt F3 H3 F' H'->Rep X.K F' w' v'->Q v' H':=λv' H' F' g rp=>post v' H' F' α3 (x1.trans (x2.trans (x3.trans (g.ex S3.st.ext)))) (S3.grow g) rp
  cases t with
  | lst ts =>
   cases h
   obtain⟨c,vs,rfl,hq,hl⟩:=nt.iJ
   exact .inl ⟨c,vs,rfl,hq,λq hq'=>oG S3.st.ext hq' (hl.cut l r) fin⟩
  | tup ts =>
   have h:(if Fw.sIx ts.length 0 l=0/\Fw.sIx ts.length ts.length r=ts.length then none else some (T.tup (gi ts l r)))=some w':=h
   by_cases hc:Fw.sIx ts.length 0 l=0/\Fw.sIx ts.length ts.length r=ts.length
   ·rw[if_pos hc] at h;cases h
   ·rw[if_neg hc] at h
    cases h
    obtain⟨c,vs,rfl,hq,hl⟩:=nt.pP
    refine .inr ⟨c,vs,rfl,aI.fm S3.st.ext hq,?_,λq hq'=>oH S3.st.ext hq' (hl.cut l r) fin⟩
    have e:∀d o,HT.sIx vs.length d o=Fw.sIx ts.length d o:=λd o=>by rw[hl.length];cases o<;>rfl
    rw[e,e,← hl.length]
    exact hc
  | _=>cases h
end
section
variable{X:Cx}{a b c:Expr}{da db dc:D}{pos p p2:Pos}
theorem k9(i:Nat){y:Str}{py cW:Pos}{ik ev:Expr}{dk dv:D}(hk:CE X ik dk)(hv:CE X ev dv)(hN:X.N[i]?=some y:=by rfl)
  (hvs:Vis X.env.scope y:=by first|exact Or.inl rfl|exact Or.inr (Or.inl rfl)|exact Or.inr (Or.inr rfl)) (hd:(y==("__debug__":Str))=false:=by decide) (hcd:(y==("__classdict__":Str))=false:=by decide)
  (ha:∀v,assign (.Subscript (.Name y py) ik cW) X.env v=(do
   let ov ← holding [v] (eval (.Name y py) X.env)
   let iv ← holding [v,ov] (eval ik X.env)
   standAt cW
   holding [v,ov,iv] (setItem ov iv v)
   release [v,ov,iv] []):=by intro _;rfl)
  (hs:swapsWithSole [.Subscript (.Name y py) ik cW] ev pos.line X.env=pure false:=by rfl) (hw:swappedStores [.Subscript (.Name y py) ik cW] ev X.env=pure none:=by rfl)
  (h1:(assignEach [.Subscript (.Name y py) ik cW] X.env).map (·.2)=[assign (.Subscript (.Name y py) ik cW) X.env]:=by rfl) :
  CS X (.Assign [.Subscript (.Name y py) ik cW] ev pos) (cO i dk dv) :=
 PS.imp (wd hv (BK (sC hN hvs hd hcd) hk set_list ha) hs hw h1) λD σ H aj=>by
  obtain⟨F,α,e,μ,S,h⟩:=aj
  refine⟨F,α,e,μ,S,(aV.toS h).mono (λy μ1 h v H1 F1 α1 x1 S1 o1=>?_) λ_ _ h=>h⟩
  obtain⟨x,hx,h⟩:=aV.lift h
  obtain⟨ov,hov,oo⟩:=S1.sl i x hx
  refine⟨ov,hov,F1,α1,e,μ1,S1,(aV.toS h).mono (λz μ2 h v2 H2 F2 α2 x2 S2 o2=>?_) λ_ _ h=>h.mono x1⟩
  obtain⟨k,hk,h⟩:=aV.lift h
  have h:=h.toS
  have nk:=aO S2.st o2 hk
  cases hz:frz y μ2 with
  | err c μ3=>exact absurd hz (oX y μ2 c μ3)
  | bad=>rw[hz] at h;exact h.elim
  | ok t μ3 =>
   rw[hz] at h
   obtain⟨μ4,ha4,h⟩:=aV.lift h
   obtain⟨F3,s3,n3,S3,r3⟩:=kT S2.st (o1.mono x2.same x2.pre) hz
   cases x with
   | cel j =>
    obtain⟨ad,had,rfl⟩:=oo
    cases k with
    | int ki =>
     cases nk.int
     unfold setAt at ha4
     simp only at ha4
     have hc:∃us jj,μ3[j]?=some (true,.lst us)/\Fw.ixN us.length ki=some jj/\μ4=μ3.set j (true,.lst (us.set jj t)):=by
      split at ha4
      ·rename_i us hjs
       obtain⟨jj,e1,e2⟩:=Option.map_eq_some_iff.mp ha4
       exact⟨us,jj,hjs,e1,e2.symm⟩
      ·cases ha4
     obtain⟨us,jj,hj3,hjj,rfl⟩:=hc
     have ha3:α2[j]?=some ad:=e9 x2.pre had
     obtain⟨_,ws,hw,rw'⟩:=(S3.cell j true _ ad hj3 ha3).1 rfl
     have el:=rw'.length
     refine⟨ad,ws,ki,jj,rfl,rfl,hw,by rw[← el];exact hjj,?_⟩
     have x3:Ex F α H F3 α2 H2:=x1.trans (x2.trans (Ex.nG s3 n3))
     exact h σ _ F3 α2 (x3.trans (Ex.put ha3)) ((S2.of s3 (List.prefix_refl _) S3).of (aI.refl _) (List.prefix_refl _) (kU S3 hj3 ha3 ⟨_,az,rw'.set jj r3⟩))
    | _=>unfold setAt at ha4;cases ha4
   | val t=>cases k<;>(unfold setAt at ha4;cases ha4)
   | box xs=>cases k<;>(unfold setAt at ha4;cases ha4)
   | lbx xs=>cases k<;>(unfold setAt at ha4;cases ha4)
theorem w8{r r':R2}{f g:T->T->Option T}(hs:du X.K r f)(hs':du X.K r' g)(hf:∀t u w,f t u=some w->∃k,w=.bl k)(σ:L2.St)(H:Hp)(Q:VK)(h:tD X (sR f g da db dc) σ H Q):BP r r' (tD X da) (tD X db) (tD X dc) σ H Q:=by
 obtain⟨F,α,e,μ,S,h⟩:=h
 refine⟨F,α,e,μ,S,?_⟩
 refine(R.wp_bind h).mono (λx μ1 h v H1 F1 α1 x1 S1 o1=>⟨F1,α1,e,μ1,S1,?_⟩) λ_ _ h=>h
 refine(R.wp_bind h).mono (λy μ2 h v2 H2 F2 α2 x2 S2 o2=>?_) λ_ _ h=>h.mono x1
 obtain⟨w,h9,h⟩:=R.aY (R.wp_bind h)
 obtain⟨t,u,w',ht,hu,hfw,rfl⟩:=mU h9
 obtain⟨k,rfl⟩:=hf t u w' hfw
 obtain⟨k',e1,h⟩:=R.aY (R.wp_bind h)
 cases e1
 refine hs F2 H2 v v2 t u _ _ S2.st.ext (aO S2.st (o1.mono x2.same x2.pre) ht) (aO S2.st o2 hu) hfw λv' H' F' g1 rp=>?_
 have ev:v'=.bl k:=Rep.gK rp
 subst ev
 have x3:Ex F α H F' α2 H':=x1.trans (x2.trans (g1.ex S2.st.ext))
 have S3:=S2.grow g1
 refine⟨k,rfl,?_⟩
 cases k with
 | false =>
  rw[if_neg (by decide)] at h ⊢
  exact h _ H' F' α2 x3 S3 (Rep.bl' (K:=X.K) (F:=F') false)
 | true =>
  rw[if_pos rfl] at h ⊢
  refine⟨F',α2,e,μ2,S3,(R.wp_bind h).mono (λz μ3 h v3 H3 F3 α3 x4 S4 o4=>?_) λ_ _ h=>h.mono x3⟩
  obtain⟨w,h9,post⟩:=R.aY h
  obtain⟨t2,u2,w2,ht2,hu2,hgw,rfl⟩:=mU h9
  exact hs' F3 H3 v2 v3 t2 u2 w2 Q S4.st.ext (aO S4.st ((o2.mono (g1.same S2.st.ext) (List.prefix_refl _)).mono x4.same x4.pre) ht2) (aO S4.st o4 hu2) hgw λv' H' F' g rp =>
   post v' H' F' α3 (x3.trans (x4.trans (g.ex S4.st.ext))) (S4.grow g) rp
theorem JJ(t u w:T)(h:fLe t u=some w):∃k,w=.bl k:=by
 cases t<;>cases u<;>first|(cases h;exact⟨_,rfl⟩)|cases h
theorem pR(ha:CE X a da)(hb:CE X b db)(hc:CE X c dc)(hm:lastMarks [.LtE,.Lt] [b,c]=false:=by with_unfolding_all rfl):CE X (.Compare a [.LtE,.Lt] [b,c] pos) (sR fLe fLt da db dc) :=
 PE.imp (BQ Ls Hz ha hb hc hm) (w8 Jz C2 JJ)
theorem Gy{K:PySem.W.Frag}{F H:Hp}{v:V}{t:T}(h:Now K F H v t):decide (v=.non)=(match t with|.non=>true|_=>false):=by
 cases t with
 | non=>have e:v=.non:=Rep.iD (K:=K) (F:=F) h;subst e;rfl
 | bl b=>have e:=h.bl;subst e;rfl
 | int b=>have e:=h.int;subst e;rfl
 | str b=>have e:=h.str;subst e;rfl
 | lst ts=>obtain⟨a,vs,rfl,_⟩:=h.iJ;rfl
 | tup ts=>obtain⟨a,vs,rfl,_⟩:=h.pP;rfl
 | dct ts=>obtain⟨a,vs,rfl,_⟩:=h;rfl
 | exc c n=>have h:Rep K F (.exc c n) v:=h;rw[Rep] at h;obtain⟨a,rfl,_⟩:=h;rfl
 | dtt fz ts=>obtain⟨a,rfl,_⟩:=h;rfl
def Mk:T->T->Option T:=λt u=>match u with
 | .non=>o_ t
 | _=>none
theorem Gz{K:PySem.W.Frag}:du K (λx y H Q=>y=.non/\Q (.bl (decide (x=.non))) H) Mk:=by
 intro F H v u t t' w Q s hv hu hw q
 cases t' with
 | non =>
  refine⟨Rep.iD (K:=K) (F:=F) hu,?_⟩
  rw[Gy hv]
  refine q _ H F bt.refl ?_
  cases t<;>(cases hw;exact Rep.bl' _)
 | _=>cases hw
theorem GA:ah Mk da (dC .non)=dUn o_ da:=by
 funext e μ
 rw[gH,sM]
 cases da e μ with
 | ok x μ1=>rw[R.aQ,R.aQ,oY,R.aQ];cases rd μ1 x<;>rfl
 | err c μ1=>rfl
 | bad=>rfl
theorem JK{j}(ha:CE X a da):CT X (.Compare a [.Is] [.Constant .none j p] pos) (dUn o_ da):=GA ▸ jo II Gz (ix _) ha Cr
end
section
variable{K:PySem.W.Frag}{F:Hp}
theorem bj.iE:bj K F [] []:=by rw[bj]
theorem bj.dj{k:Key}{t:T}{v:V}{kts:List (Key×T)}{kvs:List (Key×V)}(q:Rep K F t v)(r:bj K F kts kvs):bj K F ((k,t)::kts) ((k,v)::kvs):=by rw[bj];exact⟨v,kvs,rfl,q,r⟩
theorem Di{p:Key×T}{r:List (Key×T)}{k:Key}(e:p.1=k):nU (p::r) k=some p.2:=by simp[nU,List.find?_cons,e]
theorem Dj{p:Key×T}{r:List (Key×T)}{k:Key}(e:¬ p.1=k):nU (p::r) k=nU r k:=by simp[nU,List.find?_cons,e]
theorem bj.val:∀{kts:List (Key×T)}{kvs:List (Key×V)} (k:Key),bj K F kts kvs->(nU kts k=none/\mT kvs k=none)∨∃t v,nU kts k=some t/\mT kvs k=some v/\Rep K F t v
 | [],kvs,k,h=>by rw[bj] at h;subst h;exact .inl ⟨rfl,rfl⟩
 | (k0,t)::kts,kvs,k,h=>by
  rw[bj] at h
  obtain⟨v,mZ,rfl,q,r⟩:=h
  by_cases e:k0=k
  ·exact .inr ⟨t,v,Di (p:=(k0,t)) e,l6 (p:=(k0,v)) e,q⟩
  ·rw[Dj (p:=(k0,t)) e,l7 (p:=(k0,v)) e]
   exact bj.val k r
theorem bj.any:∀{kts:List (Key×T)}{kvs:List (Key×V)} (k:Key),bj K F kts kvs->(kts.any λkv=>decide (kv.1=k))=(kvs.any λkv=>decide (kv.1=k))
 | [],kvs,k,h=>by rw[bj] at h;subst h;rfl
 | (k0,t)::kts,kvs,k,h=>by
  rw[bj] at h
  obtain⟨v,mZ,rfl,q,r⟩:=h
  rw[List.any_cons,List.any_cons,bj.any k r]
theorem bj.wy{t':T}{v':V}(q':Rep K F t' v')(k:Key):∀{kts:List (Key×T)}{kvs:List (Key×V)},bj K F kts kvs->bj K F (kts.map λkv=>if kv.1=k then (kv.1,t') else kv) (kvs.map λkv=>if kv.1=k then (kv.1,v') else kv)
 | [],kvs,h=>by rw[bj] at h;subst h;exact .iE
 | (k0,t)::kts,kvs,h=>by
  rw[bj] at h
  obtain⟨v,mZ,rfl,q,r⟩:=h
  rw[List.map_cons,List.map_cons]
  by_cases e:k0=k
  ·simp only[e,if_true]
   exact .dj q' (bj.wy q' k r)
  ·simp only[e,if_false]
   exact .dj q (bj.wy q' k r)
theorem bj.append:∀{kts uts:List (Key×T)}{kvs uvs:List (Key×V)},bj K F kts kvs->bj K F uts uvs->bj K F (kts++uts) (kvs++uvs)
 | [],uts,kvs,uvs,h,g=>by rw[bj] at h;subst h;exact g
 | (k0,t)::kts,uts,kvs,uvs,h,g=>by
  rw[bj] at h
  obtain⟨v,mZ,rfl,q,r⟩:=h
  exact .dj q (r.append g)
theorem bj.put{kts:List (Key×T)}{kvs:List (Key×V)}{t:T}{v:V}(h:bj K F kts kvs)(k:Key)(q:Rep K F t v):bj K F (tE kts k t) (putK kvs k v):=by
 unfold tE putK
 rw[h.any k]
 by_cases e:(kvs.any λkv=>decide (kv.1=k))=true
 ·rw[if_pos e,if_pos e];exact bj.wy q k h
 ·rw[if_neg e,if_neg e];exact h.append (.dj q .iE)
theorem yU{H:Hp}{v:V}{t:T}{k:Key}(h:Now K F H v t)(e:rG t=some k):v=kV k:=by
 cases t with
 | int i=>cases e;exact h.int
 | str x=>cases e;exact h.str
 | _=>cases e
end
section
variable{X:Cx}{a b c:Expr}{da db dc:D}{pos p p2:Pos}{k:Nat}
theorem vg(hr:cz k X.A):X.A.units+1<cLine:=by have:=hr.units;omega
theorem AK(σ:L2.St)(H:Hp)(Q:VK)(h:tD X (ah pI da db) σ H Q):HC (tD X da) (tD X db) σ H Q:=by
 obtain⟨F,α,e,μ,S,h⟩:=h
 refine⟨F,α,e,μ,S,?_⟩
 refine(R.wp_bind h).mono (λx μ1 h v H1 F1 α1 x1 S1 o1=>⟨F1,α1,e,μ1,S1,?_⟩) λ_ _ h=>h
 refine(R.wp_bind h).mono (λy μ2 h v2 H2 F2 α2 x2 S2 o2=>?_) λ_ _ h=>h.mono x1
 obtain⟨w,h9,post⟩:=R.aY h
 obtain⟨t,u,w',ht,hu,h,rfl⟩:=mU h9
 have n1:=aO S2.st (o1.mono x2.same x2.pre) ht
 have n2:=aO S2.st o2 hu
 cases t with
 | dct kts =>
  obtain⟨kk,hk,h⟩:=Option.bind_eq_some_iff.mp (show(rG u).bind (λk=>nU kts k)=some w' from h)
  obtain⟨ad,kvs,rfl,hq,rd⟩:=n1
  have ek:=yU n2 hk
  subst ek
  rcases rd.val kk with ⟨g1,_⟩|⟨t,v,g1,g2,g3⟩
  ·rw[g1] at h;cases h
  ·rw[g1] at h
   cases h
   exact⟨ad,v,rfl,by rw[← g2];exact zZ.k hq,post v H2 F2 α2 (x1.trans x2) S2 g3⟩
 | _=>cases u<;>cases h
theorem GB(hr:cz k X.A)(ha:CE X a da)(hb:CE X b db)(hs:I_ b:=by intro _ _;rfl):CE X (.Subscript a b pos) (ah pI da db):=PE.imp (Fi (vg hr) ha hb hs) AK
theorem yV(hr:cz k X.A)(i:Nat){y:Str}{py cW:Pos}{ik ev:Expr}{dk dv:D}(hk:CE X ik dk)(hv:CE X ev dv)(hN:X.N[i]?=some y:=by rfl)
  (hvs:Vis X.env.scope y:=by first|exact Or.inl rfl|exact Or.inr (Or.inl rfl)|exact Or.inr (Or.inr rfl)) (hd:(y==("__debug__":Str))=false:=by decide) (hcd:(y==("__classdict__":Str))=false:=by decide)
  (hs:swapsWith ev (some (.Subscript (.Name y py) ik cW)) pos.line X.env=pure false:=by rfl) :
  CS X (.Assign [.Subscript (.Name y py) ik cW] ev pos) (nJ i dk dv) :=
 PS.imp (Fj (vg hr) (sC hN hvs hd hcd) hk hv hs) λD σ H aj=>by
  obtain⟨F,α,e,μ,S,h⟩:=aj
  refine⟨F,α,e,μ,S,(aV.toS h).mono (λy μ1 h v H1 F1 α1 x1 S1 o1=>?_) λ_ _ h=>h⟩
  obtain⟨x,hx,h⟩:=aV.lift h
  obtain⟨ov,hov,oo⟩:=S1.sl i x hx
  refine⟨ov,hov,F1,α1,e,μ1,S1,(aV.toS h).mono (λz μ2 h v2 H2 F2 α2 x2 S2 o2=>?_) λ_ _ h=>h.mono x1⟩
  obtain⟨k,hk,h⟩:=aV.lift h
  have h:=h.toS
  have nk:=aO S2.st o2 hk
  cases hz:frz y μ2 with
  | err c μ3=>exact absurd hz (oX y μ2 c μ3)
  | bad=>rw[hz] at h;exact h.elim
  | ok t μ3 =>
   rw[hz] at h
   obtain⟨μ4,ha4,h⟩:=aV.lift h
   obtain⟨F3,s3,n3,S3,r3⟩:=kT S2.st (o1.mono x2.same x2.pre) hz
   cases x with
   | cel j =>
    obtain⟨ad,had,rfl⟩:=oo
    unfold js at ha4
    simp only at ha4
    have hc:∃kts kk,μ3[j]?=some (true,.dct kts)/\rG k=some kk/\kts.length<szL/\μ4=μ3.set j (true,.dct (tE kts kk t)):=by
     split at ha4
     ·rename_i us hjs
      obtain⟨kk,e1,e2⟩:=Option.bind_eq_some_iff.mp ha4
      by_cases hl:us.length<szL
      ·rw[if_pos hl] at e2
       cases e2
       exact⟨us,kk,hjs,e1,hl,rfl⟩
      ·rw[if_neg hl] at e2;cases e2
     ·cases ha4
    obtain⟨kts,kk,hj3,hkk,hl,rfl⟩:=hc
    have ha3:α2[j]?=some ad:=e9 x2.pre had
    obtain⟨_,kvs,hw,rw'⟩:=(S3.cell j true _ ad hj3 ha3).1 rfl
    have el:=rw'.length
    have ek:=yU nk hkk
    subst ek
    refine⟨ad,_,rfl,B3.k hw (by rw[ng] at hl;omega),?_⟩
    have x3:Ex F α H F3 α2 H2:=x1.trans (x2.trans (Ex.nG s3 n3))
    exact h σ _ F3 α2 (x3.trans (Ex.put ha3)) ((S2.of s3 (List.prefix_refl _) S3).of (aI.refl _) (List.prefix_refl _) (kU S3 hj3 ha3 ⟨_,az,rw'.put kk r3⟩))
   | val t=>unfold js at ha4;cases ha4
   | box xs=>unfold js at ha4;cases ha4
   | lbx xs=>unfold js at ha4;cases ha4
end
end Fw
namespace L2
open PySem PySem.Spec PyProof.Rows
theorem HH{P:Program}{w:World}{k:Key}{u:Value}(h:(b8 P w).is k u=true):RelV (kV k) u:=by
 rcases bP (show oR k u=true from h) with ⟨i,t,rfl,rfl⟩|⟨x,t,rfl,rfl⟩
 ·exact⟨t,rfl⟩
 ·exact⟨t,rfl⟩
theorem KV.get{kvs:List (Key×V)}{vs:List (Key×Value)}(r:KV kvs vs){i:Nat}{p:Key×V}(h:kvs[i]?=some p):∃u,vs[i]?=some (p.1,u)/\RelV p.2 u:=by
 unfold KV at r
 induction r generalizing i with
 | nil=>simp at h
 | @cons a b as bs h1 t ih =>
  cases i with
  | zero =>
   simp at h
   subst h
   refine⟨b.2,?_,h1.2⟩
   rw[h1.1]
   rfl
  | succ i=>simpa using ih (by simpa using h)
def Itd(d:Addr)(n:Nat):It :=
 ⟨λi H=>∃kvs p,H d=some (.dK kvs)/\kvs.length=n/\kvs[i]?=some p,
  λi H v H'=>∃q p,v=.ref q/\H q=none/\H'=upd H q (.tup [kV p.1,p.2])/\∀kvs,H d=some (.dK kvs)->kvs[i]?=some p,
  λi H=>∃kvs,H d=some (.dK kvs)/\kvs.length=n/\n≤i⟩
theorem w_{P:Program}{w:World}{K:PySem.W.Frag}{elts:List Expr}{x1:Nat}{pos:Pos}{it d:Addr}{n:Nat} :
  Turn P w K (.Tuple elts x1 pos) (Itd d n) [it] it (λi h=>∃ok ov,IsItemIter h it d i n n ok ov):=by
 refine⟨by simp,λi h ⟨ok,ov,st⟩ b hb=>?_,λi h h' ⟨ok,ov,st⟩ k=>⟨ok,ov,k it (by simp) _ st⟩,?_,?_,λA i s Q E ⟨ok,ov,st⟩ hq=>?_⟩
 ·simp at hb;subst hb
  exact⟨_,st,λv e=>by cases e⟩
 ·intro X hP hw hK hc i pins s σ H E I hf st hg
  obtain⟨kvs,p,hd,hn,hp⟩:=hg
  obtain⟨ok,ov,st⟩:=st
  subst hP hw hK
  obtain⟨z,hS,vs,rel,dd⟩:=uK I.hok (.inl hd)
  have hl:=rel.length
  obtain⟨u,hu,ru⟩:=rel.get hp
  have en:n=vs.length:=by lia
  rw[en] at st
  refine wpAny_pyNext_items_item st dd hu λkey h' hk NS ht hz Ml=>⟨_,rfl,wpAny_letOwnedTupleGo_items NS λh'' hit hs=>?_⟩
  have hne:it≠s.heap.objs.size:=Nat.ne_of_lt (Heap.lt_size st)
  have ht2:h''.get? s.heap.objs.size=some { cls:=.type "tuple",data:=.seq #[key,u] }:=hs.extBut _ _ hne.symm ht
  refine⟨.ref s.heap.objs.size,upd H s.heap.objs.size (.tup [kV p.1,p.2]),?_,rfl,⟨s.heap.objs.size,p,rfl,I.hok.fresh (Nat.le_refl _),rfl,λws hw=>by rw[hd] at hw;cases hw;exact hp⟩,⟨_,_,by rw[en];exact hit⟩,λc hcm=>?_⟩
  ·refine I.oK (ch:=[it]) (λc o hcn e=>?_) (λc hcm=>hf c hcm) ?_
   ·simp at hcn
    exact hs.extBut _ _ hcn (Ml c o hcn e)
   ·exact⟨by show 2≤sizeLine;decide,[key,u],.cons (HH hk) (.cons ru .nil),⟨_,ht2,rfl,0,rfl⟩⟩
  ·simp at hcm
   subst hcm
   rw[aF hne]
   exact(hf c (by simp)).1
 ·intro X hP hw hK hc i pins s σ H E I hf st hg
  obtain⟨kvs,hd,hn,hle⟩:=hg
  obtain⟨ok,ov,st⟩:=st
  subst hP hw hK
  obtain⟨z,hS,vs,rel,dd⟩:=uK I.hok (.inl hd)
  have hl:=rel.length
  have en:n=vs.length:=by lia
  rw[en] at st
  refine wpAny_pyNext_items_end (I.ok.hd hc) st dd (List.getElem?_eq_none (by lia)) λh' hx=>⟨rfl,I.oJ (t':=s.toks) (ch:=[it]) (λc o hcn e=>?_) λc hcm=>hf c hcm⟩
  simp at hcn
  exact hx c o hcn e
 ·exact PySem.W.kcp_self st hq
def GC(tl:TE):TI:=λσ H R=>tl σ H λx H1=>∃d kvs,x=.ref d/\H1 d=some (.dK kvs)/\R (Itd d kvs.length) H1
theorem Dk{X:Cx}{elts:List Expr}{x1:Nat}{cW apos pos:Pos}{o:Expr}{tl:TE}(ho:PE X o tl)(ib:attributeBase o "items" X.env (eval o X.env)=eval o X.env)(ic:(apos.endLine==pos.line)=true) :
  PI X (.Tuple elts x1 cW) (.Call (.Attribute o "items" apos) [] [] pos) (GC tl):=by
 intro pins s σ H R I h
 refine wpAny_Call_method (T:="dict") (id:="dict.items") ib rfl ic PySem.F.plainAttrs_dict PySem.F.slot_dict_items PySem.F.type_dict_items (thn (ho pins s σ H _ I h) λv s1 aj=>?_)
 obtain⟨x,H1,I1,r1,q1⟩:=aj
 obtain⟨d,kvs,rfl,hd,q⟩:=q1
 cases r1
 obtain⟨z,hS,vs,rel,dd⟩:=uK I1.hok (.inl hd)
 have hl:=rel.length
 refine⟨dd.dictOf.typeIs,dd.dictOf.mapOf.noDict,?_⟩
 show wpAny _ _ (callWith pos (.builtin "dict.items") [.ref d] [] []) _ _ s1
 refine method_meetsIn PySem.F.slot_dict_items PySem.F.entry_dict_items rfl (PySem.evalArgs_none ⟨rfl,dd.dictOf.typeIs,PySem.F.args_dict_items_1 _,_,meets_dict_items (b8 X.prog X.w) d hS,⟨vs,dd.dictOf⟩,?_⟩)
 refine wpAny_pyIter_items (d:=d) (kvs:=vs) (ep:=vs.length) ⟨_,Heap.get?_push_size _ rfl,rfl,rfl⟩ (dd.push _) ?_
 have I2:Inv X pins σ H1 { s1 with heap:=(s1.heap.push { cls:=.type "dict_items",data:=.fields #[.ref d] }).push { cls:=.type "dict_itemiterator",data:=.fields #[.none,.bool false,.ref d,.int 0 0,.int vs.length 0,.int vs.length 0,.none,.none] } } :=
  I1.kept (t':=s1.toks) λb o e=>Heap.get?_push_of_some _ (Heap.get?_push_of_some _ e)
 refine⟨_,[_],_,Itd d kvs.length,H1,rfl,I2,w_,⟨.none,.none,by rw[hl];exact Heap.get?_push_size _ rfl⟩,λb hb=>?_,q⟩
 have e:s1.heap.objs.size≤b:=by
  simp at hb
  subst hb
  exact Nat.le_succ _
 exact I1.uD e (I1.hok.fresh e)
theorem AL{P:Program}{w:World}{kvs:List (Key×V)}{vs:List (Key×Value)}(r:KV kvs vs){acc:List Value}(hl:acc.length=vs.length)(h:∀(i:Nat) (v:Value),acc[i]?=some v->∃(k:Key) (x:Value),vs[i]?=some (k,x)/\(b8 P w).is k v=true):Vals (kvs.map λp=>kV p.1) acc:=by
 unfold KV at r
 induction r generalizing acc with
 | nil=>cases acc with
  | nil=>exact .nil
  | cons a l=>simp at hl
 | @cons p q ps qs h1 t ih =>
  cases acc with
  | nil=>simp at hl
  | cons a l =>
   obtain⟨k,x,e,hk⟩:=h 0 a rfl
   simp at e
   refine .cons ?_ (ih (by simpa using hl) λi v e=>by simpa using h (i+1) v (by simpa using e))
   have:p.1=k:=by rw[h1.1,e]
   show RelV (kV p.1) a
   rw[this]
   exact HH hk
theorem xa{X:Cx}(hc:X.calm=true):cX X (.type "list") (λxs H Q=>∃d kvs,xs=[.ref d]/\H d=some (.dK kvs)/\∀l,H l=none->Q (.ref l) (upd H l (.lst (kvs.map λp=>kV p.1)))):=by
 intro pins s σ H xs us Q I r h
 obtain⟨d,kvs,rfl,hd,q⟩:=h
 obtain⟨u,rfl,ru⟩:=vals1 r
 cases ru
 obtain⟨z,hS,vs,rel,dd⟩:=uK I.hok (.inl hd)
 have hl:=rel.length
 refine PySem.W.kdl_call (PySem.W.kdl_dict (knd:=b8 X.prog X.w) (kvs:=vs) (ep:=vs.length) hS) (I.ok.hd hc) dd (by lia) λh' tk GD c' hk hD nh=>?_
 have hv:Vals (kvs.map λp=>kV p.1) GD.toList:=AL rel (by rw[Array.length_toList];exact nh.1) λj v e=>nh.2 j v (by rw[← Array.getElem?_toList];exact e)
 exact⟨.ref s.heap.objs.size,_,I.laid (a:=s.heap.objs.size) (o:=.lst (kvs.map λp=>kV p.1)) (h':=h') (t':=tk) hk (Nat.le_refl _) ⟨by rw[List.length_map];exact z,GD.toList,c',hv,hD⟩,rfl,q _ I.fresh⟩
end L2
namespace Fw
open PySem PySem.Spec PyProof.Rows L2
section
variable{K:PySem.W.Frag}{F:Hp}
theorem yW(k:Key):Rep K F (uT k) (kV k):=by
 cases k with
 | inl i=>exact Rep.fS i
 | inr x=>exact Rep.FU x
theorem bj.get:∀{kts:List (Key×T)}{kvs:List (Key×V)}{i:Nat}{p:Key×T},bj K F kts kvs->kts[i]?=some p->∃v,kvs[i]?=some (p.1,v)/\Rep K F p.2 v
 | [],_,_,_,_,e=>by simp at e
 | (k,t)::kts,kvs,0,p,h,e=>by
  rw[bj] at h
  obtain⟨v,mZ,rfl,q,_⟩:=h
  simp at e;subst e
  exact⟨v,rfl,q⟩
 | (k,t)::kts,kvs,i+1,p,h,e=>by
  rw[bj] at h
  obtain⟨v,mZ,rfl,q,r⟩:=h
  obtain⟨v',h1,h2⟩:=bj.get (i:=i) r (by simpa using e)
  exact⟨v',by simpa using h1,h2⟩
theorem bj.keys:∀{kts:List (Key×T)}{kvs:List (Key×V)},bj K F kts kvs->aA K F (kts.map λp=>uT p.1) (kvs.map λp=>kV p.1)
 | [],kvs,h=>by rw[bj] at h;subst h;exact .iE
 | (k,t)::kts,kvs,h=>by
  rw[bj] at h
  obtain⟨v,mZ,rfl,q,r⟩:=h
  exact .dj (yW k) r.keys
end
section
variable{X:Cx}{a b:Expr}{da db:D}{pos p:Pos}
theorem vh{elts:List Expr}{x1:Nat}{cW apos cL:Pos}(ha:CE X a da)(ib:attributeBase a "items" X.env (eval a X.env)=eval a X.env:=by rfl)(ic:(apos.endLine==cL.line)=true:=by rfl) :
  CI X (.Tuple elts x1 cW) (.Call (.Attribute a "items" apos) [] [] cL) (kZ da) :=
 PI.imp (Dk ha ib ic) λσ H R0 aj=>by
  obtain⟨F,α,e,μ,S,h⟩:=aj
  refine⟨F,α,e,μ,S,(R.wp_bind h).mono (λx μ1 h v H1 F1 α1 x1 S1 o1=>?_) λ_ _ h=>h⟩
  obtain⟨kts,ht,post⟩:=R.aY (R.wp_bind h)
  obtain⟨t,hr,ht⟩:=Option.bind_eq_some_iff.mp ht
  have n1:=aO S1.st o1 hr
  cases t with
  | dct us =>
   cases ht
   obtain⟨d,kvs,rfl,hq,hl⟩:=n1
   have hlen:=hl.length
   refine⟨d,kvs,rfl,hq,post _ H1 F1 α1 x1 S1 λF2 α2 μ2 H2 s2 p2 S2 same=>?_⟩
   obtain⟨d',mZ,e1,hq2,hl2⟩:=aO S2 (o1.mono s2 p2) ((show rd μ2 x=rd μ1 x from same).trans hr)
   cases e1
   have HI:=hl2.length
   refine⟨λi t hi=>?_,⟨mZ,hq2,by lia,?_⟩⟩
   ·unfold dW at hi
    rw[List.getElem?_map] at hi
    obtain⟨p,hp,rfl⟩:=Option.map_eq_some_iff.mp hi
    obtain⟨v,hv,rv⟩:=hl2.get hp
    refine⟨⟨mZ,(p.1,v),hq2,by lia,hv⟩,?_⟩
    rintro z H3 ⟨q,p',rfl,hq',rfl,f⟩
    have w1:=f mZ hq2
    rw[hv] at w1
    cases w1
    have g:bt F2 H2 (upd F2 q (.tup [kV p.1,v])) (upd H2 q (.tup [kV p.1,v])):=bt.new hq'
    refine⟨_,g,?_⟩
    rw[Rep]
    exact⟨q,_,rfl,SqT.of az,.dj (yW p.1) (.dj (Rep.mono (g.same S2.ext) _ _ rv) .iE)⟩
   ·show kvs.length≤(dW kts).length
    unfold dW
    rw[List.length_map]
    lia
  | _=>cases ht
theorem Dl(hm:X.mg "list"=none)(ha:CE X a da)(hc:X.calm=true:=by rfl)(hg:Gl X "list":=by rfl)(hs1:starEach [a] X.env=(false,eval a X.env)::starEach [] X.env:=by rfl)(hpl:(backTo pos (starEach [] X.env)).any (·.1)=false:=by rfl) :
  CF X (.Call (.Name "list" p) [a] [] pos) (dUn yH da):=CK (xa hc) (by
 intro F H v t w Q s hv hw q
 cases t with
 | dct ts =>
  cases hw
  obtain⟨a,vs,rfl,hq,hl⟩:=hv
  exact⟨a,vs,rfl,hq,λl hp=>q l _ hp ⟨_,az,hl.keys⟩⟩
 | _=>cases hw) hm (by decide +kernel) ha hg (by decide) (by decide) hs1 hpl
theorem yX{id:String}{x:Str}{r:List V->Hp->VK->Prop}{g:T->T->Option T}(hc:cX X (.builtin id) r)(hs:uX X.K r g)(hm:X.mg x=none)(hv:bootBuiltins x=some (.builtin id))(ha:CE X a da)(hb:CE X b db)(hg:Gl X x:=by rfl)(hn:x≠"__name__":=by decide)
  (hdb:(x==("__debug__":Str))=false:=by decide) (hs1:starEach [a,b] X.env=(false,eval a X.env)::starEach [b] X.env:=by rfl) (hs2:starEach [b] X.env=(false,eval b X.env)::starEach [] X.env:=by rfl) (hpl:(backTo pos (starEach [b] X.env)).any (·.1)=false:=by rfl):CE X (.Call (.Name x p) [a,b] [] pos) (ah g da db) :=
 PE.imp (l4 hc hg hm hv (ag ha (ag hb aw hs2) hs1) hn hdb hs1 hpl) (call2 hs)
theorem JL(hm:X.mg "min"=none)(ha:CE X a da)(hb:CE X b db)(hc:X.calm=true:=by rfl)(hg:Gl X "min":=by rfl)(hs1:starEach [a,b] X.env=(false,eval a X.env)::starEach [b] X.env:=by rfl)(hs2:starEach [b] X.env=(false,eval b X.env)::starEach [] X.env:=by rfl)(hpl:(backTo pos (starEach [b] X.env)).any (·.1)=false:=by rfl) :
  CE X (.Call (.Name "min" p) [a,b] [] pos) (ah Gg da db):=yX (zS hc) (by
 intro F H v u t t' w Q s hv hu hw q
 cases t<;>cases t'<;>first|cases hw|skip
 exact⟨_,_,by rw[hv.int,hu.int],q _ H F bt.refl (Rep.fS _)⟩) hm (by decide +kernel) ha hb hg (by decide) (by decide) hs1 hs2 hpl
theorem JM(hm:X.mg "max"=none)(ha:CE X a da)(hb:CE X b db)(hc:X.calm=true:=by rfl)(hg:Gl X "max":=by rfl)(hs1:starEach [a,b] X.env=(false,eval a X.env)::starEach [b] X.env:=by rfl)(hs2:starEach [b] X.env=(false,eval b X.env)::starEach [] X.env:=by rfl)(hpl:(backTo pos (starEach [b] X.env)).any (·.1)=false:=by rfl) :
  CE X (.Call (.Name "max" p) [a,b] [] pos) (ah Jv da db):=yX (zR hc) (by
 intro F H v u t t' w Q s hv hu hw q
 cases t<;>cases t'<;>first|cases hw|skip
 exact⟨_,_,by rw[hv.int,hu.int],q _ H F bt.refl (Rep.fS _)⟩) hm (by decide +kernel) ha hb hg (by decide) (by decide) hs1 hs2 hpl
end
section
variable{X:Cx}{a b:Expr}{da db:D}{pos p:Pos}{k:Nat}
end
end Fw
namespace L2
open PySem PySem.Spec PyProof.Rows
open AutoSeq1 (wpAny_loadPart')
theorem Dm{prog:Program}{w:World}{A:Around}{k:Bool}(hh:A.handled=none)(it l:Addr)(hne:l≠it)(items:Array Value) :
  Draws prog w A it [it,l] items.size (λi v=>items[i]?=some v) (λi h=>KIt k h it l i/\KSq k h l items) where
 live:=λ_ _ st=>by obtain⟨o,ho,_⟩:=st.1.ob;exact⟨o,ho⟩
 frame:=λ_ _ _ st hk=>⟨st.1.at λo e=>hk it (by simp) o e,st.2.at λo e=>hk l (by simp) o e⟩
 item:=λi s Q E hi st hQ=>gv st.1 st.2 (x:=items[i]) (by simp[hi]) λh' JN hs'=>hQ _ h' s.toks (by simp[hi]) ⟨JN,st.2.at λo e=>hs'.extBut _ _ hne e⟩ hs'
 done:=λs Q E st hE=>j5 hh st.1 st.2 (by simp) hE
abbrev eH(k:Bool)(h:Heap)(l:Addr):Heap:=(h.push (dy k l)).push { cls:=.type "enumerate",data:=.fields #[.none,.bool false,.ref h.objs.size,rawInt 0,.none,.none] }
set_option maxHeartbeats 4000000 in
theorem AM(l:Addr)(items:Array Value)(n:Nat)(dct:Option Addr)(sl:Array (Option Value)) :
  Meets (Builtin.«enumerate.__new__» ⟨[.type "enumerate",.ref l],[]⟩) (λ_ R s=>s.heap.get? l=some { cls:=.type "tuple",dict:=dct,data:=.seq items n,slots:=sl } /\
   R (.ok (.ret (.ref (s.heap.push (dy false l)).objs.size))) { s with heap:=eH false s.heap l }) :=
 .of_wp λprog w A R s h=>by
  obtain⟨hp,g,d,tk,os⟩:=s
  obtain⟨hl,h⟩:=h
  have Gx:=sub_enumerate
  have hT:Heap.IsTuple (Shared.heap ⟨hp,g,d,tk,os⟩) l items:=⟨_,hl,rfl,n,rfl⟩
  wp_walk using wpAny_loadPart' hl
  refine wpAny_stack_any λst=>wpAny_pure ?_
  split
  ·rename_i c _ _ _ _ _
   cases (c==Value.type "enumerate")
   ·(wp_walk using wpAny_loadPart' hl,wpAny_pyIter_tuple hT);exact⟨_,rfl,h⟩
   ·(wp_walk using wpAny_loadPart' hl,wpAny_pyIter_tuple hT);exact⟨_,rfl,h⟩
  ·(wp_walk using wpAny_loadPart' hl,wpAny_pyIter_tuple hT);exact⟨_,rfl,h⟩
section
variable{prog:Program}{w:World}{A:Around}{E:Value->Shared->Prop}{s:Shared}
theorem xb{k:Bool}{l:Addr}{xs:Array Value}{Q:Value->Shared->Prop}(hl:KSq k s.heap l xs)
  (h:∀h',IsEnum h' (s.heap.objs.size+1) s.heap.objs.size 0 .none->KIt k h' s.heap.objs.size l 0->h'.objs.size=s.heap.objs.size+2->(∀c o,s.heap.get? c=some o->h'.get? c=some o)->Q (.ref (s.heap.objs.size+1)) { s with heap:=h' }) :
  wpAny (model prog w) A (call (.type "enumerate") [.ref l]) Q E s:=by
 cases k with
 | true=>exact call_enumerate_list hl h
 | false =>
  obtain⟨⟨c,dct,dt,sl⟩,hg,hc,n,hd⟩:=hl
  simp only at hc hd
  subst hc hd
  refine callType_new F.called_enumerate (by decide) (F.typeCall_enumerate_1 _) (F.newCall_enumerate_1 _) (λobj=>F.args_object_init_2 obj _) F.entry_enumerate_new (AM l xs n dct sl) ⟨hg,?_⟩
  have z1:(s.heap.push (dy false l)).objs.size=s.heap.objs.size+1:=Heap.size_push ..
  have g2:(eH false s.heap l).get? (s.heap.push (dy false l)).objs.size=some _:=Heap.get?_push_size _ rfl
  have g1:(eH false s.heap l).get? s.heap.objs.size=some (dy false l):=Heap.get?_push_of_some _ (Heap.get?_push_size _ rfl)
  show _/\_
  rw[z1] at g2
  rw[z1]
  exact⟨⟨_,g2,rfl⟩,h _ g2 (KIt.new g1) (by rw[Heap.size_push,z1]) λc o q=>Heap.get?_push_of_some _ (Heap.get?_push_of_some _ q)⟩
end
def Ite(K:PySem.W.Frag)(k:Bool)(a:Addr):It :=
 ⟨λi H=>∃xs x,fv K k H a xs/\xs[i]?=some x,
  λi H v H'=>∃p x,v=.ref p/\H p=none/\H'=upd H p (.tup [.int (i:Int),x])/\∀xs,fv K k H a xs->xs[i]?=some x,
  λi H=>∃xs,fv K k H a xs/\xs.length=i⟩
structure ESt(k:Bool)(z i1 l1:Addr)(i:Nat)(h:Heap):Prop where
 z:∃old,IsEnum h z i1 (i:Int) old
 one:KIt k h i1 l1 i
theorem AN{P:Program}{w:World}{K:PySem.W.Frag}{elts:List Expr}{x1:Nat}{pos:Pos}{k:Bool}{z i1 l1:Addr}(d:z≠i1) :
  Turn P w K (.Tuple elts x1 pos) (Ite K k l1) [z,i1] z (ESt k z i1 l1):=by
 refine⟨by simp,λi h st b hb=>?_,λi h h' st k'=>?_,?_,?_,λA i s Q E st hq=>?_⟩
 ·obtain⟨old,hz⟩:=st.z
  obtain⟨o1,e1,q1⟩:=st.one.ob
  simp only[List.mem_cons,List.not_mem_nil,or_false] at hb
  rcases hb with rfl|rfl
  ·exact⟨_,hz,λv e=>by cases e⟩
  ·exact⟨_,e1,λv e=>by rw[q1] at e;cases e⟩
 ·obtain⟨old,hz⟩:=st.z
  exact⟨⟨old,k' z (by simp) _ hz⟩,st.one.at λo e=>k' i1 (by simp) o e⟩
 ·intro X hP hw hK hc i pins s σ H E I hf st hg
  obtain⟨xs,x,h1,hx⟩:=hg
  subst hP hw hK
  obtain⟨jb,r1,s1,z1⟩:=I.ksq h1
  obtain⟨u,hu,ru⟩:=r1.get hx
  obtain⟨old,hz⟩:=st.z
  have hli:l1≠i1:=dz I h1 (hf i1 (by simp))
  have hlz:l1≠z:=dz I h1 (hf z (by simp))
  obtain⟨o1,e1,_⟩:=st.one.ob
  have hlt:i<jb.toArray.size:=by
   have:=(List.getElem?_eq_some_iff.mp hu).1
   simpa using this
  have hne:z∉[i1,l1]:=by
   simp only[List.mem_cons,List.not_mem_nil,or_false,not_or]
   exact⟨d,λe=>hlz e.symm⟩
  refine wpAny_pyNext_enum_itemD (Dm (k:=k) (A:=X.A.in1) (I.ok.hd hc) i1 l1 hli jb.toArray) hz ⟨st.one,s1⟩ hlt d hne λy h' tk hy g1 g2 g3 g4 g5=>⟨_,rfl,?_⟩
  have ey:y=u:=by
   have hy:jb[i]?=some y:=by simpa using hy
   rw[hu] at hy
   exact(Option.some.inj hy).symm
  subst ey
  refine wpAny_letOwnedTupleGo_enum g1 λh'' q1 q2=>?_
  have lt:∀{c:Addr}{o:Obj},s.heap.get? c=some o->c≠s.heap.objs.size:=λe=>Nat.ne_of_lt (Heap.lt_size e)
  have hTz:s.heap.objs.size≠z:=(lt hz).symm
  have new:h''.get? s.heap.objs.size=some { cls:=.type "tuple",data:=.seq #[.int i tk,y] }:=q2.extBut _ _ hTz g3
  refine⟨.ref s.heap.objs.size,upd H s.heap.objs.size (.tup [.int (i:Int),x]),?_,rfl,⟨s.heap.objs.size,x,rfl,I.hok.fresh (Nat.le_refl _),rfl,λws hw=>by rw[I.oI hw h1];exact hx⟩,?_,λc hcm=>?_⟩
  ·refine(I.oK (ch:=[z,i1]) (h':=h'') (λc o hcn e=>?_) (λc hcm=>hf c hcm) ?_).tok _
   ·simp at hcn
    exact q2.extBut _ _ hcn.1 (g5 c o hcn.1 hcn.2 e)
   ·exact⟨by show 2≤sizeLine;decide,[.int i tk,y],.cons ⟨tk,rfl⟩ (.cons ru .nil),⟨_,new,rfl,0,rfl⟩⟩
  ·exact⟨⟨_,by simpa using q1⟩,g2.1.at λo e=>q2.extBut _ _ d.symm e⟩
  ·rw[aF]
   ·exact(hf c hcm).1
   ·simp only[List.mem_cons,List.not_mem_nil,or_false] at hcm
    rcases hcm with rfl|rfl
    ·exact lt hz
    ·exact lt e1
 ·intro X hP hw hK hc i pins s σ H E I hf st hg
  obtain⟨xs,h1,hle⟩:=hg
  subst hP hw hK
  obtain⟨jb,r1,s1,z1⟩:=I.ksq h1
  obtain⟨old,hz⟩:=st.z
  have hli:l1≠i1:=dz I h1 (hf i1 (by simp))
  have l1':=r1.length
  have en:jb.toArray.size=i:=by simp;lia
  refine wpAny_pyNext_enum_endD (Dm (k:=k) (A:=X.A.in1) (I.ok.hd hc) i1 l1 hli jb.toArray) hz ⟨by rw[en];exact st.one,s1⟩ λh' g7=>⟨rfl,I.oJ (t':=s.toks) (ch:=[z,i1]) (λc o hcn e=>?_) λc hcm=>hf c hcm⟩
  simp at hcn
  exact g7 c o hcn.2 e
 ·obtain⟨old,hz⟩:=st.z
  exact wpAny_pyIter_enum hz hq
def JO(K:PySem.W.Frag)(t:TA):TI:=λσ H R=>t σ H λvs H1=>∃a k xs,vs=[.ref a]/\fv K k H1 a xs/\R (Ite K k a) H1
theorem GF{X:Cx}{elts:List Expr}{x1:Nat}{cW p pos:Pos}{a:Expr}{t:TA}(hg:Gl X "enumerate")(hm:X.mg "enumerate"=none)(ha:PA X [a] t)(he:starEach [a] X.env=(false,eval a X.env)::starEach [] X.env)(hpl:(backTo pos (starEach [] X.env)).any (·.1)=false) :
  PI X (.Tuple elts x1 cW) (.Call (.Name "enumerate" p) [a] [] pos) (JO X.K t):=by
 intro pins s σ H R I h
 refine wpAny_Call_Name_kw (fA I hg hm PyProof.Rows.boot_enumerate ?_ (by decide) (by decide))
 refine PyProof.Rows.callWith_type1 (thn (ha pos pins s σ H _ I h) λus s1 aj=>?_) he hpl
 obtain⟨vs,H1,I1,r1,q1⟩:=aj
 obtain⟨c,k,xs,rfl,h1,q⟩:=q1
 obtain⟨u1,rfl,ru1⟩:=vals1 r1
 cases ru1
 obtain⟨jb,_,s1',_⟩:=I1.ksq h1
 refine xb s1' λh' g1 g2 g6 g7=>wpAny_pyIter_enum g1 ?_
 have I2:Inv X pins σ H1 { s1 with heap:=h' }:=I1.kept (t':=s1.toks) g7
 refine⟨_,_,_,_,H1,rfl,I2,AN (k:=k) (i1:=s1.heap.objs.size) (l1:=c) (λe=>by have e:s1.heap.objs.size+1=s1.heap.objs.size:=e;lia),⟨⟨_,g1⟩,g2⟩,λe he=>?_,q⟩
 have:s1.heap.objs.size≤e:=by
  simp only[List.mem_cons,List.not_mem_nil,or_false] at he
  rcases he with rfl|rfl
  ·exact Nat.le_add_right _ _
  ·exact Nat.le_refl _
 exact I1.uD this (I1.hok.fresh this)
end L2
namespace Fw
open PySem PySem.Spec PyProof.Rows L2
theorem GG{X:Cx}{elts:List Expr}{x1:Nat}{cW p pos:Pos}{a:Expr}{da:D}(hm:X.mg "enumerate"=none)(ha:CE X a da)(hg:Gl X "enumerate":=by rfl)(hs:starEach [a] X.env=(false,eval a X.env)::starEach [] X.env:=by rfl)(hpl:(backTo pos (starEach [] X.env)).any (·.1)=false:=by rfl) :
  CI X (.Tuple elts x1 cW) (.Call (.Name "enumerate" p) [a] [] pos) (yP da) :=
 PI.imp (GF hg hm (ag ha aw hs) hs hpl) λσ H R0 aj=>by
  obtain⟨F,α,e,μ,S,h⟩:=aj
  refine kC ⟨F,α,e,μ,S,(R.wp_bind h).mono (λx μ1 h v H1 F1 α1 x1 S1 o1=>?_) λ_ _ h=>h⟩
  obtain⟨ts,ht,post⟩:=R.aY (R.wp_bind h)
  obtain⟨t,hr,ht⟩:=Option.bind_eq_some_iff.mp ht
  obtain⟨a1,vs1,k1,rfl,q1,r1,m1⟩:=iK S1.st.ext (aO S1.st o1 hr) ht
  refine⟨a1,k1,vs1,rfl,q1,post _ H1 F1 α1 x1 S1 λF2 α2 μ3 H2 s2 p2 S2 same=>?_⟩
  have e1:rd μ3 x=rd μ1 x:=same
  obtain⟨b1,ws1,j1,g1,n1,l1,m1'⟩:=iK S2.ext (aO S2 (o1.mono s2 p2) (e1.trans hr)) ht
  cases g1
  have ej1:j1=k1:=by rw[Bool.eq_iff_iff,m1,m1']
  subst ej1
  refine⟨λi t hi=>?_,?_⟩
  ·obtain⟨c,hc,rfl⟩:=m_ hi
   obtain⟨v1,hv1,rv1⟩:=l1.get hc
   refine⟨⟨ws1,v1,n1,hv1⟩,?_⟩
   rintro z H3 ⟨q,z1,rfl,hq,rfl,f1⟩
   have w1:=f1 ws1 n1
   rw[hv1] at w1
   cases w1
   have g:bt F2 H2 (upd F2 q (.tup [.int (i:Int),v1])) (upd H2 q (.tup [.int (i:Int),v1])):=bt.new hq
   refine⟨_,g,?_⟩
   rw[Rep]
   rw[Int.zero_add]
   exact⟨q,_,rfl,SqT.of az,aA.mono (g.same S2.ext) _ _ (.dj (Rep.fS _) (.dj rv1 .iE))⟩
  ·refine⟨ws1,n1,?_⟩
   have:=l1.length
   show ws1.length=(dw 0 ts).length
   rw[m8]
   lia
end Fw
namespace L2
open PySem PySem.Spec PyProof.Rows
def qH(n:Nat):List V:=(List.range n).map λ(k:Nat)=>V.int (k:Int)
theorem Dn{acc:Array Value}{n:Nat}(h:ItemsOf (λi v=>∃t,v=.int (0+(i:Int)*1) t) acc n):Vals (qH n) acc.toList:=by
 obtain⟨h1,h2⟩:=h
 have key:∀(vs:List V) (us:List Value),vs.length=us.length->(∀(i:Nat) (v:V) (u:Value),vs[i]?=some v->us[i]?=some u->RelV v u)->Vals vs us:=by
  intro vs
  induction vs with
  | nil=>intro us hl _;cases us with
   | nil=>exact .nil
   | cons a b=>simp at hl
  | cons v vs ih=>intro us hl h;cases us with
   | nil=>simp at hl
   | cons u us=>exact .cons (h 0 v u rfl rfl) (ih us (by simpa using hl) λi v u a b=>h (i+1) v u (by simpa using a) (by simpa using b))
 refine key _ _ (by simp[qH,h1]) λi v u hv hu=>?_
 have hi:i<n:=by
  have:=(List.getElem?_eq_some_iff.mp hv).1
  simpa [qH] using this
 have ev:v=.int (i:Int):=by
  unfold qH at hv
  rw[List.getElem?_map,List.getElem?_range hi] at hv
  simpa using hv.symm
 subst ev
 obtain⟨t,ht⟩:=h2 i u (by simpa using hu)
 exact⟨t,by rw[ht];simp⟩
def tLR(t:TA):TE:=λσ H Q=>t σ H λvs H1=>∃j:Int,vs=[.int j]/\-(2 ^ 62)≤j/\j<2 ^ 62/\j.toNat≤sizeLine/\∀p,H1 p=none->Q (.ref p) (upd H1 p (.lst (qH j.toNat)))
theorem xc{X:Cx}{a:Expr}{t:TA}{p p2 pos jw:Pos}(hc:X.calm=true)(hg:Gl X "list")(hm:X.mg "list"=none)(hg2:Gl X "range")(hm2:X.mg "range"=none)(ha:PA X [a] t)(hs:starEach [a] X.env=[(false,eval a X.env)])
  (hs1:starEach [.Call (.Name "range" p2) [a] [] jw] X.env=(false,eval (.Call (.Name "range" p2) [a] [] jw) X.env)::starEach [] X.env) (hpl:(backTo pos (starEach [] X.env)).any (·.1)=false) :
  PE X (.Call (.Name "list" p) [.Call (.Name "range" p2) [a] [] jw] [] pos) (tLR t):=by
 intro pins s σ H Q I h
 refine wpAny_Call_Name_kw (fA I hg hm (show bootBuiltins "list"=some (.type "list") by decide +kernel) ?_ (by decide) (by decide))
 refine PyProof.Rows.callWith_type1 ?_ hs1 hpl
 rw[hs1]
 show wpAny _ _ (spliced ((false,eval (.Call (.Name "range" p2) [a] [] jw) X.env)::backTo pos (starEach [] X.env))) _ _ s
 refine Calls.spliced_cons ?_
 refine Call_ (fA I hg2 hm2 boot_range (PyProof.Rows.callWith_type1 (thn (ha jw pins s σ H _ I h) λus s1 aj=>?_) hs rfl))
 obtain⟨vs,H1,I1,r1,q1⟩:=aj
 obtain⟨j,e,q1,q2,q3,q⟩:=q1
 subst e
 obtain⟨u1,rfl,ru1⟩:=vals1 r1
 obtain⟨tk,rfl⟩:=ru1
 refine call_range_1 ?_
 refine Calls.spliced_nil ?_
 have hn:Builtin.Range.rangeSize 0 j 1=((j.toNat:Nat):Int):=by rw[rangeSize_one];split<;>lia
 have hz:j.toNat≤2 ^ 24:=by
  have:sizeLine=2 ^ 24:=by decide
  lia
 refine call_list_range (I.ok.hd hc) (IsRange.new ..) (small_one (by lia) (by lia) q1 q2) hn hz λh' tk' GD c' hk hS nh=>?_
 have old:∀b o,s1.heap.get? b=some o->h'.get? b=some o:=λb o e=>hk b o (Heap.get?_push_of_some _ e)
 have hle:s1.heap.objs.size≤(s1.heap.push { cls:=.type "range",data:=.fields #[.int 0 s1.toks,.int j tk,.int 1 (s1.toks+1)] }).objs.size:=by rw[Heap.size_push];exact Nat.le_succ _
 have hv:=Dn nh
 refine⟨.ref _,upd H1 _ (.lst (qH j.toNat)),I1.laid (t':=tk') old hle ?_,rfl,q _ (I1.hok.fresh hle)⟩
 refine⟨by unfold qH;rw[List.length_map,List.length_range];exact q3,GD.toList,c',hv,?_⟩
 simpa using hS
end L2
namespace Fw
open PySem PySem.Spec PyProof.Rows L2
section
variable{K:PySem.W.Frag}
theorem vi{F:Hp}{t:T}{v:V}(h:Rep K F t v)(f:gQ t=true):kB v=true/\∀{t':T}{v':V},Rep K F t' v'->gQ t'=true->eqV v v'=eqT t t':=by
 cases t with
 | non=>cases h.iD;exact⟨rfl,λ{t' v'} h' f'=>by
   cases t' with
   | non=>cases h'.iD;simp[eqV,eqT]
   | bl b=>cases h'.gK;simp[eqV,eqT]
   | int b=>cases h'.jl;simp[eqV,eqT]
   | str b=>cases h'.kS;simp[eqV,eqT]
   | _=>cases f'⟩
 | bl c=>cases h.gK;exact⟨rfl,λ{t' v'} h' f'=>by
   cases t' with
   | non=>cases h'.iD;simp[eqV,eqT]
   | bl b=>cases h'.gK;simp[eqV,eqT]
   | int b=>cases h'.jl;simp[eqV,eqT]
   | str b=>cases h'.kS;simp[eqV,eqT]
   | _=>cases f'⟩
 | int c=>cases h.jl;exact⟨rfl,λ{t' v'} h' f'=>by
   cases t' with
   | non=>cases h'.iD;simp[eqV,eqT]
   | bl b=>cases h'.gK;simp[eqV,eqT]
   | int b=>cases h'.jl;simp[eqV,eqT]
   | str b=>cases h'.kS;simp[eqV,eqT]
   | _=>cases f'⟩
 | str c=>cases h.kS;exact⟨rfl,λ{t' v'} h' f'=>by
   cases t' with
   | non=>cases h'.iD;simp[eqV,eqT]
   | bl b=>cases h'.gK;simp[eqV,eqT]
   | int b=>cases h'.jl;simp[eqV,eqT]
   | str b=>cases h'.kS;simp[eqV,eqT]
   | _=>cases f'⟩
 | _=>cases f
theorem rK{F:Hp}{t:T}{v:V}(h:Rep K F t v)(f:gQ t=true):∀{us:List T}{vs:List V},aA K F us vs->us.all gQ=true->vs.all kB=true/\inV v vs=inT t us
 | [],vs,r,_=>by rw[aA] at r;subst r;exact⟨rfl,rfl⟩
 | u::us,vs,r,hf=>by
  rw[aA] at r
  obtain⟨v1,vs1,rfl,r1,r2⟩:=r
  rw[List.all_cons,Bool.and_eq_true] at hf
  obtain⟨a,b⟩:=rK h f r2 hf.2
  obtain⟨c,d⟩:=vi r1 hf.1
  refine⟨by rw[List.all_cons,c,a];rfl,?_⟩
  unfold inV inT at b ⊢
  rw[List.any_cons,List.any_cons,b,d h f]
theorem Now.flat{F H:Hp}{v:V}{t:T}(h:Now K F H v t)(f:gQ t=true):Rep K F t v:=by
 cases t with
 | non=>exact h
 | bl b=>exact h
 | int b=>exact h
 | str b=>exact h
 | _=>cases f
theorem JP:du K (rIn K false) fIn:=by
 intro F H v u t t' w Q s hv hu hw q
 unfold fIn at hw
 cases e:b_ t' with
 | none=>rw[e] at hw;cases hw
 | some us =>
  rw[e] at hw
  simp only at hw
  by_cases hf:(gQ t && us.all gQ)=true
  ·rw[if_pos hf] at hw
   cases hw
   rw[Bool.and_eq_true] at hf
   obtain⟨a,vs,k,rfl,hq,hl,_⟩:=iK s hu e
   obtain⟨f1,f2⟩:=rK (hv.flat hf.1) hf.1 hl hf.2
   have fx:=(vi (hv.flat hf.1) hf.1).1
   refine⟨a,vs,rfl,?_,fx,f1,?_⟩
   ·cases k with
    | true=>exact .inl hq
    | false=>exact .inr hq
   ·rw[f2];exact q _ H F bt.refl (Rep.bl' _)
  ·rw[if_neg hf] at hw;cases hw
end
section
variable{X:Cx}{a b c:Expr}{da db dc:D}{pos p p2:Pos}{k:Nat}
theorem Dp(hr:cz k X.A)(ha:CE X a da)(hb:CE X b db)(hm:behindInMarks .In b=false:=by with_unfolding_all rfl):CT X (.Compare a [.In] [b] pos) (ah fIn da db):=jo zV JP hm ha hb
theorem GH(hm:X.mg "int"=none)(ha:CE X a da)(hg:Gl X "int":=by rfl)(hs1:starEach [a] X.env=(false,eval a X.env)::starEach [] X.env:=by rfl)(hpl:(backTo pos (starEach [] X.env)).any (·.1)=false:=by rfl) :
  CE X (.Call (.Name "int" p) [a] [] pos) (dUn wW da):=CJ zT (by
 intro F H v t w Q s hv hw q
 cases t with
 | int i=>cases hw;cases hv.int;exact .inl ⟨i,rfl,q _ H F bt.refl (Rep.fS _)⟩
 | bl i=>cases hw;cases Rep.gK (K:=X.K) (F:=F) hv;exact .inr ⟨i,rfl,q _ H F bt.refl (Rep.fS _)⟩
 | _=>cases hw) hm (by decide +kernel) ha hg (by decide) (by decide) hs1 hpl
theorem Dq(i j l:Nat){x y z:Str}{px py pz:Pos}{k:Nat}(hN:X.N.Nodup)(hc:X.calm=true)(hi:X.N[i]?=some x:=by rfl)(hj:X.N[j]?=some y:=by rfl)(hl:X.N[l]?=some z:=by rfl)(hx:Loc X.env.scope x:=by first|exact Or.inl rfl|exact Or.inr rfl)
  (hy:Loc X.env.scope y:=by first|exact Or.inl rfl|exact Or.inr rfl) (hz:Loc X.env.scope z:=by first|exact Or.inl rfl|exact Or.inr rfl)
  (hf:X.fn x=true∨X.env.scope.names.lookup x=some .local:=by first|exact .inl rfl|exact .inr rfl|assumption) (hf':X.fn y=true∨X.env.scope.names.lookup y=some .local:=by first|exact .inl rfl|exact .inr rfl|assumption)
  (NU:X.fn z=true∨X.env.scope.names.lookup z=some .local:=by first|exact .inl rfl|exact .inr rfl|assumption)
  : CB X (.Tuple [.Name x px,.Name y py,.Name z pz] k pos) (cT [i,j,l]) :=
 PG.imp (BJ hc (jd (jR hN hi hx hf) (jd (jR hN hj hy hf') (jd (jR hN hl hz NU) yj)))) λv σ H Q aj=>by
  obtain⟨F,α,e,μ,t,e',S,r,hb,q⟩:=aj
  cases t with
  | tup ts =>
   unfold cT at hb
   simp only at hb
   by_cases hl:ts.length=[i,j,l].length
   ·rw[if_pos hl] at hb
    rw[Rep] at r
    obtain⟨a,vs,rfl,hq,hr⟩:=r
    match ts,vs,hl,hr with
    | [t1,t2,t3],vs,_,hr =>
     rw[aA] at hr
     obtain⟨v1,vs1,rfl,r1,hr⟩:=hr
     rw[aA] at hr
     obtain⟨v2,vs2,rfl,r2,hr⟩:=hr
     rw[aA] at hr
     obtain⟨v3,vs3,rfl,r3,hr⟩:=hr
     rw[aA] at hr
     subst hr
     cases hb
     exact⟨a,_,rfl,aI.fm S.st.ext hq,rfl,v1,[v2,v3],rfl,v2,[v3],rfl,v3,[],rfl,rfl,q _ (((S.set (x:=.val t1) r1).set (x:=.val t2) r2).set (x:=.val t3) r3)⟩
   ·rw[if_neg hl] at hb;cases hb
  | _=>cases hb
theorem Dr{tg:Expr}{is:List Nat}(hg:CB X tg (cT is))(he:CE X a da)(hs:swapsWithSole [tg] a pos.line X.env=pure false:=by rfl)(hw:swappedStores [tg] a X.env=pure none:=by rfl)
  (h1:(assignEach [tg] X.env).map (·.2)=[assign tg X.env]:=by rfl):CS X (.Assign [tg] a pos) (Az is da) :=
 PS.imp (wd he hg hs hw h1) λD σ H ⟨F,α,e,μ,S,h⟩ =>
  ⟨F,α,e,μ,S,(aV.toS h).mono (λx μ1 h v H1 F1 α1 x1 S1 o1=>by
   obtain⟨e',hb,hp⟩:=aV.lift h
   obtain⟨t,ht,hb⟩:=Option.bind_eq_some_iff.mp hb
   cases x with
   | val t'=>cases ht;exact⟨F1,α1,e,μ1,t,e',S1,o1,hb,λσ' S'=>hp σ' H1 F1 α1 x1 S'⟩
   | cel _=>cases ht
   | box _=>cases ht
   | lbx _=>cases ht) λ_ _ h=>h⟩
end
end Fw
namespace L2
open PySem PySem.Spec PyProof.Rows
end L2
namespace Fw
open PySem PySem.Spec PyProof.Rows L2
section
variable{X:Cx}{a b c:Expr}{da db dc:D}{pos p p2 pu pc:Pos}{k:Nat}
theorem aA.cnt{K:PySem.W.Frag}{F:Hp}(n:Nat):aA K F (a_ 0 n) (qH n):=by
 rw[fo]
 have:qH n=(bJ 0 n).map V.int:=by simp[qH,bJ]
 rw[this]
 exact aA.oE _
theorem xf(hc:X.calm=true)(hm:X.mg "list"=none)(hm2:X.mg "range"=none)(ha:CE X a da)(hg:Gl X "list":=by rfl)(hg2:Gl X "range":=by rfl)(hs:starEach [a] X.env=[(false,eval a X.env)]:=by rfl)
  (hs1:starEach [.Call (.Name "range" p2) [a] [] pc] X.env=(false,eval (.Call (.Name "range" p2) [a] [] pc) X.env)::starEach [] X.env:=by rfl) (hpl:(backTo pos (starEach [] X.env)).any (·.1)=false:=by rfl) :
  CF X (.Call (.Name "list" p) [.Call (.Name "range" p2) [a] [] pc] [] pos) (dUn Gk da) :=
 ⟨PE.imp (xc hc hg hm hg2 hm2 (ag ha aw hs) hs hs1 hpl) (λσ H Q h=>by
  refine kC ?_
  obtain⟨F,α,e,μ,S,h⟩:=h
  refine⟨F,α,e,μ,S,(R.wp_bind h).mono (λx μ1 h v H1 F1 α1 x1 S1 o1=>?_) λ_ _ h=>h⟩
  obtain⟨w,h9,t',e1,post⟩:=R.aY h
  obtain⟨t,w',ht,h,e2⟩:=iz h9
  subst e1
  cases e2
  cases t with
  | int j =>
   cases (aO S1.st o1 ht).int
   have h:(if (bQ j && decide (j.toNat≤szL))=true then some (T.lst (a_ 0 j.toNat)) else none)=some t':=h
   by_cases hcc:(bQ j && decide (j.toNat≤szL))=true
   ·rw[if_pos hcc] at h
    cases h
    rw[Bool.and_eq_true,decide_eq_true_eq] at hcc
    obtain⟨b1,b2⟩:=fX hcc.1
    exact⟨j,rfl,b1,b2,hcc.2,λq hq=>post q _ F1 α1 (x1.trans (Ex.lay hq)) (S1.of (aI.refl _) (List.prefix_refl _) (S1.st.lay hq)) (x1.was S1.st hq) (S1.st.ext.free hq) (bC S1.st hq) ⟨_,az,aA.cnt _⟩⟩
   ·rw[if_neg hcc] at h;cases h
  | _=>cases h),λ_ _ _ _ h=>yL h⟩
end
section
variable{X:Cx}{a b c:Expr}{da db dc:D}{pos p p2 pu pc:Pos}{k:Nat}
end
section
variable{X:Cx}{pos:Pos}
theorem ni{o e1:Expr}{do_ de:D}{apos cL:Pos}(ho:CE X o do_)(he:CF X e1 de)(ib:attributeBase o "extend" X.env (eval o X.env)=eval o X.env:=by rfl)
  (sL:((backTo cL (starEach [e1] X.env)).all (λx=>!x.1) && (backToKw cL (keywordEach [] X.env)).all (λx=>x.1.isSome) && decide (([e1]:List Expr).length+([]:List Keyword).length+(if ([]:List Keyword).isEmpty then 0 else 1)<30))=true:=by rfl)
  (ic:(apos.endLine==cL.line)=true:=by rfl) (hs1:starEach [e1] X.env=(false,eval e1 X.env)::starEach [] X.env:=by rfl) (hpl:(backTo cL (starEach [] X.env)).any (·.1)=false:=by rfl)
  (hs:swapsWith (.Call (.Attribute o "extend" apos) [e1] [] cL) none pos.line X.env=pure false:=by rfl) :
  CS X (.Expr (.Call (.Attribute o "extend" apos) [e1] [] cL) pos) (cV do_ de) :=
 PS.imp (sD (yu PySem.F.plainAttrs_list PySem.F.slot_list_extend PySem.F.type_list_extend zX ho (ox he.1 wm hs1) ib sL ic hs1 hpl) hs) λD σ H aj=>by
  obtain⟨F,α,e,μ,S,h⟩:=aj
  refine⟨F,α,e,μ,S,(aV.toS h).mono (λx μ1 h v H1 F1 α1 x1 S1 o1=>?_) λ_ _ h=>h⟩
  obtain⟨_,hl,h⟩:=h.lift
  cases x with
  | cel j =>
   obtain⟨ad,ha,rfl⟩:=o1
   have hc:∃bb ts,μ1[j]?=some (bb,.lst ts):=by
    unfold iC at hl
    simp only at hl
    split at hl
    ·exact⟨_,_,by assumption⟩
    ·cases hl
   obtain⟨bb,ts,hj⟩:=hc
   have n1:=aO S1.st (x:=.cel j) (t:=.lst ts) ⟨ad,ha,rfl⟩ (by rw[hJ,hj];rfl)
   obtain⟨a',vs,e1,hq,_⟩:=n1.iJ
   cases e1
   refine⟨.inl ⟨rfl,vs,hq⟩,F1,α1,e,μ1,S1,(R.wI (aV.toS h)).mono (λy μ2 b9=>?_) λ_ _ h=>h.mono x1⟩
   obtain⟨hy,h⟩:=b9
   obtain⟨t,rfl⟩:=he.2 _ _ _ _ hy
   refine⟨t,rfl,λp H2 F2 α2 x2 S2 hp1 hp2 hp3 qW=>?_⟩
   obtain⟨μ3,hx3,Ds⟩:=aV.lift h
   have hx3:bW (.cel j) t μ2=some μ3:=hx3
   cases t with
   | lst us =>
    obtain⟨vs2,hv2,hr2⟩:=qW
    have hcc:∃ts2,μ2[j]?=some (true,.lst ts2)/\ts2.length+us.length≤szL/\μ3=μ2.set j (true,.lst (ts2++us)):=by
     unfold bW at hx3
     simp only at hx3
     split at hx3
     ·rename_i ts2 hj2
      by_cases hz:ts2.length+us.length≤szL
      ·rw[if_pos hz] at hx3
       cases hx3
       exact⟨ts2,hj2,hz,rfl⟩
      ·rw[if_neg hz] at hx3;cases hx3
     ·cases hx3
    obtain⟨ts2,hj2,hz,rfl⟩:=hcc
    have ha2:α2[j]?=some ad:=e9 x2.pre ha
    obtain⟨_,ws,hw,rw'⟩:=(S2.st.cell j true _ ad hj2 ha2).1 rfl
    have l1:=rw'.length
    have l2:=hr2.length
    refine⟨ad,p,ws,vs2,rfl,rfl,hw,hv2,by rw[ng] at hz;lia,?_⟩
    exact Ds σ _ F2 α2 ((x1.trans x2).trans (Ex.put ha2)) (S2.of (aI.refl _) (List.prefix_refl _) (kU S2.st hj2 ha2 ⟨_,az,rw'.append hr2⟩))
   | _=>cases hx3
  | val t=>cases hl
  | box xs=>cases hl
  | lbx xs=>cases hl
end
section
variable{X:Cx}{pos p:Pos}{k:Nat}{a:Expr}{da:D}
end
section
variable{X:Cx}{a b:Expr}{da db:D}{pos p:Pos}{k:Nat}
end
section
variable{X:Cx}{a b:Expr}{da db:D}{pos:Pos}
end
theorem Paired.get'{α β:Type}{P:α->β->Prop}:∀{as:List α}{bs:List β}{i:Nat}{b:β},Paired P as bs->bs[i]?=some b->∃a,as[i]?=some a/\P a b
 | _,_,i,b,.nil,h=>by simp at h
 | _,_,0,b,.cons r t,h=>by simp at h;subst h;exact⟨_,rfl,r⟩
 | _,_,i+1,b,.cons r t,h=>by
  obtain⟨a,h1,h2⟩:=Paired.get' t (by simpa using h)
  exact⟨a,by simpa using h1,h2⟩
section
variable{X:Cx}{body:List Stmt}{es:List Expr}{ds:List D}{d:DS}{pos np lp:Pos}
end
end Fw
namespace L2
open PySem PySem.Spec PyProof.Rows
section
variable{prog:Program}{w:World}{A:Around}{E:Value->Shared->Prop}{s:Shared}
end
section
variable{prog:Program}{w:World}{A:Around}{E:Value->Shared->Prop}{s:Shared}
end
end L2
namespace Fw
open PySem PySem.Spec PyProof.Rows L2
end Fw
namespace L2
open PySem PySem.Spec PyProof.Rows
open AutoSeq1 (wpAny_loadPart')
section
variable{prog:Program}{w:World}{A:Around}{E:Value->Shared->Prop}{s:Shared}
end
end L2
namespace HT
open PySem PySem.Spec PyProof.Rows L2
section
variable{prog:Program}{w:World}{A:Around}{E:Value->Shared->Prop}{s:Shared}
theorem k_{t sl:Addr}{items:Array Value}{vl vu:Value}{lo hi:Option Int}{Q:Value->Shared->Prop}(ht:IsTup s.heap t items)(hs:s.heap.IsSliceOf sl vl vu .none)(pl:IsPart vl lo)(pu:IsPart vu hi)
  (hw:sIx items.size 0 lo=0/\sIx items.size items.size hi=items.size) (h:Q (.ref t) s):wpAny (model prog w) A (getItem (.ref t) (.ref sl)) Q E s:=by
 obtain⟨os,hos,hcs,hds⟩:=id hs
 have hTs:s.TypeIs (.ref sl) "slice":=⟨os,hos,hcs⟩
 unfold getItem
 try with_reducible refine wpAny_holding ?_
 first|refine wpAny_bind (wpAny_pure ?_)|skip
 refine wpAny_bind (wpAny_sequenceKey ht.typeIs (by decide) ?_)
 refine wpAny_bind (wpAny_callSpecial?_slot (name:=Str.ofString "__getitem__") ht.typeIs PyProof.Rows.slot_tuple_getitem
  (wpAny_call_entry PyProof.Rows.slot_tuple_getitem ht.typeIs entry_tuple_getitem ?_ (args_tuple_getitem _ _)))
 show wpAny _ _ (Builtin.Tuple.tupleItemsOf (.ref t)>>=_) _ _ s
 refine wpAny_bind (tupleItemsOf_ ht ?_)
 refine wpAny_bind (wpAny_typeOf hTs ?_)
 rw[if_pos (by decide)]
 refine wpAny_bind (ia hs pl pu ?_)
 have NV:(((sIx items.size 0 lo:Nat):Int)==0 && (1:Int)==1 && (sIx items.size items.size hi-sIx items.size 0 lo)==items.size)=true:=by
  rw[hw.1,hw.2];simp
 show wpAny _ _ (if (((sIx items.size 0 lo:Nat):Int)==0 && (1:Int)==1 && (sIx items.size items.size hi-sIx items.size 0 lo)==items.size)=true then _ else _) _ _ s
 rw[if_pos NV]
 show wpAny _ _ (Builtin.Tuple.tupleIsExact (.ref t)>>=_) _ _ s
 refine wpAny_bind ?_
 unfold Builtin.Tuple.tupleIsExact
 refine wpAny_bind (wpAny_typeOf ht.typeIs (wpAny_pure ?_))
 show wpAny _ _ (if (Value.type "tuple"==Value.type "tuple")=true then _ else _) _ _ s
 rw[if_pos (by decide)]
 refine wpAny_bind (wpAny_rule ?_)
 first
  | exact wpAny_pure ⟨_,rfl,wpAny_pure h⟩
  | exact wpAny_bind (wpAny_pure (wpAny_pure ⟨_,rfl,wpAny_pure h⟩))
end
end HT
namespace L2
open PySem PySem.Spec PyProof.Rows
def NW(K:PySem.W.Frag):V->Option Int->Option Int->Hp->VK->Prop:=λx lo hi H Q=>∃a xs,x=.ref a/\SqT K H a xs/\(HT.sIx xs.length 0 lo=0/\HT.sIx xs.length xs.length hi=xs.length)/\Q (.ref a) H
theorem GI{X:Cx}:SlR X (NW X.K):=by
 intro pins s σ H x v vl vu lo hi sl Q I rx hs pl pu h
 obtain⟨a,xs,rfl,hx,hw,q⟩:=h
 cases rx
 obtain⟨its,r,ht,hz⟩:=I.tuple hx
 have hlen:its.toArray.size=xs.length:=by rw[List.size_toArray];exact r.length.symm
 refine⟨"tuple",_,PyProof.Rows.slot_tuple_getitem.lookup,ht.typeIs,?_⟩
 refine HT.k_ ht hs pl pu (by rw[hlen];exact hw) ?_
 exact⟨.ref a,H,I,rfl,q⟩
end L2
namespace Fw
open PySem PySem.Spec PyProof.Rows L2
theorem iM{X:Cx}{a:Expr}{da:D}{pos p2:Pos}{lo hi:Option Expr}{dl dh:Option D}(ha:CE X a da)(hl:CO X lo dl)(hh:CO X hi dh):CE X (.Subscript a (.Slice lo hi none p2) pos) (dm da dl dh) :=
 PE.imp (uG (yt.or (BW.or GI)) ha hl hh) λσ H Q aj=>by
  obtain⟨F,α,e,μ,S,h⟩:=aj
  refine⟨F,α,e,μ,S,(R.wp_bind h).mono (λx μ1 h v H1 F1 α1 x1 S1 o1=>⟨F1,α1,e,μ1,S1,?_⟩) λ_ _ h=>h⟩
  refine(R.wp_bind h).mono (λl μ2 h H2 F2 α2 x2 S2=>⟨F2,α2,e,μ2,S2,?_⟩) λ_ _ h=>h.mono x1
  refine(R.wp_bind h).mono (λr μ3 h H3 F3 α3 x3 S3=>?_) λ_ _ h=>h.mono (x1.trans x2)
  obtain⟨w,h9,post⟩:=R.aY h
  obtain⟨t,w',ht,h,rfl⟩:=iz h9
  have nt:=aO S3.st (o1.mono (x2.trans x3).same (x2.trans x3).pre) ht
  have fin:∀v' H' F',bt F3 H3 F' H'->Rep X.K F' w' v'->Q v' H':=λv' H' F' g rp=>post v' H' F' α3 (x1.trans (x2.trans (x3.trans (g.ex S3.st.ext)))) (S3.grow g) rp
  cases t with
  | lst ts =>
   cases h
   obtain⟨c,vs,rfl,hq,hl⟩:=nt.iJ
   exact .inl ⟨c,vs,rfl,hq,λq hq'=>oG S3.st.ext hq' (hl.cut l r) fin⟩
  | tup ts =>
   cases h
   obtain⟨c,vs,rfl,hq,hl⟩:=nt.pP
   have e:∀d o,HT.sIx vs.length d o=Fw.sIx ts.length d o:=λd o=>by rw[hl.length];cases o<;>rfl
   by_cases hc:Fw.sIx ts.length 0 l=0/\Fw.sIx ts.length ts.length r=ts.length
   ·refine .inr (.inr ⟨c,vs,rfl,aI.fm S3.st.ext hq,by rw[e,e,← hl.length];exact hc,fin _ _ F3 bt.refl ?_⟩)
    have ec:gi ts l r=ts:=by
     unfold gi
     rw[hc.1,hc.2,List.drop_zero,Nat.sub_zero,List.take_length]
    rw[ec,Rep]
    exact⟨c,vs,rfl,hq,hl⟩
   ·refine .inr (.inl ⟨c,vs,rfl,aI.fm S3.st.ext hq,?_,λq hq'=>oH S3.st.ext hq' (hl.cut l r) fin⟩)
    rw[e,e,← hl.length]
    exact hc
  | _=>cases h
end Fw
namespace Fw
open PySem L2 PyProof.Rows
section
variable{X:Cx}{pins:List (Addr×Obj)}{σ:L2.St}{H:Hp}{s:Shared}
end
section
variable{X:Cx}{a:Expr}{da:D}{p pos:Pos}{b:Bool}
end
section
variable{X:Cx}{E:Value->Shared->Prop}{pins:List (Addr×Obj)}{σ:L2.St}{H:Hp}{s:Shared}
end
end Fw
namespace L2
open PySem PySem.Spec PyProof.Rows Fw
section
variable{X:Cx}
theorem mz:∀{us:List Value}{ns:List Int},IntsAre us ns->Vals (ns.map V.int) us
 | _,_,.nil=>.nil
 | _,_,.cons _ _ h=>.cons ⟨_,rfl⟩ (mz h)
theorem vj:cX X (.builtin "sorted") (λxs H Q=>∃(p:Addr) (ns:List Int),xs=[.ref p]/\SqL X.K H p (ns.map V.int)/\ns.length<64/\∀q,H q=none->Q (.ref q) (upd H q (.lst ((nV ns).map V.int)))):=by
 intro pins s σ H xs us Q I r h
 obtain⟨p,ns,rfl,hq,hlt,q⟩:=h
 obtain⟨u,rfl,ru⟩:=vals1 r
 cases ru
 obtain⟨its,rv,pl,hz⟩:=I.list hq
 have hi:IntsAre its ns:=intsAre_of rv
 have hl:=rv.length
 rw[List.length_map] at hl hz
 refine sorted_ints pl.isList hi (by omega) λout ns' a1 a2 a3=>?_
 have e:ns'=nV ns:=Gm a2 a3
 subst e
 have hv:=mz a1
 have hsz:((s.heap.push (seqObj "list" #[] 0)).update s.heap.objs.size (Obj.mapSeq (·++its.toArray))).objs.size=s.heap.objs.size+1:=by
  rw[Heap.size_update,Heap.size_push]
 have keep:∀b o,s.heap.get? b=some o->(sortedAll s.heap its out).get? b=some o:=λb o e=>by
  have hb:=Heap.lt_size e
  have n1:s.heap.objs.size≠b:=Nat.ne_of_gt hb
  have n2:s.heap.objs.size+1≠b:=Nat.ne_of_gt (Nat.lt_succ_of_lt hb)
  unfold sortedAll sortedHeap
  rw[Heap.get?_update_other _ _ n2]
  refine Heap.get?_push_of_some _ (Heap.get?_push_of_some _ ?_)
  rw[Heap.get?_update_other _ _ n2]
  refine Heap.get?_push_of_some _ ?_
  rw[Heap.get?_update_other _ _ n1]
  exact Heap.get?_push_of_some _ e
 have new:∃c,(sortedAll s.heap its out).get? (s.heap.objs.size+1)=some { cls:=.type "list",data:=.seq out c }:=by
  have h1:(((s.heap.push (seqObj "list" #[] 0)).update s.heap.objs.size (Obj.mapSeq (·++its.toArray))).push (seqObj "list" its.toArray 0)).get? (s.heap.objs.size+1)=some (seqObj "list" its.toArray 0):=by
   rw[← hsz];exact Heap.get?_push_size _ rfl
  have h2:=Heap.get?_update_self (Obj.mapSeq λ_=>(#[]:Array Value)) h1 rfl
  have h3:=Heap.get?_push_of_some (seqObj "list" #[] 0) (Heap.get?_push_of_some (seqObj "tuple" its.toArray 0) h2)
  have h4:=Heap.get?_update_self (Obj.mapSeq λ_=>out) h3 rfl
  exact⟨_,h4⟩
 obtain⟨c,hc⟩:=new
 have hle:s.heap.objs.size≤s.heap.objs.size+1:=Nat.le_succ _
 refine⟨.ref (s.heap.objs.size+1),_,I.laid (a:=s.heap.objs.size+1) (o:=.lst ((nV ns).map V.int)) (t':=s.toks) keep hle ⟨?_,out.toList,c,hv,?_⟩,rfl,q _ (I.hok.fresh hle)⟩
 ·rw[List.length_map,(j0 ns).length_eq];exact hz
 ·simpa using hc
end
end L2
namespace Fw
open PySem PySem.Spec PyProof.Rows L2
section
variable{X:Cx}{a:Expr}{da:D}{p pos:Pos}
theorem AO(hm:X.mg "sorted"=none)(ha:CE X a da)(hg:Gl X "sorted":=by rfl)(hs1:starEach [a] X.env=(false,eval a X.env)::starEach [] X.env:=by rfl)(hpl:(backTo pos (starEach [] X.env)).any (·.1)=false:=by rfl) :
  CE X (.Call (.Name "sorted" p) [a] [] pos) (dUn mx da):=s_ vj (by
 intro F H v t w Q s hv hw q
 cases t with
 | lst ts =>
  obtain⟨ns,h1,h2⟩:=Option.bind_eq_some_iff.mp (show((eO ts).bind λns=>if ns.length<64 then some (T.lst ((nV ns).map T.int)) else none)=some w from hw)
  obtain⟨a,vs,rfl,hq,hl⟩:=hv.iJ
  rw[j3 h1] at hl
  rw[hl.yS] at hq
  by_cases hlt:ns.length<64
  ·rw[if_pos hlt] at h2
   cases h2
   exact⟨a,ns,rfl,hq,hlt,λp hp=>oG s hp (aA.oE _) q⟩
  ·rw[if_neg hlt] at h2;cases h2
 | _=>cases hw) hm (by decide +kernel) ha hg (by decide) (by decide) hs1 hpl
end
def Mm(K:PySem.W.Frag)(neg:Bool):R2:=λx y H Q=>∃t ts,Rep K H t x/\Rep K H (.lst ts) y/\okT 100 t=true/\okT 100 (.lst ts)=true/\Q (.bl (if neg then !inT t ts else inT t ts)) H
mutual
theorem Dt:∀(n:Nat) (t:T),okT n t=true->okT (n+1) t=true
 | n,.non,_=>by simp
 | n,.bl _,_=>by simp
 | n,.int _,_=>by simp
 | n,.str x,h=>by unfold okT at h ⊢;exact h
 | 0,.lst ts,h=>by rw[okT] at h;cases h
 | n+1,.lst ts,h=>by rw[okT] at h ⊢;exact tQ n ts h
 | 0,.tup ts,h=>by rw[okT] at h;cases h
 | n+1,.tup ts,h=>by rw[okT] at h ⊢;exact tQ n ts h
 | n,.dct _,h=>by unfold okT at h;cases h
 | n,.exc _ _,h=>by unfold okT at h;cases h
theorem tQ:∀(n:Nat) (ts:List T),eA n ts=true->eA (n+1) ts=true
 | n,[],_=>by rw[eA]
 | n,t::ts,h=>by
  rw[eA,Bool.and_eq_true] at h
  rw[eA,Dt n t h.1,tQ n ts h.2]
  rfl
end
def pS(h:Heap)(d:PyData)(w:Value):Bool:=@decide (∃d' bs,Reads h w d' bs/\d'.canLay0=true/\PyData.eqv d' d=true) (Classical.propDecidable _)
theorem Du{h:Heap}{d d':PyData}{w:Value}{bs:List Addr}(r:Reads h w d' bs)(c:d'.canLay0=true):pS h d w=PyData.eqv d' d:=by
 unfold pS
 rw[Bool.eq_iff_iff]
 refine Iff.trans (@decide_eq_true_iff _ (Classical.propDecidable _)) ?_
 constructor
 ·rintro⟨d2,bs2,r2,c2,e⟩
  have:d'=d2:=SeqAt.Reads.unique d' d2 w bs bs2 c r r2
  rw[this];exact e
 ·intro e
  exact⟨d',bs,r,c,e⟩
section
variable{X:Cx}{pins:List (Addr×Obj)}{σ:L2.St}{H:Hp}{s:Shared}{k:Nat}
theorem vk(I:Inv X pins σ H s)(hr:cz k X.A){t:T}{v:Value}{as:List Addr}(o1:okT 100 t=true)(r1:Reads s.heap v (toPy t) as):∀{ts:List T}{vs:List V}{its:List Value},aA X.K H ts vs->Vals vs its->eA 99 ts=true ->
  its.any (pS s.heap (toPy t))=inT t ts/\∀w∈its,SeqAt.EqAt X.A.in1 s w v (pS s.heap (toPy t) w)
 | [],vs,its,hl,hv,_=>by
  rw[aA] at hl;subst hl;cases hv
  exact⟨rfl,λw hw=>by cases hw⟩
 | u::ts,vs,its,hl,hv,o=>by
  rw[aA] at hl
  obtain⟨x,vs',rfl,q,r⟩:=hl
  cases hv with
  | cons rx hv =>
   rename_i w its
   rw[eA,Bool.and_eq_true] at o
   obtain⟨h1,h2⟩:=vk I hr o1 r1 r hv o.2
   obtain⟨bs,r2⟩:=gu I 99 u x w q rx o.1
   obtain⟨c1,d1⟩:=k8 100 t o1
   obtain⟨c2,d2⟩:=k8 99 u o.1
   have e:=Du (d:=toPy t) r2 c2
   have eq:PyData.eqv (toPy u) (toPy t)=eqT u t:=tL 100 u t (Dt _ _ o.1) o1
   refine⟨?_,λw' hw=>?_⟩
   ·rw[List.any_cons,h1,e,eq]
    rfl
   ·rcases List.mem_cons.mp hw with z|z
    ·rw[z,e]
     exact SeqAt.eqAt_reads _ _ _ _ _ _ _ _ r2 r1 c2 c1 (by
      have hu:=hr.un
      show X.A.units+1+_<_
      omega)
    ·exact h2 w' z
theorem AQ(hr:cz k X.A):OpR X (compareOp .NotIn) (Mm X.K true):=by
 intro pins s σ H x y v u Q I rx ry h
 obtain⟨t,ts,h1,h2,o1,o2,q⟩:=h
 rw[Rep] at h2
 obtain⟨a,vs,rfl,hq,hl⟩:=h2
 cases ry
 obtain⟨its,r,pl,hz⟩:=I.list hq
 obtain⟨as,r1⟩:=gu I 100 t x v h1 rx o1
 rw[okT] at o2
 obtain⟨e1,e2⟩:=vk I hr o1 r1 hl r o2
 refine SeqAt.notIn_listAt (pS s.heap (toPy t)) pl.isList (λw hw=>e2 w (by simpa using hw)) ⟨.bl _,H,I,rfl,?_⟩
 rw[show its.toArray.any (pS s.heap (toPy t))=its.any (pS s.heap (toPy t)) by simp,e1]
 exact q
end
theorem Dv{K:PySem.W.Frag}:du K (Mm K true) pN:=by
 intro F H v u t t' w Q s hv hu hw q
 cases t' with
 | lst us =>
  have hw:(if okT 100 t=true/\okT 100 (.lst us)=true then some (T.bl (!inT t us)) else none)=some w:=hw
  by_cases ho:okT 100 t=true/\okT 100 (.lst us)=true
  ·rw[if_pos ho] at hw
   cases hw
   exact⟨t,us,hv.rep s (eE ho.1),hu.rep s (eE ho.2),ho.1,ho.2,q _ H F bt.refl (Rep.bl' _)⟩
  ·rw[if_neg ho] at hw;cases hw
 | _=>cases hw
section
variable{X:Cx}{a b:Expr}{da db:D}{pos:Pos}{k:Nat}
theorem GJ(hr:cz k X.A)(ha:CE X a da)(hb:CE X b db)(hm:behindInMarks .NotIn b=false:=by rfl):CT X (.Compare a [.NotIn] [b] pos) (ah pN da db):=jo (AQ hr) Dv hm ha hb
end
end Fw
namespace L2
open PySem PySem.Spec PyProof.Rows
end L2
namespace Fw
open PySem PySem.Spec PyProof.Rows L2
end Fw
namespace L2
open PySem PySem.Spec PyProof.Rows
section
variable{prog:Program}{w:World}{A:Around}{E:Value->Shared->Prop}{s:Shared}
abbrev JQ(h:Heap)(z TI TO a:Addr)(f:Bool):Prop:=h.get? z=some { cls:=.type "zip",dict:=none,data:=.fields #[rawInt a,.bool f,.bool false,.ref TI,.ref TO],slots:=#[] }
structure ZOA(z TI i1 i2 l1 l2:Addr):Prop where
 TIz:TI≠z
 i1z:i1≠z
 i2z:i2≠z
 i12:i1≠i2
 l1z:l1≠z
 l1i1:l1≠i1
 l2z:l2≠z
 l2i1:l2≠i1
end
section
variable{X:Cx}{pins:List (Addr×Obj)}{σ:L2.St}{H:Hp}{s:Shared}
structure ZO(k1 k2:Bool)(z TI TO i1 i2 l1 l2:Addr)(i:Nat)(H:Hp)(h:Heap):Prop where
 zz:IsZip h z TI TO .none∨∃a f ws,H a=some (.tup ws)/\JQ h z TI TO a f
 ti:IsPair h TI (.ref i1) (.ref i2)
 to:∃a b,IsPair h TO a b
 one:KIt k1 h i1 l1 i
 two:KIt k2 h i2 l2 i
theorem ZO.keep{k1 k2:Bool}{z TI TO i1 i2 l1 l2:Addr}{i:Nat}{h h':Heap}(st:ZO k1 k2 z TI TO i1 i2 l1 l2 i H h)(k:∀b∈[z,TI,TO,i1,i2],∀o,h.get? b=some o->h'.get? b=some o):ZO k1 k2 z TI TO i1 i2 l1 l2 i H h':=by
 obtain⟨a,b,hto⟩:=st.to
 refine⟨?_,k TI (.tail _ (.head _)) _ st.ti,⟨a,b,k TO (.tail _ (.tail _ (.head _))) _ hto⟩,st.one.at λo e=>k i1 (.tail _ (.tail _ (.tail _ (.head _)))) o e,st.two.at λo e=>k i2 (.tail _ (.tail _ (.tail _ (.tail _ (.head _))))) o e⟩
 rcases st.zz with hz|⟨c,f,ws,hc,hz⟩
 ·exact .inl (k z (.head _) _ hz)
 ·exact .inr ⟨c,f,ws,hc,k z (.head _) _ hz⟩
theorem ZO.apart{k1 k2:Bool}{z TI TO i1 i2 l1 l2:Addr}{i:Nat}{xs ys:List V}(d1:TI≠TO)(d2:i1≠i2)(I:Inv X pins σ H s)(hf:∀b∈[z,TI,TO,i1,i2],je X pins H b)(st:ZO k1 k2 z TI TO i1 i2 l1 l2 i H s.heap)(h1:fv X.K k1 H l1 xs)(h2:fv X.K k2 H l2 ys) :
  ZipApart z TI TO i1 i2 l1 l2/\ZOA z TI i1 i2 l1 l2:=by
 obtain⟨a,b,hto⟩:=st.to
 obtain⟨o1,e1,q1⟩:=st.one.ob
 obtain⟨o2,e2,q2⟩:=st.two.ob
 obtain⟨oz,vz,ez,qz,sz⟩:∃(oz:Obj) (vz:Array Value),s.heap.get? z=some oz/\oz.data=.fields vz/\vz.size=5:=by
  rcases st.zz with hz|⟨c,f,ws,hc,hz⟩
  ·exact⟨_,_,hz,rfl,rfl⟩
  ·exact⟨_,_,hz,rfl,rfl⟩
 have neP:∀{c d:Addr}{o:Obj}{u v:Value}{vs:Array Value},IsPair s.heap c u v->s.heap.get? d=some o->o.data=.fields vs->c≠d:=λ{c d o u v vs} hp ho hd e=>by
  subst e
  have hp:s.heap.get? c=some { cls:=.type "tuple",data:=.seq #[u,v] }:=hp
  rw[hp] at ho;cases ho;cases hd
 have neZ:∀{d:Addr}{l:Addr}{o:Obj}{n:Nat},s.heap.get? d=some o->o.data=.fields #[.ref l,.int n 0]->d≠z:=λ{d l o n} ho hd e=>by
  subst e
  rw[ez] at ho;cases ho
  rw[qz] at hd
  have:vz=#[.ref l,.int n 0]:=by injection hd
  rw[this] at sz
  exact absurd sz (by simp)
 have w:∀c∈[z,TI,TO,i1,i2],l1≠c/\l2≠c:=λc hc=>⟨dz I h1 (hf c hc),dz I h2 (hf c hc)⟩
 have D:ZipApart z TI TO i1 i2 l1 l2:={ TIz:=neP st.ti ez qz,TOz:=neP hto ez qz,i1z:=neZ e1 q1,i2z:=neZ e2 q2,TITO:=d1,TIi1:=neP st.ti e1 q1,TIi2:=neP st.ti e2 q2,TOi1:=neP hto e1 q1,TOi2:=neP hto e2 q2,i12:=d2,l1z:=(w z (.head _)).1,l1TO:=(w TO (.tail _ (.tail _ (.head _)))).1,l1i1:=(w i1 (.tail _ (.tail _ (.tail _ (.head _))))).1,l1i2:=(w i2 (.tail _ (.tail _ (.tail _ (.tail _ (.head _)))))).1,l2z:=(w z (.head _)).2,l2TO:=(w TO (.tail _ (.tail _ (.head _)))).2,l2i1:=(w i1 (.tail _ (.tail _ (.tail _ (.head _))))).2,l2i2:=(w i2 (.tail _ (.tail _ (.tail _ (.tail _ (.head _)))))).2 }
 exact⟨D,⟨D.TIz,D.i1z,D.i2z,D.i12,D.l1z,D.l1i1,D.l2z,D.l2i1⟩⟩
end
end L2
namespace Fw
open PySem PySem.Spec PyProof.Rows L2
end Fw
namespace L2
open PySem PySem.Spec PyProof.Rows
end L2
namespace Fw
open PySem PySem.Spec PyProof.Rows L2
end Fw
namespace L2
open PySem PySem.Spec PyProof.Rows
section
variable{prog:Program}{w:World}{A:Around}{E:Value->Shared->Prop}{s:Shared}{d it:Addr}{es:Array DictEntry}{ep i:Nat}
end
section
variable{X:Cx}{pins:List (Addr×Obj)}{σ:List (Option V)}{H:Hp}{s:Shared}{d:Addr}{kvs:List (List Key×V)}
end
end L2
namespace Fw
open PySem
def pT:T->Option (List T)
 | .tup ts=>some ts
 | _=>none
def tR(d:D):DI:=λe μ=>(d e μ).bind λx μ1=>(R.lift ((rd μ1 x).bind pT) μ1).bind λts μ1=>.ok ⟨dw 1 ts,λμ'=>rd μ' x=rd μ1 x⟩ μ1
theorem AR(d:D)(e:Slots)(μ:af):tR d e μ=(d e μ).bind λx μ1=>(R.lift ((rd μ1 x).bind pT) μ1).bind λts μ1=>.ok ⟨dw 1 ts,λμ'=>rd μ' x=rd μ1 x⟩ μ1:=(rfl)
end Fw
namespace Fw
open PySem PySem.Spec PyProof.Rows L2
section
variable{X:Cx}{a b c:Expr}{da db dc:D}{pos p p2:Pos}{k:Nat}
end
end Fw
namespace HT
open PySem PyProof.Rows
section
open PySem.SeqAt
open PySem.AutoSeq1 (wpAny_loadPart')
open PySem.MeetsSeq PySem.MeetsSeq2 PySem.MeetsSeq3
end
section
variable{prog:Program}{w:World}{A:Around}{E:Value->Shared->Prop}{s:Shared}
end
end HT
namespace HT
open PySem PySem.W PySem.Calls PyProof.Rows
section
variable{n:Nat}{p:Array Nat}
end
section
variable{prog:Program}{w:World}{A:Around}{E:Value->Shared->Prop}{s:Shared}
end
end HT
namespace Fw
open PySem
end Fw
namespace HT
open PySem PySem.W PySem.Calls PyProof.Rows
section
variable{prog:Program}{w:World}{A:Around}{E:Value->Shared->Prop}{s:Shared}
end
end HT
namespace L2
open PySem PySem.Spec PyProof.Rows Fw
section
variable{X:Cx}
def LsI(K:PySem.W.Frag)(H:Hp):List V->List (List Int)->Prop
 | [],[]=>True
 | v::vs,ns::nss=>(∃a,v=.ref a/\SqL K H a (ns.map V.int))/\LsI K H vs nss
 | _,_=>False
theorem LsI.len{K:PySem.W.Frag}{H:Hp}:∀{vs:List V}{nss:List (List Int)},LsI K H vs nss->vs.length=nss.length
 | [],[],_=>rfl
 | _::_,_::_,h=>by rw[List.length_cons,List.length_cons,LsI.len h.2]
end
end L2
namespace Fw
open PySem PySem.Spec PyProof.Rows L2
section
variable{K:PySem.W.Frag}{F H:Hp}
end
section
variable{X:Cx}{a:Expr}{da:D}{p pos:Pos}{k:Nat}
end
end Fw
namespace Fw
open PySem
def rdP(μ:af):Sum T Nat->Option T
 | .inl t=>some t
 | .inr k=>(μ[k]?).map (·.2)
def tS(μ:af):List (Sum T Nat)->Option (List T)
 | []=>some []
 | x::xs=>(rdP μ x).bind λt=>(tS μ xs).map (t::·)
def rdX(μ:af):SV->Option T
 | .box xs=>(tS μ xs).map T.tup
 | .lbx xs=>(tS μ xs).map T.lst
 | x=>rd μ x
def eqB(neg:Bool)(t u:T):Option T:=if okT 100 t=true/\okT 100 u=true then some (.bl (if neg then !eqT t u else eqT t u)) else none
def vm(neg:Bool)(da db:D):D:=λe μ=>(da e μ).bind λx μ1=>(db e μ1).bind λy μ2=>R.lift (ap2 (eqB neg) (rdX μ2 x) (rdX μ2 y)) μ2
theorem Dw(neg:Bool)(da db:D)(e:Slots)(μ:af):vm neg da db e μ=(da e μ).bind λx μ1=>(db e μ1).bind λy μ2=>R.lift (ap2 (eqB neg) (rdX μ2 x) (rdX μ2 y)) μ2:=(rfl)
end Fw
namespace Fw
open PySem PySem.Spec PyProof.Rows L2
section
variable{K:PySem.W.Frag}{F H:Hp}{α:List Addr}{μ:af}
theorem GK(S:cf K F α μ H){x:Sum T Nat}{v:V}{t:T}(h:i_ K F α v x)(r:rdP μ x=some t){n:Nat}(ok:okT n t=true):Rep K H t v:=by
 cases x with
 | inl u=>cases r;exact Rep.mono S.ext _ _ h
 | inr k=>exact(aO S (x:=.cel k) h r).rep S.ext (eE ok)
theorem pU(S:cf K F α μ H){n:Nat}:∀{xs:List (Sum T Nat)}{vs:List V}{ts:List T},Paired (i_ K F α) vs xs->tS μ xs=some ts->eA n ts=true->aA K H ts vs
 | [],_,ts,.nil,r,ok=>by cases r;exact aA.iE
 | x::xs,_,ts,.cons h hs,r,ok=>by
  obtain⟨t,r1,r2⟩:=Option.bind_eq_some_iff.mp (show(rdP μ x).bind _=some ts from r)
  obtain⟨us,r3,rfl⟩:=Option.map_eq_some_iff.mp r2
  rw[eA,Bool.and_eq_true] at ok
  exact .dj (GK S h r1 ok.1) (pU S hs r3 ok.2)
theorem yY(S:cf K F α μ H){x:SV}{v:V}{t:T}(h:eL K F α v x)(r:rdX μ x=some t){n:Nat}(ok:okT n t=true):Rep K H t v:=by
 cases x with
 | box xs =>
  obtain⟨ts,r1,rfl⟩:=Option.map_eq_some_iff.mp (show(tS μ xs).map T.tup=some t from r)
  obtain⟨a,vs,rfl,hq,hp⟩:=h
  rw[Rep]
  cases n with
  | zero=>rw[okT] at ok;cases ok
  | succ n =>
   rw[okT] at ok
   exact⟨a,vs,rfl,aI.fm S.ext hq,pU S hp r1 ok⟩
 | lbx xs =>
  obtain⟨ts,r1,rfl⟩:=Option.map_eq_some_iff.mp (show(tS μ xs).map T.lst=some t from r)
  obtain⟨a,vs,rfl,hq,hp⟩:=h
  rw[Rep]
  cases n with
  | zero=>rw[okT] at ok;cases ok
  | succ n =>
   rw[okT] at ok
   exact⟨a,vs,rfl,aI.seq S.ext hq,pU S hp r1 ok⟩
 | val u=>exact(aO S h r).rep S.ext (eE ok)
 | cel k=>exact(aO S h r).rep S.ext (eE ok)
end
section
variable{X:Cx}{a b:Expr}{da db:D}{pos:Pos}{k:Nat}
theorem NX{neg:Bool}(σ:L2.St)(H:Hp)(Q:VK)(h:tD X (vm neg da db) σ H Q):tOp (C6 X.K neg) (tD X da) (tD X db) σ H Q:=by
 obtain⟨F,α,e,μ,S,h⟩:=h
 refine⟨F,α,e,μ,S,?_⟩
 refine(R.wp_bind h).mono (λx μ1 h v H1 F1 α1 x1 S1 o1=>⟨F1,α1,e,μ1,S1,?_⟩) λ_ _ h=>h
 refine(R.wp_bind h).mono (λy μ2 h v2 H2 F2 α2 x2 S2 o2=>?_) λ_ _ h=>h.mono x1
 obtain⟨w,h9,post⟩:=R.aY h
 obtain⟨t,u,w',ht,hu,h,rfl⟩:=mU h9
 have h:(if okT 100 t=true/\okT 100 u=true then some (T.bl (if neg then !eqT t u else eqT t u)) else none)=some w':=h
 by_cases ho:okT 100 t=true/\okT 100 u=true
 ·rw[if_pos ho] at h
  cases h
  exact⟨t,u,yY S2.st (o1.mono x2.same x2.pre) ht ho.1,yY S2.st o2 hu ho.2,ho.1,ho.2,post _ H2 F2 α2 (x1.trans x2) S2 (Rep.bl' (K:=X.K) (F:=F2) _)⟩
 ·rw[if_neg ho] at h;cases h
theorem JR(hr:cz k X.A)(ha:CE X a da)(hb:CE X b db):CE X (.Compare a [.Eq] [b] pos) (vm false da db):=PE.imp (yn (wY hr) ha hb (ix _)) NX
end
section
variable{X:Cx}{body:List Stmt}{it:Expr}{dv:D}{d:DS}{pos np:Pos}
end
end Fw
namespace HT
open PySem PySem.Calls PyProof.Rows
section
variable{prog:Program}{w:World}{A:Around}{E:Value->Shared->Prop}{s:Shared}
end
end HT
namespace L2
open PySem PySem.Spec PyProof.Rows Fw
section
variable{X:Cx}
end
end L2
namespace Fw
open PySem PySem.Spec PyProof.Rows L2
section
variable{X:Cx}{a:Expr}{da:D}{p pos:Pos}
end
end Fw
namespace Fw
open PySem
end Fw
namespace L2
open PySem PySem.Spec PyProof.Rows
end L2
namespace Fw
open PySem PySem.Spec PyProof.Rows L2
section
variable{X:Cx}{a b:Expr}{da db:D}{pos:Pos}{k:Nat}
end
section
variable{X:Cx}{a b:Expr}{da db:D}{pos:Pos}{k:Nat}
end
end Fw
set_option maxHeartbeats 4000000
namespace Fw
open PySem PySem.Spec PyProof.Rows L2
theorem fsc{N P:List Str}{sc:Scope}(h1:sc.kind=.function:=by rfl)(h2:sc.isCoroutine=false:=by rfl)(h3:sc.isGenerator=false:=by rfl)(h4:N.Nodup:=by decide +kernel)(h5:N.take P.length=P:=by rfl)
  (h6:∀x∈P,sc.names.lookup x=some .local∨sc.names.lookup x=some .cell:=by decide +kernel) (h7:∀y∈sc.names,y.2≠.free:=by decide +kernel):aU N P sc:=⟨h1,h2,h3,h4,h5,h6,h7⟩
section
variable{X:Cx}{k r:Nat}{f:Addr}{fd:FuncData}{ps:List Str}{fn:FN}{x:Str}{st:Stmt}{e:Expr}{es:List Expr}{ds:List D}{p pos:Pos}
theorem cc(G:kj X.prog X.w X.K X.mg X.base CX0 k f fd ps (spD X.K fn ps.length))(hr:cz r X.A)(g:Gf X.K X.mg x st ps f fd)(ha:CA X (e::es) ds)(le:k≤r:=by first|decide|exact Nat.le_refl _|exact Nat.le_trans (by decide) (Nat.le_add_right _ _))
  (hl:ds.length=ps.length:=by rfl) (hg:Gl X x:=by rfl) (hdb:(x==("__debug__":Str))=false:=by decide) (he:starEach (e::es) X.env=(false,eval e X.env)::starEach es X.env:=by rfl) (hpl:(backTo pos (starEach es X.env)).any (·.1)=false:=by rfl) :
  CE X (.Call (.Name x p) (e::es) [] pos) (ax (cal fn) ds):=F8 G (hr.mono le) g.m g.F.kp g.b ha hl hg hdb he hpl
end
structure Fa(K:PySem.W.Frag)(x:Str)(st:Stmt)(f:Addr)(fd:FuncData):Prop where
 a:PySem.W.nsIn K mainGlobals x=some (some (.ref f))
 F:Fun K x x st f fd
section
variable{K:PySem.W.Frag}{mg:Str->Option Value}{x:Str}{st:Stmt}{f:Addr}
theorem cj{oc:Value}{od an:Option Addr}{osl:Array (Option Value)}{kV doc pm cdv ct:Value}(a:PySem.W.nsIn K mainGlobals x=some (some (.ref f)))(l:K.lookup f=some ⟨oc,od,.func (PySem.W.fnOf x x (gG st) (fP st) (ar st) .none kV doc pm an cdv ct),osl⟩)
  (c:PySem.W.codeIn K cdv x=true) (k:PySem.W.keepIn K (.ref f)=true):Fa K x st f (PySem.W.fnOf x x (gG st) (fP st) (ar st) .none kV doc pm an cdv ct):=⟨a,Jd l c k⟩
variable{fd:FuncData}{ps:List Str}{h:Heap}
def Bn(x:Str)(st:Stmt)(ps:List Str)(us:List Value):Prop:=∀(kV doc pm:Value) (an:Option Addr) (cdv ct:Value),bindArgs (PySem.W.fnOf x x (gG st) (fP st) (ar st) .none kV doc pm an cdv ct) ⟨us,[]⟩=pure (ps.zip us)
theorem vn(X:K.In h)(G:h.Ns mainGlobals mg)(A:Fa K x st f fd)(b:∀us:List Value,us.length=ps.length->Bn x st ps us):Gf K mg x st ps f fd:=⟨A.F,A.F.binds λkV doc pm an cdv ct us hl=>b us hl kV doc pm an cdv ct,PySem.W.mg_of X G A.a⟩
theorem gf1(X:K.In h)(G:h.Ns mainGlobals mg)(A:Fa K x st f fd)(b:∀a,Bn x st ps [a]:=by intro a kV doc pm an cdv ct;rfl)(hl:ps.length=1:=by rfl):Gf K mg x st ps f fd:=vn X G A λus h=>by
 rw[hl] at h
 match us,h with
 | [a],_=>exact b a
theorem gf2(X:K.In h)(G:h.Ns mainGlobals mg)(A:Fa K x st f fd)(b:∀a c,Bn x st ps [a,c]:=by intro a c kV doc pm an cdv ct;rfl)(hl:ps.length=2:=by rfl):Gf K mg x st ps f fd:=vn X G A λus h=>by
 rw[hl] at h
 match us,h with
 | [a,c],_=>exact b a c
theorem gf3(X:K.In h)(G:h.Ns mainGlobals mg)(A:Fa K x st f fd)(b:∀a c d,Bn x st ps [a,c,d]:=by intro a c d kV doc pm an cdv ct;rfl)(hl:ps.length=3:=by rfl):Gf K mg x st ps f fd:=vn X G A λus h=>by
 rw[hl] at h
 match us,h with
 | [a,c,d],_=>exact b a c d
theorem gf4(X:K.In h)(G:h.Ns mainGlobals mg)(A:Fa K x st f fd)(b:∀a c d e,Bn x st ps [a,c,d,e]:=by intro a c d e kV doc pm an cdv ct;rfl)(hl:ps.length=4:=by rfl):Gf K mg x st ps f fd:=vn X G A λus h=>by
 rw[hl] at h
 match us,h with
 | [a,c,d,e],_=>exact b a c d e
theorem gf5(X:K.In h)(G:h.Ns mainGlobals mg)(A:Fa K x st f fd)(b:∀a c d e i,Bn x st ps [a,c,d,e,i]:=by intro a c d e i kV doc pm an cdv ct;rfl)(hl:ps.length=5:=by rfl):Gf K mg x st ps f fd:=vn X G A λus h=>by
 rw[hl] at h
 match us,h with
 | [a,c,d,e,i],_=>exact b a c d e i
end
end Fw
namespace L2
open PySem PySem.Spec PyProof.Rows Fw
section
variable{X:Cx}
end
end L2
namespace Fw
open PySem PySem.Spec PyProof.Rows L2
section
variable{X:Cx}
end
section
variable{X:Cx}{a b:Expr}{da db:D}{pos:Pos}
end
end Fw
namespace L2
open PySem PySem.Spec PyProof.Rows Fw
section
variable{X:Cx}
end
end L2
namespace Fw
open PySem PySem.Spec PyProof.Rows L2
section
variable{X:Cx}{a:Expr}{da:D}{pos p2:Pos}
end
end Fw
namespace L2
open PySem PySem.Spec PyProof.Rows Fw
end L2
namespace Fw
open PySem PySem.Spec PyProof.Rows L2
end Fw
namespace L2
open PySem PySem.Spec PyProof.Rows Fw
section
variable{X:Cx}
end
end L2
namespace Fw
open PySem PySem.Spec PyProof.Rows L2
section
variable{X:Cx}
end
section
variable{X:Cx}
variable{a b:Expr}{da db:D}{pos:Pos}
end
end Fw
namespace L2
open PySem PySem.Spec PyProof.Rows Fw
theorem nW(l:Addr)(items:Array Value)(n:Nat)(b:Addr)(o2:Obj)(pV:Array Value)(n2:Nat)(h1:o2.cls=.type "list")(h2:o2.dict=none)(h3:o2.data=.seq pV n2)(hc0:¬(!items.isEmpty && Builtin.List.listTooLong (items.size+pV.size))=true)(hc1:items.size≤sizeLine)(hs2:items.size+pV.size≤sizeLine+1) :
  Meets (Builtin.«list.extend» ⟨[.ref l,.ref b],[]⟩) (λ_ R s=>s.heap.get? l=some { cls:=.type "list",dict:=none,data:=.seq items n,slots:=#[] }/\s.heap.get? b=some o2/\R (.ok (.ret Value.none)) { s with heap:=s.heap.update l (Obj.mapSeq λx=>x++pV),toks:=s.toks }) :=
 .of_wp λprog w A R s h=>by
  obtain⟨c2,d2,dt2,sl2⟩:=o2
  cases h1;cases h2;cases h3
  obtain⟨hp,g,d,tk,os⟩:=s;obtain⟨hl,hb,h⟩:=h;have f1:=AutoSeq1.idx_int;have f2:=AutoSeq1.sub_tuple_tuple;have f3:=AutoSeq1.sub_list_list;have f4:=AutoSeq1.sub_tuple_list;have f5:=AutoSeq1.sub_list_tuple;
  have hz':(items++pV).size≤sizeLine+1:=by rw[Array.size_append];exact hs2
  wp_walk using (wpAny_updateSeq hl rfl (hz:=hc1) (_hz':=hz')),AutoSeq1.wpAny_loadPart' hl,AutoSeq1.wpAny_loadPart' hb;exact⟨_,rfl,h⟩
section
variable{X:Cx}
def Mn(K:PySem.W.Frag):V->List V->Hp->VK->Prop:=λx vs H Q=>∃l b xs zs,x=.ref l/\vs=[.ref b]/\H l=some (.lst xs)/\SqL K H b zs/\xs.length+zs.length≤sizeLine/\Q .non (upd H l (.lst (xs++zs)))
theorem xg:MtM X "list.extend" (Mn X.K):=by
 intro pins s σ H x vs v us Q I rx rv h
 obtain⟨l,b,xs,zs,rfl,rfl,hH,hB,hz,q⟩:=h
 cases rx
 obtain⟨u,rfl,ru⟩:=rv.one
 cases ru
 obtain⟨z,its,n,r,hl,e⟩:=I.zW hH
 obtain⟨g8,r2,⟨o2,n2,e2,k1,k2,k3⟩,z2⟩:=I.list hB
 have hl2:=r2.length
 have hsz:its.toArray.size+g8.toArray.size≤sizeLine:=by rw[List.size_toArray,List.size_toArray];lia
 have uI:¬ (!its.toArray.isEmpty && Builtin.List.listTooLong (its.toArray.size+g8.toArray.size))=true:=by
  rw[oV hsz,Bool.and_false]
  exact Bool.false_ne_true
 refine call_meets F.slot_list_extend ⟨_,e,rfl⟩ F.entry_list_extend (F.args_list_extend_2 _ _)
  (nW l its.toArray n b o2 g8.toArray n2 k1 k2 k3 uI (by rw[List.size_toArray];lia) (by lia)) ⟨e,e2,?_⟩
 refine⟨.non,_,I.Fe (its':=its++g8) hH e (by simp) (r.append r2) ?_,rfl,q⟩
 rw[List.length_append]
 lia
end
end L2
namespace Fw
open PySem PySem.Spec PyProof.Rows L2
section
variable{X:Cx}{pos:Pos}
theorem xh{o e1:Expr}{do_ de:D}{apos cL:Pos}(ho:CE X o do_)(he:CE X e1 de)(ib:attributeBase o "extend" X.env (eval o X.env)=eval o X.env:=by rfl)
  (sL:((backTo cL (starEach [e1] X.env)).all (λx=>!x.1) && (backToKw cL (keywordEach [] X.env)).all (λx=>x.1.isSome) && decide (([e1]:List Expr).length+([]:List Keyword).length+(if ([]:List Keyword).isEmpty then 0 else 1)<30))=true:=by rfl)
  (ic:(apos.endLine==cL.line)=true:=by rfl) (hs1:starEach [e1] X.env=(false,eval e1 X.env)::starEach [] X.env:=by rfl) (hpl:(backTo cL (starEach [] X.env)).any (·.1)=false:=by rfl)
  (hs:swapsWith (.Call (.Attribute o "extend" apos) [e1] [] cL) none pos.line X.env=pure false:=by rfl) :
  CS X (.Expr (.Call (.Attribute o "extend" apos) [e1] [] cL) pos) (cV do_ de) :=
 PS.imp (sD (yu PySem.F.plainAttrs_list PySem.F.slot_list_extend PySem.F.type_list_extend xg ho (ag he aw hs1) ib sL ic hs1 hpl) hs) λD σ H aj=>by
  obtain⟨F,α,e,μ,S,h⟩:=aj
  refine⟨F,α,e,μ,S,(aV.toS h).mono (λx μ1 h v H1 F1 α1 x1 S1 o1=>?_) λ_ _ h=>h⟩
  obtain⟨_,hl,h⟩:=h.lift
  cases x with
  | cel j =>
   obtain⟨ad,ha,rfl⟩:=o1
   have hc:∃bb ts,μ1[j]?=some (bb,.lst ts):=by
    unfold iC at hl
    simp only at hl
    split at hl
    ·exact⟨_,_,by assumption⟩
    ·cases hl
   obtain⟨bb,ts,hj⟩:=hc
   have n1:=aO S1.st (x:=.cel j) (t:=.lst ts) ⟨ad,ha,rfl⟩ (by rw[hJ,hj];rfl)
   obtain⟨a',vs,e1,hq,_⟩:=n1.iJ
   cases e1
   refine⟨.inl ⟨rfl,vs,hq⟩,kC ⟨F1,α1,e,μ1,S1,(aV.toS h).mono (λy μ2 h v2 H2 F2 α2 x2 S2 o2=>?_) λ_ _ h=>h.mono x1⟩⟩
   obtain⟨μ3,hx3,Ds⟩:=aV.lift h
   obtain⟨t,ht,hx3⟩:=Option.bind_eq_some_iff.mp hx3
   cases y with
   | val t' =>
    cases ht
    cases t with
    | lst us =>
     have o2:Rep X.K F2 (.lst us) v2:=o2
     rw[Rep] at o2
     obtain⟨p,vs2,rfl,hv2,hr2⟩:=o2
     have hx3:bW (.cel j) (.lst us) μ2=some μ3:=hx3
     have hcc:∃ts2,μ2[j]?=some (true,.lst ts2)/\ts2.length+us.length≤szL/\μ3=μ2.set j (true,.lst (ts2++us)):=by
      unfold bW at hx3
      try simp only at hx3
      split at hx3
      ·rename_i ts2 hj2
       by_cases hz:ts2.length+us.length≤szL
       ·rw[if_pos hz] at hx3
        cases hx3
        exact⟨ts2,hj2,hz,rfl⟩
       ·rw[if_neg hz] at hx3;cases hx3
      ·cases hx3
     obtain⟨ts2,hj2,hz,rfl⟩:=hcc
     have ha2:α2[j]?=some ad:=e9 x2.pre ha
     obtain⟨_,ws,hw,rw'⟩:=(S2.st.cell j true _ ad hj2 ha2).1 rfl
     have l1:=rw'.length
     have l2:=hr2.length
     refine⟨ad,p,ws,vs2,rfl,rfl,hw,S2.st.ext.seq hv2,by rw[ng] at hz;lia,?_⟩
     exact Ds σ _ F2 α2 ((x1.trans x2).trans (Ex.put ha2)) (S2.of (aI.refl _) (List.prefix_refl _) (kU S2.st hj2 ha2 ⟨_,az,rw'.append hr2⟩))
    | _=>cases hx3
   | cel j=>cases ht
   | box xs=>cases ht
   | lbx xs=>cases ht
  | val t=>cases hl
  | box xs=>cases hl
  | lbx xs=>cases hl
end
end Fw
namespace L2
open PySem PySem.Spec PyProof.Rows
section
variable{prog:Program}{w:World}{A:Around}{E:Value->Shared->Prop}{s:Shared}
theorem JS{T nI iI:String}{Bn Bi:Builtin}{as:List Value}{kw:List (Str×Value)}{S:PySem.Spec}{Q Q1:Value->Shared->Prop}(ft:TypeCalled T nI iI)
  (a1:checkTypeCall T ⟨as,kw⟩=pure ()) (a2:checkBuiltinCall nI ⟨.type T::as,kw⟩=pure ()) (b1:entryFor table nI=some Bn) (b2:entryFor table iI=some Bi)
  (g:Meets (Bn ⟨.type T::as,kw⟩) S) (hS:S A.in1 (wants Q1 E) s)
  (nx:∀ob t1,Q1 ob t1->t1.TypeIs ob T/\argsOk iI ⟨ob::as,kw⟩/\∃Si,Meets (Bi ⟨ob::as,kw⟩) Si/\Si A.in1 (wants (λr t2=>r=.none/\Q ob t2) E) t1) :
  wpAny (model prog w) A (call (.type T) as kw) Q E s:=by
 obtain⟨c0,tl0,m0⟩:=ft.mro
 have m1:=ft.made
 have m2:=ft.sub
 refine wpAny_call (codeAny_of_tree (show wpAny _ _ (callAny (.type T) _) _ _ _ from wpAny_pure ⟨Code.quiet_builtin _ (by decide +kernel),codeAny_builtin F.entry_type_call ?_⟩))
 rw[Around.under_plain (weight_type_call_type T as kw) (units_type_call_type T as kw)]
 have m3:=ft.notType
 have m4:=ft.canCreate
 repeat (any_goals (first|assumption|wp_step))
 refine codeAny_mono (codeAny_call_builtin ft.plain b1 (wpAny_of_eq a2 (g prog w A.in1 _ s hS))) λz t1 hz=>?_
 cases z with
 | error e=>exact hz
 | ok fl =>
  cases fl with
  | ret ob =>
   obtain⟨h1,h2,Si,h3,h4⟩:=nx _ _ hz
   have m5:=ft.init.lookup
   have m6:=ft.init.bind ob
   repeat (any_goals (first|assumption|wp_step))
   refine codeAny_mono (codeAny_call_builtin ft.init.plain b2 (ft.init.check _ _ _ _ _ _ _ _ h1 h2 (h3 prog w A.in1 _ t1 h4))) λz2 t2 hz2=>?_
   cases z2 with
   | error e=>exact hz2
   | ok f2 =>
    cases f2 with
    | ret r =>
     obtain⟨rfl,hq⟩:=hz2
     repeat (any_goals (first|assumption|wp_step))
    | _=>exact hz2.elim
  | _=>exact hz.elim
theorem GL{T nI:String}{me:Value}{as:List Value}{kw:List (Str×Value)}(a1:typeLookup (.type T) "__init__"=pure (some (.builtin "object.__init__")))(a2:Bind.madeBy (.type T)=pure (some nI))(a3:(some nI != some "object.__new__")=true) :
  Meets (Builtin.«object.__init__» ⟨me::as,kw⟩) (λ_ R s=>s.TypeIs me T/\R (.ok (.ret .none)) s):=by
 refine Meets.of_wp λprog w A R s hs=>?_
 obtain⟨h1,h2⟩:=hs
 cases as with
 | nil =>
  cases kw with
  | nil=>exact wpAny_pure ⟨_,rfl,h2⟩
  | cons k kw =>
   repeat (any_goals (first|assumption|wp_step))
   exact⟨_,rfl,h2⟩
 | cons a as =>
  repeat (any_goals (first|assumption|wp_step))
  exact⟨_,rfl,h2⟩
end
theorem AS(a:Value)(t:Tok):checkTypeCall "enumerate" ⟨[a],[("start",.int 1 t)]⟩=pure ():=by kernel_rfl
theorem AU(a:Value)(t:Tok):checkBuiltinCall "enumerate.__new__" ⟨[.type "enumerate",a],[("start",.int 1 t)]⟩=pure ():=by kernel_rfl
theorem xi(ob a:Value)(t:Tok):argsOk "object.__init__" ⟨[ob,a],[("start",.int 1 t)]⟩:=by
 first|exact PySem.F.args_object_init_2 ob _|(unfold argsOk;kernel_rfl)|(show Bind.checkArgs _ _ _=pure ();kernel_rfl)
abbrev eH1(h:Heap)(l:Addr):Heap:=(h.push (dy false l)).push { cls:=.type "enumerate",data:=.fields #[.none,.bool false,.ref h.objs.size,rawInt 1,.none,.none] }
open AutoSeq1 (wpAny_loadPart') in
set_option maxHeartbeats 4000000 in
theorem xj(l:Addr)(its:Array Value)(n:Nat)(dc:Option Addr)(sl:Array (Option Value))(t:Tok) :
  Meets (Builtin.«enumerate.__new__» ⟨[.type "enumerate",.ref l],[("start",.int 1 t)]⟩) (λ_ R s=>s.heap.get? l=some { cls:=.type "tuple",dict:=dc,data:=.seq its n,slots:=sl } /\
   R (.ok (.ret (.ref (s.heap.push (dy false l)).objs.size))) { s with heap:=eH1 s.heap l }) :=
 .of_wp λprog w A R s h=>by
  obtain⟨hp,g,d,tk,os⟩:=s
  obtain⟨hl,h⟩:=h
  have q1:=sub_enumerate
  have q2:=AutoSeq1.idx_int
  have hT:Heap.IsTuple (Shared.heap ⟨hp,g,d,tk,os⟩) l its:=⟨_,hl,rfl,n,rfl⟩
  wp_walk using wpAny_loadPart' hl
  refine wpAny_stack_any λst=>wpAny_pure ?_
  split
  ·rename_i c _ _ _ _ _
   cases (c==Value.type "enumerate")
   ·(wp_walk using wpAny_loadPart' hl,wpAny_pyIter_tuple hT);exact⟨_,rfl,h⟩
   ·(wp_walk using wpAny_loadPart' hl,wpAny_pyIter_tuple hT);exact⟨_,rfl,h⟩
  ·(wp_walk using wpAny_loadPart' hl,wpAny_pyIter_tuple hT);exact⟨_,rfl,h⟩
section
variable{prog:Program}{w:World}{A:Around}{E:Value->Shared->Prop}{s:Shared}
theorem yZ{k:Bool}(hh:A.handled=none)(it l:Addr)(hne:l≠it)(its:Array Value) :
  Draws prog w A it [it,l] (its.size+1) (λi v=>its[i-1]?=some v) (λi h=>1≤i/\KIt k h it l (i-1)/\KSq k h l its) where
 live:=λ_ _ st=>by obtain⟨o,ho,_⟩:=st.2.1.ob;exact⟨o,ho⟩
 frame:=λ_ _ _ st hk=>⟨st.1,st.2.1.at λo e=>hk it (by simp) o e,st.2.2.at λo e=>hk l (by simp) o e⟩
 item:=λi s Q E hi st hQ=>by
  have hl:i-1<its.size:=by have:=st.1;lia
  exact gv st.2.1 st.2.2 (x:=its[i-1]) (by simp[hl]) λh' JN hs'=>hQ _ h' s.toks (by simp[hl]) ⟨by lia,by rw[show i+1-1=i-1+1 by have:=st.1;lia];exact JN,st.2.2.at λo e=>hs'.extBut _ _ hne e⟩ hs'
 done:=λs Q E st hE=>j5 hh st.2.1 st.2.2 (by simp) hE
theorem xk{l:Addr}{xs:Array Value}{t:Tok}{Q:Value->Shared->Prop}(hl:KSq false s.heap l xs)
  (h:∀h',IsEnum h' (s.heap.objs.size+1) s.heap.objs.size 1 .none->KIt false h' s.heap.objs.size l 0->h'.objs.size=s.heap.objs.size+2->(∀c o,s.heap.get? c=some o->h'.get? c=some o)->Q (.ref (s.heap.objs.size+1)) { s with heap:=h' }) :
  wpAny (model prog w) A (call (.type "enumerate") [.ref l] [("start",.int 1 t)]) Q E s:=by
 obtain⟨⟨c,dct,dt,sl⟩,hg,hc,n,hd⟩:=hl
 simp only at hc hd
 subst hc hd
 have z1:(s.heap.push (dy false l)).objs.size=s.heap.objs.size+1:=Heap.size_push ..
 have g2:(eH1 s.heap l).get? (s.heap.push (dy false l)).objs.size=some _:=Heap.get?_push_size _ rfl
 have g1:(eH1 s.heap l).get? s.heap.objs.size=some (dy false l):=Heap.get?_push_of_some _ (Heap.get?_push_size _ rfl)
 rw[z1] at g2
 refine JS (Q1:=λob s1=>s1.TypeIs ob "enumerate"/\Q ob s1) F.called_enumerate (AS _ t) (AU _ t) F.entry_enumerate_new F.entry_object_init (xj l xs n dct sl t) ⟨hg,?_⟩ λob t1 hq =>
  ⟨hq.1,xi ob _ t,_,GL F.called_enumerate.init.lookup F.called_enumerate.made (by decide),hq.1,rfl,hq.2⟩
 show _/\_
 rw[z1]
 exact⟨⟨_,g2,rfl⟩,h _ g2 (KIt.new g1) (by rw[Heap.size_push,z1]) λc o q=>Heap.get?_push_of_some _ (Heap.get?_push_of_some _ q)⟩
end
section
variable{M:Model}{A:Around}{E:Value->Shared->Prop}{s:Shared}{env:Env}
theorem GN{pos:Pos}{T:String}{e:Expr}{kws:List Keyword}{Q:Value->Shared->Prop}
  (h:wpAny M A (spliced (backTo pos (starEach [e] env))) (λvs s1=>wpAny M A (evalAll ((backToKw pos (keywordEach kws env)).map (·.2))) (λks s2=>wpAny M A (call (.type T) vs (((backToKw pos (keywordEach kws env)).filterMap (·.1)).zip ks)) Q E s2) E s1) E s)
  (h1:backTo pos (starEach [e] env)=(false,eval e env)::backTo pos (starEach [] env):=by rfl) (h2:(backTo pos (starEach [e] env)).any (·.1)=false:=by rfl)
  (h3:(backToKw pos (keywordEach kws env)).all (·.1.isSome)=true:=by rfl) (h4:(backToKw pos (keywordEach kws env)).any (·.1.isNone)=false:=by rfl) :
  wpAny M A (callWith pos (.type T) [] (backTo pos (starEach [e] env)) (backToKw pos (keywordEach kws env))) Q E s:=by
 unfold callWith
 refine wpAny_bind (wpAny_holding (wpAny_mono (Q:=λa s1=>wpAny M A (call (.type T) ([]++a.pos) a.kw) Q E s1) ?_ (λa s1 q=>wpAny_bind (wpAny_standAt ?_)) λ_ _ x=>x))
 ·rw[h1] at h ⊢
  exact evalArgs_kwB h3 h
 ·simp only[h2,h4,Bool.or_false]
  refine wpAny_bind (wpAny_pure ?_)
  exact wpAny_bind (wpAny_mono q (λr s2 hr=>wpAny_bind (wpAny_holding (wpAny_point (wpAny_pure hr)))) λ_ _ x=>x)
end
def Mp(K:PySem.W.Frag)(a:Addr):It :=
 ⟨λi H=>∃xs x,fv K false H a xs/\xs[i]?=some x,
  λi H v H'=>∃p x,v=.ref p/\H p=none/\H'=upd H p (.tup [.int ((i:Int)+1),x])/\∀xs,fv K false H a xs->xs[i]?=some x,
  λi H=>∃xs,fv K false H a xs/\xs.length=i⟩
structure NY(z i1 l1:Addr)(i:Nat)(h:Heap):Prop where
 z:∃old,IsEnum h z i1 ((i:Int)+1) old
 one:KIt false h i1 l1 i
theorem xl{P:Program}{w:World}{K:PySem.W.Frag}{elts:List Expr}{x1:Nat}{pos:Pos}{z i1 l1:Addr}(d:z≠i1) :
  Turn P w K (.Tuple elts x1 pos) (Mp K l1) [z,i1] z (NY z i1 l1):=by
 refine⟨by simp,λi h st b hb=>?_,λi h h' st k'=>?_,?_,?_,λA i s Q E st hq=>?_⟩
 ·obtain⟨old,hz⟩:=st.z
  obtain⟨o1,e1,q1⟩:=st.one.ob
  simp only[List.mem_cons,List.not_mem_nil,or_false] at hb
  rcases hb with rfl|rfl
  ·exact⟨_,hz,λv e=>by cases e⟩
  ·exact⟨_,e1,λv e=>by rw[q1] at e;cases e⟩
 ·obtain⟨old,hz⟩:=st.z
  exact⟨⟨old,k' z (by simp) _ hz⟩,st.one.at λo e=>k' i1 (by simp) o e⟩
 ·intro X hP hw hK hc i pins s σ H E I hf st hg
  obtain⟨xs,x,h1,hx⟩:=hg
  subst hP hw hK
  obtain⟨jb,r1,s1,z1⟩:=I.ksq h1
  obtain⟨u,hu,ru⟩:=r1.get hx
  obtain⟨old,hz⟩:=st.z
  have hli:l1≠i1:=dz I h1 (hf i1 (by simp))
  have hlz:l1≠z:=dz I h1 (hf z (by simp))
  obtain⟨o1,e1,_⟩:=st.one.ob
  have hlt:i+1<jb.toArray.size+1:=by
   have:=(List.getElem?_eq_some_iff.mp hu).1
   simpa using this
  have hne:z∉[i1,l1]:=by
   simp only[List.mem_cons,List.not_mem_nil,or_false,not_or]
   exact⟨d,λe=>hlz e.symm⟩
  have hz':IsEnum s.heap z i1 ((i+1:Nat):Int) old:=by rw[Int.natCast_add];exact hz
  refine wpAny_pyNext_enum_itemD (yZ (k:=false) (A:=X.A.in1) (I.ok.hd hc) i1 l1 hli jb.toArray) hz' ⟨by lia,st.one,s1⟩ hlt d hne λy h' tk hy g1 g2 g3 g4 g5=>⟨_,rfl,?_⟩
  have ey:y=u:=by
   have hy:jb[i]?=some y:=by simpa using hy
   rw[hu] at hy
   exact(Option.some.inj hy).symm
  subst ey
  refine wpAny_letOwnedTupleGo_enum g1 λh'' q1 q2=>?_
  have lt:∀{c:Addr}{o:Obj},s.heap.get? c=some o->c≠s.heap.objs.size:=λe=>Nat.ne_of_lt (Heap.lt_size e)
  have hTz:s.heap.objs.size≠z:=(lt hz).symm
  have new:h''.get? s.heap.objs.size=some { cls:=.type "tuple",data:=.seq #[.int ((i:Int)+1) tk,y] }:=q2.extBut _ _ hTz g3
  refine⟨.ref s.heap.objs.size,upd H s.heap.objs.size (.tup [.int ((i:Int)+1),x]),?_,rfl,⟨s.heap.objs.size,x,rfl,I.hok.fresh (Nat.le_refl _),rfl,λws hw=>by rw[I.oI hw h1];exact hx⟩,?_,λc hcm=>?_⟩
  ·refine(I.oK (ch:=[z,i1]) (h':=h'') (λc o hcn e=>?_) (λc hcm=>hf c hcm) ?_).tok _
   ·simp at hcn
    exact q2.extBut _ _ hcn.1 (g5 c o hcn.1 hcn.2 e)
   ·exact⟨by show 2≤sizeLine;decide,[.int ((i:Int)+1) tk,y],.cons ⟨tk,rfl⟩ (.cons ru .nil),⟨_,new,rfl,0,rfl⟩⟩
  ·exact⟨⟨_,by simpa using q1⟩,g2.2.1.at λo e=>q2.extBut _ _ d.symm e⟩
  ·rw[aF]
   ·exact(hf c hcm).1
   ·simp only[List.mem_cons,List.not_mem_nil,or_false] at hcm
    rcases hcm with rfl|rfl
    ·exact lt hz
    ·exact lt e1
 ·intro X hP hw hK hc i pins s σ H E I hf st hg
  obtain⟨xs,h1,hle⟩:=hg
  subst hP hw hK
  obtain⟨jb,r1,s1,z1⟩:=I.ksq h1
  obtain⟨old,hz⟩:=st.z
  have hli:l1≠i1:=dz I h1 (hf i1 (by simp))
  have l1':=r1.length
  have en:jb.toArray.size=i:=by simp;lia
  refine wpAny_pyNext_enum_endD (yZ (k:=false) (A:=X.A.in1) (I.ok.hd hc) i1 l1 hli jb.toArray) hz ⟨by lia,by rw[en];exact st.one,s1⟩ λh' g7=>⟨rfl,I.oJ (t':=s.toks) (ch:=[z,i1]) (λc o hcn e=>?_) λc hcm=>hf c hcm⟩
  simp at hcn
  exact g7 c o hcn.2 e
 ·obtain⟨old,hz⟩:=st.z
  exact wpAny_pyIter_enum hz hq
def GO(K:PySem.W.Frag)(t:TA):TI:=λσ H R=>t σ H λvs H1=>∃a xs,vs=[.ref a]/\fv K false H1 a xs/\R (Mp K a) H1
theorem Dx{X:Cx}{elts:List Expr}{x1 jx:Nat}{cW p pos kp cp:Pos}{a:Expr}{t:TA}(hg:Gl X "enumerate")(hm:X.mg "enumerate"=none)(ha:PA X [a] t)(h1:backTo pos (starEach [a] X.env)=(false,eval a X.env)::backTo pos (starEach [] X.env))(h2:(backTo pos (starEach [a] X.env)).any (·.1)=false) :
  PI X (.Tuple elts x1 cW) (.Call (.Name "enumerate" p) [a] [⟨some "start",.Constant (.int 1) jx cp,kp⟩] pos) (GO X.K t):=by
 intro pins s σ H R I h
 refine wpAny_Call_Name_kw (fA I hg hm PyProof.Rows.boot_enumerate ?_ (by decide) (by decide))
 refine GN (thn (ha pos pins s σ H _ I h) λus s1 aj=>?_) h1 h2
 obtain⟨vs,H1,I1,r1,q1⟩:=aj
 obtain⟨c,xs,rfl,hk1,q⟩:=q1
 obtain⟨u1,rfl,ru1⟩:=vals1 r1
 cases ru1
 refine kws_cons (thn ((BC (X:=X) (i:=1) (j:=jx) (pos:=cp)) pins s1 σ H1 (λv H2=>v=.int 1/\H2=H1) I1 ⟨rfl,rfl⟩) λv s2 b9=>?_)
 obtain⟨x,H2,I2,r2,e1,e2⟩:=b9
 subst e1 e2
 obtain⟨tk,rfl⟩:=r2
 refine kws_nil ?_
 obtain⟨jb,_,s1',_⟩:=I2.ksq hk1
 show wpAny _ _ (call (.type "enumerate") [.ref c] [("start",.int 1 tk)]) _ _ _
 refine xk s1' λh' g1 g2 g6 g7=>wpAny_pyIter_enum g1 ?_
 have I3:Inv X pins σ H2 { s2 with heap:=h' }:=I2.kept (t':=s2.toks) g7
 refine⟨_,_,_,_,H2,rfl,I3,xl (i1:=s2.heap.objs.size) (l1:=c) (λe=>by have e:s2.heap.objs.size+1=s2.heap.objs.size:=e;lia),⟨⟨_,by simpa using g1⟩,g2⟩,λe he=>?_,q⟩
 have:s2.heap.objs.size≤e:=by
  simp only[List.mem_cons,List.not_mem_nil,or_false] at he
  rcases he with rfl|rfl
  ·exact Nat.le_add_right _ _
  ·exact Nat.le_refl _
 exact I2.uD this (I2.hok.fresh this)
end L2
namespace Fw
open PySem PySem.Spec PyProof.Rows L2
theorem Dy{X:Cx}{elts:List Expr}{x1 jx:Nat}{cW p pos kp cp:Pos}{a:Expr}{da:D}(hm:X.mg "enumerate"=none)(ha:CE X a da)(hg:Gl X "enumerate":=by rfl)(hs:starEach [a] X.env=(false,eval a X.env)::starEach [] X.env:=by rfl)
  (h1:backTo pos (starEach [a] X.env)=(false,eval a X.env)::backTo pos (starEach [] X.env):=by rfl) (h2:(backTo pos (starEach [a] X.env)).any (·.1)=false:=by rfl) :
  CI X (.Tuple elts x1 cW) (.Call (.Name "enumerate" p) [a] [⟨some "start",.Constant (.int 1) jx cp,kp⟩] pos) (tR da) :=
 PI.imp (Dx hg hm (ag ha aw hs) h1 h2) λσ H R0 aj=>by
  obtain⟨F,α,e,μ,S,h⟩:=aj
  refine kC ⟨F,α,e,μ,S,(R.wp_bind h).mono (λx μ1 h v H1 F1 α1 x1 S1 o1=>?_) λ_ _ h=>h⟩
  obtain⟨ts,ht,post⟩:=R.aY (R.wp_bind h)
  obtain⟨t,hr,ht⟩:=Option.bind_eq_some_iff.mp ht
  have et:t=.tup ts:=by
   cases t with
   | tup us=>cases ht;rfl
   | _=>cases ht
  subst et
  obtain⟨a1,vs1,rfl,q1,r1⟩:=(show ∃a vs,v=.ref a/\SqT X.K F1 a vs/\aA X.K F1 ts vs from aO S1.st o1 hr)
  refine⟨a1,vs1,rfl,aI.fm S1.st.ext q1,post _ H1 F1 α1 x1 S1 λF2 α2 μ3 H2 s2 p2 S2 same=>?_⟩
  have e1:rd μ3 x=rd μ1 x:=same
  obtain⟨b1,ws1,g1,n1,l1⟩:=(show ∃a vs,V.ref a1=.ref a/\SqT X.K F2 a vs/\aA X.K F2 ts vs from aO S2 (o1.mono s2 p2) (e1.trans hr))
  cases g1
  have n1':fv X.K false H2 a1 ws1:=aI.fm S2.ext n1
  refine⟨λi t hi=>?_,?_⟩
  ·obtain⟨c,hc,rfl⟩:=m_ hi
   obtain⟨v1,hv1,rv1⟩:=l1.get hc
   refine⟨⟨ws1,v1,n1',hv1⟩,?_⟩
   rintro z H3 ⟨q,z1,rfl,hq,rfl,f1⟩
   have w1:=f1 ws1 n1'
   rw[hv1] at w1
   cases w1
   have g:bt F2 H2 (upd F2 q (.tup [.int ((i:Int)+1),v1])) (upd H2 q (.tup [.int ((i:Int)+1),v1])):=bt.new hq
   refine⟨_,g,?_⟩
   rw[Rep]
   rw[show(1:Int)+(i:Int)=(i:Int)+1 by lia]
   exact⟨q,_,rfl,SqT.of az,aA.mono (g.same S2.ext) _ _ (.dj (Rep.fS _) (.dj rv1 .iE))⟩
  ·refine⟨ws1,n1',?_⟩
   have:=l1.length
   show ws1.length=(dw 1 ts).length
   rw[m8]
   lia
end Fw
namespace Fw.Set
open PySem
def Ris(xs:Array Nat):Prop:=∀i k d,i<k->k<xs.size->xs.getD i d<xs.getD k d
theorem tT{xs:Array Nat}{j:Nat}(hR:Ris xs):∀(fu lo hi:Nat),hi-lo≤fu->lo≤hi->hi≤xs.size->(∀i,i<lo->xs.getD i j<j)->(∀i,hi≤i->i<xs.size->j≤xs.getD i j) ->
  SetTable.below.go xs j fu lo hi≤xs.size/\(∀i,i<SetTable.below.go xs j fu lo hi->xs.getD i j<j)/\(∀i,SetTable.below.go xs j fu lo hi≤i->i<xs.size->j≤xs.getD i j)
 | 0,lo,hi,hf,h1,h2,h3,h4=>by
  have e:lo=hi:=by lia
  subst e
  exact⟨h2,h3,h4⟩
 | fu+1,lo,hi,hf,h1,h2,h3,h4=>by
  unfold SetTable.below.go
  by_cases hl:lo<hi
  ·rw[if_pos hl]
   dsimp only
   have hm:(lo+hi) / 2<hi:=by lia
   have hm2:lo≤(lo+hi) / 2:=by lia
   generalize (lo+hi) / 2=m at hm hm2
   by_cases hc:xs.getD m j<j
   ·rw[if_pos hc]
    refine tT hR fu (m+1) hi (by lia) (by lia) h2 (λi hi'=>?_) h4
    by_cases e:i=m
    ·rw[e];exact hc
    ·exact Nat.lt_trans (hR i m j (by lia) (by lia)) hc
   ·rw[if_neg hc]
    refine tT hR fu lo m (by lia) hm2 (by lia) h3 (λi hi' hi2=>?_)
    by_cases e:i=m
    ·rw[e];exact Nat.le_of_not_lt hc
    ·exact Nat.le_trans (Nat.le_of_not_lt hc) (Nat.le_of_lt (hR m i j (by lia) hi2))
  ·rw[if_neg hl]
   have e:lo=hi:=by lia
   subst e
   exact⟨h2,h3,h4⟩
theorem pW{xs:Array Nat}(hR:Ris xs)(j:Nat):SetTable.below xs j≤xs.size/\(∀i,i<SetTable.below xs j->xs.getD i j<j)/\(∀i,SetTable.below xs j≤i->i<xs.size->j≤xs.getD i j) :=
 tT hR xs.size 0 xs.size (by lia) (Nat.zero_le _) (Nat.le_refl _) (λi h=>absurd h (Nat.not_lt_zero i)) (λi h h2=>absurd h2 (Nat.not_lt.mpr h))
theorem mB{xs:Array Nat}{i:Nat}(h:i<xs.size)(d:Nat):xs.getD i d=xs[i]:=by simp[Array.getD,h]
def nX(t:SetTable)(j:Nat):Prop:=t.place[SetTable.below t.place j]?≠some j
theorem nX.no{t:SetTable}{j:Nat}(hR:Ris t.place)(h:nX t j)(i:Nat)(hi:i<t.place.size):t.place.getD i j≠j:=by
 intro e
 obtain⟨h1,h2,h3⟩:=pW hR j
 unfold nX at h
 generalize SetTable.below t.place j=r at h h1 h2 h3
 have hri:r≤i:=Nat.le_of_not_lt λq=>by have:=h2 i q;lia
 have hrs:r<t.place.size:=by lia
 have k:=h3 r (Nat.le_refl _) hrs
 by_cases q:r=i
 ·subst q
  apply h
  rw[Array.getElem?_eq_getElem hrs,← mB hrs j,e]
 ·have:=hR r i j (by lia) hi
  lia
theorem kE{xs:Array Nat}{p:Nat}(hp:p≤xs.size)(x i d:Nat):(SetTable.insertAt xs p x).getD i d=if i<p then xs.getD i d else if i=p then x else xs.getD (i-1) d:=by
 have e:(SetTable.insertAt xs p x).getD i d=(SetTable.insertAt xs p x).toList.getD i d:=by simp[Array.getD_eq_getD_getElem?,List.getD_eq_getElem?_getD]
 have e2:∀i,xs.getD i d=xs.toList.getD i d:=λi=>by simp[Array.getD_eq_getD_getElem?,List.getD_eq_getElem?_getD]
 rw[e,e2,e2,SetTable.toList_insertAt]
 have hl:p≤xs.toList.length:=by simpa using hp
 generalize xs.toList=l at hl ⊢
 simp only[List.getD_eq_getElem?_getD]
 by_cases h1:i<p
 ·rw[if_pos h1,List.getElem?_append_left (by rw[List.length_take];lia),List.getElem?_take_of_lt h1]
 ·rw[if_neg h1,List.getElem?_append_right (by rw[List.length_take];lia),List.length_take,Nat.min_eq_left hl]
  by_cases h2:i=p
  ·rw[if_pos h2,h2,Nat.sub_self];rfl
  ·rw[if_neg h2]
   obtain⟨q,rfl⟩:∃q,i=p+1+q:=⟨i-p-1,by lia⟩
   rw[show p+1+q-p=q+1 by lia,List.getElem?_cons_succ,List.getElem?_drop,show p+1+q-1=p+q by lia]
theorem hX{α:Type}{xs:Array α}{p:Nat}(x:α):(SetTable.insertAt xs p x).size=xs.size+1:=by
 have:=(SetTable.insertAt_perm xs p x).length_eq
 simpa using this
theorem GP{t:SetTable}{j:Nat}(hR:Ris t.place)(h:nX t j):Ris (t.put j).1.place:=by
 show Ris (SetTable.insertAt t.place (SetTable.below t.place j) j)
 have dn:=nX.no hR h
 obtain⟨h1,h2,h3⟩:=pW hR j
 generalize SetTable.below t.place j=r at h1 h2 h3
 intro i k d hik hk
 rw[hX] at hk
 rw[kE h1,kE h1]
 have gd:∀i,i<t.place.size->t.place.getD i d=t.place.getD i j:=λi hi=>by rw[mB hi,mB hi]
 by_cases a1:i<r
 ·rw[if_pos a1]
  by_cases a2:k<r
  ·rw[if_pos a2];exact hR i k d hik (by lia)
  ·rw[if_neg a2]
   have b1:=h2 i a1
   rw[gd i (by lia)]
   by_cases a3:k=r
   ·rw[if_pos a3];exact b1
   ·rw[if_neg a3]
    have b2:=h3 (k-1) (by lia) (by lia)
    rw[gd (k-1) (by lia)]
    lia
 ·rw[if_neg a1,if_neg (show ¬ k<r by lia),if_neg (show ¬ k=r by lia)]
  by_cases a3:i=r
  ·rw[if_pos a3]
   have b2:=h3 (k-1) (by lia) (by lia)
   have b3:=dn (k-1) (by lia)
   rw[gd (k-1) (by lia)]
   lia
  ·rw[if_neg a3]
   exact hR (i-1) (k-1) d (by lia) (by lia)
theorem y_{t:SetTable}{j:Nat}(h:∀i,t.slot j≠.live i):nX t j:=by
 intro e
 apply h (SetTable.below t.place j)
 unfold SetTable.slot
 dsimp only
 rw[if_pos (by rw[e];simp)]
theorem hZ(t:SetTable)(p:SetTable.Probe):(t.advance p).dummy=p.dummy:=by
 unfold SetTable.advance
 split<;>rfl
theorem pX{t:SetTable}{f:Nat->Int}{h:Int}:∀(fu:Nat) (p:SetTable.Probe) (j:Nat) (d:Option Nat),(∀x,p.dummy=some x->nX t x)->SetTable.probe.go t f h fu p=some (.empty j d)->nX t j/\∀x,d=some x->nX t x
 | 0,p,j,d,_,e=>by unfold SetTable.probe.go at e;cases e
 | fu+1,p,j,d,hd,e=>by
  unfold SetTable.probe.go at e
  cases hs:t.slot p.j with
  | empty =>
   rw[hs] at e
   cases e
   exact⟨y_ (λi q=>by rw[hs] at q;cases q),hd⟩
  | dummy =>
   rw[hs] at e
   refine pX fu _ j d (λx hx=>?_) e
   rw[hZ] at hx
   cases hx
   exact y_ λi q=>by rw[hs] at q;cases q
  | live i =>
   rw[hs] at e
   dsimp only at e
   split at e
   ·cases e
   ·exact pX fu _ j d (λx hx=>hd x (by rw[hZ] at hx;exact hx)) e
theorem nj(f:Nat->Option Nat):∀(l:List Nat),(l.filterMap λj=>(f j).map (j,·)).map (·.1)=l.filter λj=>(f j).isSome
 | []=>rfl
 | j::l=>by
  rw[List.filterMap_cons]
  cases h:f j with
  | none=>simp[h,nj f l]
  | some y=>simp[h,nj f l]
theorem nY{l:List Nat}(h:l.Pairwise (·<·)):Ris l.toArray:=by
 intro i k d hi hk
 have hk':k<l.length:=by simpa using hk
 rw[mB hk,mB (Nat.lt_trans hi hk)]
 simpa using List.pairwise_iff_getElem.mp h i k (by lia) hk' hi
theorem Dz{mask fi mo:Nat}{led pl:Bool}{hs:Array Int}{t:SetTable}{o:Array Nat}(e:SetTable.laid mask fi mo led pl hs=some (t,o)):Ris t.place/\t.led=led:=by
 unfold SetTable.laid at e
 cases hl:SetTable.layClean mask hs with
 | none=>rw[hl] at e;cases e
 | some ow =>
  rw[hl] at e
  cases e
  refine⟨?_,rfl⟩
  show Ris (List.map _ _).toArray
  rw[nj]
  exact nY (List.Pairwise.filter _ List.pairwise_lt_range)
end Fw.Set
namespace Fw.Set
open PySem PyProof.Rows
section
variable{prog:Program}{w:World}{A:Around}{E:Value->Shared->Prop}{s:Shared}
end
section
variable{prog:Program}{w:World}{A:Around}{R:Result->Shared->Prop}{I:Addr}{fp wr:List Addr}{G:Array GenState->Array GenState->Prop}{n:Nat}{P:Nat->Value->Prop}{St:Nat->Shared->Prop}
end
section
variable{prog:Program}{w:World}{A:Around}{E:Value->Shared->Prop}{s:Shared}
abbrev kF(led:Bool):Obj:={ cls:=.type "set",dict:=none,data:=.set #[] 0 (.fresh 0 0 led) }
abbrev DA(w:World):Bool:=!w.params.followText "set-order"
theorem GQ(v:Value){Y:Value->Shared->Prop}(h:Y (.ref s.heap.objs.size) { s with heap:=s.heap.push (kF (DA w)) }) :
  codeAny (model prog w) A (.call (.builtin "set.__new__") ⟨[.type "set",v],[]⟩) (wants Y E) s:=by
 refine codeAny_of_tree ?_
 show wpAny _ A.in1 (checkBuiltinCall "set.__new__" ⟨[.type "set",v],[]⟩>>=λ_=>again (.builtin "set.__new__" ⟨[.type "set",v],[]⟩)) _ _ s
 refine wpAny_bind (wpAny_of_eq (F.newCall_set_1 v) (wpAny_pure ⟨plainId_quiet F.plain_set_new _,?_⟩))
 refine codeAny_builtin F.entry_set_new ?_
 rw[Around.under_plainId F.plain_set_new]
 unfold Builtin.«set.__new__» Builtin.Frozenset.newClass
 have e:=sub_set_self
 obtain⟨hp,gn,dr,tk,os⟩:=s
 dsimp only at h ⊢
 wp_walk
 refine wpAny_askSetting (wpAny_pure ?_)
 dsimp only[newObj]
 exact wpAny_bind (wpAny_alloc (wpAny_pure (wpAny_pure h)))
end
end Fw.Set
namespace Fw.Set
open PySem SetTable
def lps(M:Nat):Nat->Nat×Nat->Nat×Nat
 | 0,x=>x
 | k+1,x=>lps M k ((x.1*5+1+x.2 / 32)%M,x.2 / 32)
theorem za(M:Nat):∀(a b:Nat) (x:Nat×Nat),lps M (a+b) x=lps M b (lps M a x)
 | 0,b,x=>by rw[Nat.zero_add];rfl
 | a+1,b,x=>by rw[show a+1+b=(a+b)+1 by lia];exact za M a b _
theorem zb(M:Nat):∀(k:Nat) (x:Nat×Nat),(lps M k x).2=x.2 / 32 ^ k
 | 0,x=>by simp[lps]
 | k+1,x=>by
  rw[lps,zb M k,Nat.div_div_eq_div_mul,Nat.pow_succ,Nat.mul_comm]
theorem DB(M:Nat)(hM:0<M):∀(k:Nat) (x:Nat×Nat),x.1<M->(lps M k x).1<M
 | 0,x,h=>h
 | k+1,x,h=>DB M hM k _ (Nat.mod_lt _ hM)
def orb(M:Nat):Nat->Nat
 | 0=>0
 | k+1=>(orb M k*5+1)%M
theorem pY(M:Nat):∀(k a:Nat),lps M k (orb M a,0)=(orb M (a+k),0)
 | 0,a=>rfl
 | k+1,a=>by
  rw[lps,show((orb M a*5+1+0 / 32)%M,0 / 32)=(orb M (a+1),0) from rfl,pY M k (a+1),show a+1+k=a+(k+1) by lia]
theorem GR:∀M∈[8,32,128],(∀e∈List.range M,e∈(List.range M).map (orb M))/\orb M M=0:=by decide +kernel
theorem zc{M:Nat}(h:orb M M=0):∀k,orb M (k+M)=orb M k
 | 0=>by rw[Nat.zero_add,h];rfl
 | k+1=>by rw[show k+1+M=(k+M)+1 by lia,orb,zc h k];rfl
def okM(M:Nat):Prop:=M=8∨M=32∨M=128
theorem okM.mem{M:Nat}(h:okM M):M∈[8,32,128]:=by
 rcases h with rfl|rfl|rfl<;>decide
theorem cover{M:Nat}(hM:okM M){x e:Nat}(hx:x<M)(he:e<M):∃k,k<M/\(lps M k (x,0)).1=e:=by
 obtain⟨h1,h2⟩:=GR M hM.mem
 obtain⟨a,ha,ea⟩:=List.mem_map.mp (h1 x (List.mem_range.mpr hx))
 obtain⟨b,hb,eb⟩:=List.mem_map.mp (h1 e (List.mem_range.mpr he))
 have ha:=List.mem_range.mp ha
 have hb:=List.mem_range.mp hb
 rw[← ea]
 by_cases c:a≤b
 ·exact⟨b-a,by lia,by rw[pY,show a+(b-a)=b by lia];exact eb⟩
 ·exact⟨b+M-a,by lia,by rw[pY,show a+(b+M-a)=b+M by lia,zc h2];exact eb⟩
theorem zd(h:Int):bits h<2 ^ 64:=by
 unfold bits
 have h0:=Int.emod_nonneg h (show(2 ^ 64:Int)≠0 by decide)
 have h1:=Int.emod_lt_of_pos h (show(0:Int)<2 ^ 64 by decide)
 lia
theorem reach{M:Nat}(hM:okM M)(x q:Nat)(hx:x<M)(hq:q<2 ^ 64){e:Nat}(he:e<M):∃k,k<M+13/\(lps M k (x,q)).1=e:=by
 have h13:lps M 13 (x,q)=((lps M 13 (x,q)).1,0):=by
  have:=zb M 13 (x,q)
  have z:q / 32 ^ 13=0:=Nat.div_eq_of_lt (Nat.lt_of_lt_of_le hq (by decide))
  rw[show((x,q):Nat×Nat).2=q from rfl,z] at this
  exact Prod.ext rfl this
 have hlt:(lps M 13 (x,q)).1<M:=DB M (by rcases hM with rfl|rfl|rfl<;>decide) 13 (x,q) hx
 obtain⟨k,hk,e1⟩:=cover hM hlt he
 exact⟨13+k,by lia,by rw[za,h13];exact e1⟩
section
variable{t:SetTable}{f:Nat->Int}{h:Int}
theorem tU:∀(m n:Nat) (p:Probe),n≤m->SetTable.probe.go t f h m p=none->SetTable.probe.go t f h n p=none
 | m,0,p,_,_=>by unfold SetTable.probe.go;rfl
 | 0,n+1,p,hn,_=>absurd hn (by lia)
 | m+1,n+1,p,hn,e=>by
  unfold SetTable.probe.go at e ⊢
  cases hs:t.slot p.j with
  | empty=>rw[hs] at e;cases e
  | dummy=>rw[hs] at e;exact tU m n _ (by lia) e
  | live i =>
   rw[hs] at e
   dsimp only at e ⊢
   split
   ·rename_i q;rw[if_pos q] at e;cases e
   ·rename_i q;rw[if_neg q] at e;exact tU m n _ (by lia) e
abbrev P0(t:SetTable)(i q:Nat)(d:Option Nat):Probe:={ j:=i,more:=runEnd t.mask i-i,i:=i,perturb:=q,dummy:=d }
theorem xm:∀(r m:Nat) (p:Probe),p.more=r->SetTable.probe.go t f h (m+r+1) p=none->t.slot p.j≠.empty/\∃d,SetTable.probe.go t f h m (P0 t ((p.i*5+1+p.perturb / 32)%(t.mask+1)) (p.perturb / 32) d)=none
 | 0,m,p,hr,e=>by
  unfold SetTable.probe.go at e
  cases hs:t.slot p.j with
  | empty=>rw[hs] at e;cases e
  | dummy =>
   rw[hs] at e
   refine⟨λz=>(by cases z),some p.j,?_⟩
   have:t.advance { p with dummy:=some p.j }=P0 t ((p.i*5+1+p.perturb / 32)%(t.mask+1)) (p.perturb / 32) (some p.j):=by
    unfold SetTable.advance
    rw[if_neg (by show ¬ p.more > 0;lia)]
    rfl
   rw[← this]
   exact e
  | live i =>
   rw[hs] at e
   dsimp only at e
   split at e
   ·cases e
   ·refine⟨λz=>(by cases z),p.dummy,?_⟩
    have:t.advance p=P0 t ((p.i*5+1+p.perturb / 32)%(t.mask+1)) (p.perturb / 32) p.dummy:=by
     unfold SetTable.advance
     rw[if_neg (by show ¬ p.more > 0;lia)]
     rfl
    rw[← this]
    exact e
 | r+1,m,p,hr,e=>by
  rw[show m+(r+1)+1=(m+r+1)+1 by lia] at e
  unfold SetTable.probe.go at e
  cases hs:t.slot p.j with
  | empty=>rw[hs] at e;cases e
  | dummy =>
   rw[hs] at e
   refine⟨λz=>(by cases z),?_⟩
   have:t.advance { p with dummy:=some p.j }={ p with j:=p.j+1,more:=p.more-1,dummy:=some p.j }:=by
    unfold SetTable.advance
    rw[if_pos (by show p.more > 0;lia)]
   rw[this] at e
   exact(xm r m _ (by show p.more-1=r;lia) e).2
  | live i =>
   rw[hs] at e
   dsimp only at e
   split at e
   ·cases e
   ·refine⟨λz=>(by cases z),?_⟩
    have:t.advance p={ p with j:=p.j+1,more:=p.more-1 }:=by
     unfold SetTable.advance
     rw[if_pos (by show p.more > 0;lia)]
    rw[this] at e
    exact(xm r m _ (by show p.more-1=r;lia) e).2
theorem AV(mask i:Nat):runEnd mask i-i≤9:=by
 unfold runEnd
 split<;>lia
theorem vo:∀(m i q:Nat) (d:Option Nat),SetTable.probe.go t f h (10*m) (P0 t i q d)=none->∀k,k<m->t.slot (lps (t.mask+1) k (i,q)).1≠.empty
 | 0,i,q,d,_,k,hk=>absurd hk (by lia)
 | m+1,i,q,d,e,k,hk=>by
  have hle:=AV t.mask i
  have e:=tU (10*(m+1)) (10*m+(runEnd t.mask i-i)+1) _ (by lia) e
  obtain⟨a1,d2,a2⟩:=xm (runEnd t.mask i-i) (10*m) (P0 t i q d) rfl e
  cases k with
  | zero=>exact a1
  | succ k=>exact vo m _ _ d2 a2 k (by lia)
theorem xn(hM:okM (t.mask+1)){e:Nat}(he:e≤t.mask)(hs:t.slot e=.empty):t.probe f h (t.probeStart h)≠none:=by
 intro z
 have hlt:bits h%(t.mask+1)<t.mask+1:=Nat.mod_lt _ (by lia)
 obtain⟨k,hk,ek⟩:=reach hM (bits h%(t.mask+1)) (bits h) hlt (zd h) (show e<t.mask+1 by lia)
 have:=vo (t:=t) (f:=f) (h:=h) (turns t.mask) (bits h%(t.mask+1)) (bits h) none z k (by unfold turns;lia)
 rw[ek] at this
 exact this hs
theorem la(hf:∀i,i<t.place.size->f i≠h):∀(m:Nat) (p:Probe) (j i:Nat) (n:Probe),SetTable.probe.go t f h m p≠some (.candidate j i n)
 | 0,p,j,i,n,e=>by unfold SetTable.probe.go at e;cases e
 | m+1,p,j,i,n,e=>by
  unfold SetTable.probe.go at e
  cases hs:t.slot p.j with
  | empty=>rw[hs] at e;cases e
  | dummy=>rw[hs] at e;exact la hf m _ j i n e
  | live i' =>
   rw[hs] at e
   have hi:i'<t.place.size:=by
    unfold SetTable.slot at hs
    dsimp only at hs
    split at hs
    ·rename_i q
     cases hs
     have q:t.place[SetTable.below t.place p.j]?=some p.j:=by simpa using q
     exact(Array.getElem?_eq_some_iff.mp q).1
    ·split at hs<;>cases hs
   dsimp only at e
   rw[if_neg (by simpa using hf i' hi)] at e
   exact la hf m _ j i n e
theorem GS(hd:t.dummies=#[])(j:Nat):t.slot j≠.dummy:=by
 unfold SetTable.slot
 dsimp only
 split
 ·intro z;cases z
 ·rw[hd,show SetTable.has #[] j=false by unfold SetTable.has;simp]
  intro z;cases z
theorem vp(hd:t.dummies=#[]):∀(m:Nat) (p:Probe) (j:Nat) (d:Option Nat),p.dummy=none->SetTable.probe.go t f h m p=some (.empty j d)->d=none/\(p.j+p.more≤t.mask->j≤t.mask)
 | 0,p,j,d,_,e=>by unfold SetTable.probe.go at e;cases e
 | m+1,p,j,d,hp,e=>by
  unfold SetTable.probe.go at e
  cases hs:t.slot p.j with
  | empty=>rw[hs] at e;cases e;exact⟨hp,λz=>by lia⟩
  | dummy=>exact absurd hs (GS hd _)
  | live i =>
   rw[hs] at e
   dsimp only at e
   split at e
   ·cases e
   ·obtain⟨a1,a2⟩:=vp hd m _ j d (by rw[hZ];exact hp) e
    refine⟨a1,λz=>a2 ?_⟩
    unfold SetTable.advance
    split
    ·show p.j+1+(p.more-1)≤_
     lia
    ·show(p.i*5+1+p.perturb / 32)%(t.mask+1)+(runEnd t.mask ((p.i*5+1+p.perturb / 32)%(t.mask+1))-(p.i*5+1+p.perturb / 32)%(t.mask+1))≤_
     have:(p.i*5+1+p.perturb / 32)%(t.mask+1)<t.mask+1:=Nat.mod_lt _ (by lia)
     unfold runEnd
     split<;>lia
end
structure TOk(t:SetTable)(n:Nat):Prop where
 m:okM (t.mask+1)
 s:t.place.size=n
 d:t.dummies=#[]
 r:Ris t.place
 b:∀j∈t.place.toList,j≤t.mask
 l:n≤t.mask
theorem ze:∀(l m:List Nat),l.Nodup->(∀x∈l,x∈m)->l.length≤m.length
 | [],m,_,_=>Nat.zero_le _
 | a::l,m,hd,h=>by
  obtain⟨h1,h2⟩:=List.nodup_cons.mp hd
  have ih:=ze l (m.erase a) h2 λx hx=>(List.mem_erase_of_ne (λe:x=a=>h1 (e ▸ hx))).mpr (h x (.tail _ hx))
  rw[List.length_erase_of_mem (h a List.mem_cons_self)] at ih
  have:=List.length_pos_of_mem (h a List.mem_cons_self)
  rw[List.length_cons]
  lia
theorem TOk.free{t:SetTable}{n:Nat}(T:TOk t n):∃e,e≤t.mask/\t.slot e=.empty:=by
 have:∃e,e≤t.mask/\e∉t.place.toList:=by
  refine Classical.byContradiction λq=>?_
  have:=ze (List.range (t.mask+1)) t.place.toList List.nodup_range λx hx=>by
   refine Classical.byContradiction λz=>q ⟨x,?_,z⟩
   have:=List.mem_range.mp hx
   lia
  rw[List.length_range,Array.length_toList,T.s] at this
  have:=T.l
  lia
 obtain⟨e,he,hn⟩:=this
 refine⟨e,he,?_⟩
 unfold SetTable.slot
 dsimp only
 rw[if_neg,T.d,show SetTable.has #[] e=false by unfold SetTable.has;simp]
 ·rfl
 ·intro z
  have z:t.place[SetTable.below t.place e]?=some e:=by simpa using z
  exact hn (by rw[Array.mem_toList_iff];exact Array.mem_of_getElem? z)
theorem TOk.probe{t:SetTable}{n:Nat}(T:TOk t n){f:Nat->Int}{h:Int}(hf:∀i,i<n->f i≠h):∃j,t.probe f h (t.probeStart h)=some (.empty j none)/\j≤t.mask/\nX t j:=by
 obtain⟨e,he,hs⟩:=T.free
 cases q:t.probe f h (t.probeStart h) with
 | none=>exact absurd q (xn T.m he hs)
 | some met =>
  cases met with
  | candidate j i nx=>exact absurd q (la (λi hi=>hf i (by rw[← T.s];exact hi)) _ _ _ _ _)
  | empty j d =>
   obtain⟨a1,a2⟩:=vp T.d _ _ _ _ rfl q
   subst a1
   obtain⟨b1,_⟩:=pX _ _ _ _ (λx hx=>by cases hx) q
   refine⟨j,rfl,a2 ?_,b1⟩
   show bits h%(t.mask+1)+(runEnd t.mask (bits h%(t.mask+1))-bits h%(t.mask+1))≤t.mask
   have:bits h%(t.mask+1)<t.mask+1:=Nat.mod_lt _ (by lia)
   unfold runEnd
   split<;>lia
theorem TOk.put{t:SetTable}{n j:Nat}(T:TOk t n)(hj:j≤t.mask)(hd:nX t j)(hn:n+1≤t.mask):TOk (t.put j).1 (n+1):=by
 refine⟨T.m,?_,?_,GP T.r hd,?_,hn⟩
 ·show(SetTable.insertAt t.place (SetTable.below t.place j) j).size=_
  rw[hX,T.s]
 ·show(if SetTable.has t.dummies j=true then _ else t.dummies)=_
  rw[T.d,show SetTable.has #[] j=false by unfold SetTable.has;simp]
  rfl
 ·intro i hi
  have hi:=(SetTable.insertAt_perm t.place (SetTable.below t.place j) j).mem_iff.mp hi
  rw[Array.toList_push] at hi
  rcases List.mem_append.mp hi with hi|hi
  ·exact T.b i hi
  ·rw[List.mem_singleton] at hi;rw[hi];exact hj
section
variable{mask:Nat}{ow:Array (Option Nat)}
theorem rL:∀(m i q:Nat),SetTable.layClean.free mask ow m i q=none->∀k,k<m->(ow.getD (lps (mask+1) k (i,q)).1 (some 0)).isNone=false
 | 0,i,q,_,k,hk=>absurd hk (by lia)
 | m+1,i,q,e,k,hk=>by
  unfold SetTable.layClean.free at e
  split at e
  ·cases e
  ·rename_i hf
   cases k with
   | zero =>
    rw[List.find?_eq_none] at hf
    have:=hf 0 (List.mem_range.mpr (by unfold runEnd;split<;>lia))
    rw[Nat.add_zero] at this
    show(ow.getD i (some 0)).isNone=false
    exact Bool.not_eq_true _ ▸ this
   | succ k=>exact rL m _ _ e k (by lia)
theorem rM:∀(m i q j:Nat),SetTable.layClean.free mask ow m i q=some j->(ow.getD j (some 0)).isNone=true
 | 0,i,q,j,e=>by unfold SetTable.layClean.free at e;cases e
 | m+1,i,q,j,e=>by
  unfold SetTable.layClean.free at e
  split at e
  ·rename_i k hf
   cases e
   have:=List.find?_some hf
   exact this
  ·exact rM m _ _ j e
theorem rN:∀(l:List (Option Nat)) (j k:Nat),l[j]?=some none->((l.set j (some k)).filterMap id).Perm (k::l.filterMap id)
 | [],j,k,h=>by simp at h
 | x::l,0,k,h=>by
  simp at h
  subst h
  simp
 | x::l,j+1,k,h=>by
  have ih:=rN l j k (by simpa using h)
  rw[List.set_cons_succ]
  cases x with
  | none=>simpa using ih
  | some y =>
   simp only[List.filterMap_cons,id]
   exact(ih.cons y).trans (List.Perm.swap _ _ _)
theorem rO:∀(l:List (Option Nat)),(∀x∈l,x.isNone=false)->(l.filterMap id).length=l.length
 | [],_=>rfl
 | x::l,h=>by
  cases x with
  | none=>exact absurd (h none List.mem_cons_self) (by simp)
  | some y =>
   simp only[List.filterMap_cons,id,List.length_cons]
   rw[rO l λz hz=>h z (List.mem_cons_of_mem _ hz)]
def LOk(mask:Nat)(ow:Array (Option Nat))(k:Nat):Prop:=ow.size=mask+1/\(ow.toList.filterMap id).Perm (List.range k)
theorem DC(hM:okM (mask+1)){k:Nat}(L:LOk mask ow k)(hk:k≤mask)(h:Int):∃j,SetTable.layClean.free mask ow (turns mask) (bits h%(mask+1)) (bits h)=some j/\LOk mask (ow.setIfInBounds j (some k)) (k+1):=by
 obtain⟨l1,l2⟩:=L
 have hex:∃e,e<mask+1/\(ow.getD e (some 0)).isNone=true:=by
  refine Classical.byContradiction λq=>?_
  have:=rO ow.toList λx hx=>by
   cases z:x.isNone with
   | false=>rfl
   | true =>
    exfalso
    obtain⟨e,he,hx⟩:=List.mem_iff_getElem.mp hx
    rw[Array.length_toList] at he
    refine q ⟨e,by lia,?_⟩
    rw[show ow.getD e (some 0)=x by simp[Array.getD,he];rw[← hx];simp]
    exact z
  rw[l2.length_eq,List.length_range,Array.length_toList,l1] at this
  lia
 obtain⟨e,he,hen⟩:=hex
 cases q:SetTable.layClean.free mask ow (turns mask) (bits h%(mask+1)) (bits h) with
 | none =>
  exfalso
  have hlt:bits h%(mask+1)<mask+1:=Nat.mod_lt _ (by lia)
  obtain⟨x,hx,ex⟩:=reach hM (bits h%(mask+1)) (bits h) hlt (zd h) he
  have:=rL _ _ _ q x (by unfold turns;lia)
  rw[ex,hen] at this;cases this
 | some j =>
  have hj:=rM _ _ _ _ q
  have hjs:j<ow.size:=by
   refine Classical.byContradiction λz=>?_
   rw[show ow.getD j (some 0)=some 0 by simp[Array.getD,z]] at hj
   cases hj
  have hjn:ow.toList[j]?=some none:=by
   rw[show ow.getD j (some 0)=ow[j] by simp[Array.getD,hjs]] at hj
   rw[Array.getElem?_toList,Array.getElem?_eq_getElem hjs]
   cases z:ow[j] with
   | none=>rfl
   | some y=>rw[z] at hj;cases hj
  refine⟨j,rfl,?_,?_⟩
  ·rw[Array.size_setIfInBounds];exact l1
  ·rw[Array.toList_setIfInBounds]
   refine(rN _ j k hjn).trans ?_
   refine((l2.cons k)).trans ?_
   rw[List.range_succ]
   exact(List.perm_append_singleton k (List.range k)).symm
theorem zf(hM:okM (mask+1)):∀(hs:List Int) (k:Nat) (ow:Array (Option Nat)),LOk mask ow k->k+hs.length≤mask+1 ->
  ∃ow',(hs.foldl (λ(acc:Option (Array (Option Nat)×Nat)) h=>do
   let (owner,k) ← acc
   let j ← SetTable.layClean.free mask owner (turns mask) (bits h%(mask+1)) (bits h)
   pure (owner.setIfInBounds j (some k),k+1)) (some (ow,k)))=some (ow',k+hs.length)/\LOk mask ow' (k+hs.length)
 | [],k,ow,L,_=>⟨ow,rfl,L⟩
 | h::hs,k,ow,L,hk=>by
  obtain⟨j,e,L2⟩:=DC hM L (by simp at hk;lia) h
  obtain⟨ow',e2,L3⟩:=zf hM hs (k+1) _ L2 (by simp at hk ⊢;lia)
  refine⟨ow',?_,?_⟩
  ·rw[List.foldl_cons]
   show List.foldl _ (Option.bind (SetTable.layClean.free mask ow (turns mask) (bits h%(mask+1)) (bits h)) λj=>some (ow.setIfInBounds j (some k),k+1)) hs=_
   rw[e,Option.bind_some,e2]
   congr 2
   simp;lia
  ·rw[show k+(h::hs).length=k+1+hs.length by simp;lia]
   exact L3
end
theorem GU{mask fi mo:Nat}{led pl:Bool}(hM:okM (mask+1))(hs:Array Int)(hn:hs.size≤mask):∃t o,SetTable.laid mask fi mo led pl hs=some (t,o)/\TOk t hs.size/\t.mask=mask/\t.led=led/\o.toList.Perm (List.range hs.size):=by
 have L0:LOk mask (Array.replicate (mask+1) none) 0:=⟨by simp,by simp⟩
 obtain⟨ow,e,L⟩:=zf hM hs.toList 0 _ L0 (by simp;lia)
 have e1:SetTable.layClean mask hs=some ow:=by
  unfold SetTable.layClean
  rw[← Array.foldl_toList,e];rfl
 rw[Nat.zero_add,Array.length_toList] at L
 obtain⟨l1,l2⟩:=L
 have e2:SetTable.laid mask fi mo led pl hs=some ({ mask:=mask,place:=(((List.range (mask+1)).filterMap λj=>(ow.getD j none).map (j,·)).map (·.1)).toArray,dummies:=#[],finger:=fi,led:=led,moves:=mo,plain:=pl },(((List.range (mask+1)).filterMap λj=>(ow.getD j none).map (j,·)).map (·.2)).toArray):=by
  unfold SetTable.laid
  rw[e1];rfl
 have e3:((List.range (mask+1)).filterMap λj=>(ow.getD j none).map (j,·)).map (·.2)=ow.toList.filterMap id:=by
  have:∀(l:List Nat),(l.filterMap λj=>(ow.getD j none).map (j,·)).map (·.2)=(l.map λj=>ow.getD j none).filterMap id:=by
   intro l
   induction l with
   | nil=>rfl
   | cons j l ih =>
    rw[List.filterMap_cons,List.map_cons,List.filterMap_cons]
    cases ow.getD j none with
    | none=>exact ih
    | some y =>
     show y::_=y::_
     rw[ih]
  rw[this]
  congr 1
  apply List.ext_getElem
  ·simp[l1]
  ·intro i h1 h2
   simp at h1
   simp[Array.getD,l1,h1]
 have hl:((List.range (mask+1)).filterMap λj=>(ow.getD j none).map (j,·)).length=hs.size:=by
  have:=congrArg List.length e3
  rw[List.length_map,l2.length_eq,List.length_range] at this
  exact this
 obtain⟨r1,_⟩:=Dz e2
 refine⟨_,_,e2,⟨hM,?_,rfl,r1,λj hj=>?_,hn⟩,rfl,rfl,?_⟩
 ·show(List.map _ _).toArray.size=_
  rw[List.size_toArray,List.length_map,hl]
 ·have hj:j∈(((List.range (mask+1)).filterMap λj=>(ow.getD j none).map (j,·)).map (·.1)):=hj
  obtain⟨y,hy,rfl⟩:=List.mem_map.mp hj
  obtain⟨x,hx,hx2⟩:=List.mem_filterMap.mp hy
  have:=List.mem_range.mp hx
  cases q:ow.getD x none with
  | none=>rw[q] at hx2;cases hx2
  | some z =>
   rw[q] at hx2
   cases hx2
   show x≤mask
   lia
 ·show(((List.range (mask+1)).filterMap λj=>(ow.getD j none).map (j,·)).map (·.2)).Perm _
  rw[e3]
  exact l2
theorem xo{α:Type}(es:Array α)(o:Array Nat)(h:o.toList.Perm (List.range es.size)):(o.filterMap (es[·]?)).toList.Perm es.toList:=by
 rw[Array.toList_filterMap]
 refine(h.filterMap _).trans ?_
 have:(List.range es.size).filterMap (λi=>es[i]?)=es.toList:=by
  have g:∀(l:List α),(List.range l.length).filterMap (λi=>l[i]?)=l:=by
   intro l
   induction l with
   | nil=>rfl
   | cons x l ih =>
    rw[List.length_cons,List.range_succ_eq_map,List.filterMap_cons,List.filterMap_map]
    simp only[List.getElem?_cons_zero]
    congr 1
  have:=g es.toList
  rw[Array.length_toList] at this
  simpa using this
 rw[this]
end Fw.Set
namespace Fw.Set
open PySem PyProof.Rows
section
variable{prog:Program}{w:World}{A:Around}{E:Value->Shared->Prop}{s:Shared}
def qI(h:Heap)(a:Addr)(hs:List Int):Prop :=
 ∃o es ep t,h.get? a=some o/\o.ExactSet/\o.data=.set es ep t/\(es.toList.map (·.1)).Perm hs/\TOk t es.size/\es.size*5<t.mask*3/\es.size<70
theorem qI.at{h h':Heap}{a:Addr}{hs:List Int}(r:qI h a hs)(k:∀o,h.get? a=some o->h'.get? a=some o):qI h' a hs :=
 let ⟨o,es,ep,t,e,rest⟩:=r;⟨o,es,ep,t,k o e,rest⟩
theorem jy{t:SetTable}{n:Nat}(T:TOk t n):t.fits n=true:=by
 unfold SetTable.fits SetTable.fill
 rw[T.d,T.s]
 have:=T.l
 simp
 lia
theorem GV{t:SetTable}{n:Nat}(T:TOk t n):t.gaveWay=false:=by
 unfold SetTable.gaveWay
 rcases T.m with h|h|h
 ·rw[show t.mask=7 by lia];rfl
 ·rw[show t.mask=31 by lia];rfl
 ·rw[show t.mask=127 by lia];rfl
theorem zg{h:Heap}{a:Addr}{o:Obj}{es fs:Array (Int×Value)}{ep:Nat}{t u:SetTable}(ho:h.get? a=some o)(hd:o.data=.set es ep t):(h.update a (Obj.putSet fs u)).get? a=some { o with data:=.set fs (ep+1) u }:=by
 have:=Heap.get?_update_self (Obj.putSet fs u) ho (by rw[putSet_of fs u hd];rfl)
 rw[putSet_of fs u hd] at this;exact this
theorem xp{k:Int}{v:Value}(h:(intKind prog w).is k v=true):∃t,v=.int k t:=by
 cases v<;>simp[intKind,Value.isInt] at h
 subst h
 exact⟨_,rfl⟩
theorem AW{ks:List Int}{b:Addr}{Q:Bool->Shared->Prop}(hk:IsTupleKey (intKind prog w) s.heap ks b)(h:∀v,Q v s):wpAny (model prog w) A (hashByValue 8 (.ref b)) Q E s:=by
 have hT:=hk.typeIs
 obtain⟨o,items,n,ho,_,hd,hi⟩:=hk
 rw[show(8:Nat)=7+1 from rfl]
 unfold hashByValue
 refine wpAny_bind (wpAny_specialOf hT F.slot_tuple_hash.lookup ?_)
 show wpAny _ _ (seqItems? (.ref b)>>=_) Q E s
 refine wpAny_bind (wpAny_seqItems ho hd ?_)
 dsimp only
 refine wpAny_bind ?_
 rw[← Array.forIn_toList]
 refine wpAny_forIn_list _ (λrest (_:Option Bool×PUnit) s'=>s'=s/\∃left,ItemsAre (intKind prog w) left rest) _ ?_ ?_ _ _ ⟨rfl,ks,hi⟩
 ·rintro x rest b' s' ⟨rfl,left,hl⟩
  cases hl with
  | @cons k _ ks' _ h1 hl' =>
   obtain⟨t,rfl⟩:=xp h1
   unfold hashByValue
   exact wpAny_pure ⟨rfl,ks',hl'⟩
 ·rintro b' s' ⟨rfl,_⟩
  obtain⟨r,u⟩:=b'
  cases r<;>exact wpAny_pure (h _)
theorem DD{a:Addr}{o:Obj}{es:Array (Int×Value)}{ep:Nat}{t:SetTable}{x:Value}{h:Int}{Q:SetFound->Shared->Prop}(ho:s.heap.get? a=some o)(hd:o.data=.set es ep t)(T:TOk t es.size)(hn:h∉es.toList.map (·.1))
  (hq:∀j,j≤t.mask->nX t j->Q (.free j false) s):wpAny (model prog w) A (setSearch a x h (adding:=true)) Q E s:=by
 unfold setSearch
 rw[show(100000:Nat)=99999+1 from rfl]
 unfold setSearchFrom
 refine wpAny_bind (wpAny_setState_of ho hd (jy T) ?_)
 dsimp only
 rw[GV T]
 have hf:∀i,i<es.size->((es[i]?.map (·.1)).getD 0:Int)≠h:=λi hi e=>hn (by
  rw[Array.getElem?_eq_getElem hi] at e
  rw[← e]
  exact List.mem_map.mpr ⟨es[i],by simp,rfl⟩)
 obtain⟨j,e,hj,hdj⟩:=T.probe (f:=λi=>(es[i]?.map (·.1)).getD 0) hf
 rw[if_neg Bool.false_ne_true]
 split
 ·rename_i met hm
  have hm:t.probe (λi=>(es[i]?.map (·.1)).getD 0) h (t.probeStart h)=some met:=hm
  rw[e] at hm
  cases hm
  exact wpAny_pure (hq j hj hdj)
 ·rename_i hm
  have:=hm (.empty j none) e
  exact this.elim
theorem JT:SetTable.sizeAbove (SetTable.grown 5)=32:=by decide
theorem JU:SetTable.sizeAbove (SetTable.grown 19)=128:=by decide
theorem Mq{a b:Addr}{hs:List Int}{ks:List Int}{h:Int}{Y:Bool->Shared->Prop}(hS:qI s.heap a hs)(hk:IsTupleKey (intKind prog w) s.heap ks b)(hn:h∉hs)(hl:hs.length<60)
  (hy:∀h',Heap.SameBut a s.heap h'->qI h' a (h::hs)->Y true { s with heap:=h' }):wpAny (model prog w) A (setAddHashed a (.ref b) h) Y E s:=by
 obtain⟨o,es,ep,t,ho,hx,hd,hp,T,hf,hb⟩:=hS
 have hz:es.size=hs.length:=by have:=hp.length_eq;simpa using this
 unfold setAddHashed
 refine wpAny_holding ?_
 rw[show(100000:Nat)=99999+1 from rfl]
 unfold setAddHashedIn
 refine wpAny_bind (wpAny_setState_of ho hd (jy T) ?_)
 dsimp only
 rw[show byScan (.ref b) es=false from rfl,if_neg Bool.false_ne_true]
 refine wpAny_bind (DD ho hd T (λq=>hn (hp.mem_iff.mp q)) λj hj hdj=>?_)
 dsimp only
 refine wpAny_bind (wpAny_setState_of ho hd (jy T) ?_)
 dsimp only
 have hn1:es.size+1≤t.mask:=by
  rcases T.m with q|q|q<;>lia
 have T2:=T.put hj hdj hn1
 have pm:(SetTable.insertAt es (t.put j).2 (h,Value.ref b)).toList.Perm (es.toList++[(h,.ref b)]):=by
  have:=SetTable.insertAt_perm es (t.put j).2 (h,Value.ref b)
  rwa [Array.toList_push] at this
 have sz:(SetTable.insertAt es (t.put j).2 (h,Value.ref b)).size=es.size+1:=hX _
 generalize SetTable.insertAt es (t.put j).2 (h,Value.ref b)=fs at pm sz
 have hmk:(t.put j).1.mask=t.mask:=rfl
 have hh:(fs.toList.map (·.1)).Perm (h::hs):=by
  refine(pm.map _).trans ?_
  rw[List.map_append]
  show(List.map (·.1) es.toList++[h]).Perm _
  refine(List.perm_append_singleton _ _).trans (hp.cons _)
 generalize (t.put j).1=t1 at T2 hmk
 have tail:∀u:SetTable,TOk u (es.size+1)->u.mask=t.mask->wpAny (model prog w) A (do
   storeSet a fs u
   if (!false && u.tooFull)=true then do
    setRelay a (SetTable.grown (es.size+1))
    pure true
   else pure true) Y E s:=λu U um=>by
  refine wpAny_bind (wpAny_storeSet_of ho hd ?_ (by rw[sz,sizeLine_eq];lia))
  have g1:=zg (fs:=fs) (u:=u) ho hd
  have sb:=Heap.SameBut.update s.heap a (Obj.putSet fs u)
  by_cases tf:u.tooFull=true
  ·rw[show(!false && u.tooFull)=true by rw[tf];rfl,if_pos rfl]
   have tf2:u.mask*3≤(es.size+1)*5:=by
    unfold SetTable.tooFull SetTable.fill at tf
    rw[U.d,U.s] at tf
    have tf:=of_decide_eq_true tf
    simpa using tf
   obtain⟨M,hM,hMn,hw⟩:∃M,okM (M+1)/\(es.size+1)*5<M*3/\SetTable.sizeAbove (SetTable.grown (es.size+1))=M+1:=by
    rcases U.m with q|q|q
    ·have:es.size+1=5:=by lia
     rw[this]
     exact⟨31,.inr (.inl rfl),by decide,JT⟩
    ·have:es.size+1=19:=by lia
     rw[this]
     exact⟨127,.inr (.inr rfl),by decide,JU⟩
    ·exfalso;lia
   have hsz:(fs.map (·.1)).size≤M:=by rw[Array.size_map,sz];lia
   obtain⟨u2,od,e2,U2,m2,l2,p2⟩:=GU (fi:=u.finger) (mo:=u.movedTo M) (led:=u.led) (pl:=u.plain) hM (fs.map (·.1)) hsz
   rw[Array.size_map] at U2 p2
   have e3:u.relaid (fs.map (·.1)) (SetTable.grown (es.size+1))=some (u2,od):=by
    unfold SetTable.relaid
    rw[hw,Nat.add_sub_cancel];exact e2
   have pe:=xo fs od p2
   have sze:(od.filterMap (fs[·]?)).size=fs.size:=by
    have:=pe.length_eq
    rw[Array.length_toList,Array.length_toList] at this
    exact this
   unfold setRelay
   refine wpAny_bind (wpAny_bind (wpAny_setState_of (s:={ s with heap:=s.heap.update a (Obj.putSet fs u) }) g1 rfl (by rw[sz];exact jy U) ?_))
   dsimp only
   rw[hw,if_neg (by rw[sizeLine_eq];rcases hM with q|q|q<;>lia),e3]
   refine wpAny_bind ?_
   change wpAny _ _ (if ((od.filterMap (fs[·]?)).size != fs.size)=true then (do unsupported "internal:set-table-lost-an-element";pure (od.filterMap (fs[·]?),u2)) else pure (od.filterMap (fs[·]?),u2)) _ _ _
   rw[sze,if_neg (by simp)]
   refine wpAny_pure ?_
   dsimp only
   refine wpAny_storeSet_of (s:={ s with heap:=s.heap.update a (Obj.putSet fs u) }) g1 rfl ?_ (by rw[sze,sz,sizeLine_eq];lia)
   have g2:=zg (h:=s.heap.update a (Obj.putSet fs u)) (fs:=od.filterMap (fs[·]?)) (u:=u2) g1 rfl
   refine wpAny_pure (hy _ (sb.trans (Heap.SameBut.update _ a _)) ⟨_,od.filterMap (fs[·]?),_,u2,g2,hx,rfl,(pe.map _).trans hh,by rw[sze];exact U2,by rw[sze,sz,m2];exact hMn,by rw[sze,sz];lia⟩)
  ·rw[Bool.not_eq_true] at tf
   rw[show(!false && u.tooFull)=false by rw[tf];rfl,if_neg Bool.false_ne_true]
   refine wpAny_pure (hy _ sb ⟨_,fs,ep+1,u,g1,hx,rfl,hh,by rw[sz];exact U,?_,by lia⟩)
   unfold SetTable.tooFull SetTable.fill at tf
   rw[U.d,U.s] at tf
   have tf:=of_decide_eq_false tf
   rw[sz]
   simp at tf
   lia
 by_cases pl:t1.plain=true
 ·rw[if_pos pl]
  refine wpAny_bind (AW hk λv=>?_)
  cases v with
  | true=>exact tail t1 T2 hmk
  | false=>exact tail { t1 with plain:=false } ⟨T2.m,T2.s,T2.d,T2.r,T2.b,T2.l⟩ hmk
 ·rw[if_neg pl]
  refine wpAny_bind (wpAny_pure ?_)
  exact tail t1 T2 hmk
end
section
variable{prog:Program}{w:World}{A:Around}{R:Result->Shared->Prop}{I:Addr}{fp wr:List Addr}{G:Array GenState->Array GenState->Prop}{n:Nat}{P:Nat->Value->Prop}{St:Nat->Shared->Prop}
abbrev vq(prog:Program)(w:World)(kss:List (List Int))(i:Nat):List Int:=((kss.take i).map (tupleKeyHash (intKind prog w))).reverse
def DE(prog:Program)(w:World)(h:Heap)(a:Addr)(wr:List Addr)(P:Nat->Value->Prop)(kss:List (List Int)):Prop:=∀i v,P i v->∃b,v=.ref b/\b≠a/\b∉wr/\IsTupleKey (intKind prog w) h (kss.getD i []) b
theorem DE.at{h h':Heap}{a:Addr}{wr:List Addr}{kss:List (List Int)}(T:DE prog w h a wr P kss)(k:∀b o,b≠a->b∉wr->h.get? b=some o->h'.get? b=some o):DE prog w h' a wr P kss:=λi v hv=>by
 obtain⟨b,e,h1,h2,o,items,n,g1,g2⟩:=T i v hv
 exact⟨b,e,h1,h2,o,items,n,k b o h1 h2 g1,g2⟩
theorem AX(W:WalksS prog w A.in1 I fp wr G n P St)(a:Addr)(ha:a∉fp)(hu:A.in1.units<cLine){kss:List (List Int)}(hd:(kss.map (tupleKeyHash (intKind prog w))).Nodup)(hz:n=kss.length)(hb:n<60) :
  ∀(m i:Nat) (s:Shared),n-i=m->i≤n->St i s->qI s.heap a (vq prog w kss i)->DE prog w s.heap a wr P kss ->
   (∀z,Moved (a::wr) G s z->qI z.heap a (vq prog w kss n)->R (.ok (.ret .none)) z) ->
   codeAny (model prog w) A (.builtin "set.update.loop" ⟨[.ref a,.ref I],[]⟩) R s:=by
 have hw:a∉wr:=λq=>ha (W.sub _ q)
 have sub:∀b∈wr,b∈a::wr:=λb q=>List.mem_cons_of_mem _ q
 intro m
 induction m with
 | zero =>
  intro i s hm hi st hS hT hR
  have e:i=n:=by lia
  subst e
  refine codeAny_builtin F.entry_set_update_loop ?_
  rw[Around.under_plainId F.plain_set_update_loop]
  show wpAny _ A.in1 (pyNext (.ref I)>>=_) _ _ s
  refine wpAny_bind (W.done s _ _ st λz mv=>?_)
  exact wpAny_pure (hR z (mv.mono sub) (hS.at λo q=>mv.heap a o hw q))
 | succ m ih =>
  intro i s hm hi st hS hT hR
  have lt:i<n:=by lia
  refine codeAny_builtin F.entry_set_update_loop ?_
  rw[Around.under_plainId F.plain_set_update_loop]
  show wpAny _ A.in1 (pyNext (.ref I)>>=_) _ _ s
  refine wpAny_bind (W.item i s _ _ lt st λv z pv st1 mv=>?_)
  have hT1:=hT.at (h':=z.heap) λb o _ h2 q=>mv.heap b o h2 q
  obtain⟨b,rfl,hba,hbw,hk⟩:=hT1 i v pv
  have hS1:=hS.at (h':=z.heap) λo q=>mv.heap a o hw q
  show wpAny _ A.in1 (holding [Value.ref b] (setAdd a (.ref b))>>=_) _ _ z
  refine wpAny_bind (wpAny_holding ?_)
  unfold setAdd
  refine wpAny_holding (wpAny_bind (wpAny_pyHash_tuple hu hk ?_))
  have hlt:i<kss.length:=by rw[← hz];exact lt
  have hkk:kss.getD i []=kss[i]:=by simp[hlt]
  have up:vq prog w kss (i+1)=tupleKeyHash (intKind prog w) (kss.getD i [])::vq prog w kss i:=by
   show((kss.take (i+1)).map _).reverse=_
   rw[List.take_succ_eq_append_getElem hlt,List.map_append,List.reverse_append,hkk];rfl
  have nR:tupleKeyHash (intKind prog w) (kss.getD i [])∉vq prog w kss i:=by
   intro q
   have q:tupleKeyHash (intKind prog w) (kss.getD i [])∈(kss.take i).map (tupleKeyHash (intKind prog w)):=List.mem_reverse.mp q
   rw[hkk,List.map_take] at q
   obtain⟨j,hj,e⟩:=List.mem_iff_getElem.mp q
   rw[List.length_take,List.length_map] at hj
   rw[List.getElem_take,List.getElem_map] at e
   have:=(List.pairwise_iff_getElem.mp hd) j i (by rw[List.length_map];lia) (by rw[List.length_map];exact hlt) (by lia)
   rw[List.getElem_map,List.getElem_map] at this
   exact this e
  refine Mq (s:={ z with toks:=z.toks+((kss.getD i []).length+1) }) hS1 hk nR (by simp;lia) λh' sb r2=>?_
  rw[← up] at r2
  have hT2:DE prog w h' a wr P kss:=hT1.at λc o h1 _ q=>by rw[sb.2 c h1];exact q
  refine wpAny_pure ⟨plainId_quiet F.plain_set_update_loop _,ih (i+1) _ (by lia) lt (W.frame _ z _ _ st1 (Nat.le_add_right _ _) λb hb' o q=>?_) r2 hT2 λy mv2 r4=>?_⟩
  ·rw[sb.2 b (λe:b=a=>ha (by rw[← e];exact hb'))];exact q
  ·refine hR y (Moved.trans W.gtrans ((mv.mono sub).then_heap (Nat.le_add_right _ _) λb o hb' q=>?_) mv2) r4
   rw[sb.2 b (λe:b=a=>hb' (by rw[e];exact List.mem_cons_self))];exact q
end
section
variable{prog:Program}{w:World}{A:Around}{E:Value->Shared->Prop}{s:Shared}
theorem DF{h:Heap}{led:Bool}{a:Addr}(e:h.get? a=some (kF led)):qI h a [] :=
 ⟨_,#[],0,_,e,⟨rfl,rfl,rfl⟩,rfl,.nil,⟨.inl rfl,rfl,rfl,λi k d _ hk=>absurd hk (Nat.not_lt_zero _),λj hj=>(by cases hj),Nat.zero_le _⟩,(by decide:0*5<7*3),(by decide:0<70)⟩
set_option maxHeartbeats 3200000 in
theorem AY{l:Addr}{its:Array Value}{kss:List (List Int)}{Y:Value->Shared->Prop}(hh:A.handled=none)(hu:A.units+20<cLine)(hl:s.heap.IsList l its)(hi:∀(i:Nat) (v:Value),its[i]?=some v->∃b,v=.ref b/\IsTupleKey (intKind prog w) s.heap (kss.getD i []) b)(hd:(kss.map (tupleKeyHash (intKind prog w))).Nodup)(hz:its.size=kss.length)(hb:its.size<60)
  (h:∀(h':Heap) (tk:Nat),qI h' s.heap.objs.size (vq prog w kss its.size) ->
   (∀b o,b<s.heap.objs.size->s.heap.get? b=some o->h'.get? b=some o)->Y (.ref s.heap.objs.size) { s with heap:=h',toks:=tk }) :
  wpAny (model prog w) A (call (.type "set") [.ref l]) Y E s:=by
 obtain⟨c,tl,Og⟩:=F.called_set.mro
 have k1:=F.called_set.made
 have k2:=F.called_set.sub
 refine wpAny_call (codeAny_of_tree ?_)
 show wpAny _ _ (callAny (.type "set") _) _ _ _
 refine wpAny_pure ⟨Code.quiet_builtin _ (by decide +kernel),codeAny_builtin F.entry_type_call ?_⟩
 rw[Around.under_plain (weight_type_call_type "set" [.ref l] []) rfl]
 have k3:=F.called_set.notType
 have k4:=F.called_set.canCreate
 have k5:=F.typeCall_set_1 (.ref l)
 repeat (any_goals (first|assumption|wp_step))
 refine codeAny_mono (GQ (.ref l) (E:=E) (Y:=λob z=>ob=.ref s.heap.objs.size/\z={ s with heap:=s.heap.push (kF (DA w)) }) ⟨rfl,rfl⟩) λr z hr=>?_
 cases r with
 | error e=>exact hr
 | ok fl =>
  cases fl with
  | ret ob =>
   obtain⟨rfl,rfl⟩:=hr
   generalize DA w=led at h ⊢
   have g0:(s.heap.push (kF led)).get? s.heap.objs.size=some (kF led):=Heap.get?_push_size _ rfl
   have ty:Shared.TypeIs { s with heap:=s.heap.push (kF led) } (.ref s.heap.objs.size) "set":=⟨_,g0,rfl⟩
   have k6:=F.called_set.init.lookup
   have k7:=F.called_set.init.bind (.ref s.heap.objs.size)
   repeat (any_goals (first|assumption|wp_step))
   refine codeAny_mono (codeAny_call_builtin (R:=wants (λr y=>r=.none/\∃h' tk,y={ s with heap:=h',toks:=tk } /\
     qI h' s.heap.objs.size (vq prog w kss its.size) /\
     (∀b o,b<s.heap.objs.size->s.heap.get? b=some o->h'.get? b=some o)) E) F.called_set.init.plain F.entry_set_init (check_set_init_1 ty ?_)) λr2 y hr2=>?_
   ·obtain⟨ol,e1,e2,nl,e3⟩:=hl
    obtain⟨Oh,Mr,Oa,JV⟩:=ol
    simp only at e2 e3
    subst e2;subst e3
    have e4:(s.heap.push (kF led)).get? l=some { cls:=.type "list",dict:=Mr,data:=.seq its nl,slots:=JV }:=Heap.get?_push_of_some _ e1
    have q1:=F.sub_list_set
    have q2:=F.sub_list_frozenset
    have q3:(Value.type "list"==Value.type "dict")=false:=by decide
    have l1:(s.heap.push (kF led)).IsList l its:=⟨_,e4,rfl,nl,rfl⟩
    unfold Builtin.«set.__init__» noKeywords Builtin.Frozenset.updateFrom
    generalize hp:pyIter=PI
    wp_walk
    subst hp
    refine wpAny_pyIter_list l1 (wpAny_bind (wpAny_runValue ?_))
    have lt:l<s.heap.objs.size:=Heap.lt_size e1
    have h3:A.in1.in1.in1.handled=none:=by simp[hh]
    have ne:l≠(s.heap.push (kF led)).objs.size:=by
     rw[Heap.size_push];exact Nat.ne_of_lt (Nat.lt_succ_of_lt lt)
    have nf:s.heap.objs.size∉[(s.heap.push (kF led)).objs.size,l]:=by
     rw[Heap.size_push]
     simp only[List.mem_cons,List.not_mem_nil,or_false,not_or]
     exact⟨Nat.ne_of_lt (Nat.lt_succ_self _),Nat.ne_of_gt lt⟩
    refine AX ((Walks.list h3 _ l ne its).toS) s.heap.objs.size nf (by show A.units+1+1+1<cLine;lia) hd hz hb (its.size-0) 0 _ (by lia) (Nat.zero_le _) ⟨⟨_,Heap.get?_push_size _ rfl,rfl,rfl⟩,l1.push _⟩ ?_ ?_ ?_
    ·exact DF (Heap.get?_push_of_some _ g0)
    ·intro i v q
     obtain⟨b,e,o,items,n,g1,g2⟩:=hi i v q
     have lb:b<s.heap.objs.size:=Heap.lt_size g1
     refine⟨b,e,Nat.ne_of_lt lb,?_,o,items,n,Heap.get?_push_of_some _ (Heap.get?_push_of_some _ g1),g2⟩
     rw[Heap.size_push]
     simp only[List.mem_cons,List.not_mem_nil,or_false]
     exact Nat.ne_of_lt (Nat.lt_succ_of_lt lb)
    ·intro y mv r
     obtain⟨h',g',d',tk',os'⟩:=y
     have a1:g'=s.gens:=mv.gens
     have a2:d'=s.drawn:=mv.drawn
     have a3:os'=s.os:=mv.os
     subst a1;subst a2;subst a3
     show wpAny _ _ _ _ _ _
     refine wpAny_pure ?_
     show wpAny _ _ (ret Value.none) _ _ _
     refine wpAny_pure ⟨rfl,h',tk',rfl,r,λb o lb q=>?_⟩
     refine mv.heap b o ?_ (Heap.get?_push_of_some _ (Heap.get?_push_of_some _ q))
     simp only[List.mem_cons,List.not_mem_nil,or_false,not_or]
     refine⟨Nat.ne_of_lt lb,?_⟩
     rw[Heap.size_push];exact Nat.ne_of_lt (Nat.lt_succ_of_lt lb)
   ·cases r2 with
    | error e=>exact hr2
    | ok f2 =>
     cases f2 with
     | ret r =>
      obtain⟨rfl,h',tk,rfl,r1,r3⟩:=hr2
      repeat (any_goals (first|assumption|wp_step))
      exact h _ _ r1 r3
     | _=>exact hr2.elim
  | _=>exact hr.elim
end
end Fw.Set
namespace Fw
open PySem
def hT(ks:List Int):Int:=reduceHash (Builtin.Tuple.tupleHashOf (ks.map hashInt))
def iN:List T->Option (List (List Int))
 | []=>some []
 | .tup xs::ts=>(eO xs).bind λns=>(iN ts).map (ns::·)
 | _::_=>none
def j6:T->Option T
 | .lst ts=>(iN ts).bind λkss=>if kss.length<60/\(kss.map hT).Nodup then some (.int kss.length) else none
 | _=>none
open Classical in
def jz(same:af->Prop)(b:BD)(d:D)(e:Slots):List T->af->R (List (Sum T Nat))
 | [],μ=>if same μ then .ok [] μ else .bad
 | t::ts,μ=>if same μ then
   match b t e with
   | none=>.bad
   | some e1=>(d e1 μ).calm.bind λy μ2=>(R.lift (boxed [y]) μ2).bind λys μ2=>(jz same b d e ts μ2).bind λus μ4=>.ok (ys++us) μ4
  else .bad
def iO(it:DI)(mp:List (Option Nat))(b:BD)(d:D):D:=λe μ=>(it e μ).bind λW μ1=>(jz W.same b d (ini mp e) W.items μ1).calm.bind λus μ2 =>
 if W.items.length≤szL then .ok (.lbx us) μ2 else .bad
theorem AZ(it:DI)(mp:List (Option Nat))(b:BD)(d:D)(e:Slots)(μ:af):iO it mp b d e μ=(it e μ).bind λW μ1=>(jz W.same b d (ini mp e) W.items μ1).calm.bind λus μ2 =>
 if W.items.length≤szL then .ok (.lbx us) μ2 else .bad:=(rfl)
def il(do_ dk dv:D):DS:=λe μ=>(dv e μ).toS e λy μ1=>(do_ e μ1).toS e λx μ2=>(dk e μ2).toS e λz μ3=>(R.lift (rd μ3 z) μ3).toS e λk μ3=>(frz y μ3).toS e λt μ4=>(R.lift (setAt x k t μ4) μ4).toS e λμ5 _=>.nx e μ5
theorem tV(do_ dk dv:D)(e:Slots)(μ:af):il do_ dk dv e μ=(dv e μ).toS e λy μ1=>(do_ e μ1).toS e λx μ2=>(dk e μ2).toS e λz μ3=>(R.lift (rd μ3 z) μ3).toS e λk μ3=>(frz y μ3).toS e λt μ4=>(R.lift (setAt x k t μ4) μ4).toS e λμ5 _=>.nx e μ5:=(rfl)
end Fw
namespace L2
open PySem PySem.Spec PyProof.Rows Fw Fw.Set
def rLS(K:PySem.W.Frag)(xs:List V)(H:Hp)(Q:VK):Prop:=∃(p:Addr) (bs:List Addr) (kss:List (List Int)),xs=[.ref p]/\SqL K H p (bs.map V.ref)/\Paired (λb ks=>SqT K H b (ks.map V.int)) bs kss/\kss.length<60/\(kss.map hT).Nodup/\Q (.int (kss.length:Nat)) H
theorem A_:bootBuiltins "set"=some (.type "set"):=by decide +kernel
theorem vt{prog:Program}{w:World}:∀{ns:List Int}{us:List Value},Vals (ns.map V.int) us->ItemsAre (intKind prog w) ns us
 | [],_,.nil=>.nil
 | n::ns,_,.cons r rs=>by
  obtain⟨t,rfl⟩:=r
  exact .cons (intKind_is _ _ _ _) (vt rs)
theorem Ba{X:Cx}{a:Expr}{t:TA}{p p2 pos jw:Pos}(hu:X.A.units+64<cLine)(hc:X.calm=true)(hg:Gl X "len")(hm:X.mg "len"=none)(hg2:Gl X "set")(hm2:X.mg "set"=none)(ha:PA X [a] t)(he:starEach [a] X.env=(false,eval a X.env)::starEach [] X.env)(JW:(backTo jw (starEach [] X.env)).any (·.1)=false)
  (hs1:starEach [.Call (.Name "set" p2) [a] [] jw] X.env=(false,eval (.Call (.Name "set" p2) [a] [] jw) X.env)::starEach [] X.env) (hpl:(backTo pos (starEach [] X.env)).any (·.1)=false) :
  PE X (.Call (.Name "len" p) [.Call (.Name "set" p2) [a] [] jw] [] pos) (tCB (rLS X.K) t):=by
 intro pins s σ H Q I h
 refine wpAny_Call_Name_kw (fA I hg hm PySem.boot_len ?_ (by decide) (by decide))
 refine PyProof.Rows.callWith_builtin1 ?_ hs1 hpl
 rw[hs1]
 show wpAny _ _ (spliced ((false,eval (.Call (.Name "set" p2) [a] [] jw) X.env)::backTo pos (starEach [] X.env))) _ _ s
 refine Calls.spliced_cons ?_
 refine wpAny_Call_Name_kw (fA I hg2 hm2 A_ ?_ (by decide) (by decide))
 refine PyProof.Rows.callWith_type1 (thn (ha jw pins s σ H _ I h) λus s1 aj=>?_) he JW
 obtain⟨vs,H1,I1,r1,q1⟩:=aj
 obtain⟨l,bs,kss,rfl,hq,hp,hlt,hnd,q⟩:=q1
 obtain⟨u,rfl,ru⟩:=vals1 r1
 cases ru
 obtain⟨its,rv,pl,hz⟩:=I1.list hq
 have hl1:its.length=bs.length:=by have:=rv.length;simpa using this.symm
 have hl2:bs.length=kss.length:=hp.length
 have hin:X.A.handled=none:=I.ok.hd hc
 refine AY (its:=its.toArray) (kss:=kss) hin (by lia) pl.isList (λi v hi=>?_) hnd (by simp;lia) (by simp;lia) λh' tk hS keep=>?_
 ·have hi:its[i]?=some v:=by simpa using hi
  have hib:i<bs.length:=by rw[← hl1];exact(List.getElem?_eq_some_iff.mp hi).1
  obtain⟨v',e1,rv'⟩:=Vals.get (i:=i) (x:=.ref bs[i]) rv (by simp[hib])
  rw[hi] at e1
  cases e1
  cases rv'
  have hik:i<kss.length:=by lia
  have sq:SqT X.K H1 bs[i] ((kss.getD i []).map V.int):=by
   obtain⟨b,g1,g2⟩:=Fw.Paired.get' hp (List.getElem?_eq_getElem hik)
   rw[List.getElem?_eq_getElem hib] at g1
   cases g1
   rw[List.getD_eq_getElem?_getD,List.getElem?_eq_getElem hik]
   exact g2
  obtain⟨g8,rv2,⟨o,e,hcl,n,hd⟩,_⟩:=I1.tuple sq
  exact⟨bs[i],rfl,o,g8.toArray,n,e,hcl,hd,vt rv2⟩
 ·refine Calls.spliced_nil ?_
  obtain⟨o,es,ep,t,ho,hx,hd,hpm,T,_,hb⟩:=hS
  have hes:es.size=kss.length:=by
   have:=hpm.length_eq
   simp only[vq,List.length_reverse,List.length_map,List.length_take,List.size_toArray,Array.length_toList] at this
   lia
  refine call_len_set (s:={ s1 with heap:=h',toks:=tk }) ho hx hd (jy T) (by lia) ?_
  rw[hes]
  exact⟨.int (kss.length:Nat),H1,I1.kept λb o e=>keep b o (Heap.lt_size e) e,⟨_,rfl⟩,q⟩
end L2
namespace Fw
open PySem PySem.Spec PyProof.Rows L2
theorem vv{K:PySem.W.Frag}{F:Hp}:∀{ts:List T}{vs:List V}{kss:List (List Int)},aA K F ts vs->iN ts=some kss->∃bs:List Addr,vs=bs.map V.ref/\Paired (λb ks=>SqT K F b (ks.map V.int)) bs kss
 | [],vs,kss,r,h=>by
  cases h
  have:=r.length
  cases vs with
  | nil=>exact⟨[],rfl,.nil⟩
  | cons _ _=>simp at this
 | t::ts,vs,kss,r,h=>by
  cases t with
  | tup xs =>
   obtain⟨ns,h1,h⟩:=Option.bind_eq_some_iff.mp (show(eO xs).bind (λns=>(iN ts).map (ns::·))=some kss from h)
   obtain⟨Oi,h2,rfl⟩:=Option.map_eq_some_iff.mp h
   cases vs with
   | nil=>have:=r.length;simp at this
   | cons v vs =>
    rw[aA] at r
    obtain⟨v',vs',e0,r1,r2⟩:=r
    cases e0
    obtain⟨bs,rfl,p⟩:=vv r2 h2
    rw[Rep] at r1
    obtain⟨b,ws,rfl,hq,hl⟩:=r1
    rw[j3 h1] at hl
    rw[hl.yS] at hq
    exact⟨b::bs,rfl,.cons hq p⟩
  | _=>cases h
theorem xq{K:PySem.W.Frag}:mh K (rLS K) j6:=by
 intro F H v t w Q s hv hw q
 cases t with
 | lst ts =>
  obtain⟨kss,h1,h2⟩:=Option.bind_eq_some_iff.mp (show((iN ts).bind λkss=>if kss.length<60/\(kss.map hT).Nodup then some (T.int kss.length) else none)=some w from hw)
  obtain⟨a,vs,rfl,hq,hl⟩:=hv.iJ
  by_cases hlt:kss.length<60/\(kss.map hT).Nodup
  ·rw[if_pos hlt] at h2
   cases h2
   obtain⟨bs,rfl,p⟩:=vv hl h1
   exact⟨a,bs,kss,rfl,hq,Paired.imp' (λ_ _ z=>aI.fm s z) p,hlt.1,hlt.2,q _ H F bt.refl (Rep.fS _)⟩
  ·rw[if_neg hlt] at h2;cases h2
 | _=>cases hw
theorem Bb{X:Cx}{k:Nat}{a:Expr}{da:D}{p p2 pos jw:Pos}(hr:cz k X.A)(hm:X.mg "len"=none)(hm2:X.mg "set"=none)(ha:CE X a da)(hc:X.calm=true:=by rfl)(hg:Gl X "len":=by rfl)(hg2:Gl X "set":=by rfl)(hs:starEach [a] X.env=(false,eval a X.env)::starEach [] X.env:=by rfl)(JW:(backTo jw (starEach [] X.env)).any (·.1)=false:=by rfl)
  (hs1:starEach [.Call (.Name "set" p2) [a] [] jw] X.env=(false,eval (.Call (.Name "set" p2) [a] [] jw) X.env)::starEach [] X.env:=by rfl) (hpl:(backTo pos (starEach [] X.env)).any (·.1)=false:=by rfl) :
  CE X (.Call (.Name "len" p) [.Call (.Name "set" p2) [a] [] jw] [] pos) (dUn j6 da) :=
 PE.imp (Ba hr.units hc hg hm hg2 hm2 (ag ha aw hs) hs JW hs1 hpl) (Cu xq)
theorem Paired.snoc{α β:Type}{P:α->β->Prop}{a:α}{b:β}(h:P a b):∀{as:List α}{bs:List β},Paired P as bs->Paired P (as++[a]) (bs++[b])
 | _,_,.nil=>.cons h .nil
 | _,_,.cons g r=>.cons g (Paired.snoc h r)
inductive Ms(K:PySem.W.Frag)(same:af->Prop)(items:List T)(b:BD)(d:D)(e0:Slots)(us:List (Sum T Nat))(μ':af)(F1:Hp)(α1:List Addr)(H1:Hp)(p:Addr)(i:Nat)(σ':L2.St)(Hc:Hp):Prop
 | mk (F2:Hp) (α2:List Addr) (μ3:af) (done rest:List (Sum T Nat)) (vs:List V) (x2:Ex F1 α1 H1 F2 α2 Hc) (S2:Sim K F2 α2 e0 μ3 σ' Hc) (n1:F2 p=none) (n2:p∉α2) (hv:Hc p=some (.lst vs)) (hr:Paired (i_ K F2 α2) vs done) (hdl:done.length≤i) (hL:jz same b d e0 (items.drop i) μ3=.ok rest μ') (hu:us=done++rest)
section
variable{X:Cx}{mp:List (Option Nat)}{b:BD}{d:D}{di:DI}
theorem JX{y:SV}{ys:List (Sum T Nat)}(h:boxed [y]=some ys):∃z,ys=[z]/\∀{K:PySem.W.Frag}{F:Hp}{α:List Addr}{v:V},eL K F α v y->i_ K F α v z:=by
 cases y with
 | val t=>cases h;exact⟨_,rfl,λo=>o⟩
 | cel k=>cases h;exact⟨_,rfl,λo=>o⟩
 | box xs=>cases h
 | lbx xs=>cases h
theorem xr{σ:L2.St}{H:Hp}{Q:VK}(hb:kX mp b)(h:tD X (iO di mp b d) σ H Q):tDI X di σ H λJ H1=>u5 J mp (tBd X.K b) (oDT X.K (dC (.bl true))) (oD X.K d) σ H1 Q:=by
 obtain⟨F,α,e,μ,S,h⟩:=h
 refine⟨F,α,e,μ,S,(R.wp_bind h).mono (λW μ1 h J H1 F1 α1 x1 S1 ok=>?_) λ_ _ h=>h⟩
 cases hL:(jz W.same b d (ini mp e) W.items μ1).calm with
 | err c μ'=>cases q:jz W.same b d (ini mp e) W.items μ1<;>rw[q] at hL<;>cases hL
 | bad=>rw[hL] at h;exact h.elim
 | ok us μ' =>
 rw[hL] at h
 have hL:=R.calm_eq hL
 rw[R.aQ] at h
 by_cases hz:W.items.length≤szL
 ·rw[if_pos hz] at h
  have post:FW X.K F α H e σ Q (.lbx us) μ':=h
  intro p hp
  refine⟨λi m σ' Hc=>m=W.items.length-i/\i≤W.items.length/\Ms X.K W.same W.items b d (ini mp e) us μ' F1 α1 H1 p i σ' Hc,
   ⟨_,rfl,Nat.zero_le _,.mk F1 α1 μ1 [] us [] (Ex.lay hp) ((S1.ini mp).of (aI.refl _) (List.prefix_refl _) (S1.st.lay hp)) (S1.st.ext.free hp) (bC S1.st hp) az .nil (Nat.zero_le _) hL rfl⟩,?_⟩
  rintro i m σ2 H2 ⟨rfl,hi',hC⟩
  obtain⟨F2,α2,μ3,done,rest,vs,x2,S2,n1,n2,hv,hr,hdl,hL,hu⟩:=hC
  by_cases hlt:i<W.items.length
  ·rw[List.drop_eq_getElem_cons hlt] at hL
   unfold jz at hL
   by_cases hs:W.same μ3
   ·rw[if_pos hs] at hL
    obtain⟨g1,g2⟩:=ok F2 α2 μ3 H2 x2.same x2.pre S2.st hs
    obtain⟨go,yl⟩:=g1 i W.items[i] (by simp[hlt])
    cases hb':b W.items[i] (ini mp e) with
    | none=>simp only[hb'] at hL;cases hL
    | some e3 =>
     simp only[hb'] at hL
     obtain⟨y2,μ6,hd,hK⟩:=R.aM hL
     have hd:=R.calm_eq hd
     obtain⟨ys,μ7,hy,hK⟩:=R.aM hK
     obtain⟨hy1,hy2⟩:=R.iy hy
     subst hy2
     obtain⟨us',μ8,hL2,hK⟩:=R.aM hK
     cases hK
     obtain⟨z,rfl,hpt⟩:=JX hy1
     obtain⟨hl3,hb3⟩:=hb _ _ _ hb'
     refine .inr ⟨go,Ms X.K W.same W.items b d (ini mp e) us μ' F1 α1 H1 p (i+1),λσ' H' q=>⟨W.items.length-(i+1),by lia,rfl,hlt,q⟩,λx H3 yy=>?_⟩
     obtain⟨F3,gr,rp⟩:=yl x H3 yy
     have x3:Ex F2 α2 H2 F3 α2 H3:=gr.ex S2.st.ext
     refine⟨F3,α2,ini mp e,μ3,W.items[i],e3,S2.grow gr,rp,hb',λσ4 S4=>?_⟩
     refine⟨F3,α2,e3,μ3,true,μ3,S4,rfl,λH5 F5 α5 x5 S5=>?_⟩
     obtain⟨v3,n3,m3⟩:=x3.fr p _ hv n1 n2
     obtain⟨v5,n5,m5⟩:=x5.fr p _ v3 n3 m3
     rw[if_pos rfl]
     refine⟨F5,α5,e3,μ3,y2,μ6,S5,hd,λv H6 F6 α6 x6 S6 o6=>?_⟩
     obtain⟨v6,n6,m6⟩:=x6.fr p _ v5 n5 m5
     have hvl:vs.length<sizeLine:=by
      have:=hr.length
      have hz':W.items.length≤sizeLine:=hz
      lia
     have x7:Ex F1 α1 H1 F6 α6 H6:=x2.trans (x3.trans (x5.trans x6))
     have hr2:Paired (i_ X.K F6 α6) vs done:=Paired.imp' (λ_ _ z=>i_.mono (x3.same.trans (x5.same.trans x6.same)) (x3.pre.trans (x5.pre.trans x6.pre)) z) hr
     refine⟨p,vs,v,rfl,rfl,v6,hvl,.mk F6 α6 μ6 (done++[z]) us' (vs++[v]) (x7.CG hp) ?_ n6 m6 az (Paired.snoc (hpt o6) hr2) ?_ hL2 ?_⟩
     ·exact(S6.back hl3 hb3).of (aI.refl _) (List.prefix_refl _) (S6.st.CG n6 m6)
     ·rw[List.length_append,List.length_singleton];lia
     ·rw[hu,List.append_assoc]
   ·rw[if_neg hs] at hL;cases hL
  ·have e1:i=W.items.length:=by lia
   subst e1
   rw[List.drop_length] at hL
   unfold jz at hL
   by_cases hs:W.same μ3
   ·rw[if_pos hs] at hL
    cases hL
    obtain⟨g1,g2⟩:=ok F2 α2 _ H2 x2.same x2.pre S2.st hs
    have S3:=S1.of x2.same x2.pre S2.st
    have h0:H p=none:=x1.was S1.st hp
    have s2:aI F2 (upd F2 p (.lst vs)):=λb z hz=>by
     rw[aF (λq=>by subst q;rw[n1] at hz;cases hz)];exact hz
    have st:cf X.K (upd F2 p (.lst vs)) α2 μ' H2:=by
     refine⟨λb z hz=>?_,S3.st.len,S3.st.nd,S3.st.there,λk b u a' h1 h2=>?_,S3.st.tps.mono s2⟩
     ·by_cases eb:b=p
      ·subst eb;rw[az] at hz;cases hz;exact hv
      ·rw[aF eb] at hz;exact S3.st.ext b z hz
     ·have na:a'≠p:=λq=>by subst q;exact n2 (List.mem_of_getElem? h2)
      obtain⟨c1,c2⟩:=S3.st.cell k b u a' h1 h2
      refine⟨λhb=>⟨by rw[aF na];exact(c1 hb).1,?_⟩,λhb=>Rep.mono s2 _ _ (c2 hb)⟩
      have d2:=(c1 hb).2
      cases u with
      | lst ts=>obtain⟨vs,w1,w2⟩:=d2;exact⟨vs,w1,aA.mono s2 _ _ w2⟩
      | dct ts=>obtain⟨vs,w1,w2⟩:=d2;exact⟨vs,w1,bj.mono s2 _ _ w2⟩
      | dtt fz ts=>exact d2
      | _=>exact d2.elim
    refine .inl ⟨g2,post _ _ (upd F2 p (.lst vs)) α2 ((x1.trans x2).ice h0 n1) (S3.of s2 (List.prefix_refl _) st) ?_⟩
    refine⟨p,vs,rfl,SqL.of az,?_⟩
    rw[hu,List.append_nil]
    exact Paired.imp' (λ_ _ z=>i_.mono s2 (List.prefix_refl _) z) hr
   ·rw[if_neg hs] at hL;cases hL
 ·rw[if_neg hz] at h;exact h.elim
theorem tW(i:Nat){y:Str}{N':List Str}{scope:Scope}{elt iter tg:Expr}{pos py u6:Pos}(hx:X.xe=λ_ _=>False)(hS:c9 X N' scope mp)(jq:X.calm=true)(hb:kX mp b)(hi:CI X tg iter di)(hg:∀cl C s₀ H₀ ex,CB (bu X N' scope cl C s₀ H₀ ex) tg b)
  (hc:∀cl C s₀ H₀ ex,ja (bu X N' scope cl C s₀ H₀ ex) [] (tDT (bu X N' scope cl C s₀ H₀ ex) (dC (.bl true)))) (he:∀cl C s₀ H₀ ex,CE (bu X N' scope cl C s₀ H₀ ex) elt d) (hN:X.N.Nodup) (hiN:X.N[i]?=some y:=by rfl) (hl:Loc X.env.scope y:=by first|exact Or.inl rfl|exact Or.inr rfl)
  (hsw:swapsWith (.ListComp elt [⟨tg,iter,[],0⟩] scope pos) (some (.Name y py)) u6.line X.env=pure true:=by rfl) (hs:∀x,foldedSetIterable iter X.env x=pure x:=by intro _;rfl)
  (hf:X.fn y=true∨X.env.scope.names.lookup y=some .local:=by first|exact .inl rfl|exact .inr rfl|assumption) :
  CS X (.Assign [.Name y py] (.ListComp elt [⟨tg,iter,[],0⟩] scope pos) u6) (aC i (iO di mp b d)) :=
 PS.imp (nH hx hS jq hi (g:=tBd X.K b) hg (λcl C s₀ H₀ ex=>ja.imp (hc cl C s₀ H₀ ex) λσ H Q q=>wM (X':=bu X N' scope cl C s₀ H₀ ex) q) (te:=oD X.K d) (λcl C s₀ H₀ ex=>PE.imp (he cl C s₀ H₀ ex) λσ H Q q=>CH (X':=bu X N' scope cl C s₀ H₀ ex) q) hN hiN hl hsw hs hf) λD σ H aj=>by
  obtain⟨F,α,e,μ,S,h⟩:=aj
  refine xr hb ⟨F,α,e,μ,S,(aV.toS h).mono (λx μ1 h v H1 F1 α1 x1 S1 o1=>?_) λ_ _ h=>h⟩
  exact h _ H1 F1 α1 x1 (S1.set o1)
theorem vw{o ik ev:Expr}{cW pos:Pos}{do_ dk dv:D}(ho:CE X o do_)(hk:CE X ik dk)(hv:CE X ev dv)
  (ha:∀v,assign (.Subscript o ik cW) X.env v=(do
   let ov ← holding [v] (eval o X.env)
   let iv ← holding [v,ov] (eval ik X.env)
   standAt cW
   holding [v,ov,iv] (setItem ov iv v)
   release [v,ov,iv] []):=by intro _;rfl)
  (hs:swapsWithSole [.Subscript o ik cW] ev pos.line X.env=pure false:=by rfl) (hw:swappedStores [.Subscript o ik cW] ev X.env=pure none:=by rfl)
  (h1:(assignEach [.Subscript o ik cW] X.env).map (·.2)=[assign (.Subscript o ik cW) X.env]:=by rfl) :
  CS X (.Assign [.Subscript o ik cW] ev pos) (il do_ dk dv) :=
 PS.imp (wd hv (BK ho hk set_list ha) hs hw h1) λD σ H aj=>by
  obtain⟨F,α,e,μ,S,h⟩:=aj
  refine⟨F,α,e,μ,S,(aV.toS h).mono (λy μ1 h v H1 F1 α1 x1 S1 o1=>?_) λ_ _ h=>h⟩
  refine⟨F1,α1,e,μ1,S1,(aV.toS h).mono (λx μ2 h ov H1b F1b α1b x1b S1b oo=>?_) λ_ _ h=>h.mono x1⟩
  refine⟨F1b,α1b,e,μ2,S1b,(aV.toS h).mono (λz μ3 h v2 H2 F2 α2 x2 S2 o2=>?_) λ_ _ h=>h.mono (x1.trans x1b)⟩
  obtain⟨k,hk,h⟩:=aV.lift h
  have h:=h.toS
  have nk:=aO S2.st o2 hk
  have x1':Ex F α H F1b α1b H1b:=x1.trans x1b
  cases hz:frz y μ3 with
  | err c μ4=>exact absurd hz (oX y μ3 c μ4)
  | bad=>rw[hz] at h;exact h.elim
  | ok t μ4 =>
   rw[hz] at h
   obtain⟨μ5,ha4,h⟩:=aV.lift h
   obtain⟨F3,s3,n3,S3,r3⟩:=kT S2.st ((o1.mono x1b.same x1b.pre).mono x2.same x2.pre) hz
   cases x with
   | cel j =>
    obtain⟨ad,had,rfl⟩:=oo
    cases k with
    | int ki =>
     cases nk.int
     unfold setAt at ha4
     simp only at ha4
     have hc:∃us jj,μ4[j]?=some (true,.lst us)/\Fw.ixN us.length ki=some jj/\μ5=μ4.set j (true,.lst (us.set jj t)):=by
      split at ha4
      ·rename_i us hjs
       obtain⟨jj,e1,e2⟩:=Option.map_eq_some_iff.mp ha4
       exact⟨us,jj,hjs,e1,e2.symm⟩
      ·cases ha4
     obtain⟨us,jj,hj3,hjj,rfl⟩:=hc
     have ha3:α2[j]?=some ad:=e9 x2.pre had
     obtain⟨_,ws,hw,rw'⟩:=(S3.cell j true _ ad hj3 ha3).1 rfl
     have el:=rw'.length
     refine⟨ad,ws,ki,jj,rfl,rfl,hw,by rw[← el];exact hjj,?_⟩
     have x3:Ex F α H F3 α2 H2:=x1'.trans (x2.trans (Ex.nG s3 n3))
     exact h σ _ F3 α2 (x3.trans (Ex.put ha3)) ((S2.of s3 (List.prefix_refl _) S3).of (aI.refl _) (List.prefix_refl _) (kU S3 hj3 ha3 ⟨_,az,rw'.set jj r3⟩))
    | _=>unfold setAt at ha4;cases ha4
   | val t=>cases k<;>(unfold setAt at ha4;cases ha4)
   | box xs=>cases k<;>(unfold setAt at ha4;cases ha4)
   | lbx xs=>cases k<;>(unfold setAt at ha4;cases ha4)
end
end Fw
namespace Fw.k63
open PySem Fw
def lg:DS :=
 (aq (aC 3 (ah bg (aa 2) (aa 0)))
 (aq (sIf (ah fEq (aa 3) (dC (.int 0))) sS bB)
 (aq (aC 4 (ah bg (aa 1) (aa 0)))
 (aq (kP (ah fNe (aa 3) (dC (.int 1))) (aq (aC 4 (ah bg (ah aG (dUn Fx (aa 4)) (ah kN (aa 0) (aa 3))) (aa 0)))
 (aC 3 (ah bg (aa 0) (aa 3)))))
 (aH (aa 4))))))
def tX:FN:=fnV 5 lg
def iP:DS :=
 (aH (aW (bD (aa 2)) [none,some 0,some 1] (av 0) (dC (.bl true)) (ah bg (ah aG (aa 2) (aa 0)) (aa 1))))
def pZ:FN:=fnV 3 iP
def e_:DS :=
 (aq (aC 4 (ao (aa 1) (aa 3)))
 (aq (sIf (ah fEq (aa 4) (dC (.int 0))) (aH (aa 1)) bB)
 (aH (aW (An (aa 1) (aa 2)) [none,none,some 0,some 4] (cT [0,1]) (dC (.bl true)) (ah bg (ah o7 (aa 0) (ah aG (aa 3) (aa 1))) (aa 2))))))
def p3:FN:=fnV 5 e_
def cu:DS :=
 (aq (bE (aK (aa 1)) (av 2) (sIf (ah fNe (ao (aa 0) (aa 2)) (dC (.int 0))) (aH (aa 2)) bB))
 (aH (dC (.non))))
def jA:FN:=fnV 3 cu
def mC:DS :=
 (aq (aC 3 (bG (dC (.dct []))))
 (aq (aC 4 (bG (eK [])))
 (aq (bE (bD (aa 1)) (av 5) (aq (aC 6 (aa 5))
 (aq (bE (kZ (aa 3)) (cT [7,8]) (aC 6 (ax (cal p3) [(aa 0),(aa 6),(aa 8),(aa 7)])))
 (aq (aC 9 (ax (cal jA) [(aa 6),(aa 2)]))
 (sIf (dUn o_ (aa 9)) (dB (aa 4) (aa 6)) (aq (aC 10 (ax (cal pZ) [(aa 0),(ax (cal tX) [(aa 0),(dC (.int 1)),(ao (aa 6) (aa 9))]),(aa 6)]))
 (aq (bE (bD (dUn yH (aa 3))) (av 7) (nJ 3 (aa 7) (ax (cal p3) [(aa 0),(ah pI (aa 3) (aa 7)),(aa 10),(aa 9)])))
 (nJ 3 (aa 9) (aa 10)))))))))
 (aH (ee [(aa 3),(aa 4)])))))
def vx:FN:=fnV 11 mC
def cJ:DS :=
 (aH (aW (bD (aa 1)) [none,some 0,some 2] (av 0) (dC (.bl true)) (ah bg (ao (aa 0) (aa 2)) (aa 1))))
def kG:FN:=fnV 3 cJ
def nq:DS :=
 (aq (aC 2 (bG (kl jh [(dC (.int 0))] (aa 0))))
 (aq (cO 2 (aa 1) (dC (.int 1)))
 (aH (aa 2))))
def zh:FN:=fnV 3 nq
def nr:DS :=
 (aq (aC 4 (cS (aa 2)))
 (aq (aC 5 (bG (eK [])))
 (aq (bE (aK (aa 1)) (av 6) (dB (aa 5) (ah bx (ah bx (ax (cal kG) [(aa 0),(aa 2),(aa 6)]) (eK [(ah bg (ao (aa 3) (aa 6)) (aa 0))])) (ax (cal zh) [(aa 1),(aa 6)]))))
 (aq (aC 7 (ax (cal vx) [(aa 0),(aa 5),(aa 4)]))
 (aq (bE (bD (ao (aa 7) (dC (.int 1)))) (av 8) (sIf (ah fNe (ao (aa 8) (aa 4)) (dC (.int 0))) (aH (uP [(dC (.str "turn")),(dUn cH (ax (cal pZ) [(aa 0),(ax (cal tX) [(aa 0),(dC (.int 1)),(ao (aa 8) (aa 4))]),(Ck (aa 8) (some (ah bx (aa 4) (dC (.int 1)))) none)]))])) bB))
 (aq (aC 9 (bG (kl jh [(dC (.int 0))] (aa 4))))
 (aq (bE (kZ (ao (aa 7) (dC (.int 0)))) (cT [6,10]) (cO 9 (aa 6) (ao (aa 10) (aa 4))))
 (aH (uP [(dC (.str "sum")),(aa 9)])))))))))
def j7:FN:=fnV 11 nr
def ip:DS :=
 (aH (ah fEq (ao (aa 0) (dC (.int 0))) (dC (.str "hand"))))
def bM:FN:=fnV 1 ip
def Bc:DS :=
 (aH (aW (yP (ao (aa 0) (dC (.int 2)))) [none,none,some 1] (cT [0,1]) (ah fIn (ao (aa 1) (dC (.int 0))) (aa 2)) (aa 0)))
def dX:FN:=fnV 2 Bc
def mD:DS :=
 (aH (ah Jv (ah o7 (ao (aa 0) (dC (.int 1))) (dC (.int 1))) (dC (.int 0))))
def cQ:FN:=fnV 1 mD
def cD(mE:FN):DS :=
 (aq (sIf (ax (cal bM) [(aa 0)]) (aH (dC (.int 0))) bB)
 (aH (ah bx (ax (cal cQ) [(aa 0)]) (dUn qE (aW (bD (ao (aa 0) (dC (.int 2)))) [none] (av 0) (dC (.bl true)) (ax (cal mE) [(aa 0)]))))))
def ba:Nat->FN
 | 0=>λ_ _=>.bad
 | n+1=>fnV 1 (cD (ba n))
def c_(nZ:FN):DS :=
 (aq (sIf (ax (cal bM) [(aa 1)]) (aH (dC (.bl false))) bB)
 (aq (sIf (mV (ah fGt (ao (aa 1) (dC (.int 1))) (dC (.int 1))) (ah fGe (cS (ao (aa 1) (dC (.int 2)))) (aa 0))) (aH (dC (.bl true))) bB)
 (aH (dUn uU (aW (bD (ao (aa 1) (dC (.int 2)))) [none,some 0] (av 0) (dC (.bl true)) (ax (cal nZ) [(aa 1),(aa 0)]))))))
def bo:Nat->FN
 | 0=>λ_ _=>.bad
 | n+1=>fnV 2 (c_ (bo n))
def kH:DS :=
 (aq (aC 5 (bG (dUn yG (aa 1))))
 (aq (aC 6 (dC (.int 1)))
 (aq (bE (oB (aa 2) (ah bx (aa 2) (aa 3))) (av 7) (aq (aC 6 (ah bg (ah aG (aa 6) (aa 4)) (aa 0)))
 (cO 5 (aa 7) (aa 6))))
 (aH (aa 5)))))
def cY:FN:=fnV 8 kH
def d_(p4:FN):DS :=
 (aq (sIf (ax (cal bM) [(aa 1)]) (aH (eK [(ee [(ao (aa 1) (dC (.int 1))),(dUn cH (aa 2))])])) bB)
 (aq (aC 4 (ax (cal cQ) [(aa 1)]))
 (aq (aC 5 (bG (eK [])))
 (aq (aC 6 (ah bx (aa 3) (aa 4)))
 (aq (bE (tR (ao (aa 1) (dC (.int 2)))) (cT [7,8]) (aq (cV (aa 5) (ax (cal p4) [(aa 0),(aa 8),(ax (cal cY) [(aa 0),(aa 2),(aa 3),(aa 4),(aa 7)]),(aa 6)]))
 (aC 6 (ah bx (aa 6) (ax (cal (ba 8)) [(aa 8)])))))
 (aH (aa 5)))))))
def bq:Nat->FN
 | 0=>λ_ _=>.bad
 | n+1=>fnV 9 (d_ (bq n))
def p5:DS :=
 (aq (aC 2 (ah bx (dC (.int 1)) (ax (cal (ba 8)) [(aa 1)])))
 (aq (sIf (ah fGt (aa 2) (dC (.int 12))) sS bB)
 (aq (sIf (ax (cal (bo 8)) [(aa 0),(aa 1)]) sS bB)
 (aH (ee [(aa 0),(aa 2),(dUn cH (ax (cal (bq 8)) [(aa 0),(aa 1),(ah bx (eK [(dC (.int 1))]) (kl jh [(dC (.int 0))] (ah o7 (aa 2) (dC (.int 1))))),(dC (.int 1))]))])))))
def jB:DS:=(aC 2 (ah bx (dC (.int 1)) (ax (cal (ba 8)) [(aa 1)])))
def jC:DS:=(sIf (ah fGt (aa 2) (dC (.int 12))) sS bB)
def jD:DS:=(sIf (ax (cal (bo 8)) [(aa 0),(aa 1)]) sS bB)
def jE:DS:=(aH (ee [(aa 0),(aa 2),(dUn cH (ax (cal (bq 8)) [(aa 0),(aa 1),(ah bx (eK [(dC (.int 1))]) (kl jh [(dC (.int 0))] (ah o7 (aa 2) (dC (.int 1))))),(dC (.int 1))]))]))
def jF:DS:=jE
def jG:DS:=aq jD jF
def jH:DS:=aq jC jG
def nL:DS:=aq jB jH
theorem vy:p5=nL:=rfl
theorem p6(e:Slots)(μ:af):nL e μ=(jB e μ).seq jH:=rfl
theorem p7(e:Slots)(μ:af):jH e μ=(jC e μ).seq jG:=rfl
theorem p8(e:Slots)(μ:af):jG e μ=(jD e μ).seq jF:=rfl
theorem p9(e:Slots)(μ:af):jF e μ=jE e μ:=rfl
def fw:FN:=fnV 3 p5
def fb:DS :=
 (aH (dUn cH (aW (aK (aa 0)) [none] (av 0) (dC (.bl true)) (Fq (ah fEq (aa 0) (dC (.int 0))) (dC (.int 1)) (dC (.int 0))))))
def bX:FN:=fnV 1 fb
def iZ:DS :=
 (aq (aC 2 (bG (eK [])))
 (aq (bE (bD (aa 1)) (av 3) (cV (aa 2) (aW (bD (aa 1)) [none,some 3,some 0] (av 0) (ah fEq (ao (ao (aa 2) (aa 0)) (dC (.int 0))) (ao (ao (aa 2) (aa 1)) (dC (.int 0)))) (ee [(aa 1),(aa 0)]))))
 (aH (aa 2))))
def eP:DS:=(aC 2 (bG (eK [])))
def eQ:DS:=(bE (bD (aa 1)) (av 3) (cV (aa 2) (aW (bD (aa 1)) [none,some 3,some 0] (av 0) (ah fEq (ao (ao (aa 2) (aa 0)) (dC (.int 0))) (ao (ao (aa 2) (aa 1)) (dC (.int 0)))) (ee [(aa 1),(aa 0)]))))
def eR:DS:=(aH (aa 2))
def eS:DS:=eR
def eT:DS:=aq eQ eS
def iq:DS:=aq eP eT
theorem nv:iZ=iq:=rfl
theorem km(e:Slots)(μ:af):iq e μ=(eP e μ).seq eT:=rfl
theorem ko(e:Slots)(μ:af):eT e μ=(eQ e μ).seq eS:=rfl
theorem kq(e:Slots)(μ:af):eS e μ=eR e μ:=rfl
def cE:FN:=fnV 4 iZ
def rP:DS :=
 (aq (aC 2 (bG (eK [])))
 (aq (bE (bD (aa 0)) (av 3) (cV (aa 2) (aW (bD (aa 1)) [none,some 3] (av 0) (dC (.bl true)) (ah aG (aa 1) (aa 0)))))
 (aH (dUn cH (aa 2)))))
def lh:DS:=(aC 2 (bG (eK [])))
def lj:DS:=(bE (bD (aa 0)) (av 3) (cV (aa 2) (aW (bD (aa 1)) [none,some 3] (av 0) (dC (.bl true)) (ah aG (aa 1) (aa 0)))))
def lq:DS:=(aH (dUn cH (aa 2)))
def lr:DS:=lq
def lu:DS:=aq lj lr
def p_:DS:=aq lh lu
theorem xt:rP=p_:=rfl
theorem qJ(e:Slots)(μ:af):p_ e μ=(lh e μ).seq lu:=rfl
theorem qK(e:Slots)(μ:af):lu e μ=(lj e μ).seq lr:=rfl
theorem qL(e:Slots)(μ:af):lr e μ=lq e μ:=rfl
def eU:FN:=fnV 4 rP
def rQ:DS :=
 (aH (dUn cH (aW (aK (aa 0)) [none,some 1,some 0] (av 0) (dC (.bl true)) (dUn cH (dm (aa 1) (some (ah aG (aa 2) (aa 0))) (some (ah aG (aa 2) (ah bx (aa 0) (dC (.int 1))))))))))
def gw:FN:=fnV 2 rQ
def qa:DS :=
 (aq (aC 2 (ao (aa 0) (dC (.int 1))))
 (aq (aC 3 (ao (aa 0) (dC (.int 2))))
 (aq (aC 4 (ax (cal dX) [(aa 0),(aa 1)]))
 (aq (sIf (dOr (ah fGt (aa 2) (dC (.int 5))) (ah fGt (cS (aa 4)) (dC (.int 12)))) sS bB)
 (aq (aC 5 (ax (cal cE) [(aa 3),(aa 4)]))
 (aq (aC 6 (aW (bD (aa 5)) [none,none,some 3] (cT [0,1]) (dC (.bl true)) (ax (cal eU) [(ao (ao (aa 2) (aa 0)) (dC (.int 1))),(ao (ao (aa 2) (aa 1)) (dC (.int 1)))])))
 (aq (aC 7 (ax (cal j7) [(ao (aa 0) (dC (.int 0))),(ah aG (aa 2) (aa 2)),(aa 6),(ax (cal bX) [(ah aG (aa 2) (aa 2))])]))
 (aq (sIf (ah fEq (ao (aa 7) (dC (.int 0))) (dC (.str "turn"))) (aH (ee [(dC (.str "shut")),(ax (cal gw) [(aa 2),(ao (aa 7) (dC (.int 1)))])])) bB)
 (aH (ee [(dC (.str "open")),(aW (An (aa 5) (ao (aa 7) (dC (.int 1)))) [none,none] (cT [0,1]) (ah fNe (aa 1) (dC (.int 0))) (ee [(ao (aa 0) (dC (.int 0))),(ao (aa 0) (dC (.int 1))),(aa 1)]))]))))))))))
def ck:FN:=fnV 8 qa
def qb:DS :=
 (aq (sIf (ah fLt (aa 1) (cS (aa 0))) (aH (ao (aa 0) (aa 1))) bB)
 (aq (sIf (ah fEq (cS (aa 0)) (dC (.int 0))) (aH (ah bx (ah aG (ah aG (aa 1) (aa 1)) (dC (.int 48271))) (ah aG (dC (.int 7)) (aa 1)))) bB)
 (aH (ah bx (ah kN (ao (aa 0) (ah bg (aa 1) (cS (aa 0)))) (ah bx (dC (.int 1)) (ah kN (aa 1) (cS (aa 0))))) (ah aG (ah aG (aa 1) (aa 1)) (dC (.int 7919)))))))
def aE:FN:=fnV 2 qb
def tY:DS :=
 (aq (aC 4 (ax (cal aE) [(aa 0),(aa 1)]))
 (aq (aC 5 (bG (eK [])))
 (aq (bE (aK (aa 3)) (av 6) (sIf (ah fEq (ah bg (ax (cal aE) [(aa 0),(dC (.int 0))]) (dC (.int 2))) (dC (.int 0))) (aq (dB (aa 5) (ah bg (aa 4) (aa 2)))
 (aC 4 (ah kN (aa 4) (aa 2)))) (aq (aC 4 (ah bg (ah aG (ah bx (ah bg (aa 4) (dC (.int 2147483647))) (dC (.int 1))) (dC (.int 48271))) (dC (.int 2147483647))))
 (dB (aa 5) (ah bg (ah kN (ah bg (ah bx (ah aG (aa 4) (dC (.int 69621))) (ah aG (aa 6) (dC (.int 16807)))) (dC (.int 2147483629))) (dC (.int 11))) (aa 2))))))
 (aH (aa 5)))))
def fe:FN:=fnV 7 tY
def mF:DS :=
 (aq (aC 2 (aW (aK (cS (ao (aa 0) (dC (.int 2))))) [none,some 1,some 0] (av 0) (ah fIn (ao (ao (ao (aa 2) (dC (.int 2))) (aa 0)) (dC (.int 0))) (aa 1)) (aa 0)))
 (aq (aC 3 (bG (eK [])))
 (aq (bE (bD (aa 2)) (av 4) (cV (aa 3) (aW (bD (aa 2)) [none,some 4,some 0] (av 0) (ah fEq (ao (ao (ao (aa 2) (dC (.int 2))) (aa 1)) (dC (.int 0))) (ao (ao (ao (aa 2) (dC (.int 2))) (aa 0)) (dC (.int 0)))) (ee [(aa 1),(aa 0)]))))
 (aH (aa 3)))))
def iQ:DS:=(aC 2 (aW (aK (cS (ao (aa 0) (dC (.int 2))))) [none,some 1,some 0] (av 0) (ah fIn (ao (ao (ao (aa 2) (dC (.int 2))) (aa 0)) (dC (.int 0))) (aa 1)) (aa 0)))
def iR:DS:=(aC 3 (bG (eK [])))
def lx:DS:=(bE (bD (aa 2)) (av 4) (cV (aa 3) (aW (bD (aa 2)) [none,some 4,some 0] (av 0) (ah fEq (ao (ao (ao (aa 2) (dC (.int 2))) (aa 1)) (dC (.int 0))) (ao (ao (ao (aa 2) (dC (.int 2))) (aa 0)) (dC (.int 0)))) (ee [(aa 1),(aa 0)]))))
def ly:DS:=(aH (aa 3))
def lA:DS:=ly
def lB:DS:=aq lx lA
def lC:DS:=aq iR lB
def qc:DS:=aq iQ lC
theorem xu:mF=qc:=rfl
theorem qM(e:Slots)(μ:af):qc e μ=(iQ e μ).seq lC:=rfl
theorem qN(e:Slots)(μ:af):lC e μ=(iR e μ).seq lB:=rfl
theorem qO(e:Slots)(μ:af):lB e μ=(lx e μ).seq lA:=rfl
theorem qP(e:Slots)(μ:af):lA e μ=ly e μ:=rfl
def bR:FN:=fnV 5 mF
def ir:DS :=
 (aH (mV (dIs .int (aa 1)) (mV (gh (dIs .bool (aa 1))) (sR fLe fLt (dC (.int 0)) (aa 1) (aa 0)))))
def aN:FN:=fnV 2 ir
def gS:DS :=
 (aq (Az [3,4,5] (aa 0))
 (aq (aC 6 (ax (cal bR) [(aa 0),(aa 1)]))
 (aq (sIf (dOr (gh (dIs .list (aa 2))) (ah fNe (dUn j6 (aW (bD (aa 2)) [none] (av 0) (dC (.bl true)) (dm (aa 0) none (some (dC (.int 2)))))) (cS (aa 2)))) (aH (dC (.bl false))) bB)
 (aq (aC 7 (iO (aK (aa 4)) [none,some 4] (av 0) (bG (kl jh [(dC (.int 0))] (aa 1)))))
 (aq (bE (bD (aa 2)) (av 8) (aq (sIf (dOr (gh (dIs .tuple (aa 8))) (dOr (ah fNe (cS (aa 8)) (dC (.int 3))) (ah pN (dm (aa 8) none (some (dC (.int 2)))) (aa 6)))) (aH (dC (.bl false))) bB)
 (aq (sIf (gh (ax (cal aN) [(aa 3),(ao (aa 8) (dC (.int 2)))])) (aH (dC (.bl false))) bB)
 (aq (aC 9 (ao (ao (aa 5) (ao (aa 8) (dC (.int 0)))) (dC (.int 1))))
 (aq (aC 10 (ao (ao (aa 5) (ao (aa 8) (dC (.int 1)))) (dC (.int 1))))
 (bE (aK (aa 4)) (av 11) (bE (aK (aa 4)) (av 12) (aq (aC 13 (ah aG (ah aG (ao (aa 8) (dC (.int 2))) (ao (aa 9) (aa 11))) (ao (aa 10) (aa 12))))
 (il (ao (aa 7) (aa 11)) (aa 12) (ah bg (ah bx (ao (ao (aa 7) (aa 11)) (aa 12)) (aa 13)) (aa 3)))))))))))
 (aH (vm false (aa 7) (aW (aK (aa 4)) [none,some 4] (av 0) (dC (.bl true)) (aW (aK (aa 1)) [none,some 0] (av 0) (dC (.bl true)) (dUn wW (mV (ah fEq (aa 1) (dC (.int 0))) (ah fEq (aa 0) (dC (.int 0))))))))))))))
def dD:DS:=(Az [3,4,5] (aa 0))
def dE:DS:=(aC 6 (ax (cal bR) [(aa 0),(aa 1)]))
def dF:DS:=(sIf (dOr (gh (dIs .list (aa 2))) (ah fNe (dUn j6 (aW (bD (aa 2)) [none] (av 0) (dC (.bl true)) (dm (aa 0) none (some (dC (.int 2)))))) (cS (aa 2)))) (aH (dC (.bl false))) bB)
def dG:DS:=(aC 7 (iO (aK (aa 4)) [none,some 4] (av 0) (bG (kl jh [(dC (.int 0))] (aa 1)))))
def dH:DS:=(bE (bD (aa 2)) (av 8) (aq (sIf (dOr (gh (dIs .tuple (aa 8))) (dOr (ah fNe (cS (aa 8)) (dC (.int 3))) (ah pN (dm (aa 8) none (some (dC (.int 2)))) (aa 6)))) (aH (dC (.bl false))) bB)
 (aq (sIf (gh (ax (cal aN) [(aa 3),(ao (aa 8) (dC (.int 2)))])) (aH (dC (.bl false))) bB)
 (aq (aC 9 (ao (ao (aa 5) (ao (aa 8) (dC (.int 0)))) (dC (.int 1))))
 (aq (aC 10 (ao (ao (aa 5) (ao (aa 8) (dC (.int 1)))) (dC (.int 1))))
 (bE (aK (aa 4)) (av 11) (bE (aK (aa 4)) (av 12) (aq (aC 13 (ah aG (ah aG (ao (aa 8) (dC (.int 2))) (ao (aa 9) (aa 11))) (ao (aa 10) (aa 12))))
 (il (ao (aa 7) (aa 11)) (aa 12) (ah bg (ah bx (ao (ao (aa 7) (aa 11)) (aa 12)) (aa 13)) (aa 3)))))))))))
def dI:DS:=(aH (vm false (aa 7) (aW (aK (aa 4)) [none,some 4] (av 0) (dC (.bl true)) (aW (aK (aa 1)) [none,some 0] (av 0) (dC (.bl true)) (dUn wW (mV (ah fEq (aa 1) (dC (.int 0))) (ah fEq (aa 0) (dC (.int 0)))))))))
def fB:DS:=dI
def fC:DS:=aq dH fB
def fD:DS:=aq dG fC
def fE:DS:=aq dF fD
def fF:DS:=aq dE fE
def i0:DS:=aq dD fF
theorem n_:gS=i0:=rfl
theorem lD(e:Slots)(μ:af):i0 e μ=(dD e μ).seq fF:=rfl
theorem lE(e:Slots)(μ:af):fF e μ=(dE e μ).seq fE:=rfl
theorem lF(e:Slots)(μ:af):fE e μ=(dF e μ).seq fD:=rfl
theorem lG(e:Slots)(μ:af):fD e μ=(dG e μ).seq fC:=rfl
theorem lH(e:Slots)(μ:af):fC e μ=(dH e μ).seq fB:=rfl
theorem lI(e:Slots)(μ:af):fB e μ=dI e μ:=rfl
def bY:FN:=fnV 14 gS
def gT:DS :=
 (aq (Az [3,4,5] (aa 0))
 (aq (sIf (dOr (gh (dIs .tuple (aa 2))) (ah fNe (cS (aa 2)) (aa 4))) (aH (dC (.bl false))) bB)
 (aq (bE (bD (aa 2)) (av 6) (aq (sIf (dOr (gh (dIs .tuple (aa 6))) (ah fNe (cS (aa 6)) (aa 4))) (aH (dC (.bl false))) bB)
 (sIf (ah fIn (dC (.bl false)) (aW (bD (aa 6)) [none,some 3] (av 0) (dC (.bl true)) (ax (cal aN) [(aa 1),(aa 0)]))) (aH (dC (.bl false))) bB)))
 (aq (bE (bD (ax (cal bR) [(aa 0),(aa 1)])) (cT [7,8]) (aq (aC 9 (dC (.int 0)))
 (aq (aC 10 (ao (ao (aa 5) (aa 7)) (dC (.int 1))))
 (aq (aC 11 (ao (ao (aa 5) (aa 8)) (dC (.int 1))))
 (aq (bE (aK (aa 4)) (av 12) (aC 9 (ah bx (aa 9) (ah aG (ao (aa 10) (aa 12)) (dUn qE (aW (aK (aa 4)) [none,some 11,some 2,some 12] (av 0) (dC (.bl true)) (ah aG (ao (ao (aa 2) (aa 3)) (aa 0)) (ao (aa 1) (aa 0)))))))))
 (sIf (ah fNe (ah bg (aa 9) (aa 3)) (dC (.int 0))) (aH (dC (.bl false))) bB))))))
 (aH (ah fEq (ao (ao (aa 2) (dC (.int 0))) (dC (.int 0))) (dC (.int 1))))))))
def dJ:DS:=(Az [3,4,5] (aa 0))
def dM:DS:=(sIf (dOr (gh (dIs .tuple (aa 2))) (ah fNe (cS (aa 2)) (aa 4))) (aH (dC (.bl false))) bB)
def dN:DS:=(bE (bD (aa 2)) (av 6) (aq (sIf (dOr (gh (dIs .tuple (aa 6))) (ah fNe (cS (aa 6)) (aa 4))) (aH (dC (.bl false))) bB)
 (sIf (ah fIn (dC (.bl false)) (aW (bD (aa 6)) [none,some 3] (av 0) (dC (.bl true)) (ax (cal aN) [(aa 1),(aa 0)]))) (aH (dC (.bl false))) bB)))
def dO:DS:=(bE (bD (ax (cal bR) [(aa 0),(aa 1)])) (cT [7,8]) (aq (aC 9 (dC (.int 0)))
 (aq (aC 10 (ao (ao (aa 5) (aa 7)) (dC (.int 1))))
 (aq (aC 11 (ao (ao (aa 5) (aa 8)) (dC (.int 1))))
 (aq (bE (aK (aa 4)) (av 12) (aC 9 (ah bx (aa 9) (ah aG (ao (aa 10) (aa 12)) (dUn qE (aW (aK (aa 4)) [none,some 11,some 2,some 12] (av 0) (dC (.bl true)) (ah aG (ao (ao (aa 2) (aa 3)) (aa 0)) (ao (aa 1) (aa 0)))))))))
 (sIf (ah fNe (ah bg (aa 9) (aa 3)) (dC (.int 0))) (aH (dC (.bl false))) bB))))))
def dP:DS:=(aH (ah fEq (ao (ao (aa 2) (dC (.int 0))) (dC (.int 0))) (dC (.int 1))))
def fG:DS:=dP
def fH:DS:=aq dO fG
def fI:DS:=aq dN fH
def fJ:DS:=aq dM fI
def i6:DS:=aq dJ fJ
theorem oa:gT=i6:=rfl
theorem lJ(e:Slots)(μ:af):i6 e μ=(dJ e μ).seq fJ:=rfl
theorem lK(e:Slots)(μ:af):fJ e μ=(dM e μ).seq fI:=rfl
theorem lL(e:Slots)(μ:af):fI e μ=(dN e μ).seq fH:=rfl
theorem lM(e:Slots)(μ:af):fH e μ=(dO e μ).seq fG:=rfl
theorem lN(e:Slots)(μ:af):fG e μ=dP e μ:=rfl
def bZ:FN:=fnV 13 gT
def gU:DS :=
 (aq (sIf (dOr (gh (dIs .tuple (aa 2))) (ah fNe (cS (aa 2)) (dC (.int 2)))) (aH (dC (.bl false))) bB)
 (aq (sIf (ah fEq (ao (aa 2) (dC (.int 0))) (dC (.str "open"))) (aH (ax (cal bY) [(aa 0),(aa 1),(ao (aa 2) (dC (.int 1)))])) bB)
 (aH (mV (ah fEq (ao (aa 2) (dC (.int 0))) (dC (.str "shut"))) (ax (cal bZ) [(aa 0),(aa 1),(ao (aa 2) (dC (.int 1)))])))))
def dQ:DS:=(sIf (dOr (gh (dIs .tuple (aa 2))) (ah fNe (cS (aa 2)) (dC (.int 2)))) (aH (dC (.bl false))) bB)
def dR:DS:=(sIf (ah fEq (ao (aa 2) (dC (.int 0))) (dC (.str "open"))) (aH (ax (cal bY) [(aa 0),(aa 1),(ao (aa 2) (dC (.int 1)))])) bB)
def fK:DS:=(aH (mV (ah fEq (ao (aa 2) (dC (.int 0))) (dC (.str "shut"))) (ax (cal bZ) [(aa 0),(aa 1),(ao (aa 2) (dC (.int 1)))])))
def fL:DS:=fK
def fM:DS:=aq dR fL
def i7:DS:=aq dQ fM
theorem i8:gU=i7:=rfl
theorem gx(e:Slots)(μ:af):i7 e μ=(dQ e μ).seq fM:=rfl
theorem gy(e:Slots)(μ:af):fM e μ=(dR e μ).seq fL:=rfl
theorem lO(e:Slots)(μ:af):fL e μ=fK e μ:=rfl
def aZ:FN:=fnV 3 gU
def DG:DS :=
 (aq (aC 1 (ah bx (dC (.int 1)) (ah bg (ax (cal aE) [(aa 0),(dC (.int 1))]) (dC (.int 9)))))
 (aq (aC 2 (ah bx (dC (.int 1)) (ah bg (ax (cal aE) [(aa 0),(dC (.int 2))]) (ah Gg (dC (.int 3)) (aa 1)))))
 (aq (aC 3 (ao (aW (bD (eK [(dC (.int 2)),(dC (.int 3)),(dC (.int 5)),(dC (.int 7)),(dC (.int 11)),(dC (.int 13)),(dC (.int 97)),(dC (.int 53))])) [none,some 1] (av 0) (ah fGt (aa 0) (aa 1)) (aa 0)) (ah bg (ax (cal aE) [(aa 0),(dC (.int 3))]) (dC (.int 3)))))
 (aq (aC 4 (bG (dUn Gk (dC (.int 10)))))
 (aq (aC 5 (aW (bD (ax (cal fe) [(aa 0),(dC (.int 4)),(dC (.int 10)),(aa 1)])) [none,some 4] (av 0) (dC (.bl true)) (tG (aa 1) (ah bg (aa 0) (cS (aa 1))))))
 (aq (aC 6 (ax (cal fw) [(aa 3),(ee [(dC (.str "some")),(aa 2),(dUn cH (aW (bD (aa 5)) [none] (av 0) (dC (.bl true)) (ee [(dC (.str "hand")),(aa 0)])))])]))
 (aq (aC 7 (ah bg (ax (cal aE) [(aa 0),(dC (.int 5))]) (aa 1)))
 (aq (bE (aK (ah bx (aa 1) (dC (.int 1)))) (av 8) (aq (aC 9 (ah bx (dm (aa 5) (some (aa 7)) none) (dm (aa 5) none (some (aa 7)))))
 (aq (aC 10 (dUn mx (ah bx (dm (aa 9) none (some (aa 8))) (dm (aa 4) none (some (ah bg (ax (cal aE) [(aa 0),(dC (.int 6))]) (dC (.int 3))))))))
 (aq (aC 11 (ax (cal ck) [(aa 6),(aa 10)]))
 (aq (sIf (gh (ax (cal aZ) [(aa 6),(aa 10),(aa 11)])) (aH (dC (.bl false))) bB)
 (sIf (ah fNe (ah fEq (ao (aa 11) (dC (.int 0))) (dC (.str "open"))) (ah fGe (aa 8) (ah o7 (ah aG (dC (.int 2)) (aa 2)) (dC (.int 1))))) (aH (dC (.bl false))) bB))))))
 (aH (dC (.bl true)))))))))))
def xv:DS:=(aC 1 (ah bx (dC (.int 1)) (ah bg (ax (cal aE) [(aa 0),(dC (.int 1))]) (dC (.int 9)))))
def xw:DS:=(aC 2 (ah bx (dC (.int 1)) (ah bg (ax (cal aE) [(aa 0),(dC (.int 2))]) (ah Gg (dC (.int 3)) (aa 1)))))
def tZ:DS:=(aC 3 (ao (aW (bD (eK [(dC (.int 2)),(dC (.int 3)),(dC (.int 5)),(dC (.int 7)),(dC (.int 11)),(dC (.int 13)),(dC (.int 97)),(dC (.int 53))])) [none,some 1] (av 0) (ah fGt (aa 0) (aa 1)) (aa 0)) (ah bg (ax (cal aE) [(aa 0),(dC (.int 3))]) (dC (.int 3)))))
def xx:DS:=(aC 4 (bG (dUn Gk (dC (.int 10)))))
def xy:DS:=(aC 5 (aW (bD (ax (cal fe) [(aa 0),(dC (.int 4)),(dC (.int 10)),(aa 1)])) [none,some 4] (av 0) (dC (.bl true)) (tG (aa 1) (ah bg (aa 0) (cS (aa 1))))))
def xA:DS:=(aC 6 (ax (cal fw) [(aa 3),(ee [(dC (.str "some")),(aa 2),(dUn cH (aW (bD (aa 5)) [none] (av 0) (dC (.bl true)) (ee [(dC (.str "hand")),(aa 0)])))])]))
def xB:DS:=(aC 7 (ah bg (ax (cal aE) [(aa 0),(dC (.int 5))]) (aa 1)))
def xC:DS:=(bE (aK (ah bx (aa 1) (dC (.int 1)))) (av 8) (aq (aC 9 (ah bx (dm (aa 5) (some (aa 7)) none) (dm (aa 5) none (some (aa 7)))))
 (aq (aC 10 (dUn mx (ah bx (dm (aa 9) none (some (aa 8))) (dm (aa 4) none (some (ah bg (ax (cal aE) [(aa 0),(dC (.int 6))]) (dC (.int 3))))))))
 (aq (aC 11 (ax (cal ck) [(aa 6),(aa 10)]))
 (aq (sIf (gh (ax (cal aZ) [(aa 6),(aa 10),(aa 11)])) (aH (dC (.bl false))) bB)
 (sIf (ah fNe (ah fEq (ao (aa 11) (dC (.int 0))) (dC (.str "open"))) (ah fGe (aa 8) (ah o7 (ah aG (dC (.int 2)) (aa 2)) (dC (.int 1))))) (aH (dC (.bl false))) bB))))))
def xD:DS:=(aH (dC (.bl true)))
def xE:DS:=xD
def xF:DS:=aq xC xE
def xG:DS:=aq xB xF
def xH:DS:=aq xA xG
def xI:DS:=aq xy xH
def xJ:DS:=aq xx xI
def xK:DS:=aq tZ xJ
def xM:DS:=aq xw xK
def DH:DS:=aq xv xM
theorem JY:DG=DH:=rfl
theorem Bd(e:Slots)(μ:af):DH e μ=(xv e μ).seq xM:=rfl
theorem Be(e:Slots)(μ:af):xM e μ=(xw e μ).seq xK:=rfl
theorem Bf(e:Slots)(μ:af):xK e μ=(tZ e μ).seq xJ:=rfl
theorem Bg(e:Slots)(μ:af):xJ e μ=(xx e μ).seq xI:=rfl
theorem Bh(e:Slots)(μ:af):xI e μ=(xy e μ).seq xH:=rfl
theorem Bj(e:Slots)(μ:af):xH e μ=(xA e μ).seq xG:=rfl
theorem Bk(e:Slots)(μ:af):xG e μ=(xB e μ).seq xF:=rfl
theorem Bl(e:Slots)(μ:af):xF e μ=(xC e μ).seq xE:=rfl
theorem Bm(e:Slots)(μ:af):xE e μ=xD e μ:=rfl
def ny:FN:=fnV 12 DG
end Fw.k63
section
set_option maxHeartbeats 4000000
namespace Fw.k63
open PySem L2 Fw
seal Fw.CE Fw.CT Fw.CA Fw.CS Fw.CSs Fw.CI Fw.CB Fw.CF Fw.CW Fw.CO L2.ja
noncomputable def top (i : Nat) : Stmt := PySem.Challenge.pw_fewopen_k63_any_so_many_hands.main.body.getD i (.Pass ⟨0, 0, 0, 0⟩)
abbrev xN:Stmt:=top 5
abbrev oM:Stmt:=top 7
abbrev oN:Stmt:=top 8
abbrev h8:Stmt:=top 9
abbrev t4:Stmt:=top 10
abbrev fU:Stmt:=top 11
abbrev xO:Stmt:=top 12
abbrev xP:Stmt:=top 13
abbrev nz:Stmt:=top 15
abbrev j8:Stmt:=top 18
abbrev iS:Stmt:=top 19
abbrev eF:Stmt:=top 20
abbrev fV:Stmt:=top 21
abbrev h_:Stmt:=top 22
abbrev jI:Stmt:=top 23
abbrev lP:Stmt:=top 24
abbrev fg:Stmt:=top 26
abbrev dS:Stmt:=top 30
abbrev j9:Stmt:=top 31
abbrev j_:Stmt:=top 32
abbrev gz:Stmt:=top 33
abbrev gA:Stmt:=top 35
abbrev iT:Stmt:=top 36
abbrev eG:Stmt:=top 40
abbrev eV:Stmt:=top 41
abbrev bz:Stmt:=top 42
abbrev cm:Stmt:=top 43
abbrev eI:Stmt:=top 44
abbrev nM:Stmt:=top 45
structure Tx(K:PySem.W.Frag)(mg:Str->Option Value):Prop where
 Mt:mg "any"=none
 JZ:mg "bool"=none
 nN:mg "enumerate"=none
 HJ:mg "int"=none
 cK:mg "isinstance"=none
 gB:mg "len"=none
 t5:mg "list"=none
 Mu:mg "max"=none
 Mv:mg "min"=none
 cy:mg "range"=none
 Mw:mg "set"=none
 DJ:mg "sorted"=none
 HK:mg "sum"=none
 dU:mg "tuple"=none
 HL:mg "zip"=none
 vA:∃tk,mg "MOST_ROWS"=some (.int 12 tk)
 mG:∃tk,mg "MOST_WIDE_mixes"=some (.int 5 tk)
 lQ:∃tk,mg "MOST_WIDE_tables"=some (.int 12 tk)
abbrev n0:List Str:=["entry","p","number"]
abbrev n1:List Str:=["p","number","row"]
abbrev n2:List Str:=["entry","other","p","number"]
abbrev n3:List Str:=["p","row","lead","place","number"]
abbrev n4:List Str:=["line","p","place"]
abbrev n5:List Str:=["p","lines","place"]
abbrev n6:List Str:=["number","row","hands"]
abbrev n7:List Str:=["table","hands"]
abbrev n8:List Str:=["inner"]
abbrev n9:List Str:=["rule"]
abbrev n10:List Str:=["inner","p"]
abbrev n11:List Str:=["p","rule"]
abbrev n12:List Str:=["place"]
abbrev n13:List Str:=["wide"]
abbrev n14:List Str:=["j","i","rows"]
abbrev n15:List Str:=["rows","numbers","pairs","i"]
abbrev n16:List Str:=["right","left"]
abbrev n17:List Str:=["one","other","line","left"]
abbrev n18:List Str:=["place","line","wide"]
abbrev n19:List Str:=["wide","line"]
abbrev n20:List Str:=["i","j","rows"]
abbrev n21:List Str:=["table","hands","wide","rows","numbers","pairs","lines","found"]
abbrev n22:List Str:=["pair","number"]
abbrev n23:List Str:=["_law_k","_law_hands_here","_law_table_here"]
abbrev n24:List Str:=["_law_table_here","_law_hands_here","_law_rows","_law_found","_law_i"]
abbrev n25:List Str:=["_law_j","_law_i","_law_table_here"]
abbrev n26:List Str:=["_law_one"]
abbrev n27:List Str:=["_law_table_here","_law_hands_here","_law_some","_law_p","_law_wide","_law_rows","_law_pairs_here","_law_total","_law_one","_law_first","_law_second","_law_a","_law_b","_law_more"]
abbrev n28:List Str:=["_law_a","_law_wide"]
abbrev n29:List Str:=["_law_b","_law_a"]
abbrev n30:List Str:=["_law_one","_law_p"]
abbrev n31:List Str:=["_law_table_here","_law_hands_here","_law_form","_law_p","_law_wide","_law_rows","_law_line","_law_i","_law_j","_law_total","_law_first","_law_second","_law_a"]
abbrev n32:List Str:=["_law_b","_law_second","_law_form","_law_a"]
abbrev n33:List Str:=["_law_q","_law_many"]
abbrev n34:List Str:=["_law_script","_law_many","_law_k","_law_p","_law_free","_law_chosen","_law_table_here","_law_turn","_law_size","_law_some","_law_hands_here","_law_found"]
abbrev n35:List Str:=["_law_one","_law_free"]
abbrev n36:List Str:=["_law_hand"]
abbrev n37:List Str:=["p","one","other"]
abbrev n38:List Str:=["p","row","lead","place"]
abbrev n39:List Str:=["row","many"]
abbrev n40:List Str:=["p","rows","many"]
abbrev n41:List Str:=["width","place"]
abbrev n42:List Str:=["p","width","lines","wished"]
abbrev n43:List Str:=["some"]
abbrev n44:List Str:=["p","line","first","many","number"]
abbrev n45:List Str:=["p","rule","line","unused"]
abbrev n46:List Str:=["rows","numbers"]
abbrev n47:List Str:=["one","other"]
abbrev n48:List Str:=["_law_script","_law_k"]
abbrev n49:List Str:=["_law_script","_law_at","_law_base","_law_many"]
abbrev n50:List Str:=["_law_table_here","_law_hands_here"]
abbrev n51:List Str:=["_law_p","_law_one"]
abbrev n52:List Str:=["_law_table_here","_law_hands_here","_law_some"]
abbrev n53:List Str:=["_law_table_here","_law_hands_here","_law_form"]
abbrev n54:List Str:=["_law_table_here","_law_hands_here","_law_found"]
abbrev n55:List Str:=["_law_script"]
abbrev n56:List Str:=["p","one","other","rest","told"]
abbrev n57:List Str:=["row","many","place"]
abbrev n58:List Str:=["p","rows","many","leads","noughts","row","rest","place","lead","found","fresh"]
abbrev n59:List Str:=["width","place","row"]
abbrev n60:List Str:=["p","width","lines","wished","many","rows","place","parted","row","multipliers","lead"]
abbrev n61:List Str:=["p","line","first","many","number","fresh","power","place"]
abbrev n62:List Str:=["p","rule","line","unused","many","rows","inner_unused","number","inner"]
abbrev n63:List Str:=["p","rule","wide"]
abbrev n64:List Str:=["_law_script","_law_at","_law_base","_law_many","_law_number","_law_found","_law_k"]
abbrev d0:FuncData:=PySem.W.fnOf "" "" (gG nM) [] (ar nM) .none .none .none .none none .none .none
structure Zc where
 P:Program
 w:World
 K:PySem.W.Frag
 mg:Str->Option Value
 base:Heap
 A:List Addr
 D:List FuncData
abbrev Zg(Z:Zc)(x:Str)(st:Stmt)(ps:List Str)(i:Nat):Prop:=Gf Z.K Z.mg x st ps (Z.A.getD i 0) (Z.D.getD i d0)
structure Mo(Z:Zc):Prop extends Tx Z.K Z.mg where
 xQ:Zg Z "over" xN n37 0
 t6:Zg Z "times" oM n1 1
 t7:Zg Z "freed" oN n38 2
 kI:Zg Z "first_place" h8 n39 3
 zi:Zg Z "eased" t4 n40 4
 mH:Zg Z "numbers_at" fU n5 5
 DK:Zg Z "unit" xO n41 6
 DL:Zg Z "held" xP n42 7
 ka:Zg Z "is_hand" nz n9 8
 rR:Zg Z "rows_of" j8 n7 9
 iU:Zg Z "own_places" iS n43 10
 eJ:Zg Z "places_taken" eF n9 11
 iV:Zg Z "is_crowded" fV n11 12
 kJ:Zg Z "with_powers" h_ n44 13
 jJ:Zg Z "rows_made" jI n45 14
 qd:Zg Z "table_of" lP n11 15
 kK:Zg Z "hidden_line" fg n13 16
 i9:Zg Z "pairs_of_rows" dS n46 17
 rS:Zg Z "crossed" j9 n47 18
 rT:Zg Z "as_form" j_ n19 19
 qe:Zg Z "products" gz n7 20
 bK:Zg Z "_law_cell_at" gA n48 21
 mI:Zg Z "_law_drawn" iT n49 22
 iW:Zg Z "_law_pairs" eG n50 23
 eW:Zg Z "_law_is_number" eV n51 24
 gW:Zg Z "_law_open_right" bz n52 25
 gX:Zg Z "_law_shut_right" cm n53 26
 gY:Zg Z "_law_told_right" eI n54 27
 Mx:Zg Z "law" nM n55 28
abbrev Ok(Z:Zc)(r i:Nat)(ps:List Str)(f:FN):Prop:=kj Z.P Z.w Z.K Z.mg Z.base CX0 r (Z.A.getD i 0) (Z.D.getD i d0) ps (spD Z.K f ps.length)
section
variable{Z:Zc}
theorem mJ:aU n56 n37 (ar xN):=fsc
theorem vB(M:Mo Z):Ok Z 1 0 n37 tX :=
 cg .V M.xQ.F mJ λcdv A outer s H E hr=>(ai (aJ 3 mJ.nd (bO (ae 2) (ae 0)))
 (ai (cA (my hr (ae 3) ak) (au sY) bp)
 (ai (aJ 4 mJ.nd (bO (ae 1) (ae 0)))
 (ai (Cw PassesOwn.never (jv hr (ae 3) ak) (ai (aJ 4 mJ.nd (bO (b7 (JB (ae 4)) (pQ (ae 0) (ae 3))) (ae 0)))
 (au (aJ 3 mJ.nd (bO (ae 0) (ae 3))))))
 (au (aL (ae 4)))))))
theorem DM:aU n1 n1 (ar oM):=fsc
theorem rV(M:Mo Z):Ok Z 1 1 n1 pZ :=
 cg .V M.t6.F DM λcdv A outer s H E hr=>(au (aL (CF.ce (bN (N':=n0) rfl (aD (ar oM) rfl n1 rfl (by decide +kernel)) rfl (aS rfl) (b5 (ae 2)) (λ_ _ _ _ _=>(aR 0 (show n0.Nodup by decide +kernel))) (λ_ _ _ _ _=>bw) (λ_ _ _ _ _=>(bO (b7 (ae 2) (ae 0)) (ae 1)))))))
theorem vC:aU n3 n38 (ar oN):=fsc
theorem rW(M:Mo Z):Ok Z 1 2 n38 p3 :=
 cg .V M.t7.F vC λcdv A outer s H E hr=>(ai (aJ 4 vC.nd (ay (ae 1) (ae 3)))
 (ai (cA (my hr (ae 4) ak) (au (aL (ae 1))) bp)
 (au (aL (CF.ce (bN (N':=n2) rfl (aD (ar oN) rfl n3 rfl (by decide +kernel)) rfl (gN rfl rfl) (Dh M.HL (ae 1) (ae 2)) (λ_ _ _ _ _=>(gM 0 1 (show n2.Nodup by decide +kernel) rfl)) (λ_ _ _ _ _=>bw) (λ_ _ _ _ _=>(bO (tI (ae 0) (b7 (ae 3) (ae 1))) (ae 2)))))))))
theorem jK:aU n57 n39 (ar h8):=fsc
theorem og(M:Mo Z):Ok Z 1 3 n39 jA :=
 cg .V M.kI.F jK λcdv A outer s H E hr=>(ai (cB PassesOwn.never rfl (bL M.cy (ae 1)) (aR 2 jK.nd) (au (cA (jv hr (ay (ae 0) (ae 2)) ak) (au (aL (ae 2))) bp)))
 (au (aL Cr)))
theorem dA:aU n58 n40 (ar t4):=fsc
theorem Bo(M:Mo Z):Ok Z 2 4 n40 vx :=
 cg .V M.zi.F dA λcdv A outer s H E hr=>(ai (aJ 3 dA.nd (CF.cell JF))
 (ai (aJ 4 dA.nd (CF.cell (gm aw)))
 (ai (cB PassesOwn.never rfl (b5 (ae 1)) (aR 5 dA.nd) (ai (aJ 6 dA.nd (ae 5))
 (ai (cB PassesOwn.never rfl (vh (ae 3)) (gM 7 8 dA.nd rfl) (au (aJ 6 dA.nd (cc (rW M) hr M.t7 (ag (ae 0) (ag (ae 6) (ag (ae 8) (ag (ae 7) aw))))))))
 (ai (aJ 9 dA.nd (cc (og M) hr M.kI (ag (ae 6) (ag (ae 2) aw))))
 (au (cA (JK (ae 9)) (au (j4 (ae 4) (ae 6))) (ai (aJ 10 dA.nd (cc (rV M) hr M.t6 (ag (ae 0) (ag (cc (vB M) hr M.xQ (ag (ae 0) (ag ak (ag (ay (ae 6) (ae 9)) aw)))) (ag (ae 6) aw)))))
 (ai (cB PassesOwn.never rfl (b5 (CF.ce (Dl M.t5 (ae 3)))) (aR 7 dA.nd) (au (yV hr 3 (ae 7) (cc (rW M) hr M.t7 (ag (ae 0) (ag (GB hr (ae 3) (ae 7)) (ag (ae 10) (ag (ae 9) aw))))))))
 (au (yV hr 3 (ae 9) (ae 10)))))))))))
 (au (aL (hG (ag (ae 3) (ag (ae 4) aw))))))))
theorem qQ:aU n5 n5 (ar fU):=fsc
theorem qf(M:Mo Z):Ok Z 1 5 n5 kG :=
 cg .V M.mH.F qQ λcdv A outer s H E hr=>(au (aL (CF.ce (bN (N':=n4) rfl (aD (ar fU) rfl n5 rfl (by decide +kernel)) rfl (aS rfl) (b5 (ae 1)) (λ_ _ _ _ _=>(aR 0 (show n4.Nodup by decide +kernel))) (λ_ _ _ _ _=>bw) (λ_ _ _ _ _=>(bO (ay (ae 0) (ae 2)) (ae 1)))))))
theorem zj:aU n59 n41 (ar xO):=fsc
theorem DN(M:Mo Z):Ok Z 1 6 n41 zh :=
 cg .V M.DK.F zj λcdv A outer s H E hr=>(ai (aJ 2 zj.nd (CF.cell (tO (ag ak aw) (ae 0))))
 (ai (k9 2 (ae 1) ak)
 (au (aL (ae 2)))))
theorem gZ:aU n60 n42 (ar xP):=fsc
theorem DO(M:Mo Z):Ok Z 3 7 n42 j7 :=
 cg .V M.DL.F gZ λcdv A outer s H E hr=>(ai (aJ 4 gZ.nd (eD M.gB (ae 2)))
 (ai (aJ 5 gZ.nd (CF.cell (gm aw)))
 (ai (cB PassesOwn.never rfl (bL M.cy (ae 1)) (aR 6 gZ.nd) (au (j4 (ae 5) (b6 (b6 (cc (qf M) hr M.mH (ag (ae 0) (ag (ae 2) (ag (ae 6) aw)))) (CF.ce (gm (ag (bO (ay (ae 3) (ae 6)) (ae 0)) aw)))) (cc (DN M) hr M.DK (ag (ae 1) (ag (ae 6) aw)))))))
 (ai (aJ 7 gZ.nd (cc (Bo M) hr M.zi (ag (ae 0) (ag (ae 5) (ag (ae 4) aw)))))
 (ai (cB PassesOwn.never rfl (b5 (ay (ae 7) ak)) (aR 8 gZ.nd) (au (cA (jv hr (ay (ae 8) (ae 4)) ak) (au (aL (Ct (ag gk (ag (fq M.dU (cc (rV M) hr M.t6 (ag (ae 0) (ag (cc (vB M) hr M.xQ (ag (ae 0) (ag ak (ag (ay (ae 8) (ae 4)) aw)))) (ag (JI (ae 8) (fT (b6 (ae 4) ak)) iL) aw))))) aw))))) bp)))
 (ai (aJ 9 gZ.nd (CF.cell (tO (ag ak aw) (ae 4))))
 (ai (cB PassesOwn.never rfl (vh (ay (ae 7) ak)) (gM 6 10 gZ.nd rfl) (au (k9 9 (ae 6) (ay (ae 10) (ae 4)))))
 (au (aL (Ct (ag gk (ag (ae 9) aw))))))))))))
theorem xR:aU n9 n9 (ar nz):=fsc
theorem jL(M:Mo Z):Ok Z 1 8 n9 bM :=
 cg .V M.ka.F xR λcdv A outer s H E hr=>(au (aL (rJ hr (ay (ae 0) ak) gk)))
theorem xS:aU n7 n7 (ar j8):=fsc
theorem vD(M:Mo Z):Ok Z 1 9 n7 dX :=
 cg .V M.rR.F xS λcdv A outer s H E hr=>(au (aL (CF.ce (bN (N':=n6) rfl (aD (ar j8) rfl n7 rfl (by decide +kernel)) rfl (gN rfl rfl) (GG M.nN (ay (ae 0) ak)) (λ_ _ _ _ _=>(gM 0 1 (show n6.Nodup by decide +kernel) rfl)) (λ_ _ _ _ _=>(fZ (Dp hr (ay (ae 1) ak) (ae 2)))) (λ_ _ _ _ _=>(ae 0))))))
theorem qR:aU n43 n43 (ar iS):=fsc
theorem jM(M:Mo Z):Ok Z 1 10 n43 cQ :=
 cg .V M.iU.F qR λcdv A outer s H E hr=>(au (aL (JM M.Mu (tI (ay (ae 0) ak) ak) ak)))
theorem oh:aU n9 n9 (ar eF):=fsc
theorem eX(M:Mo Z) :
  ∀n,Ok Z (1+n) 11 n9 (ba n)
 | 0=>tj.mono (Nat.zero_le _)
 | n+1=>by
  have oi:=eX M n
  exact cg .V M.eJ.F oh λcdv A outer s H E hr=>(ai (cA (gp (cc (jL M) hr M.ka (ag (ae 0) aw))) (au (aL ak)) bp)
 (au (aL (b6 (cc (jM M) hr M.iU (ag (ae 0) aw)) (Dc hr M.HK (CF.ce (bN (N':=n8) rfl (aD (ar eF) rfl n9 rfl (by decide +kernel)) rfl (aS rfl) (b5 (ay (ae 0) ak)) (λ_ _ _ _ _=>(aR 0 (show n8.Nodup by decide +kernel))) (λ_ _ _ _ _=>bw) (λ_ _ _ _ _=>(cc oi hr M.eJ (ag (ae 0) aw))))))))))
theorem qS:aU n11 n11 (ar fV):=fsc
theorem jN(M:Mo Z) :
  ∀n,Ok Z (1+n) 12 n11 (bo n)
 | 0=>tj.mono (Nat.zero_le _)
 | n+1=>by
  have qT:=jN M n
  exact cg .V M.iV.F qS λcdv A outer s H E hr=>(ai (cA (gp (cc (jL M) hr M.ka (ag (ae 1) aw))) (au (aL gL)) bp)
 (ai (cA (CW.ct (Jq (vb (ay (ae 1) ak) ak) (wK (Mc (eD M.gB (ay (ae 1) ak)) (ae 0))))) (au (aL gL)) bp)
 (au (aL (JE hr M.Mt (CF.ce (bN (N':=n10) rfl (aD (ar fV) rfl n11 rfl (by decide +kernel)) rfl (aS rfl) (b5 (ay (ae 1) ak)) (λ_ _ _ _ _=>(aR 0 (show n10.Nodup by decide +kernel))) (λ_ _ _ _ _=>bw) (λ_ _ _ _ _=>(cc qT hr M.iV (ag (ae 1) (ag (ae 0) aw)))))))))))
theorem cZ:aU n61 n44 (ar h_):=fsc
theorem oj(M:Mo Z):Ok Z 1 13 n44 cY :=
 cg .V M.kJ.F cZ λcdv A outer s H E hr=>(ai (aJ 5 cZ.nd (CF.cell (Gv M.t5 (ae 1))))
 (ai (aJ 6 cZ.nd ak)
 (ai (cB PassesOwn.never rfl (Ap M.cy (ae 2) (b6 (ae 2) (ae 3))) (aR 7 cZ.nd) (ai (aJ 6 cZ.nd (bO (b7 (ae 6) (ae 4)) (ae 0)))
 (au (k9 5 (ae 7) (ae 6)))))
 (au (aL (ae 5))))))
theorem dg:aU n62 n45 (ar jI):=fsc
theorem kL(M:Mo Z) :
  ∀n,Ok Z (9+n) 14 n45 (bq n)
 | 0=>tj.mono (Nat.zero_le _)
 | n+1=>by
  have t8:=kL M n
  exact cg .V M.jJ.F dg λcdv A outer s H E hr=>(ai (cA (gp (cc (jL M) hr M.ka (ag (ae 1) aw))) (au (aL (CF.ce (gm (ag (hG (ag (ay (ae 1) ak) (ag (fq M.dU (ae 2)) aw)) (hl:=Nat.le_of_ble_eq_true rfl)) aw))))) bp)
 (ai (aJ 4 dg.nd (cc (jM M) hr M.iU (ag (ae 1) aw)))
 (ai (aJ 5 dg.nd (CF.cell (gm aw)))
 (ai (aJ 6 dg.nd (b6 (ae 3) (ae 4)))
 (ai (cB PassesOwn.never rfl (Dy M.nN (ay (ae 1) ak)) (gM 7 8 dg.nd rfl) (ai (xh (ae 5) (cc t8 hr M.jJ (ag (ae 0) (ag (ae 8) (ag (cc (oj M) hr M.kJ (ag (ae 0) (ag (ae 2) (ag (ae 3) (ag (ae 4) (ag (ae 7) aw)))))) (ag (ae 6) aw))))))
 (au (aJ 6 dg.nd (b6 (ae 6) (cc (eX M 8) hr M.eJ (ag (ae 8) aw)))))))
 (au (aL (ae 5))))))))
theorem nO:aU n63 n11 (ar lP):=fsc
theorem t9(M:Mo Z):Ok Z 18 15 n11 fw :=
 cg .V M.qd.F nO λcdv A outer s H E hr=>(ai (aJ 2 nO.nd (b6 ak (cc (eX M 8) hr M.eJ (ag (ae 1) aw))))
 (ai (cA (vb (ae 2) (sW M.lQ.choose_spec)) (au sY) bp)
 (ai (cA (gp (cc (jN M 8) hr M.iV (ag (ae 0) (ag (ae 1) aw)))) (au sY) bp)
 (au (aL (hG (ag (ae 0) (ag (ae 2) (ag (fq M.dU (cc (kL M 8) hr M.jJ (ag (ae 0) (ag (ae 1) (ag (b6 (CF.ce (gm (ag ak aw))) (CF.ce (tO (ag ak aw) (tI (ae 2) ak)))) (ag ak aw)))))) aw)))))))))
theorem qg:aU n13 n13 (ar fg):=fsc
theorem om(M:Mo Z):Ok Z 1 16 n13 bX :=
 cg .V M.kK.F qg λcdv A outer s H E hr=>(au (aL (fq M.dU (CF.ce (bN (N':=n12) rfl (aD (ar fg) rfl n13 rfl (by decide +kernel)) rfl (aS rfl) (bL M.cy (ae 0)) (λ_ _ _ _ _=>(aR 0 (show n12.Nodup by decide +kernel))) (λ_ _ _ _ _=>bw) (λ_ _ _ _ _=>(Js (my hr (ae 0) ak) ak ak)))))))
theorem eY:aU n15 n46 (ar dS):=fsc
theorem mK(M:Mo Z):Ok Z 1 17 n46 cE :=
 cg .V M.i9.F eY λcdv A outer s H E hr=>(ai (aJ 2 eY.nd (CF.cell (gm aw)))
 (ai (cB PassesOwn.never rfl (b5 (ae 1)) (aR 3 eY.nd) (au (ni (ae 2) (bN (N':=n14) rfl (aD (ar dS) rfl n15 rfl (by decide +kernel)) rfl (aS rfl) (b5 (ae 1)) (λ_ _ _ _ _=>(aR 0 (show n14.Nodup by decide +kernel))) (λ_ _ _ _ _=>(fZ (my hr (ay (ay (ae 2) (ae 0)) ak) (ay (ay (ae 2) (ae 1)) ak)))) (λ_ _ _ _ _=>(hG (ag (ae 1) (ag (ae 0) aw))))))))
 (au (aL (ae 2)))))
theorem lR:aU n17 n47 (ar j9):=fsc
theorem vE(M:Mo Z):Ok Z 1 18 n47 eU :=
 cg .V M.rS.F lR λcdv A outer s H E hr=>(ai (aJ 2 lR.nd (CF.cell (gm aw)))
 (ai (cB PassesOwn.never rfl (b5 (ae 0)) (aR 3 lR.nd) (au (ni (ae 2) (bN (N':=n16) rfl (aD (ar j9) rfl n17 rfl (by decide +kernel)) rfl (aS rfl) (b5 (ae 1)) (λ_ _ _ _ _=>(aR 0 (show n16.Nodup by decide +kernel))) (λ_ _ _ _ _=>bw) (λ_ _ _ _ _=>(b7 (ae 1) (ae 0)))))))
 (au (aL (fq M.dU (ae 2))))))
theorem xT:aU n19 n19 (ar j_):=fsc
theorem vF(M:Mo Z):Ok Z 1 19 n19 gw :=
 cg .V M.rT.F xT λcdv A outer s H E hr=>(au (aL (fq M.dU (CF.ce (bN (N':=n18) rfl (aD (ar j_) rfl n19 rfl (by decide +kernel)) rfl (aS rfl) (bL M.cy (ae 0)) (λ_ _ _ _ _=>(aR 0 (show n18.Nodup by decide +kernel))) (λ_ _ _ _ _=>bw) (λ_ _ _ _ _=>(fq M.dU (iM (ae 1) (fT (b7 (ae 2) (ae 0))) (fT (b7 (ae 2) (b6 (ae 0) ak)))))))))))
theorem c8:aU n21 n7 (ar gz):=fsc
theorem t_(M:Mo Z):Ok Z 4 20 n7 ck :=
 cg .V M.qe.F c8 λcdv A outer s H E hr=>(ai (aJ 2 c8.nd (ay (ae 0) ak))
 (ai (aJ 3 c8.nd (ay (ae 0) ak))
 (ai (aJ 4 c8.nd (cc (vD M) hr M.rR (ag (ae 0) (ag (ae 1) aw))))
 (ai (cA (CW.ct (pC (vb (ae 2) (sW M.mG.choose_spec)) (fY (vb (eD M.gB (ae 4)) (sW M.vA.choose_spec))))) (au sY) bp)
 (ai (aJ 5 c8.nd (cc (mK M) hr M.i9 (ag (ae 3) (ag (ae 4) aw))))
 (ai (kY (jr 6 (N':=n20) rfl (aD (ar gz) rfl n21 rfl (by decide +kernel)) rfl (gN rfl rfl) (b5 (ae 5)) (λ_ _ _ _ _=>(gM 0 1 (show n20.Nodup by decide +kernel) rfl)) (λ_ _ _ _ _=>bw) (λ_ _ _ _ _=>(cc (vE M) hr M.rS (ag (ay (ay (ae 2) (ae 0)) ak) (ag (ay (ay (ae 2) (ae 1)) ak) aw)))) c8.nd) λ_ _ _ _ h=>jX h)
 (ai (aJ 7 c8.nd (cc (DO M) hr M.DL (ag (ay (ae 0) ak) (ag (b7 (ae 2) (ae 2)) (ag (ae 6) (ag (cc (om M) hr M.kK (ag (b7 (ae 2) (ae 2)) aw)) aw))))))
 (ai (cA (my hr (ay (ae 7) ak) gk) (au (aL (hG (ag gk (ag (cc (vF M) hr M.rT (ag (ae 2) (ag (ay (ae 7) ak) aw))) aw))))) bp)
 (au (aL (hG (ag gk (ag (CF.ce (bN (N':=n22) rfl (aD (ar gz) rfl n21 rfl (by decide +kernel)) rfl (gN rfl rfl) (Dh M.HL (ae 5) (ay (ae 7) ak)) (λ_ _ _ _ _=>(gM 0 1 (show n22.Nodup by decide +kernel) rfl)) (λ_ _ _ _ _=>(fZ (jv hr (ae 1) ak))) (λ_ _ _ _ _=>(hG (ag (ay (ae 0) ak) (ag (ay (ae 0) ak) (ag (ae 1) aw))))))) aw)))))))))))))
theorem oq:aU n48 n48 (ar gA):=fsc
theorem bF(M:Mo Z):Ok Z 1 21 n48 aE :=
 cg .V M.bK.F oq λcdv A outer s H E hr=>(ai (cA (Mb (ae 1) (eD M.gB (ae 0))) (au (aL (ay (ae 0) (ae 1)))) bp)
 (ai (cA (my hr (eD M.gB (ae 0)) ak) (au (aL (b6 (b7 (b7 (ae 1) (ae 1)) ak) (b7 ak (ae 1))))) bp)
 (au (aL (b6 (pQ (ay (ae 0) (bO (ae 1) (eD M.gB (ae 0)))) (b6 ak (pQ (ae 1) (eD M.gB (ae 0))))) (b7 (b7 (ae 1) (ae 1)) ak))))))
theorem cR:aU n64 n49 (ar iT):=fsc
theorem qh(M:Mo Z):Ok Z 2 22 n49 fe :=
 cg .V M.mI.F cR λcdv A outer s H E hr=>(ai (aJ 4 cR.nd (cc (bF M) hr M.bK (ag (ae 0) (ag (ae 1) aw))))
 (ai (aJ 5 cR.nd (CF.cell (gm aw)))
 (ai (cB PassesOwn.never rfl (bL M.cy (ae 3)) (aR 6 cR.nd) (au (cA (my hr (bO (cc (bF M) hr M.bK (ag (ae 0) (ag ak aw))) ak) ak) (ai (j4 (ae 5) (bO (ae 4) (ae 2)))
 (au (aJ 4 cR.nd (pQ (ae 4) (ae 2))))) (ai (aJ 4 cR.nd (bO (b7 (b6 (bO (ae 4) ak) ak) ak) ak))
 (au (j4 (ae 5) (bO (pQ (bO (b6 (b7 (ae 4) ak) (b7 (ae 6) ak)) ak) ak) (ae 2))))))))
 (au (aL (ae 5))))))
theorem fh:aU n24 n50 (ar eG):=fsc
theorem jO(M:Mo Z):Ok Z 1 23 n50 bR :=
 cg .V M.iW.F fh λcdv A outer s H E hr=>(ai (kY (jr 2 (N':=n23) rfl (aD (ar eG) rfl n24 rfl (by decide +kernel)) rfl (aS rfl) (bL M.cy (eD M.gB (ay (ae 0) ak))) (λ_ _ _ _ _=>(aR 0 (show n23.Nodup by decide +kernel))) (λ_ _ _ _ _=>(fZ (Dp hr (ay (ay (ay (ae 2) ak) (ae 0)) ak) (ae 1)))) (λ_ _ _ _ _=>(ae 0)) fh.nd) λ_ _ _ _ h=>jX h)
 (ai (aJ 3 fh.nd (CF.cell (gm aw)))
 (ai (cB PassesOwn.never rfl (b5 (ae 2)) (aR 4 fh.nd) (au (ni (ae 3) (bN (N':=n25) rfl (aD (ar eG) rfl n24 rfl (by decide +kernel)) rfl (aS rfl) (b5 (ae 2)) (λ_ _ _ _ _=>(aR 0 (show n25.Nodup by decide +kernel))) (λ_ _ _ _ _=>(fZ (my hr (ay (ay (ay (ae 2) ak) (ae 1)) ak) (ay (ay (ay (ae 2) ak) (ae 0)) ak)))) (λ_ _ _ _ _=>(hG (ag (ae 1) (ag (ae 0) aw))))))))
 (au (aL (ae 3))))))
theorem mL:aU n51 n51 (ar eV):=fsc
theorem gC(M:Mo Z):Ok Z 1 24 n51 aN :=
 cg .V M.eW.F mL λcdv A outer s H E hr=>(au (aL (sX (AB M.cK M.HJ (ae 1)) (sX (Jr (wZ M.cK M.JZ (ae 1))) (wL (pR ak (ae 1) (ae 0)))))))
theorem aT:aU n27 n52 (ar bz):=fsc
theorem kr(M:Mo Z):Ok Z 2 25 n52 bY :=
 cg .V M.gW.F aT λcdv A outer s H E hr=>(ai (Dr (Dq 3 4 5 aT.nd rfl) (ae 0))
 (ai (aJ 6 aT.nd (cc (jO M) hr M.iW (ag (ae 0) (ag (ae 1) aw))))
 (ai (cA (CW.ct (pC (kW (gp (w5 M.cK M.t5 (ae 2)))) (fY (jv hr (Bb hr M.gB M.Mw (CF.ce (bN (N':=n26) rfl (aD (ar bz) rfl n27 rfl (by decide +kernel)) rfl (aS rfl) (b5 (ae 2)) (λ_ _ _ _ _=>(aR 0 (show n26.Nodup by decide +kernel))) (λ_ _ _ _ _=>bw) (λ_ _ _ _ _=>(iM (ae 0) iL (fT ak)))))) (eD M.gB (ae 2)))))) (au (aL gL)) bp)
 (ai (tW 7 (N':=n28) rfl (aD (ar bz) rfl n27 rfl (by decide +kernel)) rfl (aS rfl) (bL M.cy (ae 4)) (λ_ _ _ _ _=>(aR 0 (show n28.Nodup by decide +kernel))) (λ_ _ _ _ _=>bw) (λ_ _ _ _ _=>(CF.cell (tO (ag ak aw) (ae 1)))) aT.nd)
 (ai (cB PassesOwn.never rfl (b5 (ae 2)) (aR 8 aT.nd) (ai (cA (CW.ct (pC (kW (gp (gR M.cK M.dU (ae 8)))) (pC (jv hr (eD M.gB (ae 8)) ak) (fY (GJ hr (iM (ae 8) iL (fT ak)) (ae 6)))))) (au (aL gL)) bp)
 (ai (cA (kW (gp (cc (gC M) hr M.eW (ag (ae 3) (ag (ay (ae 8) ak) aw))))) (au (aL gL)) bp)
 (ai (aJ 9 aT.nd (ay (ay (ae 5) (ay (ae 8) ak)) ak))
 (ai (aJ 10 aT.nd (ay (ay (ae 5) (ay (ae 8) ak)) ak))
 (au (cB PassesOwn.never rfl (bL M.cy (ae 4)) (aR 11 aT.nd) (au (cB PassesOwn.never rfl (bL M.cy (ae 4)) (aR 12 aT.nd) (ai (aJ 13 aT.nd (b7 (b7 (ay (ae 8) ak) (ay (ae 9) (ae 11))) (ay (ae 10) (ae 12))))
 (au (vw (ay (ae 7) (ae 11)) (ae 12) (bO (b6 (ay (ay (ae 7) (ae 11)) (ae 12)) (ae 13)) (ae 3))))))))))))))
 (au (aL (JR hr (ae 7) (CF.ce (bN (N':=n28) rfl (aD (ar bz) rfl n27 rfl (by decide +kernel)) rfl (aS rfl) (bL M.cy (ae 4)) (λ_ _ _ _ _=>(aR 0 (show n28.Nodup by decide +kernel))) (λ_ _ _ _ _=>bw) (λ_ _ _ _ _=>(CF.ce (bN (N':=n29) rfl (pO (ar bz) rfl (by decide +kernel)) rfl (aS rfl) (bL M.cy (ae 1)) (λ_ _ _ _ _=>(aR 0 (show n29.Nodup by decide +kernel))) (λ_ _ _ _ _=>bw) (λ_ _ _ _ _=>(GH M.HJ (sX (rJ hr (ae 1) ak) (wL (rJ hr (ae 0) ak))))))))))))))))))
theorem a8:aU n31 n53 (ar cm):=fsc
theorem ku(M:Mo Z):Ok Z 2 26 n53 bZ :=
 cg .V M.gX.F a8 λcdv A outer s H E hr=>(ai (Dr (Dq 3 4 5 a8.nd rfl) (ae 0))
 (ai (cA (CW.ct (pC (kW (gp (gR M.cK M.dU (ae 2)))) (fY (jv hr (eD M.gB (ae 2)) (ae 4))))) (au (aL gL)) bp)
 (ai (cB PassesOwn.never rfl (b5 (ae 2)) (aR 6 a8.nd) (ai (cA (CW.ct (pC (kW (gp (gR M.cK M.dU (ae 6)))) (fY (jv hr (eD M.gB (ae 6)) (ae 4))))) (au (aL gL)) bp)
 (au (cA (Dp hr gL (CF.ce (bN (N':=n30) rfl (aD (ar cm) rfl n31 rfl (by decide +kernel)) rfl (aS rfl) (b5 (ae 6)) (λ_ _ _ _ _=>(aR 0 (show n30.Nodup by decide +kernel))) (λ_ _ _ _ _=>bw) (λ_ _ _ _ _=>(cc (gC M) hr M.eW (ag (ae 1) (ag (ae 0) aw))))))) (au (aL gL)) bp))))
 (ai (cB PassesOwn.never rfl (b5 (cc (jO M) hr M.iW (ag (ae 0) (ag (ae 1) aw)))) (gM 7 8 a8.nd rfl) (ai (aJ 9 a8.nd ak)
 (ai (aJ 10 a8.nd (ay (ay (ae 5) (ae 7)) ak))
 (ai (aJ 11 a8.nd (ay (ay (ae 5) (ae 8)) ak))
 (ai (cB PassesOwn.never rfl (bL M.cy (ae 4)) (aR 12 a8.nd) (au (aJ 9 a8.nd (b6 (ae 9) (b7 (ay (ae 10) (ae 12)) (Dc hr M.HK (CF.ce (bN (N':=n32) rfl (aD (ar cm) rfl n31 rfl (by decide +kernel)) rfl (aS rfl) (bL M.cy (ae 4)) (λ_ _ _ _ _=>(aR 0 (show n32.Nodup by decide +kernel))) (λ_ _ _ _ _=>bw) (λ_ _ _ _ _=>(b7 (ay (ay (ae 2) (ae 3)) (ae 0)) (ay (ae 1) (ae 0))))))))))))
 (au (cA (jv hr (bO (ae 9) (ae 3)) ak) (au (aL gL)) bp)))))))
 (au (aL (rJ hr (ay (ay (ae 2) ak) ak) ak)))))))
theorem lS:aU n54 n54 (ar eI):=fsc
theorem kx(M:Mo Z):Ok Z 3 27 n54 aZ :=
 cg .V M.gY.F lS λcdv A outer s H E hr=>(ai (cA (CW.ct (pC (kW (gp (gR M.cK M.dU (ae 2)))) (fY (jv hr (eD M.gB (ae 2)) ak)))) (au (aL gL)) bp)
 (ai (cA (my hr (ay (ae 2) ak) gk) (au (aL (cc (kr M) hr M.gW (ag (ae 0) (ag (ae 1) (ag (ay (ae 2) ak) aw)))))) bp)
 (au (aL (sX (rJ hr (ay (ae 2) ak) gk) (wL (cc (ku M) hr M.gX (ag (ae 0) (ag (ae 1) (ag (ay (ae 2) ak) aw))))))))))
theorem fN:aU n34 n55 (ar nM):=fsc
theorem GW(M:Mo Z):Ok Z 19 28 n55 ny :=
 cg .V M.Mx.F fN λcdv A outer s H E hr=>(ai (aJ 1 fN.nd (b6 ak (bO (cc (bF M) hr M.bK (ag (ae 0) (ag ak aw))) ak)))
 (ai (aJ 2 fN.nd (b6 ak (bO (cc (bF M) hr M.bK (ag (ae 0) (ag ak aw))) (JL M.Mv ak (ae 1)))))
 (ai (aJ 3 fN.nd (ay (CF.ce (bN (N':=n33) rfl (aD (ar nM) rfl n34 rfl (by decide +kernel)) rfl (aS rfl) (b5 (CF.ce (gm (ag ak (ag ak (ag ak (ag ak (ag ak (ag ak (ag ak (ag ak aw))))))))))) (λ_ _ _ _ _=>(aR 0 (show n33.Nodup by decide +kernel))) (λ_ _ _ _ _=>(fZ (vb (ae 0) (ae 1)))) (λ_ _ _ _ _=>(ae 0)))) (bO (cc (bF M) hr M.bK (ag (ae 0) (ag ak aw))) ak)))
 (ai (aJ 4 fN.nd (CF.cell (xf rfl M.t5 M.cy ak)))
 (ai (kY (jr 5 (N':=n35) rfl (aD (ar nM) rfl n34 rfl (by decide +kernel)) rfl (aS rfl) (b5 (cc (qh M) hr M.mI (ag (ae 0) (ag ak (ag ak (ag (ae 1) aw)))))) (λ_ _ _ _ _=>(aR 0 (show n35.Nodup by decide +kernel))) (λ_ _ _ _ _=>bw) (λ_ _ _ _ _=>(JG (ae 1) (bO (ae 0) (eD M.gB (ae 1))))) fN.nd) λ_ _ _ _ h=>jX h)
 (ai (aJ 6 fN.nd (cc (t9 M) hr M.qd (ag (ae 3) (ag (hG (ag gk (ag (ae 2) (ag (fq M.dU (CF.ce (bN (N':=n36) rfl (aD (ar nM) rfl n34 rfl (by decide +kernel)) rfl (aS rfl) (b5 (ae 5)) (λ_ _ _ _ _=>(aR 0 (show n36.Nodup by decide +kernel))) (λ_ _ _ _ _=>bw) (λ_ _ _ _ _=>(hG (ag gk (ag (ae 0) aw))))))) aw)))) aw))))
 (ai (aJ 7 fN.nd (bO (cc (bF M) hr M.bK (ag (ae 0) (ag ak aw))) (ae 1)))
 (ai (cB PassesOwn.never rfl (bL M.cy (b6 (ae 1) ak)) (aR 8 fN.nd) (ai (aJ 9 fN.nd (b6 (iM (ae 5) (fT (ae 7)) iL) (iM (ae 5) iL (fT (ae 7)))))
 (ai (aJ 10 fN.nd (AO M.DJ (b6 (iM (ae 9) iL (fT (ae 8))) (iM (ae 4) iL (fT (bO (cc (bF M) hr M.bK (ag (ae 0) (ag ak aw))) ak))))))
 (ai (aJ 11 fN.nd (cc (t_ M) hr M.qe (ag (ae 6) (ag (ae 10) aw))))
 (ai (cA (kW (gp (cc (kx M) hr M.gY (ag (ae 6) (ag (ae 10) (ag (ae 11) aw)))))) (au (aL gL)) bp)
 (au (cA (jv hr (rJ hr (ay (ae 11) ak) gk) (Ma (ae 8) (tI (b7 ak (ae 2)) ak))) (au (aL gL)) bp)))))))
 (au (aL gL))))))))))
end
theorem all_mk{l:PySem.W.OpenLaw}{w:World}{K:PySem.W.Frag}{h:Heap}{mg:Str->Option Value}{fa:Addr}(X:K.In h)(G:h.Ns mainGlobals mg)(hfa:mg "law"=some (.ref fa))
  {f0 f1 f2 f3 f4 f5 f6 f7 f8 f9 f10 f11 f12 f13 f14 f15 f16 f17 f18 f19 f20 f21 f22 f23 f24 f25 f26 f27 f28:Addr}{d0 d1 d2 d3 d4 d5 d6 d7 d8 d9 d10 d11 d12 d13 d14 d15 d16 d17 d18 d19 d20 d21 d22 d23 d24 d25 d26 d27 d28:FuncData}
  (A0:Fa K "over" xN f0 d0)
  (A1:Fa K "times" oM f1 d1)
  (A2:Fa K "freed" oN f2 d2)
  (A3:Fa K "first_place" h8 f3 d3)
  (A4:Fa K "eased" t4 f4 d4)
  (A5:Fa K "numbers_at" fU f5 d5)
  (A6:Fa K "unit" xO f6 d6)
  (A7:Fa K "held" xP f7 d7)
  (A8:Fa K "is_hand" nz f8 d8)
  (A9:Fa K "rows_of" j8 f9 d9)
  (A10:Fa K "own_places" iS f10 d10)
  (A11:Fa K "places_taken" eF f11 d11)
  (A12:Fa K "is_crowded" fV f12 d12)
  (A13:Fa K "with_powers" h_ f13 d13)
  (A14:Fa K "rows_made" jI f14 d14)
  (A15:Fa K "table_of" lP f15 d15)
  (A16:Fa K "hidden_line" fg f16 d16)
  (A17:Fa K "pairs_of_rows" dS f17 d17)
  (A18:Fa K "crossed" j9 f18 d18)
  (A19:Fa K "as_form" j_ f19 d19)
  (A20:Fa K "products" gz f20 d20)
  (A21:Fa K "_law_cell_at" gA f21 d21)
  (A22:Fa K "_law_drawn" iT f22 d22)
  (A23:Fa K "_law_pairs" eG f23 d23)
  (A24:Fa K "_law_is_number" eV f24 d24)
  (A25:Fa K "_law_open_right" bz f25 d25)
  (A26:Fa K "_law_shut_right" cm f26 d26)
  (A27:Fa K "_law_told_right" eI f27 d27)
  (A28:Fa K "law" nM f28 d28)
  (z0:PySem.W.nsIn K mainGlobals "any"=some none)
  (z1:PySem.W.nsIn K mainGlobals "bool"=some none)
  (z2:PySem.W.nsIn K mainGlobals "enumerate"=some none)
  (z3:PySem.W.nsIn K mainGlobals "int"=some none)
  (z4:PySem.W.nsIn K mainGlobals "isinstance"=some none)
  (z5:PySem.W.nsIn K mainGlobals "len"=some none)
  (z6:PySem.W.nsIn K mainGlobals "list"=some none)
  (z7:PySem.W.nsIn K mainGlobals "max"=some none)
  (z8:PySem.W.nsIn K mainGlobals "min"=some none)
  (z9:PySem.W.nsIn K mainGlobals "range"=some none)
  (z10:PySem.W.nsIn K mainGlobals "set"=some none)
  (z11:PySem.W.nsIn K mainGlobals "sorted"=some none)
  (z12:PySem.W.nsIn K mainGlobals "sum"=some none)
  (z13:PySem.W.nsIn K mainGlobals "tuple"=some none)
  (z14:PySem.W.nsIn K mainGlobals "zip"=some none)
  {tk0:Nat} (y0:PySem.W.nsIn K mainGlobals "MOST_ROWS"=some (some (.int 12 tk0)))
  {tk1:Nat} (y1:PySem.W.nsIn K mainGlobals "MOST_WIDE_mixes"=some (some (.int 5 tk1)))
  {tk2:Nat} (y2:PySem.W.nsIn K mainGlobals "MOST_WIDE_tables"=some (some (.int 12 tk2)))
  : ∃fd:FuncData,(∀(s:Shared) (v:Value),BindsTo s fd ⟨[v],[]⟩ [("_law_script",v)])/\∀base:Heap,K.In base->base.Ns mainGlobals mg->kj l.prog w K mg base CX0 19 fa fd ["_law_script"] (spD K ny 1):=by
 have e:=hfa.symm.trans (PySem.W.mg_of X G A28.a)
 cases e
 have T:Tx K mg:=⟨PySem.W.mg_none_of X G z0,PySem.W.mg_none_of X G z1,PySem.W.mg_none_of X G z2,PySem.W.mg_none_of X G z3,PySem.W.mg_none_of X G z4,PySem.W.mg_none_of X G z5,PySem.W.mg_none_of X G z6,PySem.W.mg_none_of X G z7,PySem.W.mg_none_of X G z8,PySem.W.mg_none_of X G z9,PySem.W.mg_none_of X G z10,PySem.W.mg_none_of X G z11,PySem.W.mg_none_of X G z12,PySem.W.mg_none_of X G z13,PySem.W.mg_none_of X G z14,⟨_,PySem.W.mg_of X G y0⟩,⟨_,PySem.W.mg_of X G y1⟩,⟨_,PySem.W.mg_of X G y2⟩⟩
 obtain⟨_,_,kV,dc,pm,an,cd,ct,_,e,_⟩:=id A28.F.ex
 refine⟨d28,λs v=>e ▸ .of_eq rfl,λbase _ _=>GW (Z:=⟨l.prog,w,K,mg,base,[f0,f1,f2,f3,f4,f5,f6,f7,f8,f9,f10,f11,f12,f13,f14,f15,f16,f17,f18,f19,f20,f21,f22,f23,f24,f25,f26,f27,fa],[d0,d1,d2,d3,d4,d5,d6,d7,d8,d9,d10,d11,d12,d13,d14,d15,d16,d17,d18,d19,d20,d21,d22,d23,d24,d25,d26,d27,d28]⟩) ⟨T,gf3 X G A0,gf3 X G A1,gf4 X G A2,gf2 X G A3,gf3 X G A4,gf3 X G A5,gf2 X G A6,gf4 X G A7,gf1 X G A8,gf2 X G A9,gf1 X G A10,gf1 X G A11,gf2 X G A12,gf5 X G A13,gf4 X G A14,gf2 X G A15,gf1 X G A16,gf2 X G A17,gf2 X G A18,gf2 X G A19,gf2 X G A20,gf2 X G A21,gf4 X G A22,gf2 X G A23,gf2 X G A24,gf3 X G A25,gf3 X G A26,gf3 X G A27,gf1 X G A28⟩⟩
theorem walk{l:PySem.W.OpenLaw}{q:Program}{loose:List Str}{XP:(Str->Option Value)->Heap->Prop}{YP:World->Heap->Prop}{d:DefRec}{K:Params->PySem.W.Frag}(hn:l.most=some 63)(hdf:d.params.defaults=[])
  (Jy:∀ns:List Int,ns.length≤63->∃μ',ny [.val (.lst (ns.map T.int))] []=.ok (.val (.bl true)) μ')
  (hY:∀(w:World) (h:Heap),YP w h->(K w.params).In h)
  (F:∀(w:World) (mg:Str->Option Value) (fa:Addr) (h:Heap),(K w.params).In h->h.Ns mainGlobals mg->mg d.name=some (.ref fa) ->
   ∃fd:FuncData,(∀(s:Shared) (u:Value),BindsTo s fd ⟨[u],[]⟩ [("_law_script",u)])/\∀base:Heap,(K w.params).In base->base.Ns mainGlobals mg->kj l.prog w (K w.params) mg base CX0 19 fa fd ["_law_script"] (spD (K w.params) ny 1)) :
  PySem.W.WalkO q loose XP YP l.row.toRowW d [] (λf vs=>PySem.call f vs) :=
 L2.Fn (n:=63) (k:=19) (x:="_law_script") (CX:=λ_=>CX0) (sp:=λw=>spD (K w.params) ny 1) hn (by decide) hdf ⟨rfl,by decide,by decide⟩ hY F (λw H a ns hl hO hS=>Jx Jy hl hS hO) λ_ _ _ _ _ z=>z
end Fw.k63
end
namespace Fw
open PySem Fw Fw.H
theorem KQ(a b:DS)(e:Slots)(μ:af):aq a b e μ=(a e μ).seq b:=rfl
theorem KR(i:Nat)(d:D)(e:Slots)(μ:af):aC i d e μ=(d e μ).toS e λx μ1=>.nx (e.set i (some x)) μ1:=rfl
theorem KS(d:D)(e:Slots)(μ:af):aH d e μ=(d e μ).toS e λx μ1=>.rt x μ1:=rfl
theorem My(c:D)(a b:DS)(e:Slots)(μ:af):sIf c a b e μ=(c e μ).toS e λx μ1=>(R.lift (asB x) μ1).toS e λk μ1=>if k=true then a e μ1 else b e μ1:=rfl
theorem KU(e:Slots)(μ:af):bB e μ=.nx e μ:=rfl
theorem Mz(f:T->Option T)(a:D)(e:Slots)(μ:af):dUn f a e μ=(a e μ).bind λx μ1=>R.lift (ap1 f (rd μ1 x)) μ1:=rfl
theorem KW(f:T->T->Option T)(a b:D)(e:Slots)(μ:af):ah f a b e μ=(a e μ).bind λx μ1=>(b e μ1).bind λy μ2=>R.lift (ap2 f (rd μ2 x) (rd μ2 y)) μ2:=rfl
theorem KY(i:Nat)(e:Slots)(μ:af):aa i e μ=R.lift (slot e i) μ:=rfl
theorem Nc(t:T)(e:Slots)(μ:af):dC t e μ=.ok (.val t) μ:=rfl
theorem J0(f:FN)(ds:List D)(e:Slots)(μ:af):ax f ds e μ=(cM ds e μ).bind λxs μ1=>f xs μ1:=rfl
theorem GX(d:D)(ds:List D)(e:Slots)(μ:af):cM (d::ds) e μ=(d e μ).bind λx μ1=>(cM ds e μ1).bind λxs μ2=>.ok (x::xs) μ2:=rfl
theorem HM(e:Slots)(μ:af):cM [] e μ=.ok [] μ:=rfl
theorem KZ(ds:List D)(e:Slots)(μ:af):ee ds e μ=(cM ds e μ).bind λxs μ1=>(dq xs μ1).bind λts μ2=>.ok (.val (.tup ts)) μ2:=rfl
theorem K0(ds:List D)(e:Slots)(μ:af):eK ds e μ=(cM ds e μ).bind λxs μ1=>(dq xs μ1).bind λts μ2=>.ok (.val (.lst ts)) μ2:=rfl
theorem K1(a b:D)(e:Slots)(μ:af):ao a b e μ=(a e μ).bind λx μ1=>(b e μ1).bind λy μ2=>R.lift ((rd μ2 y).bind λu=>eg μ2 x u) μ2:=rfl
theorem K2(a:D)(e:Slots)(μ:af):cS a e μ=(a e μ).bind λx μ1=>R.lift ((nT μ1 x).map SV.val) μ1:=rfl
theorem MA(f:FN)(xs:List SV)(μ:af):cal f xs μ=(f xs μ).calm:=rfl
theorem HN(x:Option SV)(e:Slots)(i:Nat):slot (x::e) (i+1)=slot e i:=rfl
theorem HP(x:SV)(e:Slots):slot (some x::e) 0=some x:=rfl
theorem J1{α:Type}(a:α)(e:Slots)(μ:af)(f:α->af->RS):(R.ok a μ).toS e f=f a μ:=rfl
theorem MB(μ:af)(t:T):rd μ (.val t)=some t:=rfl
theorem J2(f:T->Option T)(t:T):ap1 f (some t)=(f t).map SV.val:=rfl
theorem J3(f:T->T->Option T)(t u:T):ap2 f (some t) (some u)=(f t u).map SV.val:=rfl
theorem MC(b:Bool):asB (.val (.bl b))=some b:=rfl
theorem K3(μ:af)(t:T):frz (.val t) μ=.ok t μ:=rfl
theorem J4(μ:af):dq [] μ=.ok [] μ:=rfl
theorem HQ(x:SV)(xs:List SV)(μ:af):dq (x::xs) μ=(frz x μ).bind λt μ1=>(dq xs μ1).bind λts μ2=>.ok (t::ts) μ2:=rfl
theorem HR(e:Slots)(μ:af)(f:Slots->af->RS):(RS.nx e μ).seq f=f e μ:=rfl
theorem EU{α:Type}(a:α)(μ:af):R.lift (some a) μ=.ok a μ:=rfl
theorem HS{α β:Type}(a:α)(μ:af)(f:α->af->R β):(R.ok a μ).bind f=f a μ:=rfl
theorem HU{α:Type}(a:α)(μ:af):(R.ok a μ).calm=.ok a μ:=rfl
theorem K4(a b:D)(e:Slots)(μ:af):mV a b e μ=(a e μ).bind λx μ1=>(R.lift (asB x) μ1).bind λk μ1=>if k=true then b e μ1 else .ok (.val (.bl false)) μ1:=rfl
theorem MD(a b:D)(e:Slots)(μ:af):dOr a b e μ=(a e μ).bind λx μ1=>(R.lift (asB x) μ1).bind λk μ1=>if k=true then .ok (.val (.bl true)) μ1 else b e μ1:=rfl
theorem K5(a:D)(e:Slots)(μ:af):gh a e μ=(a e μ).bind λx μ1=>(R.lift (asB x) μ1).bind λk μ1=>.ok (.val (.bl (!k))) μ1:=rfl
theorem K6(d:D)(e:Slots)(μ:af):bD d e μ=(d e μ).bind λx μ1=>(R.lift ((rd μ1 x).bind b_) μ1).bind λts μ1=>.ok ⟨ts,λμ'=>rd μ' x=rd μ1 x⟩ μ1:=rfl
theorem K7(it:DI)(b:BD)(body:DS)(e:Slots)(μ:af):bE it b body e μ=(it e μ).toS e λW μ1=>forL W.same b body W.items e μ1:=rfl
theorem K8(e:Slots):ini [] e=[]:=rfl
theorem J5(mp:List (Option Nat))(e:Slots):ini (none::mp) e=none::ini mp e:=rfl
theorem J6(j:Nat)(mp:List (Option Nat))(e:Slots):ini (some j::mp) e=slot e j::ini mp e:=rfl
theorem J7(i:Nat)(t:T)(e:Slots):av i t e=some (e.set i (some (.val t))):=rfl
end Fw
local macro_rules
 | `(tactic| simp_all! only [$ls,*]) => do
  let mut xs:Array (Lean.TSyntax `Lean.Parser.Tactic.simpLemma):=#[]
  for n in "KQ KR KS My KU Mz KW KY Nc J0 GX HM KZ K0 K1 K2 MA HN HP J1 MB J2 J3 MC K3 J4 HQ HR EU HS HU K4 MD K5 K6 K7 K8 J5 J6 J7".splitOn " " do xs := xs.push (← `(Lean.Parser.Tactic.simpLemma| $(Lean.mkIdent (`Fw ++ n.toName)):term))
  `(tactic| try dsimp only [$(xs),*, Nat.reduceAdd, Nat.reduceSub, List.set_cons_succ, List.set_cons_zero, $ls,*])
namespace Fw.E
open PySem Fw Fw.H
structure Rw(p:Int)(L:Nat)(r:List Int):Prop where
 len:r.length=L
 lo:∀x∈r,0≤x
 hi:∀x∈r,x<p
noncomputable def g (r : List Int) (k : Nat) : Int := r.getD k 0
theorem eZ(x:Int)(r:List Int):g (x::r) 0=x:=by simp[g]
theorem dY(x:Int)(r:List Int)(k:Nat):g (x::r) (k+1)=g r k:=by simp[g]
theorem qk(r:List Int)(k:Nat)(h:k<r.length):g r k=r[k]:=by simp[g,h]
theorem Rw.g0{p:Int}{L:Nat}{r:List Int}(h:Rw p L r)(hp:0<p)(k:Nat):0≤g r k/\g r k<p:=by
 by_cases hk:k<r.length
 ·rw[qk r k hk];exact⟨h.lo _ (List.getElem_mem hk),h.hi _ (List.getElem_mem hk)⟩
 ·have:g r k=0:=by simp[g,Nat.le_of_not_lt hk]
  lia
noncomputable def dot : List Int -> List Int -> Int
 | x::xs,y::ys=>x*y+dot xs ys
 | _,_=>0
@[simp] theorem Nd(ys:List Int):dot [] ys=0:=by cases ys<;>rfl
@[simp] theorem ME(ys:List Int):dot ys []=0:=by cases ys<;>rfl
@[simp] theorem bf(x y:Int)(xs ys:List Int):dot (x::xs) (y::ys)=x*y+dot xs ys:=rfl
theorem mM(xs ys:List Int):dot xs ys=dot ys xs:=by
 induction xs generalizing ys with
 | nil=>cases ys<;>rfl
 | cons x xs ih=>cases ys with
  | nil=>rfl
  | cons y ys=>simp[ih,Int.mul_comm]
theorem lT(c1 c2 r1 r2:List Int)(h:c1.length=r1.length):dot (c1++c2) (r1++r2)=dot c1 r1+dot c2 r2:=by
 induction c1 generalizing r1 with
 | nil=>cases r1 with
  | nil=>simp
  | cons x r1=>simp at h
 | cons x c1 ih=>cases r1 with
  | nil=>simp at h
  | cons y r1=>simp[ih r1 (by simpa using h)];lia
theorem md(x p:Int):∃t,x%p=x-p*t:=⟨x / p,Int.emod_def x p⟩
def sub(p n:Int)(row lead:List Int):List Int:=(row.zip lead).map λq=>(q.1-n*q.2)%p
theorem zk(p n:Int):∀(row lead c:List Int),row.length=lead.length->∃t,dot c (sub p n row lead)=dot c row-n*dot c lead+p*t
 | [],lead,c,h=>by cases lead with
  | nil=>exact⟨0,by simp[sub]⟩
  | cons x l=>simp at h
 | e::row,[],c,h=>by simp at h
 | e::row,o::lead,[],h=>⟨0,by simp[sub]⟩
 | e::row,o::lead,c0::c,h=>by
  obtain⟨s,hs⟩:=zk p n row lead c (by simpa using h)
  obtain⟨t,ht⟩:=md (e-n*o) p
  refine⟨s-c0*t,?_⟩
  have e1:sub p n (e::row) (o::lead)=(e-n*o)%p::sub p n row lead:=rfl
  rw[e1,bf,bf,bf,hs,ht]
  grind
theorem HV(p n:Int):∀(row lead:List Int) (k:Nat),row.length=lead.length->g (sub p n row lead) k=(g row k-n*g lead k)%p
 | [],lead,k,h=>by cases lead with
  | nil=>simp[sub,g]
  | cons x l=>simp at h
 | e::row,[],k,h=>by simp at h
 | e::row,o::lead,0,h=>by simp[sub,g]
 | e::row,o::lead,k+1,h=>by
  have e1:sub p n (e::row) (o::lead)=(e-n*o)%p::sub p n row lead:=rfl
  rw[e1,dY,dY,dY]
  exact HV p n row lead k (by simpa using h)
theorem J8{p:Int}{L:Nat}{row lead:List Int}(hp:0<p)(n:Int)(h1:row.length=L)(h2:lead.length=L):Rw p L (sub p n row lead):=by
 refine⟨by simp[sub,h1,h2],λx hx=>?_,λx hx=>?_⟩
 ·obtain⟨q,_,rfl⟩:=List.mem_map.mp hx
  exact Int.emod_nonneg _ (by lia)
 ·obtain⟨q,_,rfl⟩:=List.mem_map.mp hx
  exact Int.emod_lt_of_pos _ hp
def fr(p:Int)(row lead:List Int)(q:Nat):List Int:=if g row q=0 then row else sub p (g row q) row lead
theorem DQ{p:Int}{L:Nat}{row lead:List Int}(hp:0<p)(q:Nat)(h1:Rw p L row)(h2:Rw p L lead):Rw p L (fr p row lead q):=by
 unfold fr
 split
 ·exact h1
 ·exact J8 hp _ h1.len h2.len
theorem MF{p:Int}{L:Nat}{row lead:List Int}(hp:0<p)(q k:Nat)(h1:Rw p L row)(h2:Rw p L lead):g (fr p row lead q) k=(g row k-g row q*g lead k)%p:=by
 unfold fr
 split
 ·rename_i h
  have:=h1.g0 hp k
  rw[h]
  simp
  rw[Int.emod_eq_of_lt this.1 this.2]
 ·exact HV p _ row lead k (by rw[h1.len,h2.len])
def Z(p:Int)(c r:List Int):Prop:=p ∣ dot c r
theorem MG{p:Int}{L:Nat}{row lead c:List Int}(q:Nat)(h1:Rw p L row)(h2:Rw p L lead)(hz:Z p c lead):Z p c (fr p row lead q)↔Z p c row:=by
 unfold fr
 split
 ·exact Iff.rfl
 ·obtain⟨t,ht⟩:=zk p (g row q) row lead c (by rw[h1.len,h2.len])
  obtain⟨s,hs⟩:=hz
  unfold Z
  rw[ht,hs]
  constructor
  ·rintro⟨u,hu⟩;exact⟨u+g row q*s-t,by grind⟩
  ·rintro⟨u,hu⟩;exact⟨u-g row q*s+t,by grind⟩
def tm(p n:Int)(row:List Int):List Int:=row.map λe=>n*e%p
theorem ub(p n:Int):∀(row c:List Int),∃t,dot c (tm p n row)=n*dot c row+p*t
 | [],c=>⟨0,by simp[tm]⟩
 | e::row,[]=>⟨0,by simp[tm]⟩
 | e::row,c0::c=>by
  obtain⟨s,hs⟩:=ub p n row c
  obtain⟨t,ht⟩:=md (n*e) p
  refine⟨s-c0*t,?_⟩
  have e1:tm p n (e::row)=n*e%p::tm p n row:=rfl
  rw[e1,bf,bf,hs,ht]
  grind
theorem MH(p n:Int)(row:List Int)(k:Nat):g (tm p n row) k=n*g row k%p:=by
 induction row generalizing k with
 | nil=>simp[tm,g]
 | cons e row ih =>
  have e1:tm p n (e::row)=n*e%p::tm p n row:=rfl
  cases k with
  | zero=>rw[e1,eZ,eZ]
  | succ k=>rw[e1,dY,dY];exact ih k
theorem DR{p:Int}{L:Nat}{row:List Int}(hp:0<p)(n:Int)(h:row.length=L):Rw p L (tm p n row):=by
 refine⟨by simp[tm,h],λx hx=>?_,λx hx=>?_⟩
 ·obtain⟨q,_,rfl⟩:=List.mem_map.mp hx
  exact Int.emod_nonneg _ (by lia)
 ·obtain⟨q,_,rfl⟩:=List.mem_map.mp hx
  exact Int.emod_lt_of_pos _ hp
def Inv(p n a:Int):Prop:=n*a%p=1%p
theorem NZ{p n a:Int}(row c:List Int)(hi:Inv p n a):Z p c (tm p n row)↔Z p c row:=by
 obtain⟨t,ht⟩:=ub p n row c
 unfold Z
 rw[ht]
 constructor
 ·rintro⟨u,hu⟩
  obtain⟨m1,e1⟩:=md (n*a) p
  obtain⟨m2,e2⟩:=md 1 p
  have e3:n*a-p*m1=1-p*m2:=by rw[← e1,← e2];exact hi
  exact⟨a*(u-t)+(m2-m1)*dot c row,by grind⟩
 ·rintro⟨u,hu⟩;exact⟨n*u+t,by grind⟩
theorem MI{p:Int}(h:hU p)(r:Int)(h1:1<r)(h2:r<p):p%r≠0:=by
 have hb:=h.pos
 have key:∀p∈([2,3,5,7,11,13,17,19,23,29,31,37,41,43,47,53,59,61,67,71,73,79,83,89,97]:List Int),∀r:Nat,r<97->1<r->(r:Int)<p->p%(r:Int)≠0:=by decide +kernel
 have:=key p h r.toNat (by lia) (by lia) (by lia)
 rwa [show(r.toNat:Int)=r by lia] at this
abbrev Ld:=Nat×List Int
def frees(p:Int)(ls:List Ld)(row:List Int):List Int:=ls.foldl (λr q=>fr p r q.2 q.1) row
structure ky(p:Int)(L m:Nat)(ls:List Ld)(ns:List (List Int))(rows:List (List Int)):Prop where
 nd:(ls.map (·.1)).Nodup
 key:∀q∈ls,q.1<m
 rl:∀q∈ls,Rw p L q.2
 rn:∀r∈ns,Rw p L r
 one:∀q∈ls,g q.2 q.1=1
 off:∀q∈ls,∀q'∈ls,q'.1≠q.1->g q.2 q'.1=0
 no:∀r∈ns,∀j,j<m->g r j=0
 eq:∀c,(∀r∈rows,Z p c r)↔((∀q∈ls,Z p c q.2)/\∀r∈ns,Z p c r)
theorem ky.start(p:Int)(L m:Nat):ky p L m [] [] []:=⟨by simp,by simp,by simp,by simp,by simp,by simp,by simp,by simp⟩
theorem vG{p:Int}{L:Nat}{ls:List Ld}(hp:1<p)(rl:∀q∈ls,Rw p L q.2)(one:∀q∈ls,g q.2 q.1=1)(off:∀q∈ls,∀q'∈ls,q'.1≠q.1->g q.2 q'.1=0) :
  ∀(l D:List Ld) (row:List Int),(∀q∈l,q∈ls)->(∀q∈D,q∈ls)->Rw p L row->(∀q∈D,g row q.1=0) ->
   Rw p L (frees p l row)/\(∀q∈D++l,g (frees p l row) q.1=0)/\∀c,(∀q∈l,Z p c q.2)->(Z p c (frees p l row)↔Z p c row)
 | [],D,row,_,_,hr,hd=>⟨hr,λq hq=>hd q (by simpa using hq),λc _=>Iff.rfl⟩
 | a::l,D,row,hl,hD,hr,hd=>by
  have ha:a∈ls:=hl a (by simp)
  have r1:=DQ (by lia) a.1 hr (rl a ha)
  have hg:∀k,g (fr p row a.2 a.1) k=(g row k-g row a.1*g a.2 k)%p:=λk=>MF (by lia) a.1 k hr (rl a ha)
  have h1:g (fr p row a.2 a.1) a.1=0:=by rw[hg,one a ha];simp
  obtain⟨i1,i2,i3⟩:=vG hp rl one off l (D++[a]) (fr p row a.2 a.1) (λq hq=>hl q (by simp[hq])) (λq hq=>by
   rcases List.mem_append.mp hq with h|h
   ·exact hD q h
   ·simp at h;subst h;exact ha) r1 (λq hq=>by
   rcases List.mem_append.mp hq with h|h
   ·by_cases e:q.1=a.1
    ·rw[e];exact h1
    ·rw[hg,hd q h,off a ha q (hD q h) e];simp
   ·simp at h;subst h;exact h1)
  refine⟨i1,λq hq=>i2 q (by simpa using hq),λc hc=>?_⟩
  exact(i3 c λq hq=>hc q (by simp[hq])).trans (MG a.1 hr (rl a ha) (hc a (by simp)))
theorem ky.rest{p:Int}{L m:Nat}{ls:List Ld}{ns rows:List (List Int)}{row:List Int}(hp:1<p)(E:ky p L m ls ns rows)(hr:Rw p L row) :
  Rw p L (frees p ls row)/\(∀q∈ls,g (frees p ls row) q.1=0)/\∀c,(∀q∈ls,Z p c q.2)->(Z p c (frees p ls row)↔Z p c row):=by
 obtain⟨h1,h2,h3⟩:=vG hp E.rl E.one E.off ls [] row (λq h=>h) (by simp) hr (by simp)
 exact⟨h1,by simpa using h2,h3⟩
theorem ky.J9{p:Int}{L m:Nat}{ls:List Ld}{ns rows:List (List Int)}{row:List Int}(hp:1<p)(E:ky p L m ls ns rows)(hr:Rw p L row)(h0:∀j,j<m->g (frees p ls row) j=0) :
  ky p L m ls (ns++[frees p ls row]) (rows++[row]):=by
 obtain⟨h1,h2,h3⟩:=E.rest hp hr
 refine⟨E.nd,E.key,E.rl,λr h=>?_,E.one,E.off,λr h j hj=>?_,λc=>?_⟩
 ·rcases List.mem_append.mp h with h|h
  ·exact E.rn r h
  ·simp at h;subst h;exact h1
 ·rcases List.mem_append.mp h with h|h
  ·exact E.no r h j hj
  ·simp at h;subst h;exact h0 j hj
 ·constructor
  ·intro h
   have a:=(E.eq c).mp λr hr=>h r (by simp[hr])
   refine⟨a.1,λr hr=>?_⟩
   rcases List.mem_append.mp hr with hr|hr
   ·exact a.2 r hr
   ·simp at hr;subst hr;exact(h3 c a.1).mpr (h row (by simp))
  ·rintro⟨a,b⟩ r hr
   rcases List.mem_append.mp hr with hr|hr
   ·exact(E.eq c).mpr ⟨a,λr h=>b r (by simp[h])⟩ r hr
   ·simp at hr;subst hr;exact(h3 c a).mp (b _ (by simp))
def led(p:Int)(ls:List Ld)(fresh:List Int)(f:Nat):List Ld:=ls.map λq=>(q.1,fr p q.2 fresh f)
theorem ky.lead{p:Int}{L m:Nat}{ls:List Ld}{ns rows:List (List Int)}{row:List Int}{n:Int}{f:Nat}(hp:1<p)(E:ky p L m ls ns rows)(hr:Rw p L row)(hf:f<m)(h0:g (frees p ls row) f≠0)(hi:Inv p n (g (frees p ls row) f)) :
  ky p L m (led p ls (tm p n (frees p ls row)) f++[(f,tm p n (frees p ls row))]) ns (rows++[row]):=by
 obtain⟨h1,h2,h3⟩:=E.rest hp hr
 have k1:Rw p L (tm p n (frees p ls row)):=DR (by lia) n h1.len
 have kz:∀c,Z p c (tm p n (frees p ls row))↔Z p c (frees p ls row):=λc=>NZ _ c hi
 have kf:g (tm p n (frees p ls row)) f=1:=by
  rw[MH]
  have:n*g (frees p ls row) f%p=1%p:=hi
  rw[this]
  exact Int.emod_eq_of_lt (by lia) hp
 have k0:∀q∈ls,g (tm p n (frees p ls row)) q.1=0:=λq hq=>by rw[MH,h2 q hq];simp
 generalize tm p n (frees p ls row)=u at k1 kz kf k0
 have fne:∀q∈ls,q.1≠f:=λq hq e=>h0 (by rw[← e];exact h2 q hq)
 have hg:∀q∈ls,∀k,g (fr p q.2 u f) k=(g q.2 k-g q.2 f*g u k)%p:=λq hq k=>MF (by lia) f k (E.rl q hq) k1
 have mem:∀q,q∈led p ls u f++[(f,u)]->(∃q0∈ls,q=(q0.1,fr p q0.2 u f))∨q=(f,u):=λq hq=>by
  rcases List.mem_append.mp hq with h|h
  ·obtain⟨q0,h1,h2⟩:=List.mem_map.mp h
   exact .inl ⟨q0,h1,h2.symm⟩
  ·simp at h;exact .inr h
 have up:∀q0∈ls,(q0.1,fr p q0.2 u f)∈led p ls u f++[(f,u)]:=λq0 h=>List.mem_append_left _ (List.mem_map.mpr ⟨q0,h,rfl⟩)
 refine⟨?_,λq hq=>?_,λq hq=>?_,E.rn,λq hq=>?_,λq hq q' hq' hne=>?_,E.no,λc=>?_⟩
 ·have e1:(led p ls u f++[(f,u)]).map (·.1)=ls.map (·.1)++[f]:=by simp[led]
  rw[e1,List.nodup_append]
  refine⟨E.nd,by simp,λa ha b hb=>?_⟩
  simp at hb
  obtain⟨q,hq,rfl⟩:=List.mem_map.mp ha
  rw[hb]
  exact fne q hq
 ·rcases mem q hq with ⟨q0,h,rfl⟩|rfl
  ·exact E.key q0 h
  ·exact hf
 ·rcases mem q hq with ⟨q0,h,rfl⟩|rfl
  ·exact DQ (by lia) f (E.rl q0 h) k1
  ·exact k1
 ·rcases mem q hq with ⟨q0,h,rfl⟩|rfl
  ·show g (fr p q0.2 u f) q0.1=1
   rw[hg q0 h,E.one q0 h,k0 q0 h]
   simp
   exact Int.emod_eq_of_lt (by lia) hp
  ·exact kf
 ·rcases mem q hq with ⟨q0,h,rfl⟩|rfl
  ·show g (fr p q0.2 u f) q'.1=0
   rcases mem q' hq' with ⟨q1,h',rfl⟩|rfl
   ·have hne:q1.1≠q0.1:=hne
    show g (fr p q0.2 u f) q1.1=0
    rw[hg q0 h,E.off q0 h q1 h' hne,k0 q1 h']
    simp
   ·show g (fr p q0.2 u f) f=0
    rw[hg q0 h,kf]
    simp
  ·rcases mem q' hq' with ⟨q1,h',rfl⟩|rfl
   ·exact k0 q1 h'
   ·exact absurd rfl hne
 ·have key:∀q0∈ls,Z p c u->(Z p c (fr p q0.2 u f)↔Z p c q0.2):=λq0 h hz=>MG f (E.rl q0 h) k1 hz
  constructor
  ·intro h
   have a:=(E.eq c).mp λr hr=>h r (by simp[hr])
   have hz:Z p c u:=(kz c).mpr ((h3 c a.1).mpr (h row (by simp)))
   refine⟨λq hq=>?_,a.2⟩
   rcases mem q hq with ⟨q0,h',rfl⟩|rfl
   ·exact(key q0 h' hz).mpr (a.1 q0 h')
   ·exact hz
  ·rintro⟨a,b⟩ r hr
   have hz:Z p c u:=a (f,u) (by simp)
   have al:∀q∈ls,Z p c q.2:=λq hq=>(key q hq hz).mp (a _ (up q hq))
   rcases List.mem_append.mp hr with hr|hr
   ·exact(E.eq c).mpr ⟨al,b⟩ r hr
   ·simp at hr;subst hr
    exact(h3 c al).mp ((kz c).mp hz)
def lg:DS :=
 (aq (aC 3 (ah bg (aa 2) (aa 0)))
 (aq (sIf (ah fEq (aa 3) (dC (.int 0))) sS bB)
 (aq (aC 4 (ah bg (aa 1) (aa 0)))
 (aq (kP (ah fNe (aa 3) (dC (.int 1))) (aq (aC 4 (ah bg (ah aG (dUn Fx (aa 4)) (ah kN (aa 0) (aa 3))) (aa 0)))
 (aC 3 (ah bg (aa 0) (aa 3)))))
 (aH (aa 4))))))
def iP:DS :=
 (aH (aW (bD (aa 2)) [none,some 0,some 1] (av 0) (dC (.bl true)) (ah bg (ah aG (aa 2) (aa 0)) (aa 1))))
def e_:DS :=
 (aq (aC 4 (ao (aa 1) (aa 3)))
 (aq (sIf (ah fEq (aa 4) (dC (.int 0))) (aH (aa 1)) bB)
 (aH (aW (An (aa 1) (aa 2)) [none,none,some 0,some 4] (cT [0,1]) (dC (.bl true)) (ah bg (ah o7 (aa 0) (ah aG (aa 3) (aa 1))) (aa 2))))))
def cu:DS :=
 (aq (bE (aK (aa 1)) (av 2) (sIf (ah fNe (ao (aa 0) (aa 2)) (dC (.int 0))) (aH (aa 2)) bB))
 (aH (dC (.non))))
def mC:DS :=
 (aq (aC 3 (bG (dC (.dct []))))
 (aq (aC 4 (bG (eK [])))
 (aq (bE (bD (aa 1)) (av 5) (aq (aC 6 (aa 5))
 (aq (bE (kZ (aa 3)) (cT [7,8]) (aC 6 (ax (cal (fnV 5 e_)) [(aa 0),(aa 6),(aa 8),(aa 7)])))
 (aq (aC 9 (ax (cal (fnV 3 cu)) [(aa 6),(aa 2)]))
 (sIf (dUn o_ (aa 9)) (dB (aa 4) (aa 6)) (aq (aC 10 (ax (cal (fnV 3 iP)) [(aa 0),(ax (cal (fnV 5 lg)) [(aa 0),(dC (.int 1)),(ao (aa 6) (aa 9))]),(aa 6)]))
 (aq (bE (bD (dUn yH (aa 3))) (av 7) (nJ 3 (aa 7) (ax (cal (fnV 5 e_)) [(aa 0),(ah pI (aa 3) (aa 7)),(aa 10),(aa 9)])))
 (nJ 3 (aa 9) (aa 10)))))))))
 (aH (ee [(aa 3),(aa 4)])))))
abbrev li(r:List Int):T:=.lst (r.map T.int)
theorem oO{p:Int}(hP:hU p)(one other:Int)(μ:af)(h0:other%p≠0) :
  ∃y,fnV 5 lg [.val (.int p),.val (.int one),.val (.int other)] μ=.ok (.val (.int y)) μ/\0≤y/\y<p/\(y*other-one)%p=0:=by
 have hb:=hP.pos
 have hp0:0<p:=Int.lt_of_lt_of_le (by decide) hb.1
 unfold lg
 have hp:0<p:=by lia
 have z:(other%p==0)=false:=by simpa using h0
 (try simp_all! only[]);simp[hp,z]
 have r0:=Int.emod_nonneg other (Int.ne_of_gt hp0)
 have r1:=Int.emod_lt_of_pos other hp
 refine wV (P:=λr=>∃y,RS.uV μ.length (r.seq (aH (aa 4)))=R.ok (SV.val (T.int y)) μ/\0≤y/\y<p/\(y*other-one)%p=0) ?_
  (λn e μ'=>μ'=μ/\∃rest told:Int,e=[some (.val (.int p)),some (.val (.int one)),some (.val (.int other)),some (.val (.int rest)),some (.val (.int told))]/\rest.toNat=n/\1≤rest/\rest<p/\0≤told/\told<p/\∃t,told*other=one*rest+p*t) ?_ (other%p).toNat _ _ ?_
 ·rintro⟨y,h,_⟩;cases h
 ·rintro m e μ' ⟨rfl,rest,told,rfl,hm,q1,q2,q3,q4,t,ht⟩
  by_cases e1:rest=1
  ·subst e1
   refine⟨false,μ',by simp,?_⟩
   rw[if_neg (by simp)]
   refine⟨told,by simp,q3,q4,?_⟩
   rw[ht]
   simp
   exact Int.emod_eq_zero_of_dvd ⟨t,by lia⟩
  ·refine⟨true,μ',by simp[e1],?_⟩
   rw[if_pos rfl]
   have d1:0≤p / rest:=Int.ediv_nonneg (by lia) (by lia)
   have d2:p / rest≤p:=Int.ediv_le_self _ (by lia)
   have hm2:aG (.int (-told)) (.int (p / rest))=some (.int (-told*(p / rest))):=e8 _ _ (by lia) (by lia)
   have hr:0<rest:=by lia
   have hr2:rest<1073741824:=by lia
   (try simp_all! only[]);simp[hp,hr,hr2,hm2]
   have m0:=Int.emod_nonneg p (show rest≠0 by lia)
   have m1:=Int.emod_lt_of_pos p hr
   have m2:=MI hP rest (by lia) q2
   have t0:=Int.emod_nonneg (-told*(p / rest)) (Int.ne_of_gt hp0)
   have t1:=Int.emod_lt_of_pos (-told*(p / rest)) hp
   refine⟨(p%rest).toNat,by lia,p%rest,-told*(p / rest)%p,⟨rfl,rfl⟩,rfl,by lia,by lia,t0,t1,?_⟩
   obtain⟨u,hu⟩:=md (-told*(p / rest)) p
   have e3:p%rest=p-rest*(p / rest):=Int.emod_def p rest
   rw[hu,e3]
   refine⟨-(u*other)-(p / rest)*t-one,?_⟩
   generalize p / rest=d
   grind
 ·have b0:=Int.emod_nonneg one (Int.ne_of_gt hp0)
  have b1:=Int.emod_lt_of_pos one hp
  refine⟨rfl,_,_,rfl,rfl,by lia,r1,b0,b1,?_⟩
  obtain⟨u,hu⟩:=md one p
  obtain⟨v,hv⟩:=md other p
  exact⟨one*v-u*other,by rw[hu,hv];grind⟩
theorem vH{p:Int}{L:Nat}(hp:0<p)(hp2:p<1000000)(n:Int)(r:List Int)(μ:af)(h:Rw p L r)(hl:L≤1000) :
  fnV 3 iP [.val (.int p),.val (.int n),.val (li r)] μ=.ok (.val (li (tm p n r))) μ:=by
 unfold iP
 simp
 rw[cC _ (λe:Int=>.int (n*e%p)) (by simp)]
 ·rw[R.cw,R.aQ,if_pos (by have:=h.len;simp[szL];lia)]
  (try simp_all! only[]);simp[tm,Function.comp_def]
 ·intro e he
  have h1:=h.lo e he
  have h2:=h.hi e he
  refine⟨_,rfl,?_⟩
  have:aG (.int n) (.int e)=some (.int (n*e)):=gI _ _ (by lia) (by lia)
  (try simp_all! only[]);simp[this,hp]
theorem atg{r:List Int}{k:Int}(h0:0≤k)(h1:k<r.length):atI (r.map T.int) k=some (.int (g r k.toNat)):=by
 rw[mq h0 h1,qk r k.toNat (by lia)]
theorem vI{p:Int}{L:Nat}(hp:0<p)(hp2:p<1000000)(q:Nat)(row lead:List Int)(μ:af)(h1:Rw p L row)(h2:Rw p L lead)(hl:L≤1000)(hq:q<L) :
  fnV 5 e_ [.val (.int p),.val (li row),.val (li lead),.val (.int q)] μ=.ok (.val (li (fr p row lead q))) μ:=by
 unfold e_
 have ha:atI (row.map T.int) (q:Int)=some (.int (g row q)):=atg (by lia) (by have:=h1.len;lia)
 simp[ha]
 by_cases e:g row q=0
 ·simp[e,fr]
 ·have e':(g row q==0)=false:=by simpa using e
  simp[e,e']
  rw[Au,cC _ (λz:Int×Int=>.int ((z.1-g row q*z.2)%p)) (by simp)]
  ·rw[R.cw,R.aQ,if_pos (by have:=h1.len;simp[szL];lia)]
   (try simp_all! only[]);simp[fr,e,sub,Function.comp_def]
  ·rintro⟨x,y⟩ hz
   have b:=h1.g0 hp q
   refine⟨_,rfl,?_⟩
   have:aG (.int (g row q)) (.int y)=some (.int (g row q*y)):=e8 _ _ (by lia) (by lia)
   simp[this,hp]
theorem DT{p:Int}{L m:Nat}(r:List Int)(μ:af)(h:Rw p L r)(hm:m≤L)(hl:L≤1000) :
  (fnV 3 cu [.val (li r),.val (.int m)] μ=.ok (.val .non) μ/\∀j,j<m->g r j=0) ∨
  ∃f:Nat,fnV 3 cu [.val (li r),.val (.int m)] μ=.ok (.val (.int f)) μ/\f<m/\g r f≠0:=by
 unfold cu
 simp (disch:=lia)
 refine mr (P:=λx=>(RS.uV μ.length (x.seq (aH (dC .non)))=R.ok (SV.val .non) μ/\∀j,j<m->g r j=0)∨∃f:Nat,RS.uV μ.length (x.seq (aH (dC .non)))=R.ok (SV.val (.int f)) μ/\f<m/\g r f≠0)
  (λi e μ'=>μ'=μ/\(∀j,j<i->g r j=0)/\∃x,e=[some (.val (li r)),some (.val (.int m)),x]) (λ_ _ _ _=>trivial) ?_ ?_ ⟨rfl,by simp,none,rfl⟩
 ·rintro i t e μ' ht ⟨rfl,hz,x,rfl⟩
  obtain⟨hi,rfl⟩:=pG ht
  refine⟨_,rfl,?_⟩
  have hi':i<m:=by lia
  have ha:atI (r.map T.int) ((0:Int)+i)=some (.int (g r i)):=by
   have:=atg (r:=r) (k:=(0:Int)+i) (by lia) (by have:=h.len;lia)
   rwa [show((0:Int)+i).toNat=i by lia] at this
  simp at ha
  (try simp_all! only[]);simp[ha]
  by_cases e:g r i=0
  ·(try simp_all! only[]);simp[e]
   intro j hj
   by_cases ej:j=i
   ·rw[ej];exact e
   ·exact hz j (by lia)
  ·have e':(g r i==0)=false:=by simpa using e
   (try simp_all! only[]);simp[e,e']
   exact⟨i,rfl,hi',e⟩
 ·rintro e μ' ⟨rfl,hz,x,rfl⟩
  left
  refine⟨by simp,?_⟩
  rw[bA] at hz
  intro j hj
  exact hz j (by lia)
def dk(ls:List Ld):List (Key×T):=ls.map λq=>((.inl (q.1:Int):Key),li q.2)
theorem nA(a b:List Ld):dk (a++b)=dk a++dk b:=by simp[dk]
theorem DU(a:List Ld):(dk a).length=a.length:=by simp[dk]
theorem rX{ls:List Ld}{i:Nat}{t:T}(h:(dW (dk ls))[i]?=some t):∃q,ls[i]?=some q/\i<ls.length/\t=.tup [.int (q.1:Int),li q.2]:=by
 unfold dW dk at h
 rw[List.map_map,List.getElem?_map] at h
 obtain⟨q,h1,rfl⟩:=Option.map_eq_some_iff.mp h
 exact⟨q,h1,(List.getElem?_eq_some_iff.mp h1).1,rfl⟩
theorem xU(p:Int)(ls:List Ld)(row:List Int)(i:Nat)(q:Ld)(h:ls[i]?=some q):frees p (ls.take (i+1)) row=fr p (frees p (ls.take i) row) q.2 q.1:=by
 unfold frees
 rw[List.take_add_one,h]
 simp
theorem vJ{p:Int}{L:Nat}(hp:0<p):∀(ls:List Ld) (row:List Int),(∀q∈ls,Rw p L q.2)->Rw p L row->Rw p L (frees p ls row)
 | [],row,_,h=>h
 | q::ls,row,hq,h=>vJ hp ls _ (λq' h'=>hq q' (by simp[h'])) (DQ hp q.1 h (hq q (by simp)))
theorem GY{ls:List Ld}{q:Ld}(hn:(ls.map (·.1)).Nodup)(h:q∈ls):nU (dk ls) (.inl (q.1:Int))=some (li q.2):=by
 induction ls with
 | nil=>simp at h
 | cons a ls ih =>
  have hn':(a.1::ls.map (·.1)).Nodup:=hn
  obtain⟨h1,h2⟩:=List.nodup_cons.mp hn'
  have e:dk (a::ls)=((.inl (a.1:Int):Key),li a.2)::dk ls:=rfl
  rw[e]
  unfold nU
  rw[List.find?_cons]
  by_cases ea:a.1=q.1
  ·have:q=a:=by
    rcases List.mem_cons.mp h with h|h
    ·exact h
    ·exact absurd (List.mem_map.mpr ⟨q,h,ea.symm⟩) h1
   subst this
   simp
  ·have hne:¬ ((Sum.inl (a.1:Int):Key)=.inl (q.1:Int)):=λz=>ea (by have:=Sum.inl.inj z;lia)
   have:q∈ls:=by
    rcases List.mem_cons.mp h with h|h
    ·subst h;exact absurd rfl ea
    ·exact h
   simp only[hne,decide_false]
   exact ih h2 this
theorem DV(ls:List Ld)(f:Nat):((dk ls).any λkv=>decide (kv.1=(.inl (f:Int):Key)))=ls.any λq=>decide (q.1=f):=by
 unfold dk
 rw[List.any_map]
 congr 1
 funext q
 show decide ((Sum.inl (q.1:Int):Key)=.inl (f:Int))=decide (q.1=f)
 by_cases e:q.1=f
 ·simp[e]
 ·have:¬ ((Sum.inl (q.1:Int):Key)=.inl (f:Int)):=λz=>e (by have:=Sum.inl.inj z;lia)
  simp[e,this]
theorem DW{ls:List Ld}{f:Nat}(r:List Int)(h:∀q∈ls,q.1≠f):tE (dk ls) (.inl (f:Int)) (li r)=dk (ls++[(f,r)]):=by
 unfold tE
 rw[DV,if_neg,nA]
 ·rfl
 ·intro hc
  obtain⟨q,hq,e⟩:=List.any_eq_true.mp hc
  exact h q hq (of_decide_eq_true e)
theorem DX{a b:List Ld}{q:Ld}(r:List Int)(hn:((a++q::b).map (·.1)).Nodup):tE (dk (a++q::b)) (.inl (q.1:Int)) (li r)=dk (a++(q.1,r)::b):=by
 unfold tE
 rw[DV,if_pos (List.any_eq_true.mpr ⟨q,by simp,by simp⟩)]
 have ne:∀x∈a++b,¬ ((Sum.inl (x.1:Int):Key)=.inl (q.1:Int)):=λx hx z=>by
  have e:x.1=q.1:=by have:=Sum.inl.inj z;lia
  rw[List.map_append,List.nodup_append] at hn
  obtain⟨_,n2,n3⟩:=hn
  rcases List.mem_append.mp hx with h|h
  ·exact n3 x.1 (List.mem_map.mpr ⟨x,h,rfl⟩) q.1 (by simp) e
  ·have n2':(q.1::b.map (·.1)).Nodup:=n2
   exact(List.nodup_cons.mp n2').1 (List.mem_map.mpr ⟨x,h,e⟩)
 have same:∀l:List Ld,(∀x∈l,x∈a++b)->(dk l).map (λkv=>if kv.1=(.inl (q.1:Int):Key) then (kv.1,li r) else kv)=dk l:=λl hl=>by
  unfold dk
  rw[List.map_map]
  refine List.map_congr_left λx hx=>?_
  show(if (Sum.inl (x.1:Int):Key)=.inl (q.1:Int) then _ else _)=_
  rw[if_neg (ne x (hl x hx))]
 rw[nA,List.map_append,same a (λx h=>by simp[h]),nA]
 congr 1
 show(if (Sum.inl (q.1:Int):Key)=.inl (q.1:Int) then _ else _)::(dk b).map _=_
 rw[if_pos rfl,same b (λx h=>by simp[h])]
 rfl
section
variable{p:Int}{L m:Nat}
theorem J_(hP:hU p)(hl:L≤1000)(hmL:m≤L){ls:List Ld}{row:List Int}(hk:∀q∈ls,q.1<m)(rl:∀q∈ls,Rw p L q.2)(hr:Rw p L row)(same:af->Prop)(μ:af)(hs:same μ)(x1 x2 x3 x4 x5 x7 x8 x9 x10:Option SV) :
  ∃y7 y8,forL same (cT [7,8]) (aC 6 (ax (cal (fnV 5 e_)) [(aa 0),(aa 6),(aa 8),(aa 7)])) (dW (dk ls)) [some (.val (.int p)),x1,x2,x3,x4,x5,some (.val (li row)),x7,x8,x9,x10] μ =
   .nx [some (.val (.int p)),x1,x2,x3,x4,x5,some (.val (li (frees p ls row))),y7,y8,x9,x10] μ:=by
 have hb:=hP.pos
 have hp0:0<p:=Int.lt_of_lt_of_le (by decide) hb.1
 obtain⟨e',μ',h1,y7,y8,h2,h3⟩:=cx (same:=same) (b:=cT [7,8]) (body:=aC 6 (ax (cal (fnV 5 e_)) [(aa 0),(aa 6),(aa 8),(aa 7)])) (ts:=dW (dk ls))
  (e:=[some (.val (.int p)),x1,x2,x3,x4,x5,some (.val (li row)),x7,x8,x9,x10]) (μ:=μ)
  (λi e μ'=>∃y7 y8,μ'=μ/\e=[some (.val (.int p)),x1,x2,x3,x4,x5,some (.val (li (frees p (ls.take i) row))),y7,y8,x9,x10])
  (λi e μ' aj=>by obtain⟨_,_,h,_⟩:=aj;rw[h];exact hs) (λi t e μ' ht b9=>by
   obtain⟨y7,y8,hμ,he⟩:=b9
   subst hμ he
   obtain⟨q,hq,hi,rfl⟩:=rX ht
   have hm:q∈ls:=List.mem_of_getElem? hq
   have hf:=vI (p:=p) (L:=L) (by lia) (by lia) q.1 (frees p (ls.take i) row) q.2 μ' (vJ (by lia) _ _ (λq' h'=>rl q' (List.mem_of_mem_take h')) hr) (rl q hm) hl (by have:=hk q hm;lia)
   refine⟨_,_,_,dZ _ _ _ _ _,?_,some (.val (.int q.1)),some (.val (li q.2)),rfl,rfl⟩
   rw[xU p ls row i q hq]
   simp only[gJ,fk,bh,cU,cP,List.set_cons_succ,List.set_cons_zero,bU,bT,R.aP,R.aQ,jg]
   rw[hf]
   rfl) ⟨x7,x8,rfl,rfl⟩
 refine⟨y7,y8,?_⟩
 rw[h1,h2,h3]
 have:(dW (dk ls)).length=ls.length:=by simp[dW,dk]
 rw[this,List.take_length]
theorem DY(u:List Int)(f:Nat)(ls:List Ld)(i:Nat)(q:Ld)(h:ls[i]?=some q):led p (ls.take (i+1)) u f=led p (ls.take i) u f++[(q.1,fr p q.2 u f)]:=by
 unfold led
 rw[List.take_add_one,h]
 simp
theorem DZ{ls:List Ld}{i:Nat}{t:T}(h:((dk ls).map λp=>uT p.1)[i]?=some t):∃q,ls[i]?=some q/\i<ls.length/\t=.int (q.1:Int):=by
 unfold dk at h
 rw[List.map_map,List.getElem?_map] at h
 obtain⟨q,h1,rfl⟩:=Option.map_eq_some_iff.mp h
 exact⟨q,h1,(List.getElem?_eq_some_iff.mp h1).1,rfl⟩
theorem Ka(hP:hU p)(hl:L≤1000)(hmL:m≤L){ls:List Ld}{u:List Int}{f:Nat}(hn:(ls.map (·.1)).Nodup)(hf:f<m)(rl:∀q∈ls,Rw p L q.2)(hu:Rw p L u)(hsz:ls.length<szL)(same:af->Prop)(hs:∀μ,same μ)(μ tl:af)(x1 x2 x4 x5 x6 x7 x8:Option SV) :
  ∃y7,forL same (av 7) (nJ 3 (aa 7) (ax (cal (fnV 5 e_)) [(aa 0),(ah pI (aa 3) (aa 7)),(aa 10),(aa 9)])) ((dk ls).map λp=>uT p.1)
   [some (.val (.int p)),x1,x2,some (.cel μ.length),x4,x5,x6,x7,x8,some (.val (.int f)),some (.val (li u))] (μ++(true,.dct (dk ls))::tl) =
   .nx [some (.val (.int p)),x1,x2,some (.cel μ.length),x4,x5,x6,y7,x8,some (.val (.int f)),some (.val (li u))] (μ++(true,.dct (dk (led p ls u f)))::tl):=by
 have hb:=hP.pos
 have hp0:0<p:=Int.lt_of_lt_of_le (by decide) hb.1
 obtain⟨e',μ',h1,y7,h2,h3⟩:=cx (same:=same) (b:=av 7) (body:=nJ 3 (aa 7) (ax (cal (fnV 5 e_)) [(aa 0),(ah pI (aa 3) (aa 7)),(aa 10),(aa 9)])) (ts:=(dk ls).map λp=>uT p.1)
  (e:=[some (.val (.int p)),x1,x2,some (.cel μ.length),x4,x5,x6,x7,x8,some (.val (.int f)),some (.val (li u))]) (μ:=μ++(true,.dct (dk ls))::tl)
  (λi e μ'=>∃y7,μ'=μ++(true,.dct (dk (led p (ls.take i) u f++ls.drop i)))::tl/\e=[some (.val (.int p)),x1,x2,some (.cel μ.length),x4,x5,x6,y7,x8,some (.val (.int f)),some (.val (li u))])
  (λi e μ' _=>hs μ') (λi t e μ' ht aj=>by
   obtain⟨y7,hμ,he⟩:=aj
   subst hμ he
   obtain⟨q,hq,hi,rfl⟩:=DZ ht
   have hm:q∈ls:=List.mem_of_getElem? hq
   have hd:ls.drop i=q::ls.drop (i+1):=by
    rw[List.drop_eq_getElem_cons hi]
    congr 1
    rw[List.getElem?_eq_getElem hi] at hq
    exact Option.some.inj hq
   have HW:(led p (ls.take i) u f++q::ls.drop (i+1)).map (·.1)=ls.map (·.1):=by
    rw[← hd,List.map_append]
    have:(led p (ls.take i) u f).map (·.1)=(ls.take i).map (·.1):=by unfold led;rw[List.map_map];rfl
    rw[this,← List.map_append,List.take_append_drop]
   have hnd:((led p (ls.take i) u f++q::ls.drop (i+1)).map (·.1)).Nodup:=by rw[HW];exact hn
   have hlen:(dk (led p (ls.take i) u f++q::ls.drop (i+1))).length<szL:=by
    have:=congrArg List.length HW
    simp only[List.length_map] at this
    rw[DU,this];exact hsz
   have hv:=GY hnd (q:=q) (by simp)
   have hfr:=vI (p:=p) (L:=L) (by lia) (by lia) f q.2 u (μ++(true,.dct (dk (led p (ls.take i) u f++q::ls.drop (i+1))))::tl) (rl q hm) hu hl (by lia)
   rw[hd]
   refine⟨_,_,_,ig _ _ _,?_,some (.val (.int q.1)),rfl,rfl⟩
   rw[DY u f ls i q hq,List.append_assoc,List.singleton_append,← DX (fr p q.2 u f) hnd]
   simp only[pJ,fk,bh,cU,cP,List.set_cons_succ,List.set_cons_zero,bU,bT,R.aP,R.aQ,R.toS_ok,jg,gH,hJ,g9,eC,Option.map_some,ma,Ax,hv]
   rw[hfr]
   simp only[R.cw,R.toS_ok,l9]
   rw[rH (kts:=dk (led p (ls.take i) u f++q::ls.drop (i+1))) (by simp) hlen]
   simp) ⟨x7,by simp[led],rfl⟩
 refine⟨y7,?_⟩
 rw[h1,h2,h3]
 have:((dk ls).map λp=>uT p.1).length=ls.length:=by simp[dk]
 rw[this,List.take_length,List.drop_length,List.append_nil]
end
seal RS.wU
theorem vK{r:RS}{k:Slots->af->RS}{I:Slots->af->Prop}{P:RS->Prop}{e':Slots}{μ':af}(h:r=.nx e' μ')(hk:(k e' μ').wU I P):(r.seq k).wU I P:=by rw[h];exact hk
section
variable{p:Int}{L m:Nat}
theorem D0(hP:hU p)(hl:L≤1000)(hmL:m≤L)(rows:List (List Int))(hR:∀r∈rows,Rw p L r)(hrn:rows.length≤1000)(x:SV)(μ:af)(hx:∀l,rd (μ++l) x=some (.lst (rows.map li))) :
  ∃ls ns,fnV 11 mC [.val (.int p),x,.val (.int m)] μ=.ok (.val (.tup [.dct (dk ls),.lst (ns.map li)])) μ/\ky p L m ls ns rows/\ls.length+ns.length=rows.length:=by
 have hb:=hP.pos
 have hp0:0<p:=Int.lt_of_lt_of_le (by decide) hb.1
 unfold mC
 simp[hx]
 refine mr (P:=λr=>∃ls ns,RS.uV μ.length (r.seq (aH (ee [aa 3,aa 4])))=R.ok (SV.val (.tup [.dct (dk ls),.lst (ns.map li)])) μ/\ky p L m ls ns rows/\ls.length+ns.length=rows.length)
  (λi e μ'=>∃ls ns x5 x6 x7 x8 x9 x10,e=[some (.val (.int p)),some x,some (.val (.int m)),some (.cel μ.length),some (.cel (μ.length+1)),x5,x6,x7,x8,x9,x10]/\μ'=μ++[(true,.dct (dk ls)),(true,.lst (ns.map li))]/\ky p L m ls ns (rows.take i)/\ls.length+ns.length=i)
  ?_ ?_ ?_ ⟨[],[],none,none,none,none,none,none,rfl,rfl,ky.start p L m,rfl⟩
 ·rintro i e μ' ⟨ls,ns,_,_,_,_,_,_,_,h,_⟩
  rw[h];exact hx _
 ·rintro i t e μ' ht ⟨ls,ns,x5,x6,x7,x8,x9,x10,rfl,rfl,E,hlen⟩
  rw[List.getElem?_map] at ht
  obtain⟨row,xV,rfl⟩:=Option.map_eq_some_iff.mp ht
  have hi:i<rows.length:=(List.getElem?_eq_some_iff.mp xV).1
  have hr:Rw p L row:=hR row (List.mem_of_getElem? xV)
  have htk:rows.take (i+1)=rows.take i++[row]:=by rw[List.take_add_one,xV];rfl
  obtain⟨r1,r2,r3⟩:=E.rest (by lia) hr
  refine⟨_,ig _ _ _,?_⟩
  (try simp_all! only[]);simp only[fQ,gJ,cU,List.set_cons_succ,List.set_cons_zero,bU,bT,R.aP,R.toS_ok,RS.bV,jT,m7,R.aQ,hJ,eC,Option.map_some,Option.bind_some,yO]
  obtain⟨y7,y8,h⟩:=J_ hP hl hmL E.key E.rl hr (λμ'=>Option.map (λx=>x.snd) μ'[List.length μ]?=some (T.dct (dk ls))) (μ++[(true,T.dct (dk ls)),(true,T.lst (ns.map li))]) (by simp) (some x) (some (.val (.int m))) (some (.cel μ.length)) (some (.cel (μ.length+1))) (some (.val (li row))) x7 x8 x9 x10
  refine vK h ?_
  clear h
  simp only[fQ,gJ,cU,fk,bh,cP,jg,List.set_cons_succ,List.set_cons_zero,bU,bT,R.aP,R.aQ,R.toS_ok,RS.bV]
  have hfo:=DT (m:=m) (frees p ls row) (μ++[(true,T.dct (dk ls)),(true,T.lst (ns.map li))]) r1 hmL hl
  generalize fnV 3 cu [.val (li (frees p ls row)),.val (.int m)] (μ++[(true,T.dct (dk ls)),(true,T.lst (ns.map li))])=G at hfo ⊢
  rcases hfo with ⟨rfl,hz⟩|⟨f,rfl,hfm,hne⟩
  ·skip
   have hsz:(ns.map li).length<szL:=by rw[List.length_map];unfold szL;lia
   (try simp_all! only[]);simp[wO _ _ _ _ _ hsz]
   refine⟨ls,ns++[frees p ls row],⟨rfl,by simp⟩,?_,by simp;lia⟩
   rw[htk]
   exact E.J9 (by lia) hr hz
  ·skip
   have ha:atI ((frees p ls row).map T.int) (f:Int)=some (.int (g (frees p ls row) f)):=atg (by lia) (by rw[r1.len];lia)
   have gb:=r1.g0 (p:=p) (by lia) f
   have Bp:g (frees p ls row) f%p≠0:=by rw[Int.emod_eq_of_lt gb.1 gb.2];exact hne
   obtain⟨y,ho,y0,y1,yz⟩:=oO hP 1 (g (frees p ls row) f) (μ++[(true,T.dct (dk ls)),(true,T.lst (ns.map li))]) Bp
   have ht:=vH (p:=p) (L:=L) (by lia) (by lia) y (frees p ls row) (μ++[(true,T.dct (dk ls)),(true,T.lst (ns.map li))]) r1 hl
   have hinv:Inv p y (g (frees p ls row) f):=by
    unfold Inv
    exact Int.emod_eq_emod_iff_emod_sub_eq_zero.mpr yz
   have hE:=E.lead (by lia) hr hfm hne hinv
   have fne:∀q∈ls,q.1≠f:=λq hq e=>hne (by rw[← e];exact r2 q hq)
   generalize hu:tm p y (frees p ls row)=u at ht hE
   have hu2:Rw p L u:=by rw[← hu];exact DR (by lia) y r1.len
   (try simp_all! only[]);simp only[R.cw,R.toS_ok,wG,sM,cU,List.set_cons_succ,List.set_cons_zero,bU,bT,R.aP,R.aQ,g9,l_,Al,Option.map_some,gg,Bool.false_eq_true,if_false,fQ,gJ,fk,bh,cP,jg,oY,iB,Option.bind_some,mf,ha,ho,ht,RS.bV,jT,sV,hJ,eC,yH,fR]
   refine(Ka hP hl hmL E.nd hfm E.rl hu2 (by unfold szL;lia) _ ?_ _ _ _ _ _ _ _ _ _).elim λy7 h=>vK h ?_
   ·intro μ'';trivial
   have hkl:(dk (led p ls u f)).length<szL:=by rw[DU];simp[led];unfold szL;lia
   simp only[pJ,cU,bU,bT,R.aP,R.toS_ok,g9,l9]
   rw[rH (kts:=dk (led p ls u f)) (by simp) hkl]
   (try simp_all! only[]);simp only[R.aP,R.toS_ok,Gd,iG]
   rw[DW u (λq hq=>by
    obtain⟨q0,h0,rfl⟩:=List.mem_map.mp hq
    exact fne q0 h0)]
   refine⟨_,ns,_,_,_,_,_,_,rfl,rfl,?_,?_⟩
   ·rw[htk];exact hE
   ·simp[led];lia
 ·rintro e μ' ⟨ls,ns,x5,x6,x7,x8,x9,x10,rfl,rfl,E,hlen⟩
  rw[List.length_map,List.take_length] at E
  rw[List.length_map] at hlen
  exact⟨ls,ns,by simp,E,hlen⟩
end
def eu(n k:Nat):List Int:=(List.replicate n 0).set k 1
theorem ed(n:Nat)(r:List Int):dot (List.replicate n 0) r=0:=by
 induction n generalizing r with
 | zero=>simp
 | succ n ih=>cases r with
  | nil=>simp
  | cons x r=>rw[List.replicate_succ,bf,ih];simp
theorem lU:∀(n k:Nat) (r:List Int),k<n->dot (eu n k) r=g r k
 | 0,k,r,h=>by lia
 | n+1,0,r,h=>by
  cases r with
  | nil=>simp[g]
  | cons x r =>
   have:eu (n+1) 0=1::List.replicate n 0:=by simp[eu,List.replicate_succ]
   rw[this,bf,ed,eZ];lia
 | n+1,k+1,r,h=>by
  have e:eu (n+1) (k+1)=0::eu n k:=by simp[eu,List.replicate_succ]
  cases r with
  | nil=>simp[g]
  | cons x r=>rw[e,bf,dY,lU n k r (by lia)];lia
theorem zl(l r:List Int):dot (l.map λx=>-x) r=- dot l r:=by
 induction l generalizing r with
 | nil=>simp
 | cons x l ih=>cases r with
  | nil=>simp
  | cons y r=>simp only[List.map_cons,bf,ih];rw[Int.neg_mul];lia
theorem ql:∀(xs ys:List Int),(∀i,g xs i*g ys i=0)->dot xs ys=0
 | [],ys,h=>by simp
 | x::xs,[],h=>by simp
 | x::xs,y::ys,h=>by
  rw[bf,ql xs ys λi=>by simpa [dY] using h (i+1)]
  have:=h 0
  rw[eZ,eZ] at this
  lia
theorem qm:∀(xs ys:List Int) (k:Nat),(∀i,i≠k->g xs i*g ys i=0)->dot xs ys=g xs k*g ys k
 | [],ys,k,h=>by simp[g]
 | x::xs,[],k,h=>by simp[g]
 | x::xs,y::ys,0,h=>by
  rw[bf,ql xs ys λi=>by simpa [dY] using h (i+1) (by lia),eZ,eZ];lia
 | x::xs,y::ys,k+1,h=>by
  have:=h 0 (by lia)
  rw[eZ,eZ] at this
  rw[bf,this,qm xs ys k λi hi=>by simpa [dY] using h (i+1) (by lia),dY,dY];lia
theorem uc(r:List Int)(n k:Nat)(h:k<n):g (r.take n) k=g r k:=by
 simp[g,List.getD_eq_getElem?_getD,List.getElem?_take,h]
theorem xW(r:List Int)(n k:Nat)(h:n≤k):g (r.take n) k=0:=by
 simp[g,List.getD_eq_getElem?_getD,List.getElem?_take,Nat.not_lt.mpr h]
theorem HX(r:List Int)(k j:Nat)(v:Int)(h:k<r.length):g (r.set k v) j=if j=k then v else g r j:=by
 by_cases e:j=k
 ·subst e;simp[g,List.getD_eq_getElem?_getD,h]
 ·simp[g,List.getD_eq_getElem?_getD,List.getElem?_set,e,Ne.symm e]
theorem D1(r:List Int)(m:Nat)(h:m<r.length):r=r.take m++g r m::r.drop (m+1):=by
 rw[qk r m h,← List.drop_eq_getElem_cons h,List.take_append_drop]
theorem iu(a c r:List Int)(b:Int)(m:Nat)(ha:a.length=m)(h:m<r.length):dot (a++b::c) r=dot a (r.take m)+b*g r m+dot c (r.drop (m+1)):=by
 have e:=D1 r m h
 have:dot (a++b::c) (r.take m++g r m::r.drop (m+1))=dot a (r.take m)+(b*g r m+dot c (r.drop (m+1))):=by
  rw[lT _ _ _ _ (by simp[ha];lia),bf]
 rw[← e] at this
 rw[this];lia
theorem Kb(n k:Nat):(eu n k).length=n:=by simp[eu]
theorem qo{p:Int}(hp:1<p)(n:Nat):Rw p n (List.replicate n 0):=⟨by simp,λx hx=>by have:=(List.mem_replicate.mp hx).2;lia,λx hx=>by have:=(List.mem_replicate.mp hx).2;lia⟩
theorem Rw.set{p:Int}{n k:Nat}{r:List Int}{v:Int}(h:Rw p n r)(h0:0≤v)(h1:v<p):Rw p n (r.set k v):=by
 refine⟨by simp[h.len],λx hx=>?_,λx hx=>?_⟩
 ·rcases List.mem_or_eq_of_mem_set hx with z|z
  ·exact h.lo x z
  ·lia
 ·rcases List.mem_or_eq_of_mem_set hx with z|z
  ·exact h.hi x z
  ·lia
theorem Rw.append{p:Int}{n k:Nat}{r s:List Int}(h:Rw p n r)(h':Rw p k s):Rw p (n+k) (r++s):=by
 refine⟨by simp[h.len,h'.len],λx hx=>?_,λx hx=>?_⟩
 ·rcases List.mem_append.mp hx with z|z
  ·exact h.lo x z
  ·exact h'.lo x z
 ·rcases List.mem_append.mp hx with z|z
  ·exact h.hi x z
  ·exact h'.hi x z
theorem Rw.drop{p:Int}{n k:Nat}{r:List Int}(h:Rw p n r):Rw p (n-k) (r.drop k) :=
 ⟨by simp[h.len],λx hx=>h.lo x (List.mem_of_mem_drop hx),λx hx=>h.hi x (List.mem_of_mem_drop hx)⟩
def col(lines:List (List Int))(j:Nat):List Int:=lines.map λl=>g l j
def aug(w:Nat)(lines:List (List Int))(ws:List Int)(j:Nat):List Int:=(col lines j++[g ws j])++eu w j
section
variable{p:Int}{w:Nat}{lines:List (List Int)}{ws:List Int}
theorem Kc(hp:0<p)(hl:∀l∈lines,Rw p w l)(j:Nat):Rw p lines.length (col lines j):=by
 refine⟨by simp[col],λx hx=>?_,λx hx=>?_⟩
 ·obtain⟨l,h,rfl⟩:=List.mem_map.mp hx
  exact((hl l h).g0 hp j).1
 ·obtain⟨l,h,rfl⟩:=List.mem_map.mp hx
  exact((hl l h).g0 hp j).2
theorem Ke(hp:1<p)(hl:∀l∈lines,Rw p w l)(hw:Rw p w ws)(j:Nat):Rw p (lines.length+1+w) (aug w lines ws j):=by
 have g0:=hw.g0 (by lia) j
 have h1:Rw p 1 [g ws j]:=⟨rfl,λx hx=>by simp at hx;lia,λx hx=>by simp at hx;lia⟩
 exact((Kc (by lia) hl j).append h1).append ((qo hp w).set (by lia) hp)
theorem MJ(k j:Nat)(h:k<lines.length):g (col lines j) k=g lines[k] j:=by
 rw[qk _ _ (by simp[col,h])];simp[col]
theorem rY(j:Nat):(aug w lines ws j).take lines.length=col lines j/\g (aug w lines ws j) lines.length=g ws j/\(aug w lines ws j).drop (lines.length+1)=eu w j:=by
 have hc:(col lines j).length=lines.length:=by simp[col]
 refine⟨?_,?_,?_⟩
 ·unfold aug;rw[List.append_assoc,List.take_append_of_le_length (by lia),List.take_of_length_le (by lia)]
 ·unfold aug;rw[qk _ _ (by simp[hc])];simp[hc]
 ·unfold aug;rw[List.drop_append_of_le_length (by simp[hc]),List.drop_of_length_le (by simp[hc]),List.nil_append]
theorem told{ls:List Ld}{ns:List (List Int)}(hp:1<p)(E:ky p (lines.length+1+w) lines.length ls ns ((List.range w).map λj=>aug w lines ws j)){r:List Int}(hr:r∈ns)(hw:ws.length=w)(hl:∀l∈lines,l.length=w) :
  (∀l∈lines,p ∣ dot l (r.drop (lines.length+1)))/\p ∣ g r lines.length-dot ws (r.drop (lines.length+1)):=by
 have hrl:=(E.rn r hr).len
 have use:∀(a v:List Int) (b:Int),a.length=lines.length->(∀j,j<w->dot a (col lines j)+b*g ws j=g v j)->p ∣ dot a (r.take lines.length)+b*g r lines.length-dot v (r.drop (lines.length+1)):=λa v b ha hv=>by
  have hz:=((E.eq (a++b::v.map λx=>-x)).mp λq hq=>by
   obtain⟨j,hj,rfl⟩:=List.mem_map.mp hq
   have hj:j<w:=List.mem_range.mp hj
   obtain⟨e1,e2,e3⟩:=rY (w:=w) (lines:=lines) (ws:=ws) j
   unfold Z
   rw[iu a _ _ b lines.length ha (by simp[aug,col]),e1,e2,e3,zl,mM v (eu w j),lU w j v hj,hv j hj]
   exact⟨0,by lia⟩).2 r hr
  unfold Z at hz
  rw[iu a _ _ b lines.length ha (by lia),zl] at hz
  exact hz
 refine⟨λl hl'=>?_,?_⟩
 ·obtain⟨k,hk,rfl⟩:=List.mem_iff_getElem.mp hl'
  have:=use (eu lines.length k) lines[k] 0 (Kb _ _) λj hj=>by rw[lU _ _ _ hk,MJ k j hk];lia
  rw[lU _ _ _ hk,uc _ _ _ hk,E.no r hr k hk] at this
  obtain⟨t,ht⟩:=this
  exact⟨-t,by rw[Int.mul_neg];lia⟩
 ·have:=use (List.replicate lines.length 0) ws 1 (by simp) λj hj=>by rw[ed];lia
  rw[ed] at this
  simpa using this
theorem Kf{ls:List Ld}{ns:List (List Int)}(hp:1<p)(E:ky p (lines.length+1+w) lines.length ls ns ((List.range w).map λj=>aug w lines ws j))(h0:∀r∈ns,g r lines.length=0){ms:List Int}(hm:ms.length=lines.length)
  (h1:∀q∈ls,g ms q.1=g q.2 lines.length) (h2:∀i,(∀q∈ls,q.1≠i)->g ms i=0) (j:Nat) (hj:j<w):p ∣ dot ms (col lines j)-g ws j:=by
 have hz:=(E.eq (ms++(-1)::List.replicate w 0)).mpr ⟨λq hq=>?_,λr hr=>?_⟩ (aug w lines ws j) (List.mem_map.mpr ⟨j,List.mem_range.mpr hj,rfl⟩)
 ·obtain⟨e1,e2,e3⟩:=rY (w:=w) (lines:=lines) (ws:=ws) j
  unfold Z at hz
  rw[iu ms _ _ _ lines.length hm (by simp[aug,col]),e1,e2,ed] at hz
  obtain⟨t,ht⟩:=hz
  exact⟨t,by lia⟩
 ·unfold Z
  rw[iu ms _ _ _ lines.length hm (by rw[(E.rl q hq).len];lia),ed,qm ms (q.2.take lines.length) q.1,uc _ _ _ (E.key q hq),E.one q hq,h1 q hq]
  ·exact⟨0,by lia⟩
  ·intro i hi
   by_cases hk:∃q'∈ls,q'.1=i
   ·obtain⟨q',hq',rfl⟩:=hk
    rw[uc _ _ _ (E.key q' hq'),E.off q hq q' hq' hi];simp
   ·rw[h2 i λq' hq' e=>hk ⟨q',hq',e⟩];simp
 ·unfold Z
  rw[iu ms _ _ _ lines.length hm (by rw[(E.rn r hr).len];lia),ed,h0 r hr,ql]
  ·exact⟨0,by lia⟩
  ·intro i
   by_cases hi:i<lines.length
   ·rw[uc _ _ _ hi,E.no r hr i hi];simp
   ·rw[xW _ _ _ (by lia)];simp
end
def cJ:DS :=
 (aH (aW (bD (aa 1)) [none,some 0,some 2] (av 0) (dC (.bl true)) (ah bg (ao (aa 0) (aa 2)) (aa 1))))
def nq:DS :=
 (aq (aC 2 (bG (kl jh [(dC (.int 0))] (aa 0))))
 (aq (cO 2 (aa 1) (dC (.int 1)))
 (aH (aa 2))))
def nr:DS :=
 (aq (aC 4 (cS (aa 2)))
 (aq (aC 5 (bG (eK [])))
 (aq (bE (aK (aa 1)) (av 6) (dB (aa 5) (ah bx (ah bx (ax (cal (fnV 3 cJ)) [(aa 0),(aa 2),(aa 6)]) (eK [(ah bg (ao (aa 3) (aa 6)) (aa 0))])) (ax (cal (fnV 3 nq)) [(aa 1),(aa 6)]))))
 (aq (aC 7 (ax (cal (fnV 11 mC)) [(aa 0),(aa 5),(aa 4)]))
 (aq (bE (bD (ao (aa 7) (dC (.int 1)))) (av 8) (sIf (ah fNe (ao (aa 8) (aa 4)) (dC (.int 0))) (aH (uP [(dC (.str "turn")),(dUn cH (ax (cal (fnV 3 iP)) [(aa 0),(ax (cal (fnV 5 lg)) [(aa 0),(dC (.int 1)),(ao (aa 8) (aa 4))]),(Ck (aa 8) (some (ah bx (aa 4) (dC (.int 1)))) none)]))])) bB))
 (aq (aC 9 (bG (kl jh [(dC (.int 0))] (aa 4))))
 (aq (bE (kZ (ao (aa 7) (dC (.int 0)))) (cT [6,10]) (cO 9 (aa 6) (ao (aa 10) (aa 4))))
 (aH (uP [(dC (.str "sum")),(aa 9)])))))))))
abbrev tu(r:List Int):T:=.tup (r.map T.int)
theorem GZ{μ:af}{x:SV}{ts:List T}(h:rd μ x=some (.lst ts)):nT μ x=some (.int ts.length):=by
 cases x with
 | val t=>cases h;rfl
 | cel k=>rw[Cg,h];rfl
 | box xs=>cases h
 | lbx xs=>cases h
section
variable{p:Int}{w:Nat}{lines:List (List Int)}{ws:List Int}
def mdl(p:Int)(l:List Int):List Int:=l.map (·%p)
theorem MK(p:Int)(l:List Int)(j:Nat):g (mdl p l) j=g l j%p:=by
 unfold g mdl
 rw[List.getD_eq_getElem?_getD,List.getD_eq_getElem?_getD,List.getElem?_map]
 cases l[j]? with
 | none=>simp
 | some x=>simp
theorem ML{l:List Int}(hp:0<p)(h:l.length=w):Rw p w (mdl p l):=by
 refine⟨by unfold mdl;rw[List.length_map];exact h,λx hx=>?_,λx hx=>?_⟩
 ·obtain⟨y,_,rfl⟩:=List.mem_map.mp hx;exact Int.emod_nonneg _ (by lia)
 ·obtain⟨y,_,rfl⟩:=List.mem_map.mp hx;exact Int.emod_lt_of_pos _ hp
theorem vL(hp:0<p)(hl:∀l∈lines,l.length=w)(hn:lines.length≤1000)(j:Nat)(hj:j<w)(x:SV)(μ:af)(hx:rd μ x=some (.lst (lines.map tu))) :
  fnV 3 cJ [.val (.int p),x,.val (.int j)] μ=.ok (.val (li (col (lines.map (mdl p)) j))) μ:=by
 unfold cJ
 (try simp_all! only[]);simp[hx]
 rw[cC _ (λl:List Int=>.int (g l j%p)) (by simp[hx])]
 ·rw[R.cw,R.aQ,if_pos (by simp[szL];lia)]
  (try simp_all! only[]);simp[col,Function.comp_def,MK]
 ·intro l hm
  have h:=hl l hm
  refine⟨_,rfl,?_⟩
  have ha:atI (l.map T.int) (j:Int)=some (.int (g l j)):=by
   have:=atg (r:=l) (k:=(j:Int)) (by lia) (by rw[h];lia)
   simpa using this
  (try simp_all! only[]);simp[ha,hp]
theorem G0(xs:List T)(k:Int)(h:-(2 ^ 63)≤k/\k<2 ^ 63/\xs.length*k.toNat≤szL):jh (.lst xs) (.int k)=some (.lst (List.replicate k.toNat xs).flatten):=if_pos h
theorem rep0(n:Nat)(h:n≤1000):jh (.lst [.int 0]) (.int (n:Int))=some (li (List.replicate n 0)):=by
 have hn:(n:Int).toNat=n:=by lia
 have hz:[T.int 0].length*(n:Int).toNat≤szL:=by
  rw[hn]
  unfold szL
  simp
  lia
 rw[G0 _ _ ⟨by lia,by lia,hz⟩,hn,List.flatten_replicate_singleton,li,List.map_replicate]
theorem hs_(w j:Nat)(hj:j<w)(μ:af):setAt (.cel μ.length) (.int (j:Int)) (.int 1) (μ++[(true,li (List.replicate w 0))])=some (μ++[(true,li (eu w j))]):=by
  rw[ml (ts:=(List.replicate w 0).map T.int) eC (by lia) (by rw[List.length_map,List.length_replicate];lia),iG]
  have:(j:Int).toNat=j:=by lia
  rw[this]
  unfold eu li
  rw[List.map_set]
theorem Kg(f:T->T->Option T)(x y:Int)(z z2:T)(μ:af)(hr:f (.lst [.int 0]) (.int x)=some z)(hs:setAt (.cel μ.length) (.int y) (.int 1) (μ++[(true,z)])=some (μ++[(true,z2)])):fnV 3 (aq (aC 2 (bG (kl f [(dC (.int 0))] (aa 0))))
 (aq (cO 2 (aa 1) (dC (.int 1)))
 (aH (aa 2)))) [.val (.int x),.val (.int y)] μ=.ok (.val z2) μ:=by
 simp[hr,hs]
theorem G1(j:Nat)(hj:j<w)(hw:w≤1000)(μ:af):fnV 3 nq [.val (.int w),.val (.int j)] μ=.ok (.val (li (eu w j))) μ :=
 Kg jh w j _ _ μ (rep0 w hw) (hs_ w j hj μ)
theorem D2(f:T->T->Option T)(i j:Nat)(e:Slots)(μ:af)(k:Int)(t:T)(hs:slot e j=some (.val (.int k)))(h:f (.lst [.int 0]) (.int k)=some t):aC i (bG (kl f [dC (.int 0)] (aa j))) e μ=.nx (e.set i (some (.cel μ.length))) (μ++[(true,t)]):=by
 (try simp_all! only[]);simp[hs,h]
theorem G2{raw:List (List Int)}(hP:hU p)(hl:∀l∈raw,l.length=w)(vM:raw.map (mdl p)=lines)(hw:Rw p w ws)(hn:lines.length≤200)(hw2:w≤100)(x:SV)(μ:af)(hx:∀l,rd (μ++l) x=some (.lst (raw.map tu)))(same:af->Prop)(D3:∀μ',same μ')(x4 x6 x7 x8 x9 x10:Option SV) :
  ∃y6,forL same (av 6) (dB (aa 5) (ah bx (ah bx (ax (cal (fnV 3 cJ)) [(aa 0),(aa 2),(aa 6)]) (eK [(ah bg (ao (aa 3) (aa 6)) (aa 0))])) (ax (cal (fnV 3 nq)) [(aa 1),(aa 6)]))) (a_ 0 w)
   [some (.val (.int p)),some (.val (.int w)),some x,some (.val (tu ws)),x4,some (.cel μ.length),x6,x7,x8,x9,x10] (μ++[(true,.lst [])]) =
   .nx [some (.val (.int p)),some (.val (.int w)),some x,some (.val (tu ws)),x4,some (.cel μ.length),y6,x7,x8,x9,x10] (μ++[(true,.lst (((List.range w).map λj=>aug w lines ws j).map li))]):=by
 have hb:=hP.pos
 have hp0:0<p:=Int.lt_of_lt_of_le (by decide) hb.1
 have hrl:raw.length=lines.length:=by rw[← vM,List.length_map]
 obtain⟨e',μ',h1,y6,h2,h3⟩:=cx (same:=same) (b:=av 6) (body:=dB (aa 5) (ah bx (ah bx (ax (cal (fnV 3 cJ)) [(aa 0),(aa 2),(aa 6)]) (eK [(ah bg (ao (aa 3) (aa 6)) (aa 0))])) (ax (cal (fnV 3 nq)) [(aa 1),(aa 6)]))) (ts:=a_ 0 w)
  (e:=[some (.val (.int p)),some (.val (.int w)),some x,some (.val (tu ws)),x4,some (.cel μ.length),x6,x7,x8,x9,x10]) (μ:=μ++[(true,.lst [])])
  (λi e μ'=>∃y6,e=[some (.val (.int p)),some (.val (.int w)),some x,some (.val (tu ws)),x4,some (.cel μ.length),y6,x7,x8,x9,x10]/\μ'=μ++[(true,.lst (((List.range i).map λj=>aug w lines ws j).map li))])
  (λi e μ' _=>D3 μ') (λi t e μ' ht aj=>by
   obtain⟨y6,he,hμ⟩:=aj
   subst he hμ
   obtain⟨hi,rfl⟩:=pG ht
   have e0:(0:Int)+(i:Int)=(i:Int):=by lia
   rw[e0]
   generalize hc:(true,T.lst (((List.range i).map λj=>aug w lines ws j).map li))=c
   have MM:=vL (p:=p) (w:=w) (by lia) hl (by lia) i (by lia) x (μ++[c]) (hx _)
   rw[vM] at MM
   have hun:=G1 (w:=w) i (by lia) (by lia) (μ++[c])
   have gb:=hw.g0 (p:=p) (by lia) i
   have ha:atI (ws.map T.int) (i:Int)=some (.int (g ws i)):=by
    have:=atg (r:=ws) (k:=(i:Int)) (by lia) (by rw[hw.len];lia)
    simpa using this
   have Bp:g ws i%p=g ws i:=Int.emod_eq_of_lt gb.1 gb.2
   have a1:bx (li (col lines i)) (.lst [.int (g ws i)])=some (li (col lines i++[g ws i])):=by
    rw[o5 _ _ (by simp[col,szL];lia)];simp
   have a2:bx (li (col lines i++[g ws i])) (li (eu w i))=some (li (aug w lines ws i)):=by
    rw[o5 _ _ (by simp[col,szL,eu];lia)];simp[aug]
   have hls:iC (.cel μ.length) (μ++[c])=some ():=by rw[← hc];exact gq _ _ _ _
   have hap:∀t,appendAt (.cel μ.length) t (μ++[c])=some (μ++[(true,T.lst (((List.range i).map λj=>aug w lines ws j).map li++[t]))]):=λt=>by rw[← hc];exact pF _ _ _ _ (by simp[szL];lia)
   refine⟨_,_,_,ig _ _ _,?_,some (.val (.int i)),rfl,rfl⟩
   simp only[hls,hap,ph,fk,bh,cP,cU,jg,gH,sN,iB,jS,oW,l9,List.set_cons_succ,List.set_cons_zero,bU,bT,R.aP,R.aQ,R.toS_ok,g9,ma,Option.bind_some,cN,ha,Option.map_some,ei _ _ hp0,Bp,MM,hun,R.cw,a1,a2]
   rw[List.range_succ,List.map_append,List.map_append]
   rfl) ⟨x6,rfl,rfl⟩
 refine⟨y6,?_⟩
 rw[h1,h2,h3,bA]
end
theorem N0(r:List Int)(i:Int)(h0:0≤i)(h1:i≤r.length):Jk (li r) (some i) none=some (li (r.drop i.toNat)):=by
 have e1:sIx (r.map T.int).length 0 (some i)=i.toNat:=by show(if i<0 then _ else min i.toNat (r.map T.int).length)=_;rw[if_neg (by omega),List.length_map];omega
 have e2:sIx (r.map T.int).length (r.map T.int).length none=(r.map T.int).length:=rfl
 show some (T.lst (gi (r.map T.int) (some i) none))=_
 unfold gi
 rw[e1,e2,List.take_of_length_le (by simp)]
 simp
theorem atn{r:List Int}{k:Nat}(h:k<r.length):atI (r.map T.int) (k:Int)=some (.int (g r k)):=by
 have:=atg (r:=r) (k:=(k:Int)) (by omega) (by omega)
 simpa using this
section
variable{p:Int}{w:Nat}{lines:List (List Int)}{ws:List Int}
theorem G3{L m:Nat}(hp:0<p){ls:List Ld}(hn:(ls.map (·.1)).Nodup)(hk:∀q∈ls,q.1<m)(rl:∀q∈ls,Rw p L q.2)(hmL:m<L)(hp1:1<p)(same:af->Prop)(D3:∀μ',same μ')(μ:af)(c:Bool×T)(x0 x1 x2 x3 x5 x6 x7 x8 x10:Option SV) :
  ∃y6 y10 ms,forL same (cT [6,10]) (cO 9 (aa 6) (ao (aa 10) (aa 4))) (dW (dk ls)) [x0,x1,x2,x3,some (.val (.int m)),x5,x6,x7,x8,some (.cel (μ.length+1)),x10] (μ++[c,(true,li (List.replicate m 0))]) =
   .nx [x0,x1,x2,x3,some (.val (.int m)),x5,y6,x7,x8,some (.cel (μ.length+1)),y10] (μ++[c,(true,li ms)])/\Rw p m ms/\(∀q∈ls,g ms q.1=g q.2 m)/\∀j,(∀q∈ls,q.1≠j)->g ms j=0:=by
 obtain⟨e',μ',h1,y6,y10,ms,h2,h3,h4,h5,h6⟩:=cx (same:=same) (b:=cT [6,10]) (body:=cO 9 (aa 6) (ao (aa 10) (aa 4))) (ts:=dW (dk ls))
  (e:=[x0,x1,x2,x3,some (.val (.int m)),x5,x6,x7,x8,some (.cel (μ.length+1)),x10]) (μ:=μ++[c,(true,li (List.replicate m 0))])
  (λi e μ'=>∃y6 y10 ms,e=[x0,x1,x2,x3,some (.val (.int m)),x5,y6,x7,x8,some (.cel (μ.length+1)),y10]/\μ'=μ++[c,(true,li ms)]/\Rw p m ms/\(∀q∈ls.take i,g ms q.1=g q.2 m)/\∀j,(∀q∈ls.take i,q.1≠j)->g ms j=0)
  (λi e μ' _=>D3 μ') (λi t e μ' ht aj=>by
   obtain⟨y6,y10,ms,he,hμ,hr,h5,h6⟩:=aj
   subst he hμ
   obtain⟨q,hq,hi,rfl⟩:=rX ht
   have hm:q∈ls:=List.mem_of_getElem? hq
   have hkq:=hk q hm
   have ha:=atn (r:=q.2) (k:=m) (by rw[(rl q hm).len];exact hmL)
   have gb:=(rl q hm).g0 hp m
   have N1:setAt (.cel (μ.length+1)) (.int (q.1:Int)) (.int (g q.2 m)) (μ++[c,(true,li ms)])=some (μ++[c,(true,li (ms.set q.1 (g q.2 m)))]):=by
    rw[ml (ts:=ms.map T.int) F9 (by omega) (by rw[List.length_map,hr.len];omega),F_]
    have:(q.1:Int).toNat=q.1:=by omega
    rw[this,← List.map_set]
   have htk:ls.take (i+1)=ls.take i++[q]:=by rw[List.take_add_one,hq];rfl
   have hne:∀q'∈ls.take i,q'.1≠q.1:=λq' hq' e=>by
    have hd:ls=ls.take i++q::ls.drop (i+1):=by
     have:ls.drop i=q::ls.drop (i+1):=by
      rw[List.drop_eq_getElem_cons hi]
      congr 1
      rw[List.getElem?_eq_getElem hi] at hq
      exact Option.some.inj hq
     rw[← this,List.take_append_drop]
    rw[hd,List.map_append,List.nodup_append] at hn
    exact hn.2.2 q'.1 (List.mem_map.mpr ⟨q',hq',rfl⟩) q.1 (by simp) e
   have hlen:q.1<ms.length:=by rw[hr.len];exact hkq
   refine⟨_,_,_,dZ _ _ _ _ _,?_,some (.val (.int q.1)),some (.val (li q.2)),ms.set q.1 (g q.2 m),rfl,rfl,hr.set gb.1 gb.2,λq' hq'=>?_,λj hj=>?_⟩
   ·simp only[nF,iB,cU,List.set_cons_succ,List.set_cons_zero,bU,bT,R.aP,R.aQ,R.toS_ok,g9,Option.bind_some,mf,ha,Option.map_some,l9,N1]
   ·rw[HX _ _ _ _ hlen]
    rw[htk] at hq'
    rcases List.mem_append.mp hq' with h|h
    ·rw[if_neg (hne q' h)];exact h5 q' h
    ·simp at h;subst h;rw[if_pos rfl]
   ·rw[HX _ _ _ _ hlen,if_neg (λe=>hj q (by rw[htk];simp) e.symm)]
    exact h6 j λq' hq'=>hj q' (by rw[htk];simp[hq'])) ⟨x6,x10,_,rfl,rfl,qo hp1 m,by simp,λj _=>by
     by_cases hj:j<m
     ·rw[qk _ _ (by simp[hj])];simp
     ·simp[g,List.getD_eq_getElem?_getD,hj]⟩
 have hil:(dW (dk ls)).length=ls.length:=by simp[dW,dk]
 rw[hil,List.take_length] at h5 h6
 exact⟨y6,y10,ms,by rw[h1,h2,h3],h4,h5,h6⟩
end
inductive Bq(p:Int)(w:Nat)(lines:List (List Int))(ws:List Int)(μ:af):RS->Prop where
 | turn (c:T) (tv:List Int) (h:Rw p w tv) (h1:∀l∈lines,p ∣ dot l tv) (h2:p ∣ dot ws tv-1):Bq p w lines ws μ (.rt (.box [.inl (.str "turn"),.inl (tu tv)]) (μ++[(true,c)]))
 | sum (c:T) (ms:List Int) (h:Rw p lines.length ms) (h1:∀j,j<w->p ∣ dot ms (col lines j)-g ws j):Bq p w lines ws μ (.rt (.box [.inl (.str "sum"),.inr (μ.length+1)]) (μ++[(true,c),(true,li ms)]))
section
variable{p:Int}{w:Nat}{lines:List (List Int)}{ws:List Int}
theorem D4{raw:List (List Int)}(hP:hU p)(hrw:∀l∈raw,l.length=w)(vM:raw.map (mdl p)=lines)(hw:Rw p w ws)(hn:lines.length≤200)(hw2:w≤100)(x:SV)(μ:af)(hx:∀l,rd (μ++l) x=some (.lst (raw.map tu))) :
  Bq p w lines ws μ (nr (starts 11 [.val (.int p),.val (.int w),x,.val (tu ws)]) μ):=by
 have hb:=hP.pos
 have hp0:0<p:=Int.lt_of_lt_of_le (by decide) hb.1
 have hl:∀l∈lines,Rw p w l:=λl h=>by
  rw[← vM] at h
  obtain⟨r,hr,rfl⟩:=List.mem_map.mp h
  exact ML hp0 (hrw r hr)
 have hx0:rd μ x=some (.lst (raw.map tu)):=by simpa using hx []
 have hlen:=GZ hx0
 rw[List.length_map,show raw.length=lines.length by rw[← vM,List.length_map]] at hlen
 unfold nr
 simp only[rF,fQ,gJ,yE,cU,List.map_cons,List.map_nil,List.length_cons,List.length_nil,List.cons_append,List.nil_append,Nat.reduceAdd,Nat.reduceSub,List.replicate_succ,List.replicate_zero,bU,bT,R.aP,R.aQ,R.toS_ok,hlen,Option.map_some,List.set_cons_succ,List.set_cons_zero,RS.bV,oZ,sN,cP,oW,toCell_val,jT,pj,g9,Option.bind_some,mY,bH (show(0:Int)≤(w:Int) by lia) (show(w:Int)≤1000000 by lia),if_true,Int.toNat_natCast]
 obtain⟨y6,h1⟩:=G2 hP hrw vM hw hn hw2 x μ hx (λ_=>True) (λ_=>trivial) (some (.val (.int lines.length))) none none none none none
 rw[h1,RS.bV]
 clear h1
 have MN:∀r∈(List.range w).map λj=>aug w lines ws j,Rw p (lines.length+1+w) r:=λr hr=>by
  obtain⟨j,_,rfl⟩:=List.mem_map.mp hr
  exact Ke (by lia) hl hw j
 obtain⟨ls,ns,h2,E,_⟩:=D0 (m:=lines.length) hP (L:=lines.length+1+w) (by lia) (by lia) ((List.range w).map λj=>aug w lines ws j) MN (by simp;lia) (.cel μ.length) (μ++[(true,.lst (((List.range w).map λj=>aug w lines ws j).map li))]) (λl=>by simp)
 generalize hc:T.lst (((List.range w).map λj=>aug w lines ws j).map li)=c at h2 ⊢
 (try simp_all! only[]);simp only[fQ,gJ,cU,fk,bh,cP,jg,List.set_cons_succ,List.set_cons_zero,bU,bT,R.aP,R.aQ,R.toS_ok,h2,R.cw,RS.bV,jT,sV,iB,oY,g9,Option.bind_some,cN,yN,Option.map_some,fR]
 refine mr (P:=λr=>Bq p w lines ws μ (r.seq (aq (aC 9 (bG (kl jh [dC (.int 0)] (aa 4))))
  (aq (bE (kZ (ao (aa 7) (dC (.int 0)))) (cT [6,10]) (cO 9 (aa 6) (ao (aa 10) (aa 4)))) (aH (uP [dC (.str "sum"),aa 9]))))))
  (λi e μ'=>∃y8,e=[some (.val (.int p)),some (.val (.int w)),some x,some (.val (tu ws)),some (.val (.int lines.length)),some (.cel μ.length),y6,some (.val (.tup [.dct (dk ls),.lst (ns.map li)])),y8,none,none]/\μ'=μ++[(true,c)]/\∀r∈ns.take i,g r lines.length=0)
  ?_ ?_ ?_ ⟨none,rfl,rfl,by simp⟩
 ·intro i e μ' _;trivial
 ·rintro i t e μ' ht ⟨y8,rfl,rfl,hz⟩
  rw[List.getElem?_map] at ht
  obtain⟨r,hr,rfl⟩:=Option.map_eq_some_iff.mp ht
  have hm:r∈ns:=List.mem_of_getElem? hr
  have hR:=E.rn r hm
  have ha:=atn (r:=r) (k:=lines.length) (by rw[hR.len];lia)
  refine⟨_,ig _ _ _,?_⟩
  by_cases e0:g r lines.length=0
  ·(try simp_all! only[]);simp[ha,e0]
   intro r' hr'
   rw[List.take_add_one,hr] at hr'
   rcases List.mem_append.mp hr' with h|h
   ·exact hz r' h
   ·simp at h;subst h;exact e0
  ·have gb:=hR.g0 (p:=p) (by lia) lines.length
   obtain⟨y,ho,y0,y1,yz⟩:=oO hP 1 (g r lines.length) (μ++[(true,c)]) (by rw[Int.emod_eq_of_lt gb.1 gb.2];exact e0)
   have hR2:Rw p w (r.drop (lines.length+1)):=by
    have:=hR.drop (k:=lines.length+1)
    rwa [show lines.length+1+w-(lines.length+1)=w by lia] at this
   have ht2:=vH (p:=p) (L:=w) (by lia) (by lia) y (r.drop (lines.length+1)) (μ++[(true,c)]) hR2 (by lia)
   have MO:=N0 r ((lines.length:Int)+1) (by lia) (by rw[hR.len];lia)
   rw[show((lines.length:Int)+1).toNat=lines.length+1 by lia] at MO
   have e1:(g r lines.length==0)=false:=by simpa using e0
   have tl:=told (by lia) E hm hw.len λl h=>(hl l h).len
   obtain⟨t,hts⟩:∃t,g r lines.length-dot ws (r.drop (lines.length+1))=p*t:=tl.2
   obtain⟨s,hs⟩:∃s,y*g r lines.length-1=p*s:=Int.dvd_of_emod_eq_zero yz
   have MP:Bq p w lines ws μ (.rt (.box [.inl (.str "turn"),.inl (tu (tm p y (r.drop (lines.length+1))))]) (μ++[(true,c)])):=by
    refine .turn c _ (DR (by lia) y hR2.len) (λl h=>?_) ?_
    ·obtain⟨u,hu⟩:=ub p y (r.drop (lines.length+1)) l
     obtain⟨v,hv⟩:=tl.1 l h
     rw[hu,hv]
     exact⟨y*v+u,by grind⟩
    ·obtain⟨u,hu⟩:=ub p y (r.drop (lines.length+1)) ws
     rw[hu]
     exact⟨s-y*t+u,by grind⟩
   have hb2:fNe (.int (g r lines.length)) (.int 0)=some (.bl true):=by rw[yD,e1];rfl
   have goal:∀(e:Slots),slot e 0=some (.val (.int p))->slot e 4=some (.val (.int lines.length))->slot e 8=some (.val (li r)) ->
     sIf (ah fNe (ao (aa 8) (aa 4)) (dC (.int 0))) (aH (uP [(dC (.str "turn")),(dUn cH (ax (cal (fnV 3 iP)) [(aa 0),(ax (cal (fnV 5 lg)) [(aa 0),(dC (.int 1)),(ao (aa 8) (aa 4))]),(Ck (aa 8) (some (ah bx (aa 4) (dC (.int 1)))) none)]))])) bB e (μ++[(true,c)]) =
     .rt (.box [.inl (.str "turn"),.inl (tu (tm p y (r.drop (lines.length+1))))]) (μ++[(true,c)]):=λe q0 q4 q8=>by
    (try simp_all! only[]);simp only[wG,gH,iB,cU,oY,q0,q4,q8,R.aP,R.aQ,R.toS_ok,g9,Option.bind_some,mf,ha,Option.map_some,ma,hb2,gg,if_true,sT,sO,bh,cP,sM,fk,jg,ho,R.cw,yI,rq,rm,uQ,mY,l_,MO,ht2,pb,boxed]
   rw[goal _ rfl rfl rfl,Ge]
   exact MP
 ·rintro e μ' ⟨y8,rfl,rfl,hz⟩
  rw[List.length_map,List.take_length] at hz
  rw[RS.bV,fQ,D2 jh 9 4 _ _ (lines.length:Int) _ rfl (rep0 lines.length (by lia)),RS.bV]
  obtain⟨z6,z10,ms,h3,h4,h5,h6⟩:=G3 (p:=p) (L:=lines.length+1+w) (m:=lines.length) (by lia) E.nd E.key E.rl (by lia) (by lia) (λ_=>True) (λ_=>trivial) μ (true,c) (some (.val (.int p))) (some (.val (.int w))) (some x) (some (.val (tu ws))) (some (.cel μ.length)) y6 (some (.val (.tup [.dct (dk ls),.lst (ns.map li)]))) y8 none
  have HI:(μ++[(true,c)]).length=μ.length+1:=by simp
  have hap:μ++[(true,c)]++[(true,li (List.replicate lines.length 0))]=μ++[(true,c),(true,li (List.replicate lines.length 0))]:=by simp
  rw[HI,hap]
  (try simp_all! only[]);simp only[fQ,jT,m7,iB,cU,oY,List.set_cons_succ,List.set_cons_zero,bU,bT,R.aP,R.aQ,R.toS_ok,g9,Option.bind_some,cN,u7,Option.map_some,yO]
  rw[h3,RS.bV]
  (try simp_all! only[]);simp only[sT,sO,bh,cP,oY,cU,bU,bT,R.aP,R.aQ,R.toS_ok,boxed,Option.map_some]
  exact .sum c ms h4 λj hj=>Kf (by lia) E hz h4.len h5 h6 j hj
end
theorem zm:∀(xs ys:List Int) (n:Nat),xs.length=n->ys.length=n->((List.range n).map λi=>g xs i*g ys i).sum=dot xs ys
 | [],ys,n,h,_=>by simp at h;subst h;simp
 | x::xs,[],n,h,h'=>by simp at h h';lia
 | x::xs,y::ys,0,h,_=>by simp at h
 | x::xs,y::ys,n+1,h,h'=>by
  rw[List.range_succ_eq_map,List.map_cons,List.map_map,List.sum_cons,bf,eZ,eZ]
  have e:((λi=>g (x::xs) i*g (y::ys) i) ∘ Nat.succ)=λi=>g xs i*g ys i:=by funext i;show g (x::xs) (i+1)*g (y::ys) (i+1)=_;rw[dY,dY]
  rw[e,zm xs ys n (by simpa using h) (by simpa using h')]
theorem f_(n:Nat):bJ 0 n=(List.range n).map λ(i:Nat)=>(i:Int):=by simp[bJ]
def sq(p:Int)(S:List (List Int))(x:List Int):Bool:=S.all λr=>decide (p ∣ dot r x)
end Fw.E
namespace Fw.F
open PySem Fw Fw.H Fw.E
abbrev Rows:=List (Int×List Int)
def rt(q:Int×List Int):T:=.tup [.int q.1,tu q.2]
def tb(p:Int)(w:Nat)(rows:Rows):T:=.tup [.int p,.int w,.tup (rows.map rt)]
structure Tbl(p:Int)(w:Nat)(rows:Rows):Prop where
 pr:hU p
 w0:0<w
 w1:w≤12
 n:rows.length≤24
 li:∀q∈rows,Rw p w q.2
def aB(rows:Rows)(i:Nat):Int×List Int:=rows.getD i (0,[])
def rowsOf(rows:Rows)(gD:List Int):List Nat:=(List.range rows.length).filter λi=>decide ((aB rows i).1∈gD)
theorem enum_rows(rows:Rows):dw 0 (rows.map rt)=(List.range rows.length).map λ(i:Nat)=>.tup [.int (i:Int),rt (aB rows i)]:=by
 apply List.ext_getElem?
 intro i
 rw[CP,List.getElem?_map,List.getElem?_map]
 by_cases h:i<rows.length
 ·rw[List.getElem?_range h,List.getElem?_eq_getElem h]
  simp[aB,h]
 ·rw[List.getElem?_eq_none (by lia),List.getElem?_eq_none (by simp;lia)]
  rfl
theorem ud(μ:af)(t:T):ice μ.length (.cel μ.length) (μ++[(true,t)])=.ok (.val t) μ:=by
 unfold ice
 rw[wN (b:=true) (t:=t) (by simp),R.aQ]
 simp
def nums(is:List Nat):List Int:=is.map λ(i:Nat)=>(i:Int)
theorem xX(is:List Nat):(is.map λ(i:Nat)=>T.int (i:Int))=(nums is).map T.int:=by simp[nums]
end Fw.F
namespace Fw
open PySem Fw Fw.H Fw.E
theorem G4:fEq (.lst []) (.lst [])=some (.bl true):=uR [] []
theorem G5:fNe (.lst []) (.lst [])=some (.bl false):=uS [] []
theorem Kh(x:SV)(μ:af):R.ok x (μ.take μ.length)=R.ok x μ:=by rw[List.take_length]
def stw:=And.intro @fQ <| And.intro @gJ <| And.intro @sT <| And.intro @wG <| And.intro @Cm <| And.intro @FK <| And.intro @ph <| And.intro @Gj <| And.intro @AA <| And.intro @nF <| And.intro @pJ <| And.intro @jT <| And.intro @oZ <| And.intro @sM <| And.intro @gH <| And.intro @cU <| And.intro @oY <| And.intro @fk <| And.intro @bh <| And.intro @cP <| And.intro @Ft <| And.intro @Fs <| And.intro @Jg <| And.intro @Fu <| And.intro @Fv <| And.intro @sN <| And.intro @iB <| And.intro @yE <| And.intro @Cn <| And.intro @yI <| And.intro @rm <| And.intro @rq <| And.intro @sO <| And.intro @sV <| And.intro @pj <| And.intro @wH <| And.intro @FO <| And.intro @CQ <| And.intro @m7 <| And.intro @FP <| And.intro @Co <| And.intro @Cp <| And.intro @ig <| And.intro @dZ <| And.intro @CY <| And.intro @jg <| And.intro @cI <| And.intro @kQ <| And.intro @kR <| And.intro @rF <| And.intro @bU <| And.intro @bT <| And.intro @Ag <| And.intro @R.toS_ok <| And.intro @g9 <| And.intro @hJ <| And.intro @Gi <| And.intro @l_ <| And.intro @ma <| And.intro @toCell_val <| And.intro @gg <| And.intro @mY <| And.intro @l9 <| And.intro @oW <| And.intro @jS <| And.intro @RS.bV <| And.intro @RS.Jl <| And.intro @jU <| And.intro @FQ <| And.intro @FT <| And.intro @tw <| And.intro @Ai <| And.intro @pb <| And.intro @wC <| And.intro @fR <| And.intro @sU <| And.intro @Ce <| And.intro @Cf <| And.intro @mf <| And.intro @cN <| And.intro @Cc <| And.intro @uQ <| And.intro @B7 <| And.intro @ei <| And.intro @o8 <| And.intro @B8 <| And.intro @e8 <| And.intro @gI <| And.intro @Fy <| And.intro @Fz <| And.intro @FA <| And.intro @FC <| And.intro @FF <| And.intro @yD <| And.intro @iA <| And.intro @FG <| And.intro @uR <| And.intro @uS <| And.intro @G4 <| And.intro @G5 <| And.intro @Kh <| And.intro @Ay <| And.intro @CV <| And.intro @Gh <| And.intro @wD <| And.intro @wF <| And.intro @CZ <| And.intro @R.aP <| And.intro @R.aQ <| And.intro @R.cw <| And.intro @u7 <| And.intro @yN <| @Gb
def stc:=And.intro @Option.bind_some.{0,0} <| And.intro @Option.map_some.{0,0} <| And.intro @List.map_cons.{0,0} <| And.intro @List.map_nil.{0,0} <| And.intro @List.length_cons.{0} <| And.intro @List.length_nil.{0} <| And.intro @List.cons_append.{0} <| And.intro @List.nil_append.{0} <| And.intro @List.replicate_succ.{0} <| And.intro @List.replicate_zero.{0} <| And.intro @List.set_cons_succ.{0} <| And.intro @List.set_cons_zero.{0} <| And.intro @List.getElem?_cons_zero.{0} <| And.intro @List.getElem?_cons_succ.{0} <| And.intro @List.take_zero.{0} <| And.intro @List.take_nil.{0} <| And.intro @beq_self_eq_true.{0} <| And.intro @if_false.{1} <| And.intro @if_true.{1} <| And.intro @Bool.false_eq_true <| And.intro @Bool.not_true <| @Bool.not_false
end Fw
local macro_rules
  | `(tactic| simp?! only [$ls,*]) => `(tactic| simp (disch := first | decide | omega | assumption) only [Fw.stw, Fw.stc, Nat.reduceAdd, Nat.reduceSub, $ls,*])
namespace Fw
open PySem Fw Fw.H Fw.E
end Fw
local macro_rules
 | `(tactic| simp! only [$ls,*]) => do
  let mut xs:Array (Lean.TSyntax `Lean.Parser.Tactic.simpLemma):=#[]
  for n in "KQ KR KS My KU Mz KW KY Nc J0 GX HM KZ K0 K1 K2 MA HN HP J1 MB J2 J3 MC K3 J4 HQ HR EU HS HU K4 MD K5 K6 K7 K8 J5 J6 J7 Cm ph Gj AA nF pJ oZ Fu Cn yI rm rq sO pj wH FO CQ m7 dZ CY cI kQ kR rF Ag hJ Gi toCell_val mY RS.Jl jU FQ FT tw Ai pb wC fR sU Ce Cf mf cN Cc uQ B7 ei o8 B8 e8 gI Fy Fz FA FC FF yD iA FG uR uS G4 G5 Kh Ay CV Gh wD wF CZ u7 yN Gb".splitOn " " do xs := xs.push (← `(Lean.Parser.Tactic.simpLemma| $(Lean.mkIdent (`Fw ++ n.toName)):term))
  `(tactic| simp (disch := first | decide | omega | assumption) only [$(xs),*, Fw.stc, Nat.reduceAdd, Nat.reduceSub, $ls,*])
local macro_rules
 | `(tactic| dsimp! only [$ls,*]) => do
  let mut xs:Array (Lean.TSyntax `Lean.Parser.Tactic.simpLemma):=#[]
  for n in "HN HP KY Nc MB K3 MC fQ gJ sT wG Cm FK ph Gj AA nF pJ jT oZ sM gH fk bh cP Ft Fs Jg Fu Fv sN iB yE Cn yI rm rq sO sV pj wH FO CQ m7 FP Co Cp ig dZ CY jg cI kQ kR rF Ag R.toS_ok hJ Gi l_ ma toCell_val mY oW jS RS.bV RS.Jl jU FQ FT tw Ai pb wC fR sU Ce Cf mf cN Cc uQ B7 ei o8 B8 e8 gI Fy Fz FA FC FF yD iA FG uR uS G4 G5 Kh Ay CV Gh wD wF CZ R.aP R.aQ R.cw u7 yN Gb".splitOn " " do xs := xs.push (← `(Lean.Parser.Tactic.simpLemma| $(Lean.mkIdent (`Fw ++ n.toName)):term))
  `(tactic| simp (disch := first | decide | omega | assumption) only [$(xs),*, Fw.stc, Nat.reduceAdd, Nat.reduceSub, $ls,*])
namespace Fw.F
open PySem Fw Fw.H Fw.E
def qp:DS :=
 (aH (aW (yP (ao (aa 0) (dC (.int 2)))) [none,none,some 1] (cT [0,1]) (ah fIn (ao (aa 1) (dC (.int 0))) (aa 2)) (aa 0)))
def dX:FN:=fnV 2 qp
def fb:DS :=
 (aH (dUn cH (aW (aK (aa 0)) [none] (av 0) (dC (.bl true)) (Fq (ah fEq (aa 0) (dC (.int 0))) (dC (.int 1)) (dC (.int 0))))))
def bX:FN:=fnV 1 fb
theorem Br{p:Int}{w:Nat}{rows:Rows}(hn:rows.length≤24)(gD:List Int)(y:SV)(μ:af)(h2:rd μ y=some (.lst (gD.map T.int))) :
  dX [.val (tb p w rows),y] μ=.ok (.val (li (nums (rowsOf rows gD)))) μ:=by
 unfold dX qp tb
 simp! only[h2]
 rw[enum_rows,ij (λ(i:Nat)=>.tup [.int (i:Int),rt (aB rows i)]) (λi=>decide ((aB rows i).1∈gD)) (λ(i:Nat)=>.int (i:Int)) (by simp)]
 ·rw[R.cw,R.aQ,if_pos (by simp[szL];lia)]
  simp! only[]
  rw[xX]
  rfl
 ·intro i hi
  refine⟨_,dZ 0 1 _ _ _,?_,λ_=>?_⟩
  ·simp! only[rt,h2,va]
  ·simp! only[]
theorem G6(w:Nat)(h:0<w):eu w 0=1::List.replicate (w-1) 0:=by
 obtain⟨n,rfl⟩:∃n,w=n+1:=⟨w-1,by lia⟩
 simp[eu,List.replicate_succ]
theorem Bs(w:Nat)(h:0<w)(h2:w≤1000)(μ:af):bX [.val (.int w)] μ=.ok (.val (tu (eu w 0))) μ:=by
 unfold bX fb
 have hr:bQ (w:Int)=true:=bH (by lia) (by lia)
 dsimp! only[hr]
 rw[fo,jZ (λk=>.int (if k=0 then 1 else 0)) trivial]
 ·rw[R.cw,R.aQ,if_pos (by simp[szL];lia)]
  dsimp! only[]
  have e:((bJ 0 (w:Int).toNat).map λk=>T.int (if k=0 then 1 else 0))=(eu w 0).map T.int:=by
   rw[f_,Int.toNat_natCast,G6 w h]
   obtain⟨n,rfl⟩:∃n,w=n+1:=⟨w-1,by lia⟩
   rw[List.range_succ_eq_map]
   simp only[List.map_cons,List.map_map,Nat.add_sub_cancel,List.map_replicate]
   refine congr (congrArg _ rfl) ?_
   refine List.eq_replicate_iff.mpr ⟨by simp,λb hb=>?_⟩
   obtain⟨k,_,rfl⟩:=List.mem_map.mp hb
   show T.int (if ((Nat.succ k:Nat):Int)=0 then 1 else 0)=_
   rw[if_neg (by lia)]
  rw[e]
 ·intro k hk
  refine⟨_,rfl,?_⟩
  dsimp! only[]
  by_cases hk0:k=0
  ·subst hk0;rfl
  ·rw[if_neg (by simpa using hk0),if_neg hk0]
theorem iX{p:Int}{w:Nat}{rows:Rows}(H:Tbl p w rows){i:Nat}(h:i<rows.length):Rw p w (aB rows i).2:=by
 have:aB rows i=rows[i]:=by simp[aB,h]
 rw[this];exact H.li _ (List.getElem_mem h)
theorem MQ{p:Int}(hp:1<p)(w k:Nat):Rw p w (eu w k):=Rw.set (qo hp w) (by lia) (by lia)
theorem MR(xs ys:List Int)(h:xs.length=ys.length):((bJ 0 xs.length).map λk=>g xs k.toNat*g ys k.toNat).sum=dot xs ys:=by
 rw[← zm xs ys xs.length rfl h.symm,f_,List.map_map]
 rfl
theorem vN(p:Int):∀(ms xs:List Int),p ∣ dot ms (xs.map λx=>x%p)-dot ms xs
 | [],xs=>⟨0,by simp[dot]⟩
 | m::ms,[]=>⟨0,by simp[dot]⟩
 | m::ms,x::xs=>by
  obtain⟨k,hk⟩:=vN p ms xs
  obtain⟨t,ht⟩:=md x p
  exact⟨k-m*t,by rw[List.map_cons,dot,dot,ht];grind⟩
theorem kb{rows:Rows}{gD:List Int}:∀i∈rowsOf rows gD,i<rows.length:=λi hi=>List.mem_range.mp (List.mem_filter.mp hi).1
theorem xY(rows:Rows)(gD:List Int):(rowsOf rows gD).length≤rows.length:=Nat.le_trans (List.length_filter_le _ _) (by simp)
end Fw.F
namespace Fw.E
open PySem Fw Fw.H
end Fw.E
namespace Fw.F
open PySem Fw Fw.H Fw.E
def fits(p:Int)(lines:List (List Int))(ps:List Int)(x:List Int):Bool:=(lines.zip ps).all λq=>decide (p ∣ dot q.1 x-q.2)
section
variable{p:Int}{w:Nat}
end
theorem on:(("one":Str)=="none")=false:=by decide +kernel
theorem an:(("any":Str)=="none")=false:=by decide +kernel
end Fw.F
namespace Fw.J
open PySem Fw Fw.H Fw.E Fw.F
def rZ:DS :=
 (aq (sIf (ah fLt (aa 1) (cS (aa 0))) (aH (ao (aa 0) (aa 1))) bB)
 (aq (sIf (ah fEq (cS (aa 0)) (dC (.int 0))) (aH (ah bx (ah aG (ah aG (aa 1) (aa 1)) (dC (.int 48271))) (ah aG (dC (.int 7)) (aa 1)))) bB)
 (aH (ah bx (ah kN (ao (aa 0) (ah bg (aa 1) (cS (aa 0)))) (ah bx (dC (.int 1)) (ah kN (aa 1) (cS (aa 0))))) (ah aG (ah aG (aa 1) (aa 1)) (dC (.int 7919)))))))
def iY:FN:=fnV 2 rZ
theorem lV(ns:List Int)(k:Int)(h0:0≤k)(h1:k≤1000):∃c,∀μ,iY [.val (.lst (ns.map T.int)),.val (.int k)] μ=.ok (.val (.int c)) μ:=by
 unfold iY rZ
 by_cases h:k<ns.length
 ·exact⟨_,λμ=>by simp[h,mq h0 h];rfl⟩
 ·have m2:aG (.int (k*k)) (.int 48271)=some (.int (k*k*48271)):=gI _ _ (by lia) (by lia)
  have m3:aG (.int (k*k)) (.int 7919)=some (.int (k*k*7919)):=gI _ _ (by lia) (by lia)
  have m1:aG (.int k) (.int k)=some (.int (k*k)):=gI _ _ (by lia) (by lia)
  by_cases h2:0<ns.length
  ·have p0:0≤k%(ns.length:Int):=Int.emod_nonneg _ (by lia)
   have p1:k%(ns.length:Int)<ns.length:=Int.emod_lt_of_pos _ (by lia)
   have d0:0≤k / (ns.length:Int):=Int.ediv_nonneg h0 (by lia)
   have n0:((ns.length:Int)==0)=false:=by rw[beq_eq_false_iff_ne];lia
   have d1:k / (ns.length:Int)≤1000:=Int.le_trans (Int.ediv_le_self _ h0) h1
   have hd:∀a:Int,kN (.int a) (.int (1+k / (ns.length:Int)))=some (.int (a / (1+k / (ns.length:Int)))):=λa=>o8 _ _ (by lia) (by lia)
   have hl:decide (k<(ns.length:Int))=false:=decide_eq_false h
   exact⟨_,λμ=>by simp! only[List.length_map,hl,n0,mq p0 p1,hd,m1,m3];rfl⟩
  ·have hl:decide (k<(ns.length:Int))=false:=decide_eq_false h
   have n0:((ns.length:Int)==0)=true:=by rw[beq_iff_eq];lia
   exact⟨_,λμ=>by simp! only[List.length_map,hl,n0,m1,m2];rfl⟩
def ue:DS:=(sIf (ah fEq (ah bg (ax (cal iY) [(aa 0),(dC (.int 0))]) (dC (.int 2))) (dC (.int 0))) (aq (dB (aa 5) (ah bg (aa 4) (aa 2)))
 (aC 4 (ah kN (aa 4) (aa 2)))) (aq (aC 4 (ah bg (ah aG (ah bx (ah bg (aa 4) (dC (.int 2147483647))) (dC (.int 1))) (dC (.int 48271))) (dC (.int 2147483647))))
 (dB (aa 5) (ah bg (ah kN (ah bg (ah bx (ah aG (aa 4) (dC (.int 69621))) (ah aG (aa 6) (dC (.int 16807)))) (dC (.int 2147483629))) (dC (.int 11))) (aa 2)))))
def uf:DS :=
 (aq (aC 4 (ax (cal iY) [(aa 0),(aa 1)]))
 (aq (aC 5 (bG (eK [])))
 (aq (bE (aK (aa 3)) (av 6) ue)
 (aH (aa 5)))))
theorem Rw.snoc{m x:Int}{i:Nat}{ns:List Int}(h:Rw m i ns)(h0:0≤x)(h1:x<m):Rw m (i+1) (ns++[x]):=by
 refine⟨by have:=h.1;simp;lia,λy hy=>?_,λy hy=>?_⟩
 ·rcases List.mem_append.mp hy with z|z
  ·exact h.2 y z
  ·simp at z;lia
 ·rcases List.mem_append.mp hy with z|z
  ·exact h.3 y z
  ·simp at z;lia
theorem D5(ns:List Int)(at_ base:Int)(n:Nat)(ha:0≤at_/\at_≤1000)(hm:0<base)(hm2:base<1000000)(hn:n≤1000)(μ:af) :
  ∃r,uf (starts 7 [.val (.lst (ns.map T.int)),.val (.int at_),.val (.int base),.val (.int n)]) μ=.rt (.cel μ.length) (μ++[(true,li r)])/\Rw base n r:=by
 obtain⟨c,hc⟩:=lV ns at_ ha.1 ha.2
 obtain⟨c0,hc0⟩:=lV ns 0 (by lia) (by lia)
 have rn:bQ (n:Int)=true:=bH (by lia) (by lia)
 obtain⟨e',μ',h1,x4,x6,r,rfl,rfl,hR⟩:=cx (same:=λ_=>True) (b:=av 6) (ts:=a_ 0 (n:Int).toNat) (body:=ue)
  (I:=λi e μ1=>∃x4 x6 r,e=[some (.val (.lst (ns.map T.int))),some (.val (.int at_)),some (.val (.int base)),some (.val (.int n)),some (.val (.int x4)),some (.cel μ.length),x6]/\μ1=μ++[(true,li r)]/\Rw base i r)
  (λ_ _ _ _=>trivial) (λi t e μ1 ht aj=>by
   obtain⟨x4,x6,r,he,hμ,hR⟩:=aj
   subst he hμ
   obtain⟨k,rfl,hi,hk⟩:=jY ht
   have hi:i<n:=by simpa using hi
   have hl:(r.map T.int).length<szL:=by have:=hR.1;unfold szL;simp;lia
   generalize hq:(true,li r)=q
   have hls:iC (.cel μ.length) (μ++[q])=some ():=by rw[← hq];exact gq _ _ _ _
   have hap:∀t,appendAt (.cel μ.length) t (μ++[q])=some (μ++[(true,T.lst (r.map T.int++[t]))]):=λt=>by rw[← hq];exact pF _ _ _ _ hl
   have Bp:∀a:Int,bg (.int a) (.int base)=some (.int (a%base)):=λa=>ei _ _ (by lia)
   have hdiv:∀a:Int,kN (.int a) (.int base)=some (.int (a / base)):=λa=>o8 _ _ (by lia) (by lia)
   cases hz:(c0%2==0) with
   | true =>
    refine⟨_,_,_,rfl,?_,x4 / base,some (.val (.int k)),r++[x4%base],rfl,rfl,Rw.snoc hR (Int.emod_nonneg _ (by lia)) (Int.emod_lt_of_pos _ hm)⟩
    unfold ue
    dsimp! only[hc0,hz,hls,hap,Bp,hdiv]
    simp
   | false =>
    have y0:0≤(x4%2147483647+1)*48271%2147483647/\(x4%2147483647+1)*48271%2147483647<2147483647:=by lia
    have m1:aG (.int (x4%2147483647+1)) (.int 48271)=some (.int ((x4%2147483647+1)*48271)):=gI _ _ (by lia) (by lia)
    refine⟨_,_,_,rfl,?_,(x4%2147483647+1)*48271%2147483647,some (.val (.int k)),r++[((x4%2147483647+1)*48271%2147483647*69621+k*16807)%2147483629 / 11%base],rfl,rfl,Rw.snoc hR (Int.emod_nonneg _ (by lia)) (Int.emod_lt_of_pos _ hm)⟩
    unfold ue
    dsimp! only[hc0,hz,m1]
    generalize (x4%2147483647+1)*48271%2147483647=y at y0 ⊢
    dsimp! only[hls,hap,Bp]
    simp)
  (e:=[some (.val (.lst (ns.map T.int))),some (.val (.int at_)),some (.val (.int base)),some (.val (.int n)),some (.val (.int c)),some (.cel μ.length),none]) (μ:=μ++[(true,li [])]) ⟨c,none,[],rfl,rfl,rfl,by simp,by simp⟩
 rw[bA,Int.toNat_natCast] at hR
 refine⟨r,?_,hR⟩
 unfold uf
 dsimp! only[hc,rn]
 rw[show(true,T.lst [])=(true,li []) from rfl,h1]
 dsimp! only[]
theorem D6(ns:List Int)(at_ base:Int)(n:Nat)(ha:0≤at_/\at_≤1000)(hm:0<base)(hm2:base<1000000)(hn:n≤1000)(μ:af) :
  ∃r,fnV 7 uf [.val (.lst (ns.map T.int)),.val (.int at_),.val (.int base),.val (.int n)] μ=.ok (.val (li r)) μ/\Rw base n r:=by
 obtain⟨r,h,hR⟩:=D5 ns at_ base n ha hm hm2 hn μ
 exact⟨r,by rw[cI,h,jU,ud],hR⟩
end Fw.J
namespace Fw
open PySem Fw
theorem lW{a b:DS}{e e':Slots}{μ μ':af}{r:RS}(h:a e μ=.nx e' μ')(g:b e' μ'=r):aq a b e μ=r:=by
 rw[fQ,h,RS.bV,g]
end Fw
namespace Fw.J
open PySem Fw Fw.H Fw.E Fw.F
end Fw.J
namespace Fw.k63
open PySem Fw Fw.H Fw.E Fw.F Fw.J
def pt(q:Nat×Nat):T:=.tup [.int q.1,.int q.2]
def prs(rows:Rows)(is ks:List Nat):List (Nat×Nat):=ks.flatMap λi=>(is.filter λj=>(aB rows j).1==(aB rows i).1).map λj=>(i,j)
theorem kc{rows:Rows}{is ks:List Nat}{q:Nat×Nat}(h:q∈prs rows is ks):q.1∈ks/\q.2∈is:=by
 obtain⟨i,hi,h⟩:=List.mem_flatMap.mp h
 obtain⟨j,hj,rfl⟩:=List.mem_map.mp h
 exact⟨hi,(List.mem_filter.mp hj).1⟩
theorem oP(rows:Rows)(is:List Nat):∀ks:List Nat,(prs rows is ks).length≤ks.length*is.length
 | []=>Nat.zero_le _
 | k::ks=>by
  have:=oP rows is ks
  unfold prs at this ⊢
  rw[List.flatMap_cons,List.length_append,List.length_map,List.length_cons,Nat.succ_mul]
  have:=List.length_filter_le (λj=>(aB rows j).1==(aB rows k).1) is
  lia
theorem gE{rows:Rows}{i:Nat}(h:i<rows.length):atI (rows.map rt) (i:Int)=some (rt (aB rows i)):=by
 rw[mq (by lia) (by lia)]
 simp[aB,h]
def D7:DS:=(cV (aa 2) (aW (bD (aa 1)) [none,some 3,some 0] (av 0) (ah fEq (ao (ao (aa 2) (aa 0)) (dC (.int 0))) (ao (ao (aa 2) (aa 1)) (dC (.int 0)))) (ee [(aa 1),(aa 0)])))
theorem D8{rows:Rows}(is:List Nat)(hi:∀i∈is,i<rows.length)(hl:is.length≤12)(μ:af):cE [.val (.tup (rows.map rt)),.val (li (nums is))] μ=.ok (.val (.lst ((prs rows is is).map pt))) μ:=by
 have hL:(li (nums is))=.lst (is.map λ(i:Nat)=>T.int (i:Int)):=by rw[xX]
 rw[hL]
 have hlen:(is.map λ(i:Nat)=>T.int (i:Int)).length≤szL:=by rw[List.length_map];unfold szL;lia
 have ec:∀i∈is,∀μ:af,bI (λ_=>True) (av 0) (ah fEq (ao (ao (aa 2) (aa 0)) (dC (.int 0))) (ao (ao (aa 2) (aa 1)) (dC (.int 0)))) (ee [(aa 1),(aa 0)]) [none,some (.val (.int (i:Int))),some (.val (.tup (rows.map rt)))] (is.map λ(i:Nat)=>T.int (i:Int)) μ=.ok (((is.filter λj=>(aB rows j).1==(aB rows i).1).map λj=>(i,j)).map pt) μ:=λi him μ=>by
  rw[ij (λ(i:Nat)=>T.int (i:Int)) (λj=>(aB rows j).1==(aB rows i).1) (λj=>pt (i,j)) trivial]
  ·rw[List.map_map];rfl
  ·intro j hj
   have a1:=gE (hi j hj)
   have a2:=gE (hi i him)
   refine⟨_,rfl,?_,λ_=>?_⟩
   ·simp! only[a1,a2,rt]
   ·simp! only[]
    rfl
 obtain⟨e',μ',hf,x3,rfl,rfl⟩:=cx (same:=λ_=>True) (b:=av 3) (ts:=is.map λ(i:Nat)=>T.int (i:Int)) (body:=D7)
  (I:=λi e μ1=>∃x3,e=[some (.val (.tup (rows.map rt))),some (.val (.lst (is.map λ(i:Nat)=>T.int (i:Int)))),some (.cel μ.length),x3]/\μ1=μ++[(true,.lst ((prs rows is (is.take i)).map pt))]) (λ_ _ _ _=>trivial) (λi t e μ1 ht hI=>by
   obtain⟨x3,rfl,rfl⟩:=hI
   rw[List.getElem?_map] at ht
   obtain⟨k,hk,rfl⟩:=Option.map_eq_some_iff.mp ht
   have hm:k∈is:=List.mem_of_getElem? hk
   have htk:is.take (i+1)=is.take i++[k]:=by rw[List.take_add_one,hk];rfl
   have e1:=ec k hm
   generalize nh:prs rows is (is.take i)=acc
   have MS:acc.length≤144:=by
    rw[← nh]
    refine Nat.le_trans (oP rows is _) (Nat.le_trans (Nat.mul_le_mul (show(is.take i).length≤12 by rw[List.length_take];lia) hl) (by decide))
   generalize nR:((is.filter λj=>(aB rows j).1==(aB rows k).1).map λj=>(k,j))=new at e1
   have hnl:new.length≤12:=by
    rw[← nR,List.length_map]
    exact Nat.le_trans (List.length_filter_le _ _) hl
   have e2:prs rows is (is.take (i+1))=acc++new:=by
    rw[htk,← nh,← nR]
    unfold prs
    rw[List.flatMap_append]
    simp
   have hls:iC (.cel μ.length) (μ++[(true,T.lst (acc.map pt))])=some ():=gq _ _ _ _
   have hex:bW (.cel μ.length) (.lst (new.map pt)) (μ++[(true,T.lst (acc.map pt))])=some (μ++[(true,T.lst ((acc++new).map pt))]):=by
    unfold bW
    simp only[eC]
    rw[if_pos (by rw[List.length_map,List.length_map];unfold szL;lia),iG,List.map_append]
   refine⟨_,_,μ++[(true,T.lst ((acc++new).map pt))],rfl,?_,some (.val (.int (k:Int))),rfl,by rw[e2]⟩
   unfold D7
   simp! only[iH,hls,e1,hlen,hex])
  (e:=[some (.val (.tup (rows.map rt))),some (.val (.lst (is.map λ(i:Nat)=>T.int (i:Int)))),some (.cel μ.length),none]) (μ:=μ++[(true,.lst [])]) ⟨none,rfl,by simp[prs]⟩
 rw[List.length_map,List.take_length] at hf
 unfold cE
 rw[cI,nv,km]
 unfold eP
 simp! only[]
 rw[ko,show eQ=bE (bD (aa 1)) (av 3) D7 from rfl]
 simp! only[hf]
 rw[kq]
 unfold eR
 simp! only[]
 exact ud _ _
def aX(a b:List Int):List Int:=a.flatMap λx=>b.map λy=>x*y
theorem ke(b:List Int):∀a:List Int,(aX a b).length=a.length*b.length
 | []=>by simp[aX]
 | x::a=>by
  have:=ke b a
  unfold aX at this ⊢
  rw[List.flatMap_cons,List.length_append,List.length_map,List.length_cons,Nat.succ_mul,this]
  lia
def xZ:DS:=(cV (aa 2) (aW (bD (aa 1)) [none,some 3] (av 0) (dC (.bl true)) (ah aG (aa 1) (aa 0))))
theorem x_(a b:List Int)(ha:a.length≤12)(hb:b.length≤12)(h:∀x∈a,0≤x/\x<1000)(μ:af):eU [.val (tu a),.val (tu b)] μ=.ok (.val (tu (aX a b))) μ:=by
 have hlen:(b.map T.int).length≤szL:=by rw[List.length_map];unfold szL;lia
 have ec:∀x∈a,∀μ:af,bI (λ_=>True) (av 0) (dC (.bl true)) (ah aG (aa 1) (aa 0)) [none,some (.val (.int x))] (b.map T.int) μ=.ok ((b.map λy=>x*y).map T.int) μ:=λx hx μ=>by
  have hx:=h x hx
  rw[jZ (λy=>T.int (x*y)) trivial]
  ·rw[List.map_map];rfl
  ·intro y hy
   have hm:aG (.int x) (.int y)=some (.int (x*y)):=e8 _ _ (by lia) (by lia)
   refine⟨_,rfl,?_⟩
   simp! only[hm]
 obtain⟨e',μ',hf,x3,rfl,rfl⟩:=cx (same:=λ_=>True) (b:=av 3) (ts:=a.map T.int) (body:=xZ)
  (I:=λi e μ1=>∃x3,e=[some (.val (tu a)),some (.val (tu b)),some (.cel μ.length),x3]/\μ1=μ++[(true,li (aX (a.take i) b))]) (λ_ _ _ _=>trivial) (λi t e μ1 ht hI=>by
   obtain⟨x3,rfl,rfl⟩:=hI
   rw[List.getElem?_map] at ht
   obtain⟨k,hk,rfl⟩:=Option.map_eq_some_iff.mp ht
   have hm:k∈a:=List.mem_of_getElem? hk
   have htk:a.take (i+1)=a.take i++[k]:=by rw[List.take_add_one,hk];rfl
   have e1:=ec k hm
   generalize nh:aX (a.take i) b=acc
   have MS:acc.length≤144:=by
    rw[← nh,ke]
    exact Nat.le_trans (Nat.mul_le_mul (show(a.take i).length≤12 by rw[List.length_take];lia) hb) (by decide)
   generalize nR:(b.map λy=>k*y)=new at e1
   have hnl:new.length≤12:=by rw[← nR,List.length_map];exact hb
   have e2:aX (a.take (i+1)) b=acc++new:=by
    rw[htk,← nh,← nR]
    unfold aX
    rw[List.flatMap_append]
    simp
   have hls:iC (.cel μ.length) (μ++[(true,li acc)])=some ():=gq _ _ _ _
   have hex:bW (.cel μ.length) (.lst (new.map T.int)) (μ++[(true,li acc)])=some (μ++[(true,li (acc++new))]):=by
    unfold bW
    simp only[eC]
    rw[if_pos (by rw[List.length_map,List.length_map];unfold szL;lia),iG,← List.map_append]
   refine⟨_,_,μ++[(true,li (acc++new))],rfl,?_,some (.val (.int k)),rfl,by rw[e2]⟩
   unfold xZ
   simp! only[iH,hls,e1,hlen,hex])
  (e:=[some (.val (tu a)),some (.val (tu b)),some (.cel μ.length),none]) (μ:=μ++[(true,.lst [])]) ⟨none,rfl,by simp[aX]⟩
 rw[List.length_map,List.take_length] at hf
 unfold eU
 rw[cI,xt,qJ]
 unfold lh
 simp! only[]
 rw[qK,show lj=bE (bD (aa 0)) (av 3) xZ from rfl]
 simp! only[hf]
 rw[qL]
 unfold lq
 simp! only[eC,Ga]
def mN(w:Nat)(l:List Int):T:=.tup ((bJ 0 (w:Int).toNat).map λk=>T.tup (gi (l.map T.int) (some ((w:Int)*k)) (some ((w:Int)*(k+1)))))
theorem G7(w:Nat)(l:List Int)(hw:w≤12)(μ:af):gw [.val (.int w),.val (tu l)] μ=.ok (.val (mN w l)) μ:=by
 have rn:bQ (w:Int)=true:=bH (by lia) (by lia)
 have ln:(a_ 0 (w:Int).toNat).length≤szL:=by rw[bA];unfold szL;lia
 have hmu:∀k:Int,aG (.int (w:Int)) (.int k)=some (.int ((w:Int)*k)):=λk=>e8 _ _ (by lia) (by lia)
 have ec:∀μ:af,bI (λ_=>True) (av 0) (dC (.bl true)) (dUn cH (dm (aa 1) (some (ah aG (aa 2) (aa 0))) (some (ah aG (aa 2) (ah bx (aa 0) (dC (.int 1))))))) [none,some (.val (tu l)),some (.val (.int w))] (a_ 0 (w:Int).toNat) μ=.ok ((bJ 0 (w:Int).toNat).map λk=>T.tup (gi (l.map T.int) (some ((w:Int)*k)) (some ((w:Int)*(k+1))))) μ:=λμ=>by
  rw[fo,jZ (λk=>T.tup (gi (l.map T.int) (some ((w:Int)*k)) (some ((w:Int)*(k+1))))) trivial]
  intro k hk
  have hc:∀lo hi,pK (tu l) lo hi=some (T.tup (gi (l.map T.int) lo hi)):=λ_ _=>rfl
  refine⟨_,rfl,?_⟩
  dsimp! only[mw,hmu,hc]
 unfold mN
 unfold gw rQ
 dsimp! only[rn,ec,ln]
theorem MT{p:Int}{w:Nat}{raw:List (List Int)}{ws:List Int}(hP:hU p)(hr:∀l∈raw,l.length=w)(hw:Rw p w ws)(hn:raw.length≤200)(hw2:w≤100)(μ:af) :
  (∃tv,Rw p w tv/\j7 [.val (.int p),.val (.int w),.val (.lst (raw.map tu)),.val (tu ws)] μ=.ok (.val (.tup [.str "turn",tu tv])) μ/\(∀l∈raw,p ∣ dot (mdl p l) tv)/\p ∣ dot ws tv-1) ∨
  ∃ms:List Int,j7 [.val (.int p),.val (.int w),.val (.lst (raw.map tu)),.val (tu ws)] μ=.ok (.val (.tup [.str "sum",li ms])) μ/\Rw p raw.length ms/\∀j,j<w->p ∣ dot ms (col (raw.map (mdl p)) j)-g ws j:=by
 have hh:Bq p w (raw.map (mdl p)) ws μ (nr (starts 11 [.val (.int p),.val (.int w),.val (.lst (raw.map tu)),.val (tu ws)]) μ):=D4 (lines:=raw.map (mdl p)) hP hr rfl hw (by rw[List.length_map];exact hn) hw2 (.val (.lst (raw.map tu))) μ (λ_=>rfl)
 unfold j7
 rw[cI]
 generalize nr (starts 11 [.val (.int p),.val (.int w),.val (.lst (raw.map tu)),.val (tu ws)]) μ=r at hh
 cases hh with
 | turn c tv h h1 h2 =>
  refine .inl ⟨tv,h,?_,λl hl=>h1 _ (List.mem_map_of_mem hl),h2⟩
  rw[jU]
  simp[ice,frz,jf,uN]
 | sum c ms h h1 =>
  refine .inr ⟨ms,?_,by rw[List.length_map] at h;exact h,h1⟩
  rw[jU]
  simp[ice,frz,jf,uN]
theorem qq:∀(xs:List (Nat×Nat)) (ms:List Int),ie (xs.map pt) (ms.map T.int)=(xs.zip ms).map λq=>.tup [pt q.1,.int q.2]
 | [],ms=>rfl
 | x::xs,[]=>rfl
 | x::xs,m::ms=>by
  have:=qq xs ms
  simp only[List.map_cons,List.zip_cons_cons,ie,this]
theorem G8(t:List Int):∀(u v:List Int),u.length=v.length->dot ((u.zip v).map λq=>q.1+q.2) t=dot u t+dot v t:=by
 induction t with
 | nil=>intro u v _;simp
 | cons x t ih =>
  intro u v h
  cases u with
  | nil=>cases v with
   | nil=>simp
   | cons b v=>simp at h
  | cons a u=>cases v with
   | nil=>simp at h
   | cons b v =>
    simp only[List.zip_cons_cons,List.map_cons,bf]
    rw[ih u v (by simpa using h)]
    grind
theorem nB(m:Int)(t:List Int):∀(l:List Int),dot (l.map λx=>m*x) t=m*dot l t:=by
 induction t with
 | nil=>intro l;simp
 | cons x t ih =>
  intro l
  cases l with
  | nil=>simp
  | cons a l=>simp only[List.map_cons,bf];rw[ih l];grind
def mix(w:Nat):List (List Int)->List Int->List Int
 | l::ls,m::ms=>((l.map λx=>m*x).zip (mix w ls ms)).map λq=>q.1+q.2
 | _,_=>List.replicate w 0
theorem mO(w:Nat):∀(ls:List (List Int)) (ms:List Int),(∀l∈ls,l.length=w)->(mix w ls ms).length=w
 | [],ms,_=>by simp[mix]
 | l::ls,[],_=>by simp[mix]
 | l::ls,m::ms,h=>by
  have:=mO w ls ms λx hx=>h x (List.mem_cons_of_mem _ hx)
  simp[mix,this,h l List.mem_cons_self]
theorem zo(w:Nat)(t:List Int):∀(ls:List (List Int)) (ms:List Int),(∀l∈ls,l.length=w)->dot (mix w ls ms) t=dot ms (ls.map λl=>dot l t)
 | [],ms,_=>by simp[mix,ed]
 | l::ls,[],_=>by simp[mix,ed]
 | l::ls,m::ms,h=>by
  have ih:=zo w t ls ms λx hx=>h x (List.mem_cons_of_mem _ hx)
  have hl:=mO w ls ms λx hx=>h x (List.mem_cons_of_mem _ hx)
  show dot (((l.map λx=>m*x).zip (mix w ls ms)).map λq=>q.1+q.2) t=dot (m::ms) (dot l t::ls.map λl=>dot l t)
  rw[G8 t _ _ (by rw[List.length_map,hl,h l List.mem_cons_self]),nB,ih,bf]
theorem HY:∀(u v:List Int) (j:Nat),u.length=v.length->g ((u.zip v).map λq=>q.1+q.2) j=g u j+g v j
 | [],[],j,_=>by simp[g]
 | [],b::v,j,h=>by simp at h
 | a::u,[],j,h=>by simp at h
 | a::u,b::v,0,h=>by simp[g]
 | a::u,b::v,j+1,h=>by
  have:=HY u v j (by simpa using h)
  simpa [g] using this
theorem G9(m:Int)(l:List Int)(j:Nat):g (l.map λx=>m*x) j=m*g l j:=by
 unfold g
 rw[List.getD_eq_getElem?_getD,List.getD_eq_getElem?_getD,List.getElem?_map]
 cases l[j]?<;>simp
theorem zp(w j:Nat):g (List.replicate w 0) j=0:=by
 unfold g
 rw[List.getD_eq_getElem?_getD,List.getElem?_replicate]
 split<;>rfl
theorem HZ(w:Nat)(j:Nat):∀(ls:List (List Int)) (ms:List Int),(∀l∈ls,l.length=w)->g (mix w ls ms) j=dot ms (col ls j)
 | [],ms,_=>by simp[mix,col,zp]
 | l::ls,[],_=>by simp[mix,zp]
 | l::ls,m::ms,h=>by
  have ih:=HZ w j ls ms λx hx=>h x (List.mem_cons_of_mem _ hx)
  have hl:=mO w ls ms λx hx=>h x (List.mem_cons_of_mem _ hx)
  show g (((l.map λx=>m*x).zip (mix w ls ms)).map λq=>q.1+q.2) j=dot (m::ms) (g l j::col ls j)
  rw[HY _ _ j (by rw[List.length_map,hl,h l List.mem_cons_self]),G9,ih,bf]
theorem r8(p:Int):∀(ps qs t:List Int),ps.length=qs.length->(∀i,i<ps.length->p ∣ g ps i-g qs i)->p ∣ dot ps t-dot qs t
 | [],[],t,_,_=>⟨0,by simp⟩
 | [],b::qs,t,h,_=>by simp at h
 | a::ps,[],t,h,_=>by simp at h
 | a::ps,b::qs,[],_,_=>⟨0,by simp⟩
 | a::ps,b::qs,x::t,h,hi=>by
  obtain⟨c,hc⟩:=r8 p ps qs t (by simpa using h) λi hl=>by
   have:=hi (i+1) (by simpa using hl)
   simpa [g] using this
  obtain⟨d,hd⟩:=hi 0 (by simp)
  have hd:a-b=p*d:=by simpa [g] using hd
  refine⟨d*x+c,?_⟩
  rw[bf,bf]
  grind
theorem comb{p:Int}{w:Nat}{lines:List (List Int)}{ms v:List Int}(hl:∀l∈lines,l.length=w)(hv:v.length=w)(h:∀j,j<w->p ∣ dot ms (col lines j)-g v j)(t:List Int):p ∣ dot ms (lines.map λl=>dot l t)-dot v t:=by
 rw[← zo w t lines ms hl]
 refine r8 p _ _ t (by rw[mO w lines ms hl,hv]) λj hj=>?_
 rw[mO w lines ms hl] at hj
 rw[HZ w j lines ms hl]
 exact h j hj
theorem ug(p:Int)(l t:List Int):p ∣ dot (mdl p l) t-dot l t:=by
 rw[mM (mdl p l),mM l]
 exact vN p t l
theorem qr(p:Int)(f h:List Int->Int)(hf:∀l,p ∣ f l-h l):∀(ms:List Int) (ls:List (List Int)),p ∣ dot ms (ls.map f)-dot ms (ls.map h)
 | [],ls=>⟨0,by simp⟩
 | m::ms,[]=>⟨0,by simp⟩
 | m::ms,l::ls=>by
  obtain⟨a,ha⟩:=qr p f h hf ms ls
  obtain⟨b,hb⟩:=hf l
  exact⟨m*b+a,by simp only[List.map_cons,bf];grind⟩
structure Comes(p:Int)(w:Nat)(rows:Rows)(ps:List (Nat×Nat))(ms:List Int):Prop where
 len:ms.length=ps.length
 is:∀j,j<w*w->p ∣ dot ms (col ((ps.map λq=>aX (aB rows q.1).2 (aB rows q.2).2).map (mdl p)) j)-g (eu (w*w) 0) j
theorem Comes.at{p:Int}{w:Nat}{rows:Rows}{ps:List (Nat×Nat)}{ms:List Int}(C:Comes p w rows ps ms)(hr:∀q∈ps,(aB rows q.1).2.length=w/\(aB rows q.2).2.length=w)(t:List Int):p ∣ dot ms (ps.map λq=>dot (aX (aB rows q.1).2 (aB rows q.2).2) t)-dot (eu (w*w) 0) t:=by
 have hl:∀l∈(ps.map λq=>aX (aB rows q.1).2 (aB rows q.2).2).map (mdl p),l.length=w*w:=λl h=>by
  obtain⟨l0,h0,rfl⟩:=List.mem_map.mp h
  obtain⟨q,hq,rfl⟩:=List.mem_map.mp h0
  rw[mdl,List.length_map,ke,(hr q hq).1,(hr q hq).2]
 obtain⟨a,ha⟩:=comb hl (show(eu (w*w) 0).length=w*w by simp[eu]) C.is t
 obtain⟨b,hb⟩:=qr p (λl=>dot (mdl p l) t) (λl=>dot l t) (λl=>ug p l t) ms (ps.map λq=>aX (aB rows q.1).2 (aB rows q.2).2)
 rw[List.map_map] at ha
 have e1:((ps.map λq=>aX (aB rows q.1).2 (aB rows q.2).2).map ((λl=>dot l t) ∘ mdl p))=((ps.map λq=>aX (aB rows q.1).2 (aB rows q.2).2).map λl=>dot (mdl p l) t):=rfl
 rw[e1] at ha
 rw[List.map_map] at hb
 have e2:((λl=>dot l t) ∘ λq:Nat×Nat=>aX (aB rows q.1).2 (aB rows q.2).2)=λq=>dot (aX (aB rows q.1).2 (aB rows q.2).2) t:=rfl
 rw[List.map_map,e2] at hb
 rw[List.map_map] at ha
 exact⟨a-b,by grind⟩
def r_:DS:=(aq (aC 5 (ax (cal cE) [(aa 3),(aa 4)]))
 (aq (aC 6 (aW (bD (aa 5)) [none,none,some 3] (cT [0,1]) (dC (.bl true)) (ax (cal eU) [(ao (ao (aa 2) (aa 0)) (dC (.int 1))),(ao (ao (aa 2) (aa 1)) (dC (.int 1)))])))
 (aq (aC 7 (ax (cal j7) [(ao (aa 0) (dC (.int 0))),(ah aG (aa 2) (aa 2)),(aa 6),(ax (cal bX) [(ah aG (aa 2) (aa 2))])]))
 (aq (sIf (ah fEq (ao (aa 7) (dC (.int 0))) (dC (.str "turn"))) (aH (ee [(dC (.str "shut")),(ax (cal gw) [(aa 2),(ao (aa 7) (dC (.int 1)))])])) bB)
 (aH (ee [(dC (.str "open")),(aW (An (aa 5) (ao (aa 7) (dC (.int 1)))) [none,none] (cT [0,1]) (ah fNe (aa 1) (dC (.int 0))) (ee [(ao (aa 0) (dC (.int 0))),(ao (aa 0) (dC (.int 1))),(aa 1)]))]))))))
abbrev cF(q:(Nat×Nat)×Int):T:=.tup [.int q.1.1,.int q.1.2,.int q.2]
abbrev kept(ps:List (Nat×Nat))(ms:List Int):List ((Nat×Nat)×Int):=(ps.zip ms).filter λq=>!(q.2==0)
theorem G_{p:Int}{w:Nat}{rows:Rows}(H:Tbl p w rows)(hw:w≤5)(is:List Nat)(hi:∀i∈is,i<rows.length)(hl:is.length≤12)(x1:Option SV)(μ:af) :
  (∃ms,Comes p w rows (prs rows is is) ms/\Rw p (prs rows is is).length ms/\r_ [some (.val (.tup [.int p,.int w,.tup (rows.map rt)])),x1,some (.val (.int w)),some (.val (.tup (rows.map rt))),some (.val (li (nums is))),none,none,none] μ=.rt (.val (.tup [.str "open",.lst ((kept (prs rows is is) ms).map cF)])) μ) ∨
  ∃tv,Rw p (w*w) tv/\(∀q∈prs rows is is,p ∣ dot (mdl p (aX (aB rows q.1).2 (aB rows q.2).2)) tv)/\p ∣ dot (eu (w*w) 0) tv-1/\r_ [some (.val (.tup [.int p,.int w,.tup (rows.map rt)])),x1,some (.val (.int w)),some (.val (.tup (rows.map rt))),some (.val (li (nums is))),none,none,none] μ=.rt (.val (.tup [.str "shut",mN w tv])) μ:=by
 have hb:=H.pr.pos
 have hp0:0<p:=by lia
 have e1:=D8 (rows:=rows) is hi hl μ
 have hpl:(prs rows is is).length≤144:=Nat.le_trans (oP rows is is) (Nat.le_trans (Nat.mul_le_mul hl hl) (by decide))
 have hpm:∀q∈prs rows is is,q.1<rows.length/\q.2<rows.length:=λq hq=>⟨hi _ (kc hq).1,hi _ (kc hq).2⟩
 generalize prs rows is is=ps at e1 hpl hpm
 have hR:∀i,i<rows.length->Rw p w (aB rows i).2:=λi h=>iX H h
 have vM:∀l∈ps.map (λq=>aX (aB rows q.1).2 (aB rows q.2).2),l.length=w*w:=λl h=>by
  obtain⟨q,hq,rfl⟩:=List.mem_map.mp h
  rw[ke,(hR _ (hpm q hq).1).1,(hR _ (hpm q hq).2).1]
 have lps:(ps.map pt).length≤szL:=by rw[List.length_map];unfold szL;lia
 have ec:∀μ:af,bI (λ_=>True) (cT [0,1]) (dC (.bl true)) (ax (cal eU) [(ao (ao (aa 2) (aa 0)) (dC (.int 1))),(ao (ao (aa 2) (aa 1)) (dC (.int 1)))]) [none,none,some (.val (.tup (rows.map rt)))] (ps.map pt) μ=.ok ((ps.map (λq=>aX (aB rows q.1).2 (aB rows q.2).2)).map tu) μ:=λμ=>by
  rw[cC pt (λq=>tu (aX (aB rows q.1).2 (aB rows q.2).2)) trivial]
  ·rw[List.map_map];rfl
  ·intro q hq
   have a1:=gE (hpm q hq).1
   have a2:=gE (hpm q hq).2
   have r1:=hR _ (hpm q hq).1
   have r2:=hR _ (hpm q hq).2
   have hc:=x_ (aB rows q.1).2 (aB rows q.2).2 (by rw[r1.1];lia) (by rw[r2.1];lia) (λx hx=>⟨r1.2 x hx,by have:=r1.3 x hx;lia⟩) μ
   refine⟨_,dZ 0 1 _ _ _,?_⟩
   dsimp! only[a1,a2,rt,hc]
 have hmu:aG (.int (w:Int)) (.int (w:Int))=some (.int ((w*w:Nat):Int)):=by rw[e8 _ _ (by lia) (by lia),Int.natCast_mul]
 have hww:w*w≤25:=Nat.le_trans (Nat.mul_le_mul hw hw) (by decide)
 have hw0:0<w*w:=Nat.mul_pos H.w0 H.w0
 have eh:bX [.val (.int ((w*w:Nat):Int))] μ=.ok (.val (tu (eu (w*w) 0))) μ:=Bs (w*w) hw0 (by lia) μ
 have hV:=MT (p:=p) (w:=w*w) (raw:=ps.map (λq=>aX (aB rows q.1).2 (aB rows q.2).2)) (ws:=eu (w*w) 0) H.pr vM (MQ (by lia) _ 0) (by rw[List.length_map];lia) (by lia) μ
 rcases hV with ⟨tv,htv,hh,h1,h2⟩|⟨ms,hh,hm,h1⟩
 ·have hf:=G7 w tv (by lia) μ
  refine .inr ⟨tv,htv,λq hq=>h1 _ (List.mem_map_of_mem hq),h2,?_⟩
  generalize ps.map (λq=>aX (aB rows q.1).2 (aB rows q.2).2)=raw at ec hh
  unfold r_
  (apply lW;· (simp?! only[e1];first|done|rfl))
  (apply lW;· (simp?! only[ec,lps];first|done|rfl))
  (apply lW;· (simp?! only[hmu,eh,hh];first|done|rfl))
  dsimp! only[hf]
 ·rw[List.length_map] at hm
  have hml:=hm.1
  have ec2:bI (λ_=>True/\True) (cT [0,1]) (ah fNe (aa 1) (dC (.int 0))) (ee [(ao (aa 0) (dC (.int 0))),(ao (aa 0) (dC (.int 1))),(aa 1)]) [none,none] (ie (ps.map pt) (ms.map T.int)) μ=.ok ((kept ps ms).map cF) μ:=by
   rw[qq,ij (λq:(Nat×Nat)×Int=>.tup [pt q.1,.int q.2]) (λq=>!(q.2==0)) cF ⟨trivial,trivial⟩]
   intro q hq
   refine⟨_,dZ 0 1 _ _ _,?_,λ_=>?_⟩
   ·dsimp! only[]
   ·dsimp! only[pt]
  have lz:(ie (ps.map pt) (ms.map T.int)).length≤szL:=by rw[u_,List.length_map];unfold szL;lia
  have hne:fEq (.str "sum") (.str "turn")=some (.bl false):=by rw[iA];rfl
  refine .inl ⟨ms,⟨hml,h1⟩,hm,?_⟩
  generalize ps.map (λq=>aX (aB rows q.1).2 (aB rows q.2).2)=raw at ec hh
  unfold r_
  (apply lW;· (simp?! only[e1];first|done|rfl))
  (apply lW;· (simp?! only[ec,lps];first|done|rfl))
  (apply lW;· (simp?! only[hmu,eh,hh];first|done|rfl))
  (apply lW;· (simp?! only[hne];first|done|rfl))
  dsimp! only[ec2,lz]
theorem vO{p:Int}{w:Nat}{rows:Rows}(H:Tbl p w rows)(hw:w≤5)(hn:rows.length≤12)(hs:List Int)(μ:af) :
  (∃ms,Comes p w rows (prs rows (rowsOf rows hs) (rowsOf rows hs)) ms/\Rw p (prs rows (rowsOf rows hs) (rowsOf rows hs)).length ms/\ck [.val (tb p w rows),.val (li hs)] μ=.ok (.val (.tup [.str "open",.lst ((kept (prs rows (rowsOf rows hs) (rowsOf rows hs)) ms).map cF)])) μ) ∨
  ∃tv,Rw p (w*w) tv/\(∀q∈prs rows (rowsOf rows hs) (rowsOf rows hs),p ∣ dot (mdl p (aX (aB rows q.1).2 (aB rows q.2).2)) tv)/\p ∣ dot (eu (w*w) 0) tv-1/\ck [.val (tb p w rows),.val (li hs)] μ=.ok (.val (.tup [.str "shut",mN w tv])) μ:=by
 have hro:dX [.val (.tup [.int p,.int w,.tup (rows.map rt)]),.val (li hs)] μ=.ok (.val (li (nums (rowsOf rows hs)))) μ:=Br (p:=p) (w:=w) H.n hs (.val (li hs)) μ rfl
 have hlen:((nums (rowsOf rows hs)).map T.int).length=(rowsOf rows hs).length:=by rw[← xX,List.length_map]
 have hlt:∀i∈rowsOf rows hs,i<rows.length:=λi h=>List.mem_range.mp (List.mem_filter.mp h).1
 have N3:(rowsOf rows hs).length≤12:=Nat.le_trans (List.length_filter_le _ _) (by rw[List.length_range];exact hn)
 generalize rowsOf rows hs=is at *
 have g1:decide ((w:Int) > 5)=false:=decide_eq_false (by lia)
 have g2:decide ((is.length:Int) > 12)=false:=decide_eq_false (by lia)
 have go:∀x,r_ [some (.val (.tup [.int p,.int w,.tup (rows.map rt)])),some (.val (li hs)),some (.val (.int w)),some (.val (.tup (rows.map rt))),some (.val (li (nums is))),none,none,none] μ=.rt (.val x) μ->ck [.val (tb p w rows),.val (li hs)] μ=.ok (.val x) μ:=λx hx=>by
  unfold ck tb
  rw[cI,show qa=(aq (aC 2 (ao (aa 0) (dC (.int 1))))
   (aq (aC 3 (ao (aa 0) (dC (.int 2))))
   (aq (aC 4 (ax (cal dX) [(aa 0),(aa 1)]))
   (aq (sIf (dOr (ah fGt (aa 2) (dC (.int 5))) (ah fGt (cS (aa 4)) (dC (.int 12)))) sS bB)
   r_)))) from rfl]
  simp! only[hro,hlen,g1,g2,hx]
 rcases G_ H hw is hlt N3 (some (.val (li hs))) μ with ⟨ms,c,r,e⟩|⟨tv,hv,a,b,e⟩
 ·exact .inl ⟨ms,c,r,go _ e⟩
 ·exact .inr ⟨tv,hv,a,b,go _ e⟩
end Fw.k63
namespace Fw.K
open PySem Fw Fw.H Fw.E Fw.F Fw.J
end Fw.K
namespace Fw.k63
open PySem Fw Fw.H Fw.E Fw.F Fw.J
def lpB:DS:=(cV (aa 3) (aW (bD (aa 2)) [none,some 4,some 0] (av 0) (ah fEq (ao (ao (ao (aa 2) (dC (.int 2))) (aa 1)) (dC (.int 0))) (ao (ao (ao (aa 2) (dC (.int 2))) (aa 0)) (dC (.int 0)))) (ee [(aa 1),(aa 0)])))
theorem zq{p:Int}{w:Nat}{rows:Rows}(hs:List Int)(μ:af):bI (λ_=>True) (av 0) (ah fIn (ao (ao (ao (aa 2) (dC (.int 2))) (aa 0)) (dC (.int 0))) (aa 1)) (aa 0) [none,some (.val (li hs)),some (.val (tb p w rows))] (a_ 0 (rows.length:Int).toNat) μ=.ok ((rowsOf rows hs).map λ(i:Nat)=>T.int (i:Int)) μ:=by
 have e0:a_ 0 (rows.length:Int).toNat=(List.range rows.length).map λ(i:Nat)=>T.int (i:Int):=by rw[fo,f_,Int.toNat_natCast,List.map_map];rfl
 rw[e0,ij (λ(i:Nat)=>T.int (i:Int)) (λi=>decide ((aB rows i).1∈hs)) (λ(i:Nat)=>T.int (i:Int)) trivial]
 ·rfl
 ·intro i hi
  have hi:=List.mem_range.mp hi
  have a1:atI (rows.map rt) (i:Int)=some (rt (aB rows i)):=gE hi
  refine⟨_,rfl,?_,λ_=>?_⟩
  ·unfold tb
   simp?! only[a1,rt,va]
  ·simp?! only[]
theorem Ha{p:Int}{w:Nat}{rows:Rows}{is:List Nat}(hi:∀i∈is,i<rows.length):∀i∈is,∀μ:af,bI (λ_=>True) (av 0) (ah fEq (ao (ao (ao (aa 2) (dC (.int 2))) (aa 1)) (dC (.int 0))) (ao (ao (ao (aa 2) (dC (.int 2))) (aa 0)) (dC (.int 0)))) (ee [(aa 1),(aa 0)]) [none,some (.val (.int (i:Int))),some (.val (tb p w rows))] (is.map λ(i:Nat)=>T.int (i:Int)) μ=.ok (((is.filter λj=>(aB rows j).1==(aB rows i).1).map λj=>(i,j)).map pt) μ:=λi him μ=>by
 rw[ij (λ(i:Nat)=>T.int (i:Int)) (λj=>(aB rows j).1==(aB rows i).1) (λj=>pt (i,j)) trivial]
 ·rw[List.map_map];rfl
 ·intro j hj
  have a1:=gE (hi j hj)
  have a2:=gE (hi i him)
  have bc:((aB rows i).1==(aB rows j).1)=((aB rows j).1==(aB rows i).1):=by
   rw[Bool.eq_iff_iff,beq_iff_eq,beq_iff_eq]
   exact eq_comm
  refine⟨_,rfl,?_,λ_=>?_⟩
  ·unfold tb
   simp?! only[a1,a2,rt,bc]
  ·simp?! only[]
   rfl
theorem lp0{p:Int}{w:Nat}{rows:Rows}(hn:rows.length≤12)(hs:List Int)(μ:af):iQ [some (.val (tb p w rows)),some (.val (li hs)),none,none,none] μ=.nx [some (.val (tb p w rows)),some (.val (li hs)),some (.val (.lst ((rowsOf rows hs).map λ(i:Nat)=>T.int (i:Int)))),none,none] μ:=by
 have rn:bQ (rows.length:Int)=true:=bH (by lia) (by lia)
 have ln:(a_ 0 (rows.length:Int).toNat).length≤szL:=by rw[bA];unfold szL;lia
 have e0:=zq (p:=p) (w:=w) (rows:=rows) hs μ
 have N4:(List.map rt rows).length=rows.length:=List.length_map ..
 unfold iQ
 unfold tb at e0 ⊢
 simp?! only[N4,rn,ln,e0]
theorem sa{p:Int}{w:Nat}{rows:Rows}(hn:rows.length≤12)(hs:List Int)(μ:af):bR [.val (tb p w rows),.val (li hs)] μ=.ok (.val (.lst ((prs rows (rowsOf rows hs) (rowsOf rows hs)).map pt))) μ:=by
 have hi:∀i∈rowsOf rows hs,i<rows.length:=kb
 have hl:(rowsOf rows hs).length≤12:=Nat.le_trans (xY rows hs) hn
 have rn:bQ (rows.length:Int)=true:=bH (by lia) (by lia)
 have ln:(a_ 0 (rows.length:Int).toNat).length≤szL:=by rw[bA];unfold szL;lia
 have e0:=zq (p:=p) (w:=w) (rows:=rows) hs
 generalize hL:rowsOf rows hs=is at *
 have hlen:(is.map λ(i:Nat)=>T.int (i:Int)).length≤szL:=by rw[List.length_map];unfold szL;lia
 have ec:=Ha (p:=p) (w:=w) hi
 obtain⟨e',μ',hf,x3,rfl,rfl⟩:=cx (same:=λ_=>True) (b:=av 4) (ts:=is.map λ(i:Nat)=>T.int (i:Int)) (body:=lpB)
  (I:=λi e μ1=>∃x3,e=[some (.val (tb p w rows)),some (.val (li hs)),some (.val (.lst (is.map λ(i:Nat)=>T.int (i:Int)))),some (.cel μ.length),x3]/\μ1=μ++[(true,.lst ((prs rows is (is.take i)).map pt))]) (λ_ _ _ _=>trivial) (λi t e μ1 ht hI=>by
   obtain⟨x3,rfl,rfl⟩:=hI
   rw[List.getElem?_map] at ht
   obtain⟨k,hk,rfl⟩:=Option.map_eq_some_iff.mp ht
   have hm:k∈is:=List.mem_of_getElem? hk
   have htk:is.take (i+1)=is.take i++[k]:=by rw[List.take_add_one,hk];rfl
   have e1:=ec k hm
   generalize nh:prs rows is (is.take i)=acc
   have MS:acc.length≤144:=by
    rw[← nh]
    refine Nat.le_trans (oP rows is _) (Nat.le_trans (Nat.mul_le_mul (show(is.take i).length≤12 by rw[List.length_take];lia) hl) (by decide))
   generalize nR:((is.filter λj=>(aB rows j).1==(aB rows k).1).map λj=>(k,j))=new at e1
   have hnl:new.length≤12:=by
    rw[← nR,List.length_map]
    exact Nat.le_trans (List.length_filter_le _ _) hl
   have e2:prs rows is (is.take (i+1))=acc++new:=by
    rw[htk,← nh,← nR]
    unfold prs
    rw[List.flatMap_append]
    simp
   have hls:iC (.cel μ.length) (μ++[(true,T.lst (acc.map pt))])=some ():=gq _ _ _ _
   have hex:bW (.cel μ.length) (.lst (new.map pt)) (μ++[(true,T.lst (acc.map pt))])=some (μ++[(true,T.lst ((acc++new).map pt))]):=by
    unfold bW
    simp only[eC]
    rw[if_pos (by rw[List.length_map,List.length_map];unfold szL;lia),iG,List.map_append]
   refine⟨_,_,μ++[(true,T.lst ((acc++new).map pt))],rfl,?_,some (.val (.int (k:Int))),rfl,by rw[e2]⟩
   unfold lpB
   simp! only[iH,hls,e1,hlen,hex])
  (e:=[some (.val (tb p w rows)),some (.val (li hs)),some (.val (.lst (is.map λ(i:Nat)=>T.int (i:Int)))),some (.cel μ.length),none]) (μ:=μ++[(true,.lst [])]) ⟨none,rfl,by simp[prs]⟩
 rw[List.length_map,List.take_length] at hf
 have g0:=lp0 (p:=p) (w:=w) hn hs μ
 rw[hL] at g0
 have g1:iR [some (.val (tb p w rows)),some (.val (li hs)),some (.val (.lst (is.map λ(i:Nat)=>T.int (i:Int)))),none,none] μ=.nx [some (.val (tb p w rows)),some (.val (li hs)),some (.val (.lst (is.map λ(i:Nat)=>T.int (i:Int)))),some (.cel μ.length),none] (μ++[(true,.lst [])]):=by unfold iR;simp! only[]
 unfold bR
 rw[cI,xu,qM]
 rw[show starts 5 [SV.val (tb p w rows),.val (li hs)]=[some (.val (tb p w rows)),some (.val (li hs)),none,none,none] from rfl,g0,RS.bV,qN,g1,RS.bV,qO,show lx=bE (bD (aa 2)) (av 4) lpB from rfl]
 simp! only[hf]
 rw[qP]
 unfold ly
 simp! only[]
 exact ud _ _
abbrev nC(w:Nat)(M:Nat->Nat->Int)(a:Nat):List Int:=(List.range w).map λb=>M a b
abbrev sd(w:Nat)(M:Nat->Nat->Int):List (List Int):=(List.range w).map (nC w M)
def stM(w:Nat)(M:Nat->Nat->Int):af:=(List.range w).map λa=>(true,li (nC w M a))
def lb(k w:Nat):List (Sum T Nat):=(List.range w).map λa=>.inr (k+a)
def upM(M:Nat->Nat->Int)(a b:Nat)(v:Int):Nat->Nat->Int:=λx y=>if x=a/\y=b then v else M x y
theorem ya{w:Nat}{M:Nat->Nat->Int}{a:Nat}(h:a<w):(stM w M)[a]?=some (true,li (nC w M a)):=by
 unfold stM
 rw[List.getElem?_map,List.getElem?_range h];rfl
theorem D9(μ:af){w:Nat}{M:Nat->Nat->Int}{a:Nat}(h:a<w):(μ++stM w M)[μ.length+a]?=some (true,li (nC w M a)):=by
 rw[List.getElem?_append_right (by lia),Nat.add_sub_cancel_left]
 exact ya h
theorem Hb{w:Nat}{M:Nat->Nat->Int}{a b:Nat}(h:b<w):atI ((nC w M a).map T.int) (b:Int)=some (.int (M a b)):=by
 rw[gO (by lia),Int.toNat_natCast,List.getElem?_map,List.getElem?_map,List.getElem?_range h];rfl
theorem Ki(μ:af){w:Nat}{M:Nat->Nat->Int}{a b:Nat}(ha:a<w)(hb:b<w)(v:Int):setAt (.cel (μ.length+a)) (.int (b:Int)) (.int v) (μ++stM w M)=some (μ++stM w (upM M a b v)):=by
 rw[ml (D9 μ ha) (by lia) (by simp;lia),List.set_append_right (h:=by lia),Nat.add_sub_cancel_left,Int.toNat_natCast]
 congr 2
 apply List.ext_getElem?
 intro i
 by_cases hi:i<w
 ·rw[ya hi]
  by_cases e:i=a
  ·subst e
   rw[List.getElem?_set_self (by unfold stM;simp;exact hi)]
   congr 2
   show T.lst _=T.lst _
   congr 1
   rw[← List.map_set (f:=T.int)]
   congr 1
   apply List.ext_getElem?
   intro j
   by_cases hj:j<w
   ·rw[show(nC w (upM M i b v) i)[j]?=some (upM M i b v i j) by rw[List.getElem?_map,List.getElem?_range hj];rfl]
    by_cases ej:j=b
    ·subst ej
     rw[List.getElem?_set_self (by simp;exact hj)]
     unfold upM
     rw[if_pos ⟨rfl,rfl⟩]
    ·rw[List.getElem?_set_ne (Ne.symm ej),List.getElem?_map,List.getElem?_range hj]
     unfold upM
     rw[if_neg (λz=>ej z.2)];rfl
   ·rw[List.getElem?_eq_none (by simp;lia),List.getElem?_eq_none (by simp;lia)]
  ·rw[List.getElem?_set_ne (Ne.symm e),ya hi]
   congr 3
   apply List.map_congr_left
   intro j _
   unfold upM
   rw[if_neg (λz=>e z.1)]
 ·rw[List.getElem?_eq_none (by unfold stM;simp;lia),List.getElem?_eq_none (by unfold stM;simp;lia)]
theorem MU{k w a:Nat}(h:a<w):atI (lb k w) (a:Int)=some (.inr (k+a)):=by
 rw[gO (by lia),Int.toNat_natCast]
 unfold lb
 rw[List.getElem?_map,List.getElem?_range h];rfl
def Hd:D:=(bG (kl jh [(dC (.int 0))] (aa 1)))
theorem Kj{FR:T->T->Option T}{w:Nat}{z:T}(er:FR (.lst [.int 0]) (.int (w:Int))=some z)(t:T)(μ:af):(bG (kl FR [(dC (.int 0))] (aa 1))) [some (.val t),some (.val (.int w))] μ=.ok (.cel μ.length) (μ++[(true,z)]):=by
 simp?! only[yB,er]
theorem D_{w:Nat}(hw:w≤12)(t:T)(μ:af):Hd [some (.val t),some (.val (.int w))] μ=.ok (.cel μ.length) (μ++[(true,li (List.replicate w 0))]):=Kj (rep0 w (by lia)) t μ
theorem Ea(n:Nat):∀(m k:Nat),(List.range m).map (λa=>(Sum.inr (k+1+a):Sum T Nat))=(List.range m).map λa=>(Sum.inr (k+(a+1)):Sum T Nat):=λm k=>by
 apply List.map_congr_left
 intro a _
 rw[show k+1+a=k+(a+1) by lia]
theorem se{N:D}{x1:Option SV}{c:Bool×T}(hd:∀t μ,N [some (.val t),x1] μ=.ok (.cel μ.length) (μ++[c]))(e0:Option SV):∀(ts:List T) (μ:af),jz (λ_=>True) (av 0) N [e0,x1] ts μ=.ok ((List.range ts.length).map λa=>.inr (μ.length+a)) (μ++List.replicate ts.length c)
 | [],μ=>by
  unfold jz
  rw[if_pos trivial]
  simp
 | t::ts,μ=>by
  have ih:=se hd e0 ts (μ++[c])
  unfold jz
  rw[if_pos trivial]
  simp only[ig,List.set_cons_zero,hd,R.cw,R.aQ]
  rw[show boxed [SV.cel μ.length]=some [.inr μ.length] from rfl,R.aP,R.aQ,ih,R.aQ,List.length_append,List.length_singleton,Ea 0,List.append_assoc,List.length_cons,List.replicate_succ,List.singleton_append,List.singleton_append,List.range_succ_eq_map,List.map_cons,List.map_map,Nat.add_zero]
  rfl
theorem Eb(w:Nat):stM w (λ_ _=>0)=List.replicate w (true,li (List.replicate w 0)):=by
 have e:∀a,nC w (λ_ _=>0) a=List.replicate w 0:=λa=>by
  unfold nC
  rw[List.map_const',List.length_range]
 unfold stM
 simp only[e]
 rw[List.map_const',List.length_range]
theorem Kk{N:D}{w:Nat}{c:Bool×T}(hd:∀t μ,N [some (.val t),some (.val (.int w))] μ=.ok (.cel μ.length) (μ++[c]))(hw:w≤12){x0 x1 x2 x3:Option SV}(tl:Slots)(μ:af):iO (aK (aa 4)) [none,some 4] (av 0) N (x0::x1::x2::x3::some (.val (.int w))::tl) μ=.ok (.lbx (lb μ.length w)) (μ++List.replicate w c):=by
 have rn:bQ (w:Int)=true:=bH (by lia) (by lia)
 have ln:(a_ 0 (w:Int).toNat).length≤szL:=by rw[bA];unfold szL;lia
 have hc:=se hd none (a_ 0 (w:Int).toNat) μ
 have hl:(a_ 0 (w:Int).toNat).length=w:=by rw[bA];simp
 rw[hl] at hc
 have hc:_=R.ok (lb μ.length w) (μ++List.replicate w c):=hc
 generalize lb μ.length w=us at hc
 generalize μ++List.replicate w c=W at hc
 simp?! only[AZ,rn,hc,ln]
theorem Ec{w:Nat}(hw:w≤12){x0 x1 x2 x3:Option SV}(tl:Slots)(μ:af):iO (aK (aa 4)) [none,some 4] (av 0) Hd (x0::x1::x2::x3::some (.val (.int w))::tl) μ=.ok (.lbx (lb μ.length w)) (μ++stM w (λ_ _=>0)):=by
 rw[Eb]
 exact Kk (D_ hw) hw tl μ
def inB:DS:=(aq (aC 13 (ah aG (ah aG (ao (aa 8) (dC (.int 2))) (ao (aa 9) (aa 11))) (ao (aa 10) (aa 12))))
 (il (ao (aa 7) (aa 11)) (aa 12) (ah bg (ah bx (ao (ao (aa 7) (aa 11)) (aa 12)) (aa 13)) (aa 3))))
def yb:DS:=(bE (aK (aa 4)) (av 12) inB)
abbrev eM(x0 x1 x2 x3 x4 x5 x6 x7 x8 x9 x10 x11 x12 x13:Option SV):Slots:=[x0,x1,x2,x3,x4,x5,x6,x7,x8,x9,x10,x11,x12,x13]
section
variable{p:Int}{w:Nat}{f s:List Int}{n:Int}{i j:T}
theorem Ed{l:List Int}{a:Nat}(h:a<l.length):atI (l.map T.int) (a:Int)=some (.int (g l a)):=by
 rw[gO (by lia),Int.toNat_natCast,List.getElem?_map,List.getElem?_eq_getElem h,qk l a h];rfl
theorem He(hp:0<p)(hp2:p≤97)(hf:Rw p w f)(hs:Rw p w s)(hn:0≤n/\n<p){a b:Nat}(ha:a<w)(hb:b<w)(M:Nat->Nat->Int)(x0 x1 x2 x5 x6 x13:Option SV)(μ:af) :
  inB (eM x0 x1 x2 (some (.val (.int p))) (some (.val (.int w))) x5 x6 (some (.lbx (lb μ.length w))) (some (.val (.tup [i,j,.int n]))) (some (.val (tu f))) (some (.val (tu s))) (some (.val (.int a))) (some (.val (.int b))) x13) (μ++stM w M) =
   .nx (eM x0 x1 x2 (some (.val (.int p))) (some (.val (.int w))) x5 x6 (some (.lbx (lb μ.length w))) (some (.val (.tup [i,j,.int n]))) (some (.val (tu f))) (some (.val (tu s))) (some (.val (.int a))) (some (.val (.int b))) (some (.val (.int (n*g f a*g s b))))) (μ++stM w (upM M a b ((M a b+n*g f a*g s b)%p))):=by
 have b1:0≤g f a/\g f a<p:=by
  rw[qk f a (by rw[hf.len];exact ha)]
  exact⟨hf.lo _ (List.getElem_mem _),hf.hi _ (List.getElem_mem _)⟩
 have b2:0≤g s b/\g s b<p:=by
  rw[qk s b (by rw[hs.len];exact hb)]
  exact⟨hs.lo _ (List.getElem_mem _),hs.hi _ (List.getElem_mem _)⟩
 have m1:aG (.int n) (.int (g f a))=some (.int (n*g f a)):=e8 _ _ (by lia) (by lia)
 have m2:aG (.int (n*g f a)) (.int (g s b))=some (.int (n*g f a*g s b)):=gI _ _ (by lia) (by lia)
 have i1:eg (μ++stM w M) (.val (tu f)) (.int (a:Int))=some (.val (.int (g f a))):=by rw[cN,Ed (by rw[hf.len];exact ha)];rfl
 have i2:eg (μ++stM w M) (.val (tu s)) (.int (b:Int))=some (.val (.int (g s b))):=by rw[cN,Ed (by rw[hs.len];exact hb)];rfl
 have i3:eg (μ++stM w M) (.lbx (lb μ.length w)) (.int (a:Int))=some (.cel (μ.length+a)):=by rw[Cb,MU ha];rfl
 have i4:eg (μ++stM w M) (.cel (μ.length+a)) (.int (b:Int))=some (.val (.int (M a b))):=by
  rw[Cd,hJ,D9 μ ha,Option.map_some,l_,Ca,Hb hb];rfl
 have i5:=Ki μ (M:=M) ha hb ((M a b+n*g f a*g s b)%p)
 have md:bg (.int (M a b+n*g f a*g s b)) (.int p)=some (.int ((M a b+n*g f a*g s b)%p)):=ei _ _ hp
 unfold inB
 generalize μ++stM w M=ν at *
 generalize tu f=tf at *
 generalize tu s=ts at *
 generalize lb μ.length w=L at *
 simp?! only[i1,i2,m1,m2,i3,i4,md,tV,i5]
end
theorem kg{w:Nat}{M N:Nat->Nat->Int}(h:∀x,x<w->∀y,y<w->M x y=N x y):stM w M=stM w N:=by
 unfold stM
 apply List.map_congr_left
 intro a ha
 have ha:=List.mem_range.mp ha
 have e:nC w M a=nC w N a:=by
  apply List.map_congr_left
  intro b hb
  exact h a ha b (List.mem_range.mp hb)
 rw[e]
theorem mP{μ:af}{w:Nat}{M N:Nat->Nat->Int}(h:∀x,x<w->∀y,y<w->M x y=N x y):μ++stM w M=μ++stM w N:=by rw[kg h]
def nwM(p n:Int)(f s:List Int)(M:Nat->Nat->Int):Nat->Nat->Int:=λx y=>(M x y+n*g f x*g s y)%p
section
variable{p:Int}{w:Nat}{f s:List Int}{n:Int}{i j:T}
theorem Ee(hw:w≤12)(hp:0<p)(hp2:p≤97)(hf:Rw p w f)(hs:Rw p w s)(hn:0≤n/\n<p){a:Nat}(ha:a<w)(M:Nat->Nat->Int)(x0 x1 x2 x5 x6 x12 x13:Option SV)(μ:af) :
  ∃y12 y13,yb (eM x0 x1 x2 (some (.val (.int p))) (some (.val (.int w))) x5 x6 (some (.lbx (lb μ.length w))) (some (.val (.tup [i,j,.int n]))) (some (.val (tu f))) (some (.val (tu s))) (some (.val (.int a))) x12 x13) (μ++stM w M) =
   .nx (eM x0 x1 x2 (some (.val (.int p))) (some (.val (.int w))) x5 x6 (some (.lbx (lb μ.length w))) (some (.val (.tup [i,j,.int n]))) (some (.val (tu f))) (some (.val (tu s))) (some (.val (.int a))) y12 y13) (μ++stM w (λx y=>if x=a then nwM p n f s M x y else M x y)):=by
 have rn:bQ (w:Int)=true:=bH (by lia) (by lia)
 have hl:(a_ 0 (w:Int).toNat).length=w:=by rw[bA];simp
 obtain⟨e',μ',hfl,y12,y13,rfl,rfl⟩:=cx (same:=λ_=>True) (b:=av 12) (ts:=a_ 0 (w:Int).toNat) (body:=inB)
  (I:=λk e μ1=>∃y12 y13,e=(eM x0 x1 x2 (some (.val (.int p))) (some (.val (.int w))) x5 x6 (some (.lbx (lb μ.length w))) (some (.val (.tup [i,j,.int n]))) (some (.val (tu f))) (some (.val (tu s))) (some (.val (.int a))) y12 y13)/\μ1=μ++stM w (λx y=>if x=a/\y<k then nwM p n f s M x y else M x y)) (λ_ _ _ _=>trivial) (λk t e μ1 ht hI=>by
   obtain⟨y12,y13,rfl,rfl⟩:=hI
   obtain⟨q,rfl,hq,hqi⟩:=jY ht
   have hk:k<w:=by rw[← hl];exact(List.getElem?_eq_some_iff.mp ht).1
   have eq:q=(k:Int):=by lia
   subst eq
   have st1:=He (i:=i) (j:=j) hp hp2 hf hs hn ha hk (λx y=>if x=a/\y<k then nwM p n f s M x y else M x y) x0 x1 x2 x5 x6 y13 μ
   refine⟨_,_,_,rfl,st1,some (.val (.int (k:Int))),_,rfl,mP λx _ y _=>?_⟩
   unfold upM
   by_cases c:x=a/\y=k
   ·obtain⟨rfl,rfl⟩:=c
    have e1:¬ (x=x/\y<y):=λz=>Nat.lt_irrefl _ z.2
    have e2:x=x/\y<y+1:=⟨rfl,Nat.lt_succ_self _⟩
    rw[if_pos ⟨rfl,rfl⟩,if_neg e1,if_pos e2];rfl
   ·rw[if_neg c]
    show(if x=a/\y<k then nwM p n f s M x y else M x y)=_
    by_cases c2:x=a/\y<k
    ·rw[if_pos c2,if_pos ⟨c2.1,by lia⟩]
    ·rw[if_neg c2,if_neg (by lia)])
  (e:=(eM x0 x1 x2 (some (.val (.int p))) (some (.val (.int w))) x5 x6 (some (.lbx (lb μ.length w))) (some (.val (.tup [i,j,.int n]))) (some (.val (tu f))) (some (.val (tu s))) (some (.val (.int a))) x12 x13)) (μ:=μ++stM w M) ⟨x12,x13,rfl,mP λx _ y _=>by rw[if_neg (by lia)]⟩
 rw[hl] at hfl
 have e2:stM w (λx y=>if x=a/\y<w then nwM p n f s M x y else M x y)=stM w (λx y=>if x=a then nwM p n f s M x y else M x y):=by
  apply kg
  intro x _ y hy
  by_cases c:x=a
  ·rw[if_pos ⟨c,hy⟩,if_pos c]
  ·rw[if_neg (λz=>c z.1),if_neg c]
 rw[e2] at hfl
 refine⟨y12,y13,?_⟩
 unfold yb
 generalize μ++stM w M=ν at *
 generalize μ++stM w (λx y=>if x=a then nwM p n f s M x y else M x y)=ν' at *
 simp?! only[rn,hfl]
theorem Bt(hw:w≤12)(hp:0<p)(hp2:p≤97)(hf:Rw p w f)(hs:Rw p w s)(hn:0≤n/\n<p)(M:Nat->Nat->Int)(x0 x1 x2 x5 x6 x11 x12 x13:Option SV)(μ:af) :
  ∃y11 y12 y13,(bE (aK (aa 4)) (av 11) yb) (eM x0 x1 x2 (some (.val (.int p))) (some (.val (.int w))) x5 x6 (some (.lbx (lb μ.length w))) (some (.val (.tup [i,j,.int n]))) (some (.val (tu f))) (some (.val (tu s))) x11 x12 x13) (μ++stM w M) =
   .nx (eM x0 x1 x2 (some (.val (.int p))) (some (.val (.int w))) x5 x6 (some (.lbx (lb μ.length w))) (some (.val (.tup [i,j,.int n]))) (some (.val (tu f))) (some (.val (tu s))) y11 y12 y13) (μ++stM w (nwM p n f s M)):=by
 have rn:bQ (w:Int)=true:=bH (by lia) (by lia)
 have hl:(a_ 0 (w:Int).toNat).length=w:=by rw[bA];simp
 obtain⟨e',μ',hfl,y11,y12,y13,rfl,rfl⟩:=cx (same:=λ_=>True) (b:=av 11) (ts:=a_ 0 (w:Int).toNat) (body:=yb)
  (I:=λk e μ1=>∃y11 y12 y13,e=(eM x0 x1 x2 (some (.val (.int p))) (some (.val (.int w))) x5 x6 (some (.lbx (lb μ.length w))) (some (.val (.tup [i,j,.int n]))) (some (.val (tu f))) (some (.val (tu s))) y11 y12 y13)/\μ1=μ++stM w (λx y=>if x<k then nwM p n f s M x y else M x y)) (λ_ _ _ _=>trivial) (λk t e μ1 ht hI=>by
   obtain⟨y11,y12,y13,rfl,rfl⟩:=hI
   obtain⟨q,rfl,hq,hqi⟩:=jY ht
   have hk:k<w:=by rw[← hl];exact(List.getElem?_eq_some_iff.mp ht).1
   have eq:q=(k:Int):=by lia
   subst eq
   obtain⟨z12,z13,st1⟩:=Ee (i:=i) (j:=j) hw hp hp2 hf hs hn hk (λx y=>if x<k then nwM p n f s M x y else M x y) x0 x1 x2 x5 x6 y12 y13 μ
   refine⟨_,_,_,rfl,st1,some (.val (.int (k:Int))),z12,z13,rfl,mP λx _ y _=>?_⟩
   by_cases c:x=k
   ·rw[if_pos c,if_pos (by lia),c]
    show((if k<k then nwM p n f s M k y else M k y)+n*g f k*g s y)%p=_
    rw[if_neg (Nat.lt_irrefl _)];rfl
   ·rw[if_neg c]
    show(if x<k then nwM p n f s M x y else M x y)=_
    by_cases c2:x<k
    ·rw[if_pos c2,if_pos (by lia)]
    ·rw[if_neg c2,if_neg (by lia)])
  (e:=(eM x0 x1 x2 (some (.val (.int p))) (some (.val (.int w))) x5 x6 (some (.lbx (lb μ.length w))) (some (.val (.tup [i,j,.int n]))) (some (.val (tu f))) (some (.val (tu s))) x11 x12 x13)) (μ:=μ++stM w M) ⟨x11,x12,x13,rfl,mP λx _ y _=>by rw[if_neg (by lia)]⟩
 rw[hl] at hfl
 have e2:stM w (λx y=>if x<w then nwM p n f s M x y else M x y)=stM w (nwM p n f s M):=by
  apply kg
  intro x hx y hy
  rw[if_pos hx]
 rw[e2] at hfl
 refine⟨y11,y12,y13,?_⟩
 generalize μ++stM w M=ν at *
 generalize μ++stM w (nwM p n f s M)=ν' at *
 simp?! only[rn,hfl]
theorem vP{n p:Int}(h:0≤n/\n<p)(μ:af):aN [.val (.int p),.val (.int n)] μ=.ok (.val (.bl true)) μ:=by
 have d1:decide (0≤n)=true:=decide_eq_true h.1
 have d2:decide (n<p)=true:=decide_eq_true h.2
 unfold aN ir
 simp?! only[kO,sQ,FJ,isK,Am,d1,d2]
end
theorem Ef(q:Nat×Nat)(n:Nat):okT (n+1) (pt q)=true:=by
 unfold pt
 simp
theorem Kl(n:Nat)(l:List (Nat×Nat)):okT (n+2) (.lst (l.map pt))=true:=by
 rw[sP,ji]
 intro t ht
 obtain⟨q,_,rfl⟩:=List.mem_map.mp ht
 exact Ef q n
theorem Km{q:Nat×Nat}{l:List (Nat×Nat)}(h:q∈l):pN (pt q) (.lst (l.map pt))=some (.bl false):=by
 rw[C0 (Ef q 99) (Kl 98 l)]
 have:inT (pt q) (l.map pt)=true:=by
  unfold inT
  rw[List.any_eq_true]
  exact⟨pt q,List.mem_map_of_mem h,by simpa using o9 100 (pt q) (Ef q 99)⟩
 rw[this];rfl
def Eg:DS:=(aq (sIf (dOr (gh (dIs .tuple (aa 8))) (dOr (ah fNe (cS (aa 8)) (dC (.int 3))) (ah pN (dm (aa 8) none (some (dC (.int 2)))) (aa 6)))) (aH (dC (.bl false))) bB)
 (aq (sIf (gh (ax (cal aN) [(aa 3),(ao (aa 8) (dC (.int 2)))])) (aH (dC (.bl false))) bB)
 (aq (aC 9 (ao (ao (aa 5) (ao (aa 8) (dC (.int 0)))) (dC (.int 1))))
 (aq (aC 10 (ao (ao (aa 5) (ao (aa 8) (dC (.int 1)))) (dC (.int 1))))
 (bE (aK (aa 4)) (av 11) yb)))))
theorem Eh:dH=bE (bD (aa 2)) (av 8) Eg:=rfl
theorem sf(q:(Nat×Nat)×Int):pK (cF q) none (some 2)=some (pt q.1):=rfl
section
variable{p:Int}{w:Nat}{rows:Rows}
theorem Ei(H:Tbl p w rows)(hw:w≤5){ps:List (Nat×Nat)}{q:(Nat×Nat)×Int}(hq:q.1∈ps)(hq2:q.1.1<rows.length/\q.1.2<rows.length)(hn:0≤q.2/\q.2<p)(M:Nat->Nat->Int)(x0 x1 x2 x9 x10 x11 x12 x13:Option SV)(μ:af) :
  ∃y9 y10 y11 y12 y13,Eg (eM x0 x1 x2 (some (.val (.int p))) (some (.val (.int w))) (some (.val (.tup (rows.map rt)))) (some (.val (.lst (ps.map pt)))) (some (.lbx (lb μ.length w))) (some (.val (cF q))) x9 x10 x11 x12 x13) (μ++stM w M) =
   .nx (eM x0 x1 x2 (some (.val (.int p))) (some (.val (.int w))) (some (.val (.tup (rows.map rt)))) (some (.val (.lst (ps.map pt)))) (some (.lbx (lb μ.length w))) (some (.val (cF q))) y9 y10 y11 y12 y13) (μ++stM w (nwM p q.2 (aB rows q.1.1).2 (aB rows q.1.2).2 M)):=by
 have hb:=H.pr.pos
 have a1:=gE hq2.1
 have a2:=gE hq2.2
 have r1:=iX H hq2.1
 have r2:=iX H hq2.2
 have en:=Km hq
 have ec:=sf q
 have e3:=vP hn (μ++stM w M)
 obtain⟨y11,y12,y13,e4⟩:=Bt (i:=.int q.1.1) (j:=.int q.1.2) (by lia) (by lia) hb.2 r1 r2 hn M x0 x1 x2 (some (.val (.tup (rows.map rt)))) (some (.val (.lst (ps.map pt)))) x11 x12 x13 μ
 refine⟨some (.val (tu (aB rows q.1.1).2)),some (.val (tu (aB rows q.1.2).2)),y11,y12,y13,?_⟩
 obtain⟨⟨qi,qj⟩,n⟩:=q
 dsimp only at *
 have ei1:eg (μ++stM w M) (.val (.tup (rows.map rt))) (.int (qi:Int))=some (.val (rt (aB rows qi))):=by rw[cN,a1];rfl
 have ei2:eg (μ++stM w M) (.val (.tup (rows.map rt))) (.int (qj:Int))=some (.val (rt (aB rows qj))):=by rw[cN,a2];rfl
 have er1:eg (μ++stM w M) (.val (rt (aB rows qi))) (.int 1)=some (.val (tu (aB rows qi).2)):=rfl
 have er2:eg (μ++stM w M) (.val (rt (aB rows qj))) (.int 1)=some (.val (tu (aB rows qj).2)):=rfl
 have et:isS .tuple (μ++stM w M) (.val (cF ((qi,qj),n)))=some (.bl true):=rfl
 have el:nT (μ++stM w M) (.val (cF ((qi,qj),n)))=some (.int 3):=rfl
 have e30:eg (μ++stM w M) (.val (cF ((qi,qj),n))) (.int 0)=some (.val (.int qi)):=rfl
 have e31:eg (μ++stM w M) (.val (cF ((qi,qj),n))) (.int 1)=some (.val (.int qj)):=rfl
 have e32:eg (μ++stM w M) (.val (cF ((qi,qj),n))) (.int 2)=some (.val (.int n)):=rfl
 have c3:((3:Int)==3)=true:=rfl
 have e4:(bE (aK (aa 4)) (av 11) yb) (eM x0 x1 x2 (some (.val (.int p))) (some (.val (.int w))) (some (.val (.tup (rows.map rt)))) (some (.val (.lst (ps.map pt)))) (some (.lbx (lb μ.length w))) (some (.val (cF ((qi,qj),n)))) (some (.val (tu (aB rows qi).2))) (some (.val (tu (aB rows qj).2))) x11 x12 x13) (μ++stM w M)=.nx (eM x0 x1 x2 (some (.val (.int p))) (some (.val (.int w))) (some (.val (.tup (rows.map rt)))) (some (.val (.lst (ps.map pt)))) (some (.lbx (lb μ.length w))) (some (.val (cF ((qi,qj),n)))) (some (.val (tu (aB rows qi).2))) (some (.val (tu (aB rows qj).2))) y11 y12 y13) (μ++stM w (nwM p n (aB rows qi).2 (aB rows qj).2 M)):=e4
 unfold Eg
 generalize (bE (aK (aa 4)) (av 11) yb)=LL at e4
 generalize aN=FN1 at e3
 generalize cF ((qi,qj),n)=tq at *
 generalize rt (aB rows qi)=t1 at *
 generalize rt (aB rows qj)=t2 at *
 generalize tu (aB rows qi).2=u1 at *
 generalize tu (aB rows qj).2=u2 at *
 generalize rows.map rt=rr at *
 generalize ps.map pt=pp at *
 generalize pt (qi,qj)=pq at *
 generalize μ++stM w M=ν at *
 generalize lb μ.length w=L at *
 have ec:pK tq none (some 2)=some pq:=ec
 simp?! only[kO,et,el,c3,mw,ec,en,e32,e3,e30,ei1,er1,e31,ei2,er2,e4]
end
theorem Kn:∀a∈List.range 9,∀b∈List.range 9,∀c∈List.range 9,∀d∈List.range 9,hT [(a:Int),(b:Int)]=hT [(c:Int),(d:Int)]->a=c/\b=d:=by decide +kernel
theorem vQ(s:List Int):∀(f:List Int) (a b:Nat),a<f.length->b<s.length->g (aX f s) (a*s.length+b)=g f a*g s b
 | [],a,b,h,_=>absurd h (by simp)
 | x::f,0,b,_,hb=>by
  unfold aX g
  rw[List.flatMap_cons,List.getD_eq_getElem?_getD,Nat.zero_mul,Nat.zero_add,List.getElem?_append_left (by simp;exact hb),List.getElem?_map,List.getElem?_eq_getElem hb]
  simp[hb]
 | x::f,a+1,b,h,hb=>by
  have ih:=vQ s f a b (by simpa using h) hb
  unfold aX g at ih ⊢
  rw[List.flatMap_cons,List.getD_eq_getElem?_getD,List.getElem?_append_right (by simp;rw[Nat.succ_mul];lia),List.length_map,show(a+1)*s.length+b-s.length=a*s.length+b by rw[Nat.succ_mul];lia,← List.getD_eq_getElem?_getD,ih]
  simp
theorem MV(n j:Nat)(h:j<n):g (eu n 0) j=if j=0 then 1 else 0:=by
 unfold g eu
 rw[List.getD_eq_getElem?_getD]
 cases j with
 | zero=>rw[List.getElem?_set_self (by simp;exact h)];rfl
 | succ j=>rw[List.getElem?_set_ne (by lia),List.getElem?_replicate,if_pos h];rfl
theorem sumK(φ:Nat×Nat->Int):∀(ps:List (Nat×Nat)) (ms:List Int),((kept ps ms).map λq=>q.2*φ q.1).sum=dot ms (ps.map φ)
 | [],ms=>by simp[kept]
 | q::ps,[]=>by simp[kept]
 | q::ps,m::ms=>by
  have ih:=sumK φ ps ms
  show(((((q,m)::ps.zip ms).filter λq=>!(q.2==0))).map λq=>q.2*φ q.1).sum=m*φ q+dot ms (ps.map φ)
  rw[List.filter_cons]
  by_cases c:m=0
  ·subst c
   rw[if_neg (by simp),Int.zero_mul,Int.zero_add]
   exact ih
  ·rw[if_pos (by simp[c]),List.map_cons,List.sum_cons]
   rw[show(((ps.zip ms).filter λq=>!(q.2==0)).map λq=>q.2*φ q.1).sum=dot ms (ps.map φ) from ih]
abbrev kM(p:Int)(rows:Rows)(M:Nat->Nat->Int)(q:(Nat×Nat)×Int):Nat->Nat->Int:=nwM p q.2 (aB rows q.1.1).2 (aB rows q.1.2).2 M
abbrev phi(rows:Rows)(x y:Nat)(q:Nat×Nat):Int:=g (aB rows q.1).2 x*g (aB rows q.2).2 y
theorem zr(p:Int)(rows:Rows)(x y:Nat):∀(l:List ((Nat×Nat)×Int)) (M:Nat->Nat->Int),M x y%p=M x y->(l.foldl (kM p rows) M) x y=(M x y+(l.map λq=>q.2*phi rows x y q.1).sum)%p
 | [],M,h=>by simp[h]
 | q::l,M,h=>by
  have e:(kM p rows M q) x y=(M x y+q.2*phi rows x y q.1)%p:=by
   show(M x y+q.2*g (aB rows q.1.1).2 x*g (aB rows q.1.2).2 y)%p=_
   rw[Int.mul_assoc]
  rw[List.foldl_cons,zr p rows x y l (kM p rows M q) (by rw[e,Int.emod_emod_of_dvd _ (Int.dvd_refl p)]),e,List.map_cons,List.sum_cons,Int.emod_add_emod,Int.add_assoc]
theorem Ko{p:Int}{w:Nat}{rows:Rows}{ps:List (Nat×Nat)}{ms:List Int}(hp:2≤p)(C:Comes p w rows ps ms)(hr:∀q∈ps,(aB rows q.1).2.length=w/\(aB rows q.2).2.length=w){x y:Nat}(hx:x<w)(hy:y<w):((kept ps ms).foldl (kM p rows) λ_ _=>0) x y=if x=0/\y=0 then 1 else 0:=by
 rw[zr p rows x y _ _ (Int.zero_emod p),Int.zero_add,sumK]
 have hj:x*w+y<w*w:=by
  have:(x+1)*w≤w*w:=Nat.mul_le_mul_right _ hx
  rw[Nat.succ_mul] at this
  lia
 obtain⟨a,ha⟩:=C.is (x*w+y) hj
 obtain⟨b,hb⟩:=qr p (λl=>g (mdl p l) (x*w+y)) (λl=>g l (x*w+y)) (λl=>by
  show p ∣ g (mdl p l) (x*w+y)-g l (x*w+y)
  rw[MK]
  exact⟨-(g l (x*w+y) / p),by have:=Int.emod_def (g l (x*w+y)) p;grind⟩) ms (ps.map λq=>aX (aB rows q.1).2 (aB rows q.2).2)
 have e1:(ps.map λq=>aX (aB rows q.1).2 (aB rows q.2).2).map (λl=>g l (x*w+y))=ps.map (phi rows x y):=by
  rw[List.map_map]
  apply List.map_congr_left
  intro q hq
  obtain⟨h1,h2⟩:=hr q hq
  show g (aX (aB rows q.1).2 (aB rows q.2).2) (x*w+y)=_
  have:=vQ (aB rows q.2).2 (aB rows q.1).2 x y (by rw[h1];exact hx) (by rw[h2];exact hy)
  rw[h2] at this
  exact this
 have e2:col ((ps.map λq=>aX (aB rows q.1).2 (aB rows q.2).2).map (mdl p)) (x*w+y)=(ps.map λq=>aX (aB rows q.1).2 (aB rows q.2).2).map λl=>g (mdl p l) (x*w+y):=by
  unfold col
  rw[List.map_map];rfl
 rw[e1] at hb
 rw[e2,MV _ _ hj] at ha
 have hE:dot ms (ps.map (phi rows x y))=(if x*w+y=0 then 1 else 0)+p*(a-b):=by grind
 rw[hE,Int.add_mul_emod_self_left]
 by_cases c:x=0/\y=0
 ·rw[if_pos c,if_pos (by rw[c.1,c.2];simp)]
  exact Int.emod_eq_of_lt (by lia) (by lia)
 ·rw[if_neg c,if_neg,Int.zero_emod]
  intro z
  have z1:x*w=0:=by lia
  have z2:y=0:=by lia
  rcases Nat.mul_eq_zero.mp z1 with z3|z3
  ·exact c ⟨z3,z2⟩
  ·lia
theorem Bu(l:List (Nat×Nat)):iN (l.map pt)=some (l.map λq=>[(q.1:Int),(q.2:Int)]):=by
 induction l with
 | nil=>rfl
 | cons q l ih =>
  show(eO [.int q.1,.int q.2]).bind (λns=>(iN (l.map pt)).map (ns::·))=_
  rw[ih];rfl
theorem Ej(h:List Int->Int){ts:List T}{kss:List (List Int)}(e:iN ts=some kss)(hl:kss.length<60)(hn:(kss.map h).Nodup):((iN ts).bind λkss=>if kss.length<60/\(kss.map h).Nodup then some (T.int kss.length) else none)=some (.int (kss.length:Int)):=by
 rw[e,Option.bind_some,if_pos ⟨hl,hn⟩]
theorem Hf(h:List Int->Int)(hi:∀a∈List.range 9,∀b∈List.range 9,∀c∈List.range 9,∀d∈List.range 9,h [(a:Int),(b:Int)]=h [(c:Int),(d:Int)]->a=c/\b=d){l:List (Nat×Nat)}(h7:∀q∈l,q.1<9/\q.2<9)(hd:l.Nodup):((l.map λq=>[(q.1:Int),(q.2:Int)]).map h).Nodup:=by
 rw[List.map_map]
 refine List.pairwise_map.mpr (List.Pairwise.imp_of_mem (λ{a b} ha hb (q:a≠b) e=>q ?_) hd)
 have h1:=h7 a ha
 have h2:=h7 b hb
 have:=hi a.1 (List.mem_range.mpr h1.1) a.2 (List.mem_range.mpr h1.2) b.1 (List.mem_range.mpr h2.1) b.2 (List.mem_range.mpr h2.2) e
 exact Prod.ext this.1 this.2
theorem Bv{l:List (Nat×Nat)}(h7:∀q∈l,q.1<9/\q.2<9)(hd:l.Nodup)(hl:l.length<60):j6 (.lst (l.map pt))=some (.int (l.length:Int)):=by
 have:=Ej hT (Bu l) (by rw[List.length_map];exact hl) (Hf hT Kn h7 hd)
 rw[List.length_map] at this
 exact this
theorem sg(rows:Rows)(is:List Nat)(hd:is.Nodup):∀ks:List Nat,ks.Nodup->(prs rows is ks).Nodup
 | [],_=>by simp[prs]
 | k::ks,h=>by
  obtain⟨h1,h2⟩:=List.nodup_cons.mp h
  have ih:=sg rows is hd ks h2
  unfold prs at ih ⊢
  rw[List.flatMap_cons,List.nodup_append]
  refine⟨?_,ih,λa ha b hb e=>?_⟩
  ·refine List.pairwise_map.mpr (List.Pairwise.imp_of_mem (λ{a b} _ _ (q:a≠b) e=>q ?_) (hd.filter _))
   exact(Prod.mk.injEq _ _ _ _ ▸ e:k=k/\a=b).2
  ·obtain⟨j,_,rfl⟩:=List.mem_map.mp ha
   obtain⟨i,hi,hb⟩:=List.mem_flatMap.mp hb
   obtain⟨j2,_,rfl⟩:=List.mem_map.mp hb
   cases e
   exact h1 hi
theorem vR:∀(ps:List (Nat×Nat)) (ms:List Int),((kept ps ms).map (·.1)).Sublist ps
 | [],ms=>by simp[kept]
 | q::ps,[]=>by simp[kept]
 | q::ps,m::ms=>by
  have ih:=vR ps ms
  show(((((q,m)::ps.zip ms).filter λq=>!(q.2==0))).map (·.1)).Sublist _
  rw[List.filter_cons]
  split
  ·exact ih.cons_cons q
  ·exact ih.cons q
theorem zt{μ ν:af}{k:Nat}(f:Nat->T):∀(l:List Nat),(∀a∈l,rdP μ (.inr (k+a))=some (f a))->tS μ (l.map λa=>.inr (k+a))=some (l.map f)
 | [],_=>rfl
 | a::l,h=>by
  have ih:=zt (μ:=μ) (ν:=ν) (k:=k) f l λx hx=>h x (List.mem_cons_of_mem _ hx)
  show(rdP μ (.inr (k+a))).bind (λt=>(tS μ (l.map λa=>.inr (k+a))).map (t::·))=_
  rw[h a List.mem_cons_self,ih];rfl
theorem MW(μ:af)(w:Nat)(M:Nat->Nat->Int):rdX (μ++stM w M) (.lbx (lb μ.length w))=some (.lst ((sd w M).map li)):=by
 show(tS (μ++stM w M) (lb μ.length w)).map T.lst=_
 unfold lb
 rw[zt (ν:=μ) (λa=>li (nC w M a)) (List.range w) (λa ha=>by
  show((μ++stM w M)[μ.length+a]?).map (·.2)=_
  rw[D9 μ (List.mem_range.mp ha)];rfl),Option.map_some,List.map_map]
 rfl
abbrev lX:Nat->Nat->Int:=λx y=>if x=0/\y=0 then 1 else 0
theorem qt(w:Nat):a_ 0 (w:Int).toNat=(List.range w).map λ(i:Nat)=>T.int (i:Int):=by rw[fo,f_,Int.toNat_natCast,List.map_map];rfl
theorem Kp{w:Nat}(a:Nat)(μ:af):bI (λ_=>True) (av 0) (dC (.bl true)) (dUn wW (mV (ah fEq (aa 1) (dC (.int 0))) (ah fEq (aa 0) (dC (.int 0))))) [none,some (.val (.int (a:Int)))] (a_ 0 (w:Int).toNat) μ=.ok ((nC w lX a).map T.int) μ:=by
 rw[qt,cC (λ(i:Nat)=>T.int (i:Int)) (λb=>T.int (lX a b)) trivial]
 ·rw[List.map_map];rfl
 ·intro b _
  refine⟨_,rfl,?_⟩
  have e1:((a:Int)==0)=decide (a=0):=by
   by_cases c:a=0
   ·subst c;rfl
   ·rw[decide_eq_false c];exact beq_eq_false_iff_ne.mpr (by lia)
  have e2:((b:Int)==0)=decide (b=0):=by
   by_cases c:b=0
   ·subst c;rfl
   ·rw[decide_eq_false c];exact beq_eq_false_iff_ne.mpr (by lia)
  by_cases ca:a=0
  ·by_cases cb:b=0
   ·subst ca cb
    simp?! only[e1,e2]
    rfl
   ·have e3:lX a b=0:=if_neg λz=>cb z.2
    rw[decide_eq_true ca] at e1
    rw[decide_eq_false cb] at e2
    simp?! only[e1,e2,e3]
  ·have e3:lX a b=0:=if_neg λz=>ca z.1
   rw[decide_eq_false ca] at e1
   simp?! only[e1,e3]
theorem Hg{w:Nat}(hw:w≤12)(μ:af):bI (λ_=>True) (av 0) (dC (.bl true)) (aW (aK (aa 1)) [none,some 0] (av 0) (dC (.bl true)) (dUn wW (mV (ah fEq (aa 1) (dC (.int 0))) (ah fEq (aa 0) (dC (.int 0)))))) [none,some (.val (.int (w:Int)))] (a_ 0 (w:Int).toNat) μ=.ok ((sd w lX).map li) μ:=by
 have rn:bQ (w:Int)=true:=bH (by lia) (by lia)
 have ln:(a_ 0 (w:Int).toNat).length≤szL:=by rw[bA];unfold szL;lia
 rw[qt]
 rw[cC (λ(i:Nat)=>T.int (i:Int)) (λa=>li (nC w lX a)) trivial]
 ·rw[List.map_map];rfl
 ·intro a _
  have e1:=Kp (w:=w) a μ
  refine⟨_,rfl,?_⟩
  simp?! only[rn,ln,e1]
theorem MX{l:List ((Nat×Nat)×Int)}(μ:af):bI (λ_=>True) (av 0) (dC (.bl true)) (dm (aa 0) none (some (dC (.int 2)))) [none] (l.map cF) μ=.ok ((l.map (·.1)).map pt) μ:=by
 rw[cC cF (λq=>pt q.1) trivial]
 ·rw[List.map_map];rfl
 ·intro q _
  have:=sf q
  refine⟨_,rfl,?_⟩
  generalize cF q=t at *
  generalize pt q.1=u at *
  simp?! only[mw,this]
section
variable{p:Int}{w:Nat}{rows:Rows}{ps:List (Nat×Nat)}{l:List ((Nat×Nat)×Int)}
theorem Kq(h7:∀q∈l,q.1.1<9/\q.1.2<9)(hd:(l.map (·.1)).Nodup)(hl:l.length<60)(x0 x1 x3 x4 x5 x6 x7 x8 x9 x10 x11 x12 x13:Option SV)(μ:af) :
  dF (eM x0 x1 (some (.val (.lst (l.map cF)))) x3 x4 x5 x6 x7 x8 x9 x10 x11 x12 x13) μ=.nx (eM x0 x1 (some (.val (.lst (l.map cF)))) x3 x4 x5 x6 x7 x8 x9 x10 x11 x12 x13) μ:=by
 have e1:=MX (l:=l) μ
 have e2:=Bv (l:=l.map (·.1)) (λq hq=>by obtain⟨r,hr,rfl⟩:=List.mem_map.mp hq;exact h7 r hr) hd (by rw[List.length_map];exact hl)
 rw[List.length_map] at e2
 have e3:(l.map cF).length=l.length:=List.length_map ..
 have e4:l.length≤szL:=by unfold szL;lia
 have e5:isS .list μ (.val (.lst (l.map cF)))=some (.bl true):=rfl
 unfold dF
 generalize j6=FL at e2 ⊢
 generalize l.map cF=t at *
 generalize (l.map (·.1)).map pt=u at *
 simp?! only[kO,e5,e1,e4,e2,e3]
theorem Kr(hw:w≤12)(x0 x1 x2 x3 x5 x6 x7 x8 x9 x10 x11 x12 x13:Option SV)(μ:af) :
  dG (eM x0 x1 x2 x3 (some (.val (.int w))) x5 x6 x7 x8 x9 x10 x11 x12 x13) μ=.nx (eM x0 x1 x2 x3 (some (.val (.int w))) x5 x6 (some (.lbx (lb μ.length w))) x8 x9 x10 x11 x12 x13) (μ++stM w (λ_ _=>0)):=by
 have e:=Ec hw (x0:=x0) (x1:=x1) (x2:=x2) (x3:=x3) [x5,x6,x7,x8,x9,x10,x11,x12,x13] μ
 have:dG=aC 7 (iO (aK (aa 4)) [none,some 4] (av 0) Hd):=rfl
 rw[this,gJ]
 show R.toS (iO (aK (aa 4)) [none,some 4] (av 0) Hd (x0::x1::x2::x3::some (.val (.int w))::[x5,x6,x7,x8,x9,x10,x11,x12,x13]) μ) _ _=_
 rw[e,R.toS_ok]
 rfl
theorem Ks(H:Tbl p w rows)(hw:w≤5)(hl:∀q∈l,q.1∈ps/\(q.1.1<rows.length/\q.1.2<rows.length)/\0≤q.2/\q.2<p)(M:Nat->Nat->Int)(x0 x1 x8 x9 x10 x11 x12 x13:Option SV)(μ:af) :
  ∃y8 y9 y10 y11 y12 y13,dH (eM x0 x1 (some (.val (.lst (l.map cF)))) (some (.val (.int p))) (some (.val (.int w))) (some (.val (.tup (rows.map rt)))) (some (.val (.lst (ps.map pt)))) (some (.lbx (lb μ.length w))) x8 x9 x10 x11 x12 x13) (μ++stM w M) =
   .nx (eM x0 x1 (some (.val (.lst (l.map cF)))) (some (.val (.int p))) (some (.val (.int w))) (some (.val (.tup (rows.map rt)))) (some (.val (.lst (ps.map pt)))) (some (.lbx (lb μ.length w))) y8 y9 y10 y11 y12 y13) (μ++stM w (l.foldl (kM p rows) M)):=by
 obtain⟨e',μ',hf,y8,y9,y10,y11,y12,y13,rfl,rfl⟩:=cx (same:=λ_=>True) (b:=av 8) (ts:=l.map cF) (body:=Eg)
  (I:=λk e μ1=>∃y8 y9 y10 y11 y12 y13,e=(eM x0 x1 (some (.val (.lst (l.map cF)))) (some (.val (.int p))) (some (.val (.int w))) (some (.val (.tup (rows.map rt)))) (some (.val (.lst (ps.map pt)))) (some (.lbx (lb μ.length w))) y8 y9 y10 y11 y12 y13)/\μ1=μ++stM w ((l.take k).foldl (kM p rows) M)) (λ_ _ _ _=>trivial) (λk t e μ1 ht hI=>by
   obtain⟨y8,y9,y10,y11,y12,y13,rfl,rfl⟩:=hI
   rw[List.getElem?_map] at ht
   obtain⟨q,hk,rfl⟩:=Option.map_eq_some_iff.mp ht
   obtain⟨h1,h2,h3⟩:=hl q (List.mem_of_getElem? hk)
   have htk:l.take (k+1)=l.take k++[q]:=by rw[List.take_add_one,hk];rfl
   obtain⟨z9,z10,z11,z12,z13,hz⟩:=Ei H hw h1 h2 h3 ((l.take k).foldl (kM p rows) M) x0 x1 (some (.val (.lst (l.map cF)))) y9 y10 y11 y12 y13 μ
   refine⟨_,_,_,rfl,hz,some (.val (cF q)),z9,z10,z11,z12,z13,rfl,?_⟩
   rw[htk,List.foldl_append]
   rfl)
  (e:=(eM x0 x1 (some (.val (.lst (l.map cF)))) (some (.val (.int p))) (some (.val (.int w))) (some (.val (.tup (rows.map rt)))) (some (.val (.lst (ps.map pt)))) (some (.lbx (lb μ.length w))) x8 x9 x10 x11 x12 x13)) (μ:=μ++stM w M) ⟨x8,x9,x10,x11,x12,x13,rfl,by rw[List.take_zero];rfl⟩
 rw[List.length_map,List.take_length] at hf
 refine⟨y8,y9,y10,y11,y12,y13,?_⟩
 rw[Eh]
 generalize μ++stM w M=ν at *
 generalize μ++stM w (l.foldl (kM p rows) M)=ν' at *
 generalize Eg=OB at *
 simp?! only[hf]
theorem Kt{M:Nat->Nat->Int}(hw:w≤12)(hM:∀x,x<w->∀y,y<w->M x y=lX x y)(x0 x1 x2 x3 x5 x6 x8 x9 x10 x11 x12 x13:Option SV)(μ:af) :
  dI (eM x0 x1 x2 x3 (some (.val (.int w))) x5 x6 (some (.lbx (lb μ.length w))) x8 x9 x10 x11 x12 x13) (μ++stM w M)=.rt (.val (.bl true)) (μ++stM w M):=by
 rw[kg hM]
 have rn:bQ (w:Int)=true:=bH (by lia) (by lia)
 have ln:(a_ 0 (w:Int).toNat).length≤szL:=by rw[bA];unfold szL;lia
 have e1:=Hg hw (μ++stM w lX)
 have r1:=MW μ w lX
 have r2:∀M t,rdX M (.val t)=some t:=λ_ _=>rfl
 have okd:okT 100 (.lst ((sd w lX).map li))=true:=by
  rw[sP,ji]
  intro t ht
  obtain⟨q,_,rfl⟩:=List.mem_map.mp ht
  rw[sP,ji]
  intro t ht
  obtain⟨q,_,rfl⟩:=List.mem_map.mp ht
  simp
 have eqd:=o9 100 _ okd
 have eb:eqB false (.lst ((sd w lX).map li)) (.lst ((sd w lX).map li))=some (.bl true):=by
  unfold eqB
  rw[if_pos ⟨okd,okd⟩,eqd]
  rfl
 unfold dI
 generalize (sd w lX).map li=rr at *
 generalize μ++stM w lX=ν at *
 generalize lb μ.length w=L at *
 simp?! only[Dw,rn,ln,e1,r1,r2,eb]
end
theorem Ek{p:Int}{ps:List (Nat×Nat)}{ms:List Int}(hm:Rw p ps.length ms){q:(Nat×Nat)×Int}(h:q∈kept ps ms):q.1∈ps/\0≤q.2/\q.2<p:=by
 have h:=(List.mem_filter.mp h).1
 obtain⟨a,b⟩:=q
 have:=List.of_mem_zip h
 exact⟨this.1,hm.lo _ this.2,hm.hi _ this.2⟩
theorem El{p:Int}{w:Nat}{rows:Rows}(H:Tbl p w rows)(hw:w≤5)(hn:rows.length≤9)(hs:List Int)(hpl:(prs rows (rowsOf rows hs) (rowsOf rows hs)).length≤49){ms:List Int}(C:Comes p w rows (prs rows (rowsOf rows hs) (rowsOf rows hs)) ms)(hR:Rw p (prs rows (rowsOf rows hs) (rowsOf rows hs)).length ms)(μ:af) :
  bY [.val (tb p w rows),.val (li hs),.val (.lst ((kept (prs rows (rowsOf rows hs) (rowsOf rows hs)) ms).map cF))] μ=.ok (.val (.bl true)) μ:=by
 have e1:=sa (p:=p) (w:=w) (rows:=rows) (by lia) hs μ
 have hlt:∀i∈rowsOf rows hs,i<rows.length:=kb
 have hpm:∀q∈prs rows (rowsOf rows hs) (rowsOf rows hs),q.1<rows.length/\q.2<rows.length:=λq hq=>⟨hlt _ (kc hq).1,hlt _ (kc hq).2⟩
 have hid:(rowsOf rows hs).Nodup:=List.nodup_range.filter _
 have hpd:=sg rows (rowsOf rows hs) hid _ hid
 generalize prs rows (rowsOf rows hs) (rowsOf rows hs)=ps at *
 have hk:=λq hq=>Ek (q:=q) hR hq
 have Gx:=vR ps ms
 have N5:∀x,x<w->∀y,y<w->((kept ps ms).foldl (kM p rows) λ_ _=>0) x y=lX x y:=λx hx y hy=>Ko (by have:=H.pr.pos;lia) C (λq hq=>⟨(iX H (hpm q hq).1).1,(iX H (hpm q hq).2).1⟩) hx hy
 have hkl:(kept ps ms).length<60:=by
  have:=Gx.length_le
  rw[List.length_map] at this
  lia
 have hkd:=Gx.nodup hpd
 generalize kept ps ms=l at *
 have e2:=Kq (l:=l) (λq hq=>by have:=hpm _ (hk q hq).1;lia) hkd hkl (some (.val (tb p w rows))) (some (.val (li hs))) (some (.val (.int p))) (some (.val (.int w))) (some (.val (.tup (rows.map rt)))) (some (.val (.lst (ps.map pt)))) none none none none none none none μ
 have e3:=Kr (w:=w) (by lia) (some (.val (tb p w rows))) (some (.val (li hs))) (some (.val (.lst (l.map cF)))) (some (.val (.int p))) (some (.val (.tup (rows.map rt)))) (some (.val (.lst (ps.map pt)))) none none none none none none none μ
 obtain⟨y8,y9,y10,y11,y12,y13,e4⟩:=Ks (ps:=ps) (l:=l) H hw (λq hq=>⟨(hk q hq).1,hpm _ (hk q hq).1,(hk q hq).2⟩) (λ_ _=>0) (some (.val (tb p w rows))) (some (.val (li hs))) none none none none none none μ
 have e5:=Kt (w:=w) (by lia) N5 (some (.val (tb p w rows))) (some (.val (li hs))) (some (.val (.lst (l.map cF)))) (some (.val (.int p))) (some (.val (.tup (rows.map rt)))) (some (.val (.lst (ps.map pt)))) y8 y9 y10 y11 y12 y13 μ
 have ht:(μ++stM w (l.foldl (kM p rows) λ_ _=>0)).take μ.length=μ:=List.take_left' rfl
 have g0:dD (eM (some (.val (tb p w rows))) (some (.val (li hs))) (some (.val (.lst (l.map cF)))) none none none none none none none none none none none) μ=.nx (eM (some (.val (tb p w rows))) (some (.val (li hs))) (some (.val (.lst (l.map cF)))) (some (.val (.int p))) (some (.val (.int w))) (some (.val (.tup (rows.map rt)))) none none none none none none none none) μ:=by
  unfold dD tb
  simp?! only[]
 have g1:dE (eM (some (.val (tb p w rows))) (some (.val (li hs))) (some (.val (.lst (l.map cF)))) (some (.val (.int p))) (some (.val (.int w))) (some (.val (.tup (rows.map rt)))) none none none none none none none none) μ=.nx (eM (some (.val (tb p w rows))) (some (.val (li hs))) (some (.val (.lst (l.map cF)))) (some (.val (.int p))) (some (.val (.int w))) (some (.val (.tup (rows.map rt)))) (some (.val (.lst (ps.map pt)))) none none none none none none none) μ:=by
  unfold dE
  simp?! only[e1]
 unfold bY
 rw[cI,n_,lD,show starts 14 [SV.val (tb p w rows),.val (li hs),.val (.lst (l.map cF))]=(eM (some (.val (tb p w rows))) (some (.val (li hs))) (some (.val (.lst (l.map cF)))) none none none none none none none none none none none) from rfl,g0,RS.bV,lE,g1,RS.bV,lF,e2,RS.bV,lG,e3,RS.bV,lH,e4,RS.bV,lI,e5,jU,tw,ht]
def chunk(w:Nat)(tv:List Int)(a:Nat):List Int:=(tv.drop (w*a)).take w
theorem Hh{w:Nat}{tv:List Int}(h:tv.length=w*w):mN w tv=.tup ((List.range w).map λa=>tu (chunk w tv a)):=by
 unfold mN
 rw[f_,Int.toNat_natCast,List.map_map]
 congr 1
 apply List.map_congr_left
 intro a ha
 have ha:=List.mem_range.mp ha
 show T.tup (gi (tv.map T.int) (some ((w:Int)*(a:Int))) (some ((w:Int)*((a:Int)+1))))=T.tup _
 have h1:w*(a+1)≤w*w:=Nat.mul_le_mul_left _ ha
 rw[Nat.mul_succ] at h1
 rw[show((w:Int)*(a:Int))=((w*a:Nat):Int) by rw[Int.natCast_mul],show((w:Int)*((a:Int)+1))=((w*a+w:Nat):Int) by rw[Int.natCast_add,Int.natCast_mul,Int.mul_add,Int.mul_one]]
 unfold gi sIx
 rw[List.length_map,h]
 simp only
 rw[if_neg (by lia),if_neg (by lia),Int.toNat_natCast,Int.toNat_natCast,Nat.min_eq_left h1,Nat.min_eq_left (show w*a≤w*w by lia),Nat.add_sub_cancel_left]
 unfold chunk
 rw[List.map_take,List.map_drop]
theorem mQ{p:Int}{w:Nat}{tv:List Int}(h:Rw p (w*w) tv){a:Nat}(ha:a<w):Rw p w (chunk w tv a):=by
 have h1:w*(a+1)≤w*w:=Nat.mul_le_mul_left _ ha
 rw[Nat.mul_succ] at h1
 unfold chunk
 refine⟨?_,λx hx=>h.lo x (List.mem_of_mem_drop (List.mem_of_mem_take hx)),λx hx=>h.hi x (List.mem_of_mem_drop (List.mem_of_mem_take hx))⟩
 rw[List.length_take,List.length_drop,h.len]
 lia
theorem sh(w:Nat)(s:List Int)(hs:s.length=w):∀(f tv:List Int),tv.length=f.length*w->dot (aX f s) tv=((List.range f.length).map λa=>g f a*dot (chunk w tv a) s).sum
 | [],tv,_=>by simp[aX]
 | x::f,tv,h=>by
  rw[List.length_cons,Nat.succ_mul] at h
  have ih:=sh w s hs f (tv.drop w) (by rw[List.length_drop];lia)
  rw[List.length_cons,List.range_succ_eq_map,List.map_cons,List.sum_cons,List.map_map]
  have e1:(List.range f.length).map ((λa=>g (x::f) a*dot (chunk w tv a) s) ∘ Nat.succ)=(List.range f.length).map λa=>g f a*dot (chunk w (tv.drop w) a) s:=by
   apply List.map_congr_left
   intro a _
   show g (x::f) (a+1)*dot ((tv.drop (w*(a+1))).take w) s=g f a*dot (((tv.drop w).drop (w*a)).take w) s
   rw[List.drop_drop,Nat.mul_succ,Nat.add_comm (w*a) w]
   rfl
  rw[e1,← ih]
  show dot ((s.map λy=>x*y)++aX f s) tv=x*dot ((tv.drop (w*0)).take w) s+_
  have e2:tv=tv.take w++tv.drop w:=(List.take_append_drop w tv).symm
  rw[Nat.mul_zero,List.drop_zero]
  conv=>lhs;rw[e2]
  rw[lT _ _ _ _ (by rw[List.length_map,List.length_take];lia),nB,mM s]
theorem Hi(l:List Int):fIn (.bl false) (.lst (l.map λ_=>T.bl true))=some (.bl false):=by
 have h:(l.map λ_=>T.bl true).all gQ=true:=by
  rw[List.all_eq_true]
  intro x hx
  obtain⟨_,_,rfl⟩:=List.mem_map.mp hx
  rfl
 have h2:inT (.bl false) (l.map λ_=>T.bl true)=false:=by
  clear h
  induction l with
  | nil=>rfl
  | cons a l ih =>
   rw[List.map_cons]
   unfold inT at ih ⊢
   simp only[List.any_cons,ih,Bool.or_false]
   rfl
 show(if (gQ (.bl false) && (l.map λ_=>T.bl true).all gQ)=true then some (T.bl (inT (.bl false) (l.map λ_=>T.bl true))) else none)=_
 rw[h,h2];rfl
abbrev gF(x0 x1 x2 x3 x4 x5 x6 x7 x8 x9 x10 x11 x12:Option SV):Slots:=[x0,x1,x2,x3,x4,x5,x6,x7,x8,x9,x10,x11,x12]
def vS:DS:=(aq (sIf (dOr (gh (dIs .tuple (aa 6))) (ah fNe (cS (aa 6)) (aa 4))) (aH (dC (.bl false))) bB)
 (sIf (ah fIn (dC (.bl false)) (aW (bD (aa 6)) [none,some 3] (av 0) (dC (.bl true)) (ax (cal aN) [(aa 1),(aa 0)]))) (aH (dC (.bl false))) bB))
theorem Em:dN=bE (bD (aa 2)) (av 6) vS:=rfl
def En:DS:=(aC 9 (ah bx (aa 9) (ah aG (ao (aa 10) (aa 12)) (dUn qE (aW (aK (aa 4)) [none,some 11,some 2,some 12] (av 0) (dC (.bl true)) (ah aG (ao (ao (aa 2) (aa 3)) (aa 0)) (ao (aa 1) (aa 0))))))))
def vT:DS:=(aq (aC 9 (dC (.int 0)))
 (aq (aC 10 (ao (ao (aa 5) (aa 7)) (dC (.int 1))))
 (aq (aC 11 (ao (ao (aa 5) (aa 8)) (dC (.int 1))))
 (aq (bE (aK (aa 4)) (av 12) En)
 (sIf (ah fNe (ah bg (aa 9) (aa 3)) (dC (.int 0))) (aH (dC (.bl false))) bB)))))
theorem Eo:dO=bE (bD (ax (cal bR) [(aa 0),(aa 1)])) (cT [7,8]) vT:=rfl
section
variable{p:Int}{w:Nat}{rows:Rows}{tv f s:List Int}
theorem Ku{c:List Int}(hc:Rw p w c)(μ:af):bI (λ_=>True) (av 0) (dC (.bl true)) (ax (cal aN) [(aa 1),(aa 0)]) [none,some (.val (.int p))] (c.map T.int) μ=.ok (c.map λ_=>T.bl true) μ:=by
 rw[cC T.int (λ_=>T.bl true) trivial]
 intro x hx
 have:=vP ⟨hc.lo x hx,hc.hi x hx⟩ μ
 refine⟨_,rfl,?_⟩
 simp?! only[this]
theorem Ep{c:List Int}(hw:w≤12)(hc:Rw p w c)(x0 x1 x2 x5 x7 x8 x9 x10 x11 x12:Option SV)(μ:af):vS (gF x0 x1 x2 (some (.val (.int p))) (some (.val (.int w))) x5 (some (.val (tu c))) x7 x8 x9 x10 x11 x12) μ=.nx (gF x0 x1 x2 (some (.val (.int p))) (some (.val (.int w))) x5 (some (.val (tu c))) x7 x8 x9 x10 x11 x12) μ:=by
 have e1:=Ku hc μ
 have e2:=Hi c
 have e3:(c.map T.int).length=w:=by rw[List.length_map];exact hc.len
 have e4:w≤szL:=by unfold szL;lia
 have e5:isS .tuple μ (.val (.tup (c.map T.int)))=some (.bl true):=rfl
 unfold vS tu
 generalize aN=FN1 at *
 generalize (c.map λ_=>T.bl true)=u at *
 generalize c.map T.int=t at *
 simp?! only[kO,e5,e3,e1,e4,e2]
theorem Kv(hw:w≤12)(hv:Rw p (w*w) tv)(x0 x1 x5 x6 x7 x8 x9 x10 x11 x12:Option SV)(μ:af):∃y6,dN (gF x0 x1 (some (.val (.tup ((List.range w).map λa=>tu (chunk w tv a))))) (some (.val (.int p))) (some (.val (.int w))) x5 x6 x7 x8 x9 x10 x11 x12) μ=.nx (gF x0 x1 (some (.val (.tup ((List.range w).map λa=>tu (chunk w tv a))))) (some (.val (.int p))) (some (.val (.int w))) x5 y6 x7 x8 x9 x10 x11 x12) μ:=by
 obtain⟨e',μ',hf,y6,rfl,rfl⟩:=cx (same:=λ_=>True) (b:=av 6) (ts:=(List.range w).map λa=>tu (chunk w tv a)) (body:=vS)
  (I:=λk e μ1=>∃y6,e=(gF x0 x1 (some (.val (.tup ((List.range w).map λa=>tu (chunk w tv a))))) (some (.val (.int p))) (some (.val (.int w))) x5 y6 x7 x8 x9 x10 x11 x12)/\μ=μ1) (λ_ _ _ _=>trivial) (λk t e μ1 ht hI=>by
   obtain⟨y6,rfl,rfl⟩:=hI
   obtain⟨a,ha,rfl⟩:=List.mem_map.mp (List.mem_of_getElem? ht)
   exact⟨_,_,_,rfl,Ep hw (mQ hv (List.mem_range.mp ha)) x0 x1 _ x5 x7 x8 x9 x10 x11 x12 μ,_,rfl,rfl⟩)
  (e:=(gF x0 x1 (some (.val (.tup ((List.range w).map λa=>tu (chunk w tv a))))) (some (.val (.int p))) (some (.val (.int w))) x5 x6 x7 x8 x9 x10 x11 x12)) (μ:=μ) ⟨x6,rfl,rfl⟩
 refine⟨y6,?_⟩
 rw[Em]
 generalize vS=LB at *
 generalize ((List.range w).map λa=>tu (chunk w tv a))=F at *
 simp?! only[hf]
theorem MY(μ:af){a:Nat}(ha:a<w):eg μ (.val (.tup ((List.range w).map λa=>tu (chunk w tv a)))) (.int (a:Int))=some (.val (tu (chunk w tv a))):=by
 rw[cN,gO (by lia),Int.toNat_natCast,List.getElem?_map,List.getElem?_range ha];rfl
theorem zu(μ:af){c:List Int}{a:Nat}(ha:a<c.length):eg μ (.val (tu c)) (.int (a:Int))=some (.val (.int (g c a))):=by rw[cN,Ed ha];rfl
theorem MZ(hp2:p≤97)(hv:Rw p (w*w) tv)(hs:Rw p w s){a:Nat}(ha:a<w)(μ:af):bI (λ_=>True) (av 0) (dC (.bl true)) (ah aG (ao (ao (aa 2) (aa 3)) (aa 0)) (ao (aa 1) (aa 0))) [none,some (.val (tu s)),some (.val (.tup ((List.range w).map λa=>tu (chunk w tv a)))),some (.val (.int (a:Int)))] (a_ 0 (w:Int).toNat) μ=.ok ((List.range w).map λb=>T.int (g (chunk w tv a) b*g s b)) μ:=by
 have hc:=mQ hv ha
 have i1:=MY (tv:=tv) μ ha
 rw[qt,cC (λ(i:Nat)=>T.int (i:Int)) (λb=>T.int (g (chunk w tv a) b*g s b)) trivial]
 intro b hb
 have hb:=List.mem_range.mp hb
 have i2:=zu μ (c:=chunk w tv a) (a:=b) (by rw[hc.len];exact hb)
 have i3:=zu μ (c:=s) (a:=b) (by rw[hs.len];exact hb)
 have b1:0≤g (chunk w tv a) b/\g (chunk w tv a) b<p:=by
  rw[qk _ b (by rw[hc.len];exact hb)]
  exact⟨hc.lo _ (List.getElem_mem _),hc.hi _ (List.getElem_mem _)⟩
 have m1:aG (.int (g (chunk w tv a) b)) (.int (g s b))=some (.int (g (chunk w tv a) b*g s b)):=e8 _ _ (by lia) (by lia)
 refine⟨_,rfl,?_⟩
 generalize tu s=ts at *
 generalize tu (chunk w tv a)=tc at *
 generalize ((List.range w).map λa=>tu (chunk w tv a))=F at *
 simp?! only[i1,i2,i3,m1]
theorem Er(hw:w≤12)(hp2:p≤97)(hv:Rw p (w*w) tv)(hf:Rw p w f)(hs:Rw p w s){a:Nat}(ha:a<w)(n:Int)(x0 x1 x5 x6 x7 x8:Option SV)(μ:af) :
  En (gF x0 x1 (some (.val (.tup ((List.range w).map λa=>tu (chunk w tv a))))) (some (.val (.int p))) (some (.val (.int w))) x5 x6 x7 x8 (some (.val (.int n))) (some (.val (tu f))) (some (.val (tu s))) (some (.val (.int (a:Int))))) μ =
  .nx (gF x0 x1 (some (.val (.tup ((List.range w).map λa=>tu (chunk w tv a))))) (some (.val (.int p))) (some (.val (.int w))) x5 x6 x7 x8 (some (.val (.int (n+g f a*dot (chunk w tv a) s)))) (some (.val (tu f))) (some (.val (tu s))) (some (.val (.int (a:Int))))) μ:=by
 have rn:bQ (w:Int)=true:=bH (by lia) (by lia)
 have ln:(a_ 0 (w:Int).toNat).length≤szL:=by rw[bA];unfold szL;lia
 have e1:=MZ hp2 hv hs ha μ
 have hc:=mQ hv ha
 have e2:qE (.lst ((List.range w).map λb=>T.int (g (chunk w tv a) b*g s b)))=some (.int (dot (chunk w tv a) s)):=by
  rw[u9,← MR _ _ (by rw[hc.len,hs.len]),f_,List.map_map,hc.len]
  rfl
 have i3:=zu μ (c:=f) (a:=a) (by rw[hf.len];exact ha)
 have b1:0≤g f a/\g f a<p:=by
  rw[qk _ a (by rw[hf.len];exact ha)]
  exact⟨hf.lo _ (List.getElem_mem _),hf.hi _ (List.getElem_mem _)⟩
 have m1:aG (.int (g f a)) (.int (dot (chunk w tv a) s))=some (.int (g f a*dot (chunk w tv a) s)):=e8 _ _ (by lia) (by lia)
 unfold En
 generalize tu s=ts at *
 generalize tu f=tf at *
 generalize ((List.range w).map λa=>tu (chunk w tv a))=F at *
 generalize ((List.range w).map λb=>T.int (g (chunk w tv a) b*g s b))=G at *
 generalize dot (chunk w tv a) s=d at *
 simp?! only[rn,ln,e1,e2,i3,m1]
theorem Bw(hw:w≤12)(hp:0<p)(hp2:p≤97)(hv:Rw p (w*w) tv){i j:Nat}(hi:i<rows.length)(hj:j<rows.length)(hf:Rw p w (aB rows i).2)(hs:Rw p w (aB rows j).2)(hd:p ∣ dot (mdl p (aX (aB rows i).2 (aB rows j).2)) tv)(x0 x1 x6 x9 x10 x11 x12:Option SV)(μ:af) :
  ∃y9 y10 y11 y12,vT (gF x0 x1 (some (.val (.tup ((List.range w).map λa=>tu (chunk w tv a))))) (some (.val (.int p))) (some (.val (.int w))) (some (.val (.tup (rows.map rt)))) x6 (some (.val (.int (i:Int)))) (some (.val (.int (j:Int)))) x9 x10 x11 x12) μ =
  .nx (gF x0 x1 (some (.val (.tup ((List.range w).map λa=>tu (chunk w tv a))))) (some (.val (.int p))) (some (.val (.int w))) (some (.val (.tup (rows.map rt)))) x6 (some (.val (.int (i:Int)))) (some (.val (.int (j:Int)))) y9 y10 y11 y12) μ:=by
 have a1:=gE hi
 have a2:=gE hj
 have ei1:eg μ (.val (.tup (rows.map rt))) (.int (i:Int))=some (.val (rt (aB rows i))):=by rw[cN,a1];rfl
 have ei2:eg μ (.val (.tup (rows.map rt))) (.int (j:Int))=some (.val (rt (aB rows j))):=by rw[cN,a2];rfl
 have er1:eg μ (.val (rt (aB rows i))) (.int 1)=some (.val (tu (aB rows i).2)):=rfl
 have er2:eg μ (.val (rt (aB rows j))) (.int 1)=some (.val (tu (aB rows j).2)):=rfl
 generalize (aB rows i).2=f at *
 generalize (aB rows j).2=s at *
 have rn:bQ (w:Int)=true:=bH (by lia) (by lia)
 have hl:(a_ 0 (w:Int).toNat).length=w:=by rw[bA];simp
 obtain⟨e',μ',hfl,y12,rfl,rfl⟩:=cx (same:=λ_=>True) (b:=av 12) (ts:=a_ 0 (w:Int).toNat) (body:=En)
  (I:=λk e μ1=>∃y12,e=(gF x0 x1 (some (.val (.tup ((List.range w).map λa=>tu (chunk w tv a))))) (some (.val (.int p))) (some (.val (.int w))) (some (.val (.tup (rows.map rt)))) x6 (some (.val (.int (i:Int)))) (some (.val (.int (j:Int)))) (some (.val (.int (((List.range k).map λa=>g f a*dot (chunk w tv a) s).sum)))) (some (.val (tu f))) (some (.val (tu s))) y12)/\μ=μ1) (λ_ _ _ _=>trivial) (λk t e μ1 ht hI=>by
   obtain⟨y12,rfl,rfl⟩:=hI
   obtain⟨q,rfl,hq,hqi⟩:=jY ht
   have hk:k<w:=by rw[← hl];exact(List.getElem?_eq_some_iff.mp ht).1
   have eq:q=(k:Int):=by lia
   subst eq
   have st1:=Er hw hp2 hv hf hs hk (((List.range k).map λa=>g f a*dot (chunk w tv a) s).sum) x0 x1 (some (.val (.tup (rows.map rt)))) x6 (some (.val (.int (i:Int)))) (some (.val (.int (j:Int)))) μ
   refine⟨_,_,_,rfl,st1,some (.val (.int (k:Int))),?_,rfl⟩
   rw[List.range_succ,List.map_append,List.sum_append,List.map_cons,List.map_nil,List.sum_cons,List.sum_nil,Int.add_zero])
  (e:=(gF x0 x1 (some (.val (.tup ((List.range w).map λa=>tu (chunk w tv a))))) (some (.val (.int p))) (some (.val (.int w))) (some (.val (.tup (rows.map rt)))) x6 (some (.val (.int (i:Int)))) (some (.val (.int (j:Int)))) (some (.val (.int 0))) (some (.val (tu f))) (some (.val (tu s))) x12)) (μ:=μ) ⟨x12,rfl,rfl⟩
 have es:((List.range w).map λa=>g f a*dot (chunk w tv a) s).sum=dot (aX f s) tv:=by
  have:=sh w s hs.len f tv (by rw[hf.len];exact hv.len)
  rw[hf.len] at this
  exact this.symm
 rw[hl,es] at hfl
 have em:dot (aX f s) tv%p=0:=by
  obtain⟨a,ha⟩:=hd
  obtain⟨b,hb⟩:=ug p (aX f s) tv
  exact Int.emod_eq_zero_of_dvd ⟨a-b,by grind⟩
 have c0:((0:Int)==0)=true:=rfl
 refine⟨some (.val (.int (dot (aX f s) tv))),some (.val (tu f)),some (.val (tu s)),y12,?_⟩
 unfold vT
 generalize En=SB at *
 generalize rt (aB rows i)=t1 at *
 generalize rt (aB rows j)=t2 at *
 generalize tu s=ts at *
 generalize tu f=tf at *
 generalize rows.map rt=rr at *
 generalize ((List.range w).map λa=>tu (chunk w tv a))=F at *
 generalize dot (aX f s) tv=d at *
 simp?! only[ei1,er1,ei2,er2,rn,hfl,em,c0]
end
theorem Kw{p:Int}{w:Nat}{rows:Rows}{tv hs:List Int}(H:Tbl p w rows)(hw:w≤5)(hn:rows.length≤9)(hv:Rw p (w*w) tv)(hd:∀q∈prs rows (rowsOf rows hs) (rowsOf rows hs),p ∣ dot (mdl p (aX (aB rows q.1).2 (aB rows q.2).2)) tv)(x6:Option SV)(μ:af) :
  ∃y7 y8 y9 y10 y11 y12,dO (gF (some (.val (tb p w rows))) (some (.val (li hs))) (some (.val (.tup ((List.range w).map λa=>tu (chunk w tv a))))) (some (.val (.int p))) (some (.val (.int w))) (some (.val (.tup (rows.map rt)))) x6 none none none none none none) μ=.nx (gF (some (.val (tb p w rows))) (some (.val (li hs))) (some (.val (.tup ((List.range w).map λa=>tu (chunk w tv a))))) (some (.val (.int p))) (some (.val (.int w))) (some (.val (.tup (rows.map rt)))) x6 y7 y8 y9 y10 y11 y12) μ:=by
 have hb:=H.pr.pos
 have e1:=sa (p:=p) (w:=w) (rows:=rows) (by lia) hs μ
 have hlt:∀i∈rowsOf rows hs,i<rows.length:=kb
 have hpm:∀q∈prs rows (rowsOf rows hs) (rowsOf rows hs),q.1<rows.length/\q.2<rows.length:=λq hq=>⟨hlt _ (kc hq).1,hlt _ (kc hq).2⟩
 generalize prs rows (rowsOf rows hs) (rowsOf rows hs)=ps at *
 obtain⟨e',μ',hf,y7,y8,y9,y10,y11,y12,rfl,rfl⟩:=cx (same:=λ_=>True) (b:=cT [7,8]) (ts:=ps.map pt) (body:=vT)
  (I:=λk e μ1=>∃y7 y8 y9 y10 y11 y12,e=(gF (some (.val (tb p w rows))) (some (.val (li hs))) (some (.val (.tup ((List.range w).map λa=>tu (chunk w tv a))))) (some (.val (.int p))) (some (.val (.int w))) (some (.val (.tup (rows.map rt)))) x6 y7 y8 y9 y10 y11 y12)/\μ=μ1) (λ_ _ _ _=>trivial) (λk t e μ1 ht hI=>by
   obtain⟨y7,y8,y9,y10,y11,y12,rfl,rfl⟩:=hI
   obtain⟨q,hq,rfl⟩:=List.mem_map.mp (List.mem_of_getElem? ht)
   obtain⟨h1,h2⟩:=hpm q hq
   obtain⟨z9,z10,z11,z12,hz⟩:=Bw (by lia) (by lia) hb.2 hv h1 h2 (iX H h1) (iX H h2) (hd q hq) (some (.val (tb p w rows))) (some (.val (li hs))) x6 y9 y10 y11 y12 μ
   exact⟨_,_,_,dZ 7 8 _ _ _,hz,_,_,z9,z10,z11,z12,rfl,rfl⟩)
  (e:=(gF (some (.val (tb p w rows))) (some (.val (li hs))) (some (.val (.tup ((List.range w).map λa=>tu (chunk w tv a))))) (some (.val (.int p))) (some (.val (.int w))) (some (.val (.tup (rows.map rt)))) x6 none none none none none none)) (μ:=μ) ⟨none,none,none,none,none,none,rfl,rfl⟩
 refine⟨y7,y8,y9,y10,y11,y12,?_⟩
 rw[Eo]
 generalize vT=PB at *
 generalize tb p w rows=TB at *
 generalize rows.map rt=rr at *
 generalize ps.map pt=pp at *
 generalize ((List.range w).map λa=>tu (chunk w tv a))=F at *
 simp?! only[e1,hf]
theorem Es{p:Int}{w:Nat}{rows:Rows}(H:Tbl p w rows)(hw:w≤5)(hn:rows.length≤9)(hs:List Int){tv:List Int}(hv:Rw p (w*w) tv)(hd:∀q∈prs rows (rowsOf rows hs) (rowsOf rows hs),p ∣ dot (mdl p (aX (aB rows q.1).2 (aB rows q.2).2)) tv)(h1:p ∣ dot (eu (w*w) 0) tv-1)(μ:af) :
  bZ [.val (tb p w rows),.val (li hs),.val (mN w tv)] μ=.ok (.val (.bl true)) μ:=by
 rw[Hh hv.len]
 have hb:=H.pr.pos
 have hw0:=H.w0
 have hww:0<w*w:=Nat.mul_pos hw0 hw0
 have g0:dJ (gF (some (.val (tb p w rows))) (some (.val (li hs))) (some (.val (.tup ((List.range w).map λa=>tu (chunk w tv a))))) none none none none none none none none none none) μ=.nx (gF (some (.val (tb p w rows))) (some (.val (li hs))) (some (.val (.tup ((List.range w).map λa=>tu (chunk w tv a))))) (some (.val (.int p))) (some (.val (.int w))) (some (.val (.tup (rows.map rt)))) none none none none none none none) μ:=by
  generalize ((List.range w).map λa=>tu (chunk w tv a))=F
  unfold dJ tb
  simp?! only[]
 have g1:dM (gF (some (.val (tb p w rows))) (some (.val (li hs))) (some (.val (.tup ((List.range w).map λa=>tu (chunk w tv a))))) (some (.val (.int p))) (some (.val (.int w))) (some (.val (.tup (rows.map rt)))) none none none none none none none) μ=.nx (gF (some (.val (tb p w rows))) (some (.val (li hs))) (some (.val (.tup ((List.range w).map λa=>tu (chunk w tv a))))) (some (.val (.int p))) (some (.val (.int w))) (some (.val (.tup (rows.map rt)))) none none none none none none none) μ:=by
  have e1:isS .tuple μ (.val (.tup ((List.range w).map λa=>tu (chunk w tv a))))=some (.bl true):=rfl
  have e2:((List.range w).map λa=>tu (chunk w tv a)).length=w:=by rw[List.length_map,List.length_range]
  generalize ((List.range w).map λa=>tu (chunk w tv a))=F at *
  generalize tb p w rows=TB
  unfold dM
  simp?! only[kO,e1,e2]
 obtain⟨y6,g2⟩:=Kv (w:=w) (by lia) hv (some (.val (tb p w rows))) (some (.val (li hs))) (some (.val (.tup (rows.map rt)))) none none none none none none none μ
 obtain⟨y7,y8,y9,y10,y11,y12,g3⟩:=Kw (hs:=hs) H hw hn hv hd y6 μ
 have hc:=mQ hv hw0
 have i1:=MY (tv:=tv) μ hw0
 have i2:=zu μ (c:=chunk w tv 0) (a:=0) (by rw[hc.len];exact hw0)
 have e0:g (chunk w tv 0) 0=1:=by
  rw[lU _ _ _ hww] at h1
  have b:=hv.g0 (by lia) 0
  have:g (chunk w tv 0) 0=g tv 0:=by
   unfold chunk g
   rw[Nat.mul_zero,List.drop_zero,List.getD_eq_getElem?_getD,List.getD_eq_getElem?_getD,List.getElem?_take,if_pos hw0]
  rw[this]
  obtain⟨k,hk⟩:=h1
  have:k=0:=by
   rcases Int.lt_trichotomy k 0 with c|c|c
   ·have:p*k≤p*(-1):=Int.mul_le_mul_of_nonneg_left (by lia) (by lia)
    lia
   ·exact c
   ·have:p*1≤p*k:=Int.mul_le_mul_of_nonneg_left (by lia) (by lia)
    lia
  subst this
  lia
 rw[e0] at i2
 have g4:dP (gF (some (.val (tb p w rows))) (some (.val (li hs))) (some (.val (.tup ((List.range w).map λa=>tu (chunk w tv a))))) (some (.val (.int p))) (some (.val (.int w))) (some (.val (.tup (rows.map rt)))) y6 y7 y8 y9 y10 y11 y12) μ=.rt (.val (.bl true)) μ:=by
  have i1:eg μ (.val (.tup ((List.range w).map λa=>tu (chunk w tv a)))) (.int 0)=some (.val (tu (chunk w tv 0))):=i1
  have i2:eg μ (.val (tu (chunk w tv 0))) (.int 0)=some (.val (.int 1)):=i2
  generalize tu (chunk w tv 0)=c at *
  generalize ((List.range w).map λa=>tu (chunk w tv a))=F at *
  generalize tb p w rows=TB
  unfold dP
  simp?! only[i1,i2]
 unfold bZ
 rw[cI,oa,lJ,show starts 13 [SV.val (tb p w rows),.val (li hs),.val (.tup ((List.range w).map λa=>tu (chunk w tv a)))]=(gF (some (.val (tb p w rows))) (some (.val (li hs))) (some (.val (.tup ((List.range w).map λa=>tu (chunk w tv a))))) none none none none none none none none none none) from rfl,g0,RS.bV,lK,g1,RS.bV,lL,g2,RS.bV,lM,g3,RS.bV,lN,g4,jU,tw,List.take_length]
theorem Hj{p:Int}{w:Nat}{rows:Rows}(H:Tbl p w rows)(hw:w≤5)(hn:rows.length≤9)(hs:List Int)(hpl:(prs rows (rowsOf rows hs) (rowsOf rows hs)).length≤49)(μ:af) :
  ∃(b:Bool) (y:T),ck [.val (tb p w rows),.val (li hs)] μ=.ok (.val (.tup [.str (if b then "open" else "shut"),y])) μ/\aZ [.val (tb p w rows),.val (li hs),.val (.tup [.str (if b then "open" else "shut"),y])] μ=.ok (.val (.bl true)) μ /\
   (b=true->∃ms,Comes p w rows (prs rows (rowsOf rows hs) (rowsOf rows hs)) ms) /\
   (b=false->∃tv,Rw p (w*w) tv/\(∀q∈prs rows (rowsOf rows hs) (rowsOf rows hs),p ∣ dot (mdl p (aX (aB rows q.1).2 (aB rows q.2).2)) tv)/\p ∣ dot (eu (w*w) 0) tv-1):=by
 have c2:(((2:Nat):Int)==2)=true:=rfl
 rcases vO H hw (by lia) hs μ with ⟨ms,C,hR,e⟩|⟨tv,hv,a,b,e⟩
 ·refine⟨true,_,e,?_,λ_=>⟨ms,C⟩,λz=>absurd z (by simp)⟩
  have eo:=El H hw hn hs hpl C hR μ
  show aZ [.val (tb p w rows),.val (li hs),.val (.tup [.str "open",.lst ((kept (prs rows (rowsOf rows hs) (rowsOf rows hs)) ms).map cF)])] μ=_
  generalize (kept (prs rows (rowsOf rows hs) (rowsOf rows hs)) ms).map cF=t at *
  have it:isT .tuple (.tup [.str "open",.lst t])=some (.bl true):=rfl
  have ef:fEq (.str "open") (.str "open")=some (.bl true):=by rw[iA];rfl
  unfold aZ
  rw[cI,i8,gx]
  unfold dQ
  generalize tb p w rows=TB at *
  simp?! only[kO,sQ,it,c2]
  rw[gy]
  unfold dR
  simp?! only[ef,eo]
 ·refine⟨false,_,e,?_,λz=>absurd z (by simp),λ_=>⟨tv,hv,a,b⟩⟩
  have eo:=Es H hw hn hs hv a b μ
  show aZ [.val (tb p w rows),.val (li hs),.val (.tup [.str "shut",mN w tv])] μ=_
  generalize mN w tv=t at *
  have it:isT .tuple (.tup [.str "shut",t])=some (.bl true):=rfl
  have ef:fEq (.str "shut") (.str "open")=some (.bl false):=by rw[iA];rfl
  have ef2:fEq (.str "shut") (.str "shut")=some (.bl true):=by rw[iA];rfl
  unfold aZ
  rw[cI,i8,gx]
  unfold dQ
  generalize tb p w rows=TB at *
  simp?! only[kO,sQ,it,c2]
  rw[gy]
  unfold dR
  simp?! only[ef]
  rw[lO]
  unfold fK
  simp?! only[ef2,eo]
end Fw.k63
namespace Fw.U
open PySem Fw Builtin.Str
end Fw.U
namespace Fw.U
open PySem Fw Fw.H Fw.E
abbrev hnd(h:Int):T:=.tup [.str "hand",.int h]
abbrev som(k:Int)(rs:List T):T:=.tup [.str "some",.int k,.tup rs]
def IsR:Nat->T->Prop
 | 0,t=>∃h:Int,0≤h/\h<10/\t=hnd h
 | d+1,t=>(∃h:Int,0≤h/\h<10/\t=hnd h)∨∃(k:Int) (r:T) (rs:List T),t=som k (r::rs)/\1≤k/\k≤rs.length+1/\rs.length+1≤10/\∀x∈r::rs,IsR d x
theorem Et:(("some":Str)=="hand")=false:=by decide +kernel
def ip:DS:=(aH (ah fEq (ao (aa 0) (dC (.int 0))) (dC (.str "hand"))))
def bM:FN:=fnV 1 ip
theorem Eu(h:Int)(μ:af):bM [.val (hnd h)] μ=.ok (.val (.bl true)) μ:=by unfold bM ip;simp?! only[]
theorem Hk(k:Int)(rs:List T)(μ:af):bM [.val (som k rs)] μ=.ok (.val (.bl false)) μ:=by unfold bM ip;simp?! only[Et]
theorem yc(μ:af)(ts us:List T)(hl:ts.length+us.length≤szL):bW (.cel μ.length) (.lst us) (μ++[(true,.lst ts)])=some (μ++[(true,.lst (ts++us))]):=by
 unfold bW
 simp only[eC]
 rw[if_pos hl]
 simp
end Fw.U
namespace Fw.J
open PySem Fw Fw.H Fw.E Fw.F
noncomputable def pol (x : Int) : List Int -> Int
 | []=>0
 | c::cs=>c+x*pol x cs
theorem Kx{p a b:Int}(hP:hU p)(h:p ∣ a*b)(ha:¬ p ∣ a):p ∣ b:=by
 have h0:a%p≠0:=λz=>ha (Int.dvd_of_emod_eq_zero z)
 obtain⟨y,_,_,_,yz⟩:=oO hP 1 a [] h0
 obtain⟨s,hs⟩:=Int.dvd_of_emod_eq_zero yz
 obtain⟨t,ht⟩:=h
 exact⟨y*t-b*s,by grind⟩
theorem qu(x:Int):∀cs,pol x (cs++[0])=pol x cs
 | []=>by simp[pol]
 | c::cs=>by rw[List.cons_append,pol,qu x cs,pol]
theorem small{p k:Int}(hp:0<p)(h:p ∣ k)(h1:-p<k)(h2:k<p):k=0:=by
 obtain⟨t,ht⟩:=h
 have:t=0∨1≤t∨t≤-1:=by lia
 rcases this with z|z|z
 ·subst z;lia
 ·have:p*1≤p*t:=Int.mul_le_mul_of_nonneg_left z (by lia)
  lia
 ·have:p*t≤p*(-1):=Int.mul_le_mul_of_nonneg_left z (by lia)
  lia
def quo(a:Int):List Int->List Int
 | []=>[]
 | [_]=>[]
 | _::d::ds=>pol a (d::ds)::quo a (d::ds)
theorem uh(a:Int):∀cs,(quo a cs).length=cs.length-1
 | []=>rfl
 | [_]=>rfl
 | _::d::ds=>by rw[quo,List.length_cons,uh a (d::ds)];simp
theorem Ew(a x:Int):∀cs,pol x cs-pol a cs=(x-a)*pol x (quo a cs)
 | []=>by simp[quo,pol]
 | [c]=>by simp[quo,pol]
 | c::d::ds=>by
  have ih:=Ew a x (d::ds)
  have e1:pol x (c::d::ds)=c+x*pol x (d::ds):=rfl
  have e2:pol a (c::d::ds)=c+a*pol a (d::ds):=rfl
  have e3:pol x (quo a (c::d::ds))=pol a (d::ds)+x*pol x (quo a (d::ds)):=rfl
  rw[e1,e2,e3]
  generalize pol x (d::ds)=u at ih ⊢
  generalize pol a (d::ds)=v at ih ⊢
  generalize pol x (quo a (d::ds))=q at ih ⊢
  grind
theorem vU{p:Int}(a:Int):∀cs,(∀q∈quo a cs,p ∣ q)->p ∣ pol a cs->∀c∈cs,p ∣ c
 | [],_,_=>by simp
 | [c],_,h=>by
  intro d hd
  have:d=c:=by simpa using hd
  rw[this]
  simpa [pol] using h
 | c::d::ds,hq,h=>by
  rw[quo] at hq
  have hg:p ∣ pol a (d::ds):=hq _ List.mem_cons_self
  have ih:=vU a (d::ds) (λq hm=>hq q (List.mem_cons_of_mem _ hm)) hg
  intro e he
  rcases List.mem_cons.mp he with z|z
  ·rw[z]
   obtain⟨k,hk⟩:=h
   obtain⟨t,ht⟩:=hg
   rw[pol] at hk
   exact⟨k-a*t,by grind⟩
  ·exact ih e z
theorem vV{p:Int}(hP:hU p):∀(n:Nat) (cs xs:List Int),cs.length=n->cs.length≤xs.length->xs.Nodup->(∀x∈xs,0≤x/\x<p)->(∀x∈xs,p ∣ pol x cs)->∀c∈cs,p ∣ c
 | 0,cs,xs,h0,_,_,_,_=>by
  have:cs=[]:=List.eq_nil_of_length_eq_zero h0
  subst this
  simp
 | n+1,cs,[],h0,hl,_,_,_=>by rw[h0] at hl;simp at hl
 | n+1,cs,a::xs,h0,hl,hd,hx,hz=>by
  have hb:=hP.pos
  obtain⟨hd1,hd2⟩:=List.nodup_cons.mp hd
  refine vU a cs (vV hP n (quo a cs) xs (by rw[uh];lia) (by rw[uh];simp at hl;lia) hd2 (λx h=>hx x (List.mem_cons_of_mem _ h)) λx h=>?_) (hz a List.mem_cons_self)
  have e:=Ew a x cs
  obtain⟨u,hu⟩:=hz x (List.mem_cons_of_mem _ h)
  obtain⟨v,hv⟩:=hz a List.mem_cons_self
  have h1:=hx x (List.mem_cons_of_mem _ h)
  have h2:=hx a List.mem_cons_self
  refine Kx (a:=x-a) hP ⟨u-v,by grind⟩ λhk=>?_
  have:=small (by lia) hk (by lia) (by lia)
  have:x=a:=by lia
  exact hd1 (this ▸ h)
def sbl:List Int->List Int->List Int
 | c::cs,d::ds=>(c-d)::sbl cs ds
 | _,_=>[]
theorem zv:∀(cs ds:List Int),cs.length=ds.length->(sbl cs ds).length=cs.length
 | [],[],_=>rfl
 | c::cs,d::ds,h=>by rw[sbl,List.length_cons,zv cs ds (by simpa using h),List.length_cons]
theorem zw(x:Int):∀(cs ds:List Int),cs.length=ds.length->pol x (sbl cs ds)=pol x cs-pol x ds
 | [],[],_=>by simp[sbl,pol]
 | c::cs,d::ds,h=>by
  have ih:=zw x cs ds (by simpa using h)
  rw[sbl,pol,pol,pol,ih]
  grind
end Fw.J
namespace Fw.Sets
section
variable(O:List Int->Bool)
end
end Fw.Sets
namespace Fw.Sets
open Fw
section
variable(O:List Int->Bool)
end
end Fw.Sets
namespace Fw.Sets
open PySem Fw Fw.H Fw.E Fw.F
section
variable{p:Int}{w n:Nat}{rows:Rows}
end
section
variable{p:Int}{w n:Nat}{rows:Rows}{O:List Int->Bool}
end
end Fw.Sets
namespace Fw.Rl
open PySem Fw Fw.H Fw.E Fw.F Fw.U Fw.J Fw.Sets
noncomputable def plc : Nat -> T -> Nat
 | 0,_=>0
 | d+1,t=>match t with
  | .tup [_,.int k,.tup rs]=>(k.toNat-1)+(rs.map (plc d)).sum
  | _=>0
theorem ui(d:Nat)(h:Int):plc d (hnd h)=0:=by cases d<;>rfl
theorem uj(d:Nat)(k:Int)(rs:List T):plc (d+1) (som k rs)=(k.toNat-1)+(rs.map (plc d)).sum:=rfl
noncomputable def rcn : Nat -> T -> Nat
 | 0,_=>1
 | d+1,t=>match t with
  | .tup [_,.int _,.tup rs]=>(rs.map (rcn d)).sum
  | _=>1
theorem uk(d:Nat)(h:Int):rcn d (hnd h)=1:=by cases d<;>rfl
theorem uo(d:Nat)(k:Int)(rs:List T):rcn (d+1) (som k rs)=(rs.map (rcn d)).sum:=rfl
noncomputable def crw (p : Int) : Nat -> T -> Bool
 | 0,_=>false
 | d+1,t=>match t with
  | .tup [_,.int k,.tup rs]=>(decide (1<k) && decide (p≤rs.length)) || rs.any (crw p d)
  | _=>false
theorem uq(p:Int)(d:Nat)(h:Int):crw p d (hnd h)=false:=by cases d<;>rfl
theorem zx(p:Int)(d:Nat)(k:Int)(rs:List T):crw p (d+1) (som k rs)=((decide (1<k) && decide (p≤rs.length)) || rs.any (crw p d)):=rfl
def pw(p nb:Int):Nat->Int
 | 0=>1
 | i+1=>pw p nb i*nb%p
def fO(p nb:Int)(l:List Int)(u:Nat):Nat->List Int
 | 0=>l
 | m+1=>(fO p nb l u m).set (u+m) (pw p nb (m+1))
theorem Ky{p:Int}(hp:2≤p)(nb:Int)(i:Nat):0≤pw p nb i/\pw p nb i<p:=by
 cases i with
 | zero=>show(0:Int)≤1/\(1:Int)<p;lia
 | succ i=>exact⟨Int.emod_nonneg _ (by lia),Int.emod_lt_of_pos _ (by lia)⟩
theorem oQ{p:Int}{w:Nat}{l:List Int}(hp:2≤p)(hl:Rw p w l)(nb:Int)(u:Nat):∀m,Rw p w (fO p nb l u m)
 | 0=>hl
 | m+1=>Rw.set (oQ hp hl nb u m) (Ky hp nb (m+1)).1 (Ky hp nb (m+1)).2
theorem qv(p nb:Int)(l:List Int)(u:Nat):∀m,(fO p nb l u m).length=l.length
 | 0=>rfl
 | m+1=>by rw[fO,List.length_set,qv p nb l u m]
def mkL(f:T->List Int->Nat->Rows)(q:T->Nat)(p:Int)(L:List Int)(u m:Nat):List T->Nat->Nat->Rows
 | [],_,_=>[]
 | x::xs,i,v=>f x (fO p ((i:Int)+1) L u m) v++mkL f q p L u m xs (i+1) (v+q x)
noncomputable def mk (p : Int) : Nat -> T -> List Int -> Nat -> Rows
 | 0,t,L,_=>match t with
  | .tup [_,.int h]=>[(h,L)]
  | _=>[]
 | d+1,t,L,v=>match t with
  | .tup [_,.int h]=>[(h,L)]
  | .tup [_,.int k,.tup rs]=>mkL (mk p d) (plc d) p L v (k.toNat-1) rs 0 (v+(k.toNat-1))
  | _=>[]
theorem lY(p:Int)(d:Nat)(h:Int)(L:List Int)(v:Nat):mk p d (hnd h) L v=[(h,L)]:=by cases d<;>rfl
theorem ur(p:Int)(d:Nat)(k:Int)(rs:List T)(L:List Int)(v:Nat):mk p (d+1) (som k rs) L v=mkL (mk p d) (plc d) p L v (k.toNat-1) rs 0 (v+(k.toNat-1)):=rfl
def df:List Int->(Nat->Int)->Int
 | [],_=>0
 | a::l,x=>a*x 0+df l λi=>x (i+1)
theorem Ey:∀(l:List Int) (i:Nat) (a:Int) (x:Nat->Int),i<l.length->df (l.set i a) x=df l x+(a-g l i)*x i
 | [],i,_,_,h=>by simp at h
 | b::l,0,a,x,_=>by
  rw[List.set_cons_zero,df,df,eZ];grind
 | b::l,i+1,a,x,h=>by
  rw[List.set_cons_succ,df,df,dY,Ey l i a (λi=>x (i+1)) (by simpa using h)];grind
theorem Ez:∀(l tv:List Int),l.length=tv.length->dot l tv=df l (g tv)
 | [],[],_=>rfl
 | a::l,b::tv,h=>by
  rw[dot,df,eZ,Ez l tv (by simpa using h)]
  congr 1
def Sup(v:Nat)(L:List Int):Prop:=∀i,v≤i->g L i=0
theorem M0(l:List Int)(i j:Nat)(a:Int)(h:j≠i):g (l.set i a) j=g l j:=by
 unfold g
 rw[List.getD_eq_getElem?_getD,List.getD_eq_getElem?_getD,List.getElem?_set_ne (Ne.symm h)]
theorem zy(p nb:Int)(L:List Int)(u:Nat):∀(m j:Nat),j<u∨u+m≤j->g (fO p nb L u m) j=g L j
 | 0,_,_=>rfl
 | m+1,j,h=>by
  rw[fO,M0 _ _ _ _ (by lia),zy p nb L u m j (by lia)]
theorem EA(p nb:Int):∀i,p ∣ pw p nb i-nb ^ i
 | 0=>⟨0,by simp[pw]⟩
 | i+1=>by
  obtain⟨t,ht⟩:=EA p nb i
  obtain⟨u,hu⟩:=(show ∃u,pw p nb i*nb%p=pw p nb i*nb-p*u from ⟨pw p nb i*nb / p,by have:=Int.emod_add_mul_ediv (pw p nb i*nb) p;lia⟩)
  rw[pw,hu,Int.pow_succ]
  exact⟨t*nb-u,by grind⟩
theorem zA(x y:Int):∀cs:List Int,pol x (cs++[y])=pol x cs+x ^ cs.length*y
 | []=>by simp[pol]
 | c::cs=>by
  rw[List.cons_append,pol,zA x y cs,pol,List.length_cons,Int.pow_succ]
  grind
theorem EB{p nb:Int}{L:List Int}{u:Nat}(h:Sup u L)(x:Nat->Int):∀m,u+m≤L.length->p ∣ df (fO p nb L u m) x-pol nb (df L x::(List.range m).map λi=>x (u+i))
 | 0,_=>⟨0,by simp[fO,pol]⟩
 | m+1,hm=>by
  obtain⟨t,ht⟩:=EB (p:=p) (nb:=nb) h x m (by lia)
  obtain⟨s,hs⟩:=EA p nb (m+1)
  have hg:g (fO p nb L u m) (u+m)=0:=by rw[zy p nb L u m _ (.inr (Nat.le_refl _))];exact h _ (by lia)
  rw[fO,Ey _ _ _ _ (by rw[qv];lia),hg,List.range_succ,List.map_append,← List.cons_append]
  simp only[List.map_cons,List.map_nil]
  rw[zA,List.length_cons,List.length_map,List.length_range]
  generalize pol nb (df L x::List.map (λi=>x (u+i)) (List.range m))=A at ht ⊢
  generalize df (fO p nb L u m) x=B at ht ⊢
  generalize nb ^ (m+1)=C at hs ⊢
  generalize x (u+m)=X
  generalize pw p nb (m+1)=W at hs ⊢
  exact⟨t+s*X,by grind⟩
theorem zB{f:T->List Int->Nat->Rows}{q:T->Nat}{p:Int}{L:List Int}{u m:Nat}{P:T->Nat->Nat->(Int×List Int)->Prop}:∀(xs:List T) (i v:Nat),(∀x∈xs,∀(i v:Nat) (r:Int×List Int),r∈f x (fO p ((i:Int)+1) L u m) v->P x i v r)->∀r∈mkL f q p L u m xs i v,∃x∈xs,∃i v,P x i v r
 | [],_,_,_,r,hr=>by cases hr
 | x::xs,i,v,h,r,hr=>by
  rcases List.mem_append.mp hr with z|z
  ·exact⟨x,List.mem_cons_self,i,v,h x List.mem_cons_self i v r z⟩
  ·obtain⟨y,hy,j,w,hp⟩:=zB xs (i+1) (v+q x) (λy hy=>h y (List.mem_cons_of_mem _ hy)) r z
   exact⟨y,List.mem_cons_of_mem _ hy,j,w,hp⟩
theorem Hl{p:Int}{w:Nat}(hp:2≤p):∀(d:Nat) (t:T),IsR d t->∀(L:List Int) (v:Nat),Rw p w L->∀r∈mk p d t L v,Rw p w r.2/\0≤r.1/\r.1<10:=by
 intro d
 induction d with
 | zero =>
  rintro t ⟨h,h0,h1,rfl⟩ L v hL r hr
  rw[lY,List.mem_singleton] at hr
  subst hr
  exact⟨hL,h0,h1⟩
 | succ d ih =>
  rintro t ht L v hL r hr
  rcases ht with ⟨h,h0,h1,rfl⟩|⟨k,r0,rs,rfl,h1,h2,h3,h4⟩
  ·rw[lY,List.mem_singleton] at hr
   subst hr
   exact⟨hL,h0,h1⟩
  ·rw[ur] at hr
   obtain⟨_,_,_,_,hq⟩:=zB (P:=λ_ _ _ r=>Rw p w r.2/\0≤r.1/\r.1<10) _ _ _ (λx hx i v r hr=>ih x (h4 x hx) _ v (oQ hp hL _ _ _) r hr) r hr
   exact hq
theorem zC{f:T->List Int->Nat->Rows}{q c:T->Nat}{p:Int}{L:List Int}{u m:Nat}:∀(xs:List T) (i v:Nat),(∀x∈xs,∀L v,(f x L v).length=c x)->(mkL f q p L u m xs i v).length=(xs.map c).sum
 | [],_,_,_=>rfl
 | x::xs,i,v,h=>by
  rw[mkL,List.length_append,h x List.mem_cons_self,zC xs _ _ λy hy=>h y (List.mem_cons_of_mem _ hy),List.map_cons,List.sum_cons]
theorem EC{p:Int}:∀(d:Nat) (t:T),IsR d t->∀(L:List Int) (v:Nat),(mk p d t L v).length=rcn d t:=by
 intro d
 induction d with
 | zero =>
  rintro t ⟨h,h0,h1,rfl⟩ L v
  rw[lY,uk];rfl
 | succ d ih =>
  rintro t ht L v
  rcases ht with ⟨h,h0,h1,rfl⟩|⟨k,r0,rs,rfl,h1,h2,h3,h4⟩
  ·rw[lY,uk];rfl
  ·rw[ur,uo]
   exact zC _ _ _ λx hx L v=>ih x (h4 x hx) L v
theorem uu(s x:Int):∀cs:List Int,pol x (cs.map λc=>s*c)=s*pol x cs
 | []=>by simp[pol]
 | c::cs=>by rw[List.map_cons,pol,uu s x cs,pol];grind
theorem zD(x:Int)(cs:List Int):∀n,pol x (cs++List.replicate n 0)=pol x cs
 | 0=>by simp
 | n+1=>by rw[List.replicate_succ',← List.append_assoc,qu,zD x cs n]
theorem zE(x:Int):∀n,pol x (List.replicate n 0)=0
 | 0=>rfl
 | n+1=>by rw[List.replicate_succ,pol,zE x n];simp
theorem roots{p:Int}(hP:hU p)(c:Int):∀Is:List Int,(∀a∈Is,0<a/\a<p)->∃cs:List Int,cs.length=Is.length/\∀a∈Is,p ∣ c+a*pol a cs
 | [],_=>⟨[],rfl,by simp⟩
 | a::Is,h=>by
  have hb:=hP.pos
  obtain⟨cs,e1,e2⟩:=roots hP c Is λb hb=>h b (List.mem_cons_of_mem _ hb)
  have ha:=h a List.mem_cons_self
  have h0:a%p≠0:=by rw[Int.emod_eq_of_lt (by lia) ha.2];lia
  obtain⟨s,_,_,_,sz⟩:=oO hP 1 a [] h0
  obtain⟨u,hu⟩:=Int.dvd_of_emod_eq_zero sz
  refine⟨sbl (cs++[0]) ((c::cs).map λz=>s*z),by rw[zv _ _ (by simp)];simp[e1],λb hm=>?_⟩
  rw[zw _ _ _ (by simp),qu,uu,pol]
  rcases List.mem_cons.mp hm with z|z
  ·subst z
   exact⟨-(u*(c+b*pol b cs)),by grind⟩
  ·obtain⟨t,ht⟩:=e2 b z
   exact⟨t*(1-s*b),by grind⟩
abbrev l0(q:Nat):List Int:=1::List.replicate q 0
abbrev tbl(p:Int)(d:Nat)(t:T):Rows:=mk p d t (l0 (plc d t)) 1
theorem zp(n i:Nat):g (List.replicate n 0) i=0:=by
 unfold g
 rw[List.getD_eq_getElem?_getD,List.getElem?_replicate]
 by_cases h:i<n
 ·rw[if_pos h];rfl
 ·rw[if_neg h];rfl
theorem Kz(q:Nat):Sup 1 (l0 q):=λi hi=>by
 obtain⟨j,rfl⟩:∃j,i=j+1:=⟨i-1,by lia⟩
 rw[dY,zp]
theorem ED:∀(n:Nat) (x:Nat->Int),df (List.replicate n 0) x=0
 | 0,_=>rfl
 | n+1,x=>by rw[List.replicate_succ,df,ED n];simp
theorem M1(q:Nat)(x:Nat->Int):df (l0 q) x=x 0:=by
 show 1*x 0+df (List.replicate q 0) _=_
 rw[ED];simp
theorem H_{p:Int}(hp:2≤p)(q:Nat):Rw p (1+q) (l0 q):=by
 refine⟨by simp;lia,λx hx=>?_,λx hx=>?_⟩ <;>
 ·rcases List.mem_cons.mp hx with z|z
  ·lia
  ·rw[List.mem_replicate] at z;lia
theorem KA{p:Int}(hP:hU p){d:Nat}{t:T}(ht:IsR d t)(hw:plc d t≤11)(hn:rcn d t≤24):Tbl p (1+plc d t) (tbl p d t) :=
 ⟨hP,by lia,by lia,by rw[EC d t ht];exact hn,λq hq=>(Hl hP.pos.1 d t ht _ 1 (H_ hP.pos.1 _) q hq).1⟩
end Fw.Rl
namespace Fw.k63
open PySem Fw Fw.H Fw.E Fw.F Fw.U Fw.Rl
theorem gf(h:Int)(μ:af):bM [.val (hnd h)] μ=.ok (.val (.bl true)) μ:=Eu h μ
theorem jP(k:Int)(rs:List T)(μ:af):bM [.val (som k rs)] μ=.ok (.val (.bl false)) μ:=Hk k rs μ
theorem EE{k:Int}(h1:1≤k)(rs:List T)(μ:af):cQ [.val (som k rs)] μ=.ok (.val (.int ((k.toNat-1:Nat):Int))) μ:=by
 have e:(if (0:Int) > k-1 then (0:Int) else k-1)=((k.toNat-1:Nat):Int):=by
  rw[if_neg (by lia)];lia
 unfold cQ mD
 simp! only[CN,e]
theorem vW(f:T->Nat):∀l:List T,(l.map λx=>((f x:Nat):Int)).sum=(((l.map f).sum:Nat):Int)
 | []=>rfl
 | a::l=>by rw[List.map_cons,List.map_cons,List.sum_cons,List.sum_cons,vW f l,Int.natCast_add]
theorem si:∀(d n:Nat) (t:T),IsR d t->d≤n->∀(μ:af),ba (n+1) [.val t] μ=.ok (.val (.int ((plc d t:Nat):Int))) μ:=by
 intro d
 induction d with
 | zero =>
  rintro n t ⟨h,h0,h9,rfl⟩ hn μ
  show fnV 1 (cD (ba n)) _ _=_
  rw[ui]
  unfold cD
  simp! only[gf]
  rfl
 | succ d ih =>
  rintro n t ht hn μ
  obtain⟨m,rfl⟩:∃m,n=m+1:=⟨n-1,by lia⟩
  show fnV 1 (cD (ba (m+1))) _ _=_
  rcases ht with ⟨h,h0,h9,rfl⟩|⟨k,r,rs,rfl,h1,h2,h3,h4⟩
  ·rw[ui]
   unfold cD
   simp! only[gf]
   rfl
  ·have hc:=λ(same:af->Prop) (hs':same μ)=>cC (same:=same) (b:=av 0) (d:=ax (cal (ba (m+1))) [(aa 0)]) (e:=[none]) (μ:=μ) (id:T->T) (λx=>.int ((plc d x:Nat):Int)) hs' (r::rs) λx hx=>by
    refine⟨_,rfl,?_⟩
    simp! only[ih m x (h4 x hx) (by lia) μ,id]
   rw[List.map_id] at hc
   have e:qE (.lst ((r::rs).map λx=>T.int ((plc d x:Nat):Int)))=some (.int ((((r::rs).map (plc d)).sum:Nat):Int)):=by
    rw[u9,vW]
   have ho:=EE h1 (r::rs) μ
   rw[uj]
   unfold cD
   simp! only[jP,ho]
   rw[hc]
   ·rw[R.cw,R.aQ,if_pos (by simp[szL];lia)]
    rw[List.map_cons] at e
    simp! only[e]
    rw[Int.natCast_add]
   ·trivial
theorem EF{p:Int}:∀(d n:Nat) (t:T),IsR d t->d≤n->∀(μ:af),bo (n+1) [.val (.int p),.val t] μ=.ok (.val (.bl (crw p d t))) μ:=by
 intro d
 induction d with
 | zero =>
  rintro n t ⟨h,h0,h9,rfl⟩ hn μ
  show fnV 2 (c_ (bo n)) _ _=_
  rw[uq]
  unfold c_
  simp! only[gf]
 | succ d ih =>
  rintro n t ht hn μ
  obtain⟨m,rfl⟩:∃m,n=m+1:=⟨n-1,by lia⟩
  show fnV 2 (c_ (bo (m+1))) _ _=_
  rcases ht with ⟨h,h0,h9,rfl⟩|⟨k,r,rs,rfl,h1,h2,h3,h4⟩
  ·rw[uq]
   unfold c_
   simp! only[gf]
  ·have hc:=λ(same:af->Prop) (hs':same μ)=>cC (same:=same) (b:=av 0) (d:=ax (cal (bo (m+1))) [(aa 1),(aa 0)]) (e:=[none,some (.val (.int p))]) (μ:=μ) (id:T->T) (λx=>.bl (crw p d x)) hs' (r::rs) λx hx=>by
    refine⟨_,rfl,?_⟩
    simp! only[ih m x (h4 x hx) (by lia) μ,id]
   rw[List.map_id] at hc
   have e:uU (.lst ((r::rs).map λx=>T.bl (crw p d x)))=some (.bl ((r::rs).any (crw p d))):=CL (crw p d) (r::rs)
   have e3:dUn uU (aW (bD (ao (aa 1) (dC (.int 2)))) [none,some 0] (av 0) (dC (.bl true)) (ax (cal (bo (m+1))) [(aa 1),(aa 0)])) [some (.val (.int p)),some (.val (som k (r::rs)))] μ=.ok (.val (.bl ((r::rs).any (crw p d)))) μ:=by
    simp! only[]
    rw[hc]
    ·rw[R.cw,R.aQ,if_pos (by simp[szL];lia)]
     rw[List.map_cons] at e
     simp! only[e]
    ·trivial
   generalize hq:dUn uU (aW (bD (ao (aa 1) (dC (.int 2)))) [none,some 0] (av 0) (dC (.bl true)) (ax (cal (bo (m+1))) [(aa 1),(aa 0)]))=D at e3
   rw[zx]
   unfold c_
   rw[hq]
   generalize (r::rs).any (crw p d)=A at e3 ⊢
   have c1:decide (p≤((r::rs).length:Int))=decide (p≤((rs.length+1:Nat):Int)):=rfl
   rw[c1]
   by_cases c0:(1:Int)<k
   ·have c0':decide ((1:Int)<k)=true:=decide_eq_true c0
    rw[c0',Bool.true_and]
    cases c2:decide (p≤((rs.length+1:Nat):Int)) with
    | true =>
     simp! only[jP,c0',c2]
     rfl
    | false =>
     simp! only[jP,c0',c2,e3]
     rfl
   ·have c0':decide ((1:Int)<k)=false:=decide_eq_false c0
    rw[c0',Bool.false_and,Bool.false_or]
    simp! only[jP,c0',e3]
def Hm:DS:=(aq (aC 6 (ah bg (ah aG (aa 6) (aa 4)) (aa 0)))
 (cO 5 (aa 7) (aa 6)))
theorem Bx{p:Int}{w:Nat}{l:List Int}(hp:2≤p)(hp2:p<1000000)(hl:Rw p w l)(hw:w≤1000)(u m:Nat)(hu:u+m≤w)(nb:Int)(hn:-1000<nb/\nb<1000)(μ:af) :
  cY [.val (.int p),.val (li l),.val (.int u),.val (.int m),.val (.int nb)] μ=.ok (.val (li (fO p nb l u m))) μ:=by
 have rn:(bQ (u:Int) && bQ ((u:Int)+(m:Int)))=true:=by rw[bH (by lia) (by lia),bH (by lia) (by lia)];rfl
 obtain⟨e',μ',hf,x7,rfl,rfl⟩:=cx (same:=λ_=>True) (b:=av 7) (body:=Hm) (ts:=a_ (u:Int) ((u:Int)+(m:Int)-(u:Int)).toNat)
  (I:=λi e μ1=>∃x7,e=[some (.val (.int p)),some (.val (li l)),some (.val (.int u)),some (.val (.int m)),some (.val (.int nb)),some (.cel μ.length),some (.val (.int (pw p nb i))),x7]/\μ1=μ++[(true,li (fO p nb l u i))])
  (λ_ _ _ _=>trivial) (λi t e μ1 ht hI=>by
   obtain⟨x7,rfl,rfl⟩:=hI
   obtain⟨q,rfl,hq,hqi⟩:=jY ht
   have hl':=oQ hp hl nb u i
   obtain⟨h0,h1⟩:=Ky hp nb i
   have ll:=hl'.len
   have eq:q=((u+i:Nat):Int):=by lia
   subst eq
   have hm:aG (.int (pw p nb i)) (.int nb)=some (.int (pw p nb i*nb)):=gI _ _ (by lia) (by lia)
   have hmd:bg (.int (pw p nb i*nb)) (.int p)=some (.int (pw p nb (i+1))):=ei _ _ (by lia)
   have hs:setAt (.cel μ.length) (.int ((u+i:Nat):Int)) (.int (pw p nb (i+1))) (μ++[(true,li (fO p nb l u i))])=some (μ++[(true,li (fO p nb l u (i+1)))]):=by
    rw[ml (ts:=(fO p nb l u i).map T.int) (by simp) (by lia) (by rw[List.length_map];lia),iG,Int.toNat_natCast]
    show _=some (μ++[(true,T.lst (((fO p nb l u i).set (u+i) (pw p nb (i+1))).map T.int))])
    rw[List.map_set]
   refine⟨_,_,μ++[(true,li (fO p nb l u (i+1)))],rfl,?_,some (.val (.int ((u+i:Nat):Int))),rfl,rfl⟩
   unfold Hm
   dsimp! only[hm,hmd,hs])
  (e:=[some (.val (.int p)),some (.val (li l)),some (.val (.int u)),some (.val (.int m)),some (.val (.int nb)),some (.cel μ.length),some (.val (.int 1)),none]) (μ:=μ++[(true,li l)]) ⟨none,rfl,rfl⟩
 rw[bA,show((u:Int)+(m:Int)-(u:Int)).toNat=m by lia] at hf
 unfold cY
 rw[cI,show kH=aq (aC 5 (bG (dUn yG (aa 1)))) (aq (aC 6 (dC (.int 1))) (aq (bE (oB (aa 2) (ah bx (aa 2) (aa 3))) (av 7) Hm) (aH (aa 5)))) from rfl]
 have hf2:forL (λ_=>True) (av 7) Hm (a_ (u:Int) ((u:Int)+(m:Int)-(u:Int)).toNat) [some (.val (.int p)),some (.val (li l)),some (.val (.int u)),some (.val (.int m)),some (.val (.int nb)),some (.cel μ.length),some (.val (.int 1)),none] (μ++[(true,li l)])=RS.nx [some (.val (.int p)),some (.val (li l)),some (.val (.int u)),some (.val (.int m)),some (.val (.int nb)),some (.cel μ.length),some (.val (.int (pw p nb m))),x7] (μ++[(true,li (fO p nb l u m))]):=by
  rw[show((u:Int)+(m:Int)-(u:Int)).toNat=m by lia];exact hf
 dsimp! only[rn,hf2,yM]
def zF(F:FN):DS:=(aq (cV (aa 5) (ax (cal F) [(aa 0),(aa 8),(ax (cal cY) [(aa 0),(aa 2),(aa 3),(aa 4),(aa 7)]),(aa 6)]))
 (aC 6 (ah bx (aa 6) (ax (cal (ba 8)) [(aa 8)]))))
theorem sj{F:FN}{p:Int}{w d:Nat}(hp:2≤p)(hp2:p<1000)(hw:w≤1000)(hd:d≤7){L:List Int}(hL:Rw p w L){u m:Nat}(hu:u+m≤w) :
  ∀(xs:List T) (i v:Nat),(∀x∈xs,IsR d x/\∀(L:List Int) (v:Nat) (μ:af),Rw p w L->v+plc d x≤w->F [.val (.int p),.val x,.val (li L),.val (.int v)] μ=.ok (.val (.lst ((mk p d x L v).map rt))) μ)->i+xs.length≤10->v+(xs.map (plc d)).sum≤w ->
  ∀(μ:af) (acc:Rows) (x1 x7 x8:Option SV),acc.length+(xs.map (rcn d)).sum≤1000->∃(x6 y7 y8:Option SV),forL (λ_=>True) (cT [7,8]) (zF F) (dw ((i+1:Nat):Int) xs) [some (.val (.int p)),x1,some (.val (li L)),some (.val (.int u)),some (.val (.int m)),some (.cel μ.length),some (.val (.int v)),x7,x8] (μ++[(true,.lst (acc.map rt))]) =
   .nx [some (.val (.int p)),x1,some (.val (li L)),some (.val (.int u)),some (.val (.int m)),some (.cel μ.length),x6,y7,y8] (μ++[(true,.lst ((acc++mkL (mk p d) (plc d) p L u m xs i v).map rt))])
 | [],i,v,_,_,_=>λμ acc x1 x7 x8 _=>⟨some (.val (.int v)),x7,x8,by simp[dw,forL,mkL]⟩
 | x::xs,i,v,hx,hi,hv=>by
  intro μ acc x1 x7 x8 hc
  rw[List.map_cons,List.sum_cons] at hv hc
  rw[List.length_cons] at hi
  obtain⟨hxr,hxj⟩:=hx x List.mem_cons_self
  have e1:=Bx hp (by lia) hL hw u m hu ((i:Int)+1) (by lia) (μ++[(true,.lst (acc.map rt))])
  have e2:=hxj (fO p ((i:Int)+1) L u m) v (μ++[(true,.lst (acc.map rt))]) (oQ hp hL _ u m) (by lia)
  have hlen:=EC (p:=p) d x hxr (fO p ((i:Int)+1) L u m) v
  rw[mkL,← List.append_assoc]
  generalize mk p d x (fO p ((i:Int)+1) L u m) v=vX at e2 hlen ⊢
  have e3:=si d 7 x hxr (by lia) (μ++[(true,.lst ((acc++vX).map rt))])
  have hex:bW (.cel μ.length) (.lst (vX.map rt)) (μ++[(true,.lst (acc.map rt))])=some (μ++[(true,.lst ((acc++vX).map rt))]):=by
   rw[yc _ _ _ (by simp[szL];lia),List.map_append]
  have hb:zF F [some (.val (.int p)),x1,some (.val (li L)),some (.val (.int u)),some (.val (.int m)),some (.cel μ.length),some (.val (.int v)),some (.val (.int ((i:Int)+1))),some (.val x)] (μ++[(true,.lst (acc.map rt))]) =
    .nx [some (.val (.int p)),x1,some (.val (li L)),some (.val (.int u)),some (.val (.int m)),some (.cel μ.length),some (.val (.int ((v:Int)+(plc d x:Nat)))),some (.val (.int ((i:Int)+1))),some (.val x)] (μ++[(true,.lst ((acc++vX).map rt))]):=by
   unfold zF
   dsimp! only[iH,gq,e1,e2,hex,e3]
  obtain⟨x6,y7,y8,g3⟩:=sj hp hp2 hw hd hL hu xs (i+1) (v+plc d x) (λy hy=>hx y (List.mem_cons_of_mem _ hy)) (by lia) (by lia) μ (acc++vX) x1 (some (.val (.int ((i:Int)+1)))) (some (.val x)) (by rw[List.length_append];lia)
  refine⟨x6,y7,y8,?_⟩
  rw[dw,forL,if_pos trivial]
  rw[show(((i+1:Nat):Nat):Int)=(i:Int)+1 by lia]
  simp only[dZ,List.set_cons_succ,List.set_cons_zero,hb]
  rw[show(((i+1+1:Nat):Nat):Int)=(i:Int)+1+1 by lia,show((v+plc d x:Nat):Int)=(v:Int)+(plc d x:Nat) by lia] at g3
  rw[g3]
theorem zG{d:Nat}{x:T}:∀{l:List T},x∈l->rcn d x≤(l.map (rcn d)).sum
 | y::l,h=>by
  rw[List.map_cons,List.sum_cons]
  rcases List.mem_cons.mp h with z|z
  ·rw[z];lia
  ·have:=zG (d:=d) z
   lia
theorem Hn{p:Int}{w:Nat}(hp:2≤p)(hp2:p<1000)(hw:w≤1000):∀(d n:Nat) (t:T),IsR d t->d≤n->d≤8->rcn d t≤1000->∀(L:List Int) (v:Nat) (μ:af),Rw p w L->v+plc d t≤w->bq (n+1) [.val (.int p),.val t,.val (li L),.val (.int v)] μ=.ok (.val (.lst ((mk p d t L v).map rt))) μ:=by
 intro d
 induction d with
 | zero =>
  rintro n t ⟨h,h0,h9,rfl⟩ _ _ _ L v μ _ _
  show fnV 9 (d_ (bq n)) _ _=_
  rw[lY]
  unfold d_
  simp! only[gf,rt]
 | succ d ih =>
  rintro n t ht hn hd hc L v μ hL hv
  obtain⟨n,rfl⟩:∃m,n=m+1:=⟨n-1,by lia⟩
  show fnV 9 (d_ (bq (n+1))) _ _=_
  rcases ht with ⟨h,h0,h9,rfl⟩|⟨k,r,rs,rfl,h1,h2,h3,h4⟩
  ·rw[lY]
   unfold d_
   simp! only[gf,rt]
  ·rw[uj] at hv
   rw[uo] at hc
   rw[ur]
   obtain⟨m,rfl⟩:∃m:Nat,k=(m:Int)+1:=⟨(k-1).toNat,by lia⟩
   rw[show((m:Int)+1).toNat-1=m by lia] at hv ⊢
   have ho:=EE h1 (r::rs) μ
   rw[show((m:Int)+1).toNat-1=m by lia] at ho
   obtain⟨x6,y7,y8,g3⟩:=sj (F:=bq (n+1)) (d:=d) hp hp2 hw (by lia) hL (u:=v) (m:=m) (by lia) (r::rs) 0 (v+m) (λx hx=>⟨h4 x hx,λL v μ hL hv=>ih n x (h4 x hx) (by lia) (by lia) (by have:=zG (d:=d) hx;lia) L v μ hL hv⟩) (by simp;lia) (by lia) μ [] (some (.val (som ((m:Int)+1) (r::rs)))) none none (by simpa using hc)
   rw[show(((0+1:Nat):Nat):Int)=1 from rfl,Int.natCast_add,List.nil_append,List.map_nil] at g3
   rw[show d_ (bq (n+1))=(aq (sIf (ax (cal bM) [(aa 1)]) (aH (eK [(ee [(ao (aa 1) (dC (.int 1))),(dUn cH (aa 2))])])) bB)
     (aq (aC 4 (ax (cal cQ) [(aa 1)]))
     (aq (aC 5 (bG (eK [])))
     (aq (aC 6 (ah bx (aa 3) (aa 4)))
     (aq (bE (tR (ao (aa 1) (dC (.int 2)))) (cT [7,8]) (zF (bq (n+1))))
     (aH (aa 5))))))) from rfl]
   simp! only[jP,ho,AR,pT,g3,yM]
theorem Ho{p:Int}(hp:2≤p)(hp2:p<1000){d:Nat}{t:T}(ht:IsR d t)(hd:d≤5)(hq:rcn d t≤24)(h:plc d t≤11)(hc:crw p d t=false)(μ:af) :
  fw [.val (.int p),.val t] μ=.ok (.val (tb p (1+plc d t:Nat) (tbl p d t))) μ:=by
 have e1:ba 8 [.val t] μ=.ok (.val (.int ((plc d t:Nat):Int))) μ:=si d 7 t ht (by lia) μ
 have e2:bo 8 [.val (.int p),.val t] μ=.ok (.val (.bl (crw p d t))) μ:=EF d 7 t ht (by lia) μ
 rw[hc] at e2
 have e3:bq 8 [.val (.int p),.val t,.val (li (l0 (plc d t))),.val (.int 1)] μ=.ok (.val (.lst ((tbl p d t).map rt))) μ:=Hn (w:=1+plc d t) hp hp2 (by lia) d 7 t ht (by lia) (by lia) (by lia) (l0 (plc d t)) 1 μ (H_ hp _) (Nat.le_refl _)
 generalize tbl p d t=rows at *
 generalize plc d t=q at *
 have c1:decide ((12:Int)<1+(q:Int))=false:=decide_eq_false (by lia)
 have e4:jh (.lst [.int 0]) (.int (1+(q:Int)-1))=some (li (List.replicate q 0)):=by
  rw[show(1+(q:Int)-1)=(q:Int) by lia]
  exact rep0 q (by lia)
 have e5:bx (.lst [.int 1]) (li (List.replicate q 0))=some (li (1::List.replicate q 0)):=by
  rw[o5 _ _ (by simp[szL];lia)];simp
 have e3:bq 8 [.val (.int p),.val t,.val (li (1::List.replicate q 0)),.val (.int 1)] μ=.ok (.val (.lst (rows.map rt))) μ:=e3
 unfold fw
 rw[cI,vy,p6]
 unfold jB
 simp?! only[e1]
 rw[p7]
 unfold jC
 simp?! only[c1]
 rw[p8]
 unfold jD
 simp?! only[e2]
 rw[p9]
 unfold jE
 generalize li (1::List.replicate q 0)=L at e3 e5
 generalize li (List.replicate q 0)=L0 at e4 e5
 unfold tb
 generalize jh=fr at e4 ⊢
 simp?! only[yB,e4,e5,e3,Int.natCast_add,Int.natCast_one]
end Fw.k63
namespace Fw.k63
open PySem Fw Fw.H Fw.E Fw.F Fw.J Fw.U Fw.Rl
def ln(p:Int)(m:Nat)(a:Int):List Int:=fO p a (l0 m) 1 m
def bS(p:Int)(m:Nat):List Int->Nat->Rows
 | [],_=>[]
 | h::hs,i=>(h,ln p m ((i:Int)+1))::bS p m hs (i+1)
theorem EG(p:Int)(m:Nat):∀(hs:List Int) (i v:Nat),mkL (mk p 0) (plc 0) p (l0 m) 1 m (hs.map hnd) i v=bS p m hs i
 | [],_,_=>rfl
 | h::hs,i,v=>by
  rw[List.map_cons,mkL,lY,EG p m hs (i+1),bS]
  rfl
theorem vY(k:Int)(hs:List Int):plc 1 (som k (hs.map hnd))=k.toNat-1:=by
 rw[uj]
 have:((hs.map hnd).map (plc 0)).sum=0:=by
  induction hs with
  | nil=>rfl
  | cons h hs ih=>rw[List.map_cons,List.map_cons,List.sum_cons,ih,ui]
 rw[this];rfl
theorem EH(k:Int)(hs:List Int):rcn 1 (som k (hs.map hnd))=hs.length:=by
 rw[uo]
 induction hs with
 | nil=>rfl
 | cons h hs ih=>rw[List.map_cons,List.map_cons,List.sum_cons,ih,uk,List.length_cons,Nat.add_comm]
theorem EI{p:Int}(k:Int){hs:List Int}(h:(hs.length:Int)<p):crw p 1 (som k (hs.map hnd))=false:=by
 rw[zx,Bool.or_eq_false_iff]
 refine⟨?_,?_⟩
 ·rw[decide_eq_false (show ¬ p≤((hs.map hnd).length:Int) by rw[List.length_map];lia),Bool.and_false]
 ·rw[List.any_eq_false]
  intro x hx
  obtain⟨a,_,rfl⟩:=List.mem_map.mp hx
  rw[uq]
  exact Bool.false_ne_true
theorem EJ{k:Int}{hs:List Int}(h0:0<hs.length)(h9:hs.length≤10)(hk:1≤k/\k≤hs.length)(hh:∀h∈hs,0≤h/\h<10):IsR 1 (som k (hs.map hnd)):=by
 cases hs with
 | nil=>simp at h0
 | cons a hs =>
  rw[List.length_cons] at h9 hk
  refine .inr ⟨k,hnd a,hs.map hnd,rfl,hk.1,by rw[List.length_map];lia,by rw[List.length_map];lia,λx hx=>?_⟩
  rw[← List.map_cons (f:=hnd)] at hx
  obtain⟨b,hb,rfl⟩:=List.mem_map.mp hx
  exact⟨b,(hh b hb).1,(hh b hb).2,rfl⟩
theorem EK(p k:Int)(hs:List Int):tbl p 1 (som k (hs.map hnd))=bS p (k.toNat-1) hs 0:=by
 show mk p 1 (som k (hs.map hnd)) (l0 (plc 1 (som k (hs.map hnd)))) 1=_
 rw[vY,ur,EG]
theorem kh(p:Int)(m:Nat):∀(hs:List Int) (i:Nat),(bS p m hs i).length=hs.length
 | [],_=>rfl
 | h::hs,i=>by rw[bS,List.length_cons,kh p m hs (i+1),List.length_cons]
theorem jQ(p:Int)(m:Nat):∀(hs:List Int) (i j:Nat),j<hs.length->aB (bS p m hs i) j=(hs.getD j 0,ln p m (((i+j:Nat):Int)+1))
 | [],_,_,h=>absurd h (by simp)
 | h::hs,i,0,_=>rfl
 | h::hs,i,j+1,hj=>by
  have:=jQ p m hs (i+1) j (by simpa using hj)
  unfold aB at this ⊢
  rw[bS,List.getD_cons_succ,this,List.getD_cons_succ,show i+1+j=i+(j+1) by lia]
theorem uv(p:Int)(m:Nat)(a:Int):(ln p m a).length=m+1:=by
 unfold ln
 rw[qv,List.length_cons,List.length_replicate]
theorem KC(c:List Int)(m:Nat)(h:c.length=m+1):g c 0::(List.range m).map (λi=>g c (1+i))=c:=by
 cases c with
 | nil=>simp at h
 | cons x c =>
  have h:c.length=m:=by simpa using h
  subst h
  show x::_=_
  congr 1
  apply List.ext_getElem (by simp)
  intro i h1 h2
  rw[List.getElem_map,List.getElem_range,Nat.add_comm]
  show(x::c).getD (i+1) 0=_
  rw[List.getD_cons_succ,List.getD_eq_getElem?_getD,List.getElem?_eq_getElem h2];rfl
theorem EL{p:Int}{m:Nat}(a:Int){c:List Int}(hc:c.length=m+1):p ∣ dot (ln p m a) c-pol a c:=by
 have h:=EB (p:=p) (nb:=a) (Kz m) (g c) m (by rw[List.length_cons,List.length_replicate];lia)
 rw[M1,KC c m hc] at h
 rw[Ez _ _ (by rw[uv,hc])]
 exact h
theorem sk{p a:Int}{α:Type}(F G:α->Int):∀cs:List α,(∀c∈cs,p ∣ F c-G c)->p ∣ pol a (cs.map F)-pol a (cs.map G)
 | [],_=>⟨0,by simp[pol]⟩
 | c::cs,h=>by
  obtain⟨x,hx⟩:=sk (a:=a) F G cs λc hc=>h c (List.mem_cons_of_mem _ hc)
  obtain⟨y,hy⟩:=h c List.mem_cons_self
  exact⟨y+a*x,by rw[List.map_cons,List.map_cons,pol,pol];grind⟩
theorem vZ(s:List Int):∀(f:List Int) (cs:List (List Int)),f.length=cs.length->(∀c∈cs,c.length=s.length)->dot (aX f s) cs.flatten=dot f (cs.map λc=>dot s c)
 | [],[],_,_=>by simp[aX]
 | [],c::cs,h,_=>by simp at h
 | x::f,[],h,_=>by simp at h
 | x::f,c::cs,h,hc=>by
  have ih:=vZ s f cs (by simpa using h) λc hm=>hc c (List.mem_cons_of_mem _ hm)
  show dot ((s.map λy=>x*y)++aX f s) (c++cs.flatten)=_
  rw[lT _ _ _ _ (by rw[List.length_map,hc c List.mem_cons_self]),ih,nB,List.map_cons,bf]
theorem sm{p:Int}{m:Nat}(a:Int){cs:List (List Int)}(hl:cs.length=m+1)(hc:∀c∈cs,c.length=m+1):p ∣ dot (aX (ln p m a) (ln p m a)) cs.flatten-pol a (cs.map (pol a)):=by
 rw[vZ _ _ _ (by rw[uv,hl]) (λc h=>by rw[uv,hc c h])]
 obtain⟨x,hx⟩:=EL (p:=p) (m:=m) a (c:=cs.map λc=>dot (ln p m a) c) (by rw[List.length_map,hl])
 obtain⟨y,hy⟩:=sk (p:=p) (a:=a) (λc=>dot (ln p m a) c) (pol a) cs λc h=>EL a (hc c h)
 exact⟨x+y,by grind⟩
def qw:List Int->List Int->List Int
 | [],ys=>ys
 | x::xs,[]=>x::xs
 | x::xs,y::ys=>(x+y)::qw xs ys
theorem v7(a:Int):∀xs ys,pol a (qw xs ys)=pol a xs+pol a ys
 | [],ys=>by simp[qw,pol]
 | x::xs,[]=>by simp[qw,pol]
 | x::xs,y::ys=>by
  rw[qw,pol,v7 a xs ys,pol,pol];grind
theorem v8:∀xs ys:List Int,(qw xs ys).length=max xs.length ys.length
 | [],ys=>by simp[qw]
 | x::xs,[]=>by simp[qw]
 | x::xs,y::ys=>by rw[qw,List.length_cons,v8 xs ys,List.length_cons,List.length_cons];lia
def qU:List (List Int)->List Int
 | []=>[]
 | c::cs=>qw c (0::qU cs)
theorem v9(a:Int):∀cs,pol a (qU cs)=pol a (cs.map (pol a))
 | []=>rfl
 | c::cs=>by rw[qU,v7,pol,v9 a cs,List.map_cons,pol];grind
theorem v_{k:Nat}(hk:0<k):∀cs:List (List Int),(∀c∈cs,c.length=k)->(qU cs).length≤cs.length+k-1
 | [],_=>by simp[qU]
 | c::cs,h=>by
  have:=v_ hk cs λc hc=>h c (List.mem_cons_of_mem _ hc)
  rw[qU,v8,h c List.mem_cons_self,List.length_cons,List.length_cons]
  lia
theorem By(x:Int)(c:List Int)(cs:List (List Int)):x∈qU ((x::c)::cs):=by
 rw[qU,qw,Int.add_zero]
 exact List.mem_cons_self
theorem split(k:Nat):∀(n:Nat) (tv:List Int),tv.length=n*k->∃cs:List (List Int),cs.length=n/\(∀c∈cs,c.length=k)/\tv=cs.flatten
 | 0,tv,h=>⟨[],rfl,by simp,by simpa using h⟩
 | n+1,tv,h=>by
  rw[Nat.succ_mul] at h
  obtain⟨cs,h1,h2,h3⟩:=split k n (tv.drop k) (by rw[List.length_drop];lia)
  refine⟨tv.take k::cs,by rw[List.length_cons,h1],λc hc=>?_,by rw[List.flatten_cons,← h3,List.take_append_drop]⟩
  rcases List.mem_cons.mp hc with rfl|hc
  ·rw[List.length_take];lia
  ·exact h2 c hc
theorem Hq{p:Int}(hP:hU p){m:Nat}{tv:List Int}(hv:tv.length=(m+1)*(m+1)){Is:List Int}(hd:Is.Nodup)(hi:∀a∈Is,0≤a/\a<p)(hl:2*m+1≤Is.length)(hz:∀a∈Is,p ∣ dot (aX (ln p m a) (ln p m a)) tv)(h1:p ∣ g tv 0-1):False:=by
 have hb:=hP.pos
 obtain⟨cs,c1,c2,rfl⟩:=split (m+1) (m+1) tv hv
 have N6:∀a∈Is,p ∣ pol a (qU cs):=λa ha=>by
  obtain⟨x,hx⟩:=sm (p:=p) a c1 c2
  obtain⟨y,hy⟩:=hz a ha
  exact⟨y-x,by rw[v9];grind⟩
 cases cs with
 | nil=>simp at c1
 | cons c cs =>
  cases c with
  | nil=>have:=c2 [] List.mem_cons_self;simp at this
  | cons x c =>
   have hlen:=v_ (Nat.succ_pos m) _ c2
   have:=vV hP _ (qU ((x::c)::cs)) Is rfl (by rw[c1] at hlen;lia) hd hi N6 x (By x c cs)
   obtain⟨u,hu⟩:=this
   obtain⟨v,hv⟩:=h1
   have hv:x-1=p*v:=hv
   have h3:p*(u-v)=1:=by grind
   have:u-v=0∨u-v≤-1∨1≤u-v:=by lia
   rcases this with z|z|z
   ·rw[z] at h3;simp at h3
   ·have:p*(u-v)≤p*(-1):=Int.mul_le_mul_of_nonneg_left z (by lia)
    lia
   ·have:p*1≤p*(u-v):=Int.mul_le_mul_of_nonneg_left z (by lia)
    lia
theorem lZ(a:Int)(ys:List Int):∀xs:List Int,pol a (xs++ys)=pol a xs+a ^ xs.length*pol a ys
 | []=>by simp[pol]
 | x::xs=>by
  rw[List.cons_append,pol,lZ a ys xs,pol,List.length_cons,Int.pow_succ];grind
theorem Hr(a e:Int)(n:Nat):pol a (List.replicate n 0++[e])=a ^ n*e:=by
 rw[lZ,zE,List.length_replicate]
 simp[pol]
theorem Bz{p:Int}(hP:hU p){m:Nat}{Is:List Int}(hi:∀a∈Is,0<a/\a<p)(hl:Is.length≤2*m):∃tv:List Int,tv.length=(m+1)*(m+1)/\g tv 0=1/\∀a∈Is,p ∣ dot (aX (ln p m a) (ln p m a)) tv:=by
 obtain⟨ds,d1,d2⟩:=roots hP 1 Is hi
 have hD:((1::ds)++List.replicate (2*m-Is.length) 0).length=2*m+1:=by
  rw[List.length_append,List.length_cons,d1,List.length_replicate];lia
 have hg:∃E,((1::ds)++List.replicate (2*m-Is.length) 0)=1::E:=⟨_,List.cons_append ..⟩
 have hpl:∀a,pol a ((1::ds)++List.replicate (2*m-Is.length) 0)=1+a*pol a ds:=λa=>by rw[zD,pol]
 generalize ((1::ds)++List.replicate (2*m-Is.length) 0)=D at *
 obtain⟨E,rfl⟩:=hg
 have c1:((1::E.take m)::(E.drop m).map λe=>List.replicate m 0++[e]).length=m+1:=by
  rw[List.length_cons] at hD
  rw[List.length_cons,List.length_map,List.length_drop];lia
 have c2:∀c∈((1::E.take m)::(E.drop m).map λe=>List.replicate m 0++[e]),c.length=m+1:=λc hc=>by
  rw[List.length_cons] at hD
  rcases List.mem_cons.mp hc with rfl|hc
  ·rw[List.length_cons,List.length_take];lia
  ·obtain⟨e,_,rfl⟩:=List.mem_map.mp hc
   simp
 refine⟨((1::E.take m)::(E.drop m).map λe=>List.replicate m 0++[e]).flatten,?_,rfl,λa ha=>?_⟩
 ·rw[List.length_flatten]
  have:∀(cs:List (List Int)),(∀c∈cs,c.length=m+1)->(cs.map List.length).sum=cs.length*(m+1):=by
   intro cs
   induction cs with
   | nil=>intro _;simp
   | cons c cs ih =>
    intro h
    rw[List.map_cons,List.sum_cons,ih λc hc=>h c (List.mem_cons_of_mem _ hc),h c List.mem_cons_self,List.length_cons,Nat.succ_mul,Nat.add_comm]
  rw[this _ c2,c1]
 ·obtain⟨x,hx⟩:=sm (p:=p) a c1 c2
  obtain⟨y,hy⟩:=d2 a ha
  have e1:((E.drop m).map λe=>List.replicate m 0++[e]).map (pol a)=(E.drop m).map λe=>a ^ m*e:=by
   rw[List.map_map]
   apply List.map_congr_left
   intro e _
   exact Hr a e m
  have e2:=hpl a
  have e3:pol a (1::E)=pol a (1::E.take m)+a ^ (m+1)*pol a (E.drop m):=by
   have h:=lZ a (E.drop m) (1::E.take m)
   rw[List.cons_append,List.take_append_drop] at h
   have:(1::E.take m).length=m+1:=c2 _ List.mem_cons_self
   rw[this] at h
   exact h
  rw[List.map_cons,e1,pol,uu] at hx
  rw[Int.pow_succ] at e3
  exact⟨x+y,by grind⟩
theorem yd{is:List Nat}(hd:is.Nodup){i:Nat}(hi:i∈is){P:Nat->Bool}(h:∀j∈is,P j=true↔j=i):is.filter P=[i]:=by
 refine List.perm_singleton.mp ((List.perm_ext_iff_of_nodup (hd.filter _) (by simp)).mpr λj=>?_)
 rw[List.mem_filter,List.mem_singleton]
 constructor
 ·rintro⟨a,b⟩
  exact(h j a).mp b
 ·rintro rfl
  exact⟨hi,(h j hi).mpr rfl⟩
theorem jm{l:List Int}(hd:l.Nodup){i j:Nat}(hi:i<l.length)(hj:j<l.length)(e:l.getD i 0=l.getD j 0):i=j:=by
 rw[List.getD_eq_getElem?_getD,List.getD_eq_getElem?_getD,List.getElem?_eq_getElem hi,List.getElem?_eq_getElem hj] at e
 exact(List.getElem_inj hd).mp e
section
variable{p:Int}{m:Nat}{ch hs:List Int}
abbrev fW(p:Int)(m:Nat)(ch hs:List Int):List Nat:=rowsOf (bS p m ch 0) hs
theorem is_lt{i:Nat}(h:i∈fW p m ch hs):i<ch.length:=by
 have:=kb i h
 rw[kh] at this
 exact this
theorem wa:(fW p m ch hs).Nodup:=List.nodup_range.filter _
theorem wb(hd:ch.Nodup):prs (bS p m ch 0) (fW p m ch hs) (fW p m ch hs)=(fW p m ch hs).map λi=>(i,i):=by
 unfold prs
 have:∀ks:List Nat,(∀i∈ks,i∈fW p m ch hs)->(ks.flatMap λi=>((fW p m ch hs).filter λj=>(aB (bS p m ch 0) j).1==(aB (bS p m ch 0) i).1).map λj=>(i,j))=ks.map λi=>(i,i):=by
  intro ks
  induction ks with
  | nil=>intro _;rfl
  | cons k ks ih =>
   intro h
   have hk:=h k List.mem_cons_self
   rw[List.flatMap_cons,ih λi hi=>h i (List.mem_cons_of_mem _ hi),yd wa hk (λj hj=>?_)]
   ·rfl
   ·rw[jQ p m ch 0 j (is_lt hj),jQ p m ch 0 k (is_lt hk),beq_iff_eq]
    constructor
    ·intro e
     exact jm hd (is_lt hj) (is_lt hk) e
    ·rintro rfl
     rfl
 exact this _ λi hi=>hi
theorem zH{p:Int}:∀(ms l:List Int),(∀x∈l,p ∣ x)->p ∣ dot ms l
 | [],l,_=>⟨0,by simp⟩
 | m::ms,[],_=>⟨0,by simp⟩
 | m::ms,x::l,h=>by
  obtain⟨a,ha⟩:=zH ms l λy hy=>h y (List.mem_cons_of_mem _ hy)
  obtain⟨b,hb⟩:=h x List.mem_cons_self
  exact⟨m*b+a,by rw[bf];grind⟩
theorem EM(hP:hU p)(hd:ch.Nodup)(hl:(ch.length:Int)<p){b:Bool}
  (h1:b=true->∃ms,Comes p (m+1) (bS p m ch 0) (prs (bS p m ch 0) (fW p m ch hs) (fW p m ch hs)) ms)
  (h2:b=false->∃tv,Rw p ((m+1)*(m+1)) tv/\(∀q∈prs (bS p m ch 0) (fW p m ch hs) (fW p m ch hs),p ∣ dot (mdl p (aX (aB (bS p m ch 0) q.1).2 (aB (bS p m ch 0) q.2).2)) tv)/\p ∣ dot (eu ((m+1)*(m+1)) 0) tv-1):b=decide (2*m+1≤(fW p m ch hs).length):=by
 have hb:=hP.pos
 rw[wb hd] at h1 h2
 have h0:0<(m+1)*(m+1):=Nat.mul_pos (Nat.succ_pos _) (Nat.succ_pos _)
 have xV:∀i∈fW p m ch hs,(aB (bS p m ch 0) i).2=ln p m ((i:Int)+1):=λi hi=>by
  rw[jQ p m ch 0 i (is_lt hi),Nat.zero_add]
 have hIs:∀a∈(fW p m ch hs).map (λ(i:Nat)=>(i:Int)+1),0<a/\a<p:=λa ha=>by
  obtain⟨i,hi,rfl⟩:=List.mem_map.mp ha
  have:=is_lt hi
  lia
 have hId:((fW p m ch hs).map (λ(i:Nat)=>(i:Int)+1)).Nodup:=List.pairwise_map.mpr (List.Pairwise.imp (λ{a b:Nat} (q:a≠b) (e:(a:Int)+1=(b:Int)+1)=>q (by lia)) (show List.Pairwise (·≠·) (fW p m ch hs) from wa))
 have hIl:((fW p m ch hs).map (λ(i:Nat)=>(i:Int)+1)).length=(fW p m ch hs).length:=List.length_map ..
 cases b with
 | false =>
  obtain⟨tv,v1,v2,v3⟩:=h2 rfl
  rw[lU _ _ _ h0] at v3
  refine(decide_eq_false λc=>?_).symm
  refine Hq hP v1.len hId (λa ha=>⟨Int.le_of_lt (hIs a ha).1,(hIs a ha).2⟩) (by rw[hIl];exact c) (λa ha=>?_) v3
  obtain⟨i,hi,rfl⟩:=List.mem_map.mp ha
  obtain⟨x,hx⟩:=v2 (i,i) (List.mem_map_of_mem hi)
  rw[xV i hi] at hx
  obtain⟨y,hy⟩:=ug p (aX (ln p m ((i:Int)+1)) (ln p m ((i:Int)+1))) tv
  exact⟨x-y,by grind⟩
 | true =>
  obtain⟨ms,C⟩:=h1 rfl
  refine(decide_eq_true ?_).symm
  rcases Nat.lt_or_ge (2*m) (fW p m ch hs).length with c|c
  ·exact c
  ·exfalso
   obtain⟨tv,t1,t2,t3⟩:=Bz hP hIs (m:=m) (by rw[hIl];exact c)
   obtain⟨x,hx⟩:=C.at (λq hq=>by
    obtain⟨i,hi,rfl⟩:=List.mem_map.mp hq
    rw[xV i hi,uv]
    exact⟨rfl,rfl⟩) tv
   rw[lU _ _ _ h0,t2] at hx
   obtain⟨y,hy⟩:=zH (p:=p) ms (((fW p m ch hs).map λi=>(i,i)).map λq=>dot (aX (aB (bS p m ch 0) q.1).2 (aB (bS p m ch 0) q.2).2) tv) (λz hz=>by
    obtain⟨q,hq,rfl⟩:=List.mem_map.mp hz
    obtain⟨i,hi,rfl⟩:=List.mem_map.mp hq
    rw[xV i hi]
    exact t3 _ (List.mem_map_of_mem hi))
   have h3:p*(y-x)=1:=by grind
   have:y-x=0∨y-x≤-1∨1≤y-x:=by lia
   rcases this with z|z|z
   ·rw[z] at h3;simp at h3
   ·have:p*(y-x)≤p*(-1):=Int.mul_le_mul_of_nonneg_left z (by lia)
    lia
   ·have:p*1≤p*(y-x):=Int.mul_le_mul_of_nonneg_left z (by lia)
    lia
theorem ye:∀(ch:List Int),(List.range ch.length).map (λi=>ch.getD i 0)=ch:=λch=>by
 apply List.ext_getElem (by simp)
 intro i h1 h2
 rw[List.getElem_map,List.getElem_range,List.getD_eq_getElem?_getD,List.getElem?_eq_getElem h2];rfl
theorem KD:(fW p m ch hs).length=(ch.filter λh=>decide (h∈hs)).length:=by
 have e:fW p m ch hs=(List.range ch.length).filter λi=>decide (ch.getD i 0∈hs):=by
  show(List.range (bS p m ch 0).length).filter (λi=>decide ((aB (bS p m ch 0) i).1∈hs))=_
  rw[kh]
  apply List.filter_congr
  intro i hi
  rw[jQ p m ch 0 i (List.mem_range.mp hi)]
 have e2:ch.filter (λh=>decide (h∈hs))=((List.range ch.length).map λi=>ch.getD i 0).filter λh=>decide (h∈hs):=by rw[ye]
 rw[e,e2,List.filter_map,List.length_map]
 rfl
theorem Hs{l:List Int}(hd:ch.Nodup)(hl:l.Nodup)(hm:∀h∈ch,h∈hs↔h∈l)(hs':∀h∈l,h∈ch):(fW p m ch hs).length=l.length:=by
 rw[KD]
 refine List.Perm.length_eq ((List.perm_ext_iff_of_nodup (hd.filter _) hl).mpr λh=>?_)
 rw[List.mem_filter,decide_eq_true_eq]
 constructor
 ·rintro⟨a,b⟩
  exact(hm h a).mp b
 ·intro a
  exact⟨hs' h a,(hm h (hs' h a)).mpr a⟩
end
def ot:List Int->List Int->List Int×List Int
 | [],fr=>([],fr)
 | d::ds,fr=>(fr.getD (d%(fr.length:Int)).toNat 0::(ot ds (fr.eraseIdx (d%(fr.length:Int)).toNat)).1,(ot ds (fr.eraseIdx (d%(fr.length:Int)).toNat)).2)
theorem wc:∀(ds fr:List Int),(ot ds fr).1.length=ds.length
 | [],fr=>rfl
 | d::ds,fr=>by rw[ot,List.length_cons,wc ds,List.length_cons]
theorem qx:∀(l:List Int) (i:Nat),i<l.length->(l.getD i 0::l.eraseIdx i).Perm l
 | [],i,h=>absurd h (by simp)
 | x::l,0,_=>List.Perm.refl _
 | x::l,i+1,h=>by
  rw[List.getD_cons_succ,List.eraseIdx_cons_succ]
  exact(List.Perm.swap x (l.getD i 0) (l.eraseIdx i)).trans ((qx l i (by simpa using h)).cons x)
theorem su:∀(ds fr:List Int),ds.length≤fr.length->((ot ds fr).1++(ot ds fr).2).Perm fr
 | [],fr,_=>by simp[ot]
 | d::ds,fr,h=>by
  rw[List.length_cons] at h
  have h0:=Int.emod_nonneg d (show(fr.length:Int)≠0 by lia)
  have h1:=Int.emod_lt_of_pos d (show(0:Int)<fr.length by lia)
  rw[ot]
  have hi:(d%(fr.length:Int)).toNat<fr.length:=by lia
  generalize (d%(fr.length:Int)).toNat=i at *
  have ih:=su ds (fr.eraseIdx i) (by rw[List.length_eraseIdx,if_pos hi];lia)
  exact(ih.cons (fr.getD i 0)).trans (qx fr i hi)
theorem sx:∀(l:List Int) (i:Nat),(l.map T.int).eraseIdx i=(l.eraseIdx i).map T.int
 | [],i=>by simp
 | x::l,0=>rfl
 | x::l,i+1=>by rw[List.map_cons,List.eraseIdx_cons_succ,List.eraseIdx_cons_succ,sx l i,List.map_cons]
theorem Ia{μ:af}:∀(ds fr:List Int),ds.length≤fr.length->fr.length≤1000->bI (λ_=>True) (av 0) (dC (.bl true)) (tG (aa 1) (ah bg (aa 0) (cS (aa 1)))) [none,some (.cel μ.length)] (ds.map T.int) (μ++[(true,li fr)])=.ok ((ot ds fr).1.map T.int) (μ++[(true,li (ot ds fr).2)])
 | [],fr,_,_=>by
  unfold bI
  rw[List.map_nil]
  simp only
  rw[if_pos trivial];rfl
 | d::ds,fr,h,h2=>by
  rw[List.length_cons] at h
  have h0:=Int.emod_nonneg d (show(fr.length:Int)≠0 by lia)
  have h1:=Int.emod_lt_of_pos d (show(0:Int)<fr.length by lia)
  have hi:(d%(fr.length:Int)).toNat<fr.length:=by lia
  have ih:=Ia (μ:=μ) ds (fr.eraseIdx (d%(fr.length:Int)).toNat) (by rw[List.length_eraseIdx,if_pos hi];lia) (by rw[List.length_eraseIdx,if_pos hi];lia)
  have md:bg (.int d) (.int (fr.length:Int))=some (.int (d%(fr.length:Int))):=ei _ _ (by lia)
  have ls:iC (.cel μ.length) (μ++[(true,li fr)])=some ():=gq _ _ _ _
  have le:nT (μ++[(true,li fr)]) (.cel μ.length)=some (.int (fr.length:Int)):=by
   show(rd (μ++[(true,li fr)]) (.cel μ.length)).bind FI=_
   rw[hJ,eC]
   show some (T.int ((fr.map T.int).length:Int))=_
   rw[List.length_map]
  have pa:nK (.cel μ.length) (.val (.int (d%(fr.length:Int)))) (μ++[(true,li fr)])=.ok (.val (.int (fr.getD (d%(fr.length:Int)).toNat 0))) (μ++[(true,li (fr.eraseIdx (d%(fr.length:Int)).toNat))]):=by
   unfold nK
   simp only[eC]
   rw[if_pos ⟨h0,by lia⟩,List.getElem?_map,List.getElem?_eq_getElem hi]
   simp only[Option.map_some]
   rw[iG,List.getD_eq_getElem?_getD,List.getElem?_eq_getElem hi]
   show R.ok _ (μ++[(true,.lst ((fr.map T.int).eraseIdx _))])=R.ok _ (μ++[(true,.lst ((fr.eraseIdx _).map T.int))])
   rw[sx];rfl
  have ep:tG (aa 1) (ah bg (aa 0) (cS (aa 1))) [some (.val (.int d)),some (.cel μ.length)] (μ++[(true,li fr)])=.ok (.val (.int (fr.getD (d%(fr.length:Int)).toNat 0))) (μ++[(true,li (fr.eraseIdx (d%(fr.length:Int)).toNat))]):=by
   unfold tG
   simp?! only[ls,le,md,pa]
  rw[List.map_cons]
  unfold bI
  rw[if_pos trivial,ot]
  generalize tG (aa 1) (ah bg (aa 0) (cS (aa 1)))=DP at *
  simp?! only[ep,ih]
theorem mR(ns:List Int)(k:Int)(h0:0≤k)(h1:k≤1000):∃c,∀μ,aE [.val (.lst (ns.map T.int)),.val (.int k)] μ=.ok (.val (.int c)) μ:=J.lV ns k h0 h1
theorem KG(ns:List Int)(at_ base:Int)(n:Nat)(ha:0≤at_/\at_≤1000)(hm:0<base)(hm2:base<1000000)(hn:n≤1000)(μ:af) :
  ∃r,fe [.val (.lst (ns.map T.int)),.val (.int at_),.val (.int base),.val (.int n)] μ=.ok (.val (li r)) μ/\Rw base n r:=J.D6 ns at_ base n ha hm hm2 hn μ
theorem yf(l:List Int)(k:Nat):pK (li l) none (some (k:Int))=some (li (l.take k)):=by
 show some (T.lst (gi (l.map T.int) none (some (k:Int))))=_
 have e:gi (l.map T.int) none (some (k:Int))=(l.take k).map T.int:=by
  unfold gi sIx
  simp only
  rw[if_neg (by lia),Int.toNat_natCast,List.drop_zero,Nat.sub_zero,List.length_map,← List.map_take]
  congr 1
  rw[← List.take_take,List.take_length]
 rw[e]
theorem EN(l:List Int)(k:Nat):pK (li l) (some (k:Int)) none=some (li (l.drop k)):=by
 show some (T.lst (gi (l.map T.int) (some (k:Int)) none))=_
 have e:gi (l.map T.int) (some (k:Int)) none=(l.drop k).map T.int:=by
  unfold gi sIx
  simp only
  rw[if_neg (by lia),Int.toNat_natCast,List.length_map,← List.map_drop,← List.map_take]
  congr 1
  rcases Nat.le_total k l.length with c|c
  ·rw[Nat.min_eq_left c,List.take_of_length_le (by rw[List.length_drop];lia)]
  ·rw[Nat.min_eq_right c,List.drop_of_length_le c,List.drop_of_length_le (Nat.le_refl _),List.take_nil]
 rw[e]
theorem BA(l:List Int)(h:l.length<64):mx (li l)=some (li (nV l)):=by
 show(eO (l.map T.int)).bind (λns=>if ns.length<64 then some (T.lst ((nV ns).map T.int)) else none)=_
 rw[pd,Option.bind_some,if_pos h]
theorem EO(a b:List Int)(h:a.length+b.length≤1000):bx (li a) (li b)=some (li (a++b)):=by
 show(if (a.map T.int).length+(b.map T.int).length≤szL then some (T.lst (a.map T.int++b.map T.int)) else none)=_
 rw[if_pos (by rw[List.length_map,List.length_map];unfold szL;lia),← List.map_append]
def fj:List Int:=[2,3,5,7,11,13,97,53]
theorem KH:∀n∈List.range 10,3<(fj.filter λq=>decide (q > (n:Int))).length:=by decide +kernel
theorem KI:∀x∈fj,x∈([2,3,5,7,11,13,17,19,23,29,31,37,41,43,47,53,59,61,67,71,73,79,83,89,97]:List Int):=by decide +kernel
theorem M3{many:Nat}(hm:many≤9){ns:List Int}{c3:Int}(hc:∀μ,aE [.val (.lst (ns.map T.int)),.val (.int 3)] μ=.ok (.val (.int c3)) μ)(x2:Option SV)(tl:Slots)(μ:af):∃p:Int,hU p/\(many:Int)<p/\tZ (some (.val (.lst (ns.map T.int)))::some (.val (.int many))::x2::none::tl) μ=.nx (some (.val (.lst (ns.map T.int)))::some (.val (.int many))::x2::some (.val (.int p))::tl) μ:=by
 have h0:=Int.emod_nonneg c3 (show(3:Int)≠0 by lia)
 have h1:=Int.emod_lt_of_pos c3 (show(0:Int)<3 by lia)
 have hl:=KH many (List.mem_range.mpr (by lia))
 have ec:bI (λ_=>True) (av 0) (ah fGt (aa 0) (aa 1)) (aa 0) [none,some (.val (.int (many:Int)))] (fj.map T.int) μ=.ok ((fj.filter λq=>decide (q > (many:Int))).map T.int) μ:=by
  rw[pH (λq=>decide (q > (many:Int))) T.int trivial]
  intro q _
  refine⟨_,rfl,?_,λ_=>?_⟩
  ·simp?! only[]
  ·simp?! only[]
 have hq:∀x∈fj.filter (λq=>decide (q > (many:Int))),hU x/\(many:Int)<x:=λx hx=>by
  obtain⟨a,b⟩:=List.mem_filter.mp hx
  exact⟨KI x a,by simpa using b⟩
 have e:=mq (xs:=fj.filter λq=>decide (q > (many:Int))) (f:=T.int) (i:=c3%3) h0 (by lia)
 have ER:=hq _ (List.getElem_mem (show(c3%3).toNat<(fj.filter λq=>decide (q > (many:Int))).length by lia))
 generalize (fj.filter λq=>decide (q > (many:Int)))[(c3%3).toNat]'(by lia)=p at e ER
 refine⟨p,ER.1,ER.2,?_⟩
 generalize (fj.filter λq=>decide (q > (many:Int))).map T.int=L at ec e
 unfold fj at ec
 simp only[List.map_cons,List.map_nil] at ec
 have lz:8≤szL:=by unfold szL;lia
 have hc:=hc μ
 unfold tZ
 simp?! only[ec,hc,e,lz]
def zI:DS:=(aq (aC 9 (ah bx (dm (aa 5) (some (aa 7)) none) (dm (aa 5) none (some (aa 7)))))
 (aq (aC 10 (dUn mx (ah bx (dm (aa 9) none (some (aa 8))) (dm (aa 4) none (some (ah bg (ax (cal aE) [(aa 0),(dC (.int 6))]) (dC (.int 3))))))))
 (aq (aC 11 (ax (cal ck) [(aa 6),(aa 10)]))
 (aq (sIf (gh (ax (cal aZ) [(aa 6),(aa 10),(aa 11)])) (aH (dC (.bl false))) bB)
 (sIf (ah fNe (ah fEq (ao (aa 11) (dC (.int 0))) (dC (.str "open"))) (ah fGe (aa 8) (ah o7 (ah aG (dC (.int 2)) (aa 2)) (dC (.int 1))))) (aH (dC (.bl false))) bB)))))
theorem Ht:xC=bE (aK (ah bx (aa 1) (dC (.int 1)))) (av 8) zI:=rfl
theorem KJ(a b:Bool):fNe (.bl a) (.bl b)=some (.bl (!(a==b))):=by cases a<;>cases b<;>rfl
theorem ES{p:Int}{m:Nat}{ch fr ns:List Int}(hP:hU p)(hm:m≤2)(hd:(ch++fr).Nodup)(h9:ch.length≤9)(hf:fr.length≤10)(hl:(ch.length:Int)<p)(H:Tbl p (m+1) (bS p m ch 0)){c6:Int}(hc6:∀μ,aE [.val (.lst (ns.map T.int)),.val (.int 6)] μ=.ok (.val (.int c6)) μ)(turn size:Nat)(hs:size≤ch.length)(x1 x3 x9 x10 x11:Option SV) :
  ∃y9 y10 y11,zI [some (.val (.lst (ns.map T.int))),x1,some (.val (.int ((m:Int)+1))),x3,some (.cel 0),some (.val (li ch)),some (.val (tb p (m+1) (bS p m ch 0))),some (.val (.int (turn:Int))),some (.val (.int (size:Int))),x9,x10,x11] [(true,li fr)] =
   .nx [some (.val (.lst (ns.map T.int))),x1,some (.val (.int ((m:Int)+1))),x3,some (.cel 0),some (.val (li ch)),some (.val (tb p (m+1) (bS p m ch 0))),some (.val (.int (turn:Int))),some (.val (.int (size:Int))),y9,y10,y11] [(true,li fr)]:=by
 have h0:=Int.emod_nonneg c6 (show(3:Int)≠0 by lia)
 have h1:=Int.emod_lt_of_pos c6 (show(0:Int)<3 by lia)
 obtain⟨c,hc⟩:∃c:Nat,c6%3=(c:Int):=⟨(c6%3).toNat,by lia⟩
 have Hu:ch.Nodup:=(List.nodup_append.mp hd).1
 have N7:∀a∈ch,a∉fr:=λa ha hb=>(List.nodup_append.mp hd).2.2 a ha a hb rfl
 have KL:(ch.drop turn++ch.take turn).Perm ch:=by
  have:=List.perm_append_comm (l₁:=ch.drop turn) (l₂:=ch.take turn)
  rw[List.take_append_drop] at this
  exact this
 have e1:=EN ch turn
 have e2:=yf ch turn
 have e3:=EO (ch.drop turn) (ch.take turn) (by rw[List.length_drop,List.length_take];lia)
 generalize ch.drop turn++ch.take turn=rot at *
 have hrl:rot.length=ch.length:=KL.length_eq
 have e4:=yf rot size
 have e5:=yf fr c
 have e6:=EO (rot.take size) (fr.take c) (by rw[List.length_take,List.length_take];lia)
 have e7:=BA (rot.take size++fr.take c) (by rw[List.length_append,List.length_take,List.length_take];lia)
 have hrd:rot.Nodup:=KL.nodup_iff.mpr Hu
 have hsz:(fW p m ch (nV (rot.take size++fr.take c))).length=size:=by
  rw[Hs (l:=rot.take size) Hu (hrd.sublist (List.take_sublist _ _)) (λh hh=>?_) (λh hh=>KL.mem_iff.mp (List.mem_of_mem_take hh)),List.length_take]
  ·lia
  ·rw[(j0 _).mem_iff,List.mem_append]
   constructor
   ·rintro (z|z)
    ·exact z
    ·exact absurd (List.mem_of_mem_take z) (N7 h hh)
   ·exact .inl
 generalize nV (rot.take size++fr.take c)=gD at *
 have hpl:(prs (bS p m ch 0) (rowsOf (bS p m ch 0) gD) (rowsOf (bS p m ch 0) gD)).length≤49:=by
  have:=wb (p:=p) (m:=m) (hs:=gD) Hu
  rw[this,List.length_map,hsz]
  lia
 obtain⟨b,y,g1,g2,g3,g4⟩:=Hj H (by lia) (by rw[kh];exact h9) gD hpl [(true,li fr)]
 have hb:=EM hP Hu hl g3 g4
 rw[hsz] at hb
 have hbe:fEq (.str (if b then "open" else "shut")) (.str "open")=some (.bl b):=by
  cases b with
  | true=>show fEq (.str "open") (.str "open")=_;rw[iA];rfl
  | false=>show fEq (.str "shut") (.str "open")=_;rw[iA];rfl
 have hge:decide ((size:Int) ≥ 2*((m:Int)+1)-1)=b:=by
  rw[hb]
  by_cases c:2*m+1≤size
  ·rw[decide_eq_true c];exact decide_eq_true (by lia)
  ·rw[decide_eq_false c];exact decide_eq_false (by lia)
 have hne:fNe (.bl b) (.bl b)=some (.bl false):=by rw[KJ,beq_self_eq_true];rfl
 have hmu:aG (.int 2) (.int ((m:Int)+1))=some (.int (2*((m:Int)+1))):=e8 _ _ (by lia) (by lia)
 have r4:((([(true,li fr)]:af)[0]?).map λc=>c.2)=some (li fr):=rfl
 have hc6:=hc6 [(true,li fr)]
 refine⟨some (.val (li rot)),some (.val (li gD)),some (.val (.tup [.str (if b=true then Str.ofString "open" else Str.ofString "shut"),y])),?_⟩
 generalize tb p (m+1) (bS p m ch 0)=TB at *
 generalize (if b=true then Str.ofString "open" else Str.ofString "shut")=W at *
 unfold zI
 simp?! only[mw,e1,e2,e3,e4,hc6,hc,e5,e6,e7,g1,g2,hbe,hmu,hge,hne]
theorem holds(ns:List Int)(hl:ns.length≤63):∃μ',ny [.val (.lst (ns.map T.int))] []=.ok (.val (.bl true)) μ':=by
 obtain⟨c1,hc1⟩:=mR ns 1 (by lia) (by lia)
 obtain⟨c2,hc2⟩:=mR ns 2 (by lia) (by lia)
 obtain⟨c3,hc3⟩:=mR ns 3 (by lia) (by lia)
 obtain⟨c5,hc5⟩:=mR ns 5 (by lia) (by lia)
 obtain⟨c6,hc6⟩:=mR ns 6 (by lia) (by lia)
 obtain⟨many,em,hm1,hm9⟩:∃n:Nat,1+c1%9=(n:Int)/\1≤n/\n≤9:=⟨(1+c1%9).toNat,by lia,by lia,by lia⟩
 obtain⟨mn,en,hn1,hn2,hn3⟩:∃n:Nat,(if (many:Int)<3 then (many:Int) else 3)=(n:Int)/\1≤n/\n≤3/\n≤many:=by
  by_cases c:(many:Int)<3
  ·exact⟨many,if_pos c,by lia,by lia,by lia⟩
  ·exact⟨3,if_neg c,by lia,by lia,by lia⟩
 have h20:=Int.emod_nonneg c2 (show(mn:Int)≠0 by lia)
 have h21:=Int.emod_lt_of_pos c2 (show(0:Int)<mn by lia)
 obtain⟨m,hm⟩:∃m:Nat,c2%(mn:Int)=(m:Int):=⟨(c2%(mn:Int)).toNat,by lia⟩
 have h50:=Int.emod_nonneg c5 (show(many:Int)≠0 by lia)
 obtain⟨turn,ht⟩:∃t:Nat,c5%(many:Int)=(t:Int):=⟨(c5%(many:Int)).toNat,by lia⟩
 obtain⟨p,hP,hpm,g2⟩:=M3 hm9 hc3 (some (.val (.int ((m:Int)+1)))) [none,none,none,none,none,none,none,none] []
 have hb:=hP.pos
 obtain⟨ds,hds,hR⟩:=KG ns 4 10 many (by lia) (by lia) (by lia) (by lia) [(true,li (bJ 0 10))]
 have hp:=su ds (bJ 0 10) (by rw[hR.len];show many≤10;lia)
 have hpl:=wc ds (bJ 0 10)
 have hpc:=Ia (μ:=[]) ds (bJ 0 10) (by rw[hR.len];show many≤10;lia) (by show 10≤1000;lia)
 rw[hR.len] at hpl
 generalize ot ds (bJ 0 10)=r at *
 obtain⟨ch,fr⟩:=r
 dsimp only at *
 have hdd:(ch++fr).Nodup:=hp.nodup_iff.mpr (by decide +kernel)
 have ER:∀h∈ch,0≤h/\h<10:=λh hh=>by
  have:=hp.mem_iff.mp (List.mem_append.mpr (.inl hh))
  exact wQ.mp this
 have hfl:fr.length≤10:=by
  have:=hp.length_eq
  rw[List.length_append] at this
  have e:(bJ 0 10).length=10:=rfl
  lia
 have hIR:IsR 1 (som ((m:Int)+1) (ch.map hnd)):=EJ (by lia) (by lia) (by lia) ER
 have hpf:=vY ((m:Int)+1) ch
 have hrf:=EH ((m:Int)+1) ch
 have htf:=EK p ((m:Int)+1) ch
 rw[show((m:Int)+1).toNat-1=m by lia] at hpf htf
 have H:=KA hP hIR (by rw[hpf];lia) (by rw[hrf];lia)
 have htb:=Ho (p:=p) (by lia) (by lia) hIR (by lia) (by rw[hrf];lia) (by rw[hpf];lia) (EI _ (by rw[hpl];exact hpm)) [(true,li fr)]
 rw[htf,hpf,Nat.add_comm 1 m] at H htb
 have e5:bI (λ_=>True) (av 0) (dC (.bl true)) (ee [(dC (.str "hand")),(aa 0)]) [none] (ch.map T.int) [(true,li fr)]=.ok (ch.map hnd) [(true,li fr)]:=by
  rw[jZ hnd trivial]
  intro h _
  refine⟨_,rfl,?_⟩
  simp?! only[]
 have lz:(ch.map T.int).length≤szL:=by rw[List.length_map];unfold szL;lia
 have lz2:(ds.map T.int).length≤szL:=by rw[List.length_map,hR.len];unfold szL;lia
 have rn:bQ ((many:Int)+1)=true:=bH (by lia) (by lia)
 obtain⟨e',μ',hf,y8,y9,y10,y11,rfl,rfl⟩:=cx (same:=λ_=>True) (b:=av 8) (ts:=a_ 0 ((many:Int)+1).toNat) (body:=zI)
  (I:=λi e μ1=>∃y8 y9 y10 y11,e=[some (.val (.lst (ns.map T.int))),some (.val (.int (many:Int))),some (.val (.int ((m:Int)+1))),some (.val (.int p)),some (.cel 0),some (.val (li ch)),some (.val (tb p (m+1) (bS p m ch 0))),some (.val (.int (turn:Int))),y8,y9,y10,y11]/\[(true,li fr)]=μ1) (λ_ _ _ _=>trivial) (λi t e μ1 hti hI=>by
   obtain⟨y8,y9,y10,y11,rfl,rfl⟩:=hI
   have hi:i<(a_ 0 ((many:Int)+1).toNat).length:=(List.getElem?_eq_some_iff.mp hti).1
   rw[bA] at hi
   obtain⟨q,rfl,hq,hqi⟩:=jY hti
   have eq:q=(i:Int):=by lia
   subst eq
   obtain⟨z9,z10,z11,hz⟩:=ES hP (by lia) hdd (by lia) hfl (by rw[hpl];exact hpm) H hc6 turn i (by lia) (some (.val (.int (many:Int)))) (some (.val (.int p))) y9 y10 y11
   exact⟨_,_,_,rfl,hz,some (.val (.int (i:Int))),z9,z10,z11,rfl,rfl⟩)
  (e:=[some (.val (.lst (ns.map T.int))),some (.val (.int (many:Int))),some (.val (.int ((m:Int)+1))),some (.val (.int p)),some (.cel 0),some (.val (li ch)),some (.val (tb p (m+1) (bS p m ch 0))),some (.val (.int (turn:Int))),none,none,none,none]) (μ:=[(true,li fr)]) ⟨none,none,none,none,rfl,rfl⟩
 refine⟨[],?_⟩
 show(DG (starts 12 [.val (.lst (ns.map T.int))]) []).uV 0=_
 generalize tb p (m+1) (bS p m ch 0)=TB at *
 have m9:bg (.int c1) (.int 9)=some (.int (c1%9)):=ei _ _ (by lia)
 have mm:bg (.int c2) (.int (mn:Int))=some (.int (m:Int)):=by rw[ei _ _ (by lia),hm]
 have m5:bg (.int c5) (.int (many:Int))=some (.int (turn:Int)):=by rw[ei _ _ (by lia),ht]
 have hm':(1:Int)+(m:Int)=(m:Int)+1:=Int.add_comm ..
 have N8:Gk (.int 10)=some (li (bJ 0 10)):=by
  show(if (bQ 10 && decide ((10:Int).toNat≤szL))=true then some (T.lst (a_ 0 (10:Int).toNat)) else none)=_
  rw[if_pos (by rw[bH (by lia) (by lia),decide_eq_true (by unfold szL;decide)];rfl),fo]
  rfl
 rw[JY,Bd]
 unfold xv
 simp?! only[hc1,m9,em]
 rw[Be]
 unfold xw
 simp?! only[hc2,CM,en,mm,hm']
 rw[Bf,g2,RS.bV,Bg]
 unfold xx
 simp?! only[N8]
 rw[Bh]
 unfold xy
 have hpc:bI (λ_=>True) (av 0) (dC (.bl true)) (tG (aa 1) (ah bg (aa 0) (cS (aa 1)))) [none,some (.cel 0)] (ds.map T.int) [(true,li (bJ 0 10))]=.ok (ch.map T.int) [(true,li fr)]:=hpc
 generalize tG (aa 1) (ah bg (aa 0) (cS (aa 1)))=DP at hpc ⊢
 generalize li (bJ 0 10)=L10 at *
 simp?! only[hds,hpc,lz2]
 rw[Bj]
 unfold xA
 simp?! only[e5,lz,htb]
 rw[Bk]
 unfold xB
 simp?! only[hc5,m5]
 rw[Bl,Ht]
 simp?! only[rn,hf]
 rw[Bm]
 unfold xD
 simp?! only[]
end Fw.k63
open PySem PySem.W PyProof.Rows
def zN:String:="te8260771365497332411 tw465487734666728024 tw14742881541192651286 tw5127358517054718811 tw6388202611441634690 tw7834735579175938396 tw5244606622146425052 tw8396559187979965817 tw1070144581789931643 tw14041150013485947627 tw283924477648548544 tw1936742196387866907 tw6663351791194606034 tw17760113935836629044 tw18312702101448890247 tw16431586629505542606 tw16944491581908994401 tw4966962147526976479 tw9970481410610548702 tw10748092560756797156 tw6554334790365016607 tw16034447463736662652 tw11217999058263959590 tw17483046491674088747 tw7278477819653447967 tw13773728549351303596 tw5116739695988320974 tw3008937289418282883 tw12007105686085998382 tw3009264643668143199 tw11360073321259010641 tw15314218427519153958 tw12608181183808341821 tw16267193849851848024 tw962587451670562668 tw4079738423858889077 tw2530875746547567095 tw10058523205909740096 tw5552658019190885199 tw7494414327796586386 tw12449008307834086613 tw15685664108451642424 tw9261098712098466886 tw8642058744077037068 tw12683353423084294493 tw8864578444208321650 tw9089929430266101242 tw17077608686518533013 tw14865171112023694877 tw6431028061049729586 tw12331455096571552000 tw9086038968153764370 tw5639933855967623262 tw3052100327668788043 tw17352987363699187492 tw6778599047343057194 tw3523525113211506617 tw820568884960416071 tw3199628322908182848 tw4430785450416008120 tw9823397653332358845 tw18313344160498998182 tw9208695838579493428 tw6890610710097922168 tw16023042941821548594 tw12143885442901559308 tw1027241414938969911 tw7280767212625136381 tw15382177379759870205 tw11292926153815241296 tw12391240949132447824 tw11566545389635399380 tw16993526810391093169 tw9772909486911629871 tw8822110874054152693 tw6163366068514721327 tw14930073876704705612 tw13490974186518850431 tw2051092201570125099 tw392003224432898649 tw11059097891018479036 tw7076471291326147410 tw5422098372057481194 tw18215752673262291462 tw6622929613360976190 tw15507846939096578259 tw12275509292835605479 tw17776140776227174187 tw12224423913642189349 tw11991035316694584355 tw7553887009538861367 tw7975297193228278847 tw16414098871254836536 tw6892086847416485704 tw5391022981399709114 tw15078553593175410978 tw13133109336927789686 tw14026972248685550975 tw8541610065056649704 tw14165098680793088774 tw10837906479978009042 tw14743159025334011050 tw4669793419832445432 tw16962466743878973593 tw1466772063580221473 tw14641928396199584018 tw4169397351821583311 tw4743698874544572932 tw4088647792442383181 tw16134496708101472940 tw14971087565834131797 tw3824146875395874404 tw12447668567109476432 tw5574886833498586715 tw11607589727098347236 tw10745726486079154020 tw8766223408290280982 tw15559690951134645733 tw10335752057660924794 tw9677704344423228147 tw16088928985345212526 tw14601338969258768025 tw12026172717531647878 tw11318870379100501618 tw6150954178565263707 tw4495658646704597329 tw8833630728229327617 tw15810950197948110980 tw8022260075660134123 tw843313448309947528 tw17880075036272263076 tw15496883276220174973 tw4458228702174228420 tw1744057814906039732 tw13991772702203282372 tw12092277504176367423 tw14256801329183570905 tw7418151255529715815 tw2981742636363959278 tw11550104251133981182 tw4946586740744283751 tw17667931610059636093 tw17023896716802457251 tw8175852708406885739 tw4094401084481415430 tw9250633145305948337 tw9584200342076964422 tw16401156164463049083 tw3851241577354177934 tw14351770782058098534 tw10599050429573487401 tw12160269844102504657 tw17513821229841444027 tw11507250627060960753 tw704345806317780751 tw2769112280929019187 tw17007579450288648245 tw15404303218173512469 tw12577956121430636013 tw11260390091818597622 tw9290475458877680289 tw15198212161713279559 tw1105877979054658363 tw8597706201834057395 tw17223516477002746696 tw15825884193424472519 tw6062061259014843549 tw605990093040421613 tw5904701251048381129 tw964843266991887453 tw9629862553139676025 tw9621029852329511132 tw9348145095585641531 tw9345096042151690631 tw9299636694696591550 tw9293257565661288211 tw862754606395683060 tw8393251245948977606 tw8223023547687277953 tw818073131198584416 tw8059728083800609419 tw7942713234669997747 tw7339998607074145790 tw7212879434322386466 tw673705567731793291 tw6005331349508026638 tw5465558020370557424 tw5175919736666451017 tw4970169886685856062 tw4557434066103198678 tw3856049546225307822 tw3810298441667415260 tw3408566904569261139 tw2752474173847919023 tw2331293109574540097 tw18071155810334271451 tw17907744163354024153 tw17903594850688939275 tw16936449759151783551 tw16753717436294677079"
local macro_rules
|`(#synth 0)=>do return Lean.mkNullNode (←(zN.splitOn " ").toArray.mapM λx=>do let i:=Lean.mkIdent (.mkSimple x);`(command|theorem $i : True:=trivial))
namespace PySem.W.Fast
#synth 0
end PySem.W.Fast
set_option maxRecDepth 100000 in
set_option maxHeartbeats 0 in
theorem PySem.Challenge.cw_fewopen_k63_any_so_many_hands_holds : PySem.Challenge.rw_fewopen_k63_any_so_many_hands.Holds := by
 w_on;o_law;k_head;(case hw=>w_witness2)
 k_fill
 refine Fw.k63.walk (l:=PySem.Challenge.rw_fewopen_k63_any_so_many_hands) rfl rfl Fw.k63.holds (λw h Y=>PySem.W.kIn_of Y) ?F
 case F =>
  intro w mg fa h KX G hmg
  refine' Fw.k63.all_mk KX G hmg ?A0 ?A1 ?A2 ?A3 ?A4 ?A5 ?A6 ?A7 ?A8 ?A9 ?A10 ?A11 ?A12 ?A13 ?A14 ?A15 ?A16 ?A17 ?A18 ?A19 ?A20 ?A21 ?A22 ?A23 ?A24 ?A25 ?A26 ?A27 ?A28 ?z0 ?z1 ?z2 ?z3 ?z4 ?z5 ?z6 ?z7 ?z8 ?z9 ?z10 ?z11 ?z12 ?z13 ?z14 ?y0 ?y1 ?y2
  (case A0=>refine' Fw.cj ?a ?l ?c ?k;(case a=>k_is);(case l=>k_is);(case c=>k_is);(case k=>k_is))
  (case A1=>refine' Fw.cj ?a ?l ?c ?k;(case a=>k_is);(case l=>k_is);(case c=>k_is);(case k=>k_is))
  (case A2=>refine' Fw.cj ?a ?l ?c ?k;(case a=>k_is);(case l=>k_is);(case c=>k_is);(case k=>k_is))
  (case A3=>refine' Fw.cj ?a ?l ?c ?k;(case a=>k_is);(case l=>k_is);(case c=>k_is);(case k=>k_is))
  (case A4=>refine' Fw.cj ?a ?l ?c ?k;(case a=>k_is);(case l=>k_is);(case c=>k_is);(case k=>k_is))
  (case A5=>refine' Fw.cj ?a ?l ?c ?k;(case a=>k_is);(case l=>k_is);(case c=>k_is);(case k=>k_is))
  (case A6=>refine' Fw.cj ?a ?l ?c ?k;(case a=>k_is);(case l=>k_is);(case c=>k_is);(case k=>k_is))
  (case A7=>refine' Fw.cj ?a ?l ?c ?k;(case a=>k_is);(case l=>k_is);(case c=>k_is);(case k=>k_is))
  (case A8=>refine' Fw.cj ?a ?l ?c ?k;(case a=>k_is);(case l=>k_is);(case c=>k_is);(case k=>k_is))
  (case A9=>refine' Fw.cj ?a ?l ?c ?k;(case a=>k_is);(case l=>k_is);(case c=>k_is);(case k=>k_is))
  (case A10=>refine' Fw.cj ?a ?l ?c ?k;(case a=>k_is);(case l=>k_is);(case c=>k_is);(case k=>k_is))
  (case A11=>refine' Fw.cj ?a ?l ?c ?k;(case a=>k_is);(case l=>k_is);(case c=>k_is);(case k=>k_is))
  (case A12=>refine' Fw.cj ?a ?l ?c ?k;(case a=>k_is);(case l=>k_is);(case c=>k_is);(case k=>k_is))
  (case A13=>refine' Fw.cj ?a ?l ?c ?k;(case a=>k_is);(case l=>k_is);(case c=>k_is);(case k=>k_is))
  (case A14=>refine' Fw.cj ?a ?l ?c ?k;(case a=>k_is);(case l=>k_is);(case c=>k_is);(case k=>k_is))
  (case A15=>refine' Fw.cj ?a ?l ?c ?k;(case a=>k_is);(case l=>k_is);(case c=>k_is);(case k=>k_is))
  (case A16=>refine' Fw.cj ?a ?l ?c ?k;(case a=>k_is);(case l=>k_is);(case c=>k_is);(case k=>k_is))
  (case A17=>refine' Fw.cj ?a ?l ?c ?k;(case a=>k_is);(case l=>k_is);(case c=>k_is);(case k=>k_is))
  (case A18=>refine' Fw.cj ?a ?l ?c ?k;(case a=>k_is);(case l=>k_is);(case c=>k_is);(case k=>k_is))
  (case A19=>refine' Fw.cj ?a ?l ?c ?k;(case a=>k_is);(case l=>k_is);(case c=>k_is);(case k=>k_is))
  (case A20=>refine' Fw.cj ?a ?l ?c ?k;(case a=>k_is);(case l=>k_is);(case c=>k_is);(case k=>k_is))
  (case A21=>refine' Fw.cj ?a ?l ?c ?k;(case a=>k_is);(case l=>k_is);(case c=>k_is);(case k=>k_is))
  (case A22=>refine' Fw.cj ?a ?l ?c ?k;(case a=>k_is);(case l=>k_is);(case c=>k_is);(case k=>k_is))
  (case A23=>refine' Fw.cj ?a ?l ?c ?k;(case a=>k_is);(case l=>k_is);(case c=>k_is);(case k=>k_is))
  (case A24=>refine' Fw.cj ?a ?l ?c ?k;(case a=>k_is);(case l=>k_is);(case c=>k_is);(case k=>k_is))
  (case A25=>refine' Fw.cj ?a ?l ?c ?k;(case a=>k_is);(case l=>k_is);(case c=>k_is);(case k=>k_is))
  (case A26=>refine' Fw.cj ?a ?l ?c ?k;(case a=>k_is);(case l=>k_is);(case c=>k_is);(case k=>k_is))
  (case A27=>refine' Fw.cj ?a ?l ?c ?k;(case a=>k_is);(case l=>k_is);(case c=>k_is);(case k=>k_is))
  (case A28=>refine' Fw.cj ?a ?l ?c ?k;(case a=>k_is);(case l=>k_is);(case c=>k_is);(case k=>k_is))
  (case z0=>k_is)
  (case z1=>k_is)
  (case z2=>k_is)
  (case z3=>k_is)
  (case z4=>k_is)
  (case z5=>k_is)
  (case z6=>k_is)
  (case z7=>k_is)
  (case z8=>k_is)
  (case z9=>k_is)
  (case z10=>k_is)
  (case z11=>k_is)
  (case z12=>k_is)
  (case z13=>k_is)
  (case z14=>k_is)
  (case y0=>k_is)
  (case y1=>k_is)
  (case y2=>k_is)
