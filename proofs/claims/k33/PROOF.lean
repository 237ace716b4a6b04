import PyProof.Rows.All
import Wide.All
import OpenK.AllK
import Wide.FinOn
import Lean
import PyProof.EqAt
import PyProof.EqKinds
import PyProof.TupleCall
import PyProof.NeData
import PyProof.P3Eq
import PyProof.ConsumeWalk
import PyProof.ZipIter
import PyProof.DictItemsLoops
import KE.KDictList
import KE.KPairComp
import PyProof.Draws
import PyProof.EnumMake
import PyProof.EnumFor
import PyProof.ListRange
import PyProof.ListMulAny
import KE.KRevIter
import PyProof.Rows.SortShell
import PyProof.ListNew
import KE.KDictIter
import PyProof.DictWalks
import PyProof.StrCalls2
import KE.KSortAsk
import KE.KEqDict
import PySem.Challenge.RW_fewopen_k33_least_and_greatest
set_option compiler.extract_closed false
set_option bootstrap.genMatcherCode false
set_option genSizeOf false
set_option Elab.async false
set_option linter.all false
set_option maxRecDepth 100000
noncomputable section
namespace L2
open PySem PySem.Spec PyProof.Rows
noncomputable abbrev Key := Sum Int Str
def pd:Key→Value→Bool
 | .inl k,v=>Value.isInt k v
 | .inr x,v=>Value.isStrOf x v
def ML(w:World):Key→Int
 | .inl k=>hashInt k
 | .inr x=>hashStr w x
theorem cm:∀{k:Key}{v:Value},pd k v=true→(∃i t,k=Sum.inl i∧v=Value.int i t)∨(∃x t,k=Sum.inr x∧v=Value.str x t)
 | .inl i,v,h=>by
  obtain⟨t,e⟩:=Value.isInt_shape (k:=i) (v:=v) h
  exact .inl ⟨i,t,rfl,e⟩
 | .inr x,v,h=>by
  obtain⟨t,e⟩:=Value.isStrOf_shape (x:=x) (v:=v) h
  exact .inr ⟨x,t,rfl,e⟩
theorem zF(i:Int)(t:Tok):pd (.inl i) (.int i t)=true:=by simp[pd,Value.isInt]
theorem zG(x:Str)(t:Tok):pd (.inr x) (.str x t)=true:=by simp[pd,Value.isStrOf]
theorem Hu(a b:Int):decide ((Sum.inl a:Key)=Sum.inl b)=(a==b):=by
 by_cases e:a=b
 ·subst e;simp
 ·have h:¬ (Sum.inl a:Key)=Sum.inl b:=λq=>e (Sum.inl.inj q)
  rw[decide_eq_false h]
  exact (beq_eq_false_iff_ne.mpr e).symm
theorem Hv(a b:Str):decide ((Sum.inr a:Key)=Sum.inr b)=decide (a=b):=by
 by_cases e:a=b
 ·subst e;simp
 ·have h:¬ (Sum.inr a:Key)=Sum.inr b:=λq=>e (Sum.inr.inj q)
  rw[decide_eq_false h,decide_eq_false e]
theorem Hw(a:Int)(b:Str):decide ((Sum.inl a:Key)=Sum.inr b)=false:=decide_eq_false (λq=>nomatch q)
theorem Hx(a:Str)(b:Int):decide ((Sum.inr a:Key)=Sum.inl b)=false:=decide_eq_false (λq=>nomatch q)
def cK(prog:Program)(w:World):PySem.KeyKind prog w Key where
 is:=pd
 hash:=ML w
 inj:=λv a b ha hb=>by
  rcases cm ha with ⟨i,t,rfl,rfl⟩|⟨x,t,rfl,rfl⟩
  ·rcases cm hb with ⟨j,u,rfl,e⟩|⟨y,u,rfl,e⟩
   ·injection e with e1 _;rw[e1]
   ·exact nomatch e
  ·rcases cm hb with ⟨j,u,rfl,e⟩|⟨y,u,rfl,e⟩
   ·exact nomatch e
   ·injection e with e1 _;rw[e1]
 byValue:=λk v h=>by
  rcases cm h with ⟨i,t,rfl,rfl⟩|⟨x,t,rfl,rfl⟩<;>rfl
 pyHash:=λhv h=>by
  rcases cm hv with ⟨i,t,rfl,rfl⟩|⟨x,t,rfl,rfl⟩
  ·exact wpAny_pyHash_int h
  ·exact wpAny_pyHash_str h
 eqBool:=λhu hv h=>by
  rcases cm hu with ⟨i,t,rfl,rfl⟩|⟨x,t,rfl,rfl⟩
  ·rcases cm hv with ⟨j,u,rfl,rfl⟩|⟨y,u,rfl,rfl⟩
   ·rw[Hu] at h;exact wpAny_eqBool_int h
   ·rw[Hw] at h;exact SeqAt.EqAt.int_str i t y u _ _ _ _ h
  ·rcases cm hv with ⟨j,u,rfl,rfl⟩|⟨y,u,rfl,rfl⟩
   ·rw[Hx] at h;exact SeqAt.EqAt.str_int x t j u _ _ _ _ h
   ·rw[Hv] at h;exact wpAny_eqBool_str h
 «strs»:=λk x t v h=>by
  rcases cm h with ⟨i,u,rfl,e⟩|⟨y,u,rfl,e⟩
  ·exact nomatch e
  ·injection e with e1 _
   subst e1
   cases v<;>rfl
theorem uS(prog:Program)(w:World)(i:Int)(t:Tok):(cK prog w).is (.inl i) (.int i t)=true:=zF i t
theorem uT(prog:Program)(w:World)(x:Str)(t:Tok):(cK prog w).is (.inr x) (.str x t)=true:=zG x t
inductive V where
 | non|bl (b:Bool)|int (i:Int)|str (x:Str)|byt (b:Array UInt8)|flt (b:UInt64)|ref (a:Addr)|ty (n:String)
 deriving DecidableEq
def RelV:V→Value→Prop
 | .non,u=>u=Value.none
 | .bl b,u=>u=Value.bool b
 | .int i,u=>∃t,u=Value.int i t
 | .str x,u=>∃t,u=Value.str x t
 | .byt b,u=>∃t,u=Value.bytes b t
 | .flt b,u=>∃t,u=Value.float b t
 | .ref a,u=>u=Value.ref a
 | .ty n,u=>u=Value.type n
noncomputable abbrev Vals : List V → List Value → Prop := Paired RelV
theorem Vals.length{xs:List V}{us:List Value}(r:Vals xs us):xs.length=us.length:=Paired.length r
theorem Vals.get:∀{xs:List V}{us:List Value}{i:Nat}{x:V},Vals xs us→xs[i]?=some x→∃u,us[i]?=some u∧RelV x u
 | _,_,_,_,.nil,e=>by simp at e
 | _,_,0,_,.cons r _,e=>by simp at e;subst e;exact⟨_,rfl,r⟩
 | _,_,i+1,x,.cons _ t,e=>by
  obtain⟨u,h1,h2⟩:=Vals.get (i:=i) (x:=x) t (by simpa using e)
  exact⟨u,by simpa using h1,h2⟩
theorem Vals.set{x:V}{u:Value}(r:RelV x u):∀{xs:List V}{us:List Value} (i:Nat),Vals xs us→Vals (xs.set i x) (us.set i u)
 | _,_,_,.nil=>.nil
 | _,_,0,.cons _ t=>.cons r t
 | _,_,i+1,.cons q t=>.cons q (Vals.set r i t)
theorem Vals.append:∀{xs ys:List V}{us ws:List Value},Vals xs us→Vals ys ws→Vals (xs++ys) (us++ws)
 | _,_,_,_,.nil,s=>s
 | _,_,_,_,.cons r t,s=>.cons r (Vals.append t s)
theorem Vals.take:∀{xs:List V}{us:List Value} (n:Nat),Vals xs us→Vals (xs.take n) (us.take n)
 | _,_,0,_=>.nil
 | _,_,_+1,.nil=>.nil
 | _,_,n+1,.cons r t=>.cons r (Vals.take n t)
theorem Vals.drop:∀{xs:List V}{us:List Value} (n:Nat),Vals xs us→Vals (xs.drop n) (us.drop n)
 | _,_,0,r=>r
 | _,_,_+1,.nil=>.nil
 | _,_,n+1,.cons _ t=>Vals.drop n t
def ot:Option V→Option Value→Prop
 | some v,some u=>RelV v u
 | none,none=>True
 | _,_=>False
def KV{κ:Type}:List (κ×V)→List (κ×Value)→Prop:=Paired λ(p:κ×V) (q:κ×Value)=>p.1=q.1∧RelV p.2 q.2
def kV:Key→V
 | .inl i=>.int i
 | .inr x=>.str x
inductive HO where
 | lst (xs:List V)
 | tup (xs:List V)
 | dK (kvs:List (Key×V))|dT (kvs:List (List Key×V))
 | set (S:Int→Bool) (n:Nat)
 | ins (C dx:Addr) (fs:List (Str×V))
 | own (x:Addr)
 | xd (fs:List (Str×V))
 | met (f x:Addr)
 | rng (lo hi:Int)
 | frz (o:Obj) (u:HO)
 | tbl (ps:Array Value)
 | ext (φ:Heap→Prop)
noncomputable abbrev Hp := Addr → Option HO
def upd(H:Hp)(a:Addr)(o:HO):Hp:=λb=>if b=a then some o else H b
theorem ax{H:Hp}{a:Addr}{o:HO}:upd H a o a=some o:=by unfold upd;rw[if_pos rfl]
theorem aB{H:Hp}{a b:Addr}{o:HO}(h:b≠a):upd H a o b=H b:=by unfold upd;rw[if_neg h]
theorem Kk{H:Hp}{a b:Addr}{o u:HO}(h:H a=some o)(h':H b=some u)(d:o≠u):a≠b:=by
 intro e;subst e;rw[h] at h';exact d (Option.some.inj h')
theorem cY{H:Hp}{a b:Addr}{o:HO}(h:H a=some o)(h':H b=none):a≠b:=by
 intro e;subst e;rw[h] at h';cases h'
section
variable(P:Program)(w:World)
def cL(H:Hp)(h:Heap)(a:Addr):HO→Prop
 | .lst xs=>xs.length≤sizeLine∧∃(its:List Value) (n:Nat),Vals xs its∧h.get? a=some { cls:=.type "list",data:=.seq its.toArray n }
 | .tup xs=>xs.length≤sizeLine∧∃its:List Value,Vals xs its∧IsTup h a its.toArray
 | .dK kvs=>kvs.length≤sizeLine∧(a==sysModules)=false∧∃vs,KV kvs vs∧h.DictAt (cK P w) a vs vs.length
 | .dT kvs=>kvs.length≤sizeLine∧(a==sysModules)=false∧∃xs:List (List Key×Addr×Value),
   Paired (λ(p:List Key×V) (q:List Key×Addr×Value)=>p.1=q.1∧H q.2.1=some (.tup (p.1.map kV))∧RelV p.2 q.2.2) kvs xs ∧
   ∃o es ep,h.get? a=some o∧o.ExactDict∧o.data=.dict es ep∧es.toList=xs.map (entryOfKey (tupleKind (cK P w)))∧(xs.map (·.1)).Nodup
 | .set S n=>h.SetOf (intKind P w) a S n
 | .ins C dx fs=>H dx=some (.own a)∧fs.length≤1000∧dx≠a∧h.get? a=some (PySem.W.instObj C dx) ∧
   ∃mA,h.Ns1 dx mA∧(∀f,ot (fs.lookup f) (mA f))∧PySem.Within mA (fs.map (·.1))
 | .own _=>∃o,h.get? a=some o
 | .xd fs=>∃mA,h.Ns1 a mA∧∀f,ot (fs.lookup f) (mA f)
 | .rng lo hi=>∃t u v,h.get? a=some { cls:=.type "range",data:=.fields #[.int lo t,.int hi u,.int 1 v] }
 | .frz o u=>h.get? a=some o∧cL H h a u
 | .tbl ps=>h.get? a=some { cls:=.none,data:=.fields ps }
 | .met f x=>h.get? a=some (PySem.W.methodObj (.ref f) (.ref x))
 | .ext φ=>φ h∧(∃o,h.get? a=some o)∧∀h1 h2:Heap,φ h1→(∀o,h1.get? a=some o→h2.get? a=some o)→φ h2
def HOk(H:Hp)(h:Heap):Prop:=∀a o,H a=some o→cL P w H h a o
end
section
variable{P:Program}{w:World}{H H':Hp}{h h':Heap}{a:Addr}{o:HO}
theorem cL.lt(x:cL P w H h a o):a<h.objs.size:=by
 cases o with
 | lst xs=>obtain⟨_,_,_,_,e⟩:=x;exact Heap.lt_size e
 | tup xs=>obtain⟨_,_,_,p⟩:=x;exact p.lt
 | dK kvs=>obtain⟨_,_,_,_,o,_,e,_⟩:=x;exact Heap.lt_size e
 | dT kvs=>obtain⟨_,_,_,_,o,_,_,e,_⟩:=x;exact Heap.lt_size e
 | set S n=>obtain⟨o,_,_,_,e,_⟩:=x;exact Heap.lt_size e
 | ins C dx fs=>obtain⟨_,_,_,e,_⟩:=x;exact Heap.lt_size e
 | own y=>obtain⟨_,e⟩:=x;exact Heap.lt_size e
 | xd fs=>obtain⟨_,⟨_,_,_,e,_⟩,_⟩:=x;exact Heap.lt_size e
 | rng lo hi=>obtain⟨_,_,_,e⟩:=x;exact Heap.lt_size e
 | frz ob u=>obtain⟨e,_⟩:=x;exact Heap.lt_size e
 | tbl ps=>exact Heap.lt_size (show h.get? a=some _ from x)
 | met f y=>exact Heap.lt_size (show h.get? a=some _ from x)
 | ext φ=>obtain⟨_,⟨_,e⟩,_⟩:=x;exact Heap.lt_size e
theorem Paired.Em{α β:Type}{F G:α→β→Prop}:∀{l₁:List α}{l₂:List β},Paired F l₁ l₂→(∀a b,F a b→G a b)→Paired G l₁ l₂
 | _,_,.nil,_=>.nil
 | _,_,.cons r t,f=>.cons (f _ _ r) (Paired.Em t f)
theorem Paired.imp'{α β:Type}{F G:α→β→Prop}(f:∀a b,F a b→G a b){l₁:List α}{l₂:List β}(r:Paired F l₁ l₂):Paired G l₁ l₂:=Paired.Em r f
theorem cL.uU(x:cL P w H h a o)(k:∀b u,(b=a∨H b=some (.own a))→h.get? b=some u→h'.get? b=some u)
  (ho:∀b,H b=some (.own a)→H' b=some (.own a)) (ht:∀b xs,H b=some (.tup xs)→H' b=some (.tup xs)):cL P w H' h' a o:=by
 induction o with
 | lst xs=>obtain⟨z,its,n,r,e⟩:=x;exact⟨z,its,n,r,k _ _ (.inl rfl) e⟩
 | tup xs=>obtain⟨z,its,r,ob,e,c⟩:=x;exact⟨z,its,r,ob,k _ _ (.inl rfl) e,c⟩
 | dK kvs=>obtain⟨z,y,vs,r,ob,es,e,c⟩:=x;exact⟨z,y,vs,r,ob,es,k _ _ (.inl rfl) e,c⟩
 | dT kvs =>
  obtain⟨z,y,xs,r,ob,es,ep,e,c⟩:=x
  exact⟨z,y,xs,Paired.Em r λp q z=>⟨z.1,ht _ _ z.2.1,z.2.2⟩,ob,es,ep,k _ _ (.inl rfl) e,c⟩
 | set S n=>obtain⟨ob,es,ep,t,e,c⟩:=x;exact⟨ob,es,ep,t,k _ _ (.inl rfl) e,c⟩
 | ins C dx fs =>
  obtain⟨d,z,ne,e,mA,⟨od,es,ep,e2,c⟩,r⟩:=x
  exact⟨ho _ d,z,ne,k _ _ (.inl rfl) e,mA,⟨od,es,ep,k _ _ (.inr d) e2,c⟩,r⟩
 | own y=>obtain⟨ob,e⟩:=x;exact⟨ob,k _ _ (.inl rfl) e⟩
 | xd fs=>obtain⟨mA,⟨od,es,ep,e,c⟩,r⟩:=x;exact⟨mA,⟨od,es,ep,k _ _ (.inl rfl) e,c⟩,r⟩
 | rng lo hi=>obtain⟨t,u,v,e⟩:=x;exact⟨t,u,v,k _ _ (.inl rfl) e⟩
 | frz ob u ih=>obtain⟨e,q⟩:=x;exact⟨k _ _ (.inl rfl) e,ih q⟩
 | tbl ps =>
  have e:h.get? a=some { cls:=.none,data:=.fields ps }:=x
  show h'.get? a=some { cls:=.none,data:=.fields ps }
  exact k a _ (.inl rfl) e
 | met f y =>
  have e:h.get? a=some (PySem.W.methodObj (.ref f) (.ref y)):=x
  show h'.get? a=some (PySem.W.methodObj (.ref f) (.ref y))
  exact k a _ (.inl rfl) e
 | ext φ=>obtain⟨p,⟨o,e⟩,st⟩:=x;exact⟨st _ _ p λo q=>k _ _ (.inl rfl) q,⟨o,k _ _ (.inl rfl) e⟩,st⟩
theorem HOk.lt(x:HOk P w H h)(e:H a=some o):a<h.objs.size:=(x a o e).lt
theorem HOk.fresh(x:HOk P w H h)(e:h.objs.size≤a):H a=none:=by
 cases q:H a with
 | none=>rfl
 | some u=>exact absurd (Nat.lt_of_lt_of_le (x.lt q) e) (Nat.lt_irrefl _)
theorem HOk.kept(x:HOk P w H h)(k:∀b u,h.get? b=some u→h'.get? b=some u):HOk P w H h':=λa o e =>
 (x a o e).uU (λb u _ q=>k b u q) (λ_ q=>q) λ_ _ q=>q
theorem HOk.laid(x:HOk P w H h)(k:∀b u,h.get? b=some u→h'.get? b=some u)(hp:h.objs.size≤a)(new:cL P w (upd H a o) h' a o):HOk P w (upd H a o) h':=λb u e=>by
 have hn:=x.fresh hp
 by_cases hb:b=a
 ·subst hb;rw[ax] at e;cases e;exact new
 ·rw[aB hb] at e
  exact (x b u e).uU (λc v _ q=>k c v q) (λc q=>by rw[aB (cY q hn)];exact q) λc xs q=>by rw[aB (cY q hn)];exact q
end
def Rd(H:Hp)(a:Addr)(u:HO):Prop:=H a=some u∨∃o,H a=some (.frz o u)
theorem Rd.ok{P:Program}{w:World}{H:Hp}{h:Heap}{a:Addr}{u:HO}(r:Rd H a u)(x:HOk P w H h):cL P w H h a u:=by
 rcases r with r|⟨o,r⟩
 ·exact x a u r
 ·obtain⟨_,q⟩:=x a _ r
  exact q
def Mut:Option HO→Prop
 | some (.lst _)=>True
 | some (.dK _)=>True
 | some (.dT _)=>True
 | some (.set _ _)=>True
 | some (.ins _ _ _)=>True
 | some (.ext _)=>True
 | _=>False
section
variable{P:Program}{w:World}{H:Hp}{h h':Heap}{x e:Addr}{o':HO}
theorem HOk.write(ok:HOk P w H h)(mu:Mut (H x))(he:e=x∨H e=some (.own x))(k:∀b u,b≠e→h.get? b=some u→h'.get? b=some u)(heo:∃u,h'.get? e=some u)
  (new:cL P w (upd H x o') h' x o'):HOk P w (upd H x o') h':=λb u q=>by
 have Kl:∀c y,H c=some (.own y)→c≠x:=λc y r z=>by subst z;rw[r] at mu;exact mu
 have MM:∀c xs,H c=some (.tup xs)→c≠x:=λc xs r z=>by subst z;rw[r] at mu;exact mu
 by_cases hb:b=x
 ·subst hb;rw[ax] at q;cases q;exact new
 ·rw[aB hb] at q
  by_cases hbe:b=e
  ·have q':H b=some (.own x):=by
    rcases he with z|z
    ·exact absurd (hbe.trans z) hb
    ·rw[hbe];exact z
   rw[q] at q';cases q'
   obtain⟨v,hv⟩:=heo
   exact⟨v,by rw[hbe];exact hv⟩
  ·refine (ok b u q).uU (λc v hc r=>k c v ?_ r) (λc r=>by rw[aB (Kl c b r)];exact r) λc xs r=>by rw[aB (MM c xs r)];exact r
   rcases hc with rfl|hc
   ·exact hbe
   ·rintro rfl
    rcases he with z|z
    ·exact Kl c b hc z
    ·rw[hc] at z;cases z;exact hb rfl
end
structure Un(fs ex:List Addr)(H H':Hp)(h h':Heap):Prop where
 keep:∀b o,h.get? b=some o→H b=none→b∉fs→b∉ex→h'.get? b=some o
 slot:∀b o,h.get? b=some o→H b=none→b∈fs→b∉ex→∃sl,h'.get? b=some { o with slots:=sl }
 free:∀b o,h.get? b=some o→H b=none→b∉ex→H' b=none
 there:∀b o,h.get? b=some o→b∉ex→∃o',h'.get? b=some o'
 rh:∀b xs,H b=some (.tup xs)→H' b=some (.tup xs)
 eD:∀b o u,H b=some (.frz o u)→H' b=some (.frz o u)
 rj:∀b ps,H b=some (.tbl ps)→∃more,H' b=some (.tbl (ps++more))
section
variable{fs fs' ex ex':List Addr}{H H1 H2:Hp}{h h1 h2 h':Heap}{a x e:Addr}{o:HO}
theorem Un.any(u:Un fs ex H H1 h h1){b:Addr}{ob:Obj}(q:h.get? b=some ob)(n:H b=none)(hx:b∉ex):∃sl,h1.get? b=some { ob with slots:=sl }:=by
 by_cases hb:b∈fs
 ·exact u.slot b ob q n hb hx
 ·exact⟨ob.slots,u.keep b ob q n hb hx⟩
theorem Un.kept(k:∀b u,h.get? b=some u→h'.get? b=some u):Un fs ex H H h h' :=
 ⟨λb ob q _ _ _=>k b ob q,λb ob q _ _ _=>⟨ob.slots,k b ob q⟩,λ_ _ _ n _=>n,λb ob q _=>⟨ob,k b ob q⟩,λ_ _ q=>q,λ_ _ _ q=>q,λ_ ps q=>⟨#[],by rw[q];simp⟩⟩
theorem Un.refl:Un fs ex H H h h:=Un.kept λ_ _ q=>q
theorem Un.laid(k:∀b u,h.get? b=some u→h'.get? b=some u)(hp:h.objs.size≤a)(hn:H a=none):Un fs ex H (upd H a o) h h' where
 keep:=λb u q _ _ _=>k b u q
 slot:=λb u q _ _ _=>⟨u.slots,k b u q⟩
 free:=λb u q n _=>by rw[aB (Nat.ne_of_lt (Nat.lt_of_lt_of_le (Heap.lt_size q) hp))];exact n
 there:=λb u q _=>⟨u,k b u q⟩
 rh:=λb xs q=>by rw[aB (cY q hn)];exact q
 eD:=λb u xs q=>by rw[aB (cY q hn)];exact q
 rj:=λb ps q=>⟨#[],by rw[aB (cY q hn),q];simp⟩
theorem Un.write(mu:Mut (H x))(he:e=x∨H e=some (.own x))(k:∀b u,b≠e→h.get? b=some u→h'.get? b=some u)(heo:∃u,h'.get? e=some u):Un fs ex H (upd H x o) h h':=by
 have hx:∀b,H b=none→b≠x:=λb n z=>by subst z;rw[n] at mu;exact mu
 have hb:∀b,H b=none→b≠e:=λb n z=>by
  subst z
  rcases he with r|r
  ·exact hx b n r
  ·rw[n] at r;cases r
 have hm:∀b u,H b=some u→¬ Mut (some u)→b≠x:=λb u q nm z=>by subst z;rw[q] at mu;exact nm mu
 refine⟨λb u q n _ _=>k b u (hb b n) q,λb u q n _ _=>⟨u.slots,k b u (hb b n) q⟩,λb u q n _=>by rw[aB (hx b n)];exact n,λb u q _=>?_,
  λb xs q=>by rw[aB (hm b _ q λz=>z)];exact q,λb u xs q=>by rw[aB (hm b _ q λz=>z)];exact q,λb ps q=>⟨#[],by rw[aB (hm b _ q λz=>z),q];simp⟩⟩
 by_cases hbe:b=e
 ·subst hbe;exact heo
 ·exact⟨u,k b u hbe q⟩
end
def trk(h:Heap)(H:Hp):List Addr:=(List.range h.objs.size).filter λa=>(H a).isSome
def tG(h:Heap)(H:Hp):Heap:=PySem.W.hideAll h (trk h H)
theorem zH(h:Heap)(H:Hp):(tG h H).objs.size=h.objs.size:=PySem.W.hideAll_size _ _
theorem Bb{h:Heap}{H:Hp}{b:Addr}{o:Obj}(e:h.get? b=some o)(n:H b=none):(tG h H).get? b=some o :=
 PySem.W.hideAll_get _ e λhm=>by
  have q:(H b).isSome=true:=(List.mem_filter.mp hm).2
  rw[n] at q;simp at q
theorem En{h:Heap}{H:Hp}{b:Addr}{o:Obj}(e:(tG h H).get? b=some o):h.get? b=some o∧H b=none:=by
 have e':h.get? b=some o:=PySem.W.of_hideAll (trk h H) e
 refine⟨e',?_⟩
 cases q:H b with
 | none=>rfl
 | some x =>
  have hm:b∈trk h H:=List.mem_filter.mpr ⟨List.mem_range.mpr (Heap.lt_size e'),by simp[q]⟩
  have z:(tG h H).get? b=none:=PySem.W.hideAll_none (trk h H) hm
  rw[z] at e;cases e
structure Mod(K:PySem.W.Frag)(mg:Str→Option Value)(base:Heap):Prop where
 kin:K.In base
 glob:base.Ns mainGlobals mg
 blt:∃mb,base.Ns builtinsNs mb∧∀x:Str,x≠"__name__"→mb x=bootBuiltins x
 nolimit:base.NoLimit
structure Cx where
 prog:Program
 w:World
 K:PySem.W.Frag
 mg:Str→Option Value
 base:Heap
 A:Around
 N:List Str
 s₀:Shared
 H₀:Hp
 env:Env
 outer:List Env
 stack:List Env
 ex:List Addr
 fn:Str→Bool
 calm:Bool
 pn:List (Addr×Obj)
 xe:Value→Shared→Prop
def frs(l:List Env):List Addr:=l.filterMap (·.frame)
noncomputable abbrev Cx.fs (X : Cx) : List Addr := frs X.outer
def Vis(sc:Scope)(x:Str):Prop:=sc.names.lookup x=some .local∨sc.names.lookup x=some .cell∨sc.names.lookup x=some .free
def Loc(sc:Scope)(x:Str):Prop:=sc.names.lookup x=some .local∨sc.names.lookup x=some .cell
def Look(env:Env)(h:Heap)(m:Str→Option Value)(x:Str)(u:Value):Prop :=
 (env.kindOf x=some .local∧m x=some u)∨((env.kindOf x=some .cell∨env.kindOf x=some .free)∧∃c,env.cells.lookup x=some c∧h.IsCell c (some u))
structure Cx.Ok(X:Cx):Prop where
 mod:Mod X.K X.mg X.base
 kind:X.env.scope.kind=.function
 glob:X.env.globals=mainGlobals
 blt:X.env.builtins=builtinsNs
 above:X.s₀.heap.objs.size≤X.env.locals
 inj:∀x y c,X.env.cells.lookup x=some c→X.env.cells.lookup y=some c→x=y
 has:∀x,(X.env.kindOf x=some .cell∨X.env.kindOf x=some .free)→∃c,X.env.cells.lookup x=some c
 cab:∀x c,X.fn x=true→X.env.cells.lookup x=some c→X.s₀.heap.objs.size≤c
 hd:X.calm=true→X.A.handled=none
 frames:X.A.frames=some X.stack
 stk:X.stack=X.outer∨(X.stack=X.env::X.outer∧X.env.frame=some X.env.locals)
 exf:∀b∈X.ex,b≠X.env.locals∧∀x c,X.env.cells.lookup x=some c→c≠b
 bs:∀b o,X.base.get? b=some o→X.s₀.heap.get? b=some o∧X.H₀ b=none
 bsz:X.base.objs.size≤X.s₀.heap.objs.size
 zI:∀b o,X.base.get? b=some o→b∉X.ex
 Eo:∀b∈X.ex,b∉X.fs
 ou:X.s₀.heap.FunFrames X.base X.outer
 frf:∀b∈X.fs,X.H₀ b=none
structure Inv(X:Cx)(pins:List (Addr×Obj))(σ:List (Option V))(H:Hp)(s:Shared):Prop where
 ok:X.Ok
 os:s.os=X.s₀.os
 bare:AllBare s.gens
 base:Un X.fs X.ex X.H₀ H X.s₀.heap s.heap
 loc:∃m,s.heap.Ns X.env.locals m∧∀(i:Nat) (x:Str) (v:V),X.N[i]?=some x→σ[i]?=some (some v)→Vis X.env.scope x→∃u,RelV v u∧Look X.env s.heap m x u
 cell:∀x c,X.env.cells.lookup x=some c→∃v,s.heap.IsCell c v
 free:H X.env.locals=none
 kS:∀x c,X.env.cells.lookup x=some c→H c=none
 pin:∀p∈X.pn++pins,s.heap.get? p.1=some p.2∧H p.1=none∧p.1≠X.env.locals∧p.1∉X.fs∧∀v,p.2.data≠.cell v
 hok:HOk X.prog X.w H s.heap
 len:σ.length=X.N.length
section
variable{X:Cx}{pins:List (Addr×Obj)}{σ:List (Option V)}{H H':Hp}{s:Shared}{h':Heap}
theorem Cx.Ok.MN(ok:X.Ok){b:Addr}{o:Obj}(e:X.base.get? b=some o):b∉X.fs:=λhb=>by
 have:=(ok.ou.mem hb).1
 rw[e] at this;cases this
theorem Inv.bs(I:Inv X pins σ H s):∀b o,X.base.get? b=some o→s.heap.get? b=some o∧H b=none:=λb o e =>
 ⟨I.base.keep b o (I.ok.bs b o e).1 (I.ok.bs b o e).2 (I.ok.MN e) (I.ok.zI b o e),I.base.free b o (I.ok.bs b o e).1 (I.ok.bs b o e).2 (I.ok.zI b o e)⟩
theorem Inv.bk(I:Inv X pins σ H s):∀b o,X.base.get? b=some o→s.heap.get? b=some o:=λb o e=>(I.bs b o e).1
theorem Inv.mod(I:Inv X pins σ H s):Mod X.K X.mg X.base:=I.ok.mod
theorem Inv.kIn(I:Inv X pins σ H s):X.K.In s.heap:=I.ok.mod.kin.keeps I.bk
theorem Inv.nolimit(I:Inv X pins σ H s):s.heap.NoLimit:=I.ok.mod.nolimit.keeps I.bk
theorem Inv.lt(I:Inv X pins σ H s):X.env.locals<s.heap.objs.size:=let ⟨_,hn,_⟩:=I.loc;hn.lt
theorem Inv.sz(I:Inv X pins σ H s):X.s₀.heap.objs.size≤s.heap.objs.size:=Nat.le_trans I.ok.above (Nat.le_of_lt I.lt)
theorem Inv.MO(I:Inv X pins σ H s){a:Addr}(h:s.heap.objs.size≤a):a∉X.fs:=λhb=>by
 obtain⟨_,o,ho,_⟩:=I.ok.ou.mem hb
 exact absurd (Nat.lt_of_lt_of_le (Heap.lt_size ho) (Nat.le_trans I.sz h)) (Nat.lt_irrefl _)
theorem Inv.cne(I:Inv X pins σ H s):∀x c,X.env.cells.lookup x=some c→c≠X.env.locals:=λx c e z=>by
 obtain⟨v,o,ho,hd⟩:=I.cell x c e
 obtain⟨m,⟨o',es,ep,ho',hd',_⟩,_⟩:=I.loc
 rw[z,ho'] at ho;cases ho;rw[hd'] at hd;cases hd
theorem Inv.ou(I:Inv X pins σ H s):s.heap.FunFrames X.base X.outer:=by
 have all:∀(l:List Env),(∀b∈frs l,b∈X.fs)→X.s₀.heap.FunFrames X.base l→s.heap.FunFrames X.base l:=by
  intro l
  induction l with
  | nil=>intro _ _;trivial
  | cons env r ih =>
   intro hs hl
   obtain⟨hk,⟨L,o,hf,hn,ho,hd⟩,hr⟩:=hl
   have hL:L∈X.fs:=hs L (by unfold frs;rw[List.filterMap_cons,hf];exact List.mem_cons_self)
   obtain⟨sl,e⟩:=I.base.slot L o ho (I.ok.frf L hL) hL λz=>I.ok.Eo L z hL
   exact⟨hk,⟨L,_,hf,hn,e,hd⟩,ih (λb hb=>hs b (by unfold frs;rw[List.filterMap_cons,hf];exact List.mem_cons_of_mem _ hb)) hr⟩
 exact all X.outer (λ_ hb=>hb) I.ok.ou
theorem Inv.stack(I:Inv X pins σ H s):s.heap.FunFrames X.base X.stack:=by
 rcases I.ok.stk with e|⟨e,hf⟩
 ·rw[e];exact I.ou
 ·rw[e]
  obtain⟨m,hn,_⟩:=I.loc
  refine .cons (by rw[I.ok.kind];decide) hf hn ?_ I.ou
  exact Heap.get?_none_of_le (Nat.le_trans I.ok.bsz I.ok.above)
theorem Inv.tH(I:Inv X pins σ H s):∀b∈frs X.stack,b∈X.env.locals::X.fs:=λb hb=>by
 rcases I.ok.stk with e|⟨e,hf⟩
 ·rw[e] at hb;exact List.mem_cons_of_mem _ hb
 ·rw[e] at hb
  unfold frs at hb
  rw[List.filterMap_cons,hf] at hb
  exact hb
theorem Inv.yk(I:Inv X pins σ H s):∀b∈frs X.stack,H b=none:=λb hb=>by
 rcases List.mem_cons.mp (I.tH b hb) with e|hb
 ·rw[e];exact I.free
 ·obtain⟨_,o,ho,_⟩:=I.ok.ou.mem hb
  exact I.base.free b o ho (I.ok.frf b hb) λz=>I.ok.Eo b z hb
theorem Inv.step{g':Array GenState}{t':Nat}{d':Drawn}{ch:List Addr}(I:Inv X pins σ H s)
  (hch:∀b∈ch,(b∈X.ex∨X.s₀.heap.objs.size≤b)∧b≠X.env.locals∧(∀x c,X.env.cells.lookup x=some c→c≠b)∧∀p∈X.pn++pins,p.1≠b)
  (keep:∀b o,b≠X.env.locals→b∉X.fs→b∉ch→s.heap.get? b=some o→H b=none→h'.get? b=some o)
  (slot:∀b o,b≠X.env.locals→b∈X.fs→b∉ch→s.heap.get? b=some o→H b=none→∃sl,h'.get? b=some { o with slots:=sl }) (free:∀b o,b∉ch→s.heap.get? b=some o→H b=none→H' b=none)
  (there:∀b o,b∉ch→s.heap.get? b=some o→∃o',h'.get? b=some o')
  (rh:∀b xs,H b=some (.tup xs)→H' b=some (.tup xs)) (eD:∀b o u,H b=some (.frz o u)→H' b=some (.frz o u)) (rj:∀b ps,H b=some (.tbl ps)→∃more,H' b=some (.tbl (ps++more)))
  (ns:∀m,s.heap.Ns X.env.locals m→h'.Ns X.env.locals m) (hok:HOk X.prog X.w H' h') (hg:AllBare g') :
  Inv X pins σ H' { s with heap:=h',gens:=g',drawn:=d',toks:=t' }:=by
 have neL:∀b o,X.s₀.heap.get? b=some o→b≠X.env.locals:=λb o e=>Nat.ne_of_lt (Nat.lt_of_lt_of_le (Heap.lt_size e) I.ok.above)
 have neC:∀b o,X.s₀.heap.get? b=some o→b∉X.ex→b∉ch:=λb o e hx hb=>by
  rcases (hch b hb).1 with z|z
  ·exact hx z
  ·exact absurd (Nat.lt_of_lt_of_le (Heap.lt_size e) z) (Nat.lt_irrefl _)
 have cellK:∀x c,X.env.cells.lookup x=some c→∀v,s.heap.IsCell c v→h'.IsCell c v:=λx c e v ak=>by
  obtain⟨o,ho,hd⟩:=ak
  have nch:c∉ch:=λz=>(hch c z).2.2.1 x c e rfl
  by_cases hc:c∈X.fs
  ·obtain⟨sl,q⟩:=slot c o (I.cne x c e) hc nch ho (I.kS x c e)
   exact⟨_,q,hd⟩
  ·exact⟨o,keep c o (I.cne x c e) hc nch ho (I.kS x c e),hd⟩
 refine⟨I.ok,I.os,hg,⟨λb o e n hb hx=>?_,λb o e n hb hx=>?_,λb o e n hx=>?_,λb o e hx=>?_,λb xs e=>rh b xs (I.base.rh b xs e),λb o xs e=>eD b o xs (I.base.eD b o xs e),λb ps e=>?_⟩,?_,λx c e=>?_,?_,λx c e=>?_,λp hp=>?_,hok,I.len⟩
 ·exact keep b o (neL b o e) hb (neC b o e hx) (I.base.keep b o e n hb hx) (I.base.free b o e n hx)
 ·obtain⟨sl,e1⟩:=I.base.slot b o e n hb hx
  obtain⟨sl',e2⟩:=slot b _ (neL b o e) hb (neC b o e hx) e1 (I.base.free b o e n hx)
  exact⟨sl',e2⟩
 ·obtain⟨o',e1⟩:=I.base.there b o e hx
  exact free b o' (neC b o e hx) e1 (I.base.free b o e n hx)
 ·obtain⟨o',e1⟩:=I.base.there b o e hx
  exact there b o' (neC b o e hx) e1
 ·obtain⟨m1,e1⟩:=I.base.rj b ps e
  obtain⟨m2,e2⟩:=rj b _ e1
  exact⟨m1++m2,by rw[e2,Array.append_assoc]⟩
 ·obtain⟨m,hn,hl⟩:=I.loc
  refine⟨m,ns m hn,λi x v e1 e2 e3=>?_⟩
  obtain⟨u,r,l⟩:=hl i x v e1 e2 e3
  refine⟨u,r,?_⟩
  rcases l with l|⟨k,c,e,z⟩
  ·exact .inl l
  ·exact .inr ⟨k,c,e,cellK x c e _ z⟩
 ·obtain⟨v,z⟩:=I.cell x c e
  exact⟨v,cellK x c e v z⟩
 ·obtain⟨m,⟨o,_,_,ho,_⟩,_⟩:=I.loc
  exact free _ o (λz=>(hch _ z).2.1 rfl) ho I.free
 ·obtain⟨v,o,ho,hd⟩:=I.cell x c e
  exact free c o (λz=>(hch c z).2.2.1 x c e rfl) ho (I.kS x c e)
 ·obtain⟨e,n,ne,nf,d⟩:=I.pin p hp
  have nch:p.1∉ch:=λz=>(hch p.1 z).2.2.2 p hp rfl
  exact⟨keep p.1 p.2 ne nf nch e n,free p.1 p.2 nch e n,ne,nf,d⟩
theorem Inv.un{t':Nat}(I:Inv X pins σ H s)(u:Un X.fs [] H H' s.heap h')(hok:HOk X.prog X.w H' h'):Inv X pins σ H' { s with heap:=h',toks:=t' }:=by
 obtain⟨m,⟨o,es,ep,ho,r⟩,_⟩:=id I.loc
 obtain⟨sl,hL⟩:=u.any ho I.free (by simp)
 exact I.step (g':=s.gens) (d':=s.drawn) (ch:=[]) (λ_ z=>nomatch z) (λb o _ hb _ e n=>u.keep b o e n hb (by simp)) (λb o _ hb _ e n=>u.slot b o e n hb (by simp)) (λb o _ e n=>u.free b o e n (by simp)) (λb o _ e=>u.there b o e (by simp)) u.rh u.eD u.rj (λm' hm=>by
  obtain⟨o',es',ep',ho',r'⟩:=hm
  rw[ho] at ho';cases ho'
  exact⟨_,es',ep',hL,r'⟩) hok I.bare
theorem Inv.call{g':Array GenState}{t':Nat}{d':Drawn}{ch:List Addr}(I:Inv X pins σ H s)(u:Un (frs X.stack) ch H H' s.heap h')(hok:HOk X.prog X.w H' h')(hg:AllBare g')
  (hch:∀b∈ch,(b∈X.ex∨X.s₀.heap.objs.size≤b)∧b≠X.env.locals∧(∀x c,X.env.cells.lookup x=some c→c≠b)∧∀p∈X.pn++pins,p.1≠b) :
  Inv X pins σ H' { s with heap:=h',gens:=g',drawn:=d',toks:=t' }:=by
 obtain⟨m,⟨o,es,ep,ho,r⟩,_⟩:=id I.loc
 obtain⟨sl,hL⟩:=u.any ho I.free λz=>(hch _ z).2.1 rfl
 exact I.step (ch:=ch) hch (λb o hL hb hc e n=>u.keep b o e n (λz=>(List.mem_cons.mp (I.tH b z)).elim hL hb) hc) (λb o _ _ hc e n=>u.any e n hc) (λb o hc e n=>u.free b o e n hc) (λb o hc e=>u.there b o e hc) u.rh u.eD u.rj (λm' hm=>by
  obtain⟨o',es',ep',ho',r'⟩:=hm
  rw[ho] at ho';cases ho'
  exact⟨_,es',ep',hL,r'⟩) hok hg
theorem Inv.turned{t':Nat}{it:Addr}(I:Inv X pins σ H s)(k:∀b o,b≠it→s.heap.get? b=some o→h'.get? b=some o)(hn:H it=none)(hL:it≠X.env.locals)
  (h1:it∈X.ex∨X.s₀.heap.objs.size≤it) (h2:∀x c,X.env.cells.lookup x=some c→c≠it) (h3:∀p∈X.pn++pins,p.1≠it):Inv X pins σ H { s with heap:=h',toks:=t' }:=by
 have nit:∀b u,H b=some u→b≠it:=λb u e z=>by rw[z,hn] at e;cases e
 refine I.step (g':=s.gens) (d':=s.drawn) (ch:=[it]) (λb hb=>?_) (λb o _ _ hc e _=>k b o (λz=>hc (by simp[z])) e) (λb o _ _ hc e _=>⟨o.slots,k b o (λz=>hc (by simp[z])) e⟩) (λ_ _ _ _ n=>n)
  (λb o hc e=>⟨o,k b o (λz=>hc (by simp[z])) e⟩) (λ_ _ e=>e) (λ_ _ _ e=>e) (λb ps e=>⟨#[],by rw[e];simp⟩) (λm hm=>?_) (λb u e=>?_) I.bare
 ·have e:b=it:=by simpa using hb
  subst e
  exact⟨h1,hL,h2,h3⟩
 ·obtain⟨o,es,ep,ho,r⟩:=hm
  exact⟨o,es,ep,k _ o (Ne.symm hL) ho,r⟩
 ·refine (I.hok b u e).uU (λc v hc q=>k c v ?_ q) (λ_ q=>q) λ_ _ q=>q
  rcases hc with z|z
  ·rw[z];exact nit b u e
  ·exact nit c _ z
theorem Inv.tok(I:Inv X pins σ H s)(t:Nat):Inv X pins σ H { s with toks:=t }:=I.un (h':=s.heap) (t':=t) Un.refl I.hok
theorem Inv.kept{t':Nat}(I:Inv X pins σ H s)(k:∀b u,s.heap.get? b=some u→h'.get? b=some u):Inv X pins σ H { s with heap:=h',toks:=t' }:=I.un (Un.kept k) (I.hok.kept k)
theorem Inv.laid{a:Addr}{o:HO}{t':Nat}(I:Inv X pins σ H s)(k:∀b u,s.heap.get? b=some u→h'.get? b=some u)(hp:s.heap.objs.size≤a)(new:cL X.prog X.w (upd H a o) h' a o) :
  Inv X pins σ (upd H a o) { s with heap:=h',toks:=t' }:=I.un (Un.laid k hp (I.hok.fresh hp)) (I.hok.laid k hp new)
theorem Inv.write{x e:Addr}{o:HO}{t':Nat}(I:Inv X pins σ H s)(mu:Mut (H x))(he:e=x∨H e=some (.own x))(k:∀b u,b≠e→s.heap.get? b=some u→h'.get? b=some u)(heo:∃u,h'.get? e=some u)
  (new:cL X.prog X.w (upd H x o) h' x o):Inv X pins σ (upd H x o) { s with heap:=h',toks:=t' }:=I.un (Un.write mu he k heo) (I.hok.write mu he k heo new)
theorem Inv.ym{G1:List (Addr×Obj)}(I:Inv X pins σ H s)(h:∀p∈G1,s.heap.get? p.1=some p.2∧H p.1=none∧p.1≠X.env.locals∧p.1∉X.fs∧∀v,p.2.data≠.cell v):Inv X G1 σ H s :=
 ⟨I.ok,I.os,I.bare,I.base,I.loc,I.cell,I.free,I.kS,λp hp=>(List.mem_append.mp hp).elim (λz=>I.pin p (List.mem_append_left _ z)) (h p),I.hok,I.len⟩
theorem uV{N:List Str}(hN:N.Nodup){i j:Nat}{x:Str}(a:N[i]?=some x)(b:N[j]?=some x):i=j:=by
 obtain⟨h1,e1⟩:=List.getElem?_eq_some_iff.mp a
 obtain⟨h2,e2⟩:=List.getElem?_eq_some_iff.mp b
 exact (List.getElem_inj hN).mp (e1.trans e2.symm)
theorem sd{M:Model}{A:Around}{E:Value→Shared→Prop}{i:Nat}{x:Str}{v:V}{u:Value}{Q:Unit→Shared→Prop}(I:Inv X pins σ H s)(hN:X.N.Nodup)(hi:X.N[i]?=some x)(hx:Loc X.env.scope x)(r:RelV v u)
  (h:∀s',Inv X pins (σ.set i (some v)) H s'→(∃a,Heap.SameBut a s.heap s'.heap∧(a=X.env.locals∨X.env.cells.lookup x=some a))→Q () s') (hf:X.fn x=true∨X.env.scope.names.lookup x=some .local:=by first|exact .inl rfl|exact .inr rfl|assumption):wpAny M A (storeName X.env x u) Q E s:=by
 obtain⟨m,hn,hl⟩:=id I.loc
 have MP:(X.env.scope.kind==.class || (X.env.scope.kind==.module && X.env.locals != X.env.globals))=false:=by rw[I.ok.kind];rfl
 have hiσ:i<σ.length:=by rw[I.len];exact (List.getElem?_eq_some_iff.mp hi).1
 have cne:=I.cne
 have tracked:∀{a:Addr}{h':Heap},(∃o,s.heap.get? a=some o∧H a=none)→Heap.SameBut a s.heap h'→HOk X.prog X.w H h':=λ{a h'} ha hs b ob e=>by
  obtain⟨_,_,G2⟩:=ha
  refine (I.hok b ob e).uU (λc w' hc q=>(hs.2 c ?_).trans q) (λ_ q=>q) λ_ _ q=>q
  rintro rfl
  rcases hc with rfl|hc
  ·rw[G2] at e;cases e
  ·rw[G2] at hc;cases hc
 rcases hx with hk|hk
 ·refine wpAny_storeName_local hk hn (λh' hn' hs=>?_) MP
  obtain⟨oL,_,_,hoL,_⟩:=id hn
  refine h _ ⟨I.ok,I.os,I.bare,⟨λb o e n hb hx=>?_,λb o e n hb hx=>?_,I.base.free,λb o e hx=>?_,I.base.rh,I.base.eD,I.base.rj⟩,⟨_,hn',λj y v' e1 e2 e3=>?_⟩,λy c e=>?_,I.free,I.kS,λp hp=>?_,tracked ⟨oL,hoL,I.free⟩ hs,by simpa using I.len⟩ ⟨_,hs,.inl rfl⟩
  ·exact (hs.2 b (Nat.ne_of_lt (Nat.lt_of_lt_of_le (Heap.lt_size e) I.ok.above))).trans (I.base.keep b o e n hb hx)
  ·obtain⟨sl,e1⟩:=I.base.slot b o e n hb hx
   exact⟨sl,(hs.2 b (Nat.ne_of_lt (Nat.lt_of_lt_of_le (Heap.lt_size e) I.ok.above))).trans e1⟩
  ·obtain⟨o',e1⟩:=I.base.there b o e hx
   exact⟨o',(hs.2 b (Nat.ne_of_lt (Nat.lt_of_lt_of_le (Heap.lt_size e) I.ok.above))).trans e1⟩
  ·by_cases hj:j=i
   ·subst hj
    rw[hi] at e1;cases e1
    rw[List.getElem?_set_self hiσ] at e2
    cases e2
    exact⟨u,r,.inl ⟨hk,by simp⟩⟩
   ·rw[List.getElem?_set_ne (Ne.symm hj)] at e2
    obtain⟨u',r',q⟩:=hl j y v' e1 e2 e3
    refine⟨u',r',?_⟩
    rcases q with ⟨k,e⟩|⟨k,c,e,z⟩
    ·refine .inl ⟨k,?_⟩
     have:y≠x:=λe=>hj (uV hN e1 (e ▸ hi))
     simp[this,e]
    ·exact .inr ⟨k,c,e,z.sameBut hs (cne y c e)⟩
  ·obtain⟨w',z⟩:=I.cell y c e
   exact⟨w',z.sameBut hs (cne y c e)⟩
  ·obtain⟨e,n,ne,nf,d⟩:=I.pin p hp
   exact⟨(hs.2 p.1 ne).trans e,n,ne,nf,d⟩
 ·have hfn:X.fn x=true:=by
   rcases hf with z|z
   ·exact z
   ·rw[z] at hk;cases hk
  obtain⟨c,hc⟩:=I.ok.has x (.inl hk)
  obtain⟨w',z⟩:=I.cell x c hc
  refine wpAny_storeName_cell I.ok.kind hk hc z (λh' hc' hs=>?_)
  obtain⟨oc,hoc,MQ⟩:=id z
  refine h { s with heap:=h' } ⟨I.ok,I.os,I.bare,⟨λb o e n hb hx=>?_,λb o e n hb hx=>?_,I.base.free,λb o e hx=>?_,I.base.rh,I.base.eD,I.base.rj⟩,⟨m,hn.sameBut hs (Ne.symm (cne x c hc)),λj y v' e1 e2 e3=>?_⟩,λy c' e=>?_,I.free,I.kS,λp hp=>?_,tracked ⟨oc,hoc,I.kS x c hc⟩ hs,by simpa using I.len⟩ ⟨c,hs,.inr hc⟩
  ·exact (hs.2 b (Nat.ne_of_lt (Nat.lt_of_lt_of_le (Heap.lt_size e) (I.ok.cab x c hfn hc)))).trans (I.base.keep b o e n hb hx)
  ·obtain⟨sl,e1⟩:=I.base.slot b o e n hb hx
   exact⟨sl,(hs.2 b (Nat.ne_of_lt (Nat.lt_of_lt_of_le (Heap.lt_size e) (I.ok.cab x c hfn hc)))).trans e1⟩
  ·obtain⟨o',e1⟩:=I.base.there b o e hx
   exact⟨o',(hs.2 b (Nat.ne_of_lt (Nat.lt_of_lt_of_le (Heap.lt_size e) (I.ok.cab x c hfn hc)))).trans e1⟩
  ·by_cases hj:j=i
   ·subst hj
    rw[hi] at e1;cases e1
    rw[List.getElem?_set_self hiσ] at e2
    cases e2
    exact⟨u,r,.inr ⟨.inl hk,c,hc,hc'⟩⟩
   ·rw[List.getElem?_set_ne (Ne.symm hj)] at e2
    obtain⟨u',r',q⟩:=hl j y v' e1 e2 e3
    refine⟨u',r',?_⟩
    rcases q with q|⟨k,c',e,z'⟩
    ·exact .inl q
    ·refine .inr ⟨k,c',e,z'.sameBut hs ?_⟩
     rintro rfl
     exact hj (uV hN e1 (I.ok.inj _ _ _ e hc ▸ hi))
  ·by_cases hcc:c'=c
   ·subst hcc;exact⟨_,hc'⟩
   ·obtain⟨w2,z2⟩:=I.cell y c' e
    exact⟨w2,z2.sameBut hs hcc⟩
  ·obtain⟨e,n,ne,nf,d⟩:=I.pin p hp
   refine⟨(hs.2 p.1 ?_).trans e,n,ne,nf,d⟩
   intro q
   rw[q,hoc] at e
   have q':oc=p.2:=Option.some.inj e
   exact d w' (by rw[← q'];exact MQ)
theorem uW{M:Model}{A:Around}{E:Value→Shared→Prop}{i:Nat}{x:Str}{v:V}{u:Value}{Q:Unit→Shared→Prop}(I:Inv X pins σ H s)(hN:X.N.Nodup)(hi:X.N[i]?=some x)(hx:Loc X.env.scope x)(r:RelV v u)
  (h:∀s',Inv X pins (σ.set i (some v)) H s'→Q () s') (hf:X.fn x=true∨X.env.scope.names.lookup x=some .local:=by first|exact .inl rfl|exact .inr rfl|assumption):wpAny M A (storeName X.env x u) Q E s :=
 sd I hN hi hx r (λs' I' _=>h s' I') hf
theorem Inv.Km{s':Shared}{ch:List Addr}(I:Inv X pins σ H s)(ho:s'.os=s.os)(u:Un (frs X.stack) ch H H' s.heap s'.heap)(hok:HOk X.prog X.w H' s'.heap)(hg:AllBare s'.gens)
  (hch:∀b∈ch,(b∈X.ex∨X.s₀.heap.objs.size≤b)∧b≠X.env.locals∧(∀x c,X.env.cells.lookup x=some c→c≠b)∧∀p∈X.pn++pins,p.1≠b):Inv X pins σ H' s':=by
 obtain⟨h',g',d',t',o'⟩:=s'
 have e:o'=s.os:=ho
 subst e
 exact I.call (g':=g') (t':=t') (d':=d') u hok hg hch
end
noncomputable abbrev XK := Value → Option Addr → Hp → Prop
noncomputable abbrev St := List (Option V)
noncomputable abbrev VK := V → Hp → Prop
noncomputable abbrev TE := St → Hp → VK → Prop
noncomputable abbrev TT := St → Hp → (Bool → Hp → Prop) → Prop
noncomputable abbrev TA := St → Hp → (List V → Hp → Prop) → Prop
structure Ends where
 nx:St→Hp→Prop
 rt:VK
 bk:St→Hp→Prop:=λ_ _=>False
 ct:St→Hp→Prop:=λ_ _=>False
noncomputable abbrev TS := Ends → St → Hp → Prop
def EP(X:Cx)(pins:List (Addr×Obj))(σ:St)(Q:VK)(u:Value)(s':Shared):Prop:=∃v H',Inv X pins σ H' s'∧RelV v u∧Q v H'
def TP(X:Cx)(pins:List (Addr×Obj))(σ:St)(Q:Bool→Hp→Prop)(b:Bool)(s':Shared):Prop:=∃H',Inv X pins σ H' s'∧Q b H'
def AP(X:Cx)(pins:List (Addr×Obj))(σ:St)(Q:List V→Hp→Prop)(us:List Value)(s':Shared):Prop:=∃vs H',Inv X pins σ H' s'∧Vals vs us∧Q vs H'
def SP(X:Cx)(pins:List (Addr×Obj))(D:Ends)(f:Flow)(s':Shared):Prop :=
 match f with
 | .next=>∃σ' H',Inv X pins σ' H' s'∧D.nx σ' H'
 | .brk=>∃σ' H',Inv X pins σ' H' s'∧D.bk σ' H'
 | .cont=>∃σ' H',Inv X pins σ' H' s'∧D.ct σ' H'
 | .ret u=>∃v σ' H',Inv X pins σ' H' s'∧RelV v u∧D.rt v H'
def PE(X:Cx)(e:Expr)(t:TE):Prop :=
 ∀(pins:List (Addr×Obj)) (s:Shared) (σ:St) (H:Hp) (Q:VK),Inv X pins σ H s→t σ H Q→wpAny (model X.prog X.w) X.A (eval e X.env) (EP X pins σ Q) X.xe s
def PT(X:Cx)(e:Expr)(t:TT):Prop :=
 ∀(pins:List (Addr×Obj)) (s:Shared) (σ:St) (H:Hp) (Q:Bool→Hp→Prop),Inv X pins σ H s→t σ H Q→wpAny (model X.prog X.w) X.A (isTrue e X.env (eval e X.env)) (TP X pins σ Q) X.xe s
def PW(X:Cx)(e:Expr)(t:TT):Prop :=
 ∀(whole:Sem Value) (pins:List (Addr×Obj)) (s:Shared) (σ:St) (H:Hp) (Q:Bool→Hp→Prop),Inv X pins σ H s→t σ H Q→wpAny (model X.prog X.w) X.A (isTrue e X.env whole) (TP X pins σ Q) X.xe s
theorem PW.pt{X:Cx}{e:Expr}{t:TT}(h:PW X e t):PT X e t:=h _
def PA(X:Cx)(es:List Expr)(t:TA):Prop :=
 ∀(pos:Pos) (pins:List (Addr×Obj)) (s:Shared) (σ:St) (H:Hp) (Q:List V→Hp→Prop),Inv X pins σ H s→t σ H Q→wpAny (model X.prog X.w) X.A (spliced (backTo pos (starEach es X.env))) (AP X pins σ Q) X.xe s
def PS(X:Cx)(st:Stmt)(t:TS):Prop :=
 ∀(pins:List (Addr×Obj)) (s:Shared) (σ:St) (H:Hp) (D:Ends),Inv X pins σ H s→t D σ H→wpAny (model X.prog X.w) X.A (exec st X.env) (SP X pins D) X.xe s
def PSs(X:Cx)(st:List Stmt)(t:TS):Prop :=
 ∀(pins:List (Addr×Obj)) (s:Shared) (σ:St) (H:Hp) (D:Ends),Inv X pins σ H s→t D σ H→wpAny (model X.prog X.w) X.A (execs st X.env) (SP X pins D) X.xe s
theorem thn{α:Type}{t:Sem α}{Q Q':α→Shared→Prop}{M:Model}{A:Around}{E:Value→Shared→Prop}{s:Shared}(h:wpAny M A t Q E s)(hQ:∀a s,Q a s→Q' a s):wpAny M A t Q' E s:=wpAny_mono h hQ λ_ _ x=>x
section
variable{X:Cx}
theorem bin{a b:Expr}{ta tb:TE}(ha:PE X a ta)(hb:PE X b tb){pins:List (Addr×Obj)}{s:Shared}{σ:St}{H:Hp}{R:V→V→Hp→Prop}(I:Inv X pins σ H s)(h:ta σ H λx H1=>tb σ H1 λy H2=>R x y H2)
  {α:Type}{Q:α→Shared→Prop}{f:Value→Value→Sem α}
  (hf:∀v u s2 x y H2,Inv X pins σ H2 s2→RelV x v→RelV y u→R x y H2→wpAny (model X.prog X.w) X.A (f v u) Q X.xe s2) :
  wpAny (model X.prog X.w) X.A (eval a X.env) (λv s₁=>wpAny (model X.prog X.w) X.A (eval b X.env) (λu s₂=>wpAny (model X.prog X.w) X.A (f v u) Q X.xe s₂) X.xe s₁) X.xe s:=by
 refine thn (ha pins s σ H _ I h) λv s1 ak=>?_
 obtain⟨x,H1,I1,r1,q1⟩:=ak
 refine thn (hb pins s1 σ H1 _ I1 q1) λu s2 df=>?_
 obtain⟨y,H2,I2,r2,q2⟩:=df
 exact hf v u s2 x y H2 I2 r1 r2 q2
def MR(i:Nat):TE:=λσ H Q=>∃v,σ[i]?=some (some v)∧Q v H
def tC(v:V):TE:=λ_ H Q=>Q v H
theorem tI{i:Nat}{x:Str}{pos:Pos}(hN:X.N[i]?=some x)(hv:Vis X.env.scope x)(hd:(x==("__debug__":Str))=false:=by decide)(hcd:(x==("__classdict__":Str))=false:=by decide):PE X (.Name x pos) (MR i):=by
 intro pins s σ H Q I h
 obtain⟨v,e,h⟩:=h
 obtain⟨m,hn,hl⟩:=I.loc
 obtain⟨u,r,l⟩:=hl i x v hN e hv
 have fin:EP X pins σ Q u s:=⟨v,H,I,r,h⟩
 rcases l with ⟨hk,hm⟩|⟨hk,c,hc,yn⟩
 ·exact wpAny_Name (wpAny_loadName_local I.ok.kind hk hn hm fin) hd
 ·rcases hk with hk|hk
  ·exact wpAny_Name (wpAny_loadName_cell I.ok.kind hk hc yn fin) hd
  ·exact wpAny_Name (wpAny_loadName_free I.ok.kind hk hc yn fin hcd) hd
theorem Hy{i j pos}:PE X (.Constant (.int i) j pos) (tC (.int i)):=λ_ _ _ H _ I h=>wpAny_Constant_int ⟨.int i,H,I.tok _,⟨_,rfl⟩,h⟩
theorem Kn{b j pos}:PE X (.Constant (.bool b) j pos) (tC (.bl b)):=λ_ _ _ H _ I h=>Constant_bool ⟨.bl b,H,I,rfl,h⟩
theorem Hz{j pos}:PE X (.Constant .none j pos) (tC .non):=λ_ _ _ H _ I h=>Constant_none ⟨.non,H,I,rfl,h⟩
theorem HA{x j pos}:PE X (.Constant (.str x) j pos) (tC (.str x)):=λ_ _ _ H _ I h=>Calls.Constant_str ⟨.str x,H,I.tok _,⟨_,rfl⟩,h⟩
def Gl(X:Cx)(x:Str):Prop:=X.env.kindOf x=some .globalImplicit
theorem Ep{E:Value→Shared→Prop}{pins:List (Addr×Obj)}{s:Shared}{σ:St}{H:Hp}{x:Str}{u:Value}{pos:Pos}{Q:Value→Shared→Prop}(I:Inv X pins σ H s)(hg:Gl X x)(hm:X.mg x=some u)(h:Q u s)
  (hd:(x==("__debug__":Str))=false:=by decide):wpAny (model X.prog X.w) X.A (eval (.Name x pos) X.env) Q E s :=
 Calls.Name_function_global I.ok.kind hg (Calls.loadGlobal_global (by rw[I.ok.glob];exact I.mod.glob.keeps I.bk) hm h) hd
theorem mY{E:Value→Shared→Prop}{pins:List (Addr×Obj)}{s:Shared}{σ:St}{H:Hp}{x:Str}{u:Value}{pos:Pos}{Q:Value→Shared→Prop}(I:Inv X pins σ H s)(hg:Gl X x)(hm:X.mg x=none)(hv:bootBuiltins x=some u)(h:Q u s)
  (hn:x≠"__name__":=by decide) (hd:(x==("__debug__":Str))=false:=by decide):wpAny (model X.prog X.w) X.A (eval (.Name x pos) X.env) Q E s:=by
 obtain⟨mb,h1,h2⟩:=I.mod.blt
 exact Calls.Name_function_global I.ok.kind hg (Calls.loadGlobal_builtin (by rw[I.ok.glob];exact I.mod.glob.keeps I.bk) hm (by rw[I.ok.blt];exact h1.keeps I.bk) ((h2 x hn).trans hv) h) hd
theorem Er{x:Str}{v:V}{u:Value}{pos:Pos}(hg:Gl X x)(hm:X.mg x=none)(hv:bootBuiltins x=some u)(r:RelV v u)(hn:x≠"__name__":=by decide)(hd:(x==("__debug__":Str))=false:=by decide):PE X (.Name x pos) (tC v) :=
 λ_ _ _ H _ I h=>mY I hg hm hv ⟨v,H,I,r,h⟩ hn hd
variable{a b:Expr}{ta tb:TE}{pos:Pos}
def PC(X:Cx)(op:CmpOp)(a b:Expr)(t:TE):Prop :=
 ∀(pins:List (Addr×Obj)) (s:Shared) (σ:St) (H:Hp) (Q:VK),Inv X pins σ H s→t σ H Q →
  wpAny (model X.prog X.w) X.A (eval a X.env) (λv s₁=>wpAny (model X.prog X.w) X.A (eval b X.env) (λu s₂=>wpAny (model X.prog X.w) X.A (compareOp op v u) (EP X pins σ Q) X.xe s₂) X.xe s₁) X.xe s
theorem Bc(b:Expr){op:CmpOp}(h:op≠.In)(h2:op≠.NotIn):behindInMarks op b=false:=by
 have e1:(op==CmpOp.In)=false:=by cases op<;>first|rfl|exact absurd rfl h
 have e2:(op==CmpOp.NotIn)=false:=by cases op<;>first|rfl|exact absurd rfl h2
 cases b<;>simp[behindInMarks,e1,e2]
def tB(t:TE):TT:=λσ H Q=>t σ H λx H1=>∃c,x=.bl c∧Q c H1
theorem MS{op:CmpOp}{t:TE}(h:PC X op a b t)(h1:behindInMarks op b=false:=by first|exact Bc _ (by decide) (by decide)|rfl):PT X (.Compare a [op] [b] pos) (tB t):=by
 intro pins s σ H Q I hw
 refine wpAny_isTrue_Compare1 (thn (h pins s σ H _ I hw) λv s1 h1=>thn h1 λu s2 h2=>thn h2 λc s3 ak=>?_) h1
 obtain⟨x,H1,I1,r1,q1⟩:=ak
 obtain⟨d,rfl,q⟩:=q1
 cases r1
 exact wpAny_truthy_bool ⟨H1,I1,q⟩
theorem HB{e:Expr}{t:TE}(h:PE X e t)(he:∀whole,isTrue e X.env whole=(do let v ← whole;standAt e.pos;holding [v] (truthy v)):=by intro _;rfl):PT X e (tB t):=by
 intro pins s σ H Q I hw
 refine isTrue_plain (thn (h pins s σ H _ I hw) λv s1 ak=>?_) (he _)
 obtain⟨x,H1,I1,r1,q1⟩:=ak
 obtain⟨d,rfl,q⟩:=q1
 cases r1
 exact wpAny_truthy_bool ⟨H1,I1,q⟩
variable{tA tB':TT}{rest:List Expr}
def MT(t u:TT):TT:=λσ H Q=>t σ H λc H1=>if c=true then u σ H1 Q else Q false H1
def tOr(t u:TT):TT:=λσ H Q=>t σ H λc H1=>if c=true then Q true H1 else u σ H1 Q
def MU(t:TT):TT:=λσ H Q=>t σ H λc H1=>Q (!c) H1
theorem Es(ha:PT X a tA):PW X (.BoolOp .And [a] pos) tA:=by
 intro wh pins s σ H Q I h
 refine isTrue_and (thn (ha pins s σ H Q I h) λc s1 e=>?_)
 cases c with
 | true=>exact isTrue_and_nil e
 | false=>exact e
theorem HC(ha:PT X a tA):PW X (.BoolOp .Or [a] pos) tA:=by
 intro wh pins s σ H Q I h
 refine isTrue_or (thn (ha pins s σ H Q I h) λc s1 e=>?_)
 cases c with
 | false=>exact isTrue_or_nil e
 | true=>exact e
theorem HD(ha:PT X a tA)(hb:PW X (.BoolOp .And (b::rest) pos) tB'):PW X (.BoolOp .And (a::b::rest) pos) (MT tA tB'):=by
 intro wh pins s σ H Q I h
 refine isTrue_and (thn (ha pins s σ H _ I h) λc s1 ak=>?_)
 obtain⟨H1,I1,q1⟩:=ak
 cases c with
 | true=>exact hb wh pins s1 σ H1 Q I1 q1
 | false=>exact⟨H1,I1,q1⟩
theorem Ko(ha:PT X a tA)(hb:PW X (.BoolOp .Or (b::rest) pos) tB'):PW X (.BoolOp .Or (a::b::rest) pos) (tOr tA tB'):=by
 intro wh pins s σ H Q I h
 refine isTrue_or (thn (ha pins s σ H _ I h) λc s1 ak=>?_)
 obtain⟨H1,I1,q1⟩:=ak
 cases c with
 | true=>exact⟨H1,I1,q1⟩
 | false=>exact hb wh pins s1 σ H1 Q I1 q1
theorem HE(ha:PT X a tA):PT X (.UnaryOp .Not a pos) (MU tA):=by
 intro pins s σ H Q I h
 exact isTrue_not (ha pins s σ H (λc H1=>Q (!c) H1) I h)
def Kp(ta tb:TE):TE:=λσ H Q=>ta σ H λx H1=>∃c,x=.bl c∧if c=true then tb σ H1 Q else Q (.bl false) H1
def Kq(ta:TE):TE:=λσ H Q=>ta σ H λx H1=>∃c,x=.bl c∧Q (.bl (!c)) H1
theorem HF{op}{t:TE}(h:PE X a t):PE X (.BoolOp op [a] pos) t:=λpins s σ H Q I hw=>BoolOp_one (h pins s σ H Q I hw)
theorem HG(ha:PE X a ta)(hb:PE X (.BoolOp .And (b::rest) pos) tb):PE X (.BoolOp .And (a::b::rest) pos) (Kp ta tb):=by
 intro pins s σ H Q I h
 refine BoolOp_and (thn (ha pins s σ H _ I h) λv s1 ak=>?_)
 obtain⟨x,H1,I1,r1,q1⟩:=ak
 obtain⟨c,rfl,q1⟩:=q1
 cases r1
 refine wpAny_truthy_bool ?_
 cases c with
 | true=>exact hb pins s1 σ H1 Q I1 q1
 | false=>exact⟨.bl false,H1,I1,rfl,q1⟩
theorem HH(ha:PE X a ta):PE X (.UnaryOp .Not a pos) (Kq ta):=by
 intro pins s σ H Q I h
 refine UnaryOp_ (thn (ha pins s σ H _ I h) λv s1 ak=>?_)
 obtain⟨x,H1,I1,r1,q1⟩:=ak
 obtain⟨c,rfl,q1⟩:=q1
 cases r1
 exact not_of (wpAny_truthy_bool ⟨.bl (!c),H1,I1,rfl,q1⟩)
def tIf(t:TT)(ta tb:TE):TE:=λσ H Q=>t σ H λc H1=>if c=true then ta σ H1 Q else tb σ H1 Q
theorem Bd{c:Expr}(hc:PT X c tA)(ha:PE X a ta)(hb:PE X b tb):PE X (.IfExp c a b pos) (tIf tA ta tb):=by
 intro pins s σ H Q I h
 refine wpAny_IfExp (thn (hc pins s σ H _ I h) λd s1 ak=>?_)
 obtain⟨H1,I1,q1⟩:=ak
 cases d with
 | true=>exact ha pins s1 σ H1 Q I1 q1
 | false=>exact hb pins s1 σ H1 Q I1 q1
end
def SqL(K:PySem.W.Frag)(H:Hp)(a:Addr)(xs:List V):Prop :=
 Rd H a (.lst xs) ∨
  ∃(o:Obj) (its:Array Value) (n:Nat),K.lookup a=some o∧o.cls=.type "list"∧o.dict=none∧o.data=.seq its n∧its.size≤sizeLine∧Vals xs its.toList
def SqT(K:PySem.W.Frag)(H:Hp)(a:Addr)(xs:List V):Prop :=
 H a=some (.tup xs)
def MV:Value→Option V
 | .none=>some .non
 | .bool b=>some (.bl b)
 | .int i _=>some (.int i)
 | .str x _=>some (.str x)
 | .bytes b _=>some (.byt b)
 | .float b _=>some (.flt b)
 | .ref a=>some (.ref a)
 | .type n=>some (.ty n)
 | _=>none
theorem RelV.abs{x:V}{u:Value}(r:RelV x u):MV u=some x:=by
 cases x with
 | non=>cases r;rfl
 | bl _=>cases r;rfl
 | int _=>obtain⟨t,rfl⟩:=r;rfl
 | str _=>obtain⟨t,rfl⟩:=r;rfl
 | byt _=>obtain⟨t,rfl⟩:=r;rfl
 | flt _=>obtain⟨t,rfl⟩:=r;rfl
 | ref _=>cases r;rfl
 | ty _=>cases r;rfl
theorem RelV.inj{x y:V}{u:Value}(r:RelV x u)(q:RelV y u):x=y:=Option.some.inj (r.abs.symm.trans q.abs)
theorem Vals.inj:∀{xs ys:List V}{us:List Value},Vals xs us→Vals ys us→xs=ys
 | _,_,_,.nil,.nil=>rfl
 | _,_,_,.cons r t,.cons r' t'=>by rw[r.inj r',Vals.inj t t']
section
variable{X:Cx}{pins:List (Addr×Obj)}{σ:St}{H:Hp}{s:Shared}{a:Addr}{xs ys:List V}
theorem SqL.of{K:PySem.W.Frag}(h:H a=some (.lst xs)):SqL K H a xs:=.inl (.inl h)
theorem SqT.of{K:PySem.W.Frag}(h:H a=some (.tup xs)):SqT K H a xs:=h
theorem Inv.list(I:Inv X pins σ H s)(h:SqL X.K H a xs):∃its:List Value,Vals xs its∧PlainL s.heap a its.toArray∧xs.length≤sizeLine:=by
 rcases h with h|⟨o,its,n,hk,hc,hd,hs,hz,r⟩
 ·obtain⟨z,its,n,r,e⟩:=h.ok I.hok
  exact⟨its,r,⟨_,n,e,rfl,rfl,rfl⟩,z⟩
 ·refine⟨its.toList,r,⟨o,n,I.kIn a o hk,hc,hd,by simpa using hs⟩,?_⟩
  have e:=r.length
  simp only[Array.length_toList] at e
  lia
theorem Inv.tuple(I:Inv X pins σ H s)(h:SqT X.K H a xs):∃its:List Value,Vals xs its∧IsTup s.heap a its.toArray∧xs.length≤sizeLine:=by
 obtain⟨z,its,r,p⟩:=(show cL X.prog X.w H s.heap a (.tup xs) from I.hok a _ h)
 exact⟨its,r,p,z⟩
theorem Inv.uX(I:Inv X pins σ H s)(h:SqL X.K H a xs)(h':SqL X.K H a ys):xs=ys:=by
 obtain⟨its,r,⟨o,n,e,_,_,d⟩,_⟩:=I.list h
 obtain⟨its',r',⟨o',n',e',_,_,d'⟩,_⟩:=I.list h'
 rw[e] at e';cases e'
 rw[d] at d'
 injection d' with d1 _
 have:its=its':=by simpa using congrArg Array.toList d1
 subst this
 exact r.inj r'
theorem Inv.se(I:Inv X pins σ H s)(h:SqT X.K H a xs)(h':SqT X.K H a ys):xs=ys:=by
 obtain⟨its,r,⟨o,e,_,n,d⟩,_⟩:=I.tuple h
 obtain⟨its',r',⟨o',e',_,n',d'⟩,_⟩:=I.tuple h'
 rw[e] at e';cases e'
 rw[d] at d'
 injection d' with d1 _
 have:its=its':=by simpa using congrArg Array.toList d1
 subst this
 exact r.inj r'
end
noncomputable abbrev Cx.rk (X : Cx) (E : Value → Shared → Prop) : Cx := { X with xe := E }
noncomputable abbrev Cx.nox (X : Cx) : Cx := X.rk fun _ _ => False
theorem Cx.Ok.rk{X:Cx}(ok:X.Ok)(E:Value→Shared→Prop):(X.rk E).Ok :=
 ⟨ok.mod,ok.kind,ok.glob,ok.blt,ok.above,ok.inj,ok.has,ok.cab,ok.hd,ok.frames,ok.stk,ok.exf,ok.bs,ok.bsz,ok.zI,ok.Eo,ok.ou,ok.frf⟩
theorem Cx.Ok.jQ{X:Cx}{E:Value→Shared→Prop}(ok:(X.rk E).Ok):X.Ok :=
 ⟨ok.mod,ok.kind,ok.glob,ok.blt,ok.above,ok.inj,ok.has,ok.cab,ok.hd,ok.frames,ok.stk,ok.exf,ok.bs,ok.bsz,ok.zI,ok.Eo,ok.ou,ok.frf⟩
section
variable{X:Cx}{pins:List (Addr×Obj)}{σ:St}{H:Hp}{s:Shared}{E:Value→Shared→Prop}
theorem Inv.rk(I:Inv X pins σ H s)(E:Value→Shared→Prop):Inv (X.rk E) pins σ H s:=⟨I.ok.rk E,I.os,I.bare,I.base,I.loc,I.cell,I.free,I.kS,I.pin,I.hok,I.len⟩
theorem Inv.jQ(I:Inv (X.rk E) pins σ H s):Inv X pins σ H s:=⟨I.ok.jQ,I.os,I.bare,I.base,I.loc,I.cell,I.free,I.kS,I.pin,I.hok,I.len⟩
theorem SP.jQ{D:Ends}{f:Flow}{s':Shared}(h:SP (X.rk E) pins D f s'):SP X pins D f s':=by
 cases f with
 | next=>obtain⟨σ',H',I,q⟩:=h;exact⟨σ',H',I.jQ,q⟩
 | brk=>obtain⟨σ',H',I,q⟩:=h;exact⟨σ',H',I.jQ,q⟩
 | cont=>obtain⟨σ',H',I,q⟩:=h;exact⟨σ',H',I.jQ,q⟩
 | ret u=>obtain⟨v,σ',H',I,r,q⟩:=h;exact⟨v,σ',H',I.jQ,r,q⟩
theorem PSs.nox{st:List Stmt}{t:TS}(h:PSs X.nox st t):PSs X st t:=λpins s σ H D I hw =>
 wpAny_mono (h pins s σ H D (I.rk _) hw) (λ_ _ q=>q.jQ) λ_ _ z=>False.elim z
end
section
variable{X:Cx}{st:Stmt}{rest:List Stmt}{t u:TS}{e:Expr}{te:TE}{pos:Pos}
def Kr:TS:=λD σ H=>D.nx σ H
def MW(t u:TS):TS:=λD σ H=>t { D with nx:=u D } σ H
theorem Et:PSs X [] Kr:=λ_ _ σ H _ I h=>wpAny_execs_nil ⟨σ,H,I,h⟩
theorem Be(h1:PS X st t)(h2:PSs X rest u):PSs X (st::rest) (MW t u):=by
 intro pins s σ H D I h
 refine wpAny_execs_cons (thn (h1 pins s σ H { D with nx:=u D } I h) λf s1 q=>?_)
 cases f with
 | next =>
  obtain⟨σ',H',I',q⟩:=q
  exact h2 pins s1 σ' H' D I' q
 | ret v=>exact q
 | brk=>exact q
 | cont=>exact q
theorem Eu(h1:PS X st t):PSs X [st] t:=by
 intro pins s σ H D I h
 refine wpAny_execs_cons (thn (h1 pins s σ H D I h) λf s1 q=>?_)
 cases f with
 | next=>exact wpAny_execs_nil q
 | ret v=>exact q
 | brk=>exact q
 | cont=>exact q
theorem Inv.quiet{pins:List (Addr×Obj)}{σ:St}{H:Hp}{s:Shared}(I:Inv X pins σ H s):interactive X.env=false:=by simp[interactive,I.ok.kind]
def Ks(te:TE):TS:=λD σ H=>te σ H λ_ H1=>D.nx σ H1
theorem yo(he:PE X e te)(hs:swapsWith e none pos.line X.env=pure false:=by rfl):PS X (.Expr e pos) (Ks te):=by
 intro pins s σ H D I h
 exact wpAny_Expr_any (thn (he pins s σ H _ I h) λv s1 ⟨x,H1,I1,r1,q1⟩=>⟨σ,H1,I1,q1⟩) I.quiet hs
def MX(te:TE):TS:=λD σ H=>te σ H D.rt
theorem HI(he:PE X e te):PS X (.Return (some e) pos) (MX te):=by
 intro pins s σ H D I h
 exact wpAny_Return_some (thn (he pins s σ H _ I h) λv s1 ⟨x,H1,I1,r1,q1⟩=>⟨x,σ,H1,I1,r1,q1⟩)
def MY(c:TT)(t u:TS):TS:=λD σ H=>c σ H λb H1=>if b=true then t D σ H1 else u D σ H1
theorem Kt{c:Expr}{a b:List Stmt}{tc:TT}(hc:PT X c tc)(ha:PSs X a t)(hb:PSs X b u):PS X (.If c a b pos) (MY tc t u):=by
 intro pins s σ H D I h
 refine wpAny_If (thn (hc pins s σ H _ I h) λd s1 ak=>?_)
 obtain⟨H1,I1,q1⟩:=ak
 cases d with
 | true=>exact ha pins s1 σ H1 D I1 q1
 | false=>exact hb pins s1 σ H1 D I1 q1
def HJ:TS:=λ_ _ _=>False
theorem Bf:PS X st HJ:=λ_ _ _ _ _ _ h=>h.elim
end
noncomputable abbrev TG := V → St → Hp → (St → Hp → Prop) → Prop
noncomputable abbrev TGs := List V → St → Hp → (St → Hp → Prop) → Prop
def PG(X:Cx)(target:Expr)(t:TG):Prop :=
 ∀(pins:List (Addr×Obj)) (s:Shared) (σ:St) (H:Hp) (v:V) (u:Value) (Q:St→Hp→Prop),Inv X pins σ H s→RelV v u→t v σ H Q →
  wpAny (model X.prog X.w) X.A (assign target X.env u) (λ_ s'=>∃σ' H',Inv X pins σ' H' s'∧Q σ' H') X.xe s
def PGs(X:Cx)(ts:List Expr)(t:TGs):Prop :=
 ∀(pins:List (Addr×Obj)) (s:Shared) (σ:St) (H:Hp) (vs:List V) (us:List Value) (Q:St→Hp→Prop),Inv X pins σ H s→Vals vs us→t vs σ H Q →
  wpAny (model X.prog X.w) X.A (assignInOrder ((assignEach ts X.env).map (·.2)) us) (λ_ s'=>∃σ' H',Inv X pins σ' H' s'∧Q σ' H') X.xe s
noncomputable abbrev HK := V → V → V → Hp → (Hp → Prop) → Prop
def Ku(X:Cx)(t:HK):Prop :=
 ∀(pins:List (Addr×Obj)) (s:Shared) (σ:St) (H:Hp) (o i v:V) (ov iv u:Value) (Q:Hp→Prop),Inv X pins σ H s→RelV o ov→RelV i iv→RelV v u→t o i v H Q →
  wpAny (model X.prog X.w) X.A (setItem ov iv u) (λ_ s'=>∃H',Inv X pins σ H' s'∧Q H') X.xe s
section
variable{X:Cx}{pos:Pos}
def Bg(i:Nat):TG:=λv σ H Q=>Q (σ.set i (some v)) H
theorem oQ{i:Nat}{x:Str}(hN:X.N.Nodup)(hi:X.N[i]?=some x)(hx:Loc X.env.scope x)(hf:X.fn x=true∨X.env.scope.names.lookup x=some .local:=by first|exact .inl rfl|exact .inr rfl|assumption):PG X (.Name x pos) (Bg i):=by
 intro pins s σ H v u Q I r h
 exact wpAny_assign_Name (uW I hN hi hx r (λs' I'=>⟨_,H,I',h⟩) hf)
def MZ:TGs:=λvs σ H Q=>vs=[]∧Q σ H
def Kv(t:TG)(u:TGs):TGs:=λvs σ H Q=>∃v r,vs=v::r∧t v σ H λσ' H'=>u r σ' H' Q
theorem Ew:PGs X [] MZ:=by
 intro pins s σ H vs us Q I r h
 obtain⟨e,h⟩:=h
 subst e
 cases r
 exact assignInOrder_nil ⟨σ,H,I,h⟩
theorem uY{e:Expr}{es:List Expr}{t:TG}{u:TGs}(h1:PG X e t)(h2:PGs X es u)
  (hs:(assignEach (e::es) X.env).map (·.2)=assign e X.env::(assignEach es X.env).map (·.2):=by rfl):PGs X (e::es) (Kv t u):=by
 intro pins s σ H vs us Q I r h
 obtain⟨v,vr,e1,h⟩:=h
 subst e1
 cases r with
 | cons r rr =>
  rw[hs]
  refine assignInOrder_cons (thn (h1 pins s σ H _ _ _ I r h) λ_ s1 ak=>?_)
  obtain⟨σ1,H1,I1,q1⟩:=ak
  exact h2 pins s1 σ1 H1 _ _ Q I1 rr q1
def M0(K:PySem.W.Frag)(n:Nat)(t:TGs):TG:=λv σ H Q=>∃a xs,v=.ref a∧SqT K H a xs∧xs.length=n∧t xs σ H Q
theorem HL{es:List Expr}{k:Nat}{t:TGs}{n:Nat}(hc:X.calm=true)(h:PGs X es t)
  (hn:(assignEach es X.env).length=n:=by rfl) (hst:(assignEach es X.env).findIdx? (·.1)=none:=by rfl):PG X (.Tuple es k pos) (M0 X.K n t):=by
 intro pins s σ H v u Q I r hw
 obtain⟨a,xs,e1,hq,hl,hw⟩:=hw
 subst e1
 cases r
 obtain⟨its,rv,ht,hz⟩:=I.tuple hq
 refine assign_Tuple_tuple (I.ok.hd hc) ht (by simp[hn,← hl,rv.length]) hst λh' hx=>?_
 have I1:Inv X pins σ H { s with heap:=h' }:=I.kept (t':=s.toks) λb o e=>hx b o (Nat.ne_of_lt (Heap.lt_size e)) e
 exact h pins _ σ H xs _ Q I1 (by simpa using rv) hw
def M3(to ti:TE)(t:HK):TG:=λv σ H Q=>to σ H λo H1=>ti σ H1 λi H2=>t o i v H2 λH3=>Q σ H3
theorem HM{o i:Expr}{to ti:TE}{t:HK}(ho:PE X o to)(hi:PE X i ti)(hs:Ku X t)
  (ha:∀v,assign (.Subscript o i pos) X.env v=(do
   let ov ← holding [v] (eval o X.env)
   let iv ← holding [v,ov] (eval i X.env)
   standAt pos
   holding [v,ov,iv] (setItem ov iv v)
   release [v,ov,iv] []):=by intro _;rfl):PG X (.Subscript o i pos) (M3 to ti t):=by
 intro pins s σ H v u Q I r h
 rw[ha]
 refine wpAny_bind (wpAny_holding (thn (ho pins s σ H _ I h) λov s1 ak=>?_))
 obtain⟨x,H1,I1,r1,q1⟩:=ak
 refine wpAny_bind (wpAny_holding (thn (hi pins s1 σ H1 _ I1 q1) λiv s2 df=>?_))
 obtain⟨y,H2,I2,r2,q2⟩:=df
 refine wpAny_bind (wpAny_standAt (wpAny_bind (wpAny_holding (thn (hs pins s2 σ H2 x y v ov iv u _ I2 r1 r2 r q2) λ_ s3 uZ=>?_))))
 obtain⟨H3,I3,q3⟩:=uZ
 exact wpAny_release ⟨σ,H3,I3,q3⟩
def HN(te:TE)(g:TG):TS:=λD σ H=>te σ H λx H1=>g x σ H1 D.nx
theorem Bh{tg e:Expr}{te:TE}{g:TG}(he:PE X e te)(hg:PG X tg g)(hs:swapsWithSole [tg] e pos.line X.env=pure false:=by rfl)(hw:swappedStores [tg] e X.env=pure none:=by rfl)
  (h1:(assignEach [tg] X.env).map (·.2)=[assign tg X.env]:=by rfl):PS X (.Assign [tg] e pos) (HN te g):=by
 intro pins s σ H D I h
 refine wpAny_Assign_stores (thn (he pins s σ H _ I h) λv s1 ak=>?_) hs hw
 obtain⟨x,H1,I1,r1,q1⟩:=ak
 rw[h1]
 exact thn (hg pins s1 σ H1 x v _ I1 r1 q1) λ_ s2 q=>q
theorem HP{i:Nat}{x:Str}{e:Expr}{te:TE}{pos':Pos}(hN:X.N.Nodup)(hi:X.N[i]?=some x)(hx:Loc X.env.scope x)(he:PE X e te)(hs:swapsWith e (some (.Name x pos')) pos.line X.env=pure false:=by rfl)(hf:X.fn x=true∨X.env.scope.names.lookup x=some .local:=by first|exact .inl rfl|exact .inr rfl|assumption) :
  PS X (.Assign [.Name x pos'] e pos) (HN te (Bg i)):=by
 intro pins s σ H D I h
 refine wpAny_Assign_Name (thn (he pins s σ H _ I h) λv s1 ak=>?_) hs
 obtain⟨y,H1,I1,r1,q1⟩:=ak
 exact uW I1 hN hi hx r1 (λs2 I2=>⟨_,H1,I2,q1⟩) hf
end
section
variable{X:Cx}{pos:Pos}
def HQ(c:TT)(tb:TS):TS:=λD σ H=>∃W:Nat→St→Hp→Prop,(∃m,W m σ H)∧∀m σ H,W m σ H →
 c σ H λb H1=>if b=true then ∃N:St→Hp→Prop,(∀σ' H',N σ' H'→∃m',m'<m∧W m' σ' H')∧tb { D with nx:=N,ct:=N,bk:=D.nx } σ H1 else D.nx σ H1
theorem Bi{c:Expr}{body:List Stmt}{tc:TT}{tb:TS}(hp:PassesOwn (model X.prog X.w) X.A X.env X.xe)(hc:PT X c tc)(hb:PSs X body tb):PS X (.While c body [] pos) (HQ tc tb):=by
 intro pins s σ H D I h
 obtain⟨W,⟨m0,w0⟩,turn⟩:=h
 refine wpAny_While (codeAny_whileLoop (λn s'=>∃σ' H',Inv X pins σ' H' s'∧W n σ' H') ?_ m0 ⟨σ,H,I,w0⟩)
 rintro n s1 ⟨σ1,H1,I1,w1⟩
 refine wpAny_passesOwn hp (thn (hc pins s1 σ1 H1 _ I1 (turn n σ1 H1 w1)) λb s2 ak=>?_)
 obtain⟨H2,I2,q2⟩:=ak
 cases b with
 | true =>
  obtain⟨N,hN,q2⟩:=q2
  rw[if_pos rfl]
  refine wpAny_passesOwn hp (thn (hb pins s2 σ1 H2 _ I2 q2) λf s3 q3=>?_)
  cases f with
  | next =>
   obtain⟨σ3,H3,I3,n3⟩:=q3
   obtain⟨m',hm,w3⟩:=hN σ3 H3 n3
   exact⟨m',hm,σ3,H3,I3,w3⟩
  | cont =>
   obtain⟨σ3,H3,I3,n3⟩:=q3
   obtain⟨m',hm,w3⟩:=hN σ3 H3 n3
   exact⟨m',hm,σ3,H3,I3,w3⟩
  | brk=>exact q3
  | ret v=>exact q3
 | false =>
  rw[if_neg Bool.false_ne_true]
  exact wpAny_execs_nil ⟨σ1,H2,I2,q2⟩
end
structure It where
 go:Nat→Hp→Prop
 yld:Nat→Hp→V→Hp→Prop
 stop:Nat→Hp→Prop
def jR(X:Cx)(pins:List (Addr×Obj))(H:Hp)(b:Addr):Prop :=
 H b=none∧b≠X.env.locals∧b∉X.fs∧(b∈X.ex∨X.s₀.heap.objs.size≤b)∧(∀x c,X.env.cells.lookup x=some c→c≠b)∧∀p∈X.pn++pins,p.1≠b
theorem Inv.u0{X:Cx}{pins:List (Addr×Obj)}{σ:St}{H H':Hp}{s:Shared}{b:Addr}(I:Inv X pins σ H s)(hb:s.heap.objs.size≤b)(hn:H' b=none):jR X pins H' b:=by
 refine⟨hn,Nat.ne_of_gt (Nat.lt_of_lt_of_le I.lt hb),I.MO hb,.inr (Nat.le_trans I.sz hb),λx c e z=>?_,λp hp z=>?_⟩
 ·obtain⟨v,q⟩:=I.cell x c e
  exact absurd (Nat.lt_of_lt_of_le q.lt (by rw[z];exact hb)) (Nat.lt_irrefl _)
 ·exact absurd (Nat.lt_of_lt_of_le (Heap.lt_size (I.pin p hp).1) (by rw[z];exact hb)) (Nat.lt_irrefl _)
structure Turn(P:Program)(w:World)(K:PySem.W.Frag)(tg:Expr)(J:It)(fp:List Addr)(it:Addr)(tn:Nat→Heap→Prop):Prop where
 mem:it∈fp
 obj:∀i h,tn i h→∀b∈fp,∃o,h.get? b=some o∧∀v,o.data≠.cell v
 keep:∀i h h',tn i h→(∀b∈fp,∀o,h.get? b=some o→h'.get? b=some o)→tn i h'
 item:∀(X:Cx),X.prog=P→X.w=w→X.K=K→X.calm=true→∀(i:Nat) (pins:List (Addr×Obj)) (s:Shared) (σ:St) (H:Hp) (E:Value→Shared→Prop),Inv X pins σ H s→(∀b∈fp,jR X pins H b)→tn i s.heap→J.go i H →
  wpAny (model P w) X.A (pyNext (.ref it)) (λr s1=>∃u,r=some u ∧
   wpAny (model P w) X.A (letOwnedTupleGo tg (.ref it) u) (λ_ s2=>∃x H',Inv X pins σ H' s2∧RelV x u∧J.yld i H x H'∧tn (i+1) s2.heap∧∀b∈fp,H' b=none) E s1) E s
 done:∀(X:Cx),X.prog=P→X.w=w→X.K=K→X.calm=true→∀(i:Nat) (pins:List (Addr×Obj)) (s:Shared) (σ:St) (H:Hp) (E:Value→Shared→Prop),Inv X pins σ H s→(∀b∈fp,jR X pins H b)→tn i s.heap→J.stop i H →
  wpAny (model P w) X.A (pyNext (.ref it)) (λr s1=>r=none∧Inv X pins σ H s1) E s
 self:∀(A:Around) (i:Nat) (s:Shared) (Q:Value→Shared→Prop) (E:Value→Shared→Prop),tn i s.heap→Q (.ref it) s→wpAny (model P w) A (pyIter (.ref it)) Q E s
noncomputable abbrev TI := St → Hp → (It → Hp → Prop) → Prop
def PIE(X:Cx)(pins:List (Addr×Obj))(σ:St)(tg:Expr)(R:It→Hp→Prop)(itv:Value)(s2:Shared):Prop :=
 ∃(it:Addr) (fp:List Addr) (tn:Nat→Heap→Prop) (J:It) (H':Hp),itv=.ref it∧Inv X pins σ H' s2∧Turn X.prog X.w X.K tg J fp it tn∧tn 0 s2.heap∧(∀b∈fp,jR X pins H' b)∧R J H'
def PI(X:Cx)(tg iter:Expr)(wi:TI):Prop :=
 ∀(pins:List (Addr×Obj)) (s:Shared) (σ:St) (H:Hp) (R:It→Hp→Prop),Inv X pins σ H s→wi σ H R →
  wpAny (model X.prog X.w) X.A (eval iter X.env) (λv s1=>wpAny (model X.prog X.w) X.A (pyIter v) (PIE X pins σ tg R) X.xe s1) X.xe s
theorem yp {M : Model} {A : Around} {E : Value → Shared → Prop} {s : Shared} {tg : Expr} {it : Addr} {u : Value} {o : Obj} {n : String} {vs : Array Value} {Q : Unit → Shared → Prop} (ho : s.heap.get? it = some o) (hc : o.cls = .type n) (hd : o.data = .fields vs)
    (hn : ["enumerate", "zip", "dict_itemiterator", "dict_reverseitemiterator", "odict_iterator", "itertools.zip_longest", "itertools.pairwise"].contains n = false) (hQ : Q () s) : wpAny M A (letOwnedTupleGo tg (.ref it) u) Q E s := by
  unfold letOwnedTupleGo
  cases tg <;> first
    | exact wpAny_pure hQ
    | (cases u <;> first
        | exact wpAny_pure hQ
        | (refine wpAny_bind (wpAny_load ho ?_)
           rw [hc, hd]
           show wpAny M A (if (["enumerate", "zip", "dict_itemiterator", "dict_reverseitemiterator", "odict_iterator", "itertools.zip_longest", "itertools.pairwise"].contains n && vs[0]? == some (rawInt _)) = true then _ else _) Q E s
           rw [if_neg (by intro h; rw [hn, Bool.false_and] at h; cases h)]
           exact wpAny_pure hQ))
def Itl(K:PySem.W.Frag)(a:Addr):It :=
 ⟨λi H=>∃xs x,SqL K H a xs∧xs[i]?=some x,λi H x H'=>H'=H∧∀xs,SqL K H a xs→xs[i]?=some x,λi H=>∃xs,SqL K H a xs∧xs.length≤i⟩
def Itt(K:PySem.W.Frag)(a:Addr):It :=
 ⟨λi H=>∃xs x,SqT K H a xs∧xs[i]?=some x,λi H x H'=>H'=H∧∀xs,SqT K H a xs→xs[i]?=some x,λi H=>∃xs,SqT K H a xs∧xs.length≤i⟩
def Itr(lo:Int)(n:Nat):It:=⟨λi _=>i<n,λi H x H'=>H'=H∧x=.int (lo+i),λi _=>n≤i⟩
theorem zJ{P:Program}{w:World}{K:PySem.W.Frag}{tg:Expr}(a it:Addr):Turn P w K tg (Itl K a) [it] it (λi h=>h.IsListIter it a i) where
 mem:=by simp
 obj:=λi h st b hb=>by
  have e:b=it:=by simpa using hb
  subst e
  obtain⟨o,e,c,d⟩:=st
  exact⟨o,e,λv z=>by rw[d] at z;cases z⟩
 keep:=λi h h' st k=>st.at λo e=>k it (by simp) o e
 item:=by
  intro X hP hw hK hc i pins s σ H E I hf st hg
  subst hP hw hK
  obtain⟨xs,x,hq,hx⟩:=hg
  obtain⟨its,rv,p,hz⟩:=I.list hq
  obtain⟨u,hu,ru⟩:=rv.get hx
  obtain⟨f0,f1,f2,f3,f4,f5⟩:=hf it (by simp)
  refine wpAny_pyNext_list_item st p.isList (x:=u) (by simpa using hu) λh' st' sb=>?_
  have I1:Inv X pins σ H { s with heap:=h' }:=I.turned (t':=s.toks) (λb o hb e=>(sb.2 b hb).trans e) f0 f1 f3 f4 f5
  obtain⟨o,e,c,d⟩:=id st'
  exact⟨u,rfl,yp (s:={ s with heap:=h' }) e c d (by decide) ⟨x,H,I1,ru,⟨rfl,λys hy=>by rw[I.uX hy hq];exact hx⟩,st',λb hb=>(hf b hb).1⟩⟩
 done:=by
  intro X hP hw hK hc i pins s σ H E I hf st hg
  subst hP hw hK
  obtain⟨xs,hq,hx⟩:=hg
  obtain⟨its,rv,p,hz⟩:=I.list hq
  obtain⟨f0,f1,f2,f3,f4,f5⟩:=hf it (by simp)
  have hl:=rv.length
  exact wpAny_pyNext_list_end (I.ok.hd hc) st p.isList (by simp;lia) λh' eb=>⟨rfl,I.turned (t':=s.toks) (λb o hb e=>eb b o hb e) f0 f1 f3 f4 f5⟩
 self:=λ_ _ _ _ _ st h=>wpAny_pyIter_listiter st h
theorem wx{P:Program}{w:World}{K:PySem.W.Frag}{tg:Expr}(a it:Addr):Turn P w K tg (Itt K a) [it] it (λi h=>h.IsTupleIter it a i) where
 mem:=by simp
 obj:=λi h st b hb=>by
  have e:b=it:=by simpa using hb
  subst e
  obtain⟨o,e,c,d⟩:=st
  exact⟨o,e,λv z=>by rw[d] at z;cases z⟩
 keep:=λi h h' st k=>st.at λo e=>k it (by simp) o e
 item:=by
  intro X hP hw hK hc i pins s σ H E I hf st hg
  subst hP hw hK
  obtain⟨xs,x,hq,hx⟩:=hg
  obtain⟨its,rv,p,hz⟩:=I.tuple hq
  obtain⟨u,hu,ru⟩:=rv.get hx
  obtain⟨f0,f1,f2,f3,f4,f5⟩:=hf it (by simp)
  refine wpAny_pyNext_tuple_item st (show s.heap.IsTuple a its.toArray from p) (x:=u) (by simpa using hu) λh' st' sb=>?_
  have I1:Inv X pins σ H { s with heap:=h' }:=I.turned (t':=s.toks) (λb o hb e=>(sb.2 b hb).trans e) f0 f1 f3 f4 f5
  obtain⟨o,e,c,d⟩:=id st'
  exact⟨u,rfl,yp (s:={ s with heap:=h' }) e c d (by decide) ⟨x,H,I1,ru,⟨rfl,λys hy=>by rw[I.se hy hq];exact hx⟩,st',λb hb=>(hf b hb).1⟩⟩
 done:=by
  intro X hP hw hK hc i pins s σ H E I hf st hg
  subst hP hw hK
  obtain⟨xs,hq,hx⟩:=hg
  obtain⟨its,rv,p,hz⟩:=I.tuple hq
  obtain⟨f0,f1,f2,f3,f4,f5⟩:=hf it (by simp)
  have hl:=rv.length
  exact wpAny_pyNext_tuple_end (I.ok.hd hc) st (show s.heap.IsTuple a its.toArray from p) (by simp;lia) λh' eb=>⟨rfl,I.turned (t':=s.toks) (λb o hb e=>eb b o hb e) f0 f1 f3 f4 f5⟩
 self:=λ_ _ _ _ _ st h=>wpAny_pyIter_tupleiter st h
theorem wy{P:Program}{w:World}{K:PySem.W.Frag}{tg:Expr}(it:Addr)(lo:Int)(n:Nat):Turn P w K tg (Itr lo n) [it] it (λi h=>IsRangeIter h it (lo+(i:Nat)*1) ((n:Int)-(i:Nat)) 1) where
 mem:=by simp
 obj:=λi h st b hb=>by
  have e:b=it:=by simpa using hb
  subst e
  exact⟨_,st,λv z=>by
   have z':Data.fields _=Data.cell v:=z
   cases z'⟩
 keep:=λi h h' st k=>k it (by simp) _ st
 item:=by
  intro X hP hw hK hc i pins s σ H E I hf st hg
  subst hP hw hK
  obtain⟨f0,f1,f2,f3,f4,f5⟩:=hf it (by simp)
  have W:=Walks.range (prog:=X.prog) (w:=X.w) (I.ok.hd hc) it lo 1 n
  refine W.item i s _ _ hg st λv h' tk hv st' kk=>?_
  obtain⟨t,rfl⟩:=hv
  have I1:Inv X pins σ H { s with heap:=h',toks:=tk }:=I.turned (λb o hb e=>kk b o (by simpa using hb) e) f0 f1 f3 f4 f5
  refine⟨_,rfl,yp (s:={ s with heap:=h',toks:=tk }) (n:="range_iterator") st' rfl rfl (by decide) ⟨.int (lo+i),H,I1,⟨t,?_⟩,⟨rfl,rfl⟩,st',λb hb=>(hf b hb).1⟩⟩
  rw[Int.mul_one]
 done:=by
  intro X hP hw hK hc i pins s σ H E I hf st hg
  subst hP hw hK
  obtain⟨f0,f1,f2,f3,f4,f5⟩:=hf it (by simp)
  exact wpAny_pyNext_range_end (I.ok.hd hc) st (by have:n≤i:=hg;lia) λh' eb=>⟨rfl,I.turned (t':=s.toks) (λb o hb e=>eb b o hb e) f0 f1 f3 f4 f5⟩
 self:=λ_ _ _ _ _ st h=>wpAny_pyIter_rangeiter st h
section
variable{X:Cx}{tg:Expr}
theorem Bj{pins:List (Addr×Obj)}{σ:St}{H:Hp}{s:Shared}{R:It→Hp→Prop}{E:Value→Shared→Prop}{lo hi:Int}{t u v:Tok}{tk:Nat}(I:Inv X pins σ H s)(h1:-(2 ^ 62)≤lo)(h2:lo<2 ^ 62)(h3:-(2 ^ 62)≤hi)(h4:hi<2 ^ 62)
  (q:R (Itr lo (hi-lo).toNat) H):wpAny (model X.prog X.w) X.A (pyIter (.ref s.heap.objs.size)) (PIE X pins σ tg R) E { s with heap:=s.heap.push { cls:=.type "range",data:=.fields #[.int lo t,.int hi u,.int 1 v] },toks:=tk }:=by
 refine wpAny_pyIter_range (IsRange.new ..) (small_one h1 h2 h3 h4) ?_
 have I1:Inv X pins σ H { s with heap:=s.heap.push { cls:=.type "range",data:=.fields #[.int lo t,.int hi u,.int 1 v] },toks:=tk }:=I.kept λb o e=>Heap.get?_push_of_some _ e
 refine⟨(s.heap.push { cls:=.type "range",data:=.fields #[.int lo t,.int hi u,.int 1 v] }).objs.size,[(s.heap.push { cls:=.type "range",data:=.fields #[.int lo t,.int hi u,.int 1 v] }).objs.size],_,_,H,rfl,
  I1.kept (t':=tk) λb o e=>Heap.get?_push_of_some _ e,wy _ lo (hi-lo).toNat,?_,λb hb=>?_,q⟩
 ·have e1:lo+((0:Nat):Int)*1=lo:=by simp
  have e2:(((hi-lo).toNat:Nat):Int)-((0:Nat):Int)=Builtin.Range.rangeSize lo hi 1:=by rw[rangeSize_one];split<;>lia
  show IsRangeIter _ _ (lo+((0:Nat):Int)*1) ((((hi-lo).toNat:Nat):Int)-((0:Nat):Int)) 1
  rw[e1,e2]
  exact Heap.get?_push_size _ rfl
 ·have e:b=(s.heap.push { cls:=.type "range",data:=.fields #[.int lo t,.int hi u,.int 1 v] }).objs.size:=by simpa using hb
  subst e
  exact I1.u0 (Nat.le_refl _) (I1.hok.fresh (Nat.le_refl _))
def Kw(ta:TA):TI:=λσ H R=>ta σ H λvs H1=>∃j:Int,vs=[.int j]∧-(2 ^ 62)≤j∧j<2 ^ 62∧R (Itr 0 j.toNat) H1
theorem zK{a:Expr}{ta:TA}{p pos:Pos}(hg:Gl X "range")(hm:X.mg "range"=none)(ha:PA X [a] ta)(hs:starEach [a] X.env=[(false,eval a X.env)]:=by rfl):PI X tg (.Call (.Name "range" p) [a] [] pos) (Kw ta):=by
 intro pins s σ H R I h
 refine Call_ (mY I hg hm boot_range (PyProof.Rows.callWith_type1 (thn (ha pos pins s σ H _ I h) λus s1 ak=>?_) hs rfl))
 obtain⟨vs,H1,I1,r1,q1⟩:=ak
 obtain⟨j,e,q1,q2,q⟩:=q1
 subst e
 cases r1 with
 | cons r rr =>
  cases rr
  obtain⟨t,rfl⟩:=r
  exact call_range_1 (Bj I1 (by lia) (by lia) q1 q2 (by simpa using q))
def M4(wi:TI)(g:TG)(tb:TS):TS:=λD σ H=>wi σ H λJ H1=>∃W:Nat→Nat→St→Hp→Prop,(∃m,W 0 m σ H1)∧∀i m σ H,W i m σ H →
 (J.stop i H∧D.nx σ H)∨(J.go i H∧∃N:St→Hp→Prop,(∀σ' H',N σ' H'→∃m',m'<m∧W (i+1) m' σ' H')∧∀x H',J.yld i H x H'→g x σ H' λσ2 H2=>tb { D with nx:=N,ct:=N,bk:=D.nx } σ2 H2)
def pe(fp:List Addr)(h:Heap):List (Addr×Obj):=fp.filterMap λb=>(h.get? b).map λo=>(b,o)
theorem ja{fp:List Addr}{h:Heap}{b:Addr}{o:Obj}(hb:b∈fp)(e:h.get? b=some o):(b,o)∈pe fp h:=List.mem_filterMap.mpr ⟨b,hb,by rw[e];rfl⟩
theorem zL{fp:List Addr}{h:Heap}{p:Addr×Obj}(hp:p∈pe fp h):p.1∈fp∧h.get? p.1=some p.2:=by
 obtain⟨b,hb,e⟩:=List.mem_filterMap.mp hp
 cases q:h.get? b with
 | none=>rw[q] at e;cases e
 | some o =>
  rw[q] at e
  have e':(b,o)=p:=Option.some.inj e
  subst e'
  exact⟨hb,q⟩
theorem Inv.pinned{pins:List (Addr×Obj)}{σ:St}{H:Hp}{s:Shared}{fp:List Addr}(I:Inv X pins σ H s)(hf:∀b∈fp,jR X pins H b)(ho:∀b∈fp,∃o,s.heap.get? b=some o∧∀v,o.data≠.cell v):Inv X (pins++pe fp s.heap) σ H s :=
 I.ym λp hp=>(List.mem_append.mp hp).elim (λz=>I.pin p (List.mem_append_right _ z)) λz=>by
  obtain⟨hb,e⟩:=zL z
  obtain⟨f0,f1,f2,_⟩:=hf p.1 hb
  obtain⟨o,e',d⟩:=ho p.1 hb
  rw[e] at e';cases e'
  exact⟨e,f0,f1,f2,d⟩
theorem Inv.lZ{pins pl:List (Addr×Obj)}{σ:St}{H:Hp}{s:Shared}(I:Inv X (pins++pl) σ H s):Inv X pins σ H s:=I.ym λp hp=>I.pin p (List.mem_append_right _ (List.mem_append_left _ hp))
theorem Bk{iter:Expr}{body:List Stmt}{wi:TI}{g:TG}{tb:TS}{pos:Pos}(hp:PassesOwn (model X.prog X.w) X.A X.env X.xe)(hc:X.calm=true)(hi:PI X tg iter wi)(hg:PG X tg g)(hb:PSs X body tb)
  (hs:∀x,foldedSetIterable iter X.env x=pure x:=by intro _;rfl):PS X (.For tg iter body [] pos) (M4 wi g tb):=by
 intro pins s σ H D I h
 refine wpAny_For (thn (hi pins s σ H _ I h) λv s1 h1=>thn h1 λitv s2 h2=>?_) hs
 obtain⟨it,fp,tn,J,H2,e,I2,T,st2,f2,W,⟨m0,w0⟩,turn⟩:=h2
 subst e
 have wz:∀{H':Hp},(∀b∈fp,H' b=none)→∀b∈fp,jR X pins H' b:=λhn b hb=>⟨hn b hb,(f2 b hb).2⟩
 refine codeAny_forLoop_any (λn s'=>∃i σ' H',Inv X pins σ' H' s'∧tn i s'.heap∧(∀b∈fp,H' b=none)∧W i n σ' H') ?_ m0 ⟨0,σ,H2,I2,st2,λb hb=>(f2 b hb).1,w0⟩
 rintro n s3 ⟨i,σ3,H3,I3,st3,fr3,w3⟩
 rcases turn i n σ3 H3 w3 with ⟨stop,qn⟩|⟨go,N,hN,step⟩
 ·refine wpAny_passesOwn hp (thn (T.done X rfl rfl rfl hc i pins s3 σ3 H3 X.xe I3 (wz fr3) st3 stop) λr s4 ⟨hr,I4⟩=>?_)
  subst hr
  exact wpAny_execs_nil ⟨σ3,H3,I4,qn⟩
 ·refine wpAny_passesOwn hp (thn (T.item X rfl rfl rfl hc i pins s3 σ3 H3 X.xe I3 (wz fr3) st3 go) λr s4 ⟨u,hr,h4⟩=>?_)
  subst hr
  refine wpAny_passesOwn hp (thn h4 λ_ s5 ak=>?_)
  obtain⟨x,H5,I5,r5,y5,st5,fr5⟩:=ak
  have I5':=I5.pinned (wz fr5) (T.obj _ _ st5)
  refine wpAny_passesOwn hp (thn (hg _ s5 σ3 H5 x u _ I5' r5 (step x H5 y5)) λ_ s6 df=>?_)
  obtain⟨σ6,H6,I6,q6⟩:=df
  refine wpAny_passesOwn hp (thn (hb _ s6 σ6 H6 _ I6 q6) λf s7 q7=>?_)
  have again:∀{σ7:St}{H7:Hp},Inv X (pins++pe fp s5.heap) σ7 H7 s7→N σ7 H7→∃m,m<n∧∃i σ' H',Inv X pins σ' H' s7∧tn i s7.heap∧(∀b∈fp,H' b=none)∧W i m σ' H':=λ{σ7 H7} I7 n7=>by
   obtain⟨m',hm,w7⟩:=hN σ7 H7 n7
   refine⟨m',hm,i+1,σ7,H7,I7.lZ,T.keep _ _ _ st5 λb hb o e=>(I7.pin (b,o) (List.mem_append_right _ (List.mem_append_right _ (ja hb e)))).1,λb hb=>?_,w7⟩
   obtain⟨o,e,d⟩:=T.obj _ _ st5 b hb
   exact (I7.pin (b,o) (List.mem_append_right _ (List.mem_append_right _ (ja hb e)))).2.1
  cases f with
  | next=>obtain⟨σ7,H7,I7,n7⟩:=q7;exact again I7 n7
  | cont=>obtain⟨σ7,H7,I7,n7⟩:=q7;exact again I7 n7
  | brk=>obtain⟨σ7,H7,I7,q7⟩:=q7;exact⟨σ7,H7,I7.lZ,q7⟩
  | ret v=>obtain⟨x7,σ7,H7,I7,r7,q7⟩:=q7;exact⟨x7,σ7,H7,I7.lZ,r7,q7⟩
end
noncomputable abbrev R2 := V → V → Hp → VK → Prop
def OpR(X:Cx)(f:Value→Value→Sem Value)(r:R2):Prop :=
 ∀(pins:List (Addr×Obj)) (s:Shared) (σ:St) (H:Hp) (x y:V) (v u:Value) (Q:VK),Inv X pins σ H s→RelV x v→RelV y u→r x y H Q →
  wpAny (model X.prog X.w) X.A (f v u) (EP X pins σ Q) X.xe s
def UnR(X:Cx)(f:Value→Sem Value)(r:V→Hp→VK→Prop):Prop :=
 ∀(pins:List (Addr×Obj)) (s:Shared) (σ:St) (H:Hp) (x:V) (v:Value) (Q:VK),Inv X pins σ H s→RelV x v→r x H Q →
  wpAny (model X.prog X.w) X.A (f v) (EP X pins σ Q) X.xe s
def d6(X:Cx)(f:Value)(r:List V→Hp→VK→Prop):Prop :=
 ∀(pins:List (Addr×Obj)) (s:Shared) (σ:St) (H:Hp) (xs:List V) (us:List Value) (Q:VK),Inv X pins σ H s→Vals xs us→r xs H Q →
  wpAny (model X.prog X.w) X.A (call f us) (EP X pins σ Q) X.xe s
def tOp(r:R2)(ta tb:TE):TE:=λσ H Q=>ta σ H λx H1=>tb σ H1 λy H2=>r x y H2 Q
def tUn(r:V→Hp→VK→Prop)(ta:TE):TE:=λσ H Q=>ta σ H λx H1=>r x H1 Q
def rI(C:Int→Int→Prop)(g:Int→Int→V):R2:=λx y H Q=>∃i j,x=.int i∧y=.int j∧C i j∧Q (g i j) H
def rI0(g:Int→Int→V):R2:=λx y H Q=>∃i j,x=.int i∧y=.int j∧Q (g i j) H
def rU(g:Int→V):V→Hp→VK→Prop:=λx H Q=>∃i,x=.int i∧Q (g i) H
section
variable{X:Cx}{a b c:Expr}{ta tb tc:TE}{pos:Pos}
theorem HR(ha:PE X a ta)(hb:PE X b tb){pins:List (Addr×Obj)}{s:Shared}{σ:St}{H:Hp}{R:V→V→Hp→Prop}(I:Inv X pins σ H s)
  (h:ta σ H λx H1=>tb σ H1 λy H2=>R x y H2) {Q:Value→Shared→Prop}{f:Value→Value→Sem Value}
  (hf:∀v u s2 x y H2,Inv X pins σ H2 s2→RelV x v→RelV y u→R x y H2→wpAny (model X.prog X.w) X.A (f v u) Q X.xe s2) :
  wpAny (model X.prog X.w) X.A (eval a X.env) (λv s₁=>wpAny (model X.prog X.w) X.A (eval b X.env) (λu s₂=>wpAny (model X.prog X.w) X.A (f v u) Q X.xe s₂) X.xe s₁) X.xe s:=by
 refine thn (ha pins s σ H _ I h) λv s1 ak=>?_
 obtain⟨x,H1,I1,r1,q1⟩:=ak
 refine thn (hb pins s1 σ H1 _ I1 q1) λu s2 df=>?_
 obtain⟨y,H2,I2,r2,q2⟩:=df
 exact hf v u s2 x y H2 I2 r1 r2 q2
theorem G3{op:Operator}{r:R2}(ho:OpR X (binaryOp op) r)(ha:PE X a ta)(hb:PE X b tb):PE X (.BinOp a op b pos) (tOp r ta tb):=by
 intro pins s σ H Q I h
 exact wpAny_BinOp (HR ha hb I h λv u s2 x y H2 I2 rx ry q=>ho pins s2 σ H2 x y v u Q I2 rx ry q)
theorem Kx{op:UnaryOp}{r:V→Hp→VK→Prop}(ho:UnR X (unaryOp op) r)(ha:PE X a ta):PE X (.UnaryOp op a pos) (tUn r ta):=by
 intro pins s σ H Q I h
 exact UnaryOp_ (thn (ha pins s σ H _ I h) λv s1 ⟨x,H1,I1,r1,q1⟩=>ho pins s1 σ H1 x v Q I1 r1 q1)
theorem opI{f:Value→Value→Sem Value}{C:Int→Int→Prop}{g:Int→Int→Int}
  (rule:∀(i j:Int) (t u:Tok) (s:Shared) (Q:Value→Shared→Prop) (E:Value→Shared→Prop),C i j→Q (.int (g i j) s.toks) { s with toks:=s.toks+1 }→wpAny (model X.prog X.w) X.A (f (.int i t) (.int j u)) Q E s) :
  OpR X f (rI C λi j=>.int (g i j)):=by
 intro pins s σ H x y v u Q I rx ry h
 obtain⟨i,j,rfl,rfl,hc,q⟩:=h
 obtain⟨t,rfl⟩:=rx
 obtain⟨t',rfl⟩:=ry
 exact rule i j t t' s _ _ hc ⟨.int (g i j),H,I.tok _,⟨_,rfl⟩,q⟩
theorem Ky{f:Value→Value→Sem Value}{g:Int→Int→Int}
  (rule:∀(i j:Int) (t u:Tok) (s:Shared) (Q:Value→Shared→Prop) (E:Value→Shared→Prop),Q (.int (g i j) s.toks) { s with toks:=s.toks+1 }→wpAny (model X.prog X.w) X.A (f (.int i t) (.int j u)) Q E s) :
  OpR X f (rI0 λi j=>.int (g i j)):=by
 intro pins s σ H x y v u Q I rx ry h
 obtain⟨i,j,rfl,rfl,q⟩:=h
 obtain⟨t,rfl⟩:=rx
 obtain⟨t',rfl⟩:=ry
 exact rule i j t t' s _ _ ⟨.int (g i j),H,I.tok _,⟨_,rfl⟩,q⟩
theorem Kz{f:Value→Value→Sem Value}{g:Int→Int→Bool}
  (rule:∀(i j:Int) (t u:Tok) (s:Shared) (Q:Value→Shared→Prop) (E:Value→Shared→Prop),Q (.bool (g i j)) s→wpAny (model X.prog X.w) X.A (f (.int i t) (.int j u)) Q E s) :
  OpR X f (rI0 λi j=>.bl (g i j)):=by
 intro pins s σ H x y v u Q I rx ry h
 obtain⟨i,j,rfl,rfl,q⟩:=h
 obtain⟨t,rfl⟩:=rx
 obtain⟨t',rfl⟩:=ry
 exact rule i j t t' s _ _ ⟨.bl (g i j),H,I,rfl,q⟩
def HS(i j:Int):Prop:=0<j∧j<1073741824
def Bl(i j:Int):Prop:=(-(2 ^ 64)<i∧i<2 ^ 64)∨(-(2 ^ 64)<j∧j<2 ^ 64)
theorem Bl.ok{i j:Int}(h:Bl i j):IntMulOk i j:=by
 rcases h with ⟨h1,h2⟩|⟨h1,h2⟩
 ·exact .of_left (intBits_le_64 h1 h2)
 ·exact .of_right (intBits_le_64 h1 h2)
theorem HU:OpR X (binaryOp .Add) (rI0 λi j=>.int (i+j)):=Ky λ_ _ _ _ _ _ _ q=>add_int q
theorem HV:OpR X (binaryOp .Sub) (rI0 λi j=>.int (i-j)):=Ky λ_ _ _ _ _ _ _ q=>sub_int q
theorem HW:OpR X (binaryOp .Mult) (rI Bl λi j=>.int (i*j)):=opI λ_ _ _ _ _ _ _ hc q=>mul_int q hc.ok
theorem Ey:OpR X (binaryOp .FloorDiv) (rI HS λi j=>.int (i / j)):=opI λi j _ _ _ _ _ hc q=>by
 have h1:(0:Int)<j:=hc.1
 have h2:j<1073741824:=hc.2
 exact floordiv_int (by lia) (by rw[Int.fdiv_eq_ediv_of_nonneg i (by lia)];exact q) (.inl (PyProof.noPylong_small (by lia)))
theorem HX:OpR X (binaryOp .Mod) (rI (λ_ j=>0<j) λi j=>.int (i%j)):=opI λi j _ _ _ _ _ hc q=>by
 have h1:(0:Int)<j:=hc
 exact mod_int' (by lia) (by rw[Int.fmod_eq_emod_of_nonneg i (by lia)];exact q)
theorem unI{f:Value→Sem Value}{g:Int→Int}
  (rule:∀(i:Int) (t:Tok) (s:Shared) (Q:Value→Shared→Prop) (E:Value→Shared→Prop),Q (.int (g i) s.toks) { s with toks:=s.toks+1 }→wpAny (model X.prog X.w) X.A (f (.int i t)) Q E s) :
  UnR X f (rU λi=>.int (g i)):=by
 intro pins s σ H x v Q I rx h
 obtain⟨i,rfl,q⟩:=h
 obtain⟨t,rfl⟩:=rx
 exact rule i t s _ _ ⟨.int (g i),H,I.tok _,⟨_,rfl⟩,q⟩
theorem HY:UnR X (unaryOp .USub) (rU λi=>.int (-i)):=unI λ_ _ _ _ _ q=>neg_int q
end
def KA:V→V→Bool
 | .non,.non=>true|.non,.int _=>true|.int _,.non=>true|.non,.bl _=>true|.bl _,.non=>true|.non,.str _=>true|.str _,.non=>true
 | .int _,.int _=>true|.bl _,.bl _=>true|.str _,.str _=>true|.byt _,.byt _=>true
 | .int _,.str _=>true|.str _,.int _=>true|.bl _,.str _=>true|.str _,.bl _=>true
 | _,_=>false
def rEq:R2:=λx y H Q=>KA x y=true∧Q (.bl (decide (x=y))) H
def rNe:R2:=λx y H Q=>KA x y=true∧Q (.bl (!decide (x=y))) H
theorem yq{i j:Int}:decide (V.int i=V.int j)=(i==j):=by
 rw[Bool.eq_iff_iff]
 simp
theorem Bm{i j:Bool}:decide (V.bl i=V.bl j)=(i==j):=by
 rw[Bool.eq_iff_iff]
 simp
theorem oR{i j:Str}:decide (V.str i=V.str j)=(i==j):=by
 rw[Bool.eq_iff_iff]
 simp
theorem yr{i j:Array UInt8}:decide (V.byt i=V.byt j)=(i.toList==j.toList):=by
 rw[Bool.eq_iff_iff]
 cases i
 cases j
 simp
section
variable{X:Cx}{a b c:Expr}{ta tb tc:TE}{pos:Pos}
theorem bu{pins:List (Addr×Obj)}{σ:St}{H:Hp}{s:Shared}{Q:VK}{k k':Bool}(I:Inv X pins σ H s)(q:Q (.bl k) H)(e:k=k'):EP X pins σ Q (.bool k') s:=by
 subst e
 exact⟨.bl k,H,I,rfl,q⟩
theorem G4:OpR X (compareOp .Eq) rEq:=by
 intro pins s σ H x y v u Q I rx ry h
 obtain⟨hs,q⟩:=h
 cases x with
 | non =>
  cases rx
  cases y with
  | non=>cases ry;exact PySem.EqNone.eq_none_none (bu I q (by simp))
  | bl j=>cases ry;exact PySem.EqNone.eq_none_bool (bu I q (by simp))
  | int j=>obtain⟨t',rfl⟩:=ry;exact PySem.EqNone.eq_none_int (bu I q (by simp))
  | str j=>obtain⟨t',rfl⟩:=ry;exact PySem.EqNone.eq_none_str (bu I q (by simp))
  | _=>exact absurd (show false=true from hs) Bool.false_ne_true
 | bl i =>
  cases rx
  cases y with
  | non=>cases ry;exact PySem.EqNone.eq_bool_none (bu I q (by simp))
  | bl j=>cases ry;exact eq_bool (bu I q Bm)
  | str j=>obtain⟨t',rfl⟩:=ry;exact PySem.EqMixed.eq_bool_str (bu I q (by simp))
  | _=>exact absurd (show false=true from hs) Bool.false_ne_true
 | int i =>
  obtain⟨t,rfl⟩:=rx
  cases y with
  | non=>cases ry;exact PySem.EqNone.eq_int_none (bu I q (by simp))
  | int j=>obtain⟨t',rfl⟩:=ry;exact eq_int (bu I q yq)
  | str j=>obtain⟨t',rfl⟩:=ry;exact PySem.EqMixed.eq_int_str (bu I q (by simp))
  | _=>exact absurd (show false=true from hs) Bool.false_ne_true
 | str i =>
  obtain⟨t,rfl⟩:=rx
  cases y with
  | non=>cases ry;exact PySem.EqNone.eq_str_none (bu I q (by simp))
  | bl j=>cases ry;exact PySem.EqMixed.eq_str_bool (bu I q (by simp))
  | int j=>obtain⟨t',rfl⟩:=ry;exact PySem.EqMixed.eq_str_int (bu I q (by simp))
  | str j=>obtain⟨t',rfl⟩:=ry;exact eq_str (bu I q oR)
  | _=>exact absurd (show false=true from hs) Bool.false_ne_true
 | byt i =>
  obtain⟨t,rfl⟩:=rx
  cases y with
  | byt j=>obtain⟨t',rfl⟩:=ry;exact PySem.W.eq_bytes (bu I q yr)
  | _=>exact absurd (show false=true from hs) Bool.false_ne_true
 | _=>cases y<;>exact absurd (show false=true from hs) Bool.false_ne_true
theorem G5:OpR X (compareOp .NotEq) rNe:=by
 intro pins s σ H x y v u Q I rx ry h
 obtain⟨hs,q⟩:=h
 cases x with
 | non =>
  cases rx
  cases y with
  | non=>cases ry;exact PySem.EqNone.ne_none_none (bu I q (by simp))
  | bl j=>cases ry;exact PySem.EqNone.ne_none_bool (bu I q (by simp))
  | int j=>obtain⟨t',rfl⟩:=ry;exact PySem.EqNone.ne_none_int (bu I q (by simp))
  | str j=>obtain⟨t',rfl⟩:=ry;exact PySem.EqNone.ne_none_str (bu I q (by simp))
  | _=>exact absurd (show false=true from hs) Bool.false_ne_true
 | bl i =>
  cases rx
  cases y with
  | non=>cases ry;exact PySem.EqNone.ne_bool_none (bu I q (by simp))
  | bl j=>cases ry;exact ne_bool (bu I q (congrArg not Bm))
  | str j=>obtain⟨t',rfl⟩:=ry;exact PySem.EqMixed.ne_bool_str (bu I q (by simp))
  | _=>exact absurd (show false=true from hs) Bool.false_ne_true
 | int i =>
  obtain⟨t,rfl⟩:=rx
  cases y with
  | non=>cases ry;exact PySem.EqNone.ne_int_none (bu I q (by simp))
  | int j=>obtain⟨t',rfl⟩:=ry;exact ne_int (bu I q (congrArg not yq))
  | str j=>obtain⟨t',rfl⟩:=ry;exact PySem.EqMixed.ne_int_str (bu I q (by simp))
  | _=>exact absurd (show false=true from hs) Bool.false_ne_true
 | str i =>
  obtain⟨t,rfl⟩:=rx
  cases y with
  | non=>cases ry;exact PySem.EqNone.ne_str_none (bu I q (by simp))
  | bl j=>cases ry;exact PySem.EqMixed.ne_str_bool (bu I q (by simp))
  | int j=>obtain⟨t',rfl⟩:=ry;exact PySem.EqMixed.ne_str_int (bu I q (by simp))
  | str j=>obtain⟨t',rfl⟩:=ry;exact ne_str (bu I q (congrArg not oR))
  | _=>exact absurd (show false=true from hs) Bool.false_ne_true
 | byt i =>
  obtain⟨t,rfl⟩:=rx
  cases y with
  | byt j=>obtain⟨t',rfl⟩:=ry;exact PySem.W.ne_bytes (bu I q (congrArg not yr))
  | _=>exact absurd (show false=true from hs) Bool.false_ne_true
 | _=>cases y<;>exact absurd (show false=true from hs) Bool.false_ne_true
theorem KC:OpR X (compareOp .Lt) (rI0 λi j=>.bl (decide (i<j))):=Kz λ_ _ _ _ _ _ _ q=>lt_int q
theorem KD:OpR X (compareOp .Gt) (rI0 λi j=>.bl (decide (j<i))):=Kz λ_ _ _ _ _ _ _ q=>gt_int q
theorem HZ:OpR X (compareOp .Is) (λx y H Q=>y=.non∧Q (.bl (decide (x=.non))) H):=by
 intro pins s σ H x y v u Q I rx ry h
 obtain⟨rfl,q⟩:=h
 cases ry
 refine is_none_gen (bu I q ?_)
 cases x<;>first
  | (cases rx;rfl)
  | (obtain⟨t,rfl⟩:=rx;rfl)
theorem OpR.or{f:Value→Value→Sem Value}{r r':R2}(h:OpR X f r)(h':OpR X f r'):OpR X f (λx y H Q=>r x y H Q∨r' x y H Q):=by
 intro pins s σ H x y v u Q I rx ry q
 rcases q with q|q
 ·exact h pins s σ H x y v u Q I rx ry q
 ·exact h' pins s σ H x y v u Q I rx ry q
theorem jS(b:Expr){op:CmpOp}(h:op≠.In:=by decide)(h2:op≠.NotIn:=by decide):behindInMarks op b=false:=by
 have e1:(op==CmpOp.In)=false:=by cases op<;>first|rfl|exact absurd rfl h
 have e2:(op==CmpOp.NotIn)=false:=by cases op<;>first|rfl|exact absurd rfl h2
 cases b<;>simp[behindInMarks,e1,e2]
theorem Ez{op:CmpOp}{r:R2}(ho:OpR X (compareOp op) r)(ha:PE X a ta)(hb:PE X b tb)(hm:behindInMarks op b=false):PE X (.Compare a [op] [b] pos) (tOp r ta tb):=by
 intro pins s σ H Q I h
 exact wpAny_Compare1 (HR ha hb I h λv u s2 x y H2 I2 rx ry q=>ho pins s2 σ H2 x y v u Q I2 rx ry q) hm
def KG(t:TE):TT:=λσ H Q=>t σ H λx H'=>∃k,x=.bl k∧Q k H'
theorem yt{op:CmpOp}{r:R2}(ho:OpR X (compareOp op) r)(ha:PE X a ta)(hb:PE X b tb)(hm:behindInMarks op b=false):PT X (.Compare a [op] [b] pos) (KG (tOp r ta tb)):=by
 intro pins s σ H Q I h
 refine wpAny_isTrue_Compare1 (thn (ha pins s σ H _ I h) λv s1 ⟨x,H1,I1,r1,q1⟩=>thn (hb pins s1 σ H1 _ I1 q1) λu s2 ⟨y,H2,I2,r2,q2⟩ =>
  thn (ho pins s2 σ H2 x y v u _ I2 r1 r2 q2) λc s3 ⟨z,H3,I3,r3,k,e,q3⟩=>?_) hm
 subst e
 cases r3
 exact wpAny_truthy_bool ⟨H3,I3,q3⟩
theorem mZ:(sizeLine:Nat)<2 ^ 63:=by rw[sizeLine_eq];decide
theorem wA:OpR X (binaryOp .Add) (λx y H Q=>∃i j,x=.str i∧y=.str j∧i.length+j.length≤sizeLine∧Q (.str (i++j)) H):=by
 intro pins s σ H x y v u Q I rx ry h
 obtain⟨i,j,rfl,rfl,hz,q⟩:=h
 obtain⟨t,rfl⟩:=rx
 obtain⟨t',rfl⟩:=ry
 exact add_str (λt' tk=>⟨.str (i++j),H,I.tok _,⟨_,rfl⟩,q⟩) hz
theorem vals1{x:V}{us:List Value}(r:Vals [x] us):∃u,us=[u]∧RelV x u:=by
 cases r with
 | cons r1 r2=>cases r2;exact⟨_,rfl,r1⟩
theorem vals2{x y:V}{us:List Value}(r:Vals [x,y] us):∃u w',us=[u,w']∧RelV x u∧RelV y w':=by
 cases r with
 | cons r1 r2 =>
  cases r2 with
  | cons r3 r4=>cases r4;exact⟨_,_,rfl,r1,r3⟩
theorem zM(hc:X.calm=true):d6 X (.builtin "min") (λxs H Q=>∃i j,xs=[.int i,.int j]∧Q (.int (if j<i then j else i)) H):=by
 intro pins s σ H xs us Q I r h
 obtain⟨i,j,rfl,q⟩:=h
 obtain⟨u,w',rfl,⟨t,rfl⟩,⟨t',rfl⟩⟩:=vals2 r
 refine min_two_ints (I.ok.hd hc) λh' tk k=>⟨_,H,I.kept k,?_,q⟩
 by_cases hj:j<i
 ·rw[if_pos hj,if_pos hj];exact⟨_,rfl⟩
 ·rw[if_neg hj,if_neg hj];exact⟨_,rfl⟩
end
section
variable{prog:Program}{w:World}{A:Around}{E:Value→Shared→Prop}{s:Shared}{K:PySem.W.Frag}{x dx C f:Addr}{mA:Str→Option Value}{name:Str}{v:Value}
end
theorem ot.some_of{v:V}{o:Option Value}(r:ot (some v) o):∃u,o=some u∧RelV v u:=by
 cases o with
 | none=>exact (show False from r).elim
 | some u=>exact⟨u,rfl,r⟩
section
variable{P:Program}{w:World}{H H':Hp}{h h':Heap}{a C dx:Addr}{fs fs':List (Str×V)}
end
section
variable{X:Cx}{pins:List (Addr×Obj)}{σ:St}{H:Hp}{s:Shared}{a C dx:Addr}{fs:List (Str×V)}{f:Str}{v:V}{A:Around}{E:Value→Shared→Prop}
end
section
variable{X:Cx}{o e value:Expr}{f:Str}{pos pos' fL:Pos}{ta tv:TE}
end
section
variable{X:Cx}{pins:List (Addr×Obj)}{σ:St}{H:Hp}{s:Shared}{A:Around}{E:Value→Shared→Prop}{Q:Value→Shared→Prop}{c:Value}{b:Bool}
end
structure dg(k:Nat)(A:Around):Prop where
 hd:A.handled=none
 dp:A.depth+3*k+5<recursionLimit
 un:A.units+16*k+200<cLine
theorem dg.mono{j k:Nat}{A:Around}(r:dg k A)(h:j≤k):dg j A:=⟨r.hd,by have:=r.dp;lia,by have:=r.un;lia⟩
theorem dg.deeper{k:Nat}{A:Around}(r:dg (k+1) A)(env:Env):dg k (A.deeper env) :=
 ⟨r.hd,by have:=r.dp;show A.depth+1+3*k+5<_;lia,by have:=r.un;show A.units+3+16*k+200<_;lia⟩
theorem dg.in1{k:Nat}{A:Around}(r:dg (k+1) A):dg k A.in1 :=
 ⟨r.hd,by have:=r.dp;show A.depth+3*k+5<_;lia,by have:=r.un;show A.units+1+16*k+200<_;lia⟩
theorem dg.depth{k:Nat}{A:Around}(r:dg k A):A.depth<recursionLimit:=by have:=r.dp;lia
theorem dg.units{k:Nat}{A:Around}(r:dg k A):A.units+64<cLine:=by have:=r.un;lia
def M5:TA:=λ_ H Q=>Q [] H
def KH(ta:TE)(tr:TA):TA:=λσ H Q=>ta σ H λx H1=>tr σ H1 λxs H2=>Q (x::xs) H2
section
variable{X:Cx}{e:Expr}{es:List Expr}{te:TE}{t:TA}{pos:Pos}
theorem Bn:PA X [] M5:=λ_ _ _ _ H Q I h=>Calls.spliced_nil ⟨[],H,I,.nil,h⟩
theorem tJ(ha:PE X e te)(hr:PA X es t)(hs:starEach (e::es) X.env=(false,eval e X.env)::starEach es X.env:=by rfl):PA X (e::es) (KH te t):=by
 intro pos pins s σ H Q I h
 rw[hs]
 show wpAny _ _ (spliced ((false,eval e X.env)::backTo pos (starEach es X.env))) _ _ s
 refine Calls.spliced_cons (thn (ha pins s σ H _ I h) λu s1 ak=>?_)
 obtain⟨x,H1,I1,r1,q1⟩:=ak
 exact thn (hr pos pins s1 σ H1 _ I1 q1) λus s2 ⟨xs,H2,I2,r2,q2⟩=>⟨x::xs,H2,I2,.cons r1 r2,q2⟩
def M6(t:TA):TE:=λσ H Q=>t σ H λxs H1=>xs.length≤sizeLine∧∀p,H1 p=none→Q (.ref p) (upd H1 p (.tup xs))
def M7(t:TA):TE:=λσ H Q=>t σ H λxs H1=>xs.length≤sizeLine∧∀p,H1 p=none→Q (.ref p) (upd H1 p (.lst xs))
theorem Bo{x1}(h:PA X es t):PE X (.Tuple es x1 pos) (M6 t):=by
 intro pins s σ H Q I hq
 refine wpAny_Tuple_spliced (thn (h pos pins s σ H _ I hq) λus s1 ⟨xs,H1,I1,r,z,q⟩=>⟨by rw[← r.length];exact z,?_⟩)
 have hf:H1 s1.heap.objs.size=none:=I1.hok.fresh (Nat.le_refl _)
 refine⟨.ref s1.heap.objs.size,upd H1 s1.heap.objs.size (.tup xs),I1.laid (t':=s1.toks) (λb u e=>Heap.get?_push_of_some _ e) (Nat.le_refl _) ?_,rfl,q _ hf⟩
 exact⟨z,us,r,⟨_,Heap.get?_push_size _ rfl,rfl,_,rfl⟩⟩
theorem Bp(h:PA X es t):PE X (.List es pos) (M7 t):=by
 intro pins s σ H Q I hq
 refine wpAny_List_spliced (thn (h pos pins s σ H _ I hq) λus s1 ⟨xs,H1,I1,r,z,q⟩=>⟨by rw[← r.length];exact z,?_⟩)
 have hf:H1 s1.heap.objs.size=none:=I1.hok.fresh (Nat.le_refl _)
 refine⟨.ref s1.heap.objs.size,upd H1 s1.heap.objs.size (.lst xs),I1.laid (t':=s1.toks) (λb u e=>Heap.get?_push_of_some _ e) (Nat.le_refl _) ?_,rfl,q _ hf⟩
 exact⟨z,us,0,r,Heap.get?_push_size _ rfl⟩
end
noncomputable abbrev Sp := List V → Hp → VK → XK → Prop
noncomputable abbrev CXT := List Env → Hp → Shared → XK → Value → Shared → Prop
structure wB(P:Program)(w:World)(K:PySem.W.Frag)(mg:Str→Option Value)(base:Heap)(A:Around)(outer:List Env)(s:Shared)(H:Hp):Prop where
 frames:A.frames=some outer
 mod:Mod K mg base
 bs:∀b o,base.get? b=some o→s.heap.get? b=some o∧H b=none
 bsz:base.objs.size≤s.heap.objs.size
 ou:s.heap.FunFrames base outer
 frf:∀b∈frs outer,H b=none
 hok:HOk P w H s.heap
 bare:AllBare s.gens
def CE(outer:List Env)(P:Program)(w:World)(H:Hp)(s:Shared)(Q:VK)(u:Value)(s':Shared):Prop :=
 ∃v H',s'.os=s.os∧AllBare s'.gens∧Un (frs outer) [] H H' s.heap s'.heap∧HOk P w H' s'.heap∧RelV v u∧Q v H'
def CR(CX:CXT)(outer:List Env)(P:Program)(w:World)(H:Hp)(s:Shared)(Q:VK)(E:XK)(r:Result)(s':Shared):Prop :=
 match r with
 | .ok (.ret u)=>CE outer P w H s Q u s'
 | .ok _=>False
 | .error e=>CX outer H s E e s'
structure aV(P:Program)(w:World)(K:PySem.W.Frag)(mg:Str→Option Value)(base:Heap)(CX:CXT)(k:Nat)(f:Addr)(fd:FuncData)(ps:List Str)(sp:Sp):Prop where
 len:∀vs H Q E,sp vs H Q E→vs.length=ps.length
 run:∀(A:Around) (outer:List Env) (s:Shared) (H:Hp) (args:Args) (us:List Value) (vs:List V) (Q:VK) (E:XK),dg k A→wB P w K mg base A outer s H→BindsTo s fd args (ps.zip us)→Vals vs us→sp vs H Q E →
  codeAny (model P w) A (.call (.ref f) args) (CR CX outer P w H s Q E) s
theorem wB.in1{P:Program}{w:World}{K:PySem.W.Frag}{mg:Str→Option Value}{base:Heap}{A:Around}{outer:List Env}{s:Shared}{H:Hp}(e:wB P w K mg base A outer s H) :
  wB P w K mg base A.in1 outer s H:=⟨e.frames,e.mod,e.bs,e.bsz,e.ou,e.frf,e.hok,e.bare⟩
section
variable{X:Cx}{pins:List (Addr×Obj)}{σ:St}{H:Hp}{s s':Shared}
theorem Inv.M8(I:Inv X pins σ H s):wB X.prog X.w X.K X.mg X.base X.A X.stack s H :=
 ⟨I.ok.frames,I.ok.mod,I.bs,Nat.le_trans I.ok.bsz I.sz,I.stack,I.yk,I.hok,I.bare⟩
theorem Inv.after{Q:VK}{u:Value}(I:Inv X pins σ H s)(h:CE X.stack X.prog X.w H s Q u s'):EP X pins σ Q u s':=by
 obtain⟨v,H',os,bare,un,hok,r,q⟩:=h
 obtain⟨hh,g,d,t,os'⟩:=s'
 obtain rfl:os'=s.os:=os
 exact⟨v,H',I.call (h':=hh) (g':=g) (d':=d) (t':=t) (ch:=[]) un hok bare (λb z=>absurd z (by simp)),r,q⟩
end
def G6(sp:Sp)(dvs:List V)(E:XK)(t:TA):TE:=λσ H Q=>t σ H λvs H1=>sp (vs++dvs) H1 Q E
def Binds(K:PySem.W.Frag)(fd:FuncData)(ps:List Str)(ds:List Value):Prop :=
 ∀(s:Shared) (us:List Value),K.In s.heap→(us++ds).length=ps.length→BindsTo s fd ⟨us,[]⟩ (ps.zip (us++ds))
theorem Binds.all{K:PySem.W.Frag}{fd:FuncData}{ps:List Str}(h:∀us:List Value,us.length=ps.length→bindArgs fd ⟨us,[]⟩=pure (ps.zip us)):Binds K fd ps []:=λs us _ hl=>by
 rw[List.append_nil] at hl ⊢
 exact .of_eq (h us hl)
def Passes(CX:CXT)(X:Cx)(E:XK):Prop:=∀(pins:List (Addr×Obj)) (σ:St) (H:Hp) (s:Shared) (e:Value) (s':Shared),Inv X pins σ H s→CX X.stack H s E e s'→X.xe e s'
section
variable{X:Cx}{CX:CXT}{k:Nat}{f C:Addr}{fd:FuncData}{ps:List Str}{sp:Sp}{dvs:List V}{ds:List Value}{E:XK}{x m:Str}{p pos apos:Pos}{e o:Expr}{es:List Expr}{ta:TE}{t:TA}
theorem H_{pins:List (Addr×Obj)}{σ:St}{H:Hp}{s:Shared}{Q:VK}{us:List Value}{vs:List V}(F:aV X.prog X.w X.K X.mg X.base CX k f fd ps sp)(hr:dg k X.A)(hb:Binds X.K fd ps ds)(hd:Vals dvs ds)(hx:Passes CX X E)
  (I:Inv X pins σ H s) (r:Vals vs us) (h:sp (vs++dvs) H Q E):wpAny (model X.prog X.w) X.A (call (.ref f) us) (EP X pins σ Q) X.xe s:=by
 have r2:Vals (vs++dvs) (us++ds):=r.append hd
 have hl:(us++ds).length=ps.length:=by rw[← r2.length];exact F.len _ _ _ _ h
 refine wpAny_call (codeAny_mono (F.run X.A X.stack s H ⟨us,[]⟩ (us++ds) (vs++dvs) Q E hr I.M8 (hb s us I.kIn hl) r2 h) λr s' hq=>?_)
 cases r with
 | error e=>exact hx pins σ H s e s' I hq
 | ok fl =>
  cases fl with
  | ret u=>exact I.after hq
  | next=>exact False.elim hq
  | brk=>exact False.elim hq
  | cont=>exact False.elim hq
theorem EA(F:aV X.prog X.w X.K X.mg X.base CX k f fd ps sp)(hr:dg k X.A)(hg:Gl X x)(hm:X.mg x=some (.ref f))(hk:PySem.W.keepIn X.K (.ref f)=true)(hb:Binds X.K fd ps ds)(hd:Vals dvs ds)(hx:Passes CX X E)
  (ha:PA X (e::es) t) (hdb:(x==("__debug__":Str))=false:=by decide) (he:starEach (e::es) X.env=(false,eval e X.env)::starEach es X.env:=by rfl) (hpl:(backTo pos (starEach es X.env)).any (·.1)=false:=by rfl) :
  PE X (.Call (.Name x p) (e::es) [] pos) (G6 sp dvs E t):=by
 intro pins s σ H Q I h
 refine wpAny_Call_Name_kw (Ep I hg hm ?_ hdb)
 refine PySem.W.callWith_K (h₀:=X.base) I.ok.mod.kin hk (thn (ha pos pins s σ H _ I h) λus s1 ⟨vs,H1,I1,r,q⟩=>⟨I1.kIn,?_⟩) he hpl
 exact H_ F hr hb hd hx I1 r q
end
section
variable{X:Cx}{CX:CXT}{k:Nat}{f C:Addr}{fd:FuncData}{ps ks:List Str}{sp:Sp}{E:XK}{x m:Str}{p pos apos QR:Pos}{e o:Expr}{es:List Expr}{kws:List Keyword}{te ta:TE}{t tk:TA}{nm:Option Str}
variable{g:List Value→List Value→List Value}{gV:List V→List V→List V}
end
structure aP(N P:List Str)(sc:Scope):Prop where
 kind:sc.kind=.function
 co:sc.isCoroutine=false
 gen:sc.isGenerator=false
 nd:N.Nodup
 pre:N.take P.length=P
 par:∀x∈P,sc.names.lookup x=some .local∨sc.names.lookup x=some .cell
 Ia:∀y∈sc.names,y.2≠.free
theorem sf{kindOf:Str→Option NameKind}{x:Str}:∀{binds:List (Str×Value)}{m:Str→Option Value},(∀v,(x,v)∉binds)→bindL kindOf binds m x=m x
 | [],_,_=>rfl
 | (n,v)::r,m,h=>by
  unfold bindL
  rw[sf λw hw=>h w (List.mem_cons_of_mem _ hw)]
  split
  ·have:x≠n:=by rintro rfl;exact h v List.mem_cons_self
   simp[this]
  ·rfl
theorem sg{kindOf:Str→Option NameKind}{x:Str}:∀{binds:List (Str×Value)}{m:Str→Option Value},(∀v,(x,v)∉binds)→bindC kindOf binds m x=m x
 | [],_,_=>rfl
 | (n,v)::r,m,h=>by
  unfold bindC
  rw[sg λw hw=>h w (List.mem_cons_of_mem _ hw)]
  split
  ·rfl
  ·have:x≠n:=by rintro rfl;exact h v List.mem_cons_self
   simp[this]
theorem sh{kindOf:Str→Option NameKind}{x:Str}{v:Value}:∀{P:List Str}{vs:List Value}{i:Nat}{m:Str→Option Value},P.Nodup→P[i]?=some x→vs[i]?=some v→kindOf x=some .local →
  bindL kindOf (P.zip vs) m x=some v
 | [],_,_,_,_,h,_,_=>by simp at h
 | _::_,[],_,_,_,_,h,_=>by simp at h
 | p::P,w::vs,0,m,nd,h1,h2,hk=>by
  simp at h1 h2;subst h1;subst h2
  show bindL kindOf ((p,w)::P.zip vs) m p=_
  unfold bindL
  rw[sf λv hv=>(List.nodup_cons.mp nd).1 (List.of_mem_zip hv).1,if_pos hk]
  simp
 | p::P,w::vs,i+1,m,nd,h1,h2,hk=>by
  show bindL kindOf ((p,w)::P.zip vs) m x=_
  unfold bindL
  exact sh (i:=i) (List.nodup_cons.mp nd).2 (by simpa using h1) (by simpa using h2) hk
theorem si{kindOf:Str→Option NameKind}{x:Str}{v:Value}:∀{P:List Str}{vs:List Value}{i:Nat}{m:Str→Option Value},P.Nodup→P[i]?=some x→vs[i]?=some v→kindOf x≠some .local →
  bindC kindOf (P.zip vs) m x=some v
 | [],_,_,_,_,h,_,_=>by simp at h
 | _::_,[],_,_,_,_,h,_=>by simp at h
 | p::P,w::vs,0,m,nd,h1,h2,hk=>by
  simp at h1 h2;subst h1;subst h2
  show bindC kindOf ((p,w)::P.zip vs) m p=_
  unfold bindC
  rw[sg λv hv=>(List.nodup_cons.mp nd).1 (List.of_mem_zip hv).1,if_neg hk]
  simp
 | p::P,w::vs,i+1,m,nd,h1,h2,hk=>by
  show bindC kindOf ((p,w)::P.zip vs) m x=_
  unfold bindC
  exact si (i:=i) (List.nodup_cons.mp nd).2 (by simpa using h1) (by simpa using h2) hk
def start(N:List Str)(vs:List V):St:=vs.map some++List.replicate (N.length-vs.length) none
def wC(CX:CXT)(P:Program)(w:World)(K:PySem.W.Frag)(mg:Str→Option Value)(base:Heap)(N:List Str)(qual:Str)(scope:Scope)(f:Addr)(cd:Value)(A:Around)(outer:List Env)(s:Shared)(H:Hp)(E:XK):Cx where
 prog:=P
 w:=w
 K:=K
 mg:=mg
 base:=base
 A:=A.deeper (envOfC qual scope s.heap.objs.size f cd)
 N:=N
 s₀:=s
 H₀:=H
 env:=envOfC qual scope s.heap.objs.size f cd
 outer:=outer
 stack:=envOfC qual scope s.heap.objs.size f cd::outer
 ex:=[]
 calm:=true
 fn:=λ_=>true
 pn:=[]
 xe:=λe s'=>wpAny (model P w) (A.deeper (envOfC qual scope s.heap.objs.size f cd)) (leaving (envOfC qual scope s.heap.objs.size f cd) e) (λ_ s''=>CX outer H s E e s'') (λe' s''=>CX outer H s E e' s'') s'
theorem u3{sc:Scope}{n:Nat}{x:Str}(h:sc.names.lookup x=some .cell):∃c,(cellsFrom n sc.names []).lookup x=some c:=by
 have q:=PySem.W.cellsFrom_some sc.names n [] (.inl h)
 exact Option.isSome_iff_exists.mp q
theorem zN{CX:CXT}{P:Program}{w:World}{K:PySem.W.Frag}{mg:Str→Option Value}{base:Heap}{N ps:List Str}{qual:Str}{scope:Scope}{f:Addr}{cd:Value}{A:Around}{outer:List Env}{s s1:Shared}{H:Hp}{E:XK}{us:List Value}{vs:List V}
  (S:aP N ps scope) (hd:A.handled=none) (e0:wB P w K mg base A outer s H) (hl:vs.length=ps.length) (r:Vals vs us)
  (x:InCallC s s.heap.objs.size (bindL (envOfC qual scope s.heap.objs.size f cd).kindOf (ps.zip us) λ_=>none) (cellsFrom (s.heap.objs.size+1) scope.names []) (bindC (envOfC qual scope s.heap.objs.size f cd).kindOf (ps.zip us) λ_=>none) s1) :
  Inv (wC CX P w K mg base N qual scope f cd A outer s H E) [] (start N vs) H s1:=by
 have hpl:ps.length≤N.length:=by have:=congrArg List.length S.pre;rw[List.length_take] at this;lia
 obtain⟨h1,tk,rfl,hk⟩:=x.done
 have noA:∀b:Addr,b∉(wC CX P w K mg base N qual scope f cd A outer s H E).ex:=λb z=>absurd (show b∈([]:List Addr) from z) (by simp)
 refine⟨⟨e0.mod,S.kind,rfl,rfl,Nat.le_refl _,λy z c h1 h2=>?_,λy hy=>?_,λy c _ h=>?_,λ_=>hd,Around.frames_deeper e0.frames,.inr ⟨rfl,rfl⟩,λb z=>absurd z (noA b),e0.bs,e0.bsz,λb _ _=>noA b,λb z=>absurd z (noA b),e0.ou,e0.frf⟩,
  rfl,e0.bare,Un.kept hk,⟨_,x.toInCall.ns,λi y v h1 h2 h3=>?_⟩,λy c h=>⟨_,x.cell y c h⟩,e0.hok.fresh (Nat.le_refl _),λy c h=>?_,λp hp=>absurd (show p∈([]:List (Addr×Obj)) from hp) (by simp),e0.hok.kept hk,?_⟩
 ·exact name_of_addr x.apart (PySem.mem_of_lookup h1) (PySem.mem_of_lookup h2)
 ·have hy:scope.names.lookup y=some .cell∨scope.names.lookup y=some .free:=hy
  rcases hy with hy|hy
  ·exact u3 hy
  ·exact absurd rfl (S.Ia _ (PySem.mem_of_lookup hy))
 ·exact Nat.le_of_lt (x.above y c (PySem.mem_of_lookup h))
 ·have hi:i<vs.length:=by
   unfold start at h2
   by_cases hi:i<vs.length
   ·exact hi
   ·rw[List.getElem?_append_right (by simpa using hi)] at h2
    rw[List.getElem?_replicate] at h2
    split at h2<;>cases h2
  have ha:vs[i]?=some v:=by
   unfold start at h2
   rw[List.getElem?_append_left (by simpa using hi),List.getElem?_map] at h2
   cases e:vs[i]? with
   | none=>rw[e] at h2;cases h2
   | some a=>rw[e] at h2;cases h2;rfl
  obtain⟨u,hu,rv⟩:=r.get ha
  have hp:ps[i]?=some y:=by
   rw[← S.pre,List.getElem?_take_of_lt (by lia)];exact h1
  have ndP:ps.Nodup:=by rw[← S.pre];exact S.nd.sublist (List.take_sublist _ _)
  refine⟨u,rv,?_⟩
  rcases S.par y (List.mem_of_getElem? hp) with k|k
  ·exact .inl ⟨k,sh ndP hp hu k⟩
  ·obtain⟨c,e⟩:=u3 (n:=s.heap.objs.size+1) k
   refine .inr ⟨.inl k,c,e,?_⟩
   have q:=x.cell y c e
   rw[si ndP hp hu (by show scope.names.lookup y≠_;rw[k];decide)] at q
   exact q
 ·exact e0.hok.fresh (Nat.le_of_lt (x.above y c (PySem.mem_of_lookup h)))
 ·unfold start
  show _=N.length
  rw[List.length_append,List.length_map,List.length_replicate]
  lia
theorem KI{CX:CXT}{P:Program}{w:World}{K:PySem.W.Frag}{mg:Str→Option Value}{base:Heap}{k:Nat}{f:Addr}{name qual:Str}{params:Arguments}{body:List Stmt}{scope:Scope}{dV kV doc pm cdv ct oc:Value}{an od:Option Addr}
  {osl:Array (Option Value)}{N ps:List Str}{sp:Sp} (lk:K.lookup f=some ⟨oc,od,.func (PySem.W.fnOf name qual params body scope dV kV doc pm an cdv ct),osl⟩) (hcd:PySem.W.codeIn K cdv qual=true) (S:aP N ps scope)
  (len:∀vs H Q E,sp vs H Q E→vs.length=ps.length)
  (Bq:∀(A:Around) (outer:List Env) (s:Shared) (H:Hp) (vs:List V) (Q:VK) (E:XK),dg k (A.deeper (envOfC qual scope s.heap.objs.size f cdv))→sp vs H Q E →
   ∃t,PSs (wC CX P w K mg base N qual scope f cdv A outer s H E) body t∧t { nx:=λ_ H'=>Q .non H',rt:=Q } (start N vs) H) :
  aV P w K mg base CX (k+1) f (PySem.W.fnOf name qual params body scope dV kV doc pm an cdv ct) ps sp:=by
 refine⟨len,λA outer s H args us vs Q E hr e0 hb r hsp=>?_⟩
 have hl:=len _ _ _ _ hsp
 have KX:K.In s.heap:=e0.mod.kin.keeps λb o e=>(e0.bs b o e).1
 have lim:s.heap.NoLimit:=e0.mod.nolimit.keeps λb o e=>(e0.bs b o e).1
 have KJ:∀y∈ps.zip us,scope.names.lookup y.1=some .local∨(scope.names.lookup y.1=some .cell∧((cellsFrom (s.heap.objs.size+1) scope.names []).lookup y.1).isSome=true):=λak hy=>by
  obtain⟨n,v⟩:=ak
  rcases S.par n (List.of_mem_zip hy).1 with q|q
  ·exact .inl q
  ·exact .inr ⟨q,PySem.W.cellsFrom_some _ _ _ (.inl q)⟩
 refine codeAny_call_function hr.depth (KX _ _ lk) rfl S.co S.gen rfl (PySem.W.codeRec_of KX hcd) (hb _ _ _ _ ?_)
 refine wpAny_newFunctionEnv_cells S.kind KJ λenv he s1 x=>?_
 subst he
 refine⟨lim.keeps x.toInCall.keep,codeAny_func ?_⟩
 obtain⟨t,ht,hq⟩:=Bq A outer s H vs Q E (hr.deeper _) hsp
 have I:Inv (wC CX P w K mg base N qual scope f cdv A outer s H E) [] (start N vs) H s1:=zN S hr.hd e0 hl r x
 refine wpAny_mono (ht [] s1 (start N vs) H _ I hq) (λfl s' hs=>?_) λe s' hs=>hs
 have fin:∀{σ':St}{H':Hp}{v:V}{u:Value},Inv (wC CX P w K mg base N qual scope f cdv A outer s H E) [] σ' H' s'→RelV v u→Q v H'→CE outer P w H s Q u s' :=
  λ{σ' H' v u} J rv q=>⟨v,H',J.os,J.bare,J.base,J.hok,rv,q⟩
 cases fl with
 | ret u =>
  obtain⟨v,σ',H',J,rv,q⟩:=hs
  exact fin J rv q
 | next =>
  obtain⟨σ',H',J,q⟩:=hs
  exact fin (v:=V.non) (u:=Value.none) J rfl q
 | brk =>
  obtain⟨_,_,_,q⟩:=hs
  exact False.elim q
 | cont =>
  obtain⟨_,_,_,q⟩:=hs
  exact False.elim q
section
variable{X:Cx}{x:Str}{p pos:Pos}{e:Expr}{es:List Expr}{t:TA}{id T:String}{r:List V→Hp→VK→Prop}
def tCB(r:List V→Hp→VK→Prop)(t:TA):TE:=λσ H Q=>t σ H λvs H1=>r vs H1 Q
theorem jT(hc:d6 X (.builtin id) r)(hg:Gl X x)(hm:X.mg x=none)(hv:bootBuiltins x=some (.builtin id))(ha:PA X (e::es) t)(hn:x≠"__name__":=by decide)(hdb:(x==("__debug__":Str))=false:=by decide)
  (he:starEach (e::es) X.env=(false,eval e X.env)::starEach es X.env:=by rfl) (hpl:(backTo pos (starEach es X.env)).any (·.1)=false:=by rfl):PE X (.Call (.Name x p) (e::es) [] pos) (tCB r t):=by
 intro pins s σ H Q I h
 refine wpAny_Call_Name_kw (mY I hg hm hv ?_ hn hdb)
 exact PyProof.Rows.callWith_builtin1 (thn (ha pos pins s σ H _ I h) λus s1 ⟨vs,H1,I1,r1,q1⟩=>hc pins s1 σ H1 vs us Q I1 r1 q1) he hpl
theorem sj(hc:d6 X (.type T) r)(hg:Gl X x)(hm:X.mg x=none)(hv:bootBuiltins x=some (.type T))(ha:PA X (e::es) t)(hn:x≠"__name__":=by decide)(hdb:(x==("__debug__":Str))=false:=by decide)
  (he:starEach (e::es) X.env=(false,eval e X.env)::starEach es X.env:=by rfl) (hpl:(backTo pos (starEach es X.env)).any (·.1)=false:=by rfl):PE X (.Call (.Name x p) (e::es) [] pos) (tCB r t):=by
 intro pins s σ H Q I h
 refine wpAny_Call_Name_kw (mY I hg hm hv ?_ hn hdb)
 exact PyProof.Rows.callWith_type1 (thn (ha pos pins s σ H _ I h) λus s1 ⟨vs,H1,I1,r1,q1⟩=>hc pins s1 σ H1 vs us Q I1 r1 q1) he hpl
end
end L2
namespace HT
open PySem PyProof.Rows
def lexLt:List Int→List Int→Bool
 | [],[]=>false
 | [],_::_=>true
 | _::_,[]=>false
 | x::xs,y::ys=>if x=y then lexLt xs ys else decide (x<y)
theorem wD(x y:Int)(xs ys:List Int):lexLt (x::xs) (y::ys)=if x=y then lexLt xs ys else decide (x<y):=rfl
theorem Br(A:Around)(s:Shared)(a:Int)(t:Tok)(c:Int)(u:Tok):∃e,SeqAt.EqAt A s (.int a t) (.int c u) e∧(e=true↔a=c) :=
 ⟨(a==c),SeqAt.EqAt.int_int a t c u,by simp⟩
theorem Bs(A:Around)(s:Shared)(a:Int)(t:Tok)(c:Int)(u:Tok)(prog:Program)(w:World)(E:Value→Shared→Prop)(Q:Value→Shared→Prop)(h:Q (.bool (decide (a<c))) s) :
  wpAny (model prog w) A (richCompare .Lt (.int a t) (.int c u)) Q E s :=
 (PyProof.Rows.lt_int h:wpAny (model prog w) A (compareOp .Lt (.int a t) (.int c u)) Q E s)
section
open PySem.SeqAt
open PySem.AutoSeq1 (wpAny_loadPart')
open PySem.MeetsSeq PySem.MeetsSeq2 PySem.MeetsSeq3
end
section
variable{prog:Program}{w:World}{A:Around}{E:Value→Shared→Prop}{s:Shared}
theorem EB{t b:Addr}{vs ws:List Value}{Q:Value→Shared→Prop}(ht:IsTup s.heap t vs.toArray)(hb:IsTup s.heap b ws.toArray)(hv:vs≠[])
  (h1:ws=[]→Q (.ref t) s) (h2:ws≠[]→Q (.ref s.heap.objs.size) { s with heap:=s.heap.push { cls:=.type "tuple",data:=.seq (vs++ws).toArray } })
  (hsz:vs.length+ws.length≤sizeLine):wpAny (model prog w) A (binaryOp .Add (.ref t) (.ref b)) Q E s:=by
 obtain⟨⟨cls,dd,data,sl⟩,ho,hc,n,hd⟩:=id ht
 obtain⟨⟨Ib,dd2,data2,sl2⟩,ho2,hc2,n2,hd2⟩:=id hb
 simp only at hc hd hc2 hd2
 subst hc hd hc2 hd2
 have e:vs.toArray++ws.toArray=(vs++ws).toArray:=by simp
 by_cases hw:ws=[]
 ·exact concat_meets ⟨_,ho,rfl⟩ ⟨_,ho2,rfl⟩ noFill_tuple_add seq_tuple_add PySem.F.slot_tuple_add PySem.F.entry_tuple_add (PySem.F.args_tuple_add_2 _ _)
   (tuple_addW1 t b vs.toArray ws.toArray n n2 dd dd2 sl sl2 (by simpa using hv) (by simp[hw])) ⟨ho,ho2,h1 hw⟩
 ·refine concat_meets ⟨_,ho,rfl⟩ ⟨_,ho2,rfl⟩ noFill_tuple_add seq_tuple_add PySem.F.slot_tuple_add PySem.F.entry_tuple_add (PySem.F.args_tuple_add_2 _ _)
   (tuple_addW2 t b vs.toArray ws.toArray n n2 dd dd2 sl sl2 (by simpa using hv) (by simpa using hw) (by rw[List.size_toArray,List.size_toArray];exact hsz)) ⟨ho,ho2,?_⟩
  rw[e]
  exact h2 hw
def sIx(n d:Nat):Option Int→Nat
 | none=>d
 | some v=>if v<0 then (v+(n:Int)).toNat else min v.toNat n
theorem Ic(n d:Nat)(hd:d≤n)(o:Option Int):sIx n d o≤n:=by
 cases o with
 | none=>exact hd
 | some v =>
  show (if v<0 then (v+(n:Int)).toNat else min v.toNat n)≤n
  by_cases hv:v<0
  ·rw[if_pos hv];lia
  ·rw[if_neg hv];exact Nat.min_le_right _ _
theorem yu(v:Int)(n d:Nat):(if v<0 then max (v+(n:Int)) 0 else min v (n:Int))=((sIx n d (some v):Nat):Int):=by
 show (if v<0 then max (v+(n:Int)) 0 else min v (n:Int))=(((if v<0 then (v+(n:Int)).toNat else min v.toNat n):Nat):Int)
 by_cases hv:v<0
 ·simp only[if_pos hv];lia
 ·simp only[if_neg hv];lia
theorem wF(lo hi:Option Int)(n:Nat):Builtin.Slice.sliceAdjust lo hi 1 (n:Int)=(((sIx n 0 lo:Nat):Int),((sIx n n hi:Nat):Int)):=by
 have h1:¬ ((1:Int)<0):=by lia
 unfold Builtin.Slice.sliceAdjust
 simp only[h1,if_false]
 refine Prod.ext ?_ ?_
 ·cases lo with
  | none=>rfl
  | some v=>exact yu v n 0
 ·cases hi with
  | none=>rfl
  | some v=>exact yu v n n
theorem wG(i j:Nat):Builtin.Slice.slicePlaces (i:Int) (j:Int) 1=j-i:=by
 unfold Builtin.Slice.slicePlaces
 have h1:(1:Int) > 0:=by lia
 simp only[h1,if_true,Int.ediv_one]
 split<;>lia
theorem pf{v:Value}{o:Option Int}{Q:Option Int→Shared→Prop}(p:IsPart v o)(h:Q o s):wpAny (model prog w) A (Builtin.Slice.slicePartIndex v) Q E s:=by
 cases p with
 | none=>exact slicePart_none h
 | int i t=>exact slicePart_int h
theorem m4{sl:Addr}{vl vu:Value}{lo hi:Option Int}{n:Nat}{Q:Int×Int×Nat→Shared→Prop}(hs:s.heap.IsSliceOf sl vl vu .none)(pl:IsPart vl lo)(pu:IsPart vu hi)
  (h:Q (((sIx n 0 lo:Nat):Int),1,sIx n n hi-sIx n 0 lo) s):wpAny (model prog w) A (Builtin.Slice.sliceApplied (.ref sl) (pure (n:Int))) Q E s:=by
 obtain⟨os,hos,hcs,hds⟩:=id hs
 unfold Builtin.Slice.sliceApplied Builtin.Slice.sliceFields
 refine wpAny_bind (wpAny_bind (wpAny_field hos hds (x:=vl) rfl (wpAny_bind (wpAny_field hos hds (x:=vu) rfl (wpAny_bind (wpAny_field hos hds (x:=.none) rfl (wpAny_pure ?_)))))))
 refine wpAny_bind (slicePart_none ?_)
 show wpAny _ _ (if ((1:Int)==0)=true then _ else _) _ _ s
 rw[if_neg (by decide)]
 refine wpAny_bind (pf pl (wpAny_bind (pf pu (wpAny_bind (wpAny_pure ?_)))))
 show wpAny _ _ (match Builtin.Slice.sliceAdjust lo hi 1 (n:Int) with|(lo,hi)=>pure (lo,(1:Int),Builtin.Slice.slicePlaces lo hi 1)) _ _ s
 rw[wF lo hi n]
 show wpAny _ _ (pure (((sIx n 0 lo:Nat):Int),(1:Int),Builtin.Slice.slicePlaces ((sIx n 0 lo:Nat):Int) ((sIx n n hi:Nat):Int) 1)) _ _ s
 rw[wG]
 exact wpAny_pure h
theorem Bt(xs:Array Value)(i k:Nat):((List.range k).filterMap λ(m:Nat)=>xs[((i:Int)+(m:Int)*1).toNat]?).toArray=((xs.toList.drop i).take k).toArray:=by
 have e:(λ(m:Nat)=>xs[((i:Int)+(m:Int)*1).toNat]?)=λm=>xs[i+m]?:=by
  funext m
  have:((i:Int)+(m:Int)*1).toNat=i+m:=by lia
  rw[this]
 rw[e]
 have:=pick_run xs i k
 rw[List.filterMap_map] at this
 have e2:((λx=>xs[x]?) ∘ λx=>i+x)=λm=>xs[i+m]?:=rfl
 rw[e2] at this
 rw[this]
theorem l_{t sl:Addr}{items:Array Value}{vl vu:Value}{lo hi:Option Int}{Q:Value→Shared→Prop}(ht:IsTup s.heap t items)(hs:s.heap.IsSliceOf sl vl vu .none)(pl:IsPart vl lo)(pu:IsPart vu hi)
  (hw:¬ (sIx items.size 0 lo=0∧sIx items.size items.size hi=items.size))
  (h:Q (.ref s.heap.objs.size) { s with heap:=s.heap.push { cls:=.type "tuple",data:=.seq ((items.toList.drop (sIx items.size 0 lo)).take (sIx items.size items.size hi-sIx items.size 0 lo)).toArray } })
  (hsz:items.size≤sizeLine):wpAny (model prog w) A (getItem (.ref t) (.ref sl)) Q E s:=by
 have yv:sizeOk (.seq ((items.toList.drop (sIx items.size 0 lo)).take (sIx items.size items.size hi-sIx items.size 0 lo)).toArray):=by
  show ((items.toList.drop (sIx items.size 0 lo)).take (sIx items.size items.size hi-sIx items.size 0 lo)).toArray.size≤sizeLine
  rw[List.size_toArray,List.length_take,List.length_drop,Array.length_toList]
  lia
 have hj:sIx items.size items.size hi≤items.size:=Ic _ _ (Nat.le_refl _) hi
 obtain⟨os,hos,hcs,hds⟩:=id hs
 have hTs:s.TypeIs (.ref sl) "slice":=⟨os,hos,hcs⟩
 unfold getItem
 try with_reducible refine wpAny_holding ?_
 first|refine wpAny_bind (wpAny_pure ?_)|skip
 refine wpAny_bind (wpAny_sequenceKey ht.typeIs (by decide) ?_)
 refine wpAny_bind (wpAny_callSpecial?_slot (name:=Str.ofString "__getitem__") ht.typeIs PyProof.Rows.slot_tuple_getitem
  (wpAny_call_entry PyProof.Rows.slot_tuple_getitem ht.typeIs entry_tuple_getitem ?_ (args_tuple_getitem _ _)))
 show wpAny _ _ (Builtin.Tuple.tupleItemsOf (.ref t)>>=_) _ _ s
 refine wpAny_bind (tupleItemsOf_ ht ?_)
 refine wpAny_bind (wpAny_typeOf hTs ?_)
 rw[if_pos (by decide)]
 refine wpAny_bind (m4 hs pl pu ?_)
 have hno:¬ ((((sIx items.size 0 lo:Nat):Int)==0 && (1:Int)==1 && (sIx items.size items.size hi-sIx items.size 0 lo)==items.size)=true):=by
  intro q
  rw[Bool.and_eq_true,Bool.and_eq_true] at q
  have q1:((sIx items.size 0 lo:Nat):Int)=0:=eq_of_beq q.1.1
  have q2:sIx items.size items.size hi-sIx items.size 0 lo=items.size:=eq_of_beq q.2
  exact hw ⟨by lia,by lia⟩
 show wpAny _ _ (if (((sIx items.size 0 lo:Nat):Int)==0 && (1:Int)==1 && (sIx items.size items.size hi-sIx items.size 0 lo)==items.size)=true then _ else _) _ _ s
 rw[if_neg hno,Bt]
 first
  | exact wpAny_bind (m:=Builtin.Tuple.tupleExact _) (wpAny_newObj_type (wpAny_pure ⟨_,rfl,wpAny_pure h⟩) yv)
  | exact wpAny_bind (m:=Builtin.Tuple.tupleExact _) (wpAny_newObj_type (wpAny_bind (wpAny_pure (wpAny_pure ⟨_,rfl,wpAny_pure h⟩))) yv)
  | exact wpAny_bind (wpAny_bind (m:=Builtin.Tuple.tupleExact _) (wpAny_newObj_type (wpAny_pure (wpAny_pure ⟨_,rfl,wpAny_pure h⟩)) yv))
  | exact wpAny_bind (wpAny_bind (m:=Builtin.Tuple.tupleExact _) (wpAny_newObj_type (wpAny_pure ⟨_,rfl,wpAny_pure h⟩) yv))
end
end HT
namespace L2
open PySem PySem.Spec PyProof.Rows
noncomputable abbrev TO := St → Hp → (Option Int → Hp → Prop) → Prop
def PO(X:Cx)(e:Option Expr)(t:TO):Prop :=
 ∀(pins:List (Addr×Obj)) (s:Shared) (σ:St) (H:Hp) (Q:Option Int→Hp→Prop),Inv X pins σ H s→t σ H Q →
  wpAny (model X.prog X.w) X.A (evalPart e X.env) (λu s'=>∃o H',Inv X pins σ H' s'∧IsPart u o∧Q o H') X.xe s
def EC:TO:=λ_ H Q=>Q none H
def KL(t:TE):TO:=λσ H Q=>t σ H λx H1=>∃i,x=.int i∧Q (some i) H1
theorem intsAre_of{ns:List Int}:∀{us:List Value},Vals (ns.map V.int) us→IntsAre us ns:=by
 induction ns with
 | nil=>intro us r;rw[List.map_nil] at r;cases r;exact .nil
 | cons n ns ih =>
  intro us r
  rw[List.map_cons] at r
  cases r with
  | cons r1 r2 =>
   obtain⟨t,e⟩:=r1
   subst e
   exact .cons n t (ih r2)
section
variable{X:Cx}{e:Expr}{te:TE}{lo hi:Option Expr}{tl th:TO}{pos p2:Pos}
theorem ED:PO X none EC:=by
 intro pins s σ H Q I h
 rw[evalPart_none]
 exact wpAny_pure ⟨none,H,I,.none,h⟩
theorem EE(h:PE X e te):PO X (some e) (KL te):=by
 intro pins s σ H Q I hw
 rw[evalPart_some]
 refine thn (h pins s σ H _ I hw) λu s1 ak=>?_
 obtain⟨x,H1,I1,r1,q1⟩:=ak
 obtain⟨i,rfl,q⟩:=q1
 obtain⟨t,rfl⟩:=r1
 exact⟨some i,H1,I1,.int i t,q⟩
def SlR(X:Cx)(r:V→Option Int→Option Int→Hp→VK→Prop):Prop :=
 ∀(pins:List (Addr×Obj)) (s:Shared) (σ:St) (H:Hp) (x:V) (v vl vu:Value) (lo hi:Option Int) (sl:Addr) (Q:VK),Inv X pins σ H s→RelV x v→s.heap.IsSliceOf sl vl vu .none→IsPart vl lo→IsPart vu hi→r x lo hi H Q →
  ∃T id,typeLookup (.type T) "__getitem__"=pure (some (.builtin id))∧s.TypeIs v T∧wpAny (model X.prog X.w) X.A (getItem v (.ref sl)) (EP X pins σ Q) X.xe s
theorem SlR.or{r r':V→Option Int→Option Int→Hp→VK→Prop}(h:SlR X r)(h':SlR X r'):SlR X (λx lo hi H Q=>r x lo hi H Q∨r' x lo hi H Q):=by
 intro pins s σ H x v vl vu lo hi sl Q I rx hs pl pu q
 rcases q with q|q
 ·exact h pins s σ H x v vl vu lo hi sl Q I rx hs pl pu q
 ·exact h' pins s σ H x v vl vu lo hi sl Q I rx hs pl pu q
def tSl(r:V→Option Int→Option Int→Hp→VK→Prop)(te:TE)(tl th:TO):TE:=λσ H Q=>te σ H λx H1=>tl σ H1 λl H2=>th σ H2 λu H3=>r x l u H3 Q
theorem Bu{r:V→Option Int→Option Int→Hp→VK→Prop}(hr:SlR X r)(he:PE X e te)(hl:PO X lo tl)(hu:PO X hi th):PE X (.Subscript e (.Slice lo hi none p2) pos) (tSl r te tl th):=by
 intro pins s σ H Q I h
 refine Subscript_ (thn (he pins s σ H _ I h) λv s1 ak=>?_)
 obtain⟨x,H1,I1,r1,q1⟩:=ak
 refine wpAny_Slice (thn (hl pins s1 σ H1 _ I1 q1) λvl s2 ⟨l,H2,I2,pl,q2⟩=>thn (hu pins s2 σ H2 _ I2 q2) λvu s3 df=>?_)
 obtain⟨u,H3,I3,pu,q3⟩:=df
 rw[evalPart_none]
 refine wpAny_pure ?_
 have I4:Inv X pins σ H3 { s3 with heap:=s3.heap.push { cls:=.type "slice",data:=.fields #[vl,vu,.none] } }:=I3.kept (t':=s3.toks) λb ob q=>Heap.get?_push_of_some _ q
 obtain⟨T,id,hT,ht,hg⟩:=hr pins { s3 with heap:=s3.heap.push { cls:=.type "slice",data:=.fields #[vl,vu,.none] } } σ H3 x v vl vu l u s3.heap.objs.size Q I4 r1 (Heap.IsSliceOf.new ..) pl pu q3
 show wpAny (model X.prog X.w) X.A (subscriptTail e (.Slice lo hi none p2) v (.ref s3.heap.objs.size)) (EP X pins σ Q) X.xe { s3 with heap:=s3.heap.push { cls:=.type "slice",data:=.fields #[vl,vu,.none] } }
 exact tail_any (ops:=[.ref s3.heap.objs.size,v]) ht hT hg (by with_unfolding_all rfl)
def u4(xs:List V)(lo hi:Option Int):List V:=(xs.drop (HT.sIx xs.length 0 lo)).take (HT.sIx xs.length xs.length hi-HT.sIx xs.length 0 lo)
theorem nW(xs:List V)(lo hi:Option Int):(u4 xs lo hi).length≤xs.length:=by
 unfold u4
 rw[List.length_take,List.length_drop]
 lia
def M9(K:PySem.W.Frag):V→Option Int→Option Int→Hp→VK→Prop:=λx lo hi H Q=>∃a xs,x=.ref a∧SqT K H a xs ∧
 ¬ (HT.sIx xs.length 0 lo=0∧HT.sIx xs.length xs.length hi=xs.length)∧∀p,H p=none→Q (.ref p) (upd H p (.tup (u4 xs lo hi)))
theorem Ie:SlR X (M9 X.K):=by
 intro pins s σ H x v vl vu lo hi sl Q I rx hs pl pu h
 obtain⟨a,xs,rfl,hx,hw,q⟩:=h
 cases rx
 obtain⟨its,r,ht,hz⟩:=I.tuple hx
 have hlen:its.toArray.size=xs.length:=by rw[List.size_toArray];exact r.length.symm
 refine⟨"tuple",_,PyProof.Rows.slot_tuple_getitem.lookup,ht.typeIs,?_⟩
 refine HT.l_ ht hs pl pu (by rw[hlen];exact hw) ?_ (by rw[hlen];exact hz)
 rw[hlen]
 refine⟨.ref s.heap.objs.size,_,I.laid (t':=s.toks) (o:=.tup (u4 xs lo hi)) (λb ob q=>Heap.get?_push_of_some _ q) (Nat.le_refl _) ?_,rfl,q _ (I.hok.fresh (Nat.le_refl _))⟩
 exact⟨Nat.le_trans (nW xs lo hi) hz,_,(r.drop (HT.sIx xs.length 0 lo)).take (HT.sIx xs.length xs.length hi-HT.sIx xs.length 0 lo),IsTup.new _ _⟩
def KN(K:PySem.W.Frag):R2:=λx y H Q=>∃a b xs ys,x=.ref a∧y=.ref b∧SqT K H a xs∧SqT K H b ys∧xs≠[]∧xs.length+ys.length≤sizeLine ∧
 (ys=[]→Q (.ref a) H)∧(ys≠[]→∀p,H p=none→Q (.ref p) (upd H p (.tup (xs++ys))))
theorem Vals.oS{xs:List V}{us:List Value}(r:Vals xs us):us=[]↔xs=[]:=by
 cases r with
 | nil=>simp
 | cons _ _=>simp
theorem EF:OpR X (binaryOp .Add) (KN X.K):=by
 intro pins s σ H x y v u Q I rx ry h
 obtain⟨a,b,xs,ys,rfl,rfl,ha,hb,hx,hz,q1,q2⟩:=h
 cases rx
 cases ry
 obtain⟨its,r1,p1,_⟩:=I.tuple ha
 obtain⟨pg,r2,p2,_⟩:=I.tuple hb
 refine HT.EB p1 p2 (λz=>hx (r1.oS.mp z)) (λz=>⟨.ref a,H,I,rfl,q1 (r2.oS.mp z)⟩) (λz=>?_) (by rw[← r1.length,← r2.length];exact hz)
 refine⟨.ref s.heap.objs.size,_,I.laid (t':=s.toks) (o:=.tup (xs++ys)) (λb ob q=>Heap.get?_push_of_some _ q) (Nat.le_refl _) ?_,rfl,q2 (λw=>z (r2.oS.mpr w)) _ (I.hok.fresh (Nat.le_refl _))⟩
 exact⟨by rw[List.length_append];exact hz,_,r1.append r2,IsTup.new _ _⟩
end
def ixN(n:Nat)(i:Int):Option Nat:=if 0≤i then (if i<n then some i.toNat else none) else if -(n:Int)≤i then some (i+n).toNat else none
def atI{α:Type}(xs:List α)(i:Int):Option α:=(ixN xs.length i).bind λj=>xs[j]?
theorem yw{n:Nat}{i:Int}{j:Nat}(h:ixN n i=some j):seqIndex? i n=some j∧j<n∧-(n:Int)≤i∧i<n:=by
 unfold ixN at h
 by_cases h0:0≤i
 ·rw[if_pos h0] at h
  by_cases h1:i<n
  ·rw[if_pos h1] at h
   have e:i.toNat=j:=Option.some.inj h
   exact⟨by rw[seqIndex_of h0 h1,e],by lia,by lia,h1⟩
  ·rw[if_neg h1] at h;cases h
 ·rw[if_neg h0] at h
  by_cases h1:-(n:Int)≤i
  ·rw[if_pos h1] at h
   have e:(i+n).toNat=j:=Option.some.inj h
   exact⟨by rw[seqIndex_neg (by lia) h1,e],by lia,h1,by lia⟩
  ·rw[if_neg h1] at h;cases h
theorem tK{α:Type}{xs:List α}{i:Int}{v:α}(h:atI xs i=some v):∃j,seqIndex? i xs.length=some j∧xs[j]?=some v∧j<xs.length∧-(xs.length:Int)≤i∧i<xs.length:=by
 unfold atI at h
 cases e:ixN xs.length i with
 | none=>rw[e] at h;cases h
 | some j =>
  rw[e] at h
  obtain⟨h1,h2,h3,h4⟩:=yw e
  exact⟨j,h1,h,h2,h3,h4⟩
def yx(b:Expr):Prop:=∀o i,subscripted b false o i=operate [o,i] (getItem o i)
def IxR(X:Cx)(r:R2):Prop :=
 ∀(value slice:Expr) (pins:List (Addr×Obj)) (s:Shared) (σ:St) (H:Hp) (x y:V) (v u:Value) (Q:VK),Inv X pins σ H s→RelV x v→RelV y u→r x y H Q →
  subscripted slice false v u=operate [v,u] (getItem v u)→wpAny (model X.prog X.w) X.A (subscriptTail value slice v u) (EP X pins σ Q) X.xe s
def MtR(X:Cx)(id:String)(r:V→List V→Hp→VK→Prop):Prop :=
 ∀(pins:List (Addr×Obj)) (s:Shared) (σ:St) (H:Hp) (x:V) (xs:List V) (v:Value) (us:List Value) (Q:VK),Inv X pins σ H s→RelV x v→Vals xs us→r x xs H Q →
  wpAny (model X.prog X.w) X.A (call (.builtin id) (v::us)) (EP X pins σ Q) X.xe s
section
variable{X:Cx}{a b:Expr}{ta tb:TE}{pos:Pos}
theorem IxR.or{r r':R2}(h:IxR X r)(h':IxR X r'):IxR X (λx y H Q=>r x y H Q∨r' x y H Q):=by
 intro value slice pins s σ H x y v u Q I rx ry q hs
 rcases q with q|q
 ·exact h value slice pins s σ H x y v u Q I rx ry q hs
 ·exact h' value slice pins s σ H x y v u Q I rx ry q hs
theorem KO{r:R2}(hr:IxR X r)(ha:PE X a ta)(hb:PE X b tb)(hs:yx b):PE X (.Subscript a b pos) (tOp r ta tb):=by
 intro pins s σ H Q I h
 exact Subscript_ (HR ha hb I h λv u s2 x y H2 I2 rx ry q=>hr a b pins s2 σ H2 x y v u Q I2 rx ry q (hs _ _))
def KP(K:PySem.W.Frag):R2:=λx y H Q=>∃p xs i v,x=.ref p∧y=.int i∧SqL K H p xs∧atI xs i=some v∧Q v H
def KQ(K:PySem.W.Frag):R2:=λx y H Q=>∃p xs i v,x=.ref p∧y=.int i∧SqT K H p xs∧atI xs i=some v∧Q v H
def KR:R2:=λx y H Q=>∃z i c,x=.str z∧y=.int i∧z.length≤sizeLine∧atI z.cps.toList i=some c∧Q (.str ⟨#[c]⟩) H
theorem EG:IxR X (KP X.K):=by
 intro value slice pins s σ H x y v u Q I rx ry h hs
 obtain⟨p,xs,i,z,rfl,rfl,hq,he,q⟩:=h
 cases rx
 obtain⟨t,rfl⟩:=ry
 obtain⟨its,r,pl,hz⟩:=I.list hq
 obtain⟨j,h1,h2,h3,h4,h5⟩:=tK he
 obtain⟨w,ew,rw'⟩:=r.get h2
 have hl:=r.length
 have hn:=mZ
 have fin:EP X pins σ Q w s:=⟨z,H,I,rw',q⟩
 by_cases h0:0≤i
 ·have hj:i.toNat=j:=by
   rw[seqIndex_of h0 h5] at h1
   exact Option.some.inj h1
  exact item_listR pl.isList h0 (by lia) (by rw[hj];simpa using ew) fin hs
 ·have hj:(i+(its.toArray.size:Int)).toNat=j:=by
   rw[seqIndex_neg (by lia) h4] at h1
   rw[List.size_toArray,← hl]
   exact Option.some.inj h1
  exact subscriptTail_builtinR (x:=w) pl.isList.typeIs slot_list_getitem.lookup
   (wpAny_getItem_list_neg (Q:=λr s'=>r=w∧EP X pins σ Q r s') pl.isList (by lia) (by rw[List.size_toArray]<;>lia) (by lia) (by rw[hj];simpa using ew) ⟨rfl,fin⟩) hs
theorem Ig:IxR X (KQ X.K):=by
 intro value slice pins s σ H x y v u Q I rx ry h hs
 obtain⟨p,xs,i,z,rfl,rfl,hq,he,q⟩:=h
 cases rx
 obtain⟨t,rfl⟩:=ry
 obtain⟨its,r,pl,hz⟩:=I.tuple hq
 obtain⟨j,h1,h2,h3,h4,h5⟩:=tK he
 obtain⟨w,ew,rw'⟩:=r.get h2
 have hl:=r.length
 have hn:=mZ
 have fin:EP X pins σ Q w s:=⟨z,H,I,rw',q⟩
 exact subscriptTail_builtinR (x:=w) pl.typeIs slot_tuple_getitem.lookup
  (getItem_tuple (j:=j) (Q:=λr s'=>r=w∧EP X pins σ Q r s') pl (by lia) (by lia) (by rw[List.size_toArray,← hl];exact h1) (by simpa using ew) ⟨rfl,fin⟩) hs
theorem Ih:IxR X KR:=by
 intro value slice pins s σ H x y v u Q I rx ry h hs
 obtain⟨z,i,c,rfl,rfl,hz,he,q⟩:=h
 obtain⟨t,rfl⟩:=rx
 obtain⟨t',rfl⟩:=ry
 obtain⟨j,h1,h2,h3,h4,h5⟩:=tK he
 have hl:z.cps.toList.length=z.length:=by simp[Str.length]
 rw[hl] at h1 h4 h5
 have hn:=mZ
 exact tail_any (typeIs_str s z t) slot_str_getitem.lookup (getItem_str (c:=c) (by
  have e1:decide (i< -(2 ^ 63:Int))=false:=decide_eq_false (by lia)
  have e2:decide (i ≥ 2 ^ 63)=false:=decide_eq_false (by lia)
  rw[e1,e2,Bool.or_false]) (by rw[h1];simpa using h2) ⟨.str ⟨#[c]⟩,H,I.tok _,⟨_,rfl⟩,q⟩) hs
def rIx(K:PySem.W.Frag):R2:=λx y H Q=>KP K x y H Q∨KQ K x y H Q∨KR x y H Q
theorem Ii:IxR X (rIx X.K):=EG.or (Ig.or Ih)
theorem wH(its:List Value)(n j:Nat)(u:Value):Obj.mapSeq (·.setIfInBounds j u) { cls:=.type "list",data:=.seq its.toArray n }={ cls:=.type "list",data:=.seq (its.set j u).toArray n }:=by
 simp[Obj.mapSeq]
theorem Inv.lst{pins:List (Addr×Obj)}{σ:St}{H:Hp}{s:Shared}{p:Addr}{xs:List V}(I:Inv X pins σ H s)(h:H p=some (.lst xs)) :
  ∃(its:List Value) (n:Nat),Vals xs its∧s.heap.get? p=some { cls:=.type "list",data:=.seq its.toArray n }∧xs.length≤sizeLine:=by
 obtain⟨z,its,n,r,e⟩:=I.hok p _ h
 exact⟨its,n,r,e,z⟩
theorem Inv.Ij{pins:List (Addr×Obj)}{σ:St}{H:Hp}{s:Shared}{p:Addr}{xs ys:List V}{its its':List Value}{n n':Nat}{f:Obj→Obj}(I:Inv X pins σ H s)(h:H p=some (.lst xs))
  (ho:s.heap.get? p=some { cls:=.type "list",data:=.seq its.toArray n }) (hf:f { cls:=.type "list",data:=.seq its.toArray n }={ cls:=.type "list",data:=.seq its'.toArray n' }) (r:Vals ys its') (hz:ys.length≤sizeLine) (t:Nat) :
  Inv X pins σ (upd H p (.lst ys)) { s with heap:=s.heap.update p f,toks:=t }:=by
 have e:(s.heap.update p f).get? p=some { cls:=.type "list",data:=.seq its'.toArray n' }:=by
  rw[Heap.get?_update_self f ho (by rw[hf]<;>rfl),hf]
 refine I.write (x:=p) (e:=p) (by rw[h];trivial) (.inl rfl) (λb u hb q=>(Heap.get?_update_other _ _ (Ne.symm hb)).trans q) ⟨_,e⟩ ?_
 exact⟨hz,its',n',r,e⟩
def KS:V→V→V→Hp→(Hp→Prop)→Prop:=λo i v H Q=>∃p xs k j,o=.ref p∧i=.int k∧H p=some (.lst xs)∧ixN xs.length k=some j∧Q (upd H p (.lst (xs.set j v)))
theorem set_list:Ku X KS:=by
 intro pins s σ H o i v ov iv u Q I ro ri rv h
 obtain⟨p,xs,k,j,rfl,rfl,hp,hj,q⟩:=h
 cases ro
 obtain⟨t,rfl⟩:=ri
 obtain⟨its,n,r,ho,hz⟩:=I.lst hp
 obtain⟨h1,h2,h3,h4⟩:=yw hj
 have hl:=r.length
 have hn:=mZ
 have I':Inv X pins σ (upd H p (.lst (xs.set j v))) { s with heap:=s.heap.update p (Obj.mapSeq (·.setIfInBounds j u)) } :=
  I.Ij hp ho (wH its n j u) (r.set rv j) (by rw[List.length_set];exact hz) s.toks
 by_cases h0:0≤k
 ·have hk:k.toNat=j:=by
   rw[seqIndex_of h0 h4] at h1
   exact Option.some.inj h1
  exact PySem.W.ki_setAt ho h0 (by lia) (by rw[List.size_toArray,← hl];exact h4) (by rw[hk];exact⟨_,I',q⟩)
 ·have hk:(k+(its.toArray.size:Int)).toNat=j:=by
   rw[seqIndex_neg (by lia) h3] at h1
   rw[List.size_toArray,← hl]
   exact Option.some.inj h1
  exact PySem.W.ki_setBack ho (by lia) (by rw[List.size_toArray,← hl];exact h3) (by lia) (by rw[hk];exact⟨_,I',q⟩)
theorem tL(lo hi:Option Int)(n:Nat):(sliceBounds lo hi none n).1=((HT.sIx n 0 lo:Nat):Int)∧(sliceBounds lo hi none n).2.1=((HT.sIx n n hi:Nat):Int)∧(sliceBounds lo hi none n).2.2=1:=by
 refine⟨?_,?_,rfl⟩
 ·cases lo with
  | none=>simp[sliceBounds,HT.sIx]
  | some i =>
   simp only[sliceBounds,HT.sIx,Option.getD_none,show (1:Int) > 0 by decide,if_true]
   by_cases h:i<0
   ·simp only[h,if_true]<;>lia
   ·simp only[h,if_false]<;>lia
 ·cases hi with
  | none=>simp[sliceBounds,HT.sIx]
  | some i =>
   simp only[sliceBounds,HT.sIx,Option.getD_none,show (1:Int) > 0 by decide,if_true]
   by_cases h:i<0
   ·simp only[h,if_true]<;>lia
   ·simp only[h,if_false]<;>lia
theorem rm(its:List Value)(lo hi:Option Int):slicePick its.toArray lo hi none=((its.drop (HT.sIx its.length 0 lo)).take (HT.sIx its.length its.length hi-HT.sIx its.length 0 lo)).toArray:=by
 obtain⟨h1,h2,h3⟩:=tL lo hi its.toArray.size
 unfold slicePick
 rw[h1,h2,h3]
 simp only[sliceRange_one,pick_run,List.size_toArray]<;>rfl
def M_(K:PySem.W.Frag):V→Option Int→Option Int→Hp→VK→Prop:=λx lo hi H Q=>∃a xs,x=.ref a∧SqL K H a xs∧∀p,H p=none→Q (.ref p) (upd H p (.lst (u4 xs lo hi)))
theorem EH:SlR X (M_ X.K):=by
 intro pins s σ H x v vl vu lo hi sl Q I rx hs pl pu h
 obtain⟨a,xs,rfl,hx,q⟩:=h
 cases rx
 obtain⟨its,r,ht,hz⟩:=I.list hx
 have hlen:=r.length
 refine⟨"list",_,slot_list_getitem.lookup,ht.isList.typeIs,?_⟩
 refine wpAny_getItem_list_slice ht.isList hs pl pu .none (by simp) ?_ (by rw[List.size_toArray]<;>lia)
 rw[rm,← hlen]
 refine⟨.ref s.heap.objs.size,_,I.laid (t':=s.toks) (o:=.lst (u4 xs lo hi)) (λb ob q=>Heap.get?_push_of_some _ q) (Nat.le_refl _) ?_,rfl,q _ (I.hok.fresh (Nat.le_refl _))⟩
 exact⟨Nat.le_trans (nW xs lo hi) hz,_,0,(r.drop (HT.sIx xs.length 0 lo)).take (HT.sIx xs.length xs.length hi-HT.sIx xs.length 0 lo),Heap.get?_push_size _ rfl⟩
def kT:V→Bool
 | .non=>true
 | .bl _=>true
 | .int _=>true
 | .str _=>true
 | _=>false
def eqV:V→V→Bool
 | .non,.non=>true
 | .bl a,.bl b=>a==b
 | .bl a,.int b=>(if a then 1 else 0)==b
 | .int a,.bl b=>a==(if b then 1 else 0)
 | .int a,.int b=>a==b
 | .str a,.str b=>a==b
 | _,_=>false
theorem Ik{A:Around}{s:Shared}{y x:V}{u v:Value}(ry:RelV y u)(rx:RelV x v)(fy:kT y=true)(fx:kT x=true):SeqAt.EqAt A s u v (eqV y x):=by
 cases y with
 | non =>
  cases ry
  cases x with
  | non=>cases rx;exact SeqAt.EqAt.same _
  | bl b=>cases rx;exact SeqAt.EqAt.none_bool b
  | int b=>obtain⟨t,rfl⟩:=rx;exact SeqAt.EqAt.none_int b t
  | str b=>obtain⟨t,rfl⟩:=rx;exact SeqAt.EqAt.none_str b t
  | _=>exact absurd (show false=true from fx) Bool.false_ne_true
 | bl a =>
  cases ry
  cases x with
  | non=>cases rx;exact SeqAt.EqAt.bool_none a
  | bl b=>cases rx;exact SeqAt.EqAt.bool_bool a b
  | int b=>obtain⟨t,rfl⟩:=rx;exact SeqAt.EqAt.bool_int a b t
  | str b=>obtain⟨t,rfl⟩:=rx;exact SeqAt.EqAt.bool_str a b t
  | _=>exact absurd (show false=true from fx) Bool.false_ne_true
 | int a =>
  obtain⟨t',rfl⟩:=ry
  cases x with
  | non=>cases rx;exact SeqAt.EqAt.int_none a t'
  | bl b=>cases rx;exact SeqAt.EqAt.int_bool a t' b
  | int b=>obtain⟨t,rfl⟩:=rx;exact SeqAt.EqAt.int_int a t' b t
  | str b=>obtain⟨t,rfl⟩:=rx;exact SeqAt.EqAt.int_str a t' b t
  | _=>exact absurd (show false=true from fx) Bool.false_ne_true
 | str a =>
  obtain⟨t',rfl⟩:=ry
  cases x with
  | non=>cases rx;exact SeqAt.EqAt.str_none a t'
  | bl b=>cases rx;exact SeqAt.EqAt.str_bool a t' b
  | int b=>obtain⟨t,rfl⟩:=rx;exact SeqAt.EqAt.str_int a t' b t
  | str b=>obtain⟨t,rfl⟩:=rx;exact SeqAt.EqAt.str_str a t' b t
  | _=>exact absurd (show false=true from fx) Bool.false_ne_true
 | _=>exact absurd (show false=true from fy) Bool.false_ne_true
def eqU(x:V)(u:Value):Bool:=match u with
 | .none=>eqV .non x
 | .bool b=>eqV (.bl b) x
 | .int i _=>eqV (.int i) x
 | .str z _=>eqV (.str z) x
 | _=>false
theorem Bv{x y:V}{u:Value}(r:RelV y u)(f:kT y=true):eqU x u=eqV y x:=by
 cases y with
 | non=>cases r;rfl
 | bl b=>cases r;rfl
 | int i=>obtain⟨t,rfl⟩:=r;rfl
 | str z=>obtain⟨t,rfl⟩:=r;rfl
 | _=>exact absurd (show false=true from f) Bool.false_ne_true
theorem me{x:V}:∀{xs:List V}{us:List Value},Vals xs us→xs.all kT=true→us.any (eqU x)=xs.any λy=>eqV y x
 | _,_,.nil,_=>rfl
 | y::xs,u::us,.cons r t,f=>by
  rw[List.all_cons,Bool.and_eq_true] at f
  rw[List.any_cons,List.any_cons,Bv r f.1,me t f.2]
theorem jU{A:Around}{s:Shared}{x:V}{v:Value}(rx:RelV x v)(fx:kT x=true):∀{xs:List V}{us:List Value},Vals xs us→xs.all kT=true→∀u∈us,SeqAt.EqAt A s u v (eqU x u)
 | _,_,.nil,_=>λu hu=>by cases hu
 | y::xs,u::us,.cons r t,f=>λu' hu=>by
  rw[List.all_cons,Bool.and_eq_true] at f
  rcases List.mem_cons.mp hu with rfl|hu
  ·rw[Bv r f.1];exact Ik r rx f.1 fx
  ·exact jU rx fx t f.2 u' hu
def inV(x:V)(xs:List V):Bool:=xs.any λy=>eqV y x
def rIn(K:PySem.W.Frag)(neg:Bool):R2:=λx y H Q=>∃p xs,y=.ref p∧(SqL K H p xs∨SqT K H p xs)∧kT x=true∧xs.all kT=true∧Q (.bl (if neg then !inV x xs else inV x xs)) H
theorem zO:OpR X (compareOp .In) (rIn X.K false):=by
 intro pins s σ H x y v u Q I rx ry h
 obtain⟨p,xs,rfl,hq,fx,fs,q⟩:=h
 cases ry
 rcases hq with hq|hq
 ·obtain⟨its,r,pl,hz⟩:=I.list hq
  refine SeqAt.in_listAt (eqU x) pl.isList (λw hw=>jU rx fx r fs w (by simpa using hw)) ⟨.bl _,H,I,rfl,?_⟩
  rw[show its.toArray.any (eqU x)=its.any (eqU x) by simp,me r fs]
  exact q
 ·obtain⟨its,r,pl,hz⟩:=I.tuple hq
  refine SeqAt.in_tupleAt (eqU x) pl (λw hw=>jU rx fx r fs w (by simpa using hw)) ⟨.bl _,H,I,rfl,?_⟩
  rw[show its.toArray.any (eqU x)=its.any (eqU x) by simp,me r fs]
  exact q
theorem tM:OpR X (compareOp .NotIn) (rIn X.K true):=by
 intro pins s σ H x y v u Q I rx ry h
 obtain⟨p,xs,rfl,hq,fx,fs,q⟩:=h
 cases ry
 rcases hq with hq|hq
 ·obtain⟨its,r,pl,hz⟩:=I.list hq
  refine SeqAt.notIn_listAt (eqU x) pl.isList (λw hw=>jU rx fx r fs w (by simpa using hw)) ⟨.bl _,H,I,rfl,?_⟩
  rw[show its.toArray.any (eqU x)=its.any (eqU x) by simp,me r fs]
  exact q
 ·obtain⟨its,r,pl,hz⟩:=I.tuple hq
  refine SeqAt.notIn_tupleAt (eqU x) pl (λw hw=>jU rx fx r fs w (by simpa using hw)) ⟨.bl _,H,I,rfl,?_⟩
  rw[show its.toArray.any (eqU x)=its.any (eqU x) by simp,me r fs]
  exact q
theorem tN:d6 X (.builtin "len") (λxs H Q=>∃p ys,xs=[.ref p]∧(SqL X.K H p ys∨SqT X.K H p ys)∧Q (.int ys.length) H):=by
 intro pins s σ H xs us Q I r h
 obtain⟨p,ys,rfl,hq,q⟩:=h
 obtain⟨u,rfl,rx⟩:=vals1 r
 cases rx
 have hn:=mZ
 rcases hq with hq|hq
 ·obtain⟨its,r',pl,hz⟩:=I.list hq
  have hlen:=r'.length
  exact Calls.call_len_list pl.isList (by simp only[List.size_toArray]<;>lia) ⟨.int ys.length,H,I.tok _,⟨s.toks+1,by rw[List.size_toArray,hlen]⟩,q⟩
 ·obtain⟨its,r',pl,hz⟩:=I.tuple hq
  have hlen:=r'.length
  exact len_tuple pl (by simp only[List.size_toArray]<;>lia) ⟨.int ys.length,H,I.tok _,⟨s.toks+1,by rw[List.size_toArray,hlen]⟩,q⟩
theorem tO:d6 X (.builtin "len") (λxs H Q=>∃z,xs=[.str z]∧z.length≤sizeLine∧Q (.int z.length) H):=by
 intro pins s σ H xs us Q I r h
 obtain⟨z,rfl,hz,q⟩:=h
 obtain⟨u,rfl,t,rfl⟩:=vals1 r
 have hn:=mZ
 exact len_str (by lia) ⟨.int z.length,H,I.tok _,⟨_,rfl⟩,q⟩
theorem d6.or{f:Value}{r r':List V→Hp→VK→Prop}(h:d6 X f r)(h':d6 X f r'):d6 X f (λxs H Q=>r xs H Q∨r' xs H Q):=by
 intro pins s σ H xs us Q I rs q
 rcases q with q|q
 ·exact h pins s σ H xs us Q I rs q
 ·exact h' pins s σ H xs us Q I rs q
theorem tP:d6 X (.type "list") (λxs H Q=>∃p ys,xs=[.ref p]∧(SqL X.K H p ys∨SqT X.K H p ys)∧∀l,H l=none→Q (.ref l) (upd H l (.lst ys))):=by
 intro pins s σ H xs us Q I r h
 obtain⟨p,ys,rfl,hq,q⟩:=h
 obtain⟨u,rfl,rx⟩:=vals1 r
 cases rx
 have fin:∀(its:List Value),Vals ys its→ys.length≤sizeLine→∀(h':Heap) (c':Nat),(∀b o',s.heap.get? b=some o'→h'.get? b=some o') →
   h'.get? s.heap.objs.size=some { cls:=.type "list",dict:=none,data:=.seq its.toArray c',slots:=#[] }→EP X pins σ Q (.ref s.heap.objs.size) { s with heap:=h' }:=λits r' hz h' c' kp e =>
  ⟨.ref s.heap.objs.size,_,I.laid (t':=s.toks) kp (Nat.le_refl _) (show cL X.prog X.w _ h' _ (.lst ys) from ⟨hz,its,c',r',e⟩),rfl,q _ (I.hok.fresh (Nat.le_refl _))⟩
 rcases hq with hq|hq
 ·obtain⟨its,r',pl,hz⟩:=I.list hq
  have hlen:=r'.length
  obtain⟨o,ho,hc,n,hd⟩:=pl.isList
  exact call_list_seq p (.inl rfl) ho hc hd (λh' c' kp e=>fin its r' hz h' c' kp e) (by simp only[List.size_toArray]<;>lia)
 ·obtain⟨its,r',pl,hz⟩:=I.tuple hq
  have hlen:=r'.length
  obtain⟨o,ho,hc,n,hd⟩:=pl
  exact call_list_seq p (.inr rfl) ho hc hd (λh' c' kp e=>fin its r' hz h' c' kp e) (by simp only[List.size_toArray]<;>lia)
theorem rq:d6 X (.type "tuple") (λxs H Q=>∃p ys,xs=[.ref p]∧((SqL X.K H p ys∧∀l,H l=none→Q (.ref l) (upd H l (.tup ys)))∨(SqT X.K H p ys∧Q (.ref p) H))):=by
 intro pins s σ H xs us Q I r h
 obtain⟨p,ys,rfl,h⟩:=h
 obtain⟨u,rfl,rx⟩:=vals1 r
 cases rx
 rcases h with ⟨hq,q⟩|⟨hq,q⟩
 ·obtain⟨its,r',pl,hz⟩:=I.list hq
  have hlen:=r'.length
  refine call_tuple_list pl.isList (λh' kp=>?_) (by simp only[List.size_toArray]<;>lia)
  have I1:Inv X pins σ H { s with heap:=h' }:=I.kept (t':=s.toks) kp
  have I2:Inv X pins σ (upd H h'.objs.size (.tup ys)) { s with heap:=h'.push { cls:=.type "tuple",data:=.seq its.toArray } } :=
   I1.laid (t':=s.toks) (λb o e=>Heap.get?_push_of_some _ e) (Nat.le_refl _) (show cL X.prog X.w _ _ _ (.tup ys) from ⟨hz,its,r',IsTup.new _ _⟩)
  exact⟨.ref h'.objs.size,_,I2,rfl,q _ (I1.hok.fresh (Nat.le_refl _))⟩
 ·obtain⟨its,r',pl,hz⟩:=I.tuple hq
  exact call_tuple_same pl ⟨.ref p,H,I,rfl,q⟩
def tyV(K:PySem.W.Frag)(T:String)(x:V)(H:Hp):Prop:=match x with
 | .str _=>T="str"
 | .int _=>T="int"
 | .ref p=>(T="list"∧∃xs,SqL K H p xs)∨(T="tuple"∧∃o,K.lookup p=some o∧o.cls=.type "tuple"∧o.dict=none) ∨
   (T="dict"∧((∃kvs,H p=some (.dK kvs))∨∃kvs,H p=some (.dT kvs)))∨(T="set"∧∃S n,H p=some (.set S n))
 | _=>False
theorem Bw{pins:List (Addr×Obj)}{σ:St}{H:Hp}{s:Shared}{T:String}{x:V}{v:Value}(I:Inv X pins σ H s)(r:RelV x v)(ty:tyV X.K T x H) :
  s.TypeIs v T∧∀a,v=.ref a→∃ob,s.heap.get? a=some ob∧ob.dict=none:=by
 cases x with
 | str z =>
  obtain⟨t,rfl⟩:=r
  cases (show T="str" from ty)
  exact⟨typeIs_str s z t,λ_ e=>nomatch e⟩
 | int i =>
  obtain⟨t,rfl⟩:=r
  cases (show T="int" from ty)
  exact⟨typeIs_int s i t,λ_ e=>nomatch e⟩
 | ref p =>
  cases r
  rcases ty with ⟨rfl,xs,hq⟩|⟨rfl,o,hk,hc,hd⟩|⟨rfl,hk⟩|⟨rfl,S,n,hk⟩
  ·obtain⟨its,_,pl,_⟩:=I.list hq
   refine⟨pl.isList.typeIs,λa e=>?_⟩
   cases e
   obtain⟨o,n,e,c,hd,_⟩:=pl
   exact⟨o,e,hd⟩
  ·refine⟨⟨o,I.kIn p o hk,hc⟩,λa e=>?_⟩
   cases e
   exact⟨o,I.kIn _ o hk,hd⟩
  ·have z:∃o,s.heap.get? p=some o∧o.ExactDict:=by
    rcases hk with ⟨kvs,hk⟩|⟨kvs,hk⟩
    ·obtain⟨_,_,_,_,o,_,e,ex,_⟩:=I.hok p _ hk
     exact⟨o,e,ex⟩
    ·obtain⟨_,_,_,_,o,_,_,e,ex,_⟩:=I.hok p _ hk
     exact⟨o,e,ex⟩
   obtain⟨o,e,ex⟩:=z
   refine⟨⟨o,e,ex.1⟩,λa e2=>?_⟩
   cases e2
   exact⟨o,e,ex.2.1⟩
  ·obtain⟨o,_,_,_,e,ex,_⟩:=I.hok p _ hk
   refine⟨⟨o,e,ex.1⟩,λa e2=>?_⟩
   cases e2
   exact⟨o,e,ex.2.1⟩
 | _=>exact False.elim ty
def Na(K:PySem.W.Frag)(T:String)(r:V→List V→Hp→VK→Prop)(to:TE):TE:=λσ H Q=>to σ H λx H1=>tyV K T x H1∧r x [] H1 Q
def tBM(K:PySem.W.Frag)(T:String)(r:V→List V→Hp→VK→Prop)(to:TE)(t:TA):TE:=λσ H Q=>to σ H λx H1=>tyV K T x H1∧t σ H1 λxs H2=>r x xs H2 Q
variable{o e:Expr}{es:List Expr}{to:TE}{t:TA}{name:Str}{apos fq:Pos}{T id:String}{r:V→List V→Hp→VK→Prop}
theorem Il(pa:PlainAttrs T)(slot:Slot T name id)(hty:typeOf (.builtin id)=pure (.type "method_descriptor"))(hm:MtR X id r)(ho:PE X o to)
  (jV:attributeBase o name X.env (eval o X.env)=eval o X.env:=by rfl) (jW:(apos.endLine==fq.line)=true:=by rfl):PE X (.Call (.Attribute o name apos) [] [] fq) (Na X.K T r to):=by
 intro pins s σ H Q I h
 refine wpAny_Call_method0_late jV jW (thn (ho pins s σ H _ I h) λv s1 ak=>?_)
 obtain⟨x,H1,I1,r1,ty,q1⟩:=ak
 obtain⟨h1,h2⟩:=Bw I1 r1 ty
 exact⟨T,id,pa,slot,hty,h1,h2,Calls.callWith_builtin rfl (PySem.evalArgs_none (hm pins s1 σ H1 x [] v [] Q I1 r1 .nil q1))⟩
theorem KU(pa:PlainAttrs T)(slot:Slot T name id)(hty:typeOf (.builtin id)=pure (.type "method_descriptor"))(hm:MtR X id r)(ho:PE X o to)(ha:PA X (e::es) t)
  (jV:attributeBase o name X.env (eval o X.env)=eval o X.env:=by rfl)
  (Im:((backTo fq (starEach (e::es) X.env)).all (λx=>!x.1) && (backToKw fq (keywordEach [] X.env)).all (λx=>x.1.isSome)
   && decide ((e::es).length+([]:List Keyword).length+(if ([]:List Keyword).isEmpty then 0 else 1)<30))=true:=by rfl)
  (jW:(apos.endLine==fq.line)=true:=by rfl) (hs:starEach (e::es) X.env=(false,eval e X.env)::starEach es X.env:=by rfl) (Io:(backTo fq (starEach es X.env)).any (·.1)=false:=by rfl) :
  PE X (.Call (.Attribute o name apos) (e::es) [] fq) (tBM X.K T r to t):=by
 intro pins s σ H Q I h
 refine wpAny_Call_method_late jV Im jW rfl (thn (ho pins s σ H _ I h) λv s1 ak=>?_)
 obtain⟨x,H1,I1,r1,ty,q1⟩:=ak
 obtain⟨h1,h2⟩:=Bw I1 r1 ty
 refine⟨T,id,pa,slot,hty,h1,h2,?_⟩
 have hA:=ha fq pins s1 σ H1 _ I1 q1
 rw[hs] at hA ⊢
 refine Calls.callWith_builtin (by show (false || (backTo fq (starEach es X.env)).any (·.1))=false;rw[Io]<;>rfl) (Calls.evalArgs_plain ?_)
 exact thn hA λus s2 ⟨vs,H2,I2,r2,q2⟩=>hm pins s2 σ H2 x vs v us Q I2 r1 r2 q2
end
def MtM(X:Cx)(id:String)(r:V→List V→Hp→VK→Prop):Prop :=
 ∀(pins:List (Addr×Obj)) (s:Shared) (σ:St) (H:Hp) (x:V) (xs:List V) (v:Value) (us:List Value) (Q:VK),Inv X pins σ H s→RelV x v→Vals xs us→r x xs H Q →
  wpAny (model X.prog X.w) X.A (call (.builtin id) (v::us)) (EP X pins σ Q) X.xe s
theorem Vals.one:∀{x:V}{us:List Value},Vals [x] us→∃u,us=[u]∧RelV x u
 | _,_,.cons r .nil=>⟨_,rfl,r⟩
theorem Vals.zero:∀{us:List Value},Vals [] us→us=[]
 | _,.nil=>rfl
theorem Vals.dropLast{xs:List V}{us:List Value}(h:Vals xs us):Vals xs.dropLast us.dropLast:=by
 induction h with
 | nil=>exact .nil
 | cons r t ih =>
  cases t with
  | nil=>exact .nil
  | cons q t'=>exact .cons r ih
theorem Vals.eraseIdx:∀{xs:List V}{us:List Value} (i:Nat),Vals xs us→Vals (xs.eraseIdx i) (us.eraseIdx i)
 | _,_,_,.nil=>.nil
 | _,_,0,.cons _ t=>t
 | _,_,i+1,.cons r t=>.cons r (Vals.eraseIdx i t)
theorem Vals.reverse{xs:List V}{us:List Value}(h:Vals xs us):Vals xs.reverse us.reverse:=by
 induction h with
 | nil=>exact .nil
 | cons r t ih=>rw[List.reverse_cons,List.reverse_cons];exact Vals.append ih (.cons r .nil)
theorem Vals.rep{xs:List V}{us:List Value}(h:Vals xs us):∀k:Nat,Vals (List.replicate k xs).flatten (List.replicate k us).flatten
 | 0=>.nil
 | k+1=>by
  rw[List.replicate_succ,List.replicate_succ,List.flatten_cons,List.flatten_cons]
  exact Vals.append h (Vals.rep h k)
theorem foldl_rep(its:List Value):∀(k:Nat) (acc:List Value),
  List.foldl (λx1 x2=>x1++x2) acc.toArray (List.replicate k its.toArray)=(acc++(List.replicate k its).flatten).toArray
 | 0,acc=>by simp
 | k+1,acc=>by
  have e:acc.toArray++its.toArray=(acc++its).toArray:=by simp
  have e2:(acc++its)++(List.replicate k its).flatten=acc++(List.replicate (k+1) its).flatten:=by
   rw[List.replicate_succ,List.flatten_cons,List.append_assoc]
  rw[← e2,← foldl_rep its k (acc++its),← e,List.replicate_succ,List.foldl_cons]
section
variable{X:Cx}{pins:List (Addr×Obj)}{σ:St}{H:Hp}{s:Shared}{l b:Addr}{xs ys zs:List V}
theorem Inv.KW{its its':List Value}{n:Nat}{f:Array Value→Array Value}{t':Nat}(I:Inv X pins σ H s)(hH:H l=some (.lst xs))
  (e:s.heap.get? l=some { cls:=.type "list",data:=.seq its.toArray n }) (hf:f its.toArray=its'.toArray) (hv:Vals ys its') (hz:ys.length≤sizeLine) :
  Inv X pins σ (upd H l (.lst ys)) { s with heap:=s.heap.update l (Obj.mapSeq f),toks:=t' }:=by
 have q:=PySem.IsL.update e f
 rw[hf] at q
 refine I.write (x:=l) (e:=l) (by rw[hH];exact trivial) (.inl rfl) (λb' u hb hu=>(Heap.get?_update_other s.heap (Obj.mapSeq f) (Ne.symm hb)).trans hu) ⟨_,q⟩ ?_
 exact⟨hz,its',_,hv,q⟩
theorem Inv.Ip{its:List Value}{t':Nat}(I:Inv X pins σ H s)(hv:Vals ys its)(hz:ys.length≤sizeLine) :
  Inv X pins σ (upd H s.heap.objs.size (.lst ys)) { s with heap:=s.heap.push { cls:=.type "list",data:=.seq its.toArray },toks:=t' } :=
 I.laid (λ_ _ q=>Heap.get?_push_of_some _ q) (Nat.le_refl _) ⟨hz,its,0,hv,Heap.get?_push_size _ rfl⟩
theorem Inv.fresh(I:Inv X pins σ H s):H s.heap.objs.size=none:=I.hok.fresh (Nat.le_refl _)
theorem Inv.Iq(I:Inv X pins σ H s)(hH:H l=some (.lst xs)):xs.length≤sizeLine∧∃(its:List Value) (n:Nat),Vals xs its∧xs.length=its.length∧s.heap.get? l=some { cls:=.type "list",data:=.seq its.toArray n }:=by
 obtain⟨z,its,n,r,e⟩:=I.hok l _ hH
 exact⟨z,its,n,r,r.length,e⟩
theorem Bx{n:Nat}(h:n≤sizeLine):Builtin.List.listTooLong n=false:=by
 unfold Builtin.List.listTooLong
 exact decide_eq_false (by lia)
end
section
variable{X:Cx}
def yA:V→List V→Hp→VK→Prop:=λx vs H Q=>∃l xs y,x=.ref l∧vs=[y]∧H l=some (.lst xs)∧xs.length<sizeLine∧Q .non (upd H l (.lst (xs++[y])))
theorem sk:MtM X "list.append" yA:=by
 intro pins s σ H x vs v us Q I rx rv h
 obtain⟨l,xs,y,rfl,rfl,hH,hz,q⟩:=h
 cases rx
 obtain⟨u,rfl,ru⟩:=rv.one
 obtain⟨z,its,n,r,hl,e⟩:=I.Iq hH
 refine call_meets F.slot_list_append ⟨_,e,rfl⟩ F.entry_list_append (F.args_list_append_2 _ _) (PySem.list_append l its.toArray n u (by rw[List.size_toArray];lia)) ⟨e,?_⟩
 refine⟨.non,_,I.KW (its':=its++[u]) hH e (by simp) (r.append (.cons ru .nil)) ?_,rfl,q⟩
 rw[List.length_append,List.length_singleton]
 lia
def Ir:V→List V→Hp→VK→Prop:=λx vs H Q=>∃l xs,x=.ref l∧vs=[]∧H l=some (.lst xs)∧Q .non (upd H l (.lst []))
theorem By:MtM X "list.clear" Ir:=by
 intro pins s σ H x vs v us Q I rx rv h
 obtain⟨l,xs,rfl,rfl,hH,q⟩:=h
 cases rx
 have hus:=rv.zero
 subst hus
 obtain⟨z,its,n,r,hl,e⟩:=I.Iq hH
 refine call_meets F.slot_list_clear ⟨_,e,rfl⟩ F.entry_list_clear (F.args_list_clear_1 _) (AutoSeq1.list_clear_list_0 l its.toArray n (by rw[List.size_toArray];lia)) ⟨e,?_⟩
 exact⟨.non,_,I.KW (its':=[]) (ys:=[]) hH e rfl .nil (Nat.zero_le _),rfl,q⟩
def Nb:R2:=λx y H Q=>∃l k xs,x=.ref l∧y=.int k∧H l=some (.lst xs)∧-(2 ^ 63)≤k∧k<2 ^ 63∧xs.length*k.toNat≤sizeLine ∧
 ∀p,H p=none→Q (.ref p) (upd H p (.lst (List.replicate k.toNat xs).flatten))
theorem len_rep{α:Type}(xs:List α)(k:Nat):(List.replicate k xs).flatten.length=k*xs.length:=by
 induction k with
 | zero=>simp
 | succ k ih=>rw[List.replicate_succ,List.flatten_cons,List.length_append,ih,Nat.succ_mul,Nat.add_comm]
theorem Iu:OpR X (binaryOp .Mult) Nb:=by
 intro pins s σ H x y v u Q I rx ry h
 obtain⟨l,k,xs,rfl,rfl,hH,h1,h2,hz,q⟩:=h
 cases rx
 obtain⟨t,rfl⟩:=ry
 obtain⟨z,its,n,r,hl,e⟩:=I.Iq hH
 have hlen:its.toArray.size*k.toNat≤sizeLine:=by rw[List.size_toArray,← hl];exact hz
 have Nc:¬ its.toArray.size*k.toNat > (2 ^ 63-1) / 8:=by
  have:(sizeLine:Nat)≤(2 ^ 63-1) / 8:=by decide
  lia
 have Nd:¬ (!Builtin.List.listFitsIndex k)=true:=by
  rw[fitsIndex_both h1 h2]
  exact Bool.false_ne_true
 have KY:¬ Builtin.List.listTooLong (its.toArray.size*k.toNat)=true:=by
  rw[Bx hlen]
  exact Bool.false_ne_true
 have Nf:List.foldl (λx1 x2=>x1++x2) #[] (List.replicate (if its.toArray.isEmpty=true then 0 else k.toNat) its.toArray)=(List.replicate k.toNat its).flatten.toArray:=by
  have f0:∀m:Nat,List.foldl (λx1 x2=>x1++x2) #[] (List.replicate m its.toArray)=(List.replicate m its).flatten.toArray:=λm=>by
   have:=foldl_rep its m []
   rw[List.nil_append] at this
   exact this
  rw[f0]
  cases its with
  | nil=>simp
  | cons a r'=>rw[if_neg (by simp)]
 refine wpAny_binaryOp_repeat_ref (T:="list") (U:="int") (by decide) ⟨_,e,rfl⟩ (λs'=>typeIs_int s' k t) noFill_list_mul F.fills_int_mul F.slot_int_rmul repeat_list F.slot_int_index.lookup
  (call_meets F.slot_int_rmul (typeIs_int s k t) F.entry_int_rmul (F.args_int_rmul_2 _ _) (int___rmul___int_list k t l its.toArray n)
   ⟨e,rfl,⟨_,e,rfl⟩,call_meets F.slot_list_mul ⟨_,e,rfl⟩ F.entry_list_mul (F.args_list_mul_2 _ _) (AutoListH.list___mul___list_int_3 l its.toArray n k t Nd Nc KY) ⟨e,?_⟩⟩)
 rw[Nf]
 exact⟨.ref _,_,I.Ip (t':=s.toks) (r.rep k.toNat) (by rw[len_rep,Nat.mul_comm];exact hz),rfl,q _ I.fresh⟩
end
section
variable{prog:Program}{w:World}{A:Around}{E:Value→Shared→Prop}{s:Shared}
end
section
variable{X:Cx}
end
section
variable{κ:Type}[DecidableEq κ]
def k_(kvs:List (κ×V))(k:κ):Option V:=(kvs.find? λkv=>decide (kv.1=k)).map (·.2)
def putK(kvs:List (κ×V))(k:κ)(v:V):List (κ×V) :=
 if (kvs.any λkv=>decide (kv.1=k))=true then kvs.map (λkv=>if kv.1=k then (kv.1,v) else kv) else kvs++[(k,v)]
theorem jX{p:κ×V}{r:List (κ×V)}{k:κ}(e:p.1=k):k_ (p::r) k=some p.2:=by simp[k_,List.find?_cons,e]
theorem jY{p:κ×V}{r:List (κ×V)}{k:κ}(e:¬ p.1=k):k_ (p::r) k=k_ r k:=by simp[k_,List.find?_cons,e]
theorem u5(k:κ):∀kvs:List (κ×V),(kvs.any λkv=>decide (kv.1=k))=(k_ kvs k).isSome
 | []=>rfl
 | p::r=>by
  rw[List.any_cons]
  by_cases e:p.1=k
  ·simp only[jX e,decide_eq_true e,Bool.true_or,Option.isSome_some]
  ·rw[jY e,decide_eq_false e,Bool.false_or];exact u5 k r
theorem nX(kvs:List (κ×V))(k:κ)(v:V):(putK kvs k v).length≤kvs.length+1:=by
 unfold putK
 split
 ·rw[List.length_map];lia
 ·rw[List.length_append,List.length_cons,List.length_nil];lia
theorem ot.zP{o:Option V}{u:Option Value}(r:ot o u):o.isSome=u.isSome:=by
 cases o with
 | none=>cases u with
  | none=>rfl
  | some _=>exact (show False from r).elim
 | some _=>cases u with
  | none=>exact (show False from r).elim
  | some _=>rfl
theorem ot.getD{o:Option V}{u:Option Value}{d:V}{d':Value}(r:ot o u)(rd:RelV d d'):RelV (o.getD d) (u.getD d'):=by
 cases o with
 | none=>cases u with
  | none=>exact rd
  | some _=>exact (show False from r).elim
 | some _=>cases u with
  | none=>exact (show False from r).elim
  | some _=>exact r
theorem KV.val{kvs:List (κ×V)}{vs:List (κ×Value)}(r:KV kvs vs)(k:κ):ot (k_ kvs k) (valueAt vs k):=by
 unfold KV at r
 induction r with
 | nil=>exact True.intro
 | @cons p q ps qs h t ih =>
  obtain⟨h1,h2⟩:=h
  by_cases e:p.1=k
  ·have e':q.1=k:=h1.symm.trans e
   have b:valueAt (q::qs) k=some q.2:=by simp[valueAt,List.find?_cons,e']
   rw[jX e,b];exact h2
  ·have e':¬ q.1=k:=λz=>e (h1.trans z)
   have b:valueAt (q::qs) k=valueAt qs k:=by simp[valueAt,List.find?_cons,e']
   rw[jY e,b];exact ih
theorem KV.any{kvs:List (κ×V)}{vs:List (κ×Value)}(r:KV kvs vs)(k:κ):(kvs.any λkv=>decide (kv.1=k))=vs.any λkv=>decide (kv.1=k):=by
 unfold KV at r
 induction r with
 | nil=>rfl
 | cons h t ih=>rw[List.any_cons,List.any_cons,ih,h.1]
theorem KV.wI{kvs:List (κ×V)}{vs:List (κ×Value)}(r:KV kvs vs)(k:κ){y:V}{u:Value}(ry:RelV y u) :
  KV (kvs.map λkv=>if kv.1=k then (kv.1,y) else kv) (vs.map λkv=>if kv.1=k then (kv.1,u) else kv):=by
 unfold KV at r ⊢
 induction r with
 | nil=>exact .nil
 | @cons p q ps qs h t ih =>
  rw[List.map_cons,List.map_cons]
  refine .cons ?_ ih
  obtain⟨h1,h2⟩:=h
  by_cases e:p.1=k
  ·rw[if_pos e,if_pos (h1.symm.trans e)];exact⟨h1,ry⟩
  ·rw[if_neg e,if_neg (λz=>e (h1.trans z))];exact⟨h1,h2⟩
theorem KV.put{kvs:List (κ×V)}{vs:List (κ×Value)}(r:KV kvs vs)(k:κ){y:V}{u:Value}(ry:RelV y u):KV (putK kvs k y) (stored vs k u):=by
 unfold putK stored
 rw[r.any k]
 by_cases e:(vs.any λkv=>decide (kv.1=k))=true
 ·rw[if_pos e,if_pos e];exact r.wI k ry
 ·rw[if_neg e,if_neg e];exact Paired.snoc r ⟨rfl,ry⟩
theorem KV.length{kvs:List (κ×V)}{vs:List (κ×Value)}(r:KV kvs vs):kvs.length=vs.length:=Paired.length r
end
theorem Bz{P:Program}{w:World}{k:Key}{u:Value}(r:RelV (kV k) u):(cK P w).is k u=true:=by
 cases k with
 | inl i=>obtain⟨t,e⟩:=(show ∃t,u=Value.int i t from r);subst e;exact uS P w i t
 | inr x=>obtain⟨t,e⟩:=(show ∃t,u=Value.str x t from r);subst e;exact uT P w x t
theorem sm{P:Program}{w:World}:∀{ks:List Key}{us:List Value},Vals (ks.map kV) us→ItemsAre (cK P w) ks us
 | [],_,r=>by rw[List.map_nil] at r;cases r;exact .nil
 | k::ks,_,r=>by
  rw[List.map_cons] at r
  cases r with
  | cons h t=>exact .cons (Bz h) (sm t)
noncomputable abbrev KT (H : Hp) : List (List Key × V) → List (List Key × Addr × Value) → Prop := Paired fun p q => p.1 = q.1 ∧ H q.2.1 = some (.tup (p.1.map kV)) ∧ RelV p.2 q.2.2
theorem KT.val{H:Hp}{kvs:List (List Key×V)}{xs:List (List Key×Addr×Value)}(r:KT H kvs xs)(k:List Key):ot (k_ kvs k) ((atKey xs k).map (·.2)):=by
 induction r with
 | nil=>exact True.intro
 | @cons p q ps qs h t ih =>
  obtain⟨h1,_,h2⟩:=h
  by_cases e:p.1=k
  ·have e':q.1=k:=h1.symm.trans e
   have b:atKey (q::qs) k=some q.2:=by simp[atKey,List.find?_cons,e']
   rw[jX e,b];exact h2
  ·have e':¬ q.1=k:=λz=>e (h1.trans z)
   have b:atKey (q::qs) k=atKey qs k:=by simp[atKey,List.find?_cons,e']
   rw[jY e,b];exact ih
theorem KT.wI{H:Hp}{kvs:List (List Key×V)}{xs:List (List Key×Addr×Value)}(r:KT H kvs xs)(k:List Key){y:V}{u:Value}(ry:RelV y u) :
  KT H (kvs.map λkv=>if kv.1=k then (kv.1,y) else kv) (xs.map (putAt k u)):=by
 induction r with
 | nil=>exact .nil
 | @cons p q ps qs h t ih =>
  rw[List.map_cons,List.map_cons]
  refine .cons ?_ ih
  obtain⟨h1,h2,h3⟩:=h
  unfold putAt
  by_cases e:p.1=k
  ·rw[if_pos e,if_pos (h1.symm.trans e)];exact⟨h1,h2,ry⟩
  ·rw[if_neg e,if_neg (λz=>e (h1.trans z))];exact⟨h1,h2,h3⟩
theorem KT.put{H:Hp}{kvs:List (List Key×V)}{xs:List (List Key×Addr×Value)}(r:KT H kvs xs)(k:List Key){b:Addr}{y:V}{u:Value}(hb:H b=some (.tup (k.map kV)))(ry:RelV y u) :
  KT H (putK kvs k y) (storedH xs k b u):=by
 have e:(kvs.any λkv=>decide (kv.1=k))=(atKey xs k).isSome:=by
  rw[u5,(r.val k).zP,Option.isSome_map]
 unfold putK storedH
 rw[e]
 by_cases q:(atKey xs k).isSome=true
 ·rw[if_pos q,if_pos q];exact r.wI k ry
 ·rw[if_neg q,if_neg q];exact Paired.snoc r ⟨rfl,hb,ry⟩
theorem KT.keeps{H H':Hp}{kvs:List (List Key×V)}{xs:List (List Key×Addr×Value)}(r:KT H kvs xs)(ht:∀b ys,H b=some (.tup ys)→H' b=some (.tup ys)):KT H' kvs xs :=
 Paired.Em r λ_ _ z=>⟨z.1,ht _ _ z.2.1,z.2.2⟩
section
variable{P:Program}{w:World}{H:Hp}{h:Heap}{a:Addr}
theorem BA{u:HO}(ok:HOk P w H h)(e:Rd H a u):cL P w H h a u:=e.ok ok
theorem BB{kvs:List (Key×V)}(ok:HOk P w H h)(e:Rd H a (.dK kvs)):kvs.length≤sizeLine∧(a==sysModules)=false∧∃vs,KV kvs vs∧h.DictOf (cK P w) a vs :=
 let ⟨z,y,vs,r,d⟩:=(show cL P w H h a (.dK kvs) from BA ok e);⟨z,y,vs,r,d.dictOf⟩
theorem u6{kvs:List (Key×V)}(ok:HOk P w H h)(e:Rd H a (.dK kvs)):kvs.length≤sizeLine∧(a==sysModules)=false∧∃vs,KV kvs vs∧h.DictAt (cK P w) a vs vs.length :=
 show cL P w H h a (.dK kvs) from BA ok e
theorem wJ{ks:List Key}(ok:HOk P w H h)(e:H a=some (.tup (ks.map kV))):(tupleKind (cK P w)).is h ks a:=by
 obtain⟨_,its,r,o,h1,h2,n,h3⟩:=(show cL P w H h a (.tup (ks.map kV)) from ok a _ e)
 exact⟨o,its.toArray,n,h1,h2,h3,by simpa using sm r⟩
theorem BC{kvs:List (List Key×V)}(ok:HOk P w H h)(e:Rd H a (.dT kvs)):kvs.length≤sizeLine∧(a==sysModules)=false ∧
  ∃xs,KT H kvs xs∧h.DictOfH (tupleKind (cK P w)) a xs:=by
 obtain⟨z,y,xs,r,o,es,ep,h1,h2,h3,h4,h5⟩:=(show cL P w H h a (.dT kvs) from BA ok e)
 refine⟨z,y,xs,r,o,es,ep,h1,h2,h3,h4,λx hx=>?_,h5⟩
 have all:∀{l:List (List Key×V)}{m:List (List Key×Addr×Value)},KT H l m→∀x∈m,(tupleKind (cK P w)).is h x.1 x.2.1:=by
  intro l m q
  induction q with
  | nil=>intro x hx;exact nomatch hx
  | @cons p q ps qs hq t ih =>
   intro x hx
   rcases List.mem_cons.mp hx with e|hx
   ·subst e
    exact wJ ok (by rw[← hq.1];exact hq.2.1)
   ·exact ih x hx
 exact all r x hx
theorem KZ{kvs:List (List Key×V)}(ok:HOk P w H h)(e:H a=some (.dT kvs)):kvs.length≤sizeLine∧(a==sysModules)=false ∧
  ∃xs,KT H kvs xs∧h.DictOfH (tupleKind (cK P w)) a xs:=BC ok (.inl e)
end
def wK(H:Hp)(a:Addr)(y:V)(r:Option V):Prop :=
 (∃kvs k,Rd H a (.dK kvs)∧y=kV k∧r=k_ kvs k)∨∃kvs k b,Rd H a (.dT kvs)∧y=.ref b∧H b=some (.tup (k.map kV))∧r=k_ kvs k
def u7(H:Hp)(a:Addr)(y v:V)(H':Hp):Prop :=
 (∃kvs k,H a=some (.dK kvs)∧y=kV k∧kvs.length<sizeLine∧H'=upd H a (.dK (putK kvs k v))) ∨
 ∃kvs k b,H a=some (.dT kvs)∧y=.ref b∧H b=some (.tup (k.map kV))∧kvs.length<sizeLine∧H'=upd H a (.dT (putK kvs k v))
theorem wK.k{H:Hp}{a:Addr}{kvs:List (Key×V)}{k:Key}(e:H a=some (.dK kvs)):wK H a (kV k) (k_ kvs k):=.inl ⟨kvs,k,.inl e,rfl,rfl⟩
theorem u7.k{H:Hp}{a:Addr}{kvs:List (Key×V)}{k:Key}{v:V}(e:H a=some (.dK kvs))(hl:kvs.length<sizeLine):u7 H a (kV k) v (upd H a (.dK (putK kvs k v))):=.inl ⟨kvs,k,e,rfl,hl,rfl⟩
theorem u7.t{H:Hp}{a b:Addr}{kvs:List (List Key×V)}{k:List Key}{v:V}(e:H a=some (.dT kvs))(eb:H b=some (.tup (k.map kV)))(hl:kvs.length<sizeLine) :
  u7 H a (.ref b) v (upd H a (.dT (putK kvs k v))):=.inr ⟨kvs,k,b,e,rfl,eb,hl,rfl⟩
section
variable{X:Cx}{pins:List (Addr×Obj)}{σ:St}{H:Hp}{s:Shared}{a:Addr}{y v:V}{u r:Value}{o:Option V}{A:Around}{E:Value→Shared→Prop}
theorem Inv.big(I:Inv X pins σ H s):sysModules<s.heap.objs.size:=by
 have h:mainGlobals<s.heap.objs.size:=(I.mod.glob.keeps I.bk).lt
 exact Nat.lt_trans (by decide) h
theorem zQ{Q:Value→Shared→Prop}(hu:A.units+1<cLine)(I:Inv X pins σ H s)(g:wK H a y (some v))(ry:RelV y u)(h:∀w' s',Inv X pins σ H s'→RelV v w'→Q w' s') :
  wpAny (model X.prog X.w) A (getItem (.ref a) u) Q E s:=by
 rcases g with ⟨kvs,k,e,ey,l⟩|⟨kvs,k,b,e,ey,eb,l⟩
 ·subst ey
  obtain⟨z,hd,vs,rel,dd⟩:=BB I.hok e
  obtain⟨w',hw,rw'⟩:=ot.some_of (v:=v) (o:=valueAt vs k) (by rw[l];exact rel.val k)
  exact wpAny_getItem_of (Bz ry) dd.mapOf hw (h w' _ (I.tok _) rw')
 ·subst ey
  cases (show u=Value.ref b from ry)
  obtain⟨z,hd,xs,rel,dd⟩:=BC I.hok e
  obtain⟨w',hw,rw'⟩:=ot.some_of (v:=v) (o:=(atKey xs k).map (·.2)) (by rw[l];exact rel.val k)
  obtain⟨p,hp,hp2⟩:=Option.map_eq_some_iff.mp hw
  refine wpAny_getItem_heap (tupleKind_room_in1 hu) (wJ I.hok eb) dd hp ?_
  rw[hp2]
  exact h w' _ (I.tok _) rw'
theorem yB{h':Heap}{t':Nat}{ob:HO}(I:Inv X pins σ H s)(mu:Mut (H a))(hs:Heap.SameBut a s.heap h')(he:∃q,h'.get? a=some q)(new:cL X.prog X.w (upd H a ob) h' a ob) :
  Inv X pins σ (upd H a ob) { s with heap:=h',toks:=t' } :=
 I.write (x:=a) (e:=a) mu (.inl rfl) (λb q hb z=>(hs.2 b hb).trans z) he new
theorem Iv{P:Program}{w:World}{H':Hp}{h':Heap}{kvs:List (Key×V)}{vs:List (Key×Value)}(z:kvs.length≤sizeLine)(hd:(a==sysModules)=false)(rel:KV kvs vs)(dd:h'.DictAt (cK P w) a vs vs.length) :
  cL P w H' h' a (.dK kvs):=⟨z,hd,vs,rel,dd⟩
theorem wL {P : Program} {w : World} {κ : Type} [DecidableEq κ] {knd : KeyKind P w κ} {A : Around} {E : Value → Shared → Prop} {s : Shared} {d : Addr} {kvs : List (κ × Value)} {k : κ} {key v : Value} {Q : Unit → Shared → Prop} (zR : knd.is k key = true) (hm : s.heap.DictAt knd d kvs kvs.length)
    (hsz : kvs.length ≤ sizeLine) (hQ : ∀ h', h'.DictAt knd d (stored kvs k v) (stored kvs k v).length → Heap.SameBut d s.heap h' → Q () { s with heap := h', toks := s.toks + 1 }) :
    wpAny (model P w) A (dictSet d key v) Q E s := by
  obtain ⟨o, es, ho, hc, hd, hk, hp, hn⟩ := hm
  have hes : es.size ≤ sizeLine := by have e1 := hp.length; have e2 : es.toList.length = es.size := by simp
                                      lia
  unfold dictSet
  try with_reducible refine wpAny_holding ?_
  refine wpAny_bind (knd.pyHash zR ?_)
  unfold dictSetHashed
  try with_reducible refine wpAny_holding ?_
  refine wpAny_bind (wpAny_dictFind_of (s := { s with toks := s.toks + 1 }) zR ho hd hk ?_)
  have EI : (es.findIdx? fun e => knd.is k e.key) = kvs.findIdx? fun kv => decide (kv.1 = k) := by
    rw [← hp.findIdx k]; obtain ⟨l⟩ := es; simp
  cases hi : es.findIdx? fun e => knd.is k e.key with
  | some i =>
    have hst : stored kvs k v = kvs.map fun kv => if kv.1 = k then (kv.1, v) else kv := by rw [stored, if_pos (any_of_findIdx_some (EI ▸ hi))]
    have hlen : kvs.length = (stored kvs k v).length := by rw [hst, List.length_map]
    refine wpAny_bind (wpAny_rule (wpAny_bind (wpAny_updateDict (s := { s with toks := s.toks + 1 }) ho hd (wpAny_point (hQ _ ⟨_, _, Heap.get?_update_self _ ho (Obj.isFreed_of_dict (Obj.data_mapDict hd _)),
      hc.mapDict _, (Obj.data_mapDict hd _).trans (congrArg (fun n => Data.dict _ n) hlen), hk.modify _ _, ?_, ?_⟩ (Heap.SameBut.update ..))))))
    · rw [stored, if_pos (any_of_findIdx_some (EI ▸ hi))]
      have hl : (es.toList.findIdx? fun e => knd.is k e.key) = some i := by rw [← hi]; obtain ⟨l⟩ := es; simp
      have := hp.modify hn hl v
      obtain ⟨l⟩ := es
      simpa using this
    · rw [stored, if_pos (any_of_findIdx_some (EI ▸ hi)), keys_map_store]; exact hn
  | none =>
    have K0 : k ∉ kvs.map (·.1) := not_mem_of_findIdx_none (EI ▸ hi)
    have Iw : ¬ (kvs.any fun kv => decide (kv.1 = k)) = true := by
      rw [List.any_eq_true]; rintro ⟨kv, hkv, he⟩
      exact K0 (List.mem_map.mpr ⟨kv, hkv, of_decide_eq_true he⟩)
    have hst : stored kvs k v = kvs ++ [(k, v)] := by rw [stored, if_neg Iw]
    have hlen : kvs.length + 1 = (stored kvs k v).length := by rw [hst, List.length_append]; rfl
    refine wpAny_bind (wpAny_rule (wpAny_updateDictKeys (hz := hes) (s := { s with toks := s.toks + 1 }) ho hd (hQ _ ⟨_, _, Heap.get?_update_self _ ho (Obj.isFreed_of_dict (Obj.data_mapDictKeys hd _)),
      hc.mapDictKeys _, (Obj.data_mapDictKeys hd _).trans (congrArg (fun n => Data.dict _ n) hlen), hk.push zR _, ?_, ?_⟩ (Heap.SameBut.update ..))))
    · rw [stored, if_neg Iw]
      have := hp.append zR (knd.hash k) v
      obtain ⟨l⟩ := es
      simpa using this
    · rw [stored, if_neg Iw, List.map_append, List.nodup_append]
      refine ⟨hn, by simp, ?_⟩
      intro a ha b hb
      simp only [List.map_cons, List.map_nil, List.mem_singleton] at hb
      subst hb
      exact fun e => K0 (e ▸ ha)
theorem wM{P:Program}{w:World}{κ:Type}[DecidableEq κ]{knd:KeyKind P w κ}{A:Around}{E:Value→Shared→Prop}{s:Shared}{d:Addr}{kvs:List (κ×Value)}{k:κ}{key v:Value}{Q:Unit→Shared→Prop}(zR:knd.is k key=true)(hm:s.heap.DictAt knd d kvs kvs.length)
  (hsz:kvs.length≤sizeLine) (hQ:∀h',h'.DictAt knd d (stored kvs k v) (stored kvs k v).length→Heap.SameBut d s.heap h'→Q () { s with heap:=h',toks:=s.toks+1 }) :
  wpAny (model P w) A (setItem (.ref d) key v) Q E s:=by
 have hT:=hm.dictOf.typeIs
 unfold setItem
 try with_reducible refine wpAny_holding ?_
 refine wpAny_bind (wpAny_sequenceKey hT (by decide) ?_)
 refine wpAny_bind (wpAny_callSpecial?_slot (name:=Str.ofString "__setitem__") hT slot_dict_setitem
  (wpAny_call_entry slot_dict_setitem hT entry_dict_setitem ?_ (args_dict_setitem _ _ _)))
 show wpAny _ _ (Builtin.Dict.notOrdered "__setitem__" ⟨[.ref d,key,v],[]⟩>>=_) _ _ s
 refine wpAny_bind (wpAny_notOrdered_dict hT ?_)
 show wpAny _ _ (dictSet d key v>>=_) _ _ s
 exact wpAny_bind (wL zR hm hsz λh' hm' hs'=>wpAny_pure ⟨.none,rfl,wpAny_pure (hQ h' hm' hs')⟩)
theorem zS{H':Hp}{Q:Unit→Shared→Prop}(hu:A.units+1<cLine)(I:Inv X pins σ H s)(g:u7 H a y v H')(ry:RelV y u)(rv:RelV v r)(h:∀s',Inv X pins σ H' s'→Q () s') :
  wpAny (model X.prog X.w) A (setItem (.ref a) u r) Q E s:=by
 rcases g with ⟨kvs,k,e,ey,l,eH⟩|⟨kvs,k,b,e,ey,eb,l,eH⟩
 ·subst ey eH
  obtain⟨z,hd,vs,rel,dd⟩:=u6 I.hok (.inl e)
  have hz:vs.length≤sizeLine:=by rw[← rel.length];exact z
  have hl:(putK kvs k v).length≤sizeLine:=by have:=nX kvs k v;lia
  refine wM (Bz ry) dd hz λh' dd' hs=>h _ ?_
  have he:∃q,h'.get? a=some q:=let ⟨q,_,hq,_⟩:=dd';⟨q,hq⟩
  exact yB I (by rw[e];exact True.intro) hs he (Iv hl hd (rel.put k rv) dd')
 ·subst ey eH
  cases (show u=Value.ref b from ry)
  obtain⟨z,hd,xs,rel,dd⟩:=KZ I.hok e
  have hz:xs.length≤sizeLine:=by rw[← Paired.length rel];exact z
  have hl:(putK kvs k v).length≤sizeLine:=by have:=nX kvs k v;lia
  refine wpAny_setItem_heap (hsz:=hz) (tupleKind_room_in1 hu) (wJ I.hok eb) dd λh' dd' hs=>h _ ?_
  obtain⟨q,es,ep,hq,h2,h3,h4,_,h5⟩:=dd'
  refine yB I (by rw[e];exact True.intro) hs ⟨q,hq⟩ ⟨hl,hd,_,(rel.put k eb rv).keeps λc ys ec=>?_,q,es,ep,hq,h2,h3,h4,h5⟩
  rw[aB (Kk ec e (λz=>nomatch z))]
  exact ec
end
section
variable{X:Cx}{pins:List (Addr×Obj)}{σ:St}{H:Hp}{s:Shared}{a:Addr}{kvs:List (Key×V)}{k:Key}{u:Value}{A:Around}{E:Value→Shared→Prop}
theorem K1{Q:Value→Shared→Prop}(I:Inv X pins σ H s)(e:Rd H a (.dK kvs))(h:∀t s',Inv X pins σ H s'→Q (.int kvs.length t) s'):wpAny (model X.prog X.w) A (call (.builtin "len") [.ref a]) Q E s:=by
 obtain⟨z,hd,vs,rel,dd⟩:=BB I.hok e
 refine call_len_dict hd dd (by rw[← rel.length];rw[sizeLine_eq] at z;lia) ?_
 rw[← rel.length]
 exact h _ _ (I.tok _)
end
def EJ(i:Expr):Prop:=∀ov iv,subscripted i false ov iv=operate [ov,iv] (getItem ov iv)
theorem EK{prog:Program}{w:World}{A:Around}{E:Value→Shared→Prop}{s:Shared}{env:Env}{value slice:Expr}{pos:Pos}{T id:String}{Q:Value→Shared→Prop}
  (hl:typeLookup (.type T) "__getitem__"=pure (some (.builtin id))) (hs:EJ slice)
  (h:wpAny (model prog w) A (eval value env) (λo s₁=>wpAny (model prog w) A (eval slice env) (λi s₂=>s₂.TypeIs o T∧wpAny (model prog w) A (getItem o i) Q E s₂) E s₁) E s) :
  wpAny (model prog w) A (eval (.Subscript value slice pos) env) Q E s:=by
 refine Subscript_ (wpAny_mono h (λo s₁ h₁=>wpAny_mono h₁ (λi s₂ h₂=>?_) λ_ _ x=>x) λ_ _ x=>x)
 obtain⟨hT,h₂⟩:=h₂
 unfold subscriptTail
 refine wpAny_bind ?_
 rw[getitemInPython_of_ne hT.not_modules]
 refine wpAny_bind (wpAny_specialOf hT hl ?_)
 have fin:wpAny (model prog w) A (subscripted slice false o i) (λr s₃=>wpAny (model prog w) A (letTemporaryGo value o r>>=λ_=>pure r) Q E s₃) E s₂:=by
  rw[hs o i]
  exact wpAny_operating (wpAny_mono h₂ (λr s₃ h₃=>wpAny_bind (wpAny_letTemporaryGo (wpAny_pure h₃))) λ_ _ x=>x)
 first
  | exact wpAny_pure (wpAny_bind fin)
  | exact wpAny_bind (wpAny_pure (wpAny_bind fin))
  | exact wpAny_bind fin
theorem u9{X:Cx}{pins:List (Addr×Obj)}{σ:St}{H:Hp}{s:Shared}{a:Addr}{y:V}{o:Option V}(I:Inv X pins σ H s)(g:wK H a y o):s.TypeIs (.ref a) "dict":=by
 rcases g with ⟨kvs,k,e,_,_⟩|⟨kvs,k,b,e,_,_,_⟩
 ·obtain⟨_,_,vs,_,dd⟩:=BB I.hok e
  exact dd.typeIs
 ·obtain⟨_,_,xs,_,dd⟩:=BC I.hok e
  exact dd.typeIs
def BE(td ty:TE):TE:=λσ H Q=>td σ H λx H1=>ty σ H1 λy H2=>∃a v,x=.ref a∧wK H2 a y (some v)∧Q v H2
def K2(td ty tv:TE):TS:=λD σ H=>tv σ H λv H1=>td σ H1 λx H2=>ty σ H2 λy H3=>∃a H4,x=.ref a∧u7 H3 a y v H4∧D.nx σ H4
section
variable{X:Cx}{o i e value:Expr}{pos pos' fL:Pos}{td ty tv:TE}
theorem yC(hu:X.A.units+1<cLine)(ho:PE X o td)(hi:PE X i ty)(hs:EJ i):PE X (.Subscript o i pos) (BE td ty):=by
 intro pins s σ H Q I h
 refine EK PySem.F.slot_dict_getitem.lookup hs (thn (ho pins s σ H _ I h) λu s1 ⟨x,H1,I1,rx,q1⟩=>thn (hi pins s1 σ H1 _ I1 q1) λiv s2 ak=>?_)
 obtain⟨y,H2,I2,ry,a,v,ex,g,q2⟩:=ak
 subst ex
 obtain rfl:u=Value.ref a:=rx
 exact⟨u9 I2 g,zQ hu I2 g ry λw' s3 I3 rw'=>⟨v,H2,I3,rw',q2⟩⟩
theorem yD(hu:X.A.units+1<cLine)(ho:PE X o td)(hi:PE X i ty)(hv:PE X value tv)(hs:swapsWith value (some (.Subscript o i pos')) pos.line X.env=pure false) :
  PS X (.Assign [.Subscript o i pos'] value pos) (K2 td ty tv):=by
 intro pins s σ H D I h
 refine wpAny_Assign_Subscript (thn (hv pins s σ H _ I h) λr s1 ⟨v,H1,I1,rv,q1⟩=>thn (ho pins s1 σ H1 _ I1 q1) λu s2 ⟨x,H2,I2,rx,q2⟩=>thn (hi pins s2 σ H2 _ I2 q2) λiv s3 ak=>?_) hs
 obtain⟨y,H3,I3,ry,a,H4,ex,g,q3⟩:=ak
 subst ex
 obtain rfl:u=Value.ref a:=rx
 exact zS hu I3 g ry rv λs4 I4=>⟨σ,H4,I4,q3⟩
end
theorem BF{P:Program}{w:World}{H:Hp}(h:Heap)(hb:sysModules<h.objs.size):cL P w H (h.push { cls:=.type "dict",data:=.dict #[] }) h.objs.size (.dK []) :=
 ⟨Nat.zero_le _,beq_eq_false_iff_ne.mpr (Ne.symm (Nat.ne_of_lt hb)),[],.nil,_,#[],Heap.get?_push_size _ rfl,⟨rfl,rfl,rfl⟩,rfl,λe he=>by simp at he,.nil,List.nodup_nil⟩
theorem BG{P:Program}{w:World}{H:Hp}(h:Heap)(hb:sysModules<h.objs.size):cL P w H (h.push { cls:=.type "dict",data:=.dict #[] }) h.objs.size (.dT []) :=
 ⟨Nat.zero_le _,beq_eq_false_iff_ne.mpr (Ne.symm (Nat.ne_of_lt hb)),[],.nil,_,#[],0,Heap.get?_push_size _ rfl,⟨rfl,rfl,rfl⟩,rfl,rfl,List.nodup_nil⟩
def Iy:TE:=λ_ H Q=>∀p,H p=none→Q (.ref p) (upd H p (.dK []))
def Iz:TE:=λ_ H Q=>∀p,H p=none→Q (.ref p) (upd H p (.dT []))
section
variable{X:Cx}{pos:Pos}
theorem BH:PE X (.Dict [] [] pos) Iy:=λpins s σ H Q I h =>
 wpAny_Dict_empty ⟨.ref s.heap.objs.size,_,I.laid (a:=s.heap.objs.size) (o:=.dK []) (t':=s.toks) (λ_ _ q=>Heap.get?_push_of_some _ q) (Nat.le_refl _) (BF s.heap I.big),rfl,h _ (I.hok.fresh (Nat.le_refl _))⟩
theorem BI:PE X (.Dict [] [] pos) Iz:=λpins s σ H Q I h =>
 wpAny_Dict_empty ⟨.ref s.heap.objs.size,_,I.laid (a:=s.heap.objs.size) (o:=.dT []) (t':=s.toks) (λ_ _ q=>Heap.get?_push_of_some _ q) (Nat.le_refl _) (BG s.heap I.big),rfl,h _ (I.hok.fresh (Nat.le_refl _))⟩
end
structure M1(X:Cx)(o:Expr)(m:Str)(apos:Pos)(e:Expr)(fq:Pos):Prop where
 base:attributeBase o m X.env (eval o X.env)=eval o X.env
 few:((backTo fq (starEach [e] X.env)).all (λx=>!x.1) && (backToKw fq (keywordEach [] X.env)).all (λx=>x.1.isSome)
  && decide (([e]:List Expr).length+([]:List Keyword).length+(if ([]:List Keyword).isEmpty then 0 else 1)<30))=true
 line:(apos.endLine==fq.line)=true
 trees:backTo fq (starEach [e] X.env)=[(false,eval e X.env)]
section
variable{X:Cx}{pins:List (Addr×Obj)}{σ:St}{H:Hp}{s:Shared}{a:Addr}{y d:V}{u r:Value}{o:Option V}{A:Around}{E:Value→Shared→Prop}
end
section
variable{X:Cx}{o e f:Expr}{apos fq:Pos}{td ty tx:TE}
end
section
variable{X:Cx}{pins:List (Addr×Obj)}{σ:St}{H:Hp}{s:Shared}{a:Addr}{kvs:List (Key×V)}{A:Around}{E:Value→Shared→Prop}
end
section
variable{X:Cx}{pins:List (Addr×Obj)}{σ:St}{H:Hp}{s:Shared}{a:Addr}{y:V}{u:Value}{A:Around}{E:Value→Shared→Prop}
end
end L2
namespace Att
open PySem PySem.W PySem.Calls PyProof.Rows
theorem ox{P:Params}{h:Heap}:∀(ns:List Int) (vs:List Value),WellAll P h vs (ns.map WData.int)→IntsAre vs ns:=by
 intro ns
 induction ns with
 | nil =>
  intro vs w
  rw[List.map_nil] at w
  cases w
  exact .nil
 | cons n ns ih =>
  intro vs w
  rw[List.map_cons] at w
  cases w with
  | cons a b =>
   cases a
   exact .cons _ _ (ih _ b)
theorem zT{l:OpenLaw}{n:Nat}(hn:l.most=some n){P:Params}{h:Heap}{args:List WData}{vals:List Value}
  (EL:l.row.toRowW.claim.pre args=true) (hwl:WellAll P h vals args) :
  ∃a vs ns,vals=[Value.ref a]∧args=[WData.list (ns.map WData.int)]∧h.get? a=some { cls:=.type "list",data:=.seq vs.toArray }∧IntsAre vs ns∧ns.length≤n:=by
 have hsh:WShape.hasAll [] args [.list .int]=true:=(pre_splitW EL).1
 have hc:l.pre.holds [] { args:=args }=true:=(pre_splitW EL).2
 obtain⟨d,r,rfl,h1,h2⟩:=hasAllW_cons hsh
 obtain rfl:=hasAllW_nil h2
 obtain⟨xs,rfl,h3⟩:=hasW_list h1
 obtain⟨ns,rfl⟩:=items_int h3
 have hlen:ns.length≤n:=by
  unfold OpenLaw.pre at hc
  have h4:(WTm.not (.lt (.lit (.int (n:Int))) (.len (.arg 0)))).holds [] { args:=[.list (ns.map .int)] }=true:=by
   have h4:=(holds_andW hc).1
   rw[hn] at h4
   exact h4
  have h5:=condW_of h4 (w_not (w_lt w_lit (w_len_list (w_arg rfl))))
  rw[List.length_map] at h5
  refine Nat.le_of_not_lt λq=>?_
  have q':(n:Int)<((ns.length:Nat):Int):=by lia
  first
   | (rw[decide_eq_true q'] at h5;exact absurd h5 (by decide))
   | (simp at h5;lia)
 cases hwl with
 | cons w1 w2 =>
  cases w2
  cases w1 with
  | list ho Ng=>exact⟨_,_,ns,rfl,rfl,ho,ox ns _ Ng,hlen⟩
theorem zU(l:OpenLaw)(args:List WData):l.row.toRowW.claim.post args (.bool true) args=true :=
 postW_of (r:=l.row.toRowW) (X:=(true==true))
  (show WShape.has [] (.bool true) .bool=true by first|rfl|decide|simp[WShape.has,WShape.arms,WShape.armsAll])
  (show (WTm.eq .res (.lit (.bool true))).value [] { args:=args,res:=some (.bool true),after:=args }=some (.bool (true==true)) from w_eq_bool (w_res rfl) w_lit) rfl
theorem u_{l:OpenLaw}{n:Nat}{q:Program}{loose:List Str}{XP:(Str→Option Value)→Heap→Prop}{YP:World→Heap→Prop}{d:DefRec}
  (hn:l.most=some n) (hdf:d.params.defaults=[])
  (call:∀(w:World) (s₀ s₁:Shared) (mg mb:Str→Option Value) (fa:Addr) (o:Obj) (pm cd doc:Value) (a:Addr) (vs:List Value) (ns:List Int),
   Ground q loose [] XP w s₀ mg mb s₁.heap→YP w s₁.heap →
   s₁.heap.get? fa=some o→o.data=.func (docDef d.name d.params d.body d.scope pm cd doc)→s₁.heap.CodeRec cd d.name→mg d.name=some (.ref fa) →
   s₁.heap.get? a=some { cls:=.type "list",data:=.seq vs.toArray }→IntsAre vs ns→ns.length≤n→s₁.gens=#[] →
   codeAny (model l.prog w) callerA (.call (.ref fa) ⟨[.ref a],[]⟩) (λr s'=>r=.ok (.ret (.bool true))∧OldK s₁.heap s'.heap∧s'.os=s₁.os∧AllBare s'.gens) s₁) :
  WalkO q loose XP YP l.row.toRowW d [] (λf vs=>PySem.call f vs):=by
 intro w s₀ s₁ mg mb G Y fa o pm cd doc dV kV ho hd hcd hD hmg hg args vals as EL QS hrd hwl hlo
 obtain rfl:dV=.none:=Dflts.none hD hdf
 obtain rfl:kV=.none:=Dflts.noKw hD
 obtain⟨a,vs,ns,rfl,rfl,IA,hints,hlen⟩:=zT hn EL hwl
 refine enter_call (codeAny_mono (call w s₀ s₁ mg mb fa o pm cd doc a vs ns G Y ho (fd_plain hd) hcd hmg IA hints hlen hg) λr s' hq=>?_)
 obtain⟨rfl,h2,h3,h4⟩:=hq
 exact⟨.inl ⟨.bool true,.bool true,[],rfl,λ_=>rfl,.bool true,zU l _,λ_=>⟨List.Pairwise.nil,λ_ hm=>(nomatch hm)⟩⟩,h2,h3,h4⟩
section
variable{prog:Program}{w:World}{A:Around}{E:Value→Shared→Prop}{s:Shared}{K:Frag}
end
end Att
namespace L2
open PySem PySem.Spec PyProof.Rows
theorem su:∀{vs:List Value}{ns:List Int},IntsAre vs ns→Vals (ns.map V.int) vs
 | _,_,.nil=>.nil
 | _,_,.cons n t h=>.cons ⟨t,rfl⟩ (su h)
def EM(H:Hp):Prop:=∀b,H b=none∨∃o xs,H b=some (.frz o (.lst xs))
theorem BJ{P:Program}{w:World}{K:PySem.W.Frag}{mg mb:Str→Option Value}{CX:CXT}{k:Nat}{fa a:Addr}{fd:FuncData}{x:Str}{sp:Sp}{s₁:Shared}{vs:List Value}{ns:List Int}
  (KX:K.In s₁.heap) (hns:s₁.heap.Ns mainGlobals mg) (hb:s₁.heap.Ns builtinsNs mb) (hbb:∀x:Str,x≠"__name__"→mb x=bootBuiltins x) (Nh:s₁.heap.NoLimit) (hg:s₁.gens=#[])
  (ha:s₁.heap.get? a=some { cls:=.type "list",data:=.seq vs.toArray }) (hi:IntsAre vs ns) (hl:ns.length≤sizeLine) (hr:dg k callerA)
  (F:∀base:Heap,K.In base→base.Ns mainGlobals mg→aV P w K mg base CX k fa fd [x] sp) (K3:∀(s:Shared) (u:Value),BindsTo s fd ⟨[u],[]⟩ [(x,u)])
  (hsp:∀H:Hp,EM H→SqL K H a (ns.map V.int)→sp [.ref a] H (λv _=>v=.bl true) λ_ _ _=>False)
  (hCX:∀H e s',CX [] H s₁ (λ_ _ _=>False) e s'→False) :
  codeAny (model P w) callerA (.call (.ref fa) ⟨[.ref a],[]⟩) (λr s'=>r=.ok (.ret (.bool true))∧OldK s₁.heap s'.heap∧s'.os=s₁.os∧AllBare s'.gens) s₁:=by
 have rv:=su hi
 have Ni:=hi.length
 have core:∀H:Hp,EM H→SqL K H a (ns.map V.int)→HOk P w H s₁.heap→(∀b,H b≠none→b=a)→(H a≠none→K.lookup a=none) →
   codeAny (model P w) callerA (.call (.ref fa) ⟨[.ref a],[]⟩) (λr s'=>r=.ok (.ret (.bool true))∧OldK s₁.heap s'.heap∧s'.os=s₁.os∧AllBare s'.gens) s₁:=by
  intro H hO hS hok hA hK
  have yE:∀{b:Addr}{o:Obj},s₁.heap.get? b=some o→H b=none→(tG s₁.heap H).get? b=some o:=λe n=>Bb e n
  have noA:∀{b:Addr}{o:Obj}{es:Array DictEntry}{ep:Nat},s₁.heap.get? b=some o→o.data=.dict es ep→H b=none:=λ{b o es ep} e d=>by
   cases q:H b with
   | none=>rfl
   | some u =>
    have e':b=a:=hA b (by rw[q];simp)
    subst e'
    rw[ha] at e;cases e
    have d':Data.seq vs.toArray _=Data.dict es ep:=d
    cases d'
  have nsK:∀{b:Addr}{m:Str→Option Value},s₁.heap.Ns b m→(tG s₁.heap H).Ns b m:=λ{b m} ⟨o,es,ep,e,d,r⟩=>⟨o,es,ep,yE e (noA e d),d,r⟩
  have hKb:K.In (tG s₁.heap H):=λb o e=>yE (KX b o e) (by
   cases q:H b with
   | none=>rfl
   | some u =>
    have e':b=a:=hA b (by rw[q];simp)
    subst e'
    rw[hK (by rw[q];simp)] at e;cases e)
  have hM:Mod K mg (tG s₁.heap H):=⟨hKb,nsK hns,⟨mb,nsK hb,hbb⟩,let ⟨mc,h1,h2⟩:=Nh;⟨mc,nsK h1,h2⟩⟩
  have e0:wB P w K mg (tG s₁.heap H) callerA [] s₁ H:=⟨rfl,hM,λb o e=>En e,Nat.le_of_eq (zH _ _),trivial,λb hb=>absurd (show b∈([]:List Addr) from hb) (by simp),hok,.of_eq hg⟩
  refine codeAny_mono ((F _ hKb (nsK hns)).run callerA [] s₁ H ⟨[.ref a],[]⟩ [.ref a] [.ref a] _ _ hr e0 (K3 s₁ (.ref a)) (.cons rfl .nil) (hsp H hO hS)) λr s' h=>?_
  cases r with
  | error e=>exact (hCX H e s' h).elim
  | ok fl =>
   cases fl with
   | next=>exact False.elim h
   | brk=>exact False.elim h
   | cont=>exact False.elim h
   | ret u =>
    obtain⟨v,H',os,bare,un,Nj,r',q⟩:=h
    have q':v=.bl true:=q
    subst q'
    obtain rfl:u=Value.bool true:=r'
    refine⟨rfl,OldK.of_keep λb o e=>?_,os,bare⟩
    cases q:H b with
    | none=>exact un.keep b o e q (by intro z;exact absurd (show b∈([]:List Addr) from z) (by simp)) (by simp)
    | some u =>
     rcases hO b with z|⟨ob,xs,z⟩
     ·rw[q] at z;cases z
     ·have z2:=un.eD b ob _ z
      obtain⟨e1,_⟩:=hok b _ z
      obtain⟨e2,_⟩:=Nj b _ z2
      rw[e] at e1;cases e1
      exact e2
 cases hk:K.lookup a with
 | some o =>
  have e:=KX a o hk
  rw[ha] at e
  cases e
  refine core (λ_=>none) (λ_=>.inl rfl) (.inr ⟨_,vs.toArray,_,hk,rfl,rfl,rfl,by rw[List.size_toArray,Ni];exact hl,by simpa using rv⟩) (λb u z=>by have z':(none:Option HO)=some u:=z;cases z') (λb z=>absurd rfl z) λz=>absurd rfl z
 | none =>
  refine core (λb=>if b=a then some (.frz { cls:=.type "list",data:=.seq vs.toArray } (.lst (ns.map V.int))) else none) (λb=>?_) (.inl (.inr ⟨{ cls:=.type "list",data:=.seq vs.toArray },if_pos rfl⟩)) (λb u z=>?_) (λb z=>?_) λ_=>hk
  ·by_cases hb:b=a
   ·exact .inr ⟨_,_,if_pos hb⟩
   ·exact .inl (if_neg hb)
  ·by_cases hb:b=a
   ·have z':=(if_pos hb).symm.trans z
    cases z'
    subst hb
    exact⟨ha,by rw[List.length_map];exact hl,vs,_,rv,ha⟩
   ·have z':=(if_neg hb).symm.trans z
    cases z'
  ·by_cases hb:b=a
   ·exact hb
   ·exact absurd (if_neg hb) z
theorem EN{l:PySem.W.OpenLaw}{n k:Nat}{q:Program}{loose:List Str}{XP:(Str→Option Value)→Heap→Prop}{YP:World→Heap→Prop}{d:DefRec}{K:Params→PySem.W.Frag}{CX:World→CXT}{sp:World→Sp}{x:Str}
  (hn:l.most=some n) (hn2:n≤sizeLine) (hdf:d.params.defaults=[]) (hr:dg k callerA)
  (hY:∀(w:World) (h:Heap),YP w h→(K w.params).In h)
  (F:∀(w:World) (mg:Str→Option Value) (fa:Addr) (h:Heap),(K w.params).In h→h.Ns mainGlobals mg→mg d.name=some (.ref fa) →
   ∃fd:FuncData,(∀(s:Shared) (u:Value),BindsTo s fd ⟨[u],[]⟩ [(x,u)]) ∧
    ∀base:Heap,(K w.params).In base→base.Ns mainGlobals mg→aV l.prog w (K w.params) mg base (CX w) k fa fd [x] (sp w))
  (hsp:∀(w:World) (H:Hp) (a:Addr) (ns:List Int),ns.length≤n→EM H→SqL (K w.params) H a (ns.map V.int)→sp w [.ref a] H (λv _=>v=.bl true) λ_ _ _=>False)
  (hCX:∀(w:World) (H:Hp) (s:Shared) (e:Value) (s':Shared),CX w [] H s (λ_ _ _=>False) e s'→False) :
  PySem.W.WalkO q loose XP YP l.row.toRowW d [] (λf vs=>PySem.call f vs):=by
 refine Att.u_ hn hdf λw s₀ s₁ mg mb fa o pm cd doc a vs ns G Y ho hd hcd hmg IA hints hlen hg=>?_
 have KX:=hY w _ Y
 obtain⟨fd,hb,hF⟩:=F w mg fa _ KX G.T.g hmg
 exact BJ KX G.T.g G.T.b G.T.builtins G.T.nolimit hg IA hints (Nat.le_trans hlen hn2) hr hF hb (λH hO hS=>hsp w H a ns hlen hO hS) λH e s'=>hCX w H s₁ e s'
end L2
namespace L2
open PySem PySem.Spec PyProof.Rows
def aN(s:Stmt):Arguments:=match s with
 | .FunctionDef _ a _ _ _ _ _ _ _ _=>a
 | _=>{ posonlyargs:=[],args:=[],vararg:=none,kwonlyargs:=[],kw_defaults:=[],kwarg:=none,defaults:=[] }
def aL(s:Stmt):List Stmt:=match s with
 | .FunctionDef _ _ b _ _ _ _ _ _ _=>b
 | _=>[]
def ai(s:Stmt):Scope:=match s with
 | .FunctionDef _ _ _ _ _ _ sc _ _ _=>sc
 | _=>{ kind:=.function,names:=[],isGenerator:=false,isCoroutine:=false }
noncomputable abbrev CX0 : CXT := fun _ _ _ _ _ _ => False
noncomputable abbrev E0 : XK := fun _ _ _ => False
theorem K4{X:Cx}:Passes CX0 X E0:=λ_ _ _ _ _ _ _ h=>h.elim
structure Fun(K:PySem.W.Frag)(x qual:Str)(st:Stmt)(f:Addr)(fd:FuncData):Prop where
 ex:∃(oc:Value) (od:Option Addr) (kV doc pm:Value) (an:Option Addr) (cdv ct:Value) (osl:Array (Option Value)),
  fd=PySem.W.fnOf x qual (aN st) (aL st) (ai st) .none kV doc pm an cdv ct∧K.lookup f=some ⟨oc,od,.func fd,osl⟩∧PySem.W.codeIn K cdv qual=true
 kp:PySem.W.keepIn K (.ref f)=true
section
variable{P:Program}{w:World}{K:PySem.W.Frag}{mg:Str→Option Value}{base:Heap}
theorem Fun.ok{x qual:Str}{st:Stmt}{f:Addr}{fd:FuncData}{N ps:List Str}{k:Nat}{sp:Sp}(F:Fun K x qual st f fd)(S:aP N ps (ai st))(len:∀vs H Q E,sp vs H Q E→vs.length=ps.length)
  (Bq:∀(cdv:Value) (A:Around) (outer:List Env) (s:Shared) (H:Hp) (vs:List V) (Q:VK) (E:XK),dg k (A.deeper (envOfC qual (ai st) s.heap.objs.size f cdv))→sp vs H Q E →
   ∃t,PSs (wC CX0 P w K mg base N qual (ai st) f cdv A outer s H E).nox (aL st) t∧t { nx:=λ_ H'=>Q .non H',rt:=Q } (start N vs) H):aV P w K mg base CX0 (k+1) f fd ps sp:=by
 obtain⟨oc,od,kV,doc,pm,an,cdv,ct,osl,rfl,lk,hcd⟩:=F.ex
 refine KI lk hcd S len λA outer s H vs Q E hr hsp=>?_
 obtain⟨t,h,q⟩:=Bq cdv A outer s H vs Q E hr hsp
 exact⟨t,h.nox,q⟩
theorem Fun.binds{x qual:Str}{st:Stmt}{f:Addr}{fd:FuncData}{ps:List Str}(F:Fun K x qual st f fd)
  (h:∀(kV doc pm:Value) (an:Option Addr) (cdv ct:Value) (us:List Value),us.length=ps.length→bindArgs (PySem.W.fnOf x qual (aN st) (aL st) (ai st) .none kV doc pm an cdv ct) ⟨us,[]⟩=pure (ps.zip us)):Binds K fd ps []:=by
 obtain⟨oc,od,kV,doc,pm,an,cdv,ct,osl,rfl,lk,hcd⟩:=F.ex
 exact .all (h kV doc pm an cdv ct)
theorem bw{x qual:Str}{st:Stmt}{f:Addr}{oc:Value}{od an:Option Addr}{osl:Array (Option Value)}{kV doc pm cdv ct:Value}(l:K.lookup f=some ⟨oc,od,.func (PySem.W.fnOf x qual (aN st) (aL st) (ai st) .none kV doc pm an cdv ct),osl⟩)
  (c:PySem.W.codeIn K cdv qual=true) (k:PySem.W.keepIn K (.ref f)=true):Fun K x qual st f (PySem.W.fnOf x qual (aN st) (aL st) (ai st) .none kV doc pm an cdv ct):=⟨⟨oc,od,kV,doc,pm,an,cdv,ct,osl,rfl,l,c⟩,k⟩
end
theorem zV{n:Nat}(h:n≤1000):n<sizeLine:=Nat.lt_of_le_of_lt h (by decide)
section
variable{X:Cx}
end
def aH(H H':Hp):Prop:=∀b o,H b=some o→H' b=some o
theorem aH.refl(H:Hp):aH H H:=λ_ _ h=>h
theorem aH.trans{H H1 H2:Hp}(a:aH H H1)(b:aH H1 H2):aH H H2:=λc o h=>b c o (a c o h)
theorem aH.free{H H':Hp}(e:aH H H'){l:Addr}(h:H' l=Option.none):H l=Option.none:=by
 cases q:H l with
 | none=>rfl
 | some o =>
  rw[e l o q] at h
  cases h
theorem aH.seq{K:PySem.W.Frag}{H H':Hp}{a:Addr}{xs:List V}(e:aH H H')(h:SqL K H a xs):SqL K H' a xs:=by
 rcases h with (h|⟨o,h⟩)|h
 ·exact .inl (.inl (e _ _ h))
 ·exact .inl (.inr ⟨o,e _ _ h⟩)
 ·exact .inr h
section
variable{X:Cx}
theorem zW:d6 X (.builtin "len") (λxs H Q=>∃a kvs,xs=[V.ref a]∧H a=some (.dK kvs)∧Q (.int kvs.length) H):=by
 intro pins s σ H xs us Q I r h
 obtain⟨a,kvs,rfl,ha,q⟩:=h
 obtain⟨u,rfl,ru⟩:=vals1 r
 cases ru
 exact K1 I (.inl ha) λt s' I'=>⟨.int kvs.length,H,I',⟨t,rfl⟩,q⟩
end
section
variable{κ:Type}[DecidableEq κ]
end
def CX1(P:Program)(w:World):CXT:=λouter H s E ev s'=>∃(e t C:Addr) (H':Hp) (B:Heap),ev=.ref e∧s'.os=s.os∧AllBare s'.gens∧Un (frs outer) [] H H' s.heap s'.heap∧HOk P w H' s'.heap∧E (.ref C) none H' ∧
 Heap.FlyingW B outer e (.ref C) (.ref t) s'.heap∧(∀b o,s.heap.get? b=some o→b∉frs outer→∃o',B.get? b=some o')∧∀b o,H' b=some o→∃o',B.get? b=some o'
theorem Un.held{P:Program}{w:World}{l:List Env}{H H':Hp}{h0 h3 h5 B:Heap}{e:Addr}{cls a0:Value}(U:Un (frs l) [] H H' h0 h3)(hok:HOk P w H' h3)(fl:Heap.FlyingW B l e cls a0 h3)(st:B.StaysIn h5)(up:h3.UpToSlots h5)
  (cov:∀b o,h0.get? b=some o→b∉frs l→∃o',B.get? b=some o') (IB:∀b o,H' b=some o→∃o',B.get? b=some o'):Un (frs l) [] H H' h0 h5∧HOk P w H' h5:=by
 have same:∀b o o',h3.get? b=some o→B.get? b=some o'→h5.get? b=some o:=λb o o' q1 q2=>by
  have:=fl.1 b o' q2
  rw[q1] at this
  cases this
  exact st b o q2
 have slot:∀b o,h3.get? b=some o→b∈frs l→∃sl,h5.get? b=some { o with slots:=sl }:=λb o q hb=>by
  obtain⟨_,o',ho',hnr⟩:=fl.2.2.1.mem hb
  rw[q] at ho'
  cases ho'
  exact up b o q hnr
 refine⟨⟨λb o q n nb hx=>?_,λb o q n hb hx=>?_,U.free,λb o q hx=>?_,U.rh,U.eD,U.rj⟩,λa o q=>?_⟩
 ·obtain⟨o',hB⟩:=cov b o q nb
  exact same b o o' (U.keep b o q n nb hx) hB
 ·obtain⟨sl,e1⟩:=U.slot b o q n hb hx
  obtain⟨sl2,e2⟩:=slot b _ e1 hb
  exact⟨sl2,e2⟩
 ·obtain⟨o2,e2⟩:=U.there b o q hx
  by_cases hb:b∈frs l
  ·obtain⟨sl,e3⟩:=slot b o2 e2 hb
   exact⟨_,e3⟩
  ·obtain⟨o',hB⟩:=cov b o q hb
   exact⟨o2,same b o2 o' e2 hB⟩
 ·refine (hok a o q).uU (λc v hc r=>?_) (λ_ r=>r) λ_ _ r=>r
  have hT:∃o1,H' c=some o1:=by
   rcases hc with rfl|hc
   ·exact⟨_,q⟩
   ·exact⟨_,hc⟩
  obtain⟨o1,h1⟩:=hT
  obtain⟨o',hB⟩:=IB c o1 h1
  exact same c v o' r hB
section
variable{M:Model}{A:Around}{E:Value→Shared→Prop}{h:Heap}{g:Array GenState}{d:Drawn}{t:Nat}{os:OsState}{e C:Addr}{oe:Obj}
 {nm q:Str}{N:Addr}{bs bm:List Value}{QT:Bool}{sn:List Str}{sub:List Value}{ab:Bool}{col:Option Bool}{dd:Option Addr}{k0 k1 k2 k3 k5:Option Value}{newId:String}
 {nm' q':Str}{N' D:Addr}{bs' bm':List Value}{QP:Bool}{sn':List Str}{QU:List Value}{ab':Bool}{QV:Option Bool}{dd':Option Addr}{k0' k1' k2' k3' k5':Option Value}{Nk:String}
end
structure Cau(X:Cx)(pins:List (Addr×Obj))(σ:L2.St)(H':Hp)(e t C:Addr)(B:Heap)(s:Shared):Prop where
 org:∃H0 s0,Inv X pins σ H0 s0∧s.os=s0.os∧Un (frs X.stack) [] H0 H' s0.heap s.heap∧∀b o,s0.heap.get? b=some o→b∉frs X.stack→∃o',B.get? b=some o'
 bare:AllBare s.gens
 hok:HOk X.prog X.w H' s.heap
 fly:Heap.FlyingW B X.stack e (.ref C) (.ref t) s.heap
 cov:∀b o,H' b=some o→∃o',B.get? b=some o'
section
variable{X:Cx}{pins:List (Addr×Obj)}{σ:L2.St}{H':Hp}{e t C:Addr}{B h':Heap}{s:Shared}
theorem Cau.slots{tk:Nat}(c:Cau X pins σ H' e t C B s)(fl:Heap.FlyingW B X.stack e (.ref C) (.ref t) h')(up:s.heap.UpToSlots h'):Cau X pins σ H' e t C B { s with heap:=h',toks:=tk }:=by
 obtain⟨H0,s0,I,hos,U,cov⟩:=c.org
 obtain⟨U',hk⟩:=U.held c.hok c.fly fl.1 up cov c.cov
 exact⟨⟨H0,s0,I,hos,U',cov⟩,c.bare,hk,fl,c.cov⟩
end
section
variable{X:Cx}{pins:List (Addr×Obj)}{σ:L2.St}{H:Hp}{s:Shared}{ev:Value}
end
section
variable{X:Cx}{pins:List (Addr×Obj)}{σ:L2.St}{H':Hp}{e t C D:Addr}{B:Heap}{s:Shared}{bm:List Value}{x:Str}{np pos:Pos}{name:Option Str}{body:List Stmt}{rest:List ExceptHandler}{Q:Flow→Shared→Prop}{E:Value→Shared→Prop}
end
section
variable{X:Cx}{pins:List (Addr×Obj)}{σ:L2.St}{H':Hp}{e t C:Addr}{B:Heap}{s:Shared}{bm:List Value}{pos:Pos}{name:Option Str}{body:List Stmt}{rest:List ExceptHandler}{Q:Flow→Shared→Prop}{E:Value→Shared→Prop}
end
section
variable{X:Cx}{pins:List (Addr×Obj)}{σ:L2.St}{H:Hp}{s:Shared}
end
def IC(e C:Addr)(h:Heap):Prop:=∃o,h.get? e=some o∧o.cls=.ref C
section
variable{X:Cx}{pins:List (Addr×Obj)}{σ:L2.St}{H':Hp}{e t C:Addr}{B:Heap}{s:Shared}{pos:Pos}{E:Value→Shared→Prop}
end
structure Hel(X:Cx)(pins:List (Addr×Obj))(σ:L2.St)(H':Hp)(e t C:Addr)(B:Heap)(s:Shared):Prop where
 org:∃H0 s0,Inv X pins σ H0 s0∧s.os=s0.os∧Un (frs X.stack) [] H0 H' s0.heap s.heap∧∀b o,s0.heap.get? b=some o→b∉frs X.stack→∃o',B.get? b=some o'
 bare:AllBare s.gens
 hok:HOk X.prog X.w H' s.heap
 held:Heap.HeldW B X.stack e (.ref C) (.ref t) X.env.locals s.heap
 cov:∀b o,H' b=some o→∃o',B.get? b=some o'
theorem EO{P:Program}{w:World}{l:List Env}{H H':Hp}{h0 h3 h5 B:Heap}(U:Un (frs l) [] H H' h0 h3)(hok:HOk P w H' h3)(st0:B.StaysIn h3)(ff:h3.FunFrames B l)(st:B.StaysIn h5)(up:h3.UpToSlots h5)
  (cov:∀b o,h0.get? b=some o→b∉frs l→∃o',B.get? b=some o') (IB:∀b o,H' b=some o→∃o',B.get? b=some o'):Un (frs l) [] H H' h0 h5∧HOk P w H' h5:=by
 have same:∀b o o',h3.get? b=some o→B.get? b=some o'→h5.get? b=some o:=λb o o' q1 q2=>by
  have:=st0 b o' q2
  rw[q1] at this
  cases this
  exact st b o q2
 have slot:∀b o,h3.get? b=some o→b∈frs l→∃sl,h5.get? b=some { o with slots:=sl }:=λb o q hb=>by
  obtain⟨_,o',ho',hnr⟩:=ff.mem hb
  rw[q] at ho'
  cases ho'
  exact up b o q hnr
 refine⟨⟨λb o q n nb hx=>?_,λb o q n hb hx=>?_,U.free,λb o q hx=>?_,U.rh,U.eD,U.rj⟩,λa o q=>?_⟩
 ·obtain⟨o',hB⟩:=cov b o q nb
  exact same b o o' (U.keep b o q n nb hx) hB
 ·obtain⟨sl,e1⟩:=U.slot b o q n hb hx
  obtain⟨sl2,e2⟩:=slot b _ e1 hb
  exact⟨sl2,e2⟩
 ·obtain⟨o2,e2⟩:=U.there b o q hx
  by_cases hb:b∈frs l
  ·obtain⟨sl,e3⟩:=slot b o2 e2 hb
   exact⟨_,e3⟩
  ·obtain⟨o',hB⟩:=cov b o q hb
   exact⟨o2,same b o2 o' e2 hB⟩
 ·refine (hok a o q).uU (λc v hc r=>?_) (λ_ r=>r) λ_ _ r=>r
  have hT:∃o1,H' c=some o1:=by
   rcases hc with rfl|hc
   ·exact⟨_,q⟩
   ·exact⟨_,hc⟩
  obtain⟨o1,h1⟩:=hT
  obtain⟨o',hB⟩:=IB c o1 h1
  exact same c v o' r hB
section
variable{X:Cx}{pins:List (Addr×Obj)}{σ:L2.St}{H H':Hp}{e t C:Addr}{B:Heap}{s s3:Shared}{ev:Value}{E:Value→Shared→Prop}
theorem Hel.slots{h':Heap}(c:Hel X pins σ H' e t C B s)(hl:Heap.HeldW B X.stack e (.ref C) (.ref t) X.env.locals h')(up:s.heap.UpToSlots h'):Hel X pins σ H' e t C B { s with heap:=h' }:=by
 obtain⟨H0,s0,I,hos,U,cov⟩:=c.org
 obtain⟨U',hk⟩:=EO U c.hok c.held.1 c.held.2.2.1 hl.1 up cov c.cov
 exact⟨⟨H0,s0,I,hos,U',cov⟩,c.bare,hk,hl,c.cov⟩
end
end L2
namespace Fw
open PySem
noncomputable abbrev Key := Sum Int Str
inductive T where
 | non|bl (b:Bool)|int (i:Int)|str (x:Str)
 | lst (ts:List T)|tup (ts:List T)|dct (kts:List (Key×T))|exc (c:Str) (t:Option Str)|dtt (fz:Bool) (kts:List (List Int×Bool))
inductive SV where
 | val (t:T)|cel (k:Nat)|box (xs:List (Sum T Nat))
noncomputable abbrev af := List (Bool × T)
noncomputable abbrev Slots := List (Option SV)
inductive R(α:Type) where
 | ok (a:α) (μ:af)|err (c:T) (μ:af)|bad
def R.bind{α β:Type}(x:R α)(f:α→af→R β):R β:=match x with
 | .ok a μ=>f a μ
 | .err c μ=>.err c μ
 | .bad=>.bad
@[simp] theorem R.aT{α β:Type}(a:α)(μ:af)(f:α→af→R β):(R.ok a μ).bind f=f a μ:=(rfl)
def R.lift{α:Type}(o:Option α)(μ:af):R α:=match o with
 | some a=>.ok a μ
 | none=>.bad
@[simp] theorem R.aK{α:Type}(a:α)(μ:af):R.lift (some a) μ=.ok a μ:=(rfl)
theorem R.aR{α β:Type}{x:R α}{f:α→af→R β}{b:β}{μ:af}(h:x.bind f=.ok b μ):∃a μ1,x=.ok a μ1∧f a μ1=.ok b μ:=by
 cases x with
 | ok a μ1=>exact⟨a,μ1,rfl,h⟩
 | err c μ1=>cases h
 | bad=>cases h
theorem R.lb{α:Type}{o:Option α}{μ μ':af}{a:α}(h:R.lift o μ=.ok a μ'):o=some a∧μ=μ':=by
 cases o with
 | none=>cases h
 | some x=>cases h;exact⟨rfl,rfl⟩
def R.calm{α:Type}:R α→R α
 | .ok a μ=>.ok a μ
 | _=>.bad
@[simp] theorem R.dB{α:Type}(a:α)(μ:af):(R.ok a μ).calm=.ok a μ:=(rfl)
theorem R.calm_eq{α:Type}{r:R α}{a:α}{μ:af}(h:r.calm=.ok a μ):r=.ok a μ:=by
 cases r with
 | ok b ν=>exact h
 | err c ν=>cases h
 | bad=>cases h
noncomputable abbrev D := Slots → af → R SV
def szL:Nat:=16777216
def rd(μ:af):SV→Option T
 | .val t=>some t
 | .cel k=>(μ[k]?).map (·.2)
 | .box _=>none
@[simp] theorem iz(μ:af)(t:T):rd μ (.val t)=some t:=(rfl)
def tQ(x:Sum T Nat)(μ:af):R T:=match x with
 | .inl t=>.ok t μ
 | .inr k=>match μ[k]? with
  | some (_,t)=>.ok t (μ.set k (false,t))
  | none=>.bad
def jN:List (Sum T Nat)→af→R (List T)
 | [],μ=>.ok [] μ
 | x::xs,μ=>(tQ x μ).bind λt μ1=>(jN xs μ1).bind λts μ2=>.ok (t::ts) μ2
def frz(sv:SV)(μ:af):R T:=match sv with
 | .val t=>.ok t μ
 | .cel k=>match μ[k]? with
  | some (_,t)=>.ok t (μ.set k (false,t))
  | none=>.bad
 | .box xs=>(jN xs μ).bind λts μ1=>.ok (.tup ts) μ1
@[simp] theorem mf(μ:af)(t:T):frz (.val t) μ=.ok t μ:=(rfl)
def eD:List SV→af→R (List T)
 | [],μ=>.ok [] μ
 | x::xs,μ=>(frz x μ).bind λt μ1=>(eD xs μ1).bind λts μ2=>.ok (t::ts) μ2
@[simp] theorem ph(μ:af):eD [] μ=.ok [] μ:=(rfl)
@[simp] theorem kG(x:SV)(xs:List SV)(μ:af):eD (x::xs) μ=(frz x μ).bind λt μ1=>(eD xs μ1).bind λts μ2=>.ok (t::ts) μ2:=(rfl)
theorem ER(x:Sum T Nat)(μ:af)(c:T)(μ':af):tQ x μ≠.err c μ':=by
 cases x with
 | inl t=>intro h;cases h
 | inr k =>
  unfold tQ
  cases q:μ[k]? with
  | none=>simp[q]
  | some p=>simp[q]
theorem va:∀(xs:List (Sum T Nat)) (μ:af) (c:T) (μ':af),jN xs μ≠.err c μ'
 | [],μ,c,μ'=>by intro h;cases h
 | x::xs,μ,c,μ'=>by
  unfold jN
  cases q:tQ x μ with
  | err d μ1=>exact absurd q (ER x μ d μ1)
  | bad=>intro h;cases h
  | ok t μ1 =>
   rw[R.aT]
   cases q2:jN xs μ1 with
   | err d μ2=>exact absurd q2 (va xs μ1 d μ2)
   | bad=>intro h;cases h
   | ok ts μ2=>intro h;cases h
theorem pj(x:SV)(μ:af)(c:T)(μ':af):frz x μ≠.err c μ':=by
 cases x with
 | val t=>intro h;cases h
 | cel k =>
  unfold frz
  cases q:μ[k]? with
  | none=>simp[q]
  | some p=>simp[q]
 | box xs =>
  show (jN xs μ).bind _≠_
  cases q:jN xs μ with
  | err d μ1=>exact absurd q (va xs μ d μ1)
  | bad=>intro h;cases h
  | ok t μ1=>intro h;cases h
theorem oT:∀(xs:List SV) (μ:af) (c:T) (μ':af),eD xs μ≠.err c μ'
 | [],μ,c,μ'=>by intro h;cases h
 | x::xs,μ,c,μ'=>by
  rw[kG]
  cases q:frz x μ with
  | err d μ1=>exact absurd q (pj x μ d μ1)
  | bad=>intro h;cases h
  | ok t μ1 =>
   rw[R.aT]
   cases q2:eD xs μ1 with
   | err d μ2=>exact absurd q2 (oT xs μ1 d μ2)
   | bad=>intro h;cases h
   | ok ts μ2=>intro h;cases h
def slot(e:Slots)(i:Nat):Option SV:=match e[i]? with
 | some (some sv)=>some sv
 | _=>none
@[simp] theorem bV(x:SV)(e:Slots):slot (some x::e) 0=some x:=(rfl)
@[simp] theorem zX(e:Slots):slot (none::e) 0=none:=(rfl)
@[simp] theorem bW(x:Option SV)(e:Slots)(i:Nat):slot (x::e) (i+1)=slot e i:=(rfl)
def aa(i:Nat):D:=λe μ=>R.lift (slot e i) μ
@[simp] theorem dZ(i:Nat)(e:Slots)(μ:af):aa i e μ=R.lift (slot e i) μ:=(rfl)
def dC(t:T):D:=λ_ μ=>.ok (.val t) μ
@[simp] theorem pq(t:T)(e:Slots)(μ:af):dC t e μ=.ok (.val t) μ:=(rfl)
def ap1(f:T→Option T):Option T→Option SV
 | some t=>(f t).map SV.val
 | none=>none
def ap2(f:T→T→Option T):Option T→Option T→Option SV
 | some t,some u=>(f t u).map SV.val
 | _,_=>none
@[simp] theorem pv(f:T→Option T)(t:T):ap1 f (some t)=(f t).map SV.val:=(rfl)
@[simp] theorem jZ(f:T→T→Option T)(t u:T):ap2 f (some t) (some u)=(f t u).map SV.val:=(rfl)
theorem lg{f:T→Option T}{o:Option T}{w:SV}(h:ap1 f o=some w):∃t u,o=some t∧f t=some u∧w=.val u:=by
 cases o with
 | none=>cases h
 | some t =>
  obtain⟨u,h1,rfl⟩:=Option.map_eq_some_iff.mp (show (f t).map SV.val=some w from h)
  exact⟨t,u,rfl,h1,rfl⟩
theorem pw{f:T→T→Option T}{o p:Option T}{w:SV}(h:ap2 f o p=some w):∃t u v,o=some t∧p=some u∧f t u=some v∧w=.val v:=by
 cases o with
 | none=>cases p<;>cases h
 | some t =>
  cases p with
  | none=>cases h
  | some u =>
   obtain⟨v,h1,rfl⟩:=Option.map_eq_some_iff.mp (show (f t u).map SV.val=some w from h)
   exact⟨t,u,v,rfl,rfl,h1,rfl⟩
def dUn(f:T→Option T)(a:D):D:=λe μ=>(a e μ).bind λx μ1=>R.lift (ap1 f (rd μ1 x)) μ1
@[simp] theorem tR(f:T→Option T)(a:D)(e:Slots)(μ:af):dUn f a e μ=(a e μ).bind λx μ1=>R.lift (ap1 f (rd μ1 x)) μ1:=(rfl)
def ah(f:T→T→Option T)(a b:D):D:=λe μ=>(a e μ).bind λx μ1=>(b e μ1).bind λy μ2=>R.lift (ap2 f (rd μ2 x) (rd μ2 y)) μ2
@[simp] theorem ia(f:T→T→Option T)(a b:D)(e:Slots)(μ:af):ah f a b e μ=(a e μ).bind λx μ1=>(b e μ1).bind λy μ2=>R.lift (ap2 f (rd μ2 x) (rd μ2 y)) μ2:=(rfl)
def asB:SV→Option Bool
 | .val (.bl b)=>some b
 | _=>none
@[simp] theorem gI(b:Bool):asB (.val (.bl b))=some b:=(rfl)
def j0(a b:D):D:=λe μ=>(a e μ).bind λx μ1=>(R.lift (asB x) μ1).bind λk μ1=>if k=true then b e μ1 else .ok (.val (.bl false)) μ1
def dOr(a b:D):D:=λe μ=>(a e μ).bind λx μ1=>(R.lift (asB x) μ1).bind λk μ1=>if k=true then .ok (.val (.bl true)) μ1 else b e μ1
def h8(a:D):D:=λe μ=>(a e μ).bind λx μ1=>(R.lift (asB x) μ1).bind λk μ1=>.ok (.val (.bl (!k))) μ1
def ES(c a b:D):D:=λe μ=>(c e μ).bind λx μ1=>(R.lift (asB x) μ1).bind λk μ1=>if k=true then a e μ1 else b e μ1
@[simp] theorem ET(a b:D)(e:Slots)(μ:af):j0 a b e μ=(a e μ).bind λx μ1=>(R.lift (asB x) μ1).bind λk μ1=>if k=true then b e μ1 else .ok (.val (.bl false)) μ1:=(rfl)
@[simp] theorem ID(a b:D)(e:Slots)(μ:af):dOr a b e μ=(a e μ).bind λx μ1=>(R.lift (asB x) μ1).bind λk μ1=>if k=true then .ok (.val (.bl true)) μ1 else b e μ1:=(rfl)
@[simp] theorem EU(a:D)(e:Slots)(μ:af):h8 a e μ=(a e μ).bind λx μ1=>(R.lift (asB x) μ1).bind λk μ1=>.ok (.val (.bl (!k))) μ1:=(rfl)
@[simp] theorem EV(c a b:D)(e:Slots)(μ:af):ES c a b e μ=(c e μ).bind λx μ1=>(R.lift (asB x) μ1).bind λk μ1=>if k=true then a e μ1 else b e μ1:=(rfl)
def dN:List D→Slots→af→R (List SV)
 | [],_,μ=>.ok [] μ
 | d::ds,e,μ=>(d e μ).bind λx μ1=>(dN ds e μ1).bind λxs μ2=>.ok (x::xs) μ2
@[simp] theorem dR(e:Slots)(μ:af):dN [] e μ=.ok [] μ:=(rfl)
@[simp] theorem bh(d:D)(ds:List D)(e:Slots)(μ:af):dN (d::ds) e μ=(d e μ).bind λx μ1=>(dN ds e μ1).bind λxs μ2=>.ok (x::xs) μ2:=(rfl)
def eW(ds:List D):D:=λe μ=>(dN ds e μ).bind λxs μ1=>(eD xs μ1).bind λts μ2=>.ok (.val (.tup ts)) μ2
def bC(ds:List D):D:=λe μ=>(dN ds e μ).bind λxs μ1=>(eD xs μ1).bind λts μ2=>.ok (.val (.lst ts)) μ2
@[simp] theorem EW(ds:List D)(e:Slots)(μ:af):eW ds e μ=(dN ds e μ).bind λxs μ1=>(eD xs μ1).bind λts μ2=>.ok (.val (.tup ts)) μ2:=(rfl)
@[simp] theorem tS(ds:List D)(e:Slots)(μ:af):bC ds e μ=(dN ds e μ).bind λxs μ1=>(eD xs μ1).bind λts μ2=>.ok (.val (.lst ts)) μ2:=(rfl)
def rz(f:T→T→Option T)(ds:List D)(b:D):D:=λe μ=>(dN ds e μ).bind λxs μ1=>(eD xs μ1).bind λts μ2=>(b e μ2).bind λy μ3=>R.lift (ap1 (f (.lst ts)) (rd μ3 y)) μ3
@[simp] theorem Mz(f:T→T→Option T)(ds:List D)(b:D)(e:Slots)(μ:af):rz f ds b e μ=(dN ds e μ).bind λxs μ1=>(eD xs μ1).bind λts μ2=>(b e μ2).bind λy μ3=>R.lift (ap1 (f (.lst ts)) (rd μ3 y)) μ3:=(rfl)
def boxed:List SV→Option (List (Sum T Nat))
 | []=>some []
 | .val t::xs=>(boxed xs).map λys=>.inl t::ys
 | .cel k::xs=>(boxed xs).map λys=>.inr k::ys
 | .box _::_=>none
def mh(ds:List D):D:=λe μ=>(dN ds e μ).bind λxs μ1=>(R.lift (boxed xs) μ1).bind λys μ1=>.ok (.box ys) μ1
@[simp] theorem tT(ds:List D)(e:Slots)(μ:af):mh ds e μ=(dN ds e μ).bind λxs μ1=>(R.lift (boxed xs) μ1).bind λys μ1=>.ok (.box ys) μ1:=(rfl)
def cell(t:T)(μ:af):R SV:=.ok (.cel μ.length) (μ++[(true,t)])
def bQ(d:D):D:=λe μ=>(d e μ).bind λx μ1=>match x with
 | .val t=>cell t μ1
 | .cel k=>.ok (.cel k) μ1
 | .box xs=>.ok (.box xs) μ1
def wN(x:SV)(μ:af):R SV:=match x with
 | .val t=>cell t μ
 | .cel k=>.ok (.cel k) μ
 | .box xs=>.ok (.box xs) μ
@[simp] theorem pA(t:T)(μ:af):wN (.val t) μ=.ok (.cel μ.length) (μ++[(true,t)]):=(rfl)
@[simp] theorem pB(d:D)(e:Slots)(μ:af):bQ d e μ=(d e μ).bind wN:=by
 unfold bQ wN;rfl
noncomputable abbrev FN := List SV → af → R SV
def aw(f:FN)(ds:List D):D:=λe μ=>(dN ds e μ).bind λxs μ1=>f xs μ1
@[simp] theorem fZ(f:FN)(ds:List D)(e:Slots)(μ:af):aw f ds e μ=(dN ds e μ).bind λxs μ1=>f xs μ1:=(rfl)
def cal(f:FN):FN:=λxs μ=>(f xs μ).calm
@[simp] theorem j3(f:FN)(xs:List SV)(μ:af):cal f xs μ=(f xs μ).calm:=(rfl)
def ixN(n:Nat)(i:Int):Option Nat:=if 0≤i then (if i<n then some i.toNat else none) else if -(n:Int)≤i then some (i+n).toNat else none
def atI{α:Type}(xs:List α)(i:Int):Option α:=(ixN xs.length i).bind λj=>xs[j]?
def sIx(n d:Nat):Option Int→Nat
 | none=>d
 | some v=>if v<0 then (v+(n:Int)).toNat else min v.toNat n
def bg:T→T→Option T
 | .int i,.int j=>some (.int (i+j))
 | .str x,.str y=>if x.length+y.length≤szL then some (.str (x++y)) else none
 | .tup xs,.tup ys=>if xs.length+ys.length≤szL then some (.tup (xs++ys)) else none
 | .lst xs,.lst ys=>if xs.length+ys.length≤szL then some (.lst (xs++ys)) else none
 | _,_=>none
theorem vb(xs ys:List T)(h:xs.length+ys.length≤szL):bg (.tup xs) (.tup ys)=some (.tup (xs++ys)):=if_pos h
theorem iO(xs ys:List T)(h:xs.length+ys.length≤szL):bg (.lst xs) (.lst ys)=some (.lst (xs++ys)):=if_pos h
@[simp] theorem vc(i j:Int):bg (.int i) (.int j)=some (.int (i+j)):=(rfl)
def rA:T→T→Option T
 | .lst xs,.int k=>if -(2 ^ 63)≤k∧k<2 ^ 63∧xs.length*k.toNat≤szL then some (.lst (List.replicate k.toNat xs).flatten) else none
 | _,_=>none
def vd:T→T→Option T
 | .int i,.int j=>some (.int (i-j))
 | _,_=>none
@[simp] theorem BK(i j:Int):vd (.int i) (.int j)=some (.int (i-j)):=(rfl)
def IE:T→T→Option T
 | .int i,.int j=>if (-(2 ^ 64)<i∧i<2 ^ 64)∨(-(2 ^ 64)<j∧j<2 ^ 64) then some (.int (i*j)) else none
 | _,_=>none
def bX(t u:T):Option T:=IE t u
theorem IF(i j:Int)(h1:-18446744073709551616<i)(h2:i<18446744073709551616):IE (.int i) (.int j)=some (.int (i*j)):=if_pos (.inl ⟨h1,h2⟩)
theorem IG(i j:Int)(h1:-18446744073709551616<j)(h2:j<18446744073709551616):IE (.int i) (.int j)=some (.int (i*j)):=if_pos (.inr ⟨h1,h2⟩)
@[simp] theorem kH(i j:Int)(h1:-18446744073709551616<i)(h2:i<18446744073709551616):bX (.int i) (.int j)=some (.int (i*j)):=IF i j h1 h2
@[simp] theorem yF(i j:Int)(h1:-18446744073709551616<j)(h2:j<18446744073709551616):bX (.int i) (.int j)=some (.int (i*j)):=IG i j h1 h2
def aY:T→T→Option T
 | .int i,.int j=>if 0<j then some (.int (i%j)) else none
 | _,_=>none
@[simp] theorem mi(i j:Int)(h:0<j):aY (.int i) (.int j)=some (.int (i%j)):=if_pos h
def du:T→T→Option T
 | .int i,.int j=>if 0<j∧j<1073741824 then some (.int (i / j)) else none
 | _,_=>none
@[simp] theorem BL(i j:Int)(h:0<j)(h2:j<1073741824):du (.int i) (.int j)=some (.int (i / j)):=if_pos ⟨h,h2⟩
def EX:T→Option T
 | .int i=>some (.int (-i))
 | _=>none
@[simp] theorem BM(i:Int):EX (.int i)=some (.int (-i)):=(rfl)
def fLt:T→T→Option T
 | .int i,.int j=>some (.bl (decide (i<j)))
 | _,_=>none
def fLe:T→T→Option T
 | .int i,.int j=>some (.bl (decide (i≤j)))
 | _,_=>none
def fGt:T→T→Option T
 | .int i,.int j=>some (.bl (decide (j<i)))
 | _,_=>none
def fGe:T→T→Option T
 | .int i,.int j=>some (.bl (decide (j≤i)))
 | _,_=>none
@[simp] theorem EY(i j:Int):fLt (.int i) (.int j)=some (.bl (decide (i<j))):=(rfl)
@[simp] theorem EZ(i j:Int):fLe (.int i) (.int j)=some (.bl (decide (i≤j))):=(rfl)
@[simp] theorem E1(i j:Int):fGt (.int i) (.int j)=some (.bl (decide (j<i))):=(rfl)
@[simp] theorem E2(i j:Int):fGe (.int i) (.int j)=some (.bl (decide (j≤i))):=(rfl)
mutual
def eqT:T→T→Bool
 | .non,.non=>true
 | .bl a,.bl b=>a==b
 | .bl a,.int b=>(if a then 1 else 0)==b
 | .int a,.bl b=>a==(if b then 1 else 0)
 | .int a,.int b=>a==b
 | .str a,.str b=>a==b
 | .lst a,.lst b=>iA a b
 | .tup a,.tup b=>iA a b
 | _,_=>false
def iA:List T→List T→Bool
 | [],[]=>true
 | a::as,b::bs=>eqT a b && iA as bs
 | [],_::_=>false
 | _::_,[]=>false
end
mutual
def okT:Nat→T→Bool
 | _,.non=>true
 | _,.bl _=>true
 | _,.int _=>true
 | _,.str x=>x.cps.all (·<1114112)
 | 0,.lst _=>false
 | n+1,.lst ts=>gJ n ts
 | 0,.tup _=>false
 | n+1,.tup ts=>gJ n ts
 | _,.dct _=>false
 | _,.exc _ _=>false
 | _,.dtt _ _=>false
def gJ:Nat→List T→Bool
 | _,[]=>true
 | n,t::ts=>okT n t && gJ n ts
end
def fEq(t u:T):Option T:=match t,u with
 | .str a,.str b=>some (.bl (a==b))
 | t,u=>if okT 100 t=true∧okT 100 u=true then some (.bl (eqT t u)) else none
def fNe(t u:T):Option T:=match t,u with
 | .str a,.str b=>some (.bl (!(a==b)))
 | t,u=>if okT 100 t=true∧okT 100 u=true then some (.bl (!eqT t u)) else none
@[simp] theorem MA(n:Nat)(i:Int):okT n (.int i)=true:=by unfold okT;rfl
@[simp] theorem ic(n:Nat)(ts:List T):okT (n+1) (.lst ts)=gJ n ts:=by rw[okT]
@[simp] theorem E3(n:Nat)(ts:List T):okT (n+1) (.tup ts)=gJ n ts:=by rw[okT]
@[simp] theorem mj(n:Nat):gJ n []=true:=by rw[gJ]
@[simp] theorem m7(n:Nat)(t:T)(ts:List T):gJ n (t::ts)=(okT n t && gJ n ts):=by rw[gJ]
theorem pC(n:Nat):∀ts:List T,gJ n ts=true↔∀t∈ts,okT n t=true
 | []=>by simp
 | t::ts=>by simp[pC n ts]
@[simp] theorem zY(n:Nat)(ns:List Int):gJ n (ns.map T.int)=true:=by
 rw[pC]
 intro t ht
 obtain⟨i,_,rfl⟩:=List.mem_map.mp ht
 simp
@[simp] theorem yG(i j:Int):eqT (.int i) (.int j)=(i==j):=by rw[eqT]
@[simp] theorem MB(i j:Str):eqT (.str i) (.str j)=(i==j):=by rw[eqT]
@[simp] theorem Nl(i j:Bool):eqT (.bl i) (.bl j)=(i==j):=by rw[eqT]
@[simp] theorem MC:eqT .non .non=true:=by rw[eqT]
@[simp] theorem E4(i j:List T):eqT (.lst i) (.lst j)=iA i j:=by rw[eqT]
@[simp] theorem E5(i j:List T):eqT (.tup i) (.tup j)=iA i j:=by rw[eqT]
@[simp] theorem K5:iA [] []=true:=by rw[iA]
@[simp] theorem J2(a b:T)(as bs:List T):iA (a::as) (b::bs)=(eqT a b && iA as bs):=by rw[iA]
@[simp] theorem MD(b:T)(bs:List T):iA [] (b::bs)=false:=by rw[iA]
@[simp] theorem ME(b:T)(bs:List T):iA (b::bs) []=false:=by rw[iA]
mutual
theorem pD:∀(n:Nat) (t:T),okT n t=true→eqT t t=true
 | n,.non,_=>by simp
 | n,.bl b,_=>by simp
 | n,.int i,_=>by simp
 | n,.str x,_=>by simp
 | 0,.lst ts,h=>by rw[okT] at h;cases h
 | n+1,.lst ts,h=>by simp only[E4];exact m8 n ts (by simpa using h)
 | 0,.tup ts,h=>by rw[okT] at h;cases h
 | n+1,.tup ts,h=>by simp only[E5];exact m8 n ts (by simpa using h)
 | n,.dct _,h=>by unfold okT at h;cases h
 | n,.exc _ _,h=>by unfold okT at h;cases h
 | n,.dtt _ _,h=>by unfold okT at h;cases h
theorem m8:∀(n:Nat) (ts:List T),gJ n ts=true→iA ts ts=true
 | n,[],_=>by simp
 | n,t::ts,h=>by
  simp only[m7,Bool.and_eq_true] at h
  simp[pD n t h.1,m8 n ts h.2]
end
theorem m9:∀(xs ys:List Int),iA (xs.map T.int) (ys.map T.int)=(xs==ys)
 | [],[]=>by simp
 | [],y::ys=>by simp
 | x::xs,[]=>by simp
 | x::xs,y::ys=>by simp[m9 xs ys]
theorem tU{t u:T}(h1:okT 100 t=true)(h2:okT 100 u=true):fEq t u=some (.bl (eqT t u)):=by
 unfold fEq
 split
 ·simp
 ·rw[if_pos ⟨h1,h2⟩]
theorem wO{t u:T}(h1:okT 100 t=true)(h2:okT 100 u=true):fNe t u=some (.bl (!eqT t u)):=by
 unfold fNe
 split
 ·simp
 ·rw[if_pos ⟨h1,h2⟩]
@[simp] theorem E6(i j:Int):fEq (.int i) (.int j)=some (.bl (i==j)):=by rw[tU (by simp) (by simp)];simp
@[simp] theorem yH(i j:Int):fNe (.int i) (.int j)=some (.bl (!(i==j))):=by rw[wO (by simp) (by simp)];simp
@[simp] theorem E7(i j:Str):fEq (.str i) (.str j)=some (.bl (i==j)):=(rfl)
@[simp] theorem E8(i j:Str):fNe (.str i) (.str j)=some (.bl (!(i==j))):=(rfl)
@[simp] theorem pE(xs ys:List Int):fEq (.lst (xs.map T.int)) (.lst (ys.map T.int))=some (.bl (xs==ys)):=by rw[tU (by simp) (by simp)];simp[m9]
@[simp] theorem ve(xs ys:List Int):fNe (.lst (xs.map T.int)) (.lst (ys.map T.int))=some (.bl (!(xs==ys))):=by rw[wO (by simp) (by simp)];simp[m9]
def pF:T→Option T
 | .non=>some (.bl true)
 | _=>some (.bl false)
def E9:T→T→Option T
 | .lst xs,.int i=>atI xs i
 | .tup xs,.int i=>atI xs i
 | .str x,.int i=>if x.length≤szL then (atI x.cps.toList i).map λc=>.str ⟨#[c]⟩ else none
 | _,_=>none
@[simp] theorem K6(xs:List T)(i:Int):E9 (.lst xs) (.int i)=atI xs i:=(rfl)
def pick:Sum T Nat→SV
 | .inl t=>.val t
 | .inr k=>.cel k
def m_(μ:af)(x:SV)(u:T):Option SV:=match x,u with
 | .box xs,.int i=>(atI xs i).map pick
 | .box _,_=>none
 | x,u=>ap1 (λt=>E9 t u) (rd μ x)
def aU(a b:D):D:=λe μ=>(a e μ).bind λx μ1=>(b e μ1).bind λy μ2=>R.lift ((rd μ2 y).bind λu=>m_ μ2 x u) μ2
@[simp] theorem jb(a b:D)(e:Slots)(μ:af):aU a b e μ=(a e μ).bind λx μ1=>(b e μ1).bind λy μ2=>R.lift ((rd μ2 y).bind λu=>m_ μ2 x u) μ2:=(rfl)
@[simp] theorem ml(μ:af)(xs:List T)(i:Int):m_ μ (.val (.lst xs)) (.int i)=(atI xs i).map SV.val:=(rfl)
@[simp] theorem mm(μ:af)(xs:List T)(i:Int):m_ μ (.val (.tup xs)) (.int i)=(atI xs i).map SV.val:=(rfl)
@[simp] theorem BN(μ:af)(xs:List (Sum T Nat))(i:Int):m_ μ (.box xs) (.int i)=(atI xs i).map pick:=(rfl)
@[simp] theorem BO(μ:af)(k:Nat)(u:T):m_ μ (.cel k) u=ap1 (λt=>E9 t u) (rd μ (.cel k)):=(rfl)
def IH:T→Option T
 | .lst xs=>some (.int xs.length)
 | .tup xs=>some (.int xs.length)
 | .str x=>if x.length≤szL then some (.int x.length) else none
 | .dct kts=>some (.int kts.length)
 | _=>none
def pG(μ:af):SV→Option T
 | .box xs=>some (.int xs.length)
 | x=>(rd μ x).bind IH
def pH(a:D):D:=λe μ=>(a e μ).bind λx μ1=>R.lift ((pG μ1 x).map SV.val) μ1
@[simp] theorem yI(a:D)(e:Slots)(μ:af):pH a e μ=(a e μ).bind λx μ1=>R.lift ((pG μ1 x).map SV.val) μ1:=(rfl)
@[simp] theorem BP(μ:af)(xs:List T):pG μ (.val (.lst xs))=some (.int xs.length):=(rfl)
@[simp] theorem BQ(μ:af)(xs:List T):pG μ (.val (.tup xs))=some (.int xs.length):=(rfl)
@[simp] theorem BR(μ:af)(k:Nat):pG μ (.cel k)=(rd μ (.cel k)).bind IH:=(rfl)
inductive Kd where
 | int|bool|str|list|tuple|dict
def isK:Kd→T→Bool
 | .int,.int _=>true
 | .int,.bl _=>true
 | .bool,.bl _=>true
 | .str,.str _=>true
 | .list,.lst _=>true
 | .tuple,.tup _=>true
 | .dict,.dct _=>true
 | .dict,.dtt _ _=>true
 | _,_=>false
def isT(k:Kd):T→Option T
 | .exc _ _=>none
 | .dtt _ _=>none
 | t=>some (.bl (isK k t))
def isS(k:Kd)(μ:af):SV→Option T
 | .box _=>some (.bl (isK k (.tup [])))
 | x=>(rd μ x).bind (isT k)
@[simp] theorem MF(k:Kd)(i:List T):isT k (.lst i)=some (.bl (isK k (.lst i))):=(rfl)
def dIs(k:Kd)(a:D):D:=λe μ=>(a e μ).bind λx μ1=>R.lift ((isS k μ1 x).map SV.val) μ1
@[simp] theorem wQ(k:Kd)(a:D)(e:Slots)(μ:af):dIs k a e μ=(a e μ).bind λx μ1=>R.lift ((isS k μ1 x).map SV.val) μ1:=(rfl)
@[simp] theorem yJ(k:Kd)(μ:af)(j:Nat):isS k μ (.cel j)=(rd μ (.cel j)).bind (isT k):=(rfl)
def aD:T→Option T
 | .lst xs=>some (.tup xs)
 | .tup xs=>some (.tup xs)
 | _=>none
@[simp] theorem gK(xs:List T):aD (.lst xs)=some (.tup xs):=(rfl)
@[simp] theorem wR(xs:List T):aD (.tup xs)=some (.tup xs):=(rfl)
def iP:T→Option T
 | .lst xs=>some (.lst xs)
 | .tup xs=>some (.lst xs)
 | _=>none
def vf:Key→T
 | .inl i=>.int i
 | .inr x=>.str x
def yK:T→Option T
 | .dct kts=>some (.lst (kts.map λp=>vf p.1))
 | _=>none
@[simp] theorem zZ(xs:List T):iP (.lst xs)=some (.lst xs):=(rfl)
def wU{α:Type}(xs:List α)(lo hi:Option Int):List α:=(xs.drop (sIx xs.length 0 lo)).take (sIx xs.length xs.length hi-sIx xs.length 0 lo)
def j4:T→Option Int
 | .int i=>some i
 | _=>none
@[simp] theorem nc(i:Int):j4 (.int i)=some i:=(rfl)
def dD:List T→Option (List Int)
 | []=>some []
 | t::ts=>(j4 t).bind λi=>(dD ts).map λis=>i::is
theorem jc(ns:List Int):dD (ns.map T.int)=some ns:=by
 induction ns with
 | nil=>rfl
 | cons n ns ih=>simp[dD,ih]
def QW:T→Option T
 | .lst xs=>(dD xs).map λis=>.int is.sum
 | _=>none
def mn:List T→Option (List Bool)
 | []=>some []
 | .bl b::ts=>(mn ts).map λbs=>b::bs
 | _::_=>none
theorem sx(bs:List Bool):mn (bs.map T.bl)=some bs:=by
 induction bs with
 | nil=>rfl
 | cons n ns ih=>simp[mn,ih]
def BS:T→Option T
 | .lst xs=>(mn xs).map λbs=>.bl (bs.all id)
 | _=>none
def BU:T→Option T
 | .lst xs=>(mn xs).map λbs=>.bl (bs.any id)
 | _=>none
@[simp] theorem BV(bs:List Bool):BS (.lst (bs.map T.bl))=some (.bl (bs.all id)):=by simp[BS,sx]
@[simp] theorem BW(bs:List Bool):BU (.lst (bs.map T.bl))=some (.bl (bs.any id)):=by simp[BU,sx]
def BX:T→Option T
 | .non=>some (.bl false)
 | _=>some (.bl true)
@[simp] theorem J3:pF .non=some (.bl true):=(rfl)
@[simp] theorem z_(i:Int):pF (.int i)=some (.bl false):=(rfl)
@[simp] theorem wV:BX .non=some (.bl false):=(rfl)
@[simp] theorem wW(i:Int):BX (.int i)=some (.bl true):=(rfl)
def II(t:T)(lo hi:Option Int):Option T:=match t with
 | .lst xs=>some (.lst (wU xs lo hi))
 | .tup xs=>if sIx xs.length 0 lo=0∧sIx xs.length xs.length hi=xs.length then none else some (.tup (wU xs lo hi))
 | _=>none
def wX(o:Option D)(e:Slots)(μ:af):R (Option Int):=match o with
 | none=>.ok none μ
 | some d=>(d e μ).bind λx μ1=>(R.lift ((rd μ1 x).bind j4) μ1).bind λi μ1=>.ok (some i) μ1
@[simp] theorem sy(e:Slots)(μ:af):wX none e μ=.ok none μ:=(rfl)
@[simp] theorem sA(d:D)(e:Slots)(μ:af):wX (some d) e μ=(d e μ).bind λx μ1=>(R.lift ((rd μ1 x).bind j4) μ1).bind λi μ1=>.ok (some i) μ1:=(rfl)
def BY(a:D)(lo hi:Option D):D:=λe μ=>(a e μ).bind λx μ1=>(wX lo e μ1).bind λl μ2=>(wX hi e μ2).bind λh μ3=>R.lift (ap1 (λt=>II t l h) (rd μ3 x)) μ3
@[simp] theorem yL(a:D)(lo hi:Option D)(e:Slots)(μ:af):BY a lo hi e μ=(a e μ).bind λx μ1=>(wX lo e μ1).bind λl μ2=>(wX hi e μ2).bind λh μ3=>R.lift (ap1 (λt=>II t l h) (rd μ3 x)) μ3:=(rfl)
inductive RS where
 | nx (e:Slots) (μ:af)|rt (x:SV) (μ:af)|bk (e:Slots) (μ:af)|ct (e:Slots) (μ:af)|err (c:T) (e:Slots) (μ:af)|bad
noncomputable abbrev DS := Slots → af → RS
def R.toS{α:Type}(x:R α)(e:Slots)(f:α→af→RS):RS:=match x with
 | .ok a μ=>f a μ
 | .err c μ=>.err c e μ
 | .bad=>.bad
@[simp] theorem R.b5{α:Type}(a:α)(e:Slots)(μ:af)(f:α→af→RS):(R.ok a μ).toS e f=f a μ:=(rfl)
@[simp] theorem R.E_{α:Type}(c:T)(e:Slots)(μ:af)(f:α→af→RS):(R.err c μ:R α).toS e f=.err c e μ:=(rfl)
def RS.seq(r:RS)(f:Slots→af→RS):RS:=match r with
 | .nx e μ=>f e μ
 | r=>r
@[simp] theorem RS.gL(e:Slots)(μ:af)(f:Slots→af→RS):(RS.nx e μ).seq f=f e μ:=(rfl)
@[simp] theorem RS.IJ(x:SV)(μ:af)(f:Slots→af→RS):(RS.rt x μ).seq f=.rt x μ:=(rfl)
def b7:DS:=λe μ=>.nx e μ
def ar(a b:DS):DS:=λe μ=>(a e μ).seq b
def K7(d:D):DS:=λe μ=>(d e μ).toS e λ_ μ1=>.nx e μ1
def az(i:Nat)(d:D):DS:=λe μ=>(d e μ).toS e λx μ1=>.nx (e.set i (some x)) μ1
def aM(d:D):DS:=λe μ=>(d e μ).toS e λx μ1=>.rt x μ1
def sIf(c:D)(a b:DS):DS:=λe μ=>(c e μ).toS e λx μ1=>(R.lift (asB x) μ1).toS e λk μ1=>if k=true then a e μ1 else b e μ1
def IK:DS:=λ_ _=>.bad
@[simp] theorem Fb(e:Slots)(μ:af):b7 e μ=.nx e μ:=(rfl)
@[simp] theorem ie(a b:DS)(e:Slots)(μ:af):ar a b e μ=(a e μ).seq b:=(rfl)
@[simp] theorem BZ(d:D)(e:Slots)(μ:af):K7 d e μ=(d e μ).toS e λ_ μ1=>.nx e μ1:=(rfl)
@[simp] theorem jd(i:Nat)(d:D)(e:Slots)(μ:af):az i d e μ=(d e μ).toS e λx μ1=>.nx (e.set i (some x)) μ1:=(rfl)
@[simp] theorem tV(d:D)(e:Slots)(μ:af):aM d e μ=(d e μ).toS e λx μ1=>.rt x μ1:=(rfl)
@[simp] theorem wY(c:D)(a b:DS)(e:Slots)(μ:af):sIf c a b e μ=(c e μ).toS e λx μ1=>(R.lift (asB x) μ1).toS e λk μ1=>if k=true then a e μ1 else b e μ1:=(rfl)
def appendAt(x:SV)(t:T)(μ:af):Option af:=match x with
 | .cel k=>match μ[k]? with
  | some (true,.lst ts)=>if ts.length<szL then some (μ.set k (true,.lst (ts++[t]))) else none
  | _=>none
 | _=>none
def mq(x:SV)(μ:af):Option Unit:=match x with
 | .cel k=>match μ[k]? with
  | some (_,.lst _)=>some ()
  | _=>none
 | _=>none
theorem yM{μ:af}{k:Nat}{b:Bool}{ts:List T}(h:μ[k]?=some (b,.lst ts)):mq (.cel k) μ=some ():=by unfold mq;simp only[h]
def aW(o d:D):DS:=λe μ=>(o e μ).toS e λx μ0=>(R.lift (mq x μ0) μ0).toS e λ_ μ0=>(d e μ0).toS e λy μ1=>(frz y μ1).toS e λt μ2=>(R.lift (appendAt x t μ2) μ2).toS e λμ3 _=>.nx e μ3
@[simp] theorem pI(o d:D)(e:Slots)(μ:af):aW o d e μ=(o e μ).toS e λx μ0=>(R.lift (mq x μ0) μ0).toS e λ_ μ0=>(d e μ0).toS e λy μ1=>(frz y μ1).toS e λt μ2=>(R.lift (appendAt x t μ2) μ2).toS e λμ3 _=>.nx e μ3:=(rfl)
def setAt(x:SV)(k:T)(t:T)(μ:af):Option af:=match x,k with
 | .cel c,.int i=>match μ[c]? with
  | some (true,.lst ts)=>(ixN ts.length i).map λj=>μ.set c (true,.lst (ts.set j t))
  | _=>none
 | _,_=>none
def dj(i:Nat)(dk dv:D):DS:=λe μ=>(dv e μ).toS e λy μ1=>(R.lift (slot e i) μ1).toS e λx μ1=>(dk e μ1).toS e λz μ2=>(R.lift (rd μ2 z) μ2).toS e λk μ2 =>
 (frz y μ2).toS e λt μ3=>(R.lift (setAt x k t μ3) μ3).toS e λμ4 _=>.nx e μ4
@[simp] theorem nY(i:Nat)(dk dv:D)(e:Slots)(μ:af):dj i dk dv e μ=(dv e μ).toS e λy μ1=>(R.lift (slot e i) μ1).toS e λx μ1=>(dk e μ1).toS e λz μ2=>(R.lift (rd μ2 z) μ2).toS e λk μ2 =>
 (frz y μ2).toS e λt μ3=>(R.lift (setAt x k t μ3) μ3).toS e λμ4 _=>.nx e μ4:=(rfl)
structure Wk where
 items:List T
 same:af→Prop
noncomputable abbrev DI := Slots → af → R Wk
def bx:T→Option (List T)
 | .lst ts=>some ts
 | .tup ts=>some ts
 | _=>none
@[simp] theorem eh(ts:List T):bx (.lst ts)=some ts:=(rfl)
@[simp] theorem je(ts:List T):bx (.tup ts)=some ts:=(rfl)
def bo(d:D):DI:=λe μ=>(d e μ).bind λx μ1=>(R.lift ((rd μ1 x).bind bx) μ1).bind λts μ1=>.ok ⟨ts,λμ'=>rd μ' x=rd μ1 x⟩ μ1
@[simp] theorem oU(d:D)(e:Slots)(μ:af):bo d e μ=(d e μ).bind λx μ1=>(R.lift ((rd μ1 x).bind bx) μ1).bind λts μ1=>.ok ⟨ts,λμ'=>rd μ' x=rd μ1 x⟩ μ1:=(rfl)
def bK(lo:Int):Nat→List T
 | 0=>[]
 | n+1=>.int lo::bK (lo+1) n
def eE(j:Int):Bool:=decide (-(2 ^ 62)≤j) && decide (j<2 ^ 62)
@[simp] theorem d7{j:Int}(h0:0≤j)(h1:j≤1000000):eE j=true:=by
 unfold eE
 rw[decide_eq_true (by lia),decide_eq_true (by lia)];rfl
theorem Aa{j:Int}(h:eE j=true):-(2 ^ 62)≤j∧j<2 ^ 62:=by
 unfold eE at h
 simp only[Bool.and_eq_true,decide_eq_true_eq] at h
 exact h
def aI(d:D):DI:=λe μ=>(d e μ).bind λx μ1=>(R.lift ((rd μ1 x).bind j4) μ1).bind λj μ1=>if eE j=true then .ok ⟨bK 0 j.toNat,λ_=>True⟩ μ1 else .bad
def Fc(d d':D):DI:=λe μ=>(d e μ).bind λx μ1=>(d' e μ1).bind λy μ2=>(R.lift ((rd μ2 x).bind j4) μ2).bind λi μ2=>(R.lift ((rd μ2 y).bind j4) μ2).bind λj μ2 =>
 if (eE i && eE j)=true then .ok ⟨bK i (j-i).toNat,λ_=>True⟩ μ2 else .bad
@[simp] theorem pJ(d:D)(e:Slots)(μ:af):aI d e μ=(d e μ).bind λx μ1=>(R.lift ((rd μ1 x).bind j4) μ1).bind λj μ1=>if eE j=true then .ok ⟨bK 0 j.toNat,λ_=>True⟩ μ1 else .bad:=(rfl)
@[simp] theorem wZ(d d':D)(e:Slots)(μ:af):Fc d d' e μ=(d e μ).bind λx μ1=>(d' e μ1).bind λy μ2=>(R.lift ((rd μ2 x).bind j4) μ2).bind λi μ2=>(R.lift ((rd μ2 y).bind j4) μ2).bind λj μ2 =>
 if (eE i && eE j)=true then .ok ⟨bK i (j-i).toNat,λ_=>True⟩ μ2 else .bad:=(rfl)
def kO:List T→List T→List T
 | t::ts,u::us=>.tup [t,u]::kO ts us
 | _,_=>[]
def Fd(d d':D):DI:=λe μ=>(d e μ).bind λx μ1=>(d' e μ1).bind λy μ2=>(R.lift ((rd μ2 x).bind bx) μ2).bind λts μ2=>(R.lift ((rd μ2 y).bind bx) μ2).bind λus μ2 =>
 .ok ⟨kO ts us,λμ'=>rd μ' x=rd μ2 x∧rd μ' y=rd μ2 y⟩ μ2
@[simp] theorem Fe(d d':D)(e:Slots)(μ:af):Fd d d' e μ=(d e μ).bind λx μ1=>(d' e μ1).bind λy μ2=>(R.lift ((rd μ2 x).bind bx) μ2).bind λts μ2=>(R.lift ((rd μ2 y).bind bx) μ2).bind λus μ2 =>
 .ok ⟨kO ts us,λμ'=>rd μ' x=rd μ2 x∧rd μ' y=rd μ2 y⟩ μ2:=(rfl)
noncomputable abbrev BD := T → Slots → Option Slots
def ao(i:Nat):BD:=λt e=>some (e.set i (some (.val t)))
def h_(is:List Nat):BD:=λt e=>match t with
 | .tup ts=>if ts.length=is.length then some ((is.zip ts).foldl (λe p=>e.set p.1 (some (.val p.2))) e) else none
 | _=>none
@[simp] theorem j5(i:Nat)(t:T)(e:Slots):ao i t e=some (e.set i (some (.val t))):=(rfl)
@[simp] theorem gF(i j:Nat)(t u:T)(e:Slots):h_ [i,j] (.tup [t,u]) e=some ((e.set i (some (.val t))).set j (some (.val u))):=(rfl)
open Classical in
def forL(same:af→Prop)(b:BD)(body:DS):List T→Slots→af→RS
 | [],e,μ=>if same μ then .nx e μ else .bad
 | t::ts,e,μ=>if same μ then
   match b t e with
   | none=>.bad
   | some e1=>match body e1 μ with
    | .nx e2 μ2=>forL same b body ts e2 μ2
    | .ct e2 μ2=>forL same b body ts e2 μ2
    | .bk e2 μ2=>.nx e2 μ2
    | r=>r
  else .bad
def bF(it:DI)(b:BD)(body:DS):DS:=λe μ=>(it e μ).toS e λW μ1=>forL W.same b body W.items e μ1
@[simp] theorem jf(it:DI)(b:BD)(body:DS)(e:Slots)(μ:af):bF it b body e μ=(it e μ).toS e λW μ1=>forL W.same b body W.items e μ1:=(rfl)
def cH(c:D)(body:DS):Nat→Slots→af→RS
 | 0,_,_=>.bad
 | n+1,e,μ=>(c e μ).toS e λx μ1=>(R.lift (asB x) μ1).toS e λk μ1=>if k=true then
   match body e μ1 with
   | .nx e2 μ2=>cH c body n e2 μ2
   | .ct e2 μ2=>cH c body n e2 μ2
   | .bk e2 μ2=>.nx e2 μ2
   | r=>r
  else .nx e μ1
open Classical in
def lh(c:D)(body:DS):DS:=λe μ=>if h:∃n,cH c body n e μ≠.bad then cH c body h.choose e μ else .bad
open Classical in
def bY(same:af→Prop)(b:BD)(c:D)(d:D)(e:Slots):List T→af→R (List T)
 | [],μ=>if same μ then .ok [] μ else .bad
 | t::ts,μ=>if same μ then
   match b t e with
   | none=>.bad
   | some e1=>(c e1 μ).calm.bind λx μ1=>(R.lift (asB x) μ1).bind λk μ1 =>
    if k=true then (d e1 μ1).calm.bind λy μ2=>(frz y μ2).bind λu μ3=>(bY same b c d e ts μ3).bind λus μ4=>.ok (u::us) μ4
    else bY same b c d e ts μ1
  else .bad
def ini(mp:List (Option Nat))(e:Slots):Slots:=mp.map λo=>o.bind λj=>slot e j
def aJ(it:DI)(mp:List (Option Nat))(b:BD)(c:D)(d:D):D:=λe μ=>(it e μ).bind λW μ1=>(bY W.same b c d (ini mp e) W.items μ1).calm.bind λus μ2 =>
 if W.items.length≤szL then .ok (.val (.lst us)) μ2 else .bad
@[simp] theorem B0(it:DI)(mp:List (Option Nat))(b:BD)(c:D)(d:D)(e:Slots)(μ:af):aJ it mp b c d e μ=(it e μ).bind λW μ1=>(bY W.same b c d (ini mp e) W.items μ1).calm.bind λus μ2 =>
 if W.items.length≤szL then .ok (.val (.lst us)) μ2 else .bad:=(rfl)
@[simp] theorem Ff(e:Slots):ini [] e=[]:=(rfl)
@[simp] theorem B1(mp:List (Option Nat))(e:Slots):ini (none::mp) e=none::ini mp e:=(rfl)
@[simp] theorem B2(j:Nat)(mp:List (Option Nat))(e:Slots):ini (some j::mp) e=slot e j::ini mp e:=(rfl)
def gc(n:Nat)(x:SV)(μ:af):R SV:=match x with
 | .val t=>.ok (.val t) (μ.take n)
 | .cel k=>if k<n then .ok (.cel k) (μ.take n) else match μ[k]? with
  | some c=>.ok (.cel n) (μ.take n++[c])
  | none=>.bad
 | .box _=>.bad
def starts(m:Nat)(xs:List SV):Slots:=xs.map some++List.replicate (m-xs.length) none
def RS.B3(n:Nat):RS→R SV
 | .rt x μ'=>gc n x μ'
 | .nx _ μ'=>gc n (.val .non) μ'
 | .err c _ μ'=>.err c (μ'.take n)
 | _=>.bad
def fnD(m:Nat)(body:DS):FN:=λxs μ=>(body (starts m xs) μ).B3 μ.length
def ice(n:Nat)(x:SV)(μ:af):R SV:=(frz x μ).bind λt μ1=>.ok (.val t) (μ1.take n)
def RS.rB(n:Nat):RS→R SV
 | .rt x μ'=>ice n x μ'
 | .nx _ μ'=>ice n (.val .non) μ'
 | .err c _ μ'=>.err c (μ'.take n)
 | _=>.bad
def fnV(m:Nat)(body:DS):FN:=λxs μ=>(body (starts m xs) μ).rB μ.length
def RS.tW:RS→R SV
 | .rt x μ'=>.ok x μ'
 | .nx _ μ'=>.ok (.val .non) μ'
 | .err c _ μ'=>.err c μ'
 | _=>.bad
def fnK(m:Nat)(body:DS):FN:=λxs μ=>(body (starts m xs) μ).tW
@[simp] theorem yN(n:Nat)(x:SV)(μ:af):(RS.rt x μ).rB n=ice n x μ:=(rfl)
@[simp] theorem Fg(n:Nat)(x:SV)(μ:af):(RS.rt x μ).B3 n=gc n x μ:=(rfl)
@[simp] theorem yO(x:SV)(μ:af):(RS.rt x μ).tW=.ok x μ:=(rfl)
@[simp] theorem fM(m:Nat)(body:DS)(xs:List SV)(μ:af):fnV m body xs μ=(body (starts m xs) μ).rB μ.length:=(rfl)
@[simp] theorem lj(m:Nat)(body:DS)(xs:List SV)(μ:af):fnD m body xs μ=(body (starts m xs) μ).B3 μ.length:=(rfl)
@[simp] theorem j6(m:Nat)(body:DS)(xs:List SV)(μ:af):fnK m body xs μ=(body (starts m xs) μ).tW:=(rfl)
end Fw
namespace Fw
open PySem L2
def ExcAt(K:PySem.W.Frag)(a:Addr)(c:Str)(t:Option Str)(h:Heap):Prop:=∃C,PySem.W.nsIn K mainGlobals c=some (some (.ref C))∧IC a C h
def kvT(kts:List (List Int×Bool)):List (List Key×V):=kts.map λp=>(p.1.map Sum.inl,V.bl p.2)
section
variable(K:PySem.W.Frag)(F:Hp)
mutual
def Rep:T→V→Prop
 | .non,v=>v=.non
 | .bl b,v=>v=.bl b
 | .int i,v=>v=.int i
 | .str x,v=>v=.str x
 | .lst ts,v=>∃a vs,v=.ref a∧SqL K F a vs∧ay ts vs
 | .tup ts,v=>∃a vs,v=.ref a∧SqT K F a vs∧ay ts vs
 | .dct kts,v=>∃a kvs,v=.ref a∧F a=some (.dK kvs)∧bj kts kvs
 | .exc c t,v=>∃a,v=.ref a∧F a=some (.ext (ExcAt K a c t))
 | .dtt fz kts,v=>∃a,v=.ref a∧((fz=false∧F a=some (.dT (kvT kts)))∨(fz=true∧∃o,F a=some (.frz o (.dT (kvT kts)))))
def ay:List T→List V→Prop
 | [],vs=>vs=[]
 | t::ts,vs=>∃v vs',vs=v::vs'∧Rep t v∧ay ts vs'
def bj:List (Key×T)→List (Key×V)→Prop
 | [],kvs=>kvs=[]
 | (k,t)::kts,kvs=>∃v ng,kvs=(k,v)::ng∧Rep t v∧bj kts ng
end
end
theorem aH.gy{K:PySem.W.Frag}{H H':Hp}{a:Addr}{xs:List V}(e:aH H H')(h:SqT K H a xs):SqT K H' a xs:=e _ _ h
section
variable{K:PySem.W.Frag}{F F' H H':Hp}
mutual
theorem Rep.mono(s:aH F F'):∀(t:T) (v:V),Rep K F t v→Rep K F' t v
 | .non,v,h=>by rw[Rep] at h ⊢;exact h
 | .bl b,v,h=>by rw[Rep] at h ⊢;exact h
 | .int i,v,h=>by rw[Rep] at h ⊢;exact h
 | .str x,v,h=>by rw[Rep] at h ⊢;exact h
 | .lst ts,v,h=>by
  rw[Rep] at h ⊢
  obtain⟨a,vs,e,q,r⟩:=h
  exact⟨a,vs,e,s.seq q,ay.mono s ts vs r⟩
 | .tup ts,v,h=>by
  rw[Rep] at h ⊢
  obtain⟨a,vs,e,q,r⟩:=h
  exact⟨a,vs,e,aH.gy s q,ay.mono s ts vs r⟩
 | .dct kts,v,h=>by
  rw[Rep] at h ⊢
  obtain⟨a,vs,e,q,r⟩:=h
  exact⟨a,vs,e,s _ _ q,bj.mono s kts vs r⟩
 | .exc c t,v,h=>by
  rw[Rep] at h ⊢
  obtain⟨a,e,q⟩:=h
  exact⟨a,e,s _ _ q⟩
 | .dtt fz kts,v,h=>by
  rw[Rep] at h ⊢
  obtain⟨a,e,q⟩:=h
  exact⟨a,e,q.elim (λz=>.inl ⟨z.1,s _ _ z.2⟩) λ⟨z,o,y⟩=>.inr ⟨z,o,s _ _ y⟩⟩
theorem ay.mono(s:aH F F'):∀(ts:List T) (vs:List V),ay K F ts vs→ay K F' ts vs
 | [],vs,h=>by rw[ay] at h ⊢;exact h
 | t::ts,vs,h=>by
  rw[ay] at h ⊢
  obtain⟨v,vs',e,q,r⟩:=h
  exact⟨v,vs',e,Rep.mono s t v q,ay.mono s ts vs' r⟩
theorem bj.mono(s:aH F F'):∀(kts:List (Key×T)) (kvs:List (Key×V)),bj K F kts kvs→bj K F' kts kvs
 | [],vs,h=>by rw[bj] at h ⊢;exact h
 | (k,t)::ts,vs,h=>by
  rw[bj] at h ⊢
  obtain⟨v,vs',e,q,r⟩:=h
  exact⟨v,vs',e,Rep.mono s t v q,bj.mono s ts vs' r⟩
end
theorem Rep.jg{i:Int}{v:V}(h:Rep K F (.int i) v):v=.int i:=by rw[Rep] at h;exact h
theorem Rep.iQ{i:Bool}{v:V}(h:Rep K F (.bl i) v):v=.bl i:=by rw[Rep] at h;exact h
theorem Rep.lq{i:Str}{v:V}(h:Rep K F (.str i) v):v=.str i:=by rw[Rep] at h;exact h
theorem Rep.jh{v:V}(h:Rep K F .non v):v=.non:=by rw[Rep] at h;exact h
theorem Rep.j7(i:Int):Rep K F (.int i) (.int i):=by rw[Rep]
theorem Rep.bl'(i:Bool):Rep K F (.bl i) (.bl i):=by rw[Rep]
theorem Rep.Fh(i:Str):Rep K F (.str i) (.str i):=by rw[Rep]
theorem Rep.K8:Rep K F .non .non:=by rw[Rep]
theorem ay.length:∀{ts:List T}{vs:List V},ay K F ts vs→ts.length=vs.length
 | [],vs,h=>by rw[ay] at h;subst h;rfl
 | t::ts,vs,h=>by
  rw[ay] at h
  obtain⟨v,vs',rfl,_,r⟩:=h
  rw[List.length_cons,List.length_cons,ay.length r]
theorem ay.get:∀{ts:List T}{vs:List V}{i:Nat}{t:T},ay K F ts vs→ts[i]?=some t→∃v,vs[i]?=some v∧Rep K F t v
 | [],_,_,_,_,e=>by simp at e
 | t::ts,vs,0,t',h,e=>by
  rw[ay] at h
  obtain⟨v,vs',rfl,q,_⟩:=h
  simp at e;subst e
  exact⟨v,rfl,q⟩
 | t::ts,vs,i+1,t',h,e=>by
  rw[ay] at h
  obtain⟨v,vs',rfl,q,r⟩:=h
  obtain⟨v',h1,h2⟩:=ay.get (i:=i) r (by simpa using e)
  exact⟨v',by simpa using h1,h2⟩
theorem ay.append:∀{ts us:List T}{vs ws:List V},ay K F ts vs→ay K F us ws→ay K F (ts++us) (vs++ws)
 | [],us,vs,ws,h,g=>by rw[ay] at h;subst h;exact g
 | t::ts,us,vs,ws,h,g=>by
  rw[ay] at h
  obtain⟨v,vs',rfl,q,r⟩:=h
  rw[List.cons_append,List.cons_append,ay]
  exact⟨v,vs'++ws,rfl,q,r.append g⟩
theorem ay.iR:ay K F [] []:=by rw[ay]
theorem ay.eF{t:T}{v:V}{ts:List T}{vs:List V}(q:Rep K F t v)(r:ay K F ts vs):ay K F (t::ts) (v::vs):=by rw[ay];exact⟨v,vs,rfl,q,r⟩
theorem ay.one{t:T}{v:V}(q:Rep K F t v):ay K F [t] [v]:=.eF q .iR
theorem ay.take:∀{ts:List T}{vs:List V} (n:Nat),ay K F ts vs→ay K F (ts.take n) (vs.take n)
 | _,_,0,_=>by simpa using ay.iR
 | [],vs,n+1,h=>by rw[ay] at h;subst h;simpa using ay.iR
 | t::ts,vs,n+1,h=>by
  rw[ay] at h
  obtain⟨v,vs',rfl,q,r⟩:=h
  exact .eF q (r.take n)
theorem ay.drop:∀{ts:List T}{vs:List V} (n:Nat),ay K F ts vs→ay K F (ts.drop n) (vs.drop n)
 | _,_,0,h=>by simpa using h
 | [],vs,n+1,h=>by rw[ay] at h;subst h;simpa using ay.iR
 | t::ts,vs,n+1,h=>by
  rw[ay] at h
  obtain⟨v,vs',rfl,q,r⟩:=h
  exact r.drop n
theorem ay.set:∀{ts:List T}{vs:List V} (i:Nat) {t:T}{v:V},ay K F ts vs→Rep K F t v→ay K F (ts.set i t) (vs.set i v)
 | [],vs,i,_,_,h,_=>by rw[ay] at h;subst h;simpa using ay.iR
 | t::ts,vs,0,t',v',h,g=>by
  rw[ay] at h
  obtain⟨v,vs',rfl,q,r⟩:=h
  exact .eF g r
 | t::ts,vs,i+1,t',v',h,g=>by
  rw[ay] at h
  obtain⟨v,vs',rfl,q,r⟩:=h
  exact .eF q (r.set i g)
theorem ay.flat{ts:List T}{vs:List V}(h:ay K F ts vs):∀k:Nat,ay K F (List.replicate k ts).flatten (List.replicate k vs).flatten
 | 0=>by simpa using ay.iR
 | k+1=>by
  rw[List.replicate_succ,List.replicate_succ,List.flatten_cons,List.flatten_cons]
  exact h.append (h.flat k)
theorem ay.ints:∀{ts:List T}{vs:List V}{is:List Int},ay K F ts vs→dD ts=some is→vs=is.map V.int
 | [],vs,is,h,e=>by rw[ay] at h;subst h;cases e;rfl
 | t::ts,vs,is,h,e=>by
  rw[ay] at h
  obtain⟨v,vs',rfl,q,r⟩:=h
  unfold dD at e
  cases t with
  | int i =>
   cases e2:dD ts with
   | none=>rw[e2] at e;cases e
   | some js =>
    rw[e2] at e
    cases e
    rw[r.ints e2,q.jg]
    rfl
  | _=>cases e
theorem ay.mr:∀(ns:List Int),ay K F (ns.map T.int) (ns.map V.int)
 | []=>.iR
 | n::ns=>.eF (Rep.j7 n) (ay.mr ns)
def Now(K:PySem.W.Frag)(F H:Hp)(v:V):T→Prop
 | .lst ts=>∃a vs,v=.ref a∧SqL K H a vs∧ay K F ts vs
 | .tup ts=>∃a vs,v=.ref a∧SqT K F a vs∧ay K F ts vs
 | .dct kts=>∃a kvs,v=.ref a∧H a=some (.dK kvs)∧bj K F kts kvs
 | .dtt fz kts=>∃a,v=.ref a∧Rd H a (.dT (kvT kts))
 | t=>Rep K F t v
theorem Now.B4(s:aH F H){t:T}{v:V}(h:Rep K F t v):Now K F H v t:=by
 cases t with
 | lst ts=>rw[Rep] at h;obtain⟨a,vs,e,q,r⟩:=h;exact⟨a,vs,e,s.seq q,r⟩
 | tup ts=>rw[Rep] at h;obtain⟨a,vs,e,q,r⟩:=h;exact⟨a,vs,e,q,r⟩
 | dct ts=>rw[Rep] at h;obtain⟨a,vs,e,q,r⟩:=h;exact⟨a,vs,e,s _ _ q,r⟩
 | dtt fz ts=>rw[Rep] at h;obtain⟨a,e,q⟩:=h;exact⟨a,e,q.elim (λz=>.inl (s _ _ z.2)) λ⟨_,o,y⟩=>.inr ⟨o,s _ _ y⟩⟩
 | _=>exact h
theorem Now.int{i:Int}{v:V}(h:Now K F H v (.int i)):v=.int i:=Rep.jg (K:=K) (F:=F) h
theorem Now.bl{i:Bool}{v:V}(h:Now K F H v (.bl i)):v=.bl i:=Rep.iQ (K:=K) (F:=F) h
theorem Now.str{i:Str}{v:V}(h:Now K F H v (.str i)):v=.str i:=Rep.lq (K:=K) (F:=F) h
end
def nh(K:PySem.W.Frag)(F:Hp)(α:List Addr)(v:V):Sum T Nat→Prop
 | .inl t=>Rep K F t v
 | .inr k=>∃a,α[k]?=some a∧v=.ref a
def fk(K:PySem.W.Frag)(F:Hp)(α:List Addr)(v:V):SV→Prop
 | .val t=>Rep K F t v
 | .cel k=>∃a,α[k]?=some a∧v=.ref a
 | .box xs=>∃a vs,v=.ref a∧SqT K F a vs∧Paired (nh K F α) vs xs
def gM(K:PySem.W.Frag)(F H:Hp)(a:Addr):T→Prop
 | .lst ts=>∃vs,H a=some (.lst vs)∧ay K F ts vs
 | .dct kts=>∃kvs,H a=some (.dK kvs)∧bj K F kts kvs
 | .dtt fz kts=>fz=false∧H a=some (.dT (kvT kts))
 | _=>False
def Tps(F H:Hp):Prop:=∀b xs,H b=some (.tup xs)→F b=some (.tup xs)
def NT(o:HO):Prop:=∀xs,o≠.tup xs
theorem Tps.upd{F H:Hp}{p:Addr}{o:HO}(h:Tps F H)(n:NT o):Tps F (upd H p o):=λb xs q=>by
 by_cases e:b=p
 ·subst e;rw[ax] at q;cases q;exact absurd rfl (n _)
 ·rw[aB e] at q;exact h _ _ q
theorem Tps.mono{F F' H:Hp}(h:Tps F H)(s:aH F F'):Tps F' H:=λb xs q=>s _ _ (h b xs q)
theorem gM.nt{K:PySem.W.Frag}{F H:Hp}{a:Addr}{t:T}{o:HO}(c:gM K F (upd H a o) a t):NT o:=λxs e=>by
 subst e
 cases t with
 | lst ts=>obtain⟨vs,h1,_⟩:=c;rw[ax] at h1;cases h1
 | dct ts=>obtain⟨vs,h1,_⟩:=c;rw[ax] at h1;cases h1
 | dtt fz ts=>have h1:=c.2;rw[ax] at h1;cases h1
 | _=>exact c.elim
structure cM(K:PySem.W.Frag)(F:Hp)(α:List Addr)(μ:af)(H:Hp):Prop where
 ext:aH F H
 len:α.length=μ.length
 nd:α.Nodup
 there:∀(k:Nat) (a:Addr),α[k]?=some a→∃o,H a=some o
 cell:∀(k:Nat) (b:Bool) (t:T) (a:Addr),μ[k]?=some (b,t)→α[k]?=some a→(b=true→F a=none∧gM K F H a t)∧(b=false→Rep K F t (.ref a))
 tps:Tps F H
structure Sim(K:PySem.W.Frag)(F:Hp)(α:List Addr)(e:Slots)(μ:af)(σ:St)(H:Hp):Prop where
 st:cM K F α μ H
 sl:∀i x,slot e i=some x→∃v,σ[i]?=some (some v)∧fk K F α v x
 len:e.length=σ.length
section
variable{K:PySem.W.Frag}{F F' F2 H H':Hp}{α α':List Addr}{e:Slots}{μ:af}{σ:St}{v:V}{x:SV}{t:T}
theorem ji{k:Nat}{a:Addr}(p:α <+: α')(h:α[k]?=some a):α'[k]?=some a:=by
 obtain⟨l,rfl⟩:=p
 have hk:k<α.length:=(List.getElem?_eq_some_iff.mp h).1
 rw[List.getElem?_append_left hk];exact h
theorem nh.mono{y:Sum T Nat}(s:aH F F')(p:α <+: α')(h:nh K F α v y):nh K F' α' v y:=by
 cases y with
 | inl t=>exact Rep.mono s t v h
 | inr k=>obtain⟨a,h1,h2⟩:=h;exact⟨a,ji p h1,h2⟩
theorem fk.mono(s:aH F F')(p:α <+: α')(h:fk K F α v x):fk K F' α' v x:=by
 cases x with
 | val t=>exact Rep.mono s t v h
 | cel k=>obtain⟨a,h1,h2⟩:=h;exact⟨a,ji p h1,h2⟩
 | box xs=>obtain⟨a,vs,e,q,r⟩:=h;exact⟨a,vs,e,aH.gy s q,Paired.imp' (λ_ _ z=>nh.mono s p z) r⟩
theorem a_(S:cM K F α μ H)(h:fk K F α v x)(r:rd μ x=some t):Now K F H v t:=by
 cases x with
 | val u=>cases r;exact Now.B4 S.ext h
 | cel k =>
  obtain⟨a,h1,rfl⟩:=h
  cases q:μ[k]? with
  | none=>simp[rd,q] at r
  | some c =>
   obtain⟨b,u⟩:=c
   simp only[rd,q,Option.map_some] at r
   cases r
   obtain⟨c1,c2⟩:=S.cell k b t a q h1
   cases b with
   | false=>exact Now.B4 S.ext (c2 rfl)
   | true =>
    obtain⟨_,c⟩:=c1 rfl
    cases t with
    | lst ts=>obtain⟨vs,g1,g2⟩:=c;exact⟨a,vs,rfl,SqL.of g1,g2⟩
    | dct ts=>obtain⟨vs,g1,g2⟩:=c;exact⟨a,vs,rfl,g1,g2⟩
    | dtt fz ts=>exact⟨a,rfl,.inl c.2⟩
    | _=>exact c.elim
 | box xs=>cases r
def bG(F H F' H':Hp):Prop:=∀b,(F' b=F b∧H' b=H b)∨(H b=none∧F' b=H' b)
theorem bG.refl:bG F H F H:=λ_=>.inl ⟨rfl,rfl⟩
theorem bG.new{p:Addr}{o:HO}(h:H p=none):bG F H (upd F p o) (upd H p o):=λb=>by
 by_cases e:b=p
 ·subst e;exact .inr ⟨h,by rw[ax,ax]⟩
 ·exact .inl ⟨aB e,aB e⟩
theorem bG.same(g:bG F H F' H')(s:aH F H):aH F F':=λb o h=>by
 rcases g b with ⟨e1,e2⟩|⟨e1,e2⟩
 ·rw[e1];exact h
 ·rw[s b o h] at e1;cases e1
theorem bG.ext(g:bG F H F' H')(s:aH F H):aH F' H':=λb o h=>by
 rcases g b with ⟨e1,e2⟩|⟨e1,e2⟩
 ·rw[e2];rw[e1] at h;exact s b o h
 ·rw[← e2];exact h
theorem gM.grow(g:bG F H F' H')(s:aH F H){a:Addr}(h:gM K F H a t):gM K F' H' a t:=by
 have keep:∀{o:HO},H a=some o→H' a=some o:=λ{o} h=>by
  rcases g a with ⟨e1,e2⟩|⟨e1,e2⟩
  ·rw[e2];exact h
  ·rw[h] at e1;cases e1
 cases t with
 | lst ts=>obtain⟨vs,h1,h2⟩:=h;exact⟨vs,keep h1,ay.mono (g.same s) _ _ h2⟩
 | dct ts=>obtain⟨vs,h1,h2⟩:=h;exact⟨vs,keep h1,bj.mono (g.same s) _ _ h2⟩
 | dtt fz ts=>exact⟨h.1,keep h.2⟩
 | _=>exact h.elim
theorem gM.there{a:Addr}(h:gM K F H a t):∃o,H a=some o:=by
 cases t with
 | lst ts=>obtain⟨vs,h1,h2⟩:=h;exact⟨_,h1⟩
 | dct ts=>obtain⟨vs,h1,h2⟩:=h;exact⟨_,h1⟩
 | dtt fz ts=>exact⟨_,h.2⟩
 | _=>exact h.elim
theorem cM.grow(S:cM K F α μ H)(g:bG F H F' H'):cM K F' α μ H' where
 ext:=g.ext S.ext
 len:=S.len
 nd:=S.nd
 there:=λk a h=>by
  obtain⟨o,ho⟩:=S.there k a h
  rcases g a with ⟨e1,e2⟩|⟨e1,e2⟩
  ·exact⟨o,by rw[e2];exact ho⟩
  ·rw[ho] at e1;cases e1
 cell:=λk b t a h1 h2=>by
  obtain⟨c1,c2⟩:=S.cell k b t a h1 h2
  refine⟨λhb=>?_,λhb=>Rep.mono (g.same S.ext) _ _ (c2 hb)⟩
  obtain⟨d1,d2⟩:=c1 hb
  refine⟨?_,d2.grow g S.ext⟩
  obtain⟨o,ho⟩:=d2.there
  rcases g a with ⟨e1,e2⟩|⟨e1,e2⟩
  ·rw[e1];exact d1
  ·rw[ho] at e1;cases e1
 tps:=λb xs q=>by
  rcases g b with ⟨e1,e2⟩|⟨e1,e2⟩
  ·rw[e1];rw[e2] at q;exact S.tps _ _ q
  ·rw[e2];exact q
theorem Sim.grow(S:Sim K F α e μ σ H)(g:bG F H F' H'):Sim K F' α e μ σ H' where
 st:=S.st.grow g
 sl:=λi x h=>by
  obtain⟨v,h1,h2⟩:=S.sl i x h
  exact⟨v,h1,h2.mono (g.same S.st.ext) (List.prefix_refl _)⟩
 len:=S.len
theorem Sim.of(S:Sim K F α e μ σ H){μ':af}(s:aH F F')(p:α <+: α')(S':cM K F' α' μ' H'):Sim K F' α' e μ' σ H' :=
 ⟨S',λi x h=>by
  obtain⟨v,h1,h2⟩:=S.sl i x h
  exact⟨v,h1,h2.mono s p⟩,S.len⟩
theorem mv{k j:Nat}{a:Addr}(n:α.Nodup)(h1:α[k]?=some a)(h2:α[j]?=some a):k=j:=by
 obtain⟨a1,b1⟩:=List.getElem?_eq_some_iff.mp h1
 obtain⟨a2,b2⟩:=List.getElem?_eq_some_iff.mp h2
 exact (List.getElem_inj n).mp (b1.trans b2.symm)
theorem yP{k:Nat}(S:cM K F α μ H)(h:∃a,α[k]?=some a∧v=.ref a){μ':af}(r:frz (.cel k) μ=.ok t μ'):∃F',aH F F'∧(∀b,b∉α→F' b=F b)∧cM K F' α μ' H∧Rep K F' t v:=by
  obtain⟨a,h1,rfl⟩:=h
  unfold frz at r
  cases q:μ[k]? with
  | none=>simp only[q] at r;cases r
  | some c =>
   obtain⟨b,u⟩:=c
   simp only[q] at r
   cases r
   have hk:k<μ.length:=(List.getElem?_eq_some_iff.mp q).1
   obtain⟨c1,c2⟩:=S.cell k b t a q h1
   have main:∃F',aH F F'∧aH F' H∧Rep K F' t (.ref a)∧∀c,c≠a→F' c=F c:=by
    cases b with
    | false=>exact⟨F,aH.refl F,S.ext,c2 rfl,λ_ _=>rfl⟩
    | true =>
     obtain⟨d1,d2⟩:=c1 rfl
     obtain⟨o,ho⟩:=d2.there
     have s1:aH F (upd F a o):=λc z hz=>by
      rw[aB (λq=>by subst q;rw[d1] at hz;cases hz)];exact hz
     refine⟨upd F a o,s1,λc z hz=>?_,?_,λc hc=>aB hc⟩
     ·by_cases e:c=a
      ·subst e;rw[ax] at hz;cases hz;exact ho
      ·rw[aB e] at hz;exact S.ext c z hz
     ·cases t with
      | lst ts=>obtain⟨vs,g1,g2⟩:=d2;rw[g1] at ho;cases ho;rw[Rep];exact⟨a,vs,rfl,SqL.of ax,ay.mono s1 _ _ g2⟩
      | dct ts=>obtain⟨vs,g1,g2⟩:=d2;rw[g1] at ho;cases ho;rw[Rep];exact⟨a,vs,rfl,ax,bj.mono s1 _ _ g2⟩
      | dtt fz ts=>obtain⟨d4,d3⟩:=d2;rw[d3] at ho;cases ho;rw[Rep];exact⟨a,rfl,.inl ⟨d4,ax⟩⟩
      | _=>exact d2.elim
   obtain⟨F',s1,s2,rp,ne⟩:=main
   refine⟨F',s1,λc hc=>ne c λq=>hc (by rw[q];exact List.mem_of_getElem? h1),⟨s2,by rw[List.length_set];exact S.len,S.nd,S.there,λj b' u' a' g1 g2=>?_,S.tps.mono s1⟩,rp⟩
   by_cases e:j=k
   ·subst e
    rw[List.getElem?_set_self hk] at g1
    cases g1
    rw[h1] at g2;cases g2
    exact⟨λz=>(by cases z),λ_=>rp⟩
   ·rw[List.getElem?_set_ne (Ne.symm e)] at g1
    obtain⟨z1,z2⟩:=S.cell j b' u' a' g1 g2
    have na:a'≠a:=λq=>by subst q;exact e (mv S.nd g2 h1)
    refine⟨λhb=>?_,λhb=>Rep.mono s1 _ _ (z2 hb)⟩
    obtain⟨y1,y2⟩:=z1 hb
    refine⟨by rw[ne _ na];exact y1,?_⟩
    cases u' with
    | lst ts=>obtain⟨vs,w1,w2⟩:=y2;exact⟨vs,w1,ay.mono s1 _ _ w2⟩
    | dct ts=>obtain⟨vs,w1,w2⟩:=y2;exact⟨vs,w1,bj.mono s1 _ _ w2⟩
    | dtt fz ts=>exact y2
    | _=>exact y2.elim
theorem Fi(k:Nat)(μ:af):tQ (.inr k) μ=frz (.cel k) μ:=by unfold tQ frz;rfl
theorem vg:∀{xs:List (Sum T Nat)}{vs:List V}{μ μ':af}{F:Hp}{ts:List T},cM K F α μ H→Paired (nh K F α) vs xs→jN xs μ=.ok ts μ'→∃F',aH F F'∧(∀b,b∉α→F' b=F b)∧cM K F' α μ' H∧ay K F' ts vs
 | [],vs,μ,μ',F,ts,S,p,r=>by
  cases p
  cases r
  exact⟨F,aH.refl F,λ_ _=>rfl,S,ay.iR⟩
 | x::xs,vs,μ,μ',F,ts,S,p,r=>by
  cases p with
  | @cons v₁ _ vs₁ _ hv p =>
   unfold jN at r
   obtain⟨t,μ1,r1,r⟩:=R.aR r
   obtain⟨ts',μ2,r2,r⟩:=R.aR r
   cases r
   have one:∃F',aH F F'∧(∀b,b∉α→F' b=F b)∧cM K F' α μ1 H∧Rep K F' t v₁:=by
    cases x with
    | inl u=>cases r1;exact⟨F,aH.refl F,λ_ _=>rfl,S,hv⟩
    | inr k=>rw[Fi] at r1;exact yP S hv r1
   obtain⟨F1,s1,n1,S1,q1⟩:=one
   obtain⟨F2,s2,n2,S2,q2⟩:=vg S1 (Paired.imp' (λ_ _ z=>nh.mono s1 (List.prefix_refl _) z) p) r2
   exact⟨F2,s1.trans s2,λb hb=>(n2 b hb).trans (n1 b hb),S2,.eF (Rep.mono s2 _ _ q1) q2⟩
theorem lr(S:cM K F α μ H)(h:fk K F α v x){μ':af}(r:frz x μ=.ok t μ'):∃F',aH F F'∧(∀b,b∉α→F' b=F b)∧cM K F' α μ' H∧Rep K F' t v:=by
 cases x with
 | val u=>cases r;exact⟨F,aH.refl F,λ_ _=>rfl,S,h⟩
 | cel k=>exact yP S h r
 | box xs =>
  obtain⟨a,vs,rfl,q,p⟩:=h
  unfold frz at r
  obtain⟨ts,μ1,r1,r⟩:=R.aR r
  cases r
  obtain⟨F1,s1,n1,S1,q1⟩:=vg S p r1
  refine⟨F1,s1,n1,S1,?_⟩
  rw[Rep]
  exact⟨a,vs,rfl,aH.gy s1 q,q1⟩
theorem oV:∀{xs:List SV}{vs:List V}{μ μ':af}{F:Hp}{ts:List T},cM K F α μ H→Paired (λv x=>fk K F α v x) vs xs→eD xs μ=.ok ts μ'→∃F',aH F F'∧(∀b,b∉α→F' b=F b)∧cM K F' α μ' H∧ay K F' ts vs
 | [],vs,μ,μ',F,ts,S,p,r=>by
  cases p
  cases r
  exact⟨F,aH.refl F,λ_ _=>rfl,S,ay.iR⟩
 | x::xs,vs,μ,μ',F,ts,S,p,r=>by
  cases p with
  | cons hv p =>
   rw[kG] at r
   obtain⟨t,μ1,r1,r⟩:=R.aR r
   obtain⟨ts',μ2,r2,r⟩:=R.aR r
   cases r
   obtain⟨F1,s1,n1,S1,q1⟩:=lr S hv r1
   obtain⟨F2,s2,n2,S2,q2⟩:=oV S1 (Paired.imp' (λ_ _ z=>fk.mono s1 (List.prefix_refl _) z) p) r2
   exact⟨F2,s1.trans s2,λb hb=>(n2 b hb).trans (n1 b hb),S2,.eF (Rep.mono s2 _ _ q1) q2⟩
theorem pK(S:cM K F α μ H){k:Nat}{a:Addr}{t₀:T}{o:HO}(hk:μ[k]?=some (true,t₀))(ha:α[k]?=some a)(c:gM K F (upd H a o) a t):cM K F α (μ.set k (true,t)) (upd H a o):=by
 have hlt:k<μ.length:=(List.getElem?_eq_some_iff.mp hk).1
 have hF:=((S.cell k true t₀ a hk ha).1 rfl).1
 refine⟨λb z hz=>?_,by rw[List.length_set];exact S.len,S.nd,λj b h=>?_,λj b u a' h1 h2=>?_,S.tps.upd c.nt⟩
 ·rw[aB (λq=>by subst q;rw[hF] at hz;cases hz)];exact S.ext b z hz
 ·by_cases e:b=a
  ·subst e;exact⟨o,ax⟩
  ·rw[aB e];exact S.there j b h
 ·by_cases e:j=k
  ·subst e
   rw[List.getElem?_set_self hlt] at h1
   cases h1
   rw[ha] at h2;cases h2
   exact⟨λ_=>⟨hF,c⟩,λz=>(by cases z)⟩
  ·rw[List.getElem?_set_ne (Ne.symm e)] at h1
   have na:a'≠a:=λq=>by subst q;exact e (mv S.nd h2 ha)
   obtain⟨c1,c2⟩:=S.cell j b u a' h1 h2
   refine⟨λhb=>⟨(c1 hb).1,?_⟩,c2⟩
   have d:=(c1 hb).2
   cases u with
   | lst ts=>obtain⟨vs,w1,w2⟩:=d;exact⟨vs,by rw[aB na];exact w1,w2⟩
   | dct ts=>obtain⟨vs,w1,w2⟩:=d;exact⟨vs,by rw[aB na];exact w1,w2⟩
   | dtt fz ts=>exact⟨d.1,(aB na).trans d.2⟩
   | _=>exact d.elim
theorem cM.take{β:List Addr}(S:cM K F β μ H)(n:Nat):cM K F (β.take n) (μ.take n) H:=by
 have cut:∀{γ:Type}{l:List γ}{k:Nat}{z:γ},(l.take n)[k]?=some z→l[k]?=some z:=λ{γ l k z} h=>by
  rw[List.getElem?_take] at h
  split at h
  ·exact h
  ·cases h
 exact⟨S.ext,by rw[List.length_take,List.length_take,S.len],S.nd.sublist (List.take_sublist _ _),λk a h=>S.there k a (cut h),λk b t a h1 h2=>S.cell k b t a (cut h1) (cut h2),S.tps⟩
theorem K9{μ₀:af}{β:List Addr}{r:SV}{μ':af}(hα:α.length=μ₀.length)(p:α <+: β)(S:cM K F β μ H)(h:fk K F β v x)(hg:gc μ₀.length x μ=.ok r μ') :
  ∃γ,α <+: γ∧(∀b,b∈γ→b∈β)∧cM K F γ μ' H∧fk K F γ v r:=by
 have hn:β.take μ₀.length=α:=by
  rw[← hα]
  obtain⟨l,rfl⟩:=p
  simp
 have hp:α <+: β.take μ₀.length:=by rw[hn];exact List.prefix_refl _
 unfold gc at hg
 cases x with
 | val t =>
  simp only at hg
  cases hg
  exact⟨β.take μ₀.length,hp,λb hb=>List.mem_of_mem_take hb,S.take _,h⟩
 | cel k =>
  obtain⟨a,ha,rfl⟩:=h
  simp only at hg
  by_cases hk:k<μ₀.length
  ·rw[if_pos hk] at hg
   cases hg
   exact⟨β.take μ₀.length,hp,λb hb=>List.mem_of_mem_take hb,S.take _,a,by rw[List.getElem?_take_of_lt hk];exact ha,rfl⟩
  ·rw[if_neg hk] at hg
   cases hc:μ[k]? with
   | none=>rw[hc] at hg;cases hg
   | some c =>
    rw[hc] at hg
    cases hg
    have T:=S.take μ₀.length
    have hl:(β.take μ₀.length).length=μ₀.length:=by rw[hn];exact hα
    have hl2:(μ.take μ₀.length).length=μ₀.length:=by rw[← T.len];exact hl
    have pL:∀{γ:Type}{l:List γ}{z:γ}{j:Nat}{y:γ},l.length=μ₀.length→(l++[z])[j]?=some y→(j<μ₀.length∧l[j]?=some y)∨(j=μ₀.length∧y=z):=λ{γ l z j y} e h=>by
     by_cases hj:j<l.length
     ·rw[List.getElem?_append_left hj] at h;exact .inl ⟨by lia,h⟩
     ·rw[List.getElem?_append_right (by lia)] at h
      by_cases h0:j-l.length=0
      ·rw[h0] at h;simp at h;exact .inr ⟨by lia,h.symm⟩
      ·rw[List.getElem?_eq_none (by simp;lia)] at h;cases h
    have cut:∀{γ:Type}{l:List γ}{j:Nat}{z:γ},(l.take μ₀.length)[j]?=some z→l[j]?=some z:=λ{γ l j z} h=>by
     rw[List.getElem?_take] at h
     split at h
     ·exact h
     ·cases h
    refine⟨β.take μ₀.length++[a],hp.trans (List.prefix_append _ _),λb hb=>(List.mem_append.mp hb).elim (λz=>List.mem_of_mem_take z) λz=>by simp at z;subst z;exact List.mem_of_getElem? ha,⟨S.ext,by rw[List.length_append,List.length_append,hl,hl2];rfl,?_,λj b g=>?_,λj b u a' g1 g2=>?_,S.tps⟩,a,?_,rfl⟩
    ·rw[List.nodup_append]
     refine⟨T.nd,by simp,λb hb b' hb'=>?_⟩
     simp at hb'
     subst hb'
     intro q
     subst q
     obtain⟨j,hj⟩:=List.mem_iff_getElem?.mp hb
     have hj':j<μ₀.length:=by rw[← hl];exact (List.getElem?_eq_some_iff.mp hj).1
     have:=mv S.nd (cut hj) ha
     lia
    ·rcases pL hl g with ⟨_,g'⟩|⟨_,rfl⟩
     ·exact T.there j b g'
     ·exact S.there k _ ha
    ·rcases pL hl g2 with ⟨hj,g'⟩|⟨hj,rfl⟩
     ·rcases pL hl2 g1 with ⟨_,g1'⟩|⟨hj',_⟩
      ·exact T.cell j b u a' g1' g'
      ·lia
     ·rcases pL hl2 g1 with ⟨hj',_⟩|⟨_,e⟩
      ·lia
      ·exact S.cell k b u _ (by rw[hc,e]) ha
    ·rw[List.getElem?_append_right (by lia),hl]
     simp
 | box xs=>cases hg
theorem IL{μ₀:af}{β:List Addr}{r:SV}{μ':af}(hα:α.length=μ₀.length)(p:α <+: β)(S:cM K F β μ H)(h:fk K F β v x)(hg:ice μ₀.length x μ=.ok r μ') :
  ∃F',aH F F'∧(∀b,b∉β→F' b=F b)∧cM K F' α μ' H∧fk K F' α v r:=by
 unfold ice at hg
 obtain⟨t,μ1,h1,hg⟩:=R.aR hg
 cases hg
 obtain⟨F1,s1,n1,S1,q1⟩:=lr S h h1
 have hn:β.take μ₀.length=α:=by
  rw[← hα]
  obtain⟨l,rfl⟩:=p
  simp
 have S2:=S1.take μ₀.length
 rw[hn] at S2
 exact⟨F1,s1,n1,S2,q1⟩
end
structure Ex(F:Hp)(α:List Addr)(H F':Hp)(α':List Addr)(H':Hp):Prop where
 same:aH F F'
 pre:α <+: α'
 fr:∀b o,H b=some o→F b=none→b∉α→H' b=some o∧F' b=none∧b∉α'
section
variable{K:PySem.W.Frag}{F F' F1 F2 H H' H1 H2:Hp}{α α' α1 α2:List Addr}{μ μ':af}
theorem Ex.refl:Ex F α H F α H:=⟨aH.refl F,List.prefix_refl _,λ_ _ h1 h2 h3=>⟨h1,h2,h3⟩⟩
theorem Ex.trans(x:Ex F α H F1 α1 H1)(y:Ex F1 α1 H1 F2 α2 H2):Ex F α H F2 α2 H2 :=
 ⟨x.same.trans y.same,x.pre.trans y.pre,λb o h1 h2 h3=>let ⟨g1,g2,g3⟩:=x.fr b o h1 h2 h3;y.fr b o g1 g2 g3⟩
theorem Ex.nZ(s:aH F F')(n:∀b,b∉α→F' b=F b):Ex F α H F' α H:=⟨s,List.prefix_refl _,λb o h1 h2 h3=>⟨h1,by rw[n b h3];exact h2,h3⟩⟩
theorem bG.ex(g:bG F H F' H')(s:aH F H):Ex F α H F' α H':=⟨g.same s,List.prefix_refl _,λb o h1 h2 h3=>by
 rcases g b with ⟨e1,e2⟩|⟨e1,e2⟩
 ·exact⟨by rw[e2];exact h1,by rw[e1];exact h2,h3⟩
 ·rw[h1] at e1;cases e1⟩
theorem Ex.was{p:Addr}(x:Ex F α H F1 α1 H1)(S:cM K F1 α1 μ H1)(h:H1 p=none):H p=none:=by
 cases q:H p with
 | none=>rfl
 | some o =>
  exfalso
  cases f:F p with
  | some z=>rw[S.ext p z (x.same p z f)] at h;cases h
  | none =>
   by_cases hm:p∈α
   ·obtain⟨k,hk⟩:=List.mem_iff_getElem?.mp hm
    obtain⟨z,hz⟩:=S.there k p (ji x.pre hk)
    rw[hz] at h;cases h
   ·rw[(x.fr p o q f hm).1] at h;cases h
theorem Ex.lay{p:Addr}{o:HO}(h:H p=none):Ex F α H F α (upd H p o):=⟨aH.refl F,List.prefix_refl _,λb z h1 h2 h3=>⟨by rw[aB (λq=>by subst q;rw[h] at h1;cases h1)];exact h1,h2,h3⟩⟩
theorem Ex.put{k:Nat}{a:Addr}{o:HO}(ha:α[k]?=some a):Ex F α H F α (upd H a o):=⟨aH.refl F,List.prefix_refl _,λb z h1 h2 h3=>⟨by rw[aB (λq=>h3 (by rw[q];exact List.mem_of_getElem? ha))];exact h1,h2,h3⟩⟩
theorem Ex.more{p:Addr}(x:Ex F α H F' α' H')(h:H p=none):Ex F α H F' (α'++[p]) H':=⟨x.same,x.pre.trans (List.prefix_append _ _),λb o h1 h2 h3=>by
 obtain⟨g1,g2,g3⟩:=x.fr b o h1 h2 h3
 refine⟨g1,g2,λhm=>?_⟩
 rcases List.mem_append.mp hm with z|z
 ·exact g3 z
 ·simp at z;subst z;rw[h] at h1;cases h1⟩
theorem Ex.ice{p:Addr}{o:HO}(x:Ex F α H F' α' H')(h:H p=none)(h':F' p=none):Ex F α H (upd F' p o) α' H':=⟨x.same.trans λb z hz=>by
  rw[aB (λq=>by subst q;rw[h'] at hz;cases hz)];exact hz,x.pre,λb z h1 h2 h3=>by
 obtain⟨g1,g2,g3⟩:=x.fr b z h1 h2 h3
 exact⟨g1,by rw[aB (λq=>by subst q;rw[h] at h1;cases h1)];exact g2,g3⟩⟩
end
theorem bj.length{K:PySem.W.Frag}{F:Hp}:∀{ts:List (Key×T)}{vs:List (Key×V)},bj K F ts vs→ts.length=vs.length
 | [],vs,h=>by rw[bj] at h;subst h;rfl
 | (k,t)::ts,vs,h=>by
  rw[bj] at h
  obtain⟨v,vs',rfl,_,r⟩:=h
  rw[List.length_cons,List.length_cons,bj.length r]
def R.wp{α:Type}(r:R α)(Q:α→af→Prop)(E:T→af→Prop):Prop:=match r with
 | .ok a μ=>Q a μ
 | .err c μ=>E c μ
 | .bad=>False
theorem R.wp_bind{α β:Type}{r:R α}{f:α→af→R β}{Q:β→af→Prop}{E:T→af→Prop}(h:(r.bind f).wp Q E):r.wp (λa μ=>(f a μ).wp Q E) E:=by
 cases r<;>exact h
theorem R.wp.mono{α:Type}{r:R α}{Q Q':α→af→Prop}{E E':T→af→Prop}(h:r.wp Q E)(hQ:∀a μ,Q a μ→Q' a μ)(hE:∀c μ,E c μ→E' c μ):r.wp Q' E':=by
 cases r with
 | ok a μ=>exact hQ a μ h
 | err c μ=>exact hE c μ h
 | bad=>exact h
theorem R.br{α:Type}{o:Option α}{μ:af}{Q:α→af→Prop}{E:T→af→Prop}(h:(R.lift o μ).wp Q E):∃a,o=some a∧Q a μ:=by
 cases o with
 | none=>exact h.elim
 | some a=>exact⟨a,rfl,h⟩
def IM(K:PySem.W.Frag)(F:Hp)(α:List Addr)(H:Hp)(e:Slots)(σ:St)(Q:VK)(x:SV)(μ:af):Prop :=
 ∀v H' F' α',Ex F α H F' α' H'→Sim K F' α' e μ σ H'→fk K F' α' v x→Q v H'
def K_(X:Cx)(pins:List (Addr×Obj))(σ:St)(H:Hp)(c:T)(ev:Value)(s':Shared):Prop :=
 ∃n C,c=.exc n none∧X.mg n=some (.ref C)∧((X.calm=true∧∃s h' e vs,Inv X pins σ H s∧Heap.MadeExcOf s.heap h' e (.ref C) vs∧ev=.ref e∧s'={ s with heap:=h' }) ∨
  (∃H0 s,Inv X pins σ H0 s∧CX1 X.prog X.w X.stack H0 s (λcv _ H'=>cv=.ref C∧H'=H) ev s')∨(X.calm=true∧∃e t B,ev=.ref e∧Hel X pins σ H e t C B s'))
def fK(X:Cx)(F:Hp)(α:List Addr)(H:Hp)(e:Slots)(c:T)(μ:af):Prop :=
 ∀ev s',(∃pins σ' H' F' α',Ex F α H F' α' H'∧Sim X.K F' α' e μ σ' H'∧K_ X pins σ' H' c ev s')→X.xe ev s'
theorem fK.mono{X:Cx}{F F1 H H1:Hp}{α α1:List Addr}{e:Slots}{c:T}{μ:af}(x:Ex F α H F1 α1 H1)(h:fK X F α H e c μ):fK X F1 α1 H1 e c μ :=
 λev s' ⟨pins,σ',H',F',α',y,S,f⟩=>h ev s' ⟨pins,σ',H',F',α',x.trans y,S,f⟩
def tD(X:Cx)(d:D):TE:=λσ H Q=>∃F α e μ,Sim X.K F α e μ σ H∧(d e μ).wp (IM X.K F α H e σ Q) (fK X F α H e)
def tDT(X:Cx)(d:D):TT:=λσ H Q=>∃F α e μ,Sim X.K F α e μ σ H∧(d e μ).wp (λx μ'=>∃b,x=.val (.bl b) ∧
 ∀H' F' α',Ex F α H F' α' H'→Sim X.K F' α' e μ' σ H'→Q b H') (fK X F α H e)
def tDA(X:Cx)(ds:List D):TA:=λσ H Q=>∃F α e μ,Sim X.K F α e μ σ H∧(dN ds e μ).wp (λxs μ' =>
 ∀vs H' F' α',Ex F α H F' α' H'→Sim X.K F' α' e μ' σ H'→Paired (λv x=>fk X.K F' α' v x) vs xs→Q vs H') (fK X F α H e)
def CE(X:Cx)(e:Expr)(d:D):Prop:=PE X e (tD X d)
def CT(X:Cx)(e:Expr)(d:D):Prop:=PT X e (tDT X d)
def CA(X:Cx)(es:List Expr)(ds:List D):Prop:=PA X es (tDA X ds)
theorem PE.imp{X:Cx}{e:Expr}{t t':TE}(h:PE X e t)(i:∀σ H Q,t' σ H Q→t σ H Q):PE X e t':=λpins s σ H Q I q=>h pins s σ H Q I (i σ H Q q)
theorem PT.imp{X:Cx}{e:Expr}{t t':TT}(h:PT X e t)(i:∀σ H Q,t' σ H Q→t σ H Q):PT X e t':=λpins s σ H Q I q=>h pins s σ H Q I (i σ H Q q)
theorem PA.imp{X:Cx}{e:List Expr}{t t':TA}(h:PA X e t)(i:∀σ H Q,t' σ H Q→t σ H Q):PA X e t':=λpos pins s σ H Q I q=>h pos pins s σ H Q I (i σ H Q q)
theorem PS.imp{X:Cx}{e:Stmt}{t t':TS}(h:PS X e t)(i:∀D σ H,t' D σ H→t D σ H):PS X e t':=λpins s σ H D I q=>h pins s σ H D I (i D σ H q)
theorem PSs.imp{X:Cx}{e:List Stmt}{t t':TS}(h:PSs X e t)(i:∀D σ H,t' D σ H→t D σ H):PSs X e t':=λpins s σ H D I q=>h pins s σ H D I (i D σ H q)
def f_(K:PySem.W.Frag)(r:R2)(f:T→T→Option T):Prop:=∀F H v u t t' w Q,aH F H→Now K F H v t→Now K F H u t'→f t t'=some w →
 (∀v' H' F',bG F H F' H'→Rep K F' w v'→Q v' H')→r v u H Q
def G7(K:PySem.W.Frag)(r:V→Hp→VK→Prop)(f:T→Option T):Prop:=∀F H v t w Q,aH F H→Now K F H v t→f t=some w →
 (∀v' H' F',bG F H F' H'→Rep K F' w v'→Q v' H')→r v H Q
def pM(K:PySem.W.Frag)(r:List V→Hp→VK→Prop)(f:T→Option T):Prop:=∀F H v t w Q,aH F H→Now K F H v t→f t=some w →
 (∀v' H' F',bG F H F' H'→Rep K F' w v'→Q v' H')→r [v] H Q
def vh(K:PySem.W.Frag)(r:List V→Hp→VK→Prop)(f:T→T→Option T):Prop:=∀F H v u t t' w Q,aH F H→Now K F H v t→Now K F H u t'→f t t'=some w →
 (∀v' H' F',bG F H F' H'→Rep K F' w v'→Q v' H')→r [v,u] H Q
def vi(K:PySem.W.Frag)(r:List V→Hp→VK→Prop)(f:T→Option T):Prop:=∀F H v t w Q,aH F H→Now K F H v t→f t=some w →
 (∀p o,H p=none→gM K F (upd H p o) p w→Q (.ref p) (upd H p o))→r [v] H Q
section
variable{X:Cx}{a b c:Expr}{da db dc:D}{pos:Pos}
theorem ae(i:Nat){x:Str}(hN:X.N[i]?=some x:=by rfl)(hv:Vis X.env.scope x:=by first|exact Or.inl rfl|exact Or.inr (Or.inl rfl)|exact Or.inr (Or.inr rfl))(hd:(x==("__debug__":Str))=false:=by decide)
  (hcd:(x==("__classdict__":Str))=false:=by decide):CE X (.Name x pos) (aa i) :=
 PE.imp (tI hN hv hd hcd) λσ H Q ak=>by
  obtain⟨F,α,e,μ,S,h⟩:=ak
  obtain⟨x,h1,h⟩:=R.br h
  obtain⟨v,hv,ok⟩:=S.sl i x h1
  exact⟨v,hv,h v H F α Ex.refl S ok⟩
theorem mw{v:V}{t:T}(h:PE X a (tC v))(r:∀F,Rep X.K F t v):CE X a (dC t) :=
 PE.imp h λσ H Q ⟨F,α,e,μ,S,h⟩=>h v H F α Ex.refl S (r F)
theorem aq{i:Int}{j pos}:CE X (.Constant (.int i) j pos) (dC (.int i)):=mw Hy λ_=>Rep.j7 i
theorem vj{i:Bool}{j pos}:CE X (.Constant (.bool i) j pos) (dC (.bl i)):=mw Kn λ_=>Rep.bl' i
theorem lu{i:Str}{j pos}:CE X (.Constant (.str i) j pos) (dC (.str i)):=mw HA λ_=>Rep.Fh i
theorem B5{j pos}:CE X (.Constant .none j pos) (dC .non):=mw Hz λ_=>Rep.K8
theorem two{r:R2}{f:T→T→Option T}(hs:f_ X.K r f)(σ:St)(H:Hp)(Q:VK)(h:tD X (ah f da db) σ H Q):tOp r (tD X da) (tD X db) σ H Q:=by
 obtain⟨F,α,e,μ,S,h⟩:=h
 refine⟨F,α,e,μ,S,?_⟩
 refine (R.wp_bind h).mono (λx μ1 h v H1 F1 α1 x1 S1 o1=>⟨F1,α1,e,μ1,S1,?_⟩) λ_ _ h=>h
 refine (R.wp_bind h).mono (λy μ2 h v2 H2 F2 α2 x2 S2 o2=>?_) λ_ _ h=>h.mono x1
 obtain⟨w,h9,post⟩:=R.br h
 obtain⟨t,u,w',ht,hu,h,rfl⟩:=pw h9
 exact hs F2 H2 v v2 t u w' Q S2.st.ext (a_ S2.st (o1.mono x2.same x2.pre) ht) (a_ S2.st o2 hu) h λv' H' F' g rp =>
  post v' H' F' α2 (x1.trans (x2.trans (g.ex S2.st.ext))) (S2.grow g) rp
theorem pN{op:Operator}{r:R2}{f:T→T→Option T}(ho:OpR X (binaryOp op) r)(hs:f_ X.K r f)(ha:CE X a da)(hb:CE X b db):CE X (.BinOp a op b pos) (ah f da db) :=
 PE.imp (G3 ho ha hb) (two hs)
theorem B6{op:CmpOp}{r:R2}{f:T→T→Option T}(ho:OpR X (compareOp op) r)(hs:f_ X.K r f)(hm:behindInMarks op b=false)(ha:CE X a da)(hb:CE X b db):CE X (.Compare a [op] [b] pos) (ah f da db) :=
 PE.imp (Ez ho ha hb hm) (two hs)
theorem one{r:V→Hp→VK→Prop}{f:T→Option T}(hs:G7 X.K r f)(σ:St)(H:Hp)(Q:VK)(h:tD X (dUn f da) σ H Q):tUn r (tD X da) σ H Q:=by
 obtain⟨F,α,e,μ,S,h⟩:=h
 refine⟨F,α,e,μ,S,?_⟩
 refine (R.wp_bind h).mono (λx μ1 h v H1 F1 α1 x1 S1 o1=>?_) λ_ _ h=>h
 obtain⟨w,h9,post⟩:=R.br h
 obtain⟨t,w',ht,h,rfl⟩:=lg h9
 exact hs F1 H1 v t w' Q S1.st.ext (a_ S1.st o1 ht) h λv' H' F' g rp =>
  post v' H' F' α1 (x1.trans (g.ex S1.st.ext)) (S1.grow g) rp
theorem La{op:UnaryOp}{r:V→Hp→VK→Prop}{f:T→Option T}(ho:UnR X (unaryOp op) r)(hs:G7 X.K r f)(ha:CE X a da):CE X (.UnaryOp op a pos) (dUn f da):=PE.imp (Kx ho ha) (one hs)
theorem av:CA X [] []:=PA.imp Bn λσ H Q ⟨F,α,e,μ,S,h⟩=>h [] H F α Ex.refl S .nil
theorem ag{es:List Expr}{ds:List D}(ha:CE X a da)(hr:CA X es ds)(hs:starEach (a::es) X.env=(false,eval a X.env)::starEach es X.env:=by rfl):CA X (a::es) (da::ds) :=
 PA.imp (tJ ha hr hs) λσ H Q ak=>by
  obtain⟨F,α,e,μ,S,h⟩:=ak
  rw[bh] at h
  refine⟨F,α,e,μ,S,(R.wp_bind h).mono (λx μ1 h v H1 F1 α1 x1 S1 o1=>⟨F1,α1,e,μ1,S1,?_⟩) λ_ _ h=>h⟩
  refine (R.wp_bind h).mono (λxs μ2 h vs H2 F2 α2 x2 S2 o2=>?_) λ_ _ h=>h.mono x1
  exact h (v::vs) H2 F2 α2 (x1.trans x2) S2 (.cons (o1.mono x2.same x2.pre) o2)
theorem sC:∀{ds:List D}{e:Slots}{μ μ':af}{xs:List SV},dN ds e μ=.ok xs μ'→xs.length=ds.length
 | [],e,μ,μ',xs,h=>by cases h;rfl
 | d::ds,e,μ,μ',xs,h=>by
  rw[bh] at h
  obtain⟨x,μ1,hx,h⟩:=R.aR h
  obtain⟨ys,μ2,hy,h⟩:=R.aR h
  cases h
  rw[List.length_cons,List.length_cons,sC hy]
theorem fu{ds:List D}{e:Slots}{μ:af}{Q:List SV→af→Prop}{E:T→af→Prop}(h:(dN ds e μ).wp Q E):(dN ds e μ).wp (λxs μ'=>xs.length=ds.length∧Q xs μ') E:=by
 cases q:dN ds e μ with
 | ok xs μ'=>rw[q] at h;exact⟨sC q,h⟩
 | err c μ'=>rw[q] at h;exact h
 | bad=>rw[q] at h;exact h
theorem kI{n:Nat}{xs:List SV}{vs:List V}{P:V→SV→Prop}(h:xs.length=n)(o:Paired P vs xs)(hl:n≤1000):vs.length≤sizeLine:=by
 have e1:=o.length
 exact Nat.le_of_lt (zV (by lia))
theorem gN{es:List Expr}{ds:List D}{x1}(h:CA X es ds)(hl:ds.length≤1000:=by decide):CE X (.Tuple es x1 pos) (eW ds) :=
 PE.imp (Bo h) λσ H Q ak=>by
  obtain⟨F,α,e,μ,S,h⟩:=ak
  refine⟨F,α,e,μ,S,(fu (R.wp_bind h)).mono (λxs μ1 df vs H1 F1 α1 x1 S1 o1=>?_) λ_ _ h=>h⟩
  obtain⟨hn,h⟩:=df
  have h:=R.wp_bind h
  cases hz:eD xs μ1 with
  | err c μ2 =>
   exact absurd hz (oT xs μ1 c μ2)
  | bad=>rw[hz] at h;exact h.elim
  | ok ts μ2 =>
   rw[hz] at h
   obtain⟨F2,s2,n2,S2,r2⟩:=oV S1.st o1 hz
   refine⟨kI hn o1 hl,λp hp=>?_⟩
   have g:bG F2 H1 (upd F2 p (.tup vs)) (upd H1 p (.tup vs)):=bG.new hp
   refine h _ _ (upd F2 p (.tup vs)) α1 (x1.trans ((Ex.nZ s2 n2).trans (g.ex S2.ext))) ((S1.of s2 (List.prefix_refl _) S2).grow g) ?_
   show Rep X.K _ (.tup ts) _
   rw[Rep]
   exact⟨p,vs,rfl,SqT.of ax,ay.mono (g.same S2.ext) _ _ r2⟩
theorem pO{K:PySem.W.Frag}{F:Hp}{α:List Addr}:∀{xs:List SV}{vs:List V}{ys:List (Sum T Nat)},Paired (λv x=>fk K F α v x) vs xs→boxed xs=some ys→Paired (nh K F α) vs ys
 | [],vs,ys,p,h=>by cases p;cases h;exact .nil
 | .val t::xs,vs,ys,p,h=>by
  cases p with
  | cons hv p =>
   obtain⟨zs,h1,rfl⟩:=Option.map_eq_some_iff.mp (show (boxed xs).map _=some ys from h)
   exact .cons hv (pO p h1)
 | .cel t::xs,vs,ys,p,h=>by
  cases p with
  | cons hv p =>
   obtain⟨zs,h1,rfl⟩:=Option.map_eq_some_iff.mp (show (boxed xs).map _=some ys from h)
   exact .cons hv (pO p h1)
 | .box t::xs,vs,ys,p,h=>by cases h
theorem ni{es:List Expr}{ds:List D}{x1}(h:CA X es ds)(hl:ds.length≤1000:=by decide):CE X (.Tuple es x1 pos) (mh ds) :=
 PE.imp (Bo h) λσ H Q ak=>by
  obtain⟨F,α,e,μ,S,h⟩:=ak
  refine⟨F,α,e,μ,S,(fu (R.wp_bind h)).mono (λxs μ1 df vs H1 F1 α1 x1 S1 o1=>?_) λ_ _ h=>h⟩
  obtain⟨hn,h⟩:=df
  obtain⟨ys,hy,h⟩:=R.br (R.wp_bind h)
  refine⟨kI hn o1 hl,λp hp=>?_⟩
  have g:bG F1 H1 (upd F1 p (.tup vs)) (upd H1 p (.tup vs)):=bG.new hp
  refine h _ _ (upd F1 p (.tup vs)) α1 (x1.trans (g.ex S1.st.ext)) (S1.grow g) ?_
  exact⟨p,vs,rfl,SqT.of ax,Paired.imp' (λ_ _ z=>nh.mono (g.same S1.st.ext) (List.prefix_refl _) z) (pO o1 hy)⟩
def tF(X:Cx)(d:D):TE:=λσ H Q=>∃F α e μ,Sim X.K F α e μ σ H∧(d e μ).wp (λx μ'=>∃t,x=.val t ∧
 ∀p H' F' α',Ex F α H F' α' H'→Sim X.K F' α' e μ' σ H'→H p=none→F' p=none→p∉α'→gM X.K F' H' p t→Q (.ref p) H') (fK X F α H e)
def CF(X:Cx)(e:Expr)(d:D):Prop:=PE X e (tF X d)∧∀e μ x μ',d e μ=.ok x μ'→∃t,x=.val t
theorem R.B7{P:SV→af→Prop}{r:R SV}{E:T→af→Prop}(h:r.wp P E):r.wp (λx μ=>r=.ok x μ∧P x μ) E:=by
 cases r with
 | ok a μ=>exact⟨rfl,h⟩
 | err c μ=>exact h
 | bad=>exact h
theorem vk{σ:St}{H:Hp}{Q:VK}(h2:∀e μ x μ',da e μ=.ok x μ'→∃t,x=.val t)(h:tD X da σ H Q):tF X da σ H Q:=by
 obtain⟨F,α,e,μ,S,hd⟩:=h
 refine⟨F,α,e,μ,S,(R.B7 hd).mono (λx μ' ak=>?_) λ_ _ h=>h⟩
 obtain⟨hx,post⟩:=ak
 obtain⟨t,rfl⟩:=h2 e μ x μ' hx
 refine⟨t,rfl,λp H1 F1 α1 x1 S1 h0 hp hn c=>?_⟩
 obtain⟨o,ho⟩:=c.there
 have s2:aH F1 (upd F1 p o):=λb z hz=>by
  rw[aB (λq=>by subst q;rw[hp] at hz;cases hz)];exact hz
 have st:cM X.K (upd F1 p o) α1 μ' H1:=by
  refine⟨λb z hz=>?_,S1.st.len,S1.st.nd,S1.st.there,λk b u a' h1 h2=>?_,S1.st.tps.mono s2⟩
  ·by_cases eb:b=p
   ·subst eb;rw[ax] at hz;cases hz;exact ho
   ·rw[aB eb] at hz;exact S1.st.ext b z hz
  ·have na:a'≠p:=λq=>by subst q;exact hn (List.mem_of_getElem? h2)
   obtain⟨c1,c2⟩:=S1.st.cell k b u a' h1 h2
   refine⟨λhb=>⟨by rw[aB na];exact (c1 hb).1,?_⟩,λhb=>Rep.mono s2 _ _ (c2 hb)⟩
   have d2:=(c1 hb).2
   cases u with
   | lst ts=>obtain⟨vs,w1,w2⟩:=d2;exact⟨vs,w1,ay.mono s2 _ _ w2⟩
   | dct ts=>obtain⟨vs,w1,w2⟩:=d2;exact⟨vs,w1,bj.mono s2 _ _ w2⟩
   | dtt fz ts=>exact d2
   | _=>exact d2.elim
 refine post _ _ (upd F1 p o) α1 (x1.ice h0 hp) (S1.of s2 (List.prefix_refl _) st) ?_
 show Rep X.K _ t _
 cases t with
 | lst ts=>obtain⟨vs,w1,w2⟩:=c;rw[w1] at ho;cases ho;rw[Rep];exact⟨p,vs,rfl,SqL.of ax,ay.mono s2 _ _ w2⟩
 | dct ts=>obtain⟨vs,w1,w2⟩:=c;rw[w1] at ho;cases ho;rw[Rep];exact⟨p,vs,rfl,ax,bj.mono s2 _ _ w2⟩
 | dtt fz ts=>obtain⟨d4,d3⟩:=c;rw[d3] at ho;cases ho;rw[Rep];exact⟨p,rfl,.inl ⟨d4,ax⟩⟩
 | _=>exact c.elim
theorem CF.ce(h:CF X a da):CE X a da:=PE.imp h.1 λσ H Q q=>vk h.2 q
theorem Ab{σ:St}{H:Hp}{Q:VK}(h2:∀e μ x μ',da e μ=.ok x μ'→∃t,x=.val t)(h:tD X (bQ da) σ H Q):tF X da σ H Q:=by
 obtain⟨F,α,e,μ,S,hd⟩:=h
 rw[pB] at hd
 refine⟨F,α,e,μ,S,(R.B7 (R.wp_bind hd)).mono (λx μ1 ak=>?_) λ_ _ h=>h⟩
 obtain⟨hx,post⟩:=ak
 obtain⟨t,rfl⟩:=h2 e μ x μ1 hx
 refine⟨t,rfl,λp H1 F1 α1 x1 S1 h0 hp hn c=>?_⟩
 obtain⟨o,ho⟩:=c.there
 have pL:∀{k:Nat}{a:Addr},(α1++[p])[k]?=some a→(k<α1.length∧α1[k]?=some a)∨(k=α1.length∧a=p):=λ{k a} h=>by
  by_cases hk:k<α1.length
  ·rw[List.getElem?_append_left hk] at h;exact .inl ⟨hk,h⟩
  ·rw[List.getElem?_append_right (by lia)] at h
   by_cases h0:k-α1.length=0
   ·rw[h0] at h;simp at h;exact .inr ⟨by lia,h.symm⟩
   ·rw[List.getElem?_eq_none (by simp;lia)] at h;cases h
 have st:cM X.K F1 (α1++[p]) (μ1++[(true,t)]) H1:=by
  refine⟨S1.st.ext,by simp[S1.st.len],?_,λk a h=>?_,λk b u a h1 h2=>?_,S1.st.tps⟩
  ·rw[List.nodup_append]
   refine⟨S1.st.nd,by simp,λa ha b hb=>?_⟩
   simp at hb
   subst hb
   exact λq=>hn (by rw[← q];exact ha)
  ·rcases pL h with ⟨_,g⟩|⟨_,rfl⟩
   ·exact S1.st.there k a g
   ·exact⟨o,ho⟩
  ·rcases pL h2 with ⟨hk,g⟩|⟨hk,rfl⟩
   ·rw[List.getElem?_append_left (by rw[← S1.st.len];exact hk)] at h1
    exact S1.st.cell k b u a h1 g
   ·rw[hk,S1.st.len] at h1
    simp at h1
    obtain⟨rfl,rfl⟩:=h1
    exact⟨λ_=>⟨hp,c⟩,λz=>(by cases z)⟩
 refine post _ _ F1 (α1++[p]) (x1.more h0) (S1.of (aH.refl _) (List.prefix_append _ _) st) ⟨p,?_,rfl⟩
 rw[List.getElem?_append_right (by rw[S1.st.len];exact Nat.le_refl _),S1.st.len]
 simp
theorem CF.cell(h:CF X a da):CE X a (bQ da):=PE.imp h.1 λσ H Q q=>Ab h.2 q
theorem b8{K:PySem.W.Frag}{F H:Hp}{α:List Addr}{μ:af}{p:Addr}(S:cM K F α μ H)(h:H p=none):p∉α:=λhm=>by
 obtain⟨k,hk⟩:=List.mem_iff_getElem?.mp hm
 obtain⟨o,ho⟩:=S.there k p hk
 rw[h] at ho;cases ho
theorem cM.lay{K:PySem.W.Frag}{F H:Hp}{α:List Addr}{μ:af}{p:Addr}{o:HO}(S:cM K F α μ H)(h:H p=none)(n:NT o:=by intro _ h;cases h):cM K F α μ (upd H p o):=by
 have hup:∀c z,H c=some z→(upd H p o) c=some z:=λc z hz=>by
  rw[aB (λq=>by subst q;rw[h] at hz;cases hz)];exact hz
 refine⟨λa z hz=>hup _ _ (S.ext a z hz),S.len,S.nd,λk a g=>?_,λk b u a h1 h2=>?_,S.tps.upd n⟩
 ·obtain⟨z,hz⟩:=S.there k a g
  exact⟨z,hup _ _ hz⟩
 ·obtain⟨c1,c2⟩:=S.cell k b u a h1 h2
  refine⟨λhb=>⟨(c1 hb).1,?_⟩,c2⟩
  have d2:=(c1 hb).2
  cases u with
  | lst ts=>obtain⟨vs,w1,w2⟩:=d2;exact⟨vs,hup _ _ w1,w2⟩
  | dct ts=>obtain⟨vs,w1,w2⟩:=d2;exact⟨vs,hup _ _ w1,w2⟩
  | dtt fz ts=>exact⟨d2.1,hup _ _ d2.2⟩
  | _=>exact d2.elim
theorem cI{es:List Expr}{ds:List D}(h:CA X es ds)(hl:ds.length≤1000:=by decide):CF X (.List es pos) (bC ds) :=
 ⟨PE.imp (Bp h) λσ H Q ak=>by
  obtain⟨F,α,e,μ,S,h⟩:=ak
  refine⟨F,α,e,μ,S,(fu (R.wp_bind h)).mono (λxs μ1 df vs H1 F1 α1 x1 S1 o1=>?_) λ_ _ h=>h⟩
  obtain⟨hn,h⟩:=df
  have h:=R.wp_bind h
  cases hz:eD xs μ1 with
  | err c μ2 =>
   exact absurd hz (oT xs μ1 c μ2)
  | bad=>rw[hz] at h;exact h.elim
  | ok ts μ2 =>
   rw[hz] at h
   obtain⟨t,e1,post⟩:=h
   cases e1
   obtain⟨F2,s2,n2,S2,r2⟩:=oV S1.st o1 hz
   refine⟨kI hn o1 hl,λp hp=>?_⟩
   exact post p _ F2 α1 (x1.trans ((Ex.nZ s2 n2).trans (Ex.lay hp))) (S1.of s2 (List.prefix_refl _) (S2.lay hp)) (x1.was S1.st hp) (S2.ext.free hp) (b8 S2 hp) ⟨vs,ax,r2⟩,
 λe μ x μ' h=>by
  unfold bC at h
  obtain⟨xs,μ1,hx,h⟩:=R.aR h
  obtain⟨ts,μ2,hz,h⟩:=R.aR h
  cases h
  exact⟨_,rfl⟩⟩
theorem yQ{f:T→Option T}{e:Slots}{μ μ':af}{x:SV}(h:dUn f da e μ=.ok x μ'):∃t,x=.val t:=by
 unfold dUn at h
 obtain⟨x,μ1,hx,h⟩:=R.aR h
 obtain⟨h9,rfl⟩:=R.lb h
 obtain⟨t,w',ht,h,rfl⟩:=lg h9
 exact⟨_,rfl⟩
theorem sD{σ:St}{H:Hp}{Q:List V→Hp→Prop}(h:tD X da σ H λv H'=>Q [v] H'):tDA X [da] σ H Q:=by
 obtain⟨F,α,e,μ,S,h⟩:=h
 refine⟨F,α,e,μ,S,?_⟩
 rw[bh]
 cases q:da e μ with
 | err c μ1=>rw[q] at h;exact h
 | bad=>rw[q] at h;exact h
 | ok x μ1 =>
  rw[q] at h
  intro vs H1 F1 α1 x1 S1 o1
  cases o1 with
  | cons o1 o2=>cases o2;exact h _ H1 F1 α1 x1 S1 o1
theorem G8{r:List V→Hp→VK→Prop}{f:T→Option T}(hs:pM X.K r f)(σ:St)(H:Hp)(Q:VK)(h:tD X (dUn f da) σ H Q):tCB r (tDA X [da]) σ H Q :=
 sD (one (r:=λv H Q=>r [v] H Q) hs σ H Q h)
theorem B8{r:List V→Hp→VK→Prop}{f:T→Option T}(hs:vi X.K r f)(σ:St)(H:Hp)(Q:VK)(h:tF X (dUn f da) σ H Q):tCB r (tDA X [da]) σ H Q:=by
 refine sD ?_
 obtain⟨F,α,e,μ,S,h⟩:=h
 refine⟨F,α,e,μ,S,?_⟩
 refine (R.wp_bind h).mono (λx μ1 h v H1 F1 α1 x1 S1 o1=>?_) λ_ _ h=>h
 obtain⟨w,h9,t',e1,post⟩:=R.br h
 obtain⟨t,w',ht,h,e2⟩:=lg h9
 subst e1
 cases e2
 exact hs F1 H1 _ t _ Q S1.st.ext (a_ S1.st o1 ht) h λp o hp c =>
  post p _ F1 α1 (x1.trans (Ex.lay hp)) (S1.of (aH.refl _) (List.prefix_refl _) (S1.st.lay hp c.nt)) (x1.was S1.st hp) (S1.st.ext.free hp) (b8 S1.st hp) c
theorem call2{r:List V→Hp→VK→Prop}{f:T→T→Option T}(hs:vh X.K r f)(σ:St)(H:Hp)(Q:VK)(h:tD X (ah f da db) σ H Q):tCB r (tDA X [da,db]) σ H Q:=by
 obtain⟨F,α,e,μ,S,h⟩:=h
 refine⟨F,α,e,μ,S,?_⟩
 rw[bh]
 cases q:da e μ with
 | err c μ1=>rw[ia,q] at h;exact h
 | bad=>rw[ia,q] at h;exact h
 | ok x μ1 =>
  rw[ia,q] at h
  rw[R.aT] at h ⊢
  rw[bh]
  cases q2:db e μ1 with
  | err c μ2=>rw[q2] at h;exact h
  | bad=>rw[q2] at h;exact h
  | ok y μ2 =>
   rw[q2] at h
   intro vs H1 F1 α1 x1 S1 o1
   cases o1 with
   | cons o1 o2 =>
    cases o2 with
    | cons o2 o3 =>
     cases o3
     obtain⟨w,h9,post⟩:=R.br h
     obtain⟨t,u,w',ht,hu,h,rfl⟩:=pw h9
     exact hs F1 H1 _ _ t u w' Q S1.st.ext (a_ S1.st o1 ht) (a_ S1.st o2 hu) h λv' H' F' g rp =>
      post v' H' F' α1 (x1.trans (g.ex S1.st.ext)) (S1.grow g) rp
end
theorem w5{x:SV}{k:Bool}(h:asB x=some k):x=.val (.bl k):=by
 cases x with
 | val t=>cases t<;>first|(cases h;rfl)|cases h
 | cel j=>cases h
 | box xs=>cases h
theorem kJ{β:Type}{r:R SV}{f:Bool→af→R β}{Q:β→af→Prop}{E:T→af→Prop}(h:(r.bind λy μ1=>(R.lift (asB y) μ1).bind f).wp Q E) :
  r.wp (λx μ=>∃k,x=.val (.bl k)∧(f k μ).wp Q E) E:=(R.wp_bind h).mono (λx μ h=>by
 obtain⟨k,hk,h⟩:=R.br (R.wp_bind h)
 exact⟨k,w5 hk,h⟩) λ_ _ h=>h
def CW(X:Cx)(e:Expr)(d:D):Prop:=PW X e (tDT X d)
theorem PW.imp{X:Cx}{e:Expr}{t t':TT}(h:PW X e t)(i:∀σ H Q,t' σ H Q→t σ H Q):PW X e t':=λwhole pins s σ H Q I q=>h whole pins s σ H Q I (i σ H Q q)
theorem nj{X:Cx}{d:D}{σ:St}{H:Hp}{Q:Bool→Hp→Prop}(h:tDT X d σ H Q):tD X d σ H λx H'=>∃k,x=.bl k∧Q k H':=by
 obtain⟨F,α,e,μ,S,h⟩:=h
 refine⟨F,α,e,μ,S,h.mono (λx μ' ak v H' F' α' y S' o=>?_) λ_ _ h=>h⟩
 obtain⟨b,hb,post⟩:=ak
 subst hb
 exact⟨b,Rep.iQ (K:=X.K) (F:=F') o,post H' F' α' y S'⟩
section
variable{X:Cx}{a b c:Expr}{da db dc:D}{pos:Pos}{rest:List Expr}
theorem eX(h:CE X a da)(he:∀whole,isTrue a X.env whole=(do let v ← whole;standAt a.pos;holding [v] (truthy v)):=by intro _;rfl):CT X a da :=
 PT.imp (HB h he) λσ H Q q=>nj q
theorem lx{op:CmpOp}{r:R2}{f:T→T→Option T}(ho:OpR X (compareOp op) r)(hs:f_ X.K r f)(hm:behindInMarks op b=false)(ha:CE X a da)(hb:CE X b db):CT X (.Compare a [op] [b] pos) (ah f da db) :=
 PT.imp (yt ho ha hb hm) λσ H Q q=>two hs σ H _ (nj q)
theorem pP(h:CT X a da):CT X (.UnaryOp .Not a pos) (h8 da):=PT.imp (HE h) λσ H Q ak=>by
 obtain⟨F,α,e,μ,S,h⟩:=ak
 refine⟨F,α,e,μ,S,(kJ h).mono (λx μ1 ⟨k,hx,b,hb,h⟩=>⟨k,hx,?_⟩) λ_ _ h=>h⟩
 cases hb
 exact h
theorem pQ(h:CT X a da):CW X (.BoolOp .And [a] pos) da:=Es h
theorem kK(h:CT X a da):CW X (.BoolOp .Or [a] pos) da:=HC h
theorem CW.ct(h:CW X a da):CT X a da:=PW.pt h
theorem B9(ha:CT X a da)(hb:CW X (.BoolOp .And (b::rest) pos) db):CW X (.BoolOp .And (a::b::rest) pos) (j0 da db) :=
 PW.imp (HD ha hb) λσ H Q ak=>by
  obtain⟨F,α,e,μ,S,h⟩:=ak
  refine⟨F,α,e,μ,S,(kJ h).mono (λx μ1 ⟨k,hx,h⟩=>⟨k,hx,λH1 F1 α1 x1 S1=>?_⟩) λ_ _ h=>h⟩
  cases k with
  | true =>
   rw[if_pos rfl] at h ⊢
   exact⟨F1,α1,e,μ1,S1,h.mono (λy μ2 ⟨b,hb,h⟩=>⟨b,hb,λH2 F2 α2 x2 S2=>h H2 F2 α2 (x1.trans x2) S2⟩) λ_ _ h=>h.mono x1⟩
  | false =>
   rw[if_neg Bool.false_ne_true] at h ⊢
   obtain⟨b,hb,h⟩:=h
   cases hb
   exact h H1 F1 α1 x1 S1
theorem yR(ha:CT X a da)(hb:CW X (.BoolOp .Or (b::rest) pos) db):CW X (.BoolOp .Or (a::b::rest) pos) (dOr da db) :=
 PW.imp (Ko ha hb) λσ H Q ak=>by
  obtain⟨F,α,e,μ,S,h⟩:=ak
  refine⟨F,α,e,μ,S,(kJ h).mono (λx μ1 ⟨k,hx,h⟩=>⟨k,hx,λH1 F1 α1 x1 S1=>?_⟩) λ_ _ h=>h⟩
  cases k with
  | true =>
   rw[if_pos rfl] at h ⊢
   obtain⟨b,hb,h⟩:=h
   cases hb
   exact h H1 F1 α1 x1 S1
  | false =>
   rw[if_neg Bool.false_ne_true] at h ⊢
   exact⟨F1,α1,e,μ1,S1,h.mono (λy μ2 ⟨b,hb,h⟩=>⟨b,hb,λH2 F2 α2 x2 S2=>h H2 F2 α2 (x1.trans x2) S2⟩) λ_ _ h=>h.mono x1⟩
theorem B_{op}(h:CE X a da):CE X (.BoolOp op [a] pos) da:=HF h
theorem w6(ha:CE X a da)(hb:CE X (.BoolOp .And (b::rest) pos) db):CE X (.BoolOp .And (a::b::rest) pos) (j0 da db) :=
 PE.imp (HG ha hb) λσ H Q ak=>by
  obtain⟨F,α,e,μ,S,h⟩:=ak
  refine⟨F,α,e,μ,S,(kJ h).mono (λx μ1 df v H1 F1 α1 x1 S1 o1=>?_) λ_ _ h=>h⟩
  obtain⟨k,hx,h⟩:=df
  subst hx
  refine⟨k,Rep.iQ (K:=X.K) (F:=F1) o1,?_⟩
  cases k with
  | true =>
   rw[if_pos rfl] at h ⊢
   exact⟨F1,α1,e,μ1,S1,h.mono (λy μ2 h v H2 F2 α2 x2 S2 o2=>h v H2 F2 α2 (x1.trans x2) S2 o2) λ_ _ h=>h.mono x1⟩
  | false =>
   rw[if_neg Bool.false_ne_true] at h ⊢
   exact h _ H1 F1 α1 x1 S1 (Rep.bl' (K:=X.K) (F:=F1) _)
theorem Ca(ha:CE X a da):CE X (.UnaryOp .Not a pos) (h8 da):=PE.imp (HH ha) λσ H Q ak=>by
 obtain⟨F,α,e,μ,S,h⟩:=ak
 refine⟨F,α,e,μ,S,(kJ h).mono (λx μ1 df v H1 F1 α1 x1 S1 o1=>?_) λ_ _ h=>h⟩
 obtain⟨k,hx,h⟩:=df
 subst hx
 refine⟨k,Rep.iQ (K:=X.K) (F:=F1) o1,?_⟩
 exact h _ H1 F1 α1 x1 S1 (Rep.bl' (K:=X.K) (F:=F1) _)
theorem IP(hc:CT X c dc)(ha:CE X a da)(hb:CE X b db):CE X (.IfExp c a b pos) (ES dc da db) :=
 PE.imp (Bd hc ha hb) λσ H Q ak=>by
  obtain⟨F,α,e,μ,S,h⟩:=ak
  refine⟨F,α,e,μ,S,(kJ h).mono (λx μ1 ⟨k,hx,h⟩=>⟨k,hx,λH1 F1 α1 x1 S1=>?_⟩) λ_ _ h=>h⟩
  cases k with
  | true =>
   rw[if_pos rfl] at h ⊢
   exact⟨F1,α1,e,μ1,S1,h.mono (λy μ2 h v H2 F2 α2 x2 S2 o2=>h v H2 F2 α2 (x1.trans x2) S2 o2) λ_ _ h=>h.mono x1⟩
  | false =>
   rw[if_neg Bool.false_ne_true] at h ⊢
   exact⟨F1,α1,e,μ1,S1,h.mono (λy μ2 h v H2 F2 α2 x2 S2 o2=>h v H2 F2 α2 (x1.trans x2) S2 o2) λ_ _ h=>h.mono x1⟩
end
def aQ(X:Cx)(F:Hp)(α:List Addr)(H:Hp)(D:Ends):RS→Prop
 | .nx e' μ'=>∀σ' H' F' α',Ex F α H F' α' H'→Sim X.K F' α' e' μ' σ' H'→D.nx σ' H'
 | .rt x μ'=>∀v H' F' α',Ex F α H F' α' H'→cM X.K F' α' μ' H'→fk X.K F' α' v x→D.rt v H'
 | .bk e' μ'=>∀σ' H' F' α',Ex F α H F' α' H'→Sim X.K F' α' e' μ' σ' H'→D.bk σ' H'
 | .ct e' μ'=>∀σ' H' F' α',Ex F α H F' α' H'→Sim X.K F' α' e' μ' σ' H'→D.ct σ' H'
 | .err c e' μ'=>fK X F α H e' c μ'
 | .bad=>False
theorem aQ.mono{X:Cx}{F F' H H':Hp}{α α':List Addr}{D:Ends}{r:RS}(x:Ex F α H F' α' H')(h:aQ X F α H D r):aQ X F' α' H' D r:=by
 cases r with
 | nx e μ=>exact λσ H F2 α2 x2=>h σ H F2 α2 (x.trans x2)
 | rt y μ=>exact λσ H F2 α2 x2=>h σ H F2 α2 (x.trans x2)
 | bk e μ=>exact λσ H F2 α2 x2=>h σ H F2 α2 (x.trans x2)
 | ct e μ=>exact λσ H F2 α2 x2=>h σ H F2 α2 (x.trans x2)
 | err c e μ=>exact fK.mono x h
 | bad=>exact h
def tDS(X:Cx)(d:DS):TS:=λD σ H=>∃F α e μ,Sim X.K F α e μ σ H∧aQ X F α H D (d e μ)
def CS(X:Cx)(st:Stmt)(d:DS):Prop:=PS X st (tDS X d)
def CSs(X:Cx)(st:List Stmt)(d:DS):Prop:=PSs X st (tDS X d)
theorem aQ.toS{α':Type}{X:Cx}{F H:Hp}{α:List Addr}{D:Ends}{x:R α'}{e:Slots}{f:α'→af→RS}(h:aQ X F α H D (x.toS e f)):x.wp (λa μ=>aQ X F α H D (f a μ)) (fK X F α H e):=by
 cases x with
 | ok a μ=>exact h
 | err c μ=>exact h
 | bad=>exact h
theorem aQ.lift{α':Type}{X:Cx}{F H:Hp}{α:List Addr}{D:Ends}{o:Option α'}{μ:af}{e:Slots}{f:α'→af→RS}(h:aQ X F α H D ((R.lift o μ).toS e f)):∃a,o=some a∧aQ X F α H D (f a μ):=R.br h.toS
theorem aQ.asB{X:Cx}{F H:Hp}{α:List Addr}{D:Ends}{x:R SV}{e:Slots}{f:Bool→af→RS}(h:aQ X F α H D (x.toS e λy μ1=>(R.lift (Fw.asB y) μ1).toS e f)):x.wp (λy μ1=>∃k,y=.val (.bl k)∧aQ X F α H D (f k μ1)) (fK X F α H e) :=
 h.toS.mono (λy μ h=>by
  obtain⟨k,hk,h⟩:=h.lift
  exact⟨k,w5 hk,h⟩) λ_ _ h=>h
section
variable{X:Cx}{st:Stmt}{sts:List Stmt}{d d1 d2:DS}{e:Expr}{de:D}{pos:Pos}
theorem bZ:CSs X [] b7:=PSs.imp Et λD σ H ⟨F,α,e,μ,S,h⟩=>h σ H F α Ex.refl S
theorem au(h:CS X st d):CSs X [st] d:=Eu h
theorem aj(h1:CS X st d1)(h2:CSs X sts d2):CSs X (st::sts) (ar d1 d2):=PSs.imp (Be h1 h2) λD σ H ak=>by
 obtain⟨F,α,e,μ,S,h⟩:=ak
 refine⟨F,α,e,μ,S,?_⟩
 unfold ar at h
 cases q:d1 e μ with
 | nx e1 μ1 =>
  rw[q] at h
  exact λσ' H' F' α' x S'=>⟨F',α',e1,μ1,S',h.mono x⟩
 | rt x μ1=>rw[q] at h;exact h
 | bk e1 μ1=>rw[q] at h;exact h
 | ct e1 μ1=>rw[q] at h;exact h
 | err c e1 μ1=>rw[q] at h;exact h
 | bad=>rw[q] at h;exact h
theorem aO(he:CE X e de):CS X (.Return (some e) pos) (aM de):=PS.imp (HI he) λD σ H ⟨F,α,e,μ,S,h⟩ =>
 ⟨F,α,e,μ,S,(aQ.toS h).mono (λx μ1 h v H1 F1 α1 x1 S1 o1=>h v H1 F1 α1 x1 S1.st o1) λ_ _ h=>h⟩
theorem slot_set{e:Slots}{i j:Nat}{x y:SV}(h:slot (e.set i (some x)) j=some y):(j=i∧y=x)∨slot e j=some y:=by
 unfold slot at h
 by_cases q:i=j
 ·subst q
  by_cases hl:i<e.length
  ·rw[List.getElem?_set_self hl] at h
   cases h
   exact .inl ⟨rfl,rfl⟩
  ·rw[List.getElem?_eq_none (by rw[List.length_set];omega)] at h
   cases h
 ·rw[List.getElem?_set_ne q] at h
  exact .inr h
theorem Sim.set{K:PySem.W.Frag}{F H:Hp}{α:List Addr}{e:Slots}{μ:af}{σ:St}{v:V}{x:SV}{i:Nat}(S:Sim K F α e μ σ H)(o:fk K F α v x):Sim K F α (e.set i (some x)) μ (σ.set i (some v)) H:=by
 refine⟨S.st,λj y h=>?_,by rw[List.length_set,List.length_set,S.len]⟩
 by_cases q:i=j
 ·subst q
  have hl:i<e.length:=by
   unfold slot at h
   by_cases hl:i<e.length
   ·exact hl
   ·rw[List.getElem?_eq_none (by rw[List.length_set];omega)] at h
    cases h
  have hy:y=x:=by
   unfold slot at h
   rw[List.getElem?_set_self hl] at h
   cases h;rfl
  subst hy
  exact⟨v,by rw[List.getElem?_set_self (by rw[← S.len];exact hl)],o⟩
 ·rcases slot_set h with ⟨rfl,_⟩|h
  ·exact absurd rfl q
  ·obtain⟨w,h1,h2⟩:=S.sl j y h
   exact⟨w,by rw[List.getElem?_set_ne q];exact h1,h2⟩
theorem aG(i:Nat){x:Str}{pos':Pos}(hN:X.N.Nodup)(he:CE X e de)(hi:X.N[i]?=some x:=by rfl)(hx:Loc X.env.scope x:=by first|exact Or.inl rfl|exact Or.inr rfl)(hs:swapsWith e (some (.Name x pos')) pos.line X.env=pure false:=by rfl)
  (hf:X.fn x=true∨X.env.scope.names.lookup x=some .local:=by first|exact .inl rfl|exact .inr rfl|assumption):CS X (.Assign [.Name x pos'] e pos) (az i de) :=
 PS.imp (HP hN hi hx he hs hf) λD σ H ⟨F,α,e,μ,S,h⟩ =>
  ⟨F,α,e,μ,S,(aQ.toS h).mono (λx μ1 h v H1 F1 α1 x1 S1 o1=>h _ H1 F1 α1 x1 (S1.set o1)) λ_ _ h=>h⟩
theorem eG{c:Expr}{as bs:List Stmt}{dc:D}(hc:CT X c dc)(ha:CSs X as d1)(hb:CSs X bs d2):CS X (.If c as bs pos) (sIf dc d1 d2):=PS.imp (Kt hc ha hb) λD σ H ak=>by
 obtain⟨F,α,e,μ,S,h⟩:=ak
 refine⟨F,α,e,μ,S,(aQ.asB h).mono (λx μ1 ⟨k,hk,h⟩=>⟨k,hk,λH1 F1 α1 x1 S1=>?_⟩) λ_ _ h=>h⟩
 cases k with
 | true=>exact⟨F1,α1,e,μ1,S1,aQ.mono x1 h⟩
 | false=>exact⟨F1,α1,e,μ1,S1,aQ.mono x1 h⟩
theorem IQ:CS X st IK:=PS.imp Bf λD σ H ⟨F,α,e,μ,S,h⟩=>h
end
end Fw
namespace Fw
open PySem PySem.Spec PyProof.Rows L2
def IS(K:PySem.W.Frag)(F:Hp)(α:List Addr)(J:It)(W:Wk):Prop:=∀F2 α2 μ2 H2,aH F F2→α <+: α2→cM K F2 α2 μ2 H2→W.same μ2 →
 (∀i t,W.items[i]?=some t→J.go i H2∧∀x H3,J.yld i H2 x H3→∃F3,bG F2 H2 F3 H3∧Rep K F3 t x)∧J.stop W.items.length H2
def tDI(X:Cx)(d:DI):TI:=λσ H R=>∃F α e μ,Sim X.K F α e μ σ H∧(d e μ).wp (λW μ' =>
 ∀J H' F' α',Ex F α H F' α' H'→Sim X.K F' α' e μ' σ H'→IS X.K F' α' J W→R J H') (fK X F α H e)
def CI(X:Cx)(tg e:Expr)(d:DI):Prop:=PI X tg e (tDI X d)
theorem PI.imp{X:Cx}{tg e:Expr}{t t':TI}(h:PI X tg e t)(i:∀σ H R,t' σ H R→t σ H R):PI X tg e t':=λpins s σ H R I q=>h pins s σ H R I (i σ H R q)
def Lb(K:PySem.W.Frag)(tl:TE):TI:=λσ H R=>tl σ H λx H1=>∃a,x=.ref a∧(((∃xs,SqL K H1 a xs)∧R (Itl K a) H1)∨((∃xs,SqT K H1 a xs)∧R (Itt K a) H1))
section
variable{X:Cx}{tg:Expr}
theorem yS{l:Expr}{tl:TE}(hl:PE X l tl):PI X tg l (Lb X.K tl):=by
 intro pins s σ H R I h
 refine thn (hl pins s σ H _ I h) λv s1 ak=>?_
 obtain⟨x,H1,I1,r1,q1⟩:=ak
 obtain⟨a,e,q⟩:=q1
 subst e
 cases r1
 rcases q with ⟨⟨xs,hq⟩,q⟩|⟨⟨xs,hq⟩,q⟩
 ·obtain⟨its,rv,p,hz⟩:=I1.list hq
  refine wpAny_pyIter_list p.isList ?_
  refine⟨s1.heap.objs.size,[s1.heap.objs.size],_,_,H1,rfl,I1.kept (t':=s1.toks) λb o e=>Heap.get?_push_of_some _ e,zJ a _,⟨_,Heap.get?_push_size _ rfl,rfl,rfl⟩,λb hb=>?_,q⟩
  have e:b=s1.heap.objs.size:=by simpa using hb
  subst e
  exact I1.u0 (Nat.le_refl _) (I1.hok.fresh (Nat.le_refl _))
 ·obtain⟨its,rv,p,hz⟩:=I1.tuple hq
  refine wpAny_pyIter_tuple (show s1.heap.IsTuple a its.toArray from p) ?_
  refine⟨s1.heap.objs.size,[s1.heap.objs.size],_,_,H1,rfl,I1.kept (t':=s1.toks) λb o e=>Heap.get?_push_of_some _ e,wx a _,⟨_,Heap.get?_push_size _ rfl,rfl,rfl⟩,λb hb=>?_,q⟩
  have e:b=s1.heap.objs.size:=by simpa using hb
  subst e
  exact I1.u0 (Nat.le_refl _) (I1.hok.fresh (Nat.le_refl _))
theorem cc{a:Expr}{da:D}(h:CE X a da):CI X tg a (bo da):=PI.imp (yS h) λσ H R0 ak=>by
 obtain⟨F,α,e,μ,S,h⟩:=ak
 refine⟨F,α,e,μ,S,(R.wp_bind h).mono (λx μ1 h v H1 F1 α1 x1 S1 o1=>?_) λ_ _ h=>h⟩
 obtain⟨ts,ht,post⟩:=R.br (R.wp_bind h)
 obtain⟨t,hr,ht⟩:=Option.bind_eq_some_iff.mp ht
 have n1:=a_ S1.st o1 hr
 cases t with
 | lst us =>
  cases ht
  obtain⟨a,vs,rfl,hq,hl⟩:=n1
  refine⟨a,rfl,.inl ⟨⟨vs,hq⟩,post _ H1 F1 α1 x1 S1 λF2 α2 μ2 H2 s2 p2 S2 same=>?_⟩⟩
  obtain⟨a',vs',e1,hq2,hl2⟩:=a_ S2 (o1.mono s2 p2) ((show rd μ2 x=rd μ1 x from same).trans hr)
  cases e1
  refine⟨λi t hi=>?_,⟨vs',hq2,by rw[← hl2.length];exact Nat.le_refl _⟩⟩
  obtain⟨v,hv,rv⟩:=hl2.get hi
  exact⟨⟨vs',v,hq2,hv⟩,λy H3 df=>by
   obtain⟨e3,hy⟩:=df
   subst e3
   have:=hy vs' hq2
   rw[hv] at this;cases this
   exact⟨F2,bG.refl,rv⟩⟩
 | tup us =>
  cases ht
  obtain⟨a,vs,rfl,hq,hl⟩:=n1
  refine⟨a,rfl,.inr ⟨⟨vs,aH.gy S1.st.ext hq⟩,post _ H1 F1 α1 x1 S1 λF2 α2 μ2 H2 s2 p2 S2 same=>?_⟩⟩
  obtain⟨a',vs',e1,hq2,hl2⟩:=a_ S2 (o1.mono s2 p2) ((show rd μ2 x=rd μ1 x from same).trans hr)
  have hq2:=aH.gy S2.ext hq2
  cases e1
  refine⟨λi t hi=>?_,⟨vs',hq2,by rw[← hl2.length];exact Nat.le_refl _⟩⟩
  obtain⟨v,hv,rv⟩:=hl2.get hi
  exact⟨⟨vs',v,hq2,hv⟩,λy H3 uZ=>by
   obtain⟨e3,hy⟩:=uZ
   subst e3
   have:=hy vs' hq2
   rw[hv] at this;cases this
   exact⟨F2,bG.refl,rv⟩⟩
 | _=>cases ht
theorem sE:∀{n:Nat}{lo:Int}{i:Nat}{t:T},(bK lo n)[i]?=some t→i<n∧t=.int (lo+i)
 | 0,lo,i,t,h=>by simp[bK] at h
 | n+1,lo,0,t,h=>by
  simp[bK] at h
  subst h
  exact⟨Nat.succ_pos _,by simp⟩
 | n+1,lo,i+1,t,h=>by
  have h:(bK (lo+1) n)[i]?=some t:=by simpa [bK] using h
  obtain⟨h1,h2⟩:=sE h
  exact⟨Nat.succ_lt_succ h1,by rw[h2];congr 1;omega⟩
theorem mx:∀(n:Nat) (lo:Int),(bK lo n).length=n
 | 0,_=>rfl
 | n+1,lo=>by rw[bK,List.length_cons,mx]
theorem IT{K:PySem.W.Frag}{F:Hp}{α:List Addr}(lo:Int)(n:Nat):IS K F α (Itr lo n) ⟨bK lo n,λ_=>True⟩:=λF2 α2 μ2 H2 s2 p2 S2 _=>by
 refine⟨λi t hi=>?_,?_⟩
 ·obtain⟨h1,rfl⟩:=sE hi
  exact⟨h1,λx H3 ak=>by obtain⟨e1,e2⟩:=ak;subst e1;subst e2;exact⟨F2,bG.refl,Rep.j7 _⟩⟩
 ·show n≤(bK lo n).length
  rw[mx];exact Nat.le_refl _
theorem vm{t:T}{i:Int}(h:j4 t=some i):t=.int i:=by
 cases t<;>first|(cases h;rfl)|cases h
theorem b3{a:Expr}{da:D}{p pos:Pos}(hm:X.mg "range"=none)(h:CE X a da)(hg:Gl X "range":=by rfl)(hs:starEach [a] X.env=[(false,eval a X.env)]:=by rfl):CI X tg (.Call (.Name "range" p) [a] [] pos) (aI da) :=
 PI.imp (zK hg hm (ag h av hs) hs) λσ H R0 ak=>by
  obtain⟨F,α,e,μ,S,h⟩:=ak
  refine sD ⟨F,α,e,μ,S,(R.wp_bind h).mono (λx μ1 h v H1 F1 α1 x1 S1 o1=>?_) λ_ _ h=>h⟩
  obtain⟨j,ht,h⟩:=R.br (R.wp_bind h)
  obtain⟨t,hr,ht⟩:=Option.bind_eq_some_iff.mp ht
  cases vm ht
  by_cases hb':eE j=true
  ·rw[if_pos hb'] at h
   have hb:=Aa hb'
   cases (a_ S1.st o1 hr).int
   exact⟨j,rfl,hb.1,hb.2,h _ H1 F1 α1 x1 S1 (IT 0 j.toNat)⟩
  ·rw[if_neg hb'] at h;exact h.elim
theorem Lc{da db:D}{σ:L2.St}{H:Hp}{Q:List V→Hp→Prop}(h:∃F α e μ,Sim X.K F α e μ σ H∧(da e μ).wp (λx μ1=>(db e μ1).wp (λy μ2=>∀v u H' F' α',Ex F α H F' α' H'→Sim X.K F' α' e μ2 σ H'→fk X.K F' α' v x→fk X.K F' α' u y→Q [v,u] H') (fK X F α H e)) (fK X F α H e)):tDA X [da,db] σ H Q:=by
 obtain⟨F,α,e,μ,S,h⟩:=h
 refine⟨F,α,e,μ,S,?_⟩
 rw[bh]
 cases q:da e μ with
 | err c μ1=>rw[q] at h;exact h
 | bad=>rw[q] at h;exact h
 | ok x μ1 =>
  rw[q] at h
  rw[R.aT,bh]
  have h:(db e μ1).wp _ _:=h
  cases q2:db e μ1 with
  | err c μ2=>rw[q2] at h;exact h
  | bad=>rw[q2] at h;exact h
  | ok y μ2 =>
   rw[q2] at h
   intro vs H1 F1 α1 x1 S1 o1
   cases o1 with
   | cons o1 o2 =>
    cases o2 with
    | cons o2 o3=>cases o3;exact h _ _ H1 F1 α1 x1 S1 o1 o2
end
def tBd(K:PySem.W.Frag)(b:BD):TG:=λv σ H Q=>∃F α e μ t e',Sim K F α e μ σ H∧Rep K F t v∧b t e=some e'∧∀σ',Sim K F α e' μ σ' H→Q σ' H
def CB(X:Cx)(tg:Expr)(b:BD):Prop:=PG X tg (tBd X.K b)
theorem PG.imp{X:Cx}{tg:Expr}{t t':TG}(h:PG X tg t)(i:∀v σ H Q,t' v σ H Q→t v σ H Q):PG X tg t':=λpins s σ H v u Q I r q=>h pins s σ H v u Q I r (i v σ H Q q)
section
variable{X:Cx}{pos:Pos}
theorem aE(i:Nat){x:Str}(hN:X.N.Nodup)(hi:X.N[i]?=some x:=by rfl)(hx:Loc X.env.scope x:=by first|exact Or.inl rfl|exact Or.inr rfl)(hf:X.fn x=true∨X.env.scope.names.lookup x=some .local:=by first|exact .inl rfl|exact .inr rfl|assumption) :
  CB X (.Name x pos) (ao i):=PG.imp (oQ hN hi hx hf) λv σ H Q ak=>by
 obtain⟨F,α,e,μ,t,e',S,r,hb,q⟩:=ak
 cases hb
 exact q _ (S.set (x:=.val t) r)
theorem my(i j:Nat){x y:Str}{px py:Pos}{k:Nat}(hN:X.N.Nodup)(hc:X.calm=true)(hi:X.N[i]?=some x:=by rfl)(hj:X.N[j]?=some y:=by rfl)(hx:Loc X.env.scope x:=by first|exact Or.inl rfl|exact Or.inr rfl)
  (hy:Loc X.env.scope y:=by first|exact Or.inl rfl|exact Or.inr rfl)
  (hf:X.fn x=true∨X.env.scope.names.lookup x=some .local:=by first|exact .inl rfl|exact .inr rfl|assumption) (hf':X.fn y=true∨X.env.scope.names.lookup y=some .local:=by first|exact .inl rfl|exact .inr rfl|assumption)
  : CB X (.Tuple [.Name x px,.Name y py] k pos) (h_ [i,j]) :=
 PG.imp (HL hc (uY (oQ hN hi hx hf) (uY (oQ hN hj hy hf') Ew))) λv σ H Q ak=>by
  obtain⟨F,α,e,μ,t,e',S,r,hb,q⟩:=ak
  cases t with
  | tup ts =>
   unfold h_ at hb
   simp only at hb
   by_cases hl:ts.length=[i,j].length
   ·rw[if_pos hl] at hb
    rw[Rep] at r
    obtain⟨a,vs,rfl,hq,hr⟩:=r
    match ts,vs,hl,hr with
    | [t1,t2],vs,_,hr =>
     rw[ay] at hr
     obtain⟨v1,vs1,rfl,r1,hr⟩:=hr
     rw[ay] at hr
     obtain⟨v2,vs2,rfl,r2,hr⟩:=hr
     rw[ay] at hr
     subst hr
     cases hb
     exact⟨a,_,rfl,aH.gy S.st.ext hq,rfl,v1,[v2],rfl,v2,[],rfl,rfl,q _ ((S.set (x:=.val t1) r1).set (x:=.val t2) r2)⟩
   ·rw[if_neg hl] at hb;cases hb
  | _=>cases hb
end
section
variable{X:Cx}{tg iter c:Expr}{body:List Stmt}{di:DI}{b:BD}{d:DS}{dc:D}{pos:Pos}
theorem dm(hp:PassesOwn (model X.prog X.w) X.A X.env X.xe)(hc:X.calm=true)(hi:CI X tg iter di)(hg:CB X tg b)(hb:CSs X body d)(hs:∀x,foldedSetIterable iter X.env x=pure x:=by intro _;rfl) :
  CS X (.For tg iter body [] pos) (bF di b d):=PS.imp (Bk hp hc hi hg hb hs) λD σ H ak=>by
 obtain⟨F,α,e,μ,S,h⟩:=ak
 refine⟨F,α,e,μ,S,(aQ.toS h).mono (λW μ1 h J H1 F1 α1 x1 S1 ok=>?_) λ_ _ h=>h⟩
 refine⟨λi m σ H=>m=W.items.length-i∧i≤W.items.length∧∃F2 α2 e2 μ2,aH F1 F2∧α1 <+: α2∧Sim X.K F2 α2 e2 μ2 σ H∧aQ X F2 α2 H D (forL W.same b d (W.items.drop i) e2 μ2),
  ⟨_,rfl,Nat.zero_le _,F1,α1,e,μ1,aH.refl _,List.prefix_refl _,S1,aQ.mono x1 h⟩,?_⟩
 rintro i m σ2 H2 ⟨rfl,hi,F2,α2,e2,μ2,s2,p2,S2,h⟩
 by_cases hlt:i<W.items.length
 ·rw[List.drop_eq_getElem_cons hlt] at h
  unfold forL at h
  by_cases hs:W.same μ2
  ·rw[if_pos hs] at h
   obtain⟨g1,g2⟩:=ok F2 α2 μ2 H2 s2 p2 S2.st hs
   obtain⟨go,yl⟩:=g1 i W.items[i] (by simp[hlt])
   cases hb':b W.items[i] e2 with
   | none=>simp only[hb'] at h;exact h.elim
   | some e3 =>
    simp only[hb'] at h
    refine .inr ⟨go,λσ' H'=>∃F4 α4 e4 μ4,aH F1 F4∧α1 <+: α4∧Sim X.K F4 α4 e4 μ4 σ' H'∧aQ X F4 α4 H' D (forL W.same b d (W.items.drop (i+1)) e4 μ4),
     λσ' H' q=>⟨W.items.length-(i+1),by omega,rfl,hlt,q⟩,λx H3 y=>?_⟩
    obtain⟨F3,gr,rp⟩:=yl x H3 y
    have x3:Ex F2 α2 H2 F3 α2 H3:=gr.ex S2.st.ext
    refine⟨F3,α2,e2,μ2,W.items[i],e3,S2.grow gr,rp,hb',λσ4 S4=>⟨F3,α2,e3,μ2,S4,?_⟩⟩
    cases q:d e3 μ2 with
    | nx e5 μ5 =>
     simp only[q] at h
     exact λσ' H' F' α' x S'=>⟨F',α',e5,μ5,s2.trans (x3.same.trans x.same),p2.trans x.pre,S',aQ.mono (x3.trans x) h⟩
    | ct e5 μ5 =>
     simp only[q] at h
     exact λσ' H' F' α' x S'=>⟨F',α',e5,μ5,s2.trans (x3.same.trans x.same),p2.trans x.pre,S',aQ.mono (x3.trans x) h⟩
    | bk e5 μ5 =>
     simp only[q] at h
     exact λσ' H' F' α' x S'=>h σ' H' F' α' (x3.trans x) S'
    | rt x μ5 =>
     simp only[q] at h
     exact λv H' F' α' x S'=>h v H' F' α' (x3.trans x) S'
    | err c e5 μ5=>simp only[q] at h;exact fK.mono x3 h
    | bad=>simp only[q] at h;exact h
  ·rw[if_neg hs] at h;exact h.elim
 ·have e1:i=W.items.length:=by omega
  subst e1
  rw[List.drop_length] at h
  unfold forL at h
  by_cases hs:W.same μ2
  ·rw[if_pos hs] at h
   obtain⟨g1,g2⟩:=ok F2 α2 μ2 H2 s2 p2 S2.st hs
   exact .inl ⟨g2,h σ2 H2 F2 α2 Ex.refl S2⟩
  ·rw[if_neg hs] at h;exact h.elim
theorem Cb(hp:PassesOwn (model X.prog X.w) X.A X.env X.xe)(hc:CT X c dc)(hb:CSs X body d):CS X (.While c body [] pos) (lh dc d):=PS.imp (Bi hp hc hb) λD σ H ak=>by
 obtain⟨F,α,e,μ,S,h⟩:=ak
 unfold lh at h
 by_cases hn:∃n,cH dc d n e μ≠.bad
 ·rw[dif_pos hn] at h
  refine⟨λm σ H=>∃F2 α2 e2 μ2,Sim X.K F2 α2 e2 μ2 σ H∧aQ X F2 α2 H D (cH dc d m e2 μ2),⟨_,F,α,e,μ,S,h⟩,?_⟩
  rintro m σ H ⟨F2,α2,e2,μ2,S2,h⟩
  cases m with
  | zero=>exact h.elim
  | succ m =>
   unfold cH at h
   refine⟨F2,α2,e2,μ2,S2,(aQ.asB h).mono (λx μ3 ⟨k,hx,h⟩=>⟨k,hx,λH3 F3 α3 x3 S3=>?_⟩) λ_ _ h=>h⟩
   cases k with
   | false =>
    rw[if_neg Bool.false_ne_true] at h ⊢
    exact h σ H3 F3 α3 x3 S3
   | true =>
    rw[if_pos rfl] at h ⊢
    refine⟨λσ' H'=>∃F4 α4 e4 μ4,Sim X.K F4 α4 e4 μ4 σ' H'∧aQ X F4 α4 H' D (cH dc d m e4 μ4),λσ' H' q=>⟨m,Nat.lt_succ_self m,q⟩,F3,α3,e2,μ3,S3,?_⟩
    cases q:d e2 μ3 with
    | nx e5 μ5 =>
     rw[q] at h
     exact λσ' H' F' α' x S'=>⟨F',α',e5,μ5,S',aQ.mono (x3.trans x) h⟩
    | ct e5 μ5 =>
     rw[q] at h
     exact λσ' H' F' α' x S'=>⟨F',α',e5,μ5,S',aQ.mono (x3.trans x) h⟩
    | bk e5 μ5 =>
     rw[q] at h
     exact λσ' H' F' α' x S'=>h σ' H' F' α' (x3.trans x) S'
    | rt x μ5 =>
     rw[q] at h
     exact λσ' H' F' α' x S'=>h σ' H' F' α' (x3.trans x) S'
    | err c e5 μ5=>rw[q] at h;exact fK.mono x3 h
    | bad=>rw[q] at h;exact h
 ·rw[dif_neg hn] at h;exact h.elim
end
end Fw
namespace L2
open PySem PySem.Spec PyProof.Rows
theorem tX{prog:Program}{w:World}{A:Around}{R:Result→Shared→Prop}{s:Shared}{elt target iter:Expr}{ifs:List Expr}{scope:Scope}{pos:Pos}{it acc:Value}{env:Env}(I:Nat→Shared→Prop)
  (turn:∀n s,I n s→wpAny (model prog w) A (pyNext it) (λr s₁=>match r with
   | none=>R (.ok .next) s₁
   | some v=>wpAny (model prog w) A (letOwnedTupleGo target it v) (λ_ s₁'=>wpAny (model prog w) A (assign target env v) (λ_ s₂ =>
     wpAny (model prog w) A (forIn ifs true λc r=>if r=true then do let ok ← isTrue c env (eval c env);pure (ForInStep.yield ok) else pure (ForInStep.yield r)) (λok s₃ =>
      if ok=true then wpAny (model prog w) A (eval elt env) (λx s₄ =>
       wpAny (model prog w) A (call (.builtin "list.append") [acc,x]) (λ_ s₅=>∃m,m<n∧I m s₅) (λ_ _=>False) s₄) (λ_ _=>False) s₃
      else ∃m,m<n∧I m s₃) (λ_ _=>False) s₂) (λ_ _=>False) s₁') (λ_ _=>False) s₁) (λ_ _=>False) s)
  (n:Nat) (h:I n s):codeAny (model prog w) A (.compLoop (.ListComp elt [⟨target,iter,ifs,0⟩] scope pos) 0 it acc env) R s:=by
 have no:∀{α:Type}{t:Sem α}{Q:α→Shared→Prop}{E:Value→Shared→Prop}{s:Shared},wpAny (model prog w) A t Q (λ_ _=>False) s→wpAny (model prog w) A t Q E s:=λh=>wpAny_mono h (λ_ _ x=>x) λ_ _ x=>x.elim
 refine codeAny_loop rfl I (λn s hI=>?_) n h
 show wpAny _ A ((compTurn (.ListComp elt [⟨target,iter,ifs,0⟩] scope pos) 0 it acc env).onRaise (λx=>do noteFrame x env;theTreesLotGoes x)) _ _ s
 refine wpAny_noted ?_
 rw[compTurn_list]
 refine wpAny_bind (wpAny_standAt (wpAny_bind (wpAny_mono (no (turn n s hI)) (λr s₁ h₁=>?_) λ_ _ h'=>h')))
 cases r with
 | none=>exact wpAny_pure h₁
 | some v =>
  refine wpAny_bind (wpAny_mono (no h₁) (λ_ s₁' h₁'=>?_) λ_ _ h'=>h')
  refine wpAny_bind (wpAny_mono (no h₁') (λ_ s₂ h₂=>wpAny_bind (wpAny_mono (no h₂) (λok s₃ h₃=>?_) λ_ _ h'=>h')) λ_ _ h'=>h')
  cases ok with
  | false=>exact wpAny_pure ⟨rfl,h₃⟩
  | true =>
   exact wpAny_bind (wpAny_bind (wpAny_mono (no h₃) (λx s₄ h₄=>wpAny_bind (wpAny_mono (no h₄) (λ_ s₅ h₅=>wpAny_pure (wpAny_pure ⟨rfl,h₅⟩)) λ_ _ h'=>h')) λ_ _ h'=>h'))
def b9(X:Cx)(N':List Str)(scope:Scope)(cl:List (Str×Addr))(C:Addr)(s₀:Shared)(H₀:Hp)(ex:List Addr):Cx :=
 { X with N:=N',s₀:=s₀,H₀:=H₀,env:=compEnvC scope cl C X.env,outer:=X.stack,stack:=X.stack,ex:=ex,fn:=λx=>(scope.names.lookup x==some NameKind.cell),pn:=[],xe:=λ_ _=>False }
def kP(X:Cx)(ifs:List Expr)(t:TT):Prop :=
 ∀(pins:List (Addr×Obj)) (s:Shared) (σ:St) (H:Hp) (Q:Bool→Hp→Prop),Inv X pins σ H s→t σ H Q →
  wpAny (model X.prog X.w) X.A (forIn ifs true λc r=>if r=true then do let ok ← isTrue c X.env (eval c X.env);pure (ForInStep.yield ok) else pure (ForInStep.yield r)) (TP X pins σ Q) X.xe s
theorem Cc{X:Cx}:kP X [] (λ_ H Q=>Q true H):=λ_ _ _ H _ I h=>wpAny_tests_nil ⟨H,I,h⟩
theorem Cd{X:Cx}{c:Expr}{t:TT}(h:PT X c t):kP X [c] t:=λpins s σ H Q I q=>wpAny_tests_one (h pins s σ H Q I q)
def rD(mp:List (Option Nat))(σ:St):St:=mp.map λo=>o.bind λj=>(σ[j]?).bind id
structure e_(X:Cx)(N':List Str)(scope:Scope)(mp:List (Option Nat)):Prop where
 kind:scope.kind=.function
 cells:(scope.names.filter λy=>y.2==NameKind.cell).length≤1
 nd:(scope.names.map (·.1)).Nodup
 loc:∀x∈scope.names,x.2=.local→scope.names.lookup x.1=some .local
 free:∀y∈scope.names,y.2=.free→X.env.kindOf y.1=some .cell∨X.env.kindOf y.1=some .free
 len:mp.length=N'.length
 Le:∀(i j:Nat),mp[i]?=some (some j)→∃x,N'[i]?=some x∧X.N[j]?=some x∧(x,NameKind.free)∈scope.names∧(X.env.scope.names.lookup x=some .cell∨X.env.scope.names.lookup x=some .free)
 seen:∀x,(x,NameKind.free)∈scope.names→(relabel scope X.env).names.lookup x=some .cell∨(relabel scope X.env).names.lookup x=some .free
 back:∀x,(relabel scope X.env).names.lookup x=some .cell∨(relabel scope X.env).names.lookup x=some .free→(x,NameKind.free)∈scope.names∨scope.names.lookup x=some .cell
inductive Fj(names:List (Str×NameKind))(n:Nat)(h:Heap)(acc:List (Str×Addr)):Prop where
 | no (h0:∀x,names.lookup x≠some .cell) (h1:cellsFrom n names acc=acc) (h2:pushCells h names=h)
 | one (y:Str) (h0:∀x,names.lookup x=some .cell→x=y) (hy:names.lookup y=some .cell) (h1:cellsFrom n names acc=(y,n)::acc) (h2:pushCells h names=h.push { cls:=.type "cell",data:=.cell none })
theorem vn:∀(names:List (Str×NameKind)) (n:Nat) (h:Heap) (acc:List (Str×Addr)),names.filter (λy=>y.2==NameKind.cell)=[]→(∀x,names.lookup x≠some .cell)∧cellsFrom n names acc=acc∧pushCells h names=h
 | [],n,h,acc,_=>⟨λx=>by simp,rfl,rfl⟩
 | (y,k)::names,n,h,acc,e=>by
  rw[List.filter_cons] at e
  cases hk:(k==NameKind.cell) with
  | true=>rw[if_pos (by exact hk)] at e;cases e
  | false =>
   rw[if_neg (by simp[hk])] at e
   obtain⟨h1,h2,h3⟩:=vn names n h acc e
   refine⟨λx hx=>?_,?_,?_⟩
   ·rw[List.lookup_cons] at hx
    cases hb:x==y with
    | true=>rw[hb] at hx;cases hx;simp at hk
    | false=>rw[hb] at hx;exact h1 x hx
   ·unfold cellsFrom;rw[if_neg (by simp[hk])];exact h2
   ·unfold pushCells;rw[if_neg (by simp[hk])];exact h3
theorem vo:∀(names:List (Str×NameKind)) (n:Nat) (h:Heap) (acc:List (Str×Addr)),(names.filter λy=>y.2==NameKind.cell).length≤1→(names.map (·.1)).Nodup→Fj names n h acc
 | [],n,h,acc,_,_=>.no (λx=>by simp) rfl rfl
 | (y,k)::names,n,h,acc,e,nd=>by
  rw[List.filter_cons] at e
  have nd':=List.nodup_cons.mp (by simpa using nd:(y::names.map (·.1)).Nodup)
  cases hk:(k==NameKind.cell) with
  | true =>
   rw[if_pos (by exact hk)] at e
   have e0:names.filter (λy=>y.2==NameKind.cell)=[]:=List.length_eq_zero_iff.mp (by simpa using e)
   obtain⟨h1,h2,h3⟩:=vn names (n+1) (h.push { cls:=.type "cell",data:=.cell none }) ((y,n)::acc) e0
   have ek:k=.cell:=by simpa using hk
   subst ek
   refine .one y (λx hx=>?_) (by simp) ?_ ?_
   ·rw[List.lookup_cons] at hx
    cases hb:x==y with
    | true=>exact eq_of_beq hb
    | false=>rw[hb] at hx;exact absurd hx (h1 x)
   ·unfold cellsFrom;rw[if_pos (by simp)];exact h2
   ·unfold pushCells;rw[if_pos (by simp)];exact h3
  | false =>
   rw[if_neg (by simp[hk])] at e
   have kn:k≠.cell:=by simpa using hk
   have lk:∀x,((y,k)::names).lookup x=some .cell→names.lookup x=some .cell:=λx hx=>by
    rw[List.lookup_cons] at hx
    cases hb:x==y with
    | true=>rw[hb] at hx;cases hx;exact absurd rfl kn
    | false=>rw[hb] at hx;exact hx
   cases vo names n h acc e nd'.2 with
   | no h0 h1 h2 =>
    refine .no (λx hx=>h0 x (lk x hx)) ?_ ?_
    ·unfold cellsFrom;rw[if_neg (by simp[hk])];exact h1
    ·unfold pushCells;rw[if_neg (by simp[hk])];exact h2
   | one z h0 hz h1 h2 =>
    have zne:(z==y)=false:=by
     have:z≠y:=λq=>by
      subst q
      exact nd'.1 (List.mem_map.mpr ⟨_,PySem.mem_of_lookup hz,rfl⟩)
     simpa using this
    refine .one z (λx hx=>h0 x (lk x hx)) (by rw[List.lookup_cons,zne];exact hz) ?_ ?_
    ·unfold cellsFrom;rw[if_neg (by simp[hk])];exact h1
    ·unfold pushCells;rw[if_neg (by simp[hk])];exact h2
theorem vp{M:Model}{A:Around}{E:Value→Shared→Prop}{s:Shared}{scope:Scope}{globals:Addr}{cl:List (Str×Addr)}{qual:Str}{outer:Env}{Q:Env→Shared→Prop}
  (hQ:Q (newEnv scope s.heap.objs.size globals (cellsFrom (s.heap.objs.size+1) scope.names cl) qual none .none (some outer) builtinsNs) { s with heap:=pushCells (s.heap.push { cls:=.type "dict",data:=.dict #[] }) scope.names }) :
  wpAny M A (newFunctionEnv scope globals cl [] qual none .none (some outer)) Q E s:=by
 simp only[newFunctionEnv,Option.isSome_some,if_true]
 refine wpAny_bind (wpAny_alloc ?_)
 refine wpAny_bind (wpAny_layCells _ (λname kind cells=>by cases hkc:kind==NameKind.cell<;>simp[hkc]) _ _ _ _ ?_)
 rw[show ({ s with heap:=s.heap.push { cls:=.type "dict",data:=.dict #[] } }:Shared).heap.objs.size=s.heap.objs.size+1 from Heap.size_push ..]
 simp only[List.forIn_nil]
 exact wpAny_bind (wpAny_pure (wpAny_pure hQ))
theorem jk{env:Env}:∀(names:List (Str×NameKind)) (acc:List (Str×Addr)),(∀y∈names,y.2=.free→∃c,env.cells.lookup y.1=some c) →
  ∃cl:List (Str×Addr),(forIn names acc λx r=>(if (x.2==NameKind.free)=true then do let c ← cellOf env x.1;pure (ForInStep.yield ((x.1,c)::r)) else pure (ForInStep.yield r):Sem (ForInStep (List (Str×Addr)))))=pure cl ∧
   (∀x c,cl.lookup x=some c→acc.lookup x=some c∨env.cells.lookup x=some c)∧(∀x,(x,NameKind.free)∈names∨(acc.lookup x).isSome=true→(cl.lookup x).isSome=true)
 | [],acc,_=>⟨acc,rfl,λx c h=>.inl h,λx h=>by
   rcases h with h|h
   ·simp at h
   ·exact h⟩
 | (n,k)::r,acc,h=>by
  by_cases hk:k=.free
  ·subst hk
   obtain⟨c,hc⟩:=h (n,.free) List.mem_cons_self rfl
   obtain⟨cl,e,h1,h2⟩:=jk r ((n,c)::acc) λy hy=>h y (List.mem_cons_of_mem _ hy)
   refine⟨cl,?_,λx d hx=>?_,λx hx=>h2 x ?_⟩
   ·rw[List.forIn_cons]
    have e1:(NameKind.free==NameKind.free)=true:=by decide
    simp only[e1,if_true]
    have e2:cellOf env n=pure c:=by simp only[cellOf,hc]
    rw[e2]
    exact e
   ·rcases h1 x d hx with g|g
    ·rw[List.lookup_cons] at g
     cases q:x==n with
     | true =>
      rw[q] at g
      cases g
      have:x=n:=by simpa using q
      subst this
      exact .inr hc
     | false=>rw[q] at g;exact .inl g
    ·exact .inr g
   ·rcases hx with hx|hx
    ·rcases List.mem_cons.mp hx with g|g
     ·cases g
      right
      simp[List.lookup_cons]
     ·exact .inl g
    ·right
     rw[List.lookup_cons]
     cases q:x==n with
     | true=>rfl
     | false=>exact hx
  ·obtain⟨cl,e,h1,h2⟩:=jk r acc λy hy=>h y (List.mem_cons_of_mem _ hy)
   refine⟨cl,?_,h1,λx hx=>h2 x ?_⟩
   ·rw[List.forIn_cons]
    have e1:(k==NameKind.free)=false:=by simpa using hk
    simp only[e1,Bool.false_eq_true,if_false]
    exact e
   ·rcases hx with hx|hx
    ·rcases List.mem_cons.mp hx with g|g
     ·cases g
      exact absurd rfl hk
     ·exact .inl g
    ·exact .inr hx
theorem pR{scope:Scope}{env:Env}(h:∀y∈scope.names,y.2=.free→∃c,env.cells.lookup y.1=some c) :
  ∃cl,closureFor scope env=pure cl∧(∀x c,cl.lookup x=some c→env.cells.lookup x=some c)∧(∀x,(x,NameKind.free)∈scope.names→(cl.lookup x).isSome=true):=by
 obtain⟨cl,e,h1,h2⟩:=jk (env:=env) scope.names [] h
 refine⟨cl,?_,λx c hx=>(h1 x c hx).elim (λg=>by simp at g) id,λx hx=>h2 x (.inl hx)⟩
 simp only[closureFor]
 rw[e]
 rfl
section
variable{X:Cx}{elt iter tg:Expr}{ifs:List Expr}{scope:Scope}{pos:Pos}{N':List Str}{g:TG}{tc:TT}{te:TE}{mp:List (Option Nat)}
def yT(J:It)(mp:List (Option Nat))(g:TG)(tc:TT)(te:TE)(σ:St)(H:Hp)(Q:VK):Prop:=∀p,H p=none→∃W:Nat→Nat→St→Hp→Prop,(∃m,W 0 m (rD mp σ) (upd H p (.lst [])))∧∀i m σ H,W i m σ H →
 (J.stop i H∧Q (.ref p) H)∨(J.go i H∧∃N:St→Hp→Prop,(∀σ' H',N σ' H'→∃m',m'<m∧W (i+1) m' σ' H')∧∀x H',J.yld i H x H'→g x σ H' λσ2 H2=>tc σ2 H2 λb H3 =>
  if b=true then te σ2 H3 λy H4=>yA (.ref p) [y] H4 λ_ H5=>N σ2 H5 else N σ2 H3)
theorem Ce{mp:List (Option Nat)}{σ:St}{i:Nat}{v:V}(h:(rD mp σ)[i]?=some (some v)):∃j,mp[i]?=some (some j)∧σ[j]?=some (some v):=by
 unfold rD at h
 rw[List.getElem?_map] at h
 cases q:mp[i]? with
 | none=>rw[q] at h;cases h
 | some o =>
  cases o with
  | none=>rw[q] at h;cases h
  | some j =>
   rw[q] at h
   refine⟨j,rfl,?_⟩
   have h:(σ[j]?).bind id=some v:=by simpa using h
   cases z:σ[j]? with
   | none=>rw[z] at h;cases h
   | some y=>rw[z] at h;have h:y=some v:=h;rw[h]
theorem Cf{pins:List (Addr×Obj)}{σ:St}{H:Hp}{s₀:Shared}{C:Addr}{h₁:Heap}{t':Nat}{cl:List (Str×Addr)}{fp:List Addr}(hS:e_ X N' scope mp)(I:Inv X pins σ H s₀)
  (hcl:∀x c,cl.lookup x=some c→X.env.cells.lookup x=some c∨(scope.names.lookup x=some .cell∧c=C+1∧h₁.IsCell c none∧∀z,scope.names.lookup z=some .cell→z=x)) (hcs:∀x,(x,NameKind.free)∈scope.names→(cl.lookup x).isSome=true∧∀c,cl.lookup x=some c→X.env.cells.lookup x=some c)
  (hcn:∀x,scope.names.lookup x=some .cell→cl.lookup x=some (C+1))
  (hC:C=s₀.heap.objs.size) (keep:∀b o,s₀.heap.get? b=some o→h₁.get? b=some o) (ns:∃m,h₁.Ns C m) (hf:∀b∈fp,jR X pins H b) (hfp:∀b∈fp,b<s₀.heap.objs.size) :
  Inv (b9 X N' scope cl C s₀ H fp) [] (rD mp σ) H { s₀ with heap:=h₁,toks:=t' }:=by
 obtain⟨m0,ns⟩:=ns
 have cellK:∀c v,s₀.heap.IsCell c v→h₁.IsCell c v:=λc v ⟨o,ho,hd⟩=>⟨o,keep c o ho,hd⟩
 refine⟨⟨I.ok.mod,hS.kind,I.ok.glob,I.ok.blt,Nat.le_of_eq hC.symm,λx y c h1 h2=>?_,λx hx=>?_,λx c h hx=>?_,I.ok.hd,I.ok.frames,.inl rfl,λb hb=>⟨?_,λx c h=>?_⟩,I.bs,Nat.le_trans I.ok.bsz I.sz,
   λb o e hb=>?_,λb hb hs=>?_,I.stack,I.yk⟩,rfl,I.bare,Un.kept keep,⟨m0,ns,λi x v e1 e2 e3=>?_⟩,λx c h=>?_,?_,λx c h=>?_,λp hp=>absurd hp (by intro z;cases z),I.hok.kept keep,?_⟩
 ·have old:∀z,X.env.cells.lookup z=some c→c<s₀.heap.objs.size:=λz hz=>by
   obtain⟨v,q⟩:=I.cell z c hz
   exact q.lt
  rcases hcl x c h1 with a|⟨a,ca,_,ua⟩
  ·rcases hcl y c h2 with b|⟨b,cb,_⟩
   ·exact I.ok.inj x y c a b
   ·have:=old x a
    rw[cb,hC] at this
    exact absurd this (Nat.not_lt.mpr (Nat.le_succ _))
  ·rcases hcl y c h2 with b|⟨b,cb,_⟩
   ·have:=old y b
    rw[ca,hC] at this
    exact absurd this (Nat.not_lt.mpr (Nat.le_succ _))
   ·exact (ua y b).symm
 ·rcases hS.back x hx with q|q
  ·exact Option.isSome_iff_exists.mp (hcs x q).1
  ·exact⟨_,hcn x q⟩
 ·have q:scope.names.lookup x=some .cell:=by
   have h:(scope.names.lookup x==some NameKind.cell)=true:=h
   simpa using h
  have hx:cl.lookup x=some c:=hx
  rw[hcn x q] at hx
  cases hx
  rw[hC]
  exact Nat.le_succ _
 ·intro z
  have:=hfp b hb
  rw[z] at this
  have h2:C<s₀.heap.objs.size:=this
  rw[hC] at h2
  exact Nat.lt_irrefl _ h2
 ·rcases hcl x c h with a|⟨a,ca,_⟩
  ·exact (hf b hb).2.2.2.2.1 x c a
  ·have:=hfp b hb
   rw[ca,hC]
   exact λq=>absurd (q ▸ this) (Nat.not_lt.mpr (Nat.le_succ _))
 ·rcases (hf b hb).2.2.2.1 with z|z
  ·exact I.ok.zI b o e z
  ·exact absurd (Nat.lt_of_lt_of_le (Heap.lt_size e) (Nat.le_trans I.ok.bsz z)) (Nat.lt_irrefl _)
 ·rcases List.mem_cons.mp (I.tH b hs) with z|z
  ·exact (hf b hb).2.1 z
  ·exact (hf b hb).2.2.1 z
 ·obtain⟨j,hj,hv⟩:=Ce e2
  obtain⟨y,y1,y2,y3,y4⟩:=hS.Le i j hj
  have hy:y=x:=by
   have:(b9 X N' scope cl C s₀ H fp).N[i]?=some y:=y1
   rw[e1] at this
   exact (Option.some.inj this).symm
  subst hy
  obtain⟨m,hn,hl⟩:=I.loc
  obtain⟨u,ru,lk⟩:=hl j y v y2 hv (y4.elim (λz=>.inr (.inl z)) λz=>.inr (.inr z))
  refine⟨u,ru,?_⟩
  rcases lk with ⟨hk,_⟩|⟨hk,c,hc,yn⟩
  ·exfalso
   have hk:X.env.scope.names.lookup y=some .local:=hk
   rcases y4 with z|z
   ·rw[hk] at z;cases z
   ·rw[hk] at z;cases z
  ·obtain⟨c',hc'⟩:=Option.isSome_iff_exists.mp (hcs y y3).1
   have:c'=c:=by
    have q:=(hcs y y3).2 c' hc'
    rw[hc] at q
    exact (Option.some.inj q).symm
   subst this
   exact .inr ⟨hS.seen y y3,c',hc',cellK _ _ yn⟩
 ·rcases hcl x c h with a|⟨_,_,a,_⟩
  ·obtain⟨v,hv⟩:=I.cell x c a
   exact⟨v,cellK _ _ hv⟩
  ·exact⟨none,a⟩
 ·show H C=none
  rw[hC]
  exact I.hok.fresh (Nat.le_refl _)
 ·rcases hcl x c h with a|⟨_,a,_⟩
  ·exact I.kS x c a
  ·rw[a,hC];exact I.hok.fresh (Nat.le_succ _)
 ·show (rD mp σ).length=N'.length
  unfold rD
  rw[List.length_map,hS.len]
theorem sF{pins:List (Addr×Obj)}{s₂:Shared}{σ:St}{H₂:Hp}{it:Addr}{fp:List Addr}{tn:Nat→Heap→Prop}{J:It}{cl:List (Str×Addr)}{Q:VK}{RR:Value→Addr→Result→Shared→Prop}{E:Value→Shared→Prop}
  (hS:e_ X N' scope mp) (mz:X.calm=true) (hg:∀cl C s₀ H₀ ex,PG (b9 X N' scope cl C s₀ H₀ ex) tg g) (hc:∀cl C s₀ H₀ ex,kP (b9 X N' scope cl C s₀ H₀ ex) ifs tc) (he:∀cl C s₀ H₀ ex,PE (b9 X N' scope cl C s₀ H₀ ex) elt te)
  (hcl:∀x c,cl.lookup x=some c→X.env.cells.lookup x=some c) (hcs:∀x,(x,NameKind.free)∈scope.names→(cl.lookup x).isSome=true)
  (I:Inv X pins σ H₂ s₂) (T:Turn X.prog X.w X.K tg J fp it tn) (st:tn 0 s₂.heap) (hf:∀b∈fp,jR X pins H₂ b) (hq:yT J mp g tc te σ H₂ Q)
  (fin:∀p C s' H',Inv X pins σ H' s'→jR X pins H' C→(∃m,s'.heap.Ns C m)→Q (.ref p) H'→RR (.ref p) C (.ok .next) s') :
  wpAny (model X.prog X.w) X.A (newList []) (λacc s₃=>wpAny (model X.prog X.w) X.A (newFunctionEnv scope X.env.globals cl [] X.env.qual none .none (some X.env)) (λLf s₄ =>
   codeAny (model X.prog X.w) X.A (.compStart (.ListComp elt [⟨tg,iter,ifs,0⟩] scope pos) 0 (.ref it) acc { Lf with scope:=relabel scope X.env }) (RR acc Lf.locals) s₄) E s₃) E s₂:=by
 refine wpAny_newObj_type (vp ?_)
 dsimp only
 have I₃:Inv X pins σ (upd H₂ s₂.heap.objs.size (.lst [])) { s₂ with heap:=s₂.heap.push { cls:=.type "list",dict:=none,data:=.seq ([]:List Value).toArray } } :=
  I.Ip (t':=s₂.toks) (ys:=[]) .nil (Nat.zero_le _)
 generalize hH2:s₂.heap.push { cls:=.type "list",dict:=none,data:=.seq ([]:List Value).toArray }=H2 at I₃ ⊢
 obtain⟨h₁,hh1⟩:∃h₁,h₁=pushCells (H2.push { cls:=.type "dict",data:=.dict #[] }) scope.names:=⟨_,rfl⟩
 rw[← hh1]
 have hns₁:h₁.Ns H2.objs.size (λ_=>none):=by rw[hh1];exact (Heap.Ns.new H2 (.type "dict")).keeps (pushCells_keeps _ _)
 obtain⟨cl',Ac⟩:∃cl',cl'=cellsFrom (H2.objs.size+1) scope.names cl:=⟨_,rfl⟩
 rw[← Ac]
 have IU:=vo scope.names (H2.objs.size+1) (H2.push { cls:=.type "dict",data:=.dict #[] }) cl hS.cells hS.nd
 have fc:∀x,(x,NameKind.free)∈scope.names→scope.names.lookup x≠some .cell:=λx hx q=>by
  have nd:=hS.nd
  have m2:=PySem.mem_of_lookup q
  have key:∀l:List (Str×NameKind),(l.map (·.1)).Nodup→(x,NameKind.free)∈l→(x,NameKind.cell)∈l→False:=by
   intro l
   induction l with
   | nil=>intro _ h;cases h
   | cons a l ih =>
    intro nd h1 h2
    have nd':=List.nodup_cons.mp (by simpa using nd:(a.1::l.map (·.1)).Nodup)
    rcases List.mem_cons.mp h1 with e1|h1
    ·rcases List.mem_cons.mp h2 with e2|h2
     ·rw[← e1] at e2;cases e2
     ·exact nd'.1 (List.mem_map.mpr ⟨_,h2,by rw[← e1]⟩)
    ·rcases List.mem_cons.mp h2 with e2|h2
     ·exact nd'.1 (List.mem_map.mpr ⟨_,h1,by rw[← e2]⟩)
     ·exact ih nd'.2 h1 h2
  exact key _ nd hx m2
 have Lg:∀x c,cl'.lookup x=some c→X.env.cells.lookup x=some c∨(scope.names.lookup x=some .cell∧c=H2.objs.size+1∧h₁.IsCell c none∧∀z,scope.names.lookup z=some .cell→z=x):=λx c h=>by
  cases IU with
  | no _ e1 _=>rw[Ac.trans e1] at h;exact .inl (hcl x c h)
  | one y h0 hy e1 e2 =>
   rw[Ac.trans e1,List.lookup_cons] at h
   cases hb:x==y with
   | true =>
    rw[hb] at h
    have hxy:x=y:=eq_of_beq hb
    have h:some (H2.objs.size+1)=some c:=h
    cases h
    subst hxy
    refine .inr ⟨hy,rfl,?_,λz hz=>h0 z hz⟩
    rw[hh1.trans e2,← Heap.size_push H2 { cls:=.type "dict",data:=.dict #[] }]
    exact⟨_,Heap.get?_push_size _ rfl,rfl⟩
   | false=>rw[hb] at h;exact .inl (hcl x c h)
 have Nm:∀x,(x,NameKind.free)∈scope.names→(cl'.lookup x).isSome=true∧∀c,cl'.lookup x=some c→X.env.cells.lookup x=some c:=λx hx=>by
  have el:cl'.lookup x=cl.lookup x:=by
   cases IU with
   | no _ e1 _=>rw[Ac.trans e1]
   | one y h0 hy e1 e2 =>
    rw[Ac.trans e1,List.lookup_cons]
    cases hb:x==y with
    | true=>exact absurd ((eq_of_beq hb) ▸ hy) (fc x hx)
    | false=>rfl
  rw[el]
  exact⟨hcs x hx,λc hc=>hcl x c hc⟩
 have Nn:∀x,scope.names.lookup x=some .cell→cl'.lookup x=some (H2.objs.size+1):=λx hx=>by
  cases IU with
  | no h0 _ _=>exact absurd hx (h0 x)
  | one y h0 hy e1 e2 =>
   rw[Ac.trans e1,h0 x hx,List.lookup_cons]
   simp
 have fresh:H₂ s₂.heap.objs.size=none:=I.hok.fresh (Nat.le_refl _)
 have fpl:∀b∈fp,b<s₂.heap.objs.size:=λb hb=>by
  obtain⟨o,ho,_⟩:=T.obj _ _ st b hb
  exact Heap.lt_size ho
 have IV:s₂.heap.objs.size≤H2.objs.size:=by rw[← hH2,Heap.size_push];exact Nat.le_succ _
 have Np:∀b o,s₂.heap.get? b=some o→H2.get? b=some o:=λb o e=>by rw[← hH2];exact Heap.get?_push_of_some _ e
 have old:∀b o,H2.get? b=some o→h₁.get? b=some o:=λb o e=>by rw[hh1];exact pushCells_keeps _ _ _ _ (Heap.get?_push_of_some _ e)
 have hf3:∀b∈fp,jR X pins (upd H₂ s₂.heap.objs.size (.lst [])) b:=λb hb=>⟨by rw[aB (Nat.ne_of_lt (fpl b hb))];exact (hf b hb).1,(hf b hb).2⟩
 have I₄:=Cf (t':=s₂.toks) (N':=N') (C:=H2.objs.size) (h₁:=h₁) hS I₃ Lg Nm Nn rfl old ⟨_,hns₁⟩ hf3 λb hb=>Nat.lt_of_lt_of_le (fpl b hb) IV
 have st4:tn 0 h₁:=T.keep _ _ _ st λb hb o e=>old b o (Np b o e)
 obtain⟨W,⟨m0,w0⟩,turn⟩:=hq s₂.heap.objs.size fresh
 generalize hX':b9 X N' scope cl' H2.objs.size { s₂ with heap:=H2 } (upd H₂ s₂.heap.objs.size (.lst [])) fp=X' at I₄
 have hg':PG X' tg g:=hX' ▸ hg _ _ _ _ _
 have hc':kP X' ifs tc:=hX' ▸ hc _ _ _ _ _
 have he':PE X' elt te:=hX' ▸ he _ _ _ _ _
 have e1:X'.prog=X.prog:=by rw[← hX'];rfl
 have e2:X'.w=X.w:=by rw[← hX'];rfl
 have e3:X'.K=X.K:=by rw[← hX'];rfl
 have e4:X'.calm=true:=by rw[← hX'];exact mz
 have e5:X'.A=X.A:=by rw[← hX'];rfl
 have e6:X'.env=compEnvC scope cl' H2.objs.size X.env:=by rw[← hX'];rfl
 have e7:X'.xe=λ_ _=>False:=by rw[← hX'];rfl
 have wz:∀{H':Hp},(∀b∈fp,H' b=none)→∀b∈fp,jR X' [] H' b:=λ{H'} hn b hb=>by
  refine⟨hn b hb,?_,?_,?_,λx c h=>?_,λp hp=>?_⟩
  ·rw[e6];exact Nat.ne_of_lt (Nat.lt_of_lt_of_le (fpl b hb) IV)
  ·rw[← hX']
   intro hs
   rcases List.mem_cons.mp (I.tH b hs) with z|z
   ·exact (hf b hb).2.1 z
   ·exact (hf b hb).2.2.1 z
  ·rw[← hX'];exact .inl hb
  ·rw[e6] at h
   rcases Lg x c h with a|⟨_,a,_⟩
   ·exact (hf b hb).2.2.2.2.1 x c a
   ·rw[a]
    have q1:=Nat.lt_of_lt_of_le (fpl b hb) IV
    exact λq=>absurd (q ▸ q1) (Nat.not_lt.mpr (Nat.le_succ _))
  ·rw[← hX'] at hp;cases hp
 have loop:∀s₃:Shared,Inv X' [] (rD mp σ) (upd H₂ s₂.heap.objs.size (.lst [])) s₃→tn 0 s₃.heap →
   codeAny (model X.prog X.w) X.A (.compLoop (.ListComp elt [⟨tg,iter,ifs,0⟩] scope pos) 0 (.ref it) (.ref s₂.heap.objs.size) (compEnvC scope cl' H2.objs.size X.env)) (RR (.ref s₂.heap.objs.size) H2.objs.size) s₃:=by
  intro s₃ I₃' st3
  refine tX (λn s'=>∃i σ' H',Inv X' [] σ' H' s'∧tn i s'.heap∧(∀b∈fp,H' b=none)∧W i n σ' H') ?_ m0 ⟨0,_,_,I₃',st3,λb hb=>(hf3 b hb).1,w0⟩
  rintro n s4 ⟨i,σ4,H4,I4,st4,fr4,w4⟩
  rcases turn i n σ4 H4 w4 with ⟨stop,qn⟩|⟨go,N,hN,step⟩
  ·have q:=T.done X' e1 e2 e3 e4 i [] s4 σ4 H4 (λ_ _=>False) I4 (wz fr4) st4 stop
   rw[e5] at q
   refine thn q λr s5 ak=>?_
   obtain⟨hr,I5⟩:=ak
   subst hr
   have I6:Inv X pins σ H4 s5:=by
    subst hX'
    exact I₃.Km (ch:=fp) I5.os I5.base I5.hok I5.bare λb hb=>⟨(hf3 b hb).2.2.2.1,(hf3 b hb).2.1,(hf3 b hb).2.2.2.2.1,(hf3 b hb).2.2.2.2.2⟩
   have hC:H4 H2.objs.size=none:=by
    have:=I5.free
    rw[e6] at this
    exact this
   have hns:∃m,s5.heap.Ns H2.objs.size m:=by
    obtain⟨m,hm,_⟩:=I5.loc
    rw[e6] at hm
    exact⟨m,hm⟩
   exact fin _ _ s5 H4 I6 (I₃.u0 (Nat.le_refl _) hC) hns qn
  ·have q:=T.item X' e1 e2 e3 e4 i [] s4 σ4 H4 (λ_ _=>False) I4 (wz fr4) st4 go
   rw[e5] at q
   refine thn q λr s5 df=>?_
   obtain⟨u,hr,h5⟩:=df
   subst hr
   refine thn h5 λ_ s6 uZ=>?_
   obtain⟨x,H6,I6,r6,y6,st6,fr6⟩:=uZ
   have I6':=I6.pinned (wz fr6) (T.obj _ _ st6)
   have g6:=hg' _ s6 σ4 H6 x u _ I6' r6 (step x H6 y6)
   rw[e1,e2,e5,e6,e7] at g6
   refine thn g6 λ_ s7 Lh=>?_
   obtain⟨σ7,H7,I7,q7⟩:=Lh
   have c7:=hc' _ s7 σ7 H7 _ I7 q7
   rw[e1,e2,e5,e6,e7] at c7
   refine thn c7 λok s8 Li=>?_
   obtain⟨H8,I8,q8⟩:=Li
   have again:∀{s9:Shared}{σ9:St}{H9:Hp},Inv X' ([]++pe fp s6.heap) σ9 H9 s9→N σ9 H9→∃m,m<n∧∃i σ' H',Inv X' [] σ' H' s9∧tn i s9.heap∧(∀b∈fp,H' b=none)∧W i m σ' H':=λ{s9 σ9 H9} I9 n9=>by
    obtain⟨m',hm,w9⟩:=hN σ9 H9 n9
    refine⟨m',hm,i+1,σ9,H9,I9.lZ,T.keep _ _ _ st6 λb hb o e=>(I9.pin (b,o) (List.mem_append_right _ (List.mem_append_right _ (ja hb e)))).1,λb hb=>?_,w9⟩
    obtain⟨o,e,d⟩:=T.obj _ _ st6 b hb
    exact (I9.pin (b,o) (List.mem_append_right _ (List.mem_append_right _ (ja hb e)))).2.1
   cases ok with
   | false =>
    rw[if_neg Bool.false_ne_true] at q8 ⊢
    exact again I8 q8
   | true =>
    rw[if_pos rfl] at q8 ⊢
    have l8:=he' _ s8 σ7 H8 _ I8 q8
    rw[e1,e2,e5,e6,e7] at l8
    refine thn l8 λy s9 Lj=>?_
    obtain⟨z,H9,I9,r9,q9⟩:=Lj
    have a9:=(sk (X:=X')) _ s9 σ7 H9 (.ref s₂.heap.objs.size) [z] (.ref s₂.heap.objs.size) [y] _ I9 rfl (.cons r9 .nil) q9
    rw[e1,e2,e5,e7] at a9
    refine thn a9 λ_ s10 ⟨_,H10,I10,_,q10⟩=>again I10 q10
 refine codeAny_compStart_list (loop _ I₄ st4) ?_
 exact T.self X.A 0 _ _ _ st4 (loop _ I₄ st4)
theorem Fl{wi:TI}(hx:X.xe=λ_ _=>False)(hS:e_ X N' scope mp)(mz:X.calm=true)(hi:PI X tg iter wi)(hg:∀cl C s₀ H₀ ex,PG (b9 X N' scope cl C s₀ H₀ ex) tg g)(hc:∀cl C s₀ H₀ ex,kP (b9 X N' scope cl C s₀ H₀ ex) ifs tc)
  (he:∀cl C s₀ H₀ ex,PE (b9 X N' scope cl C s₀ H₀ ex) elt te) (hs:∀x,foldedSetIterable iter X.env x=pure x:=by intro _;rfl) :
  PE X (.ListComp elt [⟨tg,iter,ifs,0⟩] scope pos) (λσ H Q=>wi σ H λJ H1=>yT J mp g tc te σ H1 Q):=by
 intro pins s σ H Q I h
 have hfr:∀y∈scope.names,y.2=.free→∃c,X.env.cells.lookup y.1=some c:=λy hy hk=>I.ok.has y.1 (hS.free y hy hk)
 obtain⟨cl,hcl,h1,h2⟩:=pR hfr
 rw[eval_ListComp]
 refine wpAny_comprehension_free (use:=none) rfl hs hcl hS.kind hS.loc (thn (hi pins s σ H _ I h) λv s1 q1=>thn q1 λitv s2 ak=>?_)
 obtain⟨it,fp,tn,J,H2,e,I2,T,st2,f2,q2⟩:=ak
 subst e
 refine sF (RR:=λacc C=>compPost (model X.prog X.w) X.A X.xe none (EP X pins σ Q) acc C) hS mz hg hc he h1 h2 I2 T st2 f2 q2 λp C s' H' I' fp' ns q'=>?_
 obtain⟨m,hm⟩:=ns
 refine⟨m,hm,λh' sb=>⟨.ref p,H',?_,rfl,q'⟩⟩
 exact I'.turned (t':=s'.toks) (λb o hb e=>(sb.2 b hb).trans e) fp'.1 fp'.2.1 fp'.2.2.2.1 fp'.2.2.2.2.1 fp'.2.2.2.2.2
theorem vq{wi:TI}{i:Nat}{y:Str}{py Cg:Pos}(hx:X.xe=λ_ _=>False)(hS:e_ X N' scope mp)(mz:X.calm=true)(hi:PI X tg iter wi)(hg:∀cl C s₀ H₀ ex,PG (b9 X N' scope cl C s₀ H₀ ex) tg g)
  (hc:∀cl C s₀ H₀ ex,kP (b9 X N' scope cl C s₀ H₀ ex) ifs tc) (he:∀cl C s₀ H₀ ex,PE (b9 X N' scope cl C s₀ H₀ ex) elt te) (hN:X.N.Nodup) (hiN:X.N[i]?=some y) (hl:Loc X.env.scope y)
  (hsw:swapsWith (.ListComp elt [⟨tg,iter,ifs,0⟩] scope pos) (some (.Name y py)) Cg.line X.env=pure true) (hs:∀x,foldedSetIterable iter X.env x=pure x:=by intro _;rfl)
  (hf:X.fn y=true∨X.env.scope.names.lookup y=some .local:=by first|exact .inl rfl|exact .inr rfl|assumption) :
  PS X (.Assign [.Name y py] (.ListComp elt [⟨tg,iter,ifs,0⟩] scope pos) Cg) (HN (λσ H Q=>wi σ H λJ H1=>yT J mp g tc te σ H1 Q) (Bg i)):=by
 intro pins s σ H D I h
 have hfr:∀y∈scope.names,y.2=.free→∃c,X.env.cells.lookup y.1=some c:=λy hy hk=>I.ok.has y.1 (hS.free y hy hk)
 obtain⟨cl,hcl,h1,h2⟩:=pR hfr
 rw[exec_Assign_Name_used _ _ _ _ hsw]
 refine wpAny_bind (wpAny_standAt (wpAny_bind ?_))
 show wpAny _ X.A (do let _ ← comprehension (.ListComp elt [⟨tg,iter,ifs,0⟩] scope pos) scope X.env _ (newList []) false (eval iter X.env) (some (assign (.Name y py) X.env))) _ _ s
 refine wpAny_bind (wpAny_mono (wpAny_comprehension_free (use:=some (assign (.Name y py) X.env)) (Q:=λ_ s'=>SP X pins D .next s') rfl hs hcl hS.kind hS.loc
  (thn (hi pins s σ H _ I h) λv s1 q1=>thn q1 λitv s2 ⟨it,fp,tn,J,H2,e,I2,T,st2,f2,q2⟩=>?_)) (λ_ s' hq=>wpAny_pure (wpAny_pure hq)) λ_ _ e=>e)
 subst e
 refine sF (RR:=λacc C=>compPost (model X.prog X.w) X.A X.xe (some (assign (.Name y py) X.env)) (λ_ s'=>SP X pins D .next s') acc C) hS mz hg hc he h1 h2 I2 T st2 f2 q2 λp C s' H' I' fp' ns q'=>?_
 obtain⟨m,hm⟩:=ns
 obtain⟨oC,es,ep,hoC,rC⟩:=id hm
 show wpAny _ X.A (assign (.Name y py) X.env (.ref p)) _ _ _
 refine wpAny_assign_Name (sd I' hN hiN hl (v:=.ref p) rfl (λs'' I'' sb=>?_) hf)
 obtain⟨a,sb,ha⟩:=sb
 have hCa:C≠a:=by
  rcases ha with rfl|ha
  ·exact fp'.2.1
  ·exact λz=>fp'.2.2.2.2.1 y a ha z.symm
 refine⟨m,⟨oC,es,ep,(sb.2 C hCa).trans hoC,rC⟩,λh3 sb3=>⟨_,H',?_,q'⟩⟩
 exact I''.turned (t':=s''.toks) (λb o hb e=>(sb3.2 b hb).trans e) fp'.1 fp'.2.1 fp'.2.2.2.1 fp'.2.2.2.2.1 fp'.2.2.2.2.2
end
end L2
namespace Fw
open PySem PySem.Spec PyProof.Rows L2
section
variable{K:PySem.W.Frag}{F F' F1 F2 H H' H1 H2:Hp}{α α' α1 α2:List Addr}{μ μ':af}{e:Slots}{σ:L2.St}
theorem pS{mp:List (Option Nat)}{i:Nat}{x:SV}(h:slot (ini mp e) i=some x):∃j,mp[i]?=some (some j)∧slot e j=some x:=by
 unfold slot ini at h
 rw[List.getElem?_map] at h
 cases q:mp[i]? with
 | none=>rw[q] at h;cases h
 | some o =>
  cases o with
  | none=>rw[q] at h;cases h
  | some j =>
   rw[q] at h
   refine⟨j,rfl,?_⟩
   simp only[Option.map_some,Option.bind_some] at h
   cases z:slot e j with
   | none=>rw[z] at h;cases h
   | some y=>rw[z] at h;cases h;rfl
theorem Sim.ini(S:Sim K F α e μ σ H)(mp:List (Option Nat)):Sim K F α (Fw.ini mp e) μ (rD mp σ) H:=by
 refine⟨S.st,λi x h=>?_,by unfold Fw.ini rD;rw[List.length_map,List.length_map]⟩
 obtain⟨j,hj,hx⟩:=pS h
 obtain⟨v,hv,ok⟩:=S.sl j x hx
 refine⟨v,?_,ok⟩
 unfold rD
 rw[List.getElem?_map,hj]
 simp[hv]
theorem cM.IW{p:Addr}{o:HO}(S:cM K F α μ H)(h1:F p=none)(h2:p∉α)(n:NT o:=by intro _ h;cases h):cM K F α μ (upd H p o):=by
 have na:∀{k:Nat}{a:Addr},α[k]?=some a→a≠p:=λ{k a} h q=>h2 (by rw[← q];exact List.mem_of_getElem? h)
 refine⟨λa z hz=>?_,S.len,S.nd,λk a g=>?_,λk b u a g1 g2=>?_,S.tps.upd n⟩
 ·rw[aB (λq=>by subst q;rw[h1] at hz;cases hz)];exact S.ext a z hz
 ·rw[aB (na g)];exact S.there k a g
 ·obtain⟨c1,c2⟩:=S.cell k b u a g1 g2
  refine⟨λhb=>⟨(c1 hb).1,?_⟩,c2⟩
  have d2:=(c1 hb).2
  cases u with
  | lst ts=>obtain⟨vs,w1,w2⟩:=d2;exact⟨vs,by rw[aB (na g2)];exact w1,w2⟩
  | dct ts=>obtain⟨vs,w1,w2⟩:=d2;exact⟨vs,by rw[aB (na g2)];exact w1,w2⟩
  | dtt fz ts=>exact⟨d2.1,(aB (na g2)).trans d2.2⟩
  | _=>exact d2.elim
theorem Ex.IW{p:Addr}{o:HO}(x:Ex F α H F' α' H')(h:H p=none):Ex F α H F' α' (upd H' p o):=⟨x.same,x.pre,λb z h1 h2 h3=>by
 obtain⟨g1,g2,g3⟩:=x.fr b z h1 h2 h3
 exact⟨by rw[aB (λq=>by subst q;rw[h] at h1;cases h1)];exact g1,g2,g3⟩⟩
theorem Sim.back{e':Slots}(S:Sim K F α e' μ σ H)(hl:e.length=e'.length)(h:∀j x,slot e j=some x→slot e' j=some x):Sim K F α e μ σ H :=
 ⟨S.st,λi x g=>S.sl i x (h i x g),by rw[hl];exact S.len⟩
end
section
variable{X:Cx}{elt iter tg:Expr}{ifs:List Expr}{scope:Scope}{pos:Pos}{N':List Str}{mp:List (Option Nat)}{di:DI}{b:BD}{dc d:D}
def pT(mp:List (Option Nat))(b:BD):Prop:=∀t e e1,b t (ini mp e)=some e1→(ini mp e).length=e1.length∧∀j x,slot (ini mp e) j=some x→slot e1 j=some x
theorem slot_set_ne{e:Slots}{i j:Nat}{x:SV}(h:i≠j):slot (e.set i (some x)) j=slot e j:=by
 unfold slot
 rw[List.getElem?_set_ne h]
theorem aC{i:Nat}(h:mp[i]?=some none):pT mp (ao i):=λt e e1 hb=>by
 cases hb
 refine⟨by rw[List.length_set],λj x hx=>?_⟩
 obtain⟨k,hk,_⟩:=pS hx
 rw[slot_set_ne (λq=>by subst q;rw[h] at hk;cases hk)];exact hx
theorem n_{i i':Nat}(h:mp[i]?=some none)(h':mp[i']?=some none):pT mp (h_ [i,i']):=λt e e1 hb=>by
 cases t with
 | tup ts =>
  unfold h_ at hb
  simp only at hb
  by_cases hl:ts.length=[i,i'].length
  ·rw[if_pos hl] at hb
   match ts,hl with
   | [t1,t2],_ =>
    cases hb
    refine⟨by simp,λj x hx=>?_⟩
    obtain⟨k,hk,_⟩:=pS hx
    have n1:i≠j:=λq=>by subst q;rw[h] at hk;cases hk
    have n2:i'≠j:=λq=>by subst q;rw[h'] at hk;cases hk
    simp only[List.zip_cons_cons,List.zip_nil_right,List.foldl_cons,List.foldl_nil]
    rw[slot_set_ne n2,slot_set_ne n1];exact hx
  ·rw[if_neg hl] at hb;cases hb
 | _=>cases hb
theorem ei{X':Cx}:kP X' [] (tDT X' (dC (.bl true))):=λpins s σ H Q I ak=>by
 obtain⟨F,α,e,μ,S,h⟩:=ak
 obtain⟨b,hb,h⟩:=h
 cases hb
 exact Cc pins s σ H Q I (h H F α Ex.refl S)
theorem bz{X':Cx}{c:Expr}(h:CT X' c dc):kP X' [c] (tDT X' dc):=Cd h
def oD(K:PySem.W.Frag)(d:D):TE:=λσ H Q=>∃F α e μ x μ',Sim K F α e μ σ H∧d e μ=.ok x μ'∧IM K F α H e σ Q x μ'
def oDT(K:PySem.W.Frag)(d:D):TT:=λσ H Q=>∃F α e μ b μ',Sim K F α e μ σ H∧d e μ=.ok (.val (.bl b)) μ' ∧
 ∀H' F' α',Ex F α H F' α' H'→Sim K F' α' e μ' σ H'→Q b H'
theorem G9{X':Cx}{σ:L2.St}{H:Hp}{Q:VK}(h:oD X'.K d σ H Q):tD X' d σ H Q:=by
 obtain⟨F,α,e,μ,x,μ',S,h,p⟩:=h
 exact⟨F,α,e,μ,S,by rw[h];exact p⟩
theorem Ci{X':Cx}{σ:L2.St}{H:Hp}{Q:Bool→Hp→Prop}(h:oDT X'.K d σ H Q):tDT X' d σ H Q:=by
 obtain⟨F,α,e,μ,b,μ',S,h,p⟩:=h
 exact⟨F,α,e,μ,S,by rw[h];exact⟨b,rfl,p⟩⟩
inductive CIv(K:PySem.W.Frag)(same:af→Prop)(items:List T)(b:BD)(dc d:D)(e0:Slots)(us:List T)(μ':af)(F1:Hp)(α1:List Addr)(H1:Hp)(p:Addr)(i:Nat)(σ':L2.St)(Hc:Hp):Prop
 | mk (F2:Hp) (α2:List Addr) (μ3:af) (done rest:List T) (vs:List V) (x2:Ex F1 α1 H1 F2 α2 Hc) (S2:Sim K F2 α2 e0 μ3 σ' Hc) (n1:F2 p=none) (n2:p∉α2) (hv:Hc p=some (.lst vs)) (hr:ay K F2 done vs) (hdl:done.length≤i) (hL:bY same b dc d e0 (items.drop i) μ3=.ok rest μ') (hu:us=done++rest)
theorem sG{σ:L2.St}{H:Hp}{Q:VK}(hb:pT mp b)(h:tF X (aJ di mp b dc d) σ H Q):tDI X di σ H λJ H1=>yT J mp (tBd X.K b) (oDT X.K dc) (oD X.K d) σ H1 Q:=by
 obtain⟨F,α,e,μ,S,h⟩:=h
 refine⟨F,α,e,μ,S,(R.wp_bind h).mono (λW μ1 h J H1 F1 α1 x1 S1 ok=>?_) λ_ _ h=>h⟩
 cases hL:(bY W.same b dc d (ini mp e) W.items μ1).calm with
 | err c μ'=>cases q:bY W.same b dc d (ini mp e) W.items μ1<;>rw[q] at hL<;>cases hL
 | bad=>rw[hL] at h;exact h.elim
 | ok us μ' =>
 rw[hL] at h
 have hL:=R.calm_eq hL
 rw[R.aT] at h
 by_cases hz:W.items.length≤szL
 ·rw[if_pos hz] at h
  obtain⟨t,et,post⟩:=h
  cases et
  intro p hp
  refine⟨λi m σ' Hc=>m=W.items.length-i∧i≤W.items.length∧CIv X.K W.same W.items b dc d (ini mp e) us μ' F1 α1 H1 p i σ' Hc,
   ⟨_,rfl,Nat.zero_le _,.mk F1 α1 μ1 [] us [] (Ex.lay hp) ((S1.ini mp).of (aH.refl _) (List.prefix_refl _) (S1.st.lay hp)) (S1.st.ext.free hp) (b8 S1.st hp) ax ay.iR (Nat.zero_le _) hL rfl⟩,?_⟩
  rintro i m σ2 H2 ⟨rfl,hi',hC⟩
  obtain⟨F2,α2,μ3,done,rest,vs,x2,S2,n1,n2,hv,hr,hdl,hL,hu⟩:=hC
  by_cases hlt:i<W.items.length
  ·rw[List.drop_eq_getElem_cons hlt] at hL
   unfold bY at hL
   by_cases hs:W.same μ3
   ·rw[if_pos hs] at hL
    obtain⟨g1,g2⟩:=ok F2 α2 μ3 H2 x2.same x2.pre S2.st hs
    obtain⟨go,yl⟩:=g1 i W.items[i] (by simp[hlt])
    cases hb':b W.items[i] (ini mp e) with
    | none=>simp only[hb'] at hL;cases hL
    | some e3 =>
     simp only[hb'] at hL
     obtain⟨y0,μ4,hy,hL⟩:=R.aR hL
     have hy:=R.calm_eq hy
     obtain⟨k,μ5,hk,hK⟩:=R.aR hL
     obtain⟨hk1,hk2⟩:=R.lb hk
     subst hk2
     have ek:=w5 hk1
     rw[ek] at hy
     clear hL hk hk1 ek
     obtain⟨hl3,hb3⟩:=hb _ _ _ hb'
     refine .inr ⟨go,CIv X.K W.same W.items b dc d (ini mp e) us μ' F1 α1 H1 p (i+1),λσ' H' q=>⟨W.items.length-(i+1),by lia,rfl,hlt,q⟩,λx H3 yy=>?_⟩
     obtain⟨F3,gr,rp⟩:=yl x H3 yy
     have x3:Ex F2 α2 H2 F3 α2 H3:=gr.ex S2.st.ext
     refine⟨F3,α2,ini mp e,μ3,W.items[i],e3,S2.grow gr,rp,hb',λσ4 S4=>?_⟩
     refine⟨F3,α2,e3,μ3,k,μ4,S4,hy,λH5 F5 α5 x5 S5=>?_⟩
     obtain⟨v3,n3,m3⟩:=x3.fr p _ hv n1 n2
     obtain⟨v5,n5,m5⟩:=x5.fr p _ v3 n3 m3
     cases k with
     | false =>
      rw[if_neg Bool.false_ne_true] at hK ⊢
      exact .mk F5 α5 μ4 done rest vs (x2.trans (x3.trans x5)) (S5.back hl3 hb3) n5 m5 v5 (ay.mono (x3.same.trans x5.same) _ _ hr) (Nat.le_succ_of_le hdl) hK hu
     | true =>
      rw[if_pos rfl] at hK ⊢
      obtain⟨y2,μ6,hd,hK⟩:=R.aR hK
      have hd:=R.calm_eq hd
      obtain⟨u,μ7,hfz,hK⟩:=R.aR hK
      obtain⟨us',μ8,hL2,hK⟩:=R.aR hK
      cases hK
      refine⟨F5,α5,e3,μ4,y2,μ6,S5,hd,λv H6 F6 α6 x6 S6 o6=>?_⟩
      obtain⟨v6,n6,m6⟩:=x6.fr p _ v5 n5 m5
      obtain⟨F7,s7,ne7,S7,r7⟩:=lr S6.st o6 hfz
      have hvl:vs.length<sizeLine:=by
       have:=hr.length
       have hz':W.items.length≤sizeLine:=hz
       lia
      have n7:F7 p=none:=by rw[ne7 p m6];exact n6
      have x7:Ex F1 α1 H1 F7 α6 H6:=x2.trans (x3.trans (x5.trans (x6.trans (Ex.nZ s7 ne7))))
      refine⟨p,vs,v,rfl,rfl,v6,hvl,.mk F7 α6 μ7 (done++[u]) us' (vs++[v]) (x7.IW hp) ?_ n7 m6 ax ?_ ?_ hL2 ?_⟩
      ·exact ((S6.back hl3 hb3).of s7 (List.prefix_refl _) S7).of (aH.refl _) (List.prefix_refl _) (S7.IW n7 m6)
      ·exact (ay.mono (x3.same.trans (x5.same.trans (x6.same.trans s7))) _ _ hr).append (ay.one r7)
      ·rw[List.length_append,List.length_singleton];lia
      ·rw[hu,List.append_assoc];rfl
   ·rw[if_neg hs] at hL;cases hL
  ·have e1:i=W.items.length:=by lia
   subst e1
   rw[List.drop_length] at hL
   unfold bY at hL
   by_cases hs:W.same μ3
   ·rw[if_pos hs] at hL
    cases hL
    obtain⟨g1,g2⟩:=ok F2 α2 _ H2 x2.same x2.pre S2.st hs
    refine .inl ⟨g2,post p H2 F2 α2 (x1.trans x2) (S1.of x2.same x2.pre S2.st) (x1.was S1.st hp) n1 n2 ⟨vs,hv,?_⟩⟩
    rw[hu,List.append_nil];exact hr
   ·rw[if_neg hs] at hL;cases hL
 ·rw[if_neg hz] at h;exact h.elim
theorem dS{e:Slots}{μ μ':af}{x:SV}(h:aJ di mp b dc d e μ=.ok x μ'):∃t,x=.val t:=by
 unfold aJ at h
 obtain⟨W,μ1,hW,h⟩:=R.aR h
 obtain⟨us,μ2,hL,h⟩:=R.aR h
 by_cases hz:W.items.length≤szL
 ·rw[if_pos hz] at h;cases h;exact⟨_,rfl⟩
 ·rw[if_neg hz] at h;cases h
theorem kP.imp{X':Cx}{cs:List Expr}{t t':TT}(h:kP X' cs t)(i:∀σ H Q,t' σ H Q→t σ H Q):kP X' cs t':=λpins s σ H Q I q=>h pins s σ H Q I (i σ H Q q)
theorem cN(hx:X.xe=λ_ _=>False)(hS:e_ X N' scope mp)(mz:X.calm=true)(hb:pT mp b)(hi:CI X tg iter di)(hg:∀cl C s₀ H₀ ex,CB (b9 X N' scope cl C s₀ H₀ ex) tg b)
  (hc:∀cl C s₀ H₀ ex,kP (b9 X N' scope cl C s₀ H₀ ex) ifs (tDT (b9 X N' scope cl C s₀ H₀ ex) dc)) (he:∀cl C s₀ H₀ ex,CE (b9 X N' scope cl C s₀ H₀ ex) elt d) (hs:∀x,foldedSetIterable iter X.env x=pure x:=by intro _;rfl) :
  CF X (.ListComp elt [⟨tg,iter,ifs,0⟩] scope pos) (aJ di mp b dc d) :=
 ⟨PE.imp (Fl hx hS mz hi (g:=tBd X.K b) hg (λcl C s₀ H₀ ex=>kP.imp (hc cl C s₀ H₀ ex) λσ H Q q=>Ci (X':=b9 X N' scope cl C s₀ H₀ ex) q) (te:=oD X.K d) (λcl C s₀ H₀ ex=>PE.imp (he cl C s₀ H₀ ex) λσ H Q q=>G9 (X':=b9 X N' scope cl C s₀ H₀ ex) q) hs) λσ H Q q=>sG hb q,λ_ _ _ _ h=>dS h⟩
theorem cO(i:Nat){y:Str}{py Cg:Pos}(hx:X.xe=λ_ _=>False)(hS:e_ X N' scope mp)(mz:X.calm=true)(hb:pT mp b)(hi:CI X tg iter di)(hg:∀cl C s₀ H₀ ex,CB (b9 X N' scope cl C s₀ H₀ ex) tg b)
  (hc:∀cl C s₀ H₀ ex,kP (b9 X N' scope cl C s₀ H₀ ex) ifs (tDT (b9 X N' scope cl C s₀ H₀ ex) dc)) (he:∀cl C s₀ H₀ ex,CE (b9 X N' scope cl C s₀ H₀ ex) elt d) (hN:X.N.Nodup) (hiN:X.N[i]?=some y:=by rfl) (hl:Loc X.env.scope y:=by first|exact Or.inl rfl|exact Or.inr rfl)
  (hsw:swapsWith (.ListComp elt [⟨tg,iter,ifs,0⟩] scope pos) (some (.Name y py)) Cg.line X.env=pure true:=by rfl) (hs:∀x,foldedSetIterable iter X.env x=pure x:=by intro _;rfl)
  (hf:X.fn y=true∨X.env.scope.names.lookup y=some .local:=by first|exact .inl rfl|exact .inr rfl|assumption) :
  PS X (.Assign [.Name y py] (.ListComp elt [⟨tg,iter,ifs,0⟩] scope pos) Cg) (λD σ H=>tF X (aJ di mp b dc d) σ H λv H1=>D.nx (σ.set i (some v)) H1) :=
 PS.imp (vq hx hS mz hi (g:=tBd X.K b) hg (λcl C s₀ H₀ ex=>kP.imp (hc cl C s₀ H₀ ex) λσ H Q q=>Ci (X':=b9 X N' scope cl C s₀ H₀ ex) q) (te:=oD X.K d) (λcl C s₀ H₀ ex=>PE.imp (he cl C s₀ H₀ ex) λσ H Q q=>G9 (X':=b9 X N' scope cl C s₀ H₀ ex) q) hN hiN hl hsw hs hf) λD σ H q=>sG hb q
theorem dE{st:Stmt}{i:Nat}{da:D}(h:PS X st (λD σ H=>tF X da σ H λv H1=>D.nx (σ.set i (some v)) H1))(hv:∀e μ x μ',da e μ=.ok x μ'→∃t,x=.val t):CS X st (az i da) :=
 PS.imp h λD σ H ⟨F,α,e,μ,S,h⟩=>vk hv ⟨F,α,e,μ,S,(aQ.toS h).mono (λx μ1 h v H1 F1 α1 x1 S1 o1=>h _ H1 F1 α1 x1 (S1.set o1)) λ_ _ h=>h⟩
end
def spD(K:PySem.W.Frag)(fn:FN)(n:Nat):Sp:=λvs H Q _=>vs.length=n∧∃F α μ xs r μ',cM K F α μ H∧Paired (λv x=>fk K F α v x) vs xs∧fn xs μ=.ok r μ' ∧
 ∀v H' F' α',Ex F α H F' α' H'→cM K F' α' μ' H'→fk K F' α' v r→Q v H'
section
variable{X:Cx}{f:Addr}{fd:FuncData}{ps:List Str}{x:Str}{p pos:Pos}{e:Expr}{es:List Expr}{ds:List D}{fn:FN}{k:Nat}
theorem Ad{σ:L2.St}{H:Hp}{Q:VK}(hl:ds.length=ps.length)(h:tD X (aw (cal fn) ds) σ H Q):G6 (spD X.K fn ps.length) [] E0 (tDA X ds) σ H Q:=by
 obtain⟨F,α,e,μ,S,h⟩:=h
 refine⟨F,α,e,μ,S,(fu (R.wp_bind h)).mono (λxs μ1 ak vs H1 F1 α1 x1 S1 o1=>?_) λ_ _ h=>h⟩
 obtain⟨hn,h⟩:=ak
 show spD X.K fn ps.length (vs++[]) H1 Q E0
 rw[List.append_nil]
 have h:((fn xs μ1).calm).wp (IM X.K F α H e σ Q) (fK X F α H e):=h
 cases q:fn xs μ1 with
 | err c μ2=>rw[q] at h;exact h.elim
 | bad=>rw[q] at h;exact h.elim
 | ok r μ2 =>
  rw[q] at h
  exact⟨by rw[o1.length,hn,hl],F1,α1,μ1,xs,r,μ2,S1.st,o1,q,λv H2 F2 α2 x2 S2 o2=>h v H2 F2 α2 (x1.trans x2) (S1.of x2.same x2.pre S2) o2⟩
theorem aF(G:aV X.prog X.w X.K X.mg X.base CX0 k f fd ps (spD X.K fn ps.length))(hr:dg k X.A)(hm:X.mg x=some (.ref f))(hk:PySem.W.keepIn X.K (.ref f)=true)(hb:Binds X.K fd ps [])(ha:CA X (e::es) ds)
  (hl:ds.length=ps.length:=by rfl) (hg:Gl X x:=by rfl) (hdb:(x==("__debug__":Str))=false:=by decide) (he:starEach (e::es) X.env=(false,eval e X.env)::starEach es X.env:=by rfl) (hpl:(backTo pos (starEach es X.env)).any (·.1)=false:=by rfl) :
  CE X (.Call (.Name x p) (e::es) [] pos) (aw (cal fn) ds):=PE.imp (EA G hr hg hm hk hb .nil K4 ha hdb he hpl) λσ H Q q=>Ad hl q
theorem oW{id:String}{r:List V→Hp→VK→Prop}{g:T→Option T}{d:D}(hc:d6 X (.builtin id) r)(hs:pM X.K r g)(hm:X.mg x=none)(hv:bootBuiltins x=some (.builtin id))(ha:CE X e d)(hg:Gl X x:=by rfl)(hn:x≠"__name__":=by decide)
  (hdb:(x==("__debug__":Str))=false:=by decide) (hs1:starEach [e] X.env=(false,eval e X.env)::starEach [] X.env:=by rfl) (hpl:(backTo pos (starEach [] X.env)).any (·.1)=false:=by rfl):CE X (.Call (.Name x p) [e] [] pos) (dUn g d) :=
 PE.imp (jT hc hg hm hv (ag ha av hs1) hn hdb hs1 hpl) (G8 hs)
theorem IX{id:String}{r:List V→Hp→VK→Prop}{g:T→Option T}{d:D}(hc:d6 X (.type id) r)(hs:pM X.K r g)(hm:X.mg x=none)(hv:bootBuiltins x=some (.type id))(ha:CE X e d)(hg:Gl X x:=by rfl)(hn:x≠"__name__":=by decide)
  (hdb:(x==("__debug__":Str))=false:=by decide) (hs1:starEach [e] X.env=(false,eval e X.env)::starEach [] X.env:=by rfl) (hpl:(backTo pos (starEach [] X.env)).any (·.1)=false:=by rfl):CE X (.Call (.Name x p) [e] [] pos) (dUn g d) :=
 PE.imp (sj hc hg hm hv (ag ha av hs1) hn hdb hs1 hpl) (G8 hs)
theorem Cj{id:String}{r:List V→Hp→VK→Prop}{g:T→Option T}{d:D}(hc:d6 X (.type id) r)(hs:vi X.K r g)(hm:X.mg x=none)(hv:bootBuiltins x=some (.type id))(ha:CE X e d)(hg:Gl X x:=by rfl)(hn:x≠"__name__":=by decide)
  (hdb:(x==("__debug__":Str))=false:=by decide) (hs1:starEach [e] X.env=(false,eval e X.env)::starEach [] X.env:=by rfl) (hpl:(backTo pos (starEach [] X.env)).any (·.1)=false:=by rfl):CF X (.Call (.Name x p) [e] [] pos) (dUn g d) :=
 ⟨PE.imp (sj hc hg hm hv (ag ha av hs1) hn hdb hs1 hpl) (B8 hs),λ_ _ _ _ h=>yQ h⟩
end
inductive Md where
 | V|D|K
def Md.fn:Md→Nat→DS→FN
 | .V=>fnV
 | .D=>fnD
 | .K=>fnK
section
variable{P:Program}{w:World}{K:PySem.W.Frag}{mg:Str→Option Value}{base:Heap}
theorem Ae{F H:Hp}{α:List Addr}{μ:af}{N:List Str}{vs:List V}{xs:List SV}(S:cM K F α μ H)(o:Paired (λv x=>fk K F α v x) vs xs):Sim K F α (starts N.length xs) μ (L2.start N vs) H:=by
 unfold starts
 have hl:=o.length
 refine⟨S,λi x h=>?_,by unfold L2.start;simp[hl]⟩
 have get:∀{vs:List V}{xs:List SV}{i:Nat}{x:SV},Paired (λv x=>fk K F α v x) vs xs→xs[i]?=some x→∃v,vs[i]?=some v∧fk K F α v x:=λ{vs}=>by
  intro xs i x o
  induction o generalizing i with
  | nil=>intro e;simp at e
  | cons r _ ih =>
   intro e
   cases i with
   | zero=>simp at e;subst e;exact⟨_,rfl,r⟩
   | succ i =>
    obtain⟨v,h1,h2⟩:=ih (i:=i) (by simpa using e)
    exact⟨v,by simpa using h1,h2⟩
 unfold slot at h
 by_cases hi:i<xs.length
 ·rw[List.getElem?_append_left (by simpa using hi),List.getElem?_map] at h
  cases q:xs[i]? with
  | none=>rw[q] at h;cases h
  | some y =>
   rw[q] at h
   cases h
   obtain⟨v,h1,h2⟩:=get o q
   refine⟨v,?_,h2⟩
   unfold L2.start
   rw[List.getElem?_append_left (by simpa [hl] using hi),List.getElem?_map,h1]
   rfl
 ·rw[List.getElem?_append_right (by simpa using hi),List.getElem?_replicate] at h
  split at h<;>rename_i q
  ·split at q<;>cases q
  ·cases h
theorem cp{x qual:Str}{st:Stmt}{f:Addr}{fd:FuncData}{N ps:List Str}{k:Nat}{d:DS}(md:Md)(F:Fun K x qual st f fd)(S:aP N ps (ai st))
  (hb:∀(cdv:Value) (A:Around) (outer:List Env) (s:Shared) (H:Hp) (E:XK),dg k (A.deeper (envOfC qual (ai st) s.heap.objs.size f cdv))→CSs (wC CX0 P w K mg base N qual (ai st) f cdv A outer s H E).nox (aL st) d) :
  aV P w K mg base CX0 (k+1) f fd ps (spD K (md.fn N.length d) ps.length):=by
 refine F.ok S (λvs H Q E h=>h.1) λcdv A outer s H vs Q E hr h=>⟨_,hb cdv A outer s H E hr,?_⟩
 obtain⟨hl,F0,α,μ,xs,r,μ',S0,o,h,post⟩:=h
 refine⟨F0,α,_,μ,Ae S0 o,?_⟩
 have fin:∀{y:SV}{μ1:af}{v:V}{H1 F1:Hp}{α1:List Addr},(match md with
   | .V=>ice μ.length y μ1
   | .D=>gc μ.length y μ1
   | .K=>.ok y μ1)=.ok r μ'→Ex F0 α H F1 α1 H1→cM K F1 α1 μ1 H1→fk K F1 α1 v y→Q v H1:=λ{y μ1 v H1 F1 α1} hg x1 S1 o1=>by
  cases md with
  | V =>
   obtain⟨F2,g1,g2,g3,g4⟩:=IL S0.len x1.pre S1 o1 hg
   exact post v H1 F2 α ⟨x1.same.trans g1,List.prefix_refl _,λb z h1 h2 h3=>let ⟨a1,a2,a3⟩:=x1.fr b z h1 h2 h3;⟨a1,by rw[g2 b a3];exact a2,h3⟩⟩ g3 g4
  | D =>
   obtain⟨γ,g1,g2,g3,g4⟩:=K9 S0.len x1.pre S1 o1 hg
   exact post v H1 F1 γ ⟨x1.same,g1,λb z h1 h2 h3=>let ⟨a1,a2,a3⟩:=x1.fr b z h1 h2 h3;⟨a1,a2,λhm=>a3 (g2 b hm)⟩⟩ g3 g4
  | K =>
   cases hg
   exact post v H1 F1 α1 x1 S1 o1
 cases q:d (starts N.length xs) μ with
 | rt y μ1=>exact λv H1 F1 α1 x1 S1 o1=>fin (by cases md<;>(simp only[Md.fn,fM,lj,j6,q] at h;exact h)) x1 S1 o1
 | nx e1 μ1=>exact λσ1 H1 F1 α1 x1 S1=>fin (y:=.val .non) (by cases md<;>(simp only[Md.fn,fM,lj,j6,q] at h;exact h)) x1 S1.st (Rep.K8 (K:=K) (F:=F1))
 | bk e1 μ1=>cases md<;>(simp only[Md.fn,fM,lj,j6,q] at h;cases h)
 | ct e1 μ1=>cases md<;>(simp only[Md.fn,fM,lj,j6,q] at h;cases h)
 | err c e1 μ1=>cases md<;>(simp only[Md.fn,fM,lj,j6,q] at h;cases h)
 | bad=>cases md<;>(simp only[Md.fn,fM,lj,j6,q] at h;cases h)
end
end Fw
namespace Fw
open PySem
section
variable{α:Type}{μ:List α}{a b c x:α}{l:List α}
@[simp] theorem jl:(μ++a::l)[μ.length]?=some a:=by simp
@[simp] theorem yU:(μ++a::b::l)[μ.length+1]?=some b:=by simp[List.getElem?_append_right]
@[simp] theorem yV:(μ++a::l).set μ.length x=μ++x::l:=by simp
@[simp] theorem Fm:(μ++a::b::l).set (μ.length+1) x=μ++a::x::l:=by simp[List.set_append]
@[simp] theorem tY:(μ++l).take μ.length=μ:=by simp
end
@[simp] theorem pU(μ:af)(k:Nat):rd μ (.cel k)=(μ[k]?).map (·.2):=(rfl)
theorem w8{μ:af}{k:Nat}{b:Bool}{t:T}(h:μ[k]?=some (b,t)):frz (.cel k) μ=.ok t (μ.set k (false,t)):=by
 unfold frz;simp only[h]
@[simp] theorem MG(μ l:af)(b:Bool)(t:T):frz (.cel μ.length) (μ++(b,t)::l)=.ok t (μ++(false,t)::l):=by
 rw[w8 (b:=b) (t:=t) (by simp)];simp
@[simp] theorem MH(μ l:af)(a:Bool×T)(b:Bool)(t:T):frz (.cel (μ.length+1)) (μ++a::(b,t)::l)=.ok t (μ++a::(false,t)::l):=by
 rw[w8 (b:=b) (t:=t) (by simp)];simp
@[simp] theorem Fn(n:Nat)(t:T)(μ:af):ice n (.val t) μ=.ok (.val t) (μ.take n):=(rfl)
@[simp] theorem MI(μ l:af)(b:Bool)(t:T):ice μ.length (.cel μ.length) (μ++(b,t)::l)=.ok (.val t) μ:=by unfold ice;simp
@[simp] theorem Nq(μ l:af)(a:Bool×T):gc μ.length (.cel μ.length) (μ++a::l)=.ok (.cel μ.length) (μ++[a]):=by unfold gc;simp
@[simp] theorem j8(μ l:af)(b:Bool)(ts:List T):mq (.cel μ.length) (μ++(b,.lst ts)::l)=some ():=yM (b:=b) (ts:=ts) (by simp)
@[simp] theorem Ck(μ l:af)(a:Bool×T)(b:Bool)(ts:List T):mq (.cel (μ.length+1)) (μ++a::(b,.lst ts)::l)=some ():=yM (b:=b) (ts:=ts) (by simp)
theorem append_at{μ:af}{k:Nat}{ts:List T}{t:T}(h:μ[k]?=some (true,.lst ts))(hl:ts.length<szL):appendAt (.cel k) t μ=some (μ.set k (true,.lst (ts++[t]))):=by
 unfold appendAt;simp only[h];rw[if_pos hl]
theorem eY(μ l:af)(ts:List T)(t:T)(hl:ts.length<szL):appendAt (.cel μ.length) t (μ++(true,.lst ts)::l)=some (μ++(true,.lst (ts++[t]))::l):=by
 rw[append_at (ts:=ts) (by simp) hl];simp
theorem pV(μ l:af)(a:Bool×T)(ts:List T)(t:T)(hl:ts.length<szL):appendAt (.cel (μ.length+1)) t (μ++a::(true,.lst ts)::l)=some (μ++a::(true,.lst (ts++[t]))::l):=by
 rw[append_at (ts:=ts) (by simp) hl];simp
theorem pW{μ:af}{k:Nat}{ts:List T}{t:T}{i:Int}(h:μ[k]?=some (true,.lst ts))(h0:0≤i)(h1:i<ts.length):setAt (.cel k) (.int i) t μ=some (μ.set k (true,.lst (ts.set i.toNat t))):=by
 unfold setAt;simp only[h];unfold ixN;rw[if_pos h0,if_pos h1];rfl
@[simp] theorem sH(m:Nat)(xs:List SV):starts m xs=xs.map some++List.replicate (m-xs.length) none:=(rfl)
theorem oX{α:Type}{xs:List α}{i:Int}(h0:0≤i):atI xs i=xs[i.toNat]?:=by
 unfold atI ixN
 rw[if_pos h0]
 by_cases h:i<xs.length
 ·rw[if_pos h];rfl
 ·rw[if_neg h]
  exact (List.getElem?_eq_none (by lia)).symm
theorem oY{α β:Type}{xs:List α}{f:α→β}{i:Int}(h0:0≤i)(h1:i<xs.length):atI (xs.map f) i=some (f (xs[i.toNat]'(by lia))):=by
 rw[oX h0,List.getElem?_map,List.getElem?_eq_getElem (by lia)];rfl
@[simp] theorem vt{α:Type}(x:α)(xs:List α):atI (x::xs) 0=some x:=by rw[oX (by lia)];rfl
@[simp] theorem yW{α:Type}(x y:α)(xs:List α):atI (x::y::xs) 1=some y:=by rw[oX (by lia)];rfl
@[simp] theorem Fo{α:Type}(x y z:α)(xs:List α):atI (x::y::z::xs) 2=some z:=by rw[oX (by lia)];rfl
def bc(lo:Int)(n:Nat):List Int:=(List.range n).map λ(k:Nat)=>lo+(k:Int)
theorem iS(lo:Int)(n:Nat):bK lo n=(bc lo n).map T.int:=by
 unfold bc
 induction n generalizing lo with
 | zero=>rfl
 | succ n ih =>
  rw[bK,ih (lo+1),List.range_succ_eq_map]
  simp only[List.map_cons,List.map_map]
  congr 1
  ·simp
  ·apply List.map_congr_left
   intro k _
   simp only[Function.comp]
   congr 1
   lia
@[simp] theorem Ek(lo:Int)(n:Nat):(bc lo n).length=n:=by simp[bc]
theorem gO{lo:Int}{n:Nat}{k:Int}:k∈bc lo n↔lo≤k∧k<lo+n:=by
 unfold bc
 rw[List.mem_map]
 constructor
 ·rintro⟨j,hj,rfl⟩
  rw[List.mem_range] at hj
  lia
 ·rintro⟨h1,h2⟩
  exact⟨(k-lo).toNat,by rw[List.mem_range];lia,by lia⟩
theorem w_{lo:Int}{n i:Nat}{k:Int}(h:(bc lo n)[i]?=some k):i<n∧k=lo+i:=by
 unfold bc at h
 rw[List.getElem?_map] at h
 by_cases hi:i<n
 ·rw[List.getElem?_range hi] at h
  cases h
  exact⟨hi,rfl⟩
 ·rw[List.getElem?_eq_none (by simpa using hi)] at h
  cases h
theorem mB{lo:Int}{n i:Nat}{t:T}(h:(bK lo n)[i]?=some t):i<n∧t=.int (lo+i):=by
 rw[iS,List.getElem?_map] at h
 cases q:(bc lo n)[i]? with
 | none=>rw[q] at h;cases h
 | some k =>
  rw[q] at h
  cases h
  obtain⟨h1,rfl⟩:=w_ q
  exact⟨h1,rfl⟩
theorem kL{lo:Int}{n i:Nat}{t:T}(h:(bK lo n)[i]?=some t):∃k:Int,t=.int k∧i<n∧k=lo+i:=by
 obtain⟨h1,rfl⟩:=mB h
 exact⟨_,rfl,h1,rfl⟩
@[simp] theorem cC(lo:Int)(n:Nat):(bK lo n).length=n:=by rw[iS];simp
theorem Cm{α:Type}(g:α→Bool)(xs:List α):BS (.lst (xs.map λk=>T.bl (g k)))=some (.bl (xs.all g)):=by
 have e:(xs.map λk=>T.bl (g k))=(xs.map g).map T.bl:=by simp
 rw[e,BV];simp[List.all_map]
theorem Cn{α:Type}(g:α→Bool)(xs:List α):BU (.lst (xs.map λk=>T.bl (g k)))=some (.bl (xs.any g)):=by
 have e:(xs.map λk=>T.bl (g k))=(xs.map g).map T.bl:=by simp
 rw[e,BW];simp[List.any_map]
def RS.tZ(r:RS)(J:Slots→af→Prop)(P:RS→Prop):Prop:=match r with
 | .nx e μ=>J e μ
 | .ct e μ=>J e μ
 | .bk e μ=>P (.nx e μ)
 | r=>P r
@[simp] theorem Fp(e:Slots)(μ:af)(J:Slots→af→Prop)(P:RS→Prop):(RS.nx e μ).tZ J P=J e μ:=(rfl)
@[simp] theorem Fq(x:SV)(μ:af)(J:Slots→af→Prop)(P:RS→Prop):(RS.rt x μ).tZ J P=P (.rt x μ):=(rfl)
theorem iT{same:af→Prop}{b:BD}{body:DS}(P:RS→Prop)(I:Nat→Slots→af→Prop)(hs:∀i e μ,I i e μ→same μ){ts:List T}
  (step:∀i t e μ,ts[i]?=some t→I i e μ→∃e1,b t e=some e1∧(body e1 μ).tZ (I (i+1)) P) (fin:∀e μ,I ts.length e μ→P (.nx e μ)) {e:Slots}{μ:af} (h:I 0 e μ):P (forL same b body ts e μ):=by
 have all:∀(us:List T) (i:Nat) (e:Slots) (μ:af),ts.drop i=us→I i e μ→i≤ts.length→P (forL same b body us e μ):=by
  intro us
  induction us with
  | nil =>
   intro i e μ hd hI hi
   have hl:ts.length≤i:=by
    have:=congrArg List.length hd
    simp at this
    lia
   have e1:i=ts.length:=by lia
   subst e1
   unfold forL
   rw[if_pos (hs _ _ _ hI)]
   exact fin e μ hI
  | cons t us ih =>
   intro i e μ hd hI hi
   have hlt:i<ts.length:=by
    have:=congrArg List.length hd
    simp at this
    lia
   have hg:ts[i]?=some t:=by
    have:(ts.drop i)[0]?=some t:=by rw[hd];rfl
    rw[List.getElem?_drop] at this
    simpa using this
   have hd':ts.drop (i+1)=us:=by
    rw[← List.tail_drop,hd];rfl
   obtain⟨e1,h1,h2⟩:=step i t e μ hg hI
   unfold forL
   rw[if_pos (hs _ _ _ hI)]
   simp only[h1]
   cases q:body e1 μ with
   | nx e2 μ2=>rw[q] at h2;exact ih (i+1) e2 μ2 hd' h2 hlt
   | ct e2 μ2=>rw[q] at h2;exact ih (i+1) e2 μ2 hd' h2 hlt
   | bk e2 μ2=>rw[q] at h2;exact h2
   | rt x μ2=>rw[q] at h2;exact h2
   | err c e2 μ2=>rw[q] at h2;exact h2
   | bad=>rw[q] at h2;exact h2
 exact all ts 0 e μ rfl h (Nat.zero_le _)
theorem d0{same:af→Prop}{b:BD}{body:DS}(I:Nat→Slots→af→Prop)(hs:∀i e μ,I i e μ→same μ){ts:List T}
  (step:∀i t e μ,ts[i]?=some t→I i e μ→∃e1 e2 μ2,b t e=some e1∧body e1 μ=.nx e2 μ2∧I (i+1) e2 μ2) {e:Slots}{μ:af} (h:I 0 e μ):∃e' μ',forL same b body ts e μ=.nx e' μ'∧I ts.length e' μ' :=
 iT (P:=λr=>∃e' μ',r=.nx e' μ'∧I ts.length e' μ') I hs (λi t e μ ht hI=>by
  obtain⟨e1,e2,μ2,h1,h2,h3⟩:=step i t e μ ht hI
  exact⟨e1,h1,by rw[h2];exact h3⟩) (λe μ hI=>⟨e,μ,rfl,hI⟩) h
theorem d8{same:af→Prop}{b:BD}{c d:D}{e:Slots}{μ:af}(p:Int→Bool)(g:Int→T)(hs:same μ)(ns:List Int)
  (h:∀n∈ns,∃e1,b (.int n) e=some e1∧c e1 μ=.ok (.val (.bl (p n))) μ∧(p n=true→d e1 μ=.ok (.val (g n)) μ)):bY same b c d e (ns.map T.int) μ=.ok ((ns.filter p).map g) μ:=by
 induction ns with
 | nil=>unfold bY;rw[List.map_nil];simp only;rw[if_pos hs];rfl
 | cons n ns ih =>
  obtain⟨e1,h1,h2,h3⟩:=h n List.mem_cons_self
  have ih:=ih λu hu=>h u (List.mem_cons_of_mem _ hu)
  rw[List.map_cons]
  unfold bY
  rw[if_pos hs]
  simp only[h1,h2,R.dB,R.aT,gI,R.aK]
  cases q:p n with
  | true=>rw[if_pos rfl,h3 q];simp[q,ih]
  | false=>rw[if_neg Bool.false_ne_true,ih];simp[q]
theorem nq{same:af→Prop}{b:BD}{d:D}{e:Slots}{μ:af}(g:Int→T)(hs:same μ)(ns:List Int)
  (h:∀n∈ns,∃e1,b (.int n) e=some e1∧d e1 μ=.ok (.val (g n)) μ):bY same b (dC (.bl true)) d e (ns.map T.int) μ=.ok (ns.map g) μ:=by
 have:=d8 (same:=same) (b:=b) (c:=dC (.bl true)) (d:=d) (e:=e) (μ:=μ) (λ_=>true) g hs ns λn hn=>by
  obtain⟨e1,h1,h2⟩:=h n hn
  exact⟨e1,h1,rfl,λ_=>h2⟩
 rw[this]
 congr 2
 exact List.filter_eq_self.mpr λ_ _=>rfl
theorem fv{α:Type}{same:af→Prop}{b:BD}{c d:D}{e:Slots}{μ:af}(f:α→T)(p:α→Bool)(g:α→T)(hs:same μ)(as:List α)
  (h:∀a∈as,∃e1,b (f a) e=some e1∧c e1 μ=.ok (.val (.bl (p a))) μ∧(p a=true→d e1 μ=.ok (.val (g a)) μ)):bY same b c d e (as.map f) μ=.ok ((as.filter p).map g) μ:=by
 induction as with
 | nil=>unfold bY;rw[List.map_nil];simp only;rw[if_pos hs];rfl
 | cons n ns ih =>
  obtain⟨e1,h1,h2,h3⟩:=h n List.mem_cons_self
  have ih:=ih λu hu=>h u (List.mem_cons_of_mem _ hu)
  rw[List.map_cons]
  unfold bY
  rw[if_pos hs]
  simp only[h1,h2,R.dB,R.aT,gI,R.aK]
  cases q:p n with
  | true=>rw[if_pos rfl,h3 q];simp[q,ih]
  | false=>rw[if_neg Bool.false_ne_true,ih];simp[q]
theorem gG{α:Type}{same:af→Prop}{b:BD}{d:D}{e:Slots}{μ:af}(f:α→T)(g:α→T)(hs:same μ)(as:List α)
  (h:∀a∈as,∃e1,b (f a) e=some e1∧d e1 μ=.ok (.val (g a)) μ):bY same b (dC (.bl true)) d e (as.map f) μ=.ok (as.map g) μ:=by
 have:=fv (same:=same) (b:=b) (c:=dC (.bl true)) (d:=d) (e:=e) (μ:=μ) f (λ_=>true) g hs as λn hn=>by
  obtain⟨e1,h1,h2⟩:=h n hn
  exact⟨e1,h1,rfl,λ_=>h2⟩
 rw[this]
 congr 2
 exact List.filter_eq_self.mpr λ_ _=>rfl
theorem Af(xs ys:List Int):kO (xs.map T.int) (ys.map T.int)=(xs.zip ys).map λq=>.tup [.int q.1,.int q.2]:=by
 induction xs generalizing ys with
 | nil=>rfl
 | cons x xs ih =>
  cases ys with
  | nil=>rfl
  | cons y ys=>simp[kO,ih]
theorem Co(ts us:List T):(kO ts us).length=min ts.length us.length:=by
 induction ts generalizing us with
 | nil=>simp[kO]
 | cons t ts ih =>
  cases us with
  | nil=>simp[kO]
  | cons u us=>simp[kO,ih]
theorem ig{c:D}{body:DS}:∀(n m:Nat) (e:Slots) (μ:af),n≤m→cH c body n e μ≠.bad→cH c body m e μ=cH c body n e μ
 | 0,m,e,μ,_,h=>absurd rfl h
 | n+1,0,e,μ,h,_=>absurd h (by lia)
 | n+1,m+1,e,μ,hnm,h=>by
  unfold cH at h ⊢
  cases q:c e μ with
  | err x μ1=>simp only[R.E_]
  | bad=>rw[q] at h;exact absurd rfl h
  | ok x μ1 =>
   rw[q] at h
   simp only[R.b5] at h ⊢
   cases q2:asB x with
   | none=>rw[q2] at h;exact absurd rfl h
   | some k =>
    rw[q2] at h
    simp only[R.aK,R.b5] at h ⊢
    cases k with
    | false=>rfl
    | true =>
     rw[if_pos rfl] at h ⊢
     rw[if_pos rfl]
     cases q3:body e μ1 with
     | nx e2 μ2=>rw[q3] at h;simp only at h ⊢;exact ig n m e2 μ2 (by lia) h
     | ct e2 μ2=>rw[q3] at h;simp only at h ⊢;exact ig n m e2 μ2 (by lia) h
     | bk e2 μ2=>rfl
     | rt x μ2=>rfl
     | err x e2 μ2=>rfl
     | bad=>rfl
theorem Ag{c:D}{body:DS}{n:Nat}{e:Slots}{μ:af}(h:cH c body n e μ≠.bad):lh c body e μ=cH c body n e μ:=by
 have hn:∃n,cH c body n e μ≠.bad:=⟨n,h⟩
 unfold lh
 rw[dif_pos hn]
 have h2:=hn.choose_spec
 rcases Nat.le_total n hn.choose with z|z
 ·exact ig _ _ _ _ z h
 ·exact (ig _ _ _ _ z h2).symm
theorem xc{c:D}{body:DS}(P:RS→Prop)(hP:¬ P .bad)(I:Nat→Slots→af→Prop)
  (step:∀m e μ,I m e μ→∃k μ1,c e μ=.ok (.val (.bl k)) μ1∧if k=true then (body e μ1).tZ (λe2 μ2=>∃m',m'<m∧I m' e2 μ2) P else P (.nx e μ1)) :
  ∀(m:Nat) (e:Slots) (μ:af),I m e μ→P (lh c body e μ):=by
 have key:∀(m:Nat) (e:Slots) (μ:af),I m e μ→∃n,P (cH c body n e μ):=by
  intro m
  induction m using Nat.strongRecOn with
  | ind m ih =>
   intro e μ hI
   obtain⟨k,μ1,h1,h2⟩:=step m e μ hI
   cases k with
   | false =>
    refine⟨1,?_⟩
    unfold cH
    simp only[h1,R.b5,gI,R.aK,Bool.false_eq_true,if_false]
    exact h2
   | true =>
    rw[if_pos rfl] at h2
    cases q:body e μ1 with
    | nx e2 μ2 =>
     rw[q] at h2
     obtain⟨m',hm,hI'⟩:=h2
     obtain⟨n,hn⟩:=ih m' hm e2 μ2 hI'
     refine⟨n+1,?_⟩
     unfold cH
     simp only[h1,R.b5,gI,R.aK,if_true,q]
     exact hn
    | ct e2 μ2 =>
     rw[q] at h2
     obtain⟨m',hm,hI'⟩:=h2
     obtain⟨n,hn⟩:=ih m' hm e2 μ2 hI'
     refine⟨n+1,?_⟩
     unfold cH
     simp only[h1,R.b5,gI,R.aK,if_true,q]
     exact hn
    | bk e2 μ2 =>
     rw[q] at h2
     refine⟨1,?_⟩
     unfold cH
     simp only[h1,R.b5,gI,R.aK,if_true,q]
     exact h2
    | rt x μ2 =>
     rw[q] at h2
     refine⟨1,?_⟩
     unfold cH
     simp only[h1,R.b5,gI,R.aK,if_true,q]
     exact h2
    | err x e2 μ2 =>
     rw[q] at h2
     refine⟨1,?_⟩
     unfold cH
     simp only[h1,R.b5,gI,R.aK,if_true,q]
     exact h2
    | bad=>rw[q] at h2;exact absurd h2 hP
 intro m e μ hI
 obtain⟨n,hn⟩:=key m e μ hI
 rw[Ag (n:=n) (λz=>hP (z ▸ hn))]
 exact hn
def vv:T→T→Option T
 | .int i,.int j=>some (.int (if j<i then j else i))
 | _,_=>none
@[simp] theorem vw(i j:Int):vv (.int i) (.int j)=some (.int (if j<i then j else i)):=(rfl)
def sI:T→Option Key
 | .int i=>some (.inl i)
 | .str x=>some (.inr x)
 | _=>none
@[simp] theorem Ah(i:Int):sI (.int i)=some (.inl i):=(rfl)
def oy(kts:List (Key×T))(k:Key):Option T:=(kts.find? λkv=>decide (kv.1=k)).map (·.2)
def t4(kts:List (Key×T))(k:Key)(t:T):List (Key×T) :=
 if (kts.any λkv=>decide (kv.1=k))=true then kts.map (λkv=>if kv.1=k then (kv.1,t) else kv) else kts++[(k,t)]
def pX:T→T→Option T
 | .dct kts,u=>(sI u).bind λk=>oy kts k
 | _,_=>none
@[simp] theorem Ai(kts:List (Key×T))(i:Int):pX (.dct kts) (.int i)=oy kts (.inl i):=(rfl)
def ly(x:SV)(k:T)(t:T)(μ:af):Option af:=match x with
 | .cel c=>match μ[c]? with
  | some (true,.dct kts)=>(sI k).bind λkk=>if kts.length<szL then some (μ.set c (true,.dct (t4 kts kk t))) else none
  | _=>none
 | _=>none
def oa(i:Nat)(dk dv:D):DS:=λe μ=>(dv e μ).toS e λy μ1=>(R.lift (slot e i) μ1).toS e λx μ1=>(dk e μ1).toS e λz μ2=>(R.lift (rd μ2 z) μ2).toS e λk μ2 =>
 (frz y μ2).toS e λt μ3=>(R.lift (ly x k t μ3) μ3).toS e λμ4 _=>.nx e μ4
@[simp] theorem pY(i:Nat)(dk dv:D)(e:Slots)(μ:af):oa i dk dv e μ=(dv e μ).toS e λy μ1=>(R.lift (slot e i) μ1).toS e λx μ1=>(dk e μ1).toS e λz μ2=>(R.lift (rd μ2 z) μ2).toS e λk μ2 =>
 (frz y μ2).toS e λt μ3=>(R.lift (ly x k t μ3) μ3).toS e λμ4 _=>.nx e μ4:=(rfl)
theorem sJ{μ:af}{c:Nat}{kts:List (Key×T)}{i:Int}{t:T}(h:μ[c]?=some (true,.dct kts))(hl:kts.length<szL):ly (.cel c) (.int i) t μ=some (μ.set c (true,.dct (t4 kts (.inl i) t))):=by
 unfold ly
 simp only[h,Ah,Option.bind_some,hl,if_true]
def eZ(kts:List (Key×T)):List T:=kts.map λp=>.tup [vf p.1,p.2]
def asD:T→Option (List (Key×T))
 | .dct kts=>some kts
 | _=>none
@[simp] theorem yX(kts:List (Key×T)):asD (.dct kts)=some kts:=(rfl)
def lz(d:D):DI:=λe μ=>(d e μ).bind λx μ1=>(R.lift ((rd μ1 x).bind asD) μ1).bind λkts μ1=>.ok ⟨eZ kts,λμ'=>rd μ' x=rd μ1 x⟩ μ1
@[simp] theorem nr(d:D)(e:Slots)(μ:af):lz d e μ=(d e μ).bind λx μ1=>(R.lift ((rd μ1 x).bind asD) μ1).bind λkts μ1=>.ok ⟨eZ kts,λμ'=>rd μ' x=rd μ1 x⟩ μ1:=(rfl)
def gP(i:Int):List T→List T
 | []=>[]
 | t::ts=>.tup [.int i,t]::gP (i+1) ts
theorem sL:∀(i:Int) (ts:List T),(gP i ts).length=ts.length
 | i,[]=>rfl
 | i,t::ts=>by simp[gP,sL (i+1) ts]
theorem sM:∀{i:Int}{ts:List T}{j:Nat}{t:T},(gP i ts)[j]?=some t→∃a,ts[j]?=some a∧t=.tup [.int (i+j),a]
 | i,[],j,t,h=>by simp[gP] at h
 | i,a::ts,0,t,h=>by simp[gP] at h;exact⟨a,rfl,by simp[← h]⟩
 | i,a::ts,j+1,t,h=>by
  obtain⟨b,h1,h2⟩:=sM (i:=i+1) (ts:=ts) (j:=j) (t:=t) (by simpa [gP] using h)
  refine⟨b,by simpa using h1,?_⟩
  rw[h2,show i+1+(j:Int)=i+((j+1:Nat):Int) by lia]
theorem Cp(i:Int)(ts:List T)(j:Nat):(gP i ts)[j]?=(ts[j]?).map λt=>.tup [.int (i+j),t]:=by
 induction ts generalizing i j with
 | nil=>simp[gP]
 | cons a ts ih =>
  cases j with
  | zero=>simp[gP]
  | succ j=>simp only[gP,List.getElem?_cons_succ,ih];congr 1;funext t;rw[show i+1+(j:Int)=i+((j+1:Nat):Int) by lia]
def yY(d:D):DI:=λe μ=>(d e μ).bind λx μ1=>(R.lift ((rd μ1 x).bind bx) μ1).bind λts μ1=>.ok ⟨gP 0 ts,λμ'=>rd μ' x=rd μ1 x⟩ μ1
@[simp] theorem Cq(d:D)(e:Slots)(μ:af):yY d e μ=(d e μ).bind λx μ1=>(R.lift ((rd μ1 x).bind bx) μ1).bind λts μ1=>.ok ⟨gP 0 ts,λμ'=>rd μ' x=rd μ1 x⟩ μ1:=(rfl)
def gf:T→Bool
 | .non=>true
 | .bl _=>true
 | .int _=>true
 | .str _=>true
 | _=>false
def inT(t:T)(us:List T):Bool:=us.any λy=>eqT y t
def fIn(t u:T):Option T:=match bx u with
 | some us=>if (gf t && us.all gf)=true then some (.bl (inT t us)) else none
 | none=>none
def iB(t u:T):Option T:=match bx u with
 | some us=>if (gf t && us.all gf)=true then some (.bl (!inT t us)) else none
 | none=>none
@[simp] theorem fR(ns:List Int):(ns.map T.int).all gf=true:=by simp[gf]
theorem mC(i:Int)(ns:List Int):inT (.int i) (ns.map T.int)=decide (i∈ns):=by
 unfold inT
 rw[Bool.eq_iff_iff,decide_eq_true_iff,List.any_eq_true]
 constructor
 ·rintro⟨t,ht,he⟩
  obtain⟨j,hj,rfl⟩:=List.mem_map.mp ht
  rw[yG,beq_iff_eq] at he
  exact he ▸ hj
 ·intro h
  exact⟨_,List.mem_map.mpr ⟨i,h,rfl⟩,by rw[yG,beq_iff_eq]⟩
@[simp] theorem Cr(i:Int)(ns:List Int):fIn (.int i) (.lst (ns.map T.int))=some (.bl (decide (i∈ns))):=by
 unfold fIn
 simp only[eh,fR,Bool.and_true,mC]
 rfl
def Lk:T→T→Option T
 | .int i,.int j=>if 0≤i∧j=1 then some (.int (i%2)) else none
 | _,_=>none
@[simp] theorem Aj(i:Int)(h:0≤i):Lk (.int i) (.int 1)=some (.int (i%2)):=if_pos ⟨h,rfl⟩
def Ll:T→Option T
 | .int i=>some (.int i)
 | .bl b=>some (.int (if b then 1 else 0))
 | _=>none
@[simp] theorem Cs(i:Int):Ll (.int i)=some (.int i):=(rfl)
@[simp] theorem Fs(b:Bool):Ll (.bl b)=some (.int (if b then 1 else 0)):=(rfl)
def asV:SV→Option T
 | .val t=>some t
 | _=>none
@[simp] theorem Ft(t:T):asV (.val t)=some t:=(rfl)
def Fu(is:List Nat)(d:D):DS:=λe μ=>(d e μ).toS e λx μ1=>(R.lift ((asV x).bind λt=>h_ is t e) μ1).toS e λe' μ1=>.nx e' μ1
@[simp] theorem Fv(is:List Nat)(d:D)(e:Slots)(μ:af):Fu is d e μ=(d e μ).toS e λx μ1=>(R.lift ((asV x).bind λt=>h_ is t e) μ1).toS e λe' μ1=>.nx e' μ1:=(rfl)
@[simp] theorem Ct(i j k:Nat)(t u v:T)(e:Slots):h_ [i,j,k] (.tup [t,u,v]) e=some (((e.set i (some (.val t))).set j (some (.val u))).set k (some (.val v))):=(rfl)
def oZ(x:SV)(μ:af):Option af:=match x with
 | .cel k=>match μ[k]? with
  | some (true,.lst _)=>some (μ.set k (true,.lst []))
  | _=>none
 | _=>none
def t5(o:D):DS:=λe μ=>(o e μ).toS e λx μ0=>(R.lift (oZ x μ0) μ0).toS e λμ1 _=>.nx e μ1
@[simp] theorem Ak(o:D)(e:Slots)(μ:af):t5 o e μ=(o e μ).toS e λx μ0=>(R.lift (oZ x μ0) μ0).toS e λμ1 _=>.nx e μ1:=(rfl)
def Nr:T→Option T
 | .lst ts=>some (.lst ts.reverse)
 | _=>none
@[simp] theorem Cu(ts:List T):Nr (.lst ts)=some (.lst ts.reverse):=(rfl)
theorem fS{us:List Value}{n:Nat}(h:us.length=n+1):∃a as,us=a::as:=by
 cases us with
 | nil=>cases h
 | cons a as=>exact⟨a,as,rfl⟩
def oA(i:Nat)(body:DS):List SV→Slots→af→RS
 | [],e,μ=>.nx e μ
 | x::xs,e,μ=>match body (e.set i (some x)) μ with
  | .nx e2 μ2=>oA i body xs e2 μ2
  | .ct e2 μ2=>oA i body xs e2 μ2
  | .bk e2 μ2=>.nx e2 μ2
  | r=>r
theorem Cv(i:Nat)(body:DS)(e:Slots)(μ:af):oA i body [] e μ=.nx e μ:=(rfl)
theorem yZ{i:Nat}{body:DS}{x:SV}{e e2:Slots}{μ μ2:af}(xs:List SV)(h:body (e.set i (some x)) μ=.nx e2 μ2):oA i body (x::xs) e μ=oA i body xs e2 μ2:=by
 rw[oA,h]
def QQ:T→Option (List T)
 | .lst ts=>some ts
 | _=>none
def xf(x:Int):List Int→List Int
 | []=>[x]
 | y::r=>if y<x then y::xf x r else x::y::r
def jP(ns:List Int):List Int:=ns.foldr xf []
theorem nv(x:Int):∀l,(xf x l).Perm (x::l)
 | []=>.refl _
 | y::r=>by
  unfold xf;split
  ·exact ((nv x r).cons y).trans (.swap _ _ _)
  ·exact .refl _
theorem iU:∀ns,(jP ns).Perm ns
 | []=>.refl _
 | x::r=>(nv x _).trans ((iU r).cons x)
theorem pZ(x:Int):∀l:List Int,l.Pairwise (·≤·)→(xf x l).Pairwise (·≤·)
 | [],_=>by simp[xf]
 | y::r,h=>by
  obtain⟨h1,h2⟩:=List.pairwise_cons.mp h
  unfold xf;split
  ·refine List.pairwise_cons.mpr ⟨λz hz=>?_,pZ x r h2⟩
   rcases List.mem_cons.mp ((nv x r).mem_iff.mp hz) with rfl|hz
   ·omega
   ·exact h1 z hz
  ·refine List.pairwise_cons.mpr ⟨λz hz=>?_,h⟩
   rcases List.mem_cons.mp hz with rfl|hz
   ·omega
   ·have:=h1 z hz;omega
theorem lA:∀ns,(jP ns).Pairwise (·≤·)
 | []=>.nil
 | x::r=>pZ x _ (lA r)
theorem y_{ns ns':List Int}(hp:ns'.Perm ns)(hs:ns'.Pairwise (·≤·)):ns'=jP ns :=
 List.Perm.eq_of_pairwise (λ_ _ _ _ a b=>Int.le_antisymm a b) hs (lA ns) (hp.trans (iU ns).symm)
def jm:T→Option T
 | .lst ts=>(dD ts).bind λns=>if ns.length<64 then some (.lst ((jP ns).map T.int)) else none
 | _=>none
end Fw
namespace Fw
open PySem L2 PyProof.Rows
section
variable{P:Program}{w:World}{K:PySem.W.Frag}{mg:Str→Option Value}{base:Heap}
end
section
variable{X:Cx}{f:Addr}{fd:FuncData}{ps:List Str}{x:Str}{p pos:Pos}{e:Expr}{es:List Expr}{ds:List D}{fn:FN}{k:Nat}
end
section
variable{X:Cx}{pins:List (Addr×Obj)}{σ:L2.St}{H:Hp}{s:Shared}
end
end Fw
namespace L2
open PySem PySem.Spec PyProof.Rows
section
variable{prog:Program}{w:World}{A:Around}{E:Value→Shared→Prop}{s:Shared}{e C:Addr}{bm:List Value}{Q:Value→Shared→Prop}{c:Value}
end
end L2
namespace Fw
open PySem L2 PyProof.Rows
section
variable{X:Cx}{n x:Str}{C D:Addr}{np pos tp:Pos}{name:Option Str}{body tl:List Stmt}{b₀:Stmt}{rest:List ExceptHandler}{d:DS}
end
section
variable{X:Cx}{D:Addr}{T:String}{x:Str}{p p2 pos:Pos}{a:Expr}{da:Fw.D}{ns:List Str}
end
end Fw
namespace L2
open PySem PySem.Spec PySem.Calls PySem.W PyProof.Rows Builtin Builtin.ObjectAttr Builtin.Getset_descriptor
section
variable{prog:Program}{w:World}{A:Around}{E:Value→Shared→Prop}{s:Shared}{K:Frag}{x C:Addr}
end
end L2
namespace Fw
open PySem L2 PyProof.Rows
section
variable{X:Cx}{D:Addr}{Tn:String}{x:Str}{p p2 pos:Pos}{a:Expr}{da:Fw.D}{f:Str→Option Bool}
end
end Fw
namespace Fw.H
open PySem Fw
def Cw:DS :=
 (ar (sIf (ah fLt (aa 1) (pH (aa 0))) (aM (aU (aa 0) (aa 1))) b7)
 (ar (az 2 (ah bg (ah bX (aa 1) (dC (.int 7919))) (dC (.int 11))))
 (ar (sIf (ah fGt (pH (aa 0)) (dC (.int 0))) (az 2 (ah bg (aa 2) (ah bX (ah aY (aU (aa 0) (ah aY (ah bg (ah bX (dC (.int 5)) (aa 1)) (dC (.int 2))) (pH (aa 0)))) (dC (.int 2147483629))) (dC (.int 69621))))) b7)
 (ar (az 2 (ah aY (ah bX (aa 2) (aa 2)) (dC (.int 2147483647))))
 (aM (ah aY (ah bX (aa 2) (aa 2)) (dC (.int 998244353))))))))
theorem o4(ns:List Int)(k:Int)(μ:af)(h0:0≤k)(h1:k≤1000):∃c,fnV 3 Cw [.val (.lst (ns.map T.int)),.val (.int k)] μ=.ok (.val (.int c)) μ:=by
 unfold Cw
 simp
 by_cases h:k<ns.length
 ·simp[h,oY h0 h]
 ·simp[h]
  by_cases h2:0<ns.length
  ·have p0:0≤(5*k+2)%(ns.length:Int):=Int.emod_nonneg _ (by lia)
   have p1:(5*k+2)%(ns.length:Int)<ns.length:=Int.emod_lt_of_pos _ (by lia)
   simp (disch:=lia) [h2,oY p0 p1]
  ·simp (disch:=lia) [h2]
def Cy:DS :=
 (ar (az 3 (bQ (bC [])))
 (ar (sIf (ah fEq (ah aY (aa 0) (dC (.int 2))) (dC (.int 0))) (ar (az 0 (ah du (aa 0) (dC (.int 2))))
 (ar (bF (aI (aa 2)) (ao 4) (ar (aW (aa 3) (ah aY (aa 0) (aa 1)))
 (az 0 (ah du (aa 0) (aa 1)))))
 (aM (aa 3)))) b7)
 (ar (bF (aI (aa 2)) (ao 4) (ar (az 5 (ah aY (ah bg (ah du (aa 0) (dC (.int 2))) (ah bX (aa 4) (dC (.int 40503)))) (dC (.int 2147483629))))
 (ar (az 5 (ah aY (ah bg (ah bX (aa 5) (aa 5)) (aa 4)) (dC (.int 998244353))))
 (ar (az 5 (ah aY (ah bX (aa 5) (aa 5)) (dC (.int 2147483587))))
 (aW (aa 3) (ah aY (ah du (aa 5) (dC (.int 11))) (aa 1)))))))
 (aM (aa 3)))))
structure Row(m:Int)(n:Int)(ns:List Int):Prop where
 len:(ns.length:Int)=n
 lo:∀x∈ns,0≤x
 hi:∀x∈ns,x<m
theorem Row.snoc{m:Int}{i:Nat}{ns:List Int}{x:Int}(h:Row m i ns)(h0:0≤x)(h1:x<m):Row m ((i+1:Nat):Int) (ns++[x]):=by
 refine⟨by have:=h.len;simp;lia,λy hy=>?_,λy hy=>?_⟩
 ·rcases List.mem_append.mp hy with z|z
  ·exact h.lo y z
  ·simp at z;lia
 ·rcases List.mem_append.mp hy with z|z
  ·exact h.hi y z
  ·simp at z;lia
theorem Row.nil(m:Int):Row m ((0:Nat):Int) []:=⟨rfl,by simp,by simp⟩
def b_p:DS :=
 (ar (sIf (ah fEq (ah aY (ah du (aa 0) (dC (.int 6))) (dC (.int 8))) (dC (.int 5))) (aM (aU (bC [(dC (.int 17)),(dC (.int 31)),(dC (.int 61)),(dC (.int 97))]) (ah aY (ah du (aa 0) (dC (.int 48))) (dC (.int 4))))) b7)
 (aM (aU (bC [(dC (.int 2)),(dC (.int 3)),(dC (.int 5)),(dC (.int 7)),(dC (.int 11)),(dC (.int 13))]) (ah aY (aa 0) (dC (.int 6))))))
def fo(p:Int):Prop:=p∈([2,3,5,7,11,13,17,19,23,29,31,37,41,43,47,53,59,61,67,71,73,79,83,89,97]:List Int)
theorem fo.pos{p:Int}(h:fo p):2≤p∧p≤97:=by
 have key:∀p∈([2,3,5,7,11,13,17,19,23,29,31,37,41,43,47,53,59,61,67,71,73,79,83,89,97]:List Int),2≤p∧p≤97:=by decide +kernel
 exact key p h
theorem IY(c:Int)(μ:af):∃p,fnV 1 b_p [.val (.int c)] μ=.ok (.val (.int p)) μ∧fo p:=by
 unfold b_p
 by_cases h:c / 6%8=5
 ·simp[h]
  have:c / 48%4=0∨c / 48%4=1∨c / 48%4=2∨c / 48%4=3:=by lia
  rcases this with e|e|e|e<;>rw[e]
  ·exact⟨17,by simp[atI,ixN],by simp[fo]⟩
  ·exact⟨31,by simp[atI,ixN],by simp[fo]⟩
  ·exact⟨61,by simp[atI,ixN],by simp[fo]⟩
  ·exact⟨97,by simp[atI,ixN],by simp[fo]⟩
 ·simp[h]
  have:c%6=0∨c%6=1∨c%6=2∨c%6=3∨c%6=4∨c%6=5:=by lia
  rcases this with e|e|e|e|e|e<;>rw[e]
  ·exact⟨2,by simp[atI,ixN],by simp[fo]⟩
  ·exact⟨3,by simp[atI,ixN],by simp[fo]⟩
  ·exact⟨5,by simp[atI,ixN],by simp[fo]⟩
  ·exact⟨7,by simp[atI,ixN],by simp[fo]⟩
  ·exact⟨11,by simp[atI,ixN],by simp[fo]⟩
  ·exact⟨13,by simp[atI,ixN],by simp[fo]⟩
end Fw.H
namespace Fw
open PySem PySem.Spec PyProof.Rows L2
structure Gf(K:PySem.W.Frag)(mg:Str→Option Value)(x:Str)(st:Stmt)(ps:List Str)(f:Addr)(fd:FuncData):Prop where
 F:Fun K x x st f fd
 b:Binds K fd ps []
 m:mg x=some (.ref f)
def gQ(scope so:Scope):Scope:={ scope with names:=scope.names.map λ(n,k)=>if (k==.free && so.kind==.function && so.names.lookup n==some .cell) then (n,.cell) else (n,k) }
def t6(N N':List Str)(scope so:Scope)(mp:List (Option Nat)):Prop :=
 scope.kind=.function∧(scope.names.filter λy=>y.2==NameKind.cell).length≤1∧(scope.names.map (·.1)).Nodup∧(∀y∈scope.names,(y.2=.local→scope.names.lookup y.1=some .local)∧(y.2=.free→(so.names.lookup y.1=some .cell∨so.names.lookup y.1=some .free) ∧
  ((gQ scope so).names.lookup y.1=some .cell∨(gQ scope so).names.lookup y.1=some .free)))∧mp.length=N'.length ∧
 ∀q∈mp.zip N',match q.1 with
  | none=>True
  | some j=>N[j]?=some q.2∧(q.2,NameKind.free)∈scope.names∧(so.names.lookup q.2=some .cell∨so.names.lookup q.2=some .free)
noncomputable instance (N N' : List Str) (scope so : Scope) (mp : List (Option Nat)) : Decidable (t6 N N' scope so mp) := by
 unfold t6
 have:∀q:Option Nat×Str,Decidable (match q.1 with
  | none=>True
  | some j=>N[j]?=some q.2∧(q.2,NameKind.free)∈scope.names∧(so.names.lookup q.2=some .cell∨so.names.lookup q.2=some .free)):=λq=>by
  cases q.1<;>infer_instance
 infer_instance
theorem kU{α:Type}{x:Str}{k:α}:∀{l:List (Str×α)},(l.map (·.1)).Nodup→(x,k)∈l→l.lookup x=some k
 | [],_,h=>by cases h
 | (y,k')::l,nd,h=>by
  have nd':=List.nodup_cons.mp (by simpa using nd:(y::l.map (·.1)).Nodup)
  rw[List.lookup_cons]
  rcases List.mem_cons.mp h with e|h
  ·cases e;simp
  ·have:(x==y)=false:=by
    have:x≠y:=λq=>nd'.1 (List.mem_map.mpr ⟨_,h,q⟩)
    simpa using this
   rw[this]
   exact kU nd'.2 h
theorem aA{X:Cx}{N':List Str}{scope:Scope}{mp:List (Option Nat)}(so:Scope)(hso:X.env.scope=so)(N:List Str)(hN:X.N=N)(h:t6 N N' scope so mp):e_ X N' scope mp:=by
 subst hso
 subst hN
 obtain⟨h1,hc1,hnd,h2,h3,h4⟩:=h
 have er:(relabel scope X.env).names=(gQ scope X.env.scope).names:=rfl
 refine⟨h1,hc1,hnd,λy hy=>(h2 y hy).1,λy hy hf=>((h2 y hy).2 hf).1,h3,λi j hij=>?_,λx hx=>?_,λx hx=>?_⟩
 ·have hi:i<mp.length:=(List.getElem?_eq_some_iff.mp hij).1
  have hz:(mp.zip N')[i]?=some (some j,N'[i]'(by omega)):=by
   rw[List.getElem?_zip_eq_some]
   exact⟨hij,by simp⟩
  have:=h4 _ (List.mem_of_getElem? hz)
  exact⟨_,by simp,this⟩
 ·rw[er];exact ((h2 _ hx).2 rfl).2
 ·rw[er] at hx
  have mem:∀k,(gQ scope X.env.scope).names.lookup x=some k→(k=.cell∨k=.free)→(x,NameKind.free)∈scope.names∨scope.names.lookup x=some .cell:=λk hk hkk=>by
   have hm:=PySem.mem_of_lookup hk
   unfold gQ at hm
   obtain⟨⟨n,k'⟩,hm1,hm2⟩:=List.mem_map.mp hm
   by_cases hc:(k'==.free && X.env.scope.kind==.function && X.env.scope.names.lookup n==some .cell)=true
   ·simp only[hc,if_true] at hm2
    cases hm2
    have:k'=.free:=by
     simp only[Bool.and_eq_true,beq_iff_eq] at hc
     exact hc.1.1
    subst this
    exact .inl hm1
   ·simp only[hc,if_false] at hm2
    cases hm2
    rcases hkk with rfl|rfl
    ·exact .inr (kU hnd hm1)
    ·exact .inl hm1
  rcases hx with hx|hx
  ·exact mem _ hx (.inl rfl)
  ·exact mem _ hx (.inr rfl)
theorem p4{X0:Cx}{N' N2:List Str}{scope Cz:Scope}{cl:List (Str×Addr)}{C:Addr}{s₀:Shared}{H₀:Hp}{ex:List Addr}{mp:List (Option Nat)}(so:Scope)(hso:X0.env.scope=so)(h:t6 N' N2 Cz (gQ scope so) mp) :
  e_ (b9 X0 N' scope cl C s₀ H₀ ex) N2 Cz mp:=aA (gQ scope so) (by subst hso;rfl) N' rfl h
theorem IZ{K:PySem.W.Frag}{fn:FN}{H:Hp}{a:Addr}{ns:List Int}(I0:∀ns:List Int,ns.length≤63→∃μ',fn [.val (.lst (ns.map T.int))] []=.ok (.val (.bl true)) μ')(hl:ns.length≤63)(hS:SqL K H a (ns.map V.int))(hO:EM H) :
  spD K fn 1 [.ref a] H (λv _=>v=.bl true) (λ_ _ _=>False):=by
 obtain⟨μ',h⟩:=I0 ns hl
 refine⟨rfl,H,[],[],_,_,μ',⟨aH.refl _,rfl,List.nodup_nil,λk a h=>by simp at h,λk b t a h=>by simp at h,λb xs q=>by rcases hO b with z|⟨_,_,z⟩<;>(rw[z] at q;cases q)⟩,.cons ?_ .nil,h,λv H' F' α' _ _ o=>Rep.iQ (K:=K) (F:=F') o⟩
 show Rep K H (.lst (ns.map T.int)) (.ref a)
 rw[Rep]
 exact⟨a,_,rfl,hS,ay.mr ns⟩
section
variable{K:PySem.W.Frag}
theorem Now.lB{F H:Hp}{v:V}{ts:List T}(h:Now K F H v (.lst ts)):∃a vs,v=.ref a∧SqL K H a vs∧ay K F ts vs:=h
theorem Now.oB{F H:Hp}{v:V}{ts:List T}(h:Now K F H v (.tup ts)):∃a vs,v=.ref a∧SqT K F a vs∧ay K F ts vs:=h
theorem ny{r:R2}{f:T→T→Option T}(g:Int→Int→T)(gV:Int→Int→V)(C:Int→Int→Prop)(hr:∀i j H Q,C i j→Q (gV i j) H→r (.int i) (.int j) H Q)
  (hf:∀t u w,f t u=some w→∃i j,t=.int i∧u=.int j∧w=g i j∧C i j) (hg:∀F i j,Rep K F (g i j) (gV i j)):f_ K r f:=by
 intro F H v u t t' w Q s hv hu hw q
 obtain⟨i,j,rfl,rfl,rfl,hc⟩:=hf _ _ _ hw
 cases hv.int
 cases hu.int
 exact hr i j H Q hc (q _ H F bG.refl (hg F i j))
theorem Fx:f_ K (rI0 λi j=>.int (i-j)) vd:=ny (λi j=>.int (i-j)) (λi j=>.int (i-j)) (λ_ _=>True) (λi j H Q _ q=>⟨i,j,rfl,rfl,q⟩)
 (λt u w h=>by cases t<;>cases u<;>first|(cases h;exact⟨_,_,rfl,rfl,rfl,trivial⟩)|cases h) λF i j=>Rep.j7 _
theorem Fy:f_ K (rI (λ_ j=>0<j) λi j=>.int (i%j)) aY:=ny (λi j=>.int (i%j)) (λi j=>.int (i%j)) (λ_ j=>0<j) (λi j H Q c q=>⟨i,j,rfl,rfl,c,q⟩)
 (λt u w h=>by
  cases t<;>cases u<;>first|cases h|skip
  rename_i i j
  by_cases hj:0<j
  ·have h:(if 0<j then some (T.int (i%j)) else none)=some w:=h
   rw[if_pos hj] at h
   cases h
   exact⟨_,_,rfl,rfl,rfl,hj⟩
  ·have h:(if 0<j then some (T.int (i%j)) else none)=some w:=h
   rw[if_neg hj] at h;cases h) λF i j=>Rep.j7 _
theorem Fz:f_ K (rI HS λi j=>.int (i / j)) du:=ny (λi j=>.int (i / j)) (λi j=>.int (i / j)) HS (λi j H Q c q=>⟨i,j,rfl,rfl,c,q⟩)
 (λt u w h=>by
  cases t<;>cases u<;>first|cases h|skip
  rename_i i j
  have h:(if 0<j∧j<1073741824 then some (T.int (i / j)) else none)=some w:=h
  by_cases hj:0<j∧j<1073741824
  ·rw[if_pos hj] at h
   cases h
   exact⟨_,_,rfl,rfl,rfl,hj⟩
  ·rw[if_neg hj] at h;cases h) λF i j=>Rep.j7 _
theorem I_:f_ K (rI0 λi j=>.bl (decide (i<j))) fLt:=ny (λi j=>.bl (decide (i<j))) (λi j=>.bl (decide (i<j))) (λ_ _=>True) (λi j H Q _ q=>⟨i,j,rfl,rfl,q⟩)
 (λt u w h=>by cases t<;>cases u<;>first|(cases h;exact⟨_,_,rfl,rfl,rfl,trivial⟩)|cases h) λF i j=>Rep.bl' _
theorem Ja:f_ K (rI0 λi j=>.bl (decide (j<i))) fGt:=ny (λi j=>.bl (decide (j<i))) (λi j=>.bl (decide (j<i))) (λ_ _=>True) (λi j H Q _ q=>⟨i,j,rfl,rfl,q⟩)
 (λt u w h=>by cases t<;>cases u<;>first|(cases h;exact⟨_,_,rfl,rfl,rfl,trivial⟩)|cases h) λF i j=>Rep.bl' _
end
section
variable{X:Cx}{a b c:Expr}{da db dc:D}{pos p p2:Pos}
theorem CC(ha:CE X a da)(hb:CE X b db):CE X (.BinOp a .Sub b pos) (ah vd da db):=pN HV Fx ha hb
theorem bp(ha:CE X a da)(hb:CE X b db):CE X (.BinOp a .Mod b pos) (ah aY da db):=pN HX Fy ha hb
theorem d9(ha:CE X a da)(hb:CE X b db):CE X (.BinOp a .FloorDiv b pos) (ah du da db):=pN Ey Fz ha hb
theorem Lm(ha:CE X a da)(hb:CE X b db):CT X (.Compare a [.Lt] [b] pos) (ah fLt da db):=lx KC I_ (jS _) ha hb
theorem Ln(ha:CE X a da)(hb:CE X b db):CT X (.Compare a [.Gt] [b] pos) (ah fGt da db):=lx KD Ja (jS _) ha hb
theorem Jb(ha:CE X a da):CE X (.UnaryOp .USub a pos) (dUn EX da):=La HY (by
 intro F H v t w Q s hv hw q
 cases t<;>first|cases hw|skip
 cases hv.int
 exact⟨_,rfl,q _ H F bG.refl (Rep.j7 _)⟩) ha
end
end Fw
namespace L2
open PySem PySem.Spec PyProof.Rows
section
variable{X:Cx}
def CD(K:PySem.W.Frag):R2:=λx y H Q=>∃a b xs ys,x=.ref a∧y=.ref b∧SqT K H a xs∧SqT K H b ys∧xs.length+ys.length≤sizeLine ∧
 (xs=[]→Q (.ref b) H)∧(xs≠[]→ys=[]→Q (.ref a) H)∧(xs≠[]→ys≠[]→∀p,H p=none→Q (.ref p) (upd H p (.tup (xs++ys))))
theorem CG:OpR X (binaryOp .Add) (CD X.K):=by
 intro pins s σ H x y v u Q I rx ry h
 obtain⟨a,b,xs,ys,hx0,hy0,ha,hb,hz,q0,q1,q2⟩:=h
 by_cases hx:xs=[]
 ·subst hx0;subst hy0
  cases rx
  cases ry
  obtain⟨its,r1,p1,_⟩:=I.tuple ha
  obtain⟨pg,r2,p2,_⟩:=I.tuple hb
  obtain⟨⟨cls,dd,data,sl⟩,ho,hc,n,hd⟩:=id p1
  obtain⟨⟨Ib,dd2,data2,sl2⟩,ho2,hc2,n2,hd2⟩:=id p2
  simp only at hc hd hc2 hd2
  subst hc hd hc2 hd2
  have e:its=[]:=r1.oS.mpr hx
  exact concat_meets ⟨_,ho,rfl⟩ ⟨_,ho2,rfl⟩ noFill_tuple_add seq_tuple_add PySem.F.slot_tuple_add PySem.F.entry_tuple_add (PySem.F.args_tuple_add_2 _ _)
   (tuple_addW0 a b its.toArray pg.toArray n n2 dd dd2 sl sl2 (by simp[e])) ⟨ho,ho2,.ref b,H,I,rfl,q0 hx⟩
 ·exact EF pins s σ H x y v u Q I rx ry ⟨a,b,xs,ys,hx0,hy0,ha,hb,hx,hz,q1 hx,q2 hx⟩
def G_(K:PySem.W.Frag):R2:=λx y H Q=>∃l b xs zs,x=.ref l∧y=.ref b∧SqL K H l xs∧SqL K H b zs∧xs.length+zs.length≤sizeLine∧∀p,H p=none→Q (.ref p) (upd H p (.lst (xs++zs)))
theorem FA:OpR X (binaryOp .Add) (G_ X.K):=by
 intro pins s σ H x y v u Q I rx ry h
 obtain⟨l,b,xs,zs,rfl,rfl,hA,hB,hz,q⟩:=h
 cases rx
 cases ry
 obtain⟨its,r,p1,_⟩:=I.list hA
 obtain⟨pg,r2,p2,_⟩:=I.list hB
 obtain⟨⟨cls,dd,data,sl⟩,ho,hc,n,hd⟩:=id p1.isList
 obtain⟨⟨Ib,dd2,data2,sl2⟩,ho2,hc2,n2,hd2⟩:=id p2.isList
 simp only at hc hd hc2 hd2
 subst hc hd hc2 hd2
 have hl:=r.length
 have hl2:=r2.length
 have e:its.toArray++pg.toArray=(its++pg).toArray:=by simp
 refine concat_meets ⟨_,ho,rfl⟩ ⟨_,ho2,rfl⟩ noFill_list_add seq_list_add PySem.F.slot_list_add PySem.F.entry_list_add (PySem.F.args_list_add_2 _ _)
  (list_addW l b its.toArray pg.toArray n n2 dd dd2 sl sl2 (by rw[List.size_toArray,List.size_toArray];lia)) ⟨ho,ho2,?_⟩
 rw[e]
 exact⟨.ref _,_,I.Ip (t':=s.toks) (r.append r2) (by rw[List.length_append];lia),rfl,q _ I.fresh⟩
end
end L2
namespace Fw
open PySem PySem.Spec PyProof.Rows L2
section
variable{K:PySem.W.Frag}
theorem p5:szL=sizeLine:=rfl
theorem ay.nil_of{F:Hp}{ts:List T}{vs:List V}(h:ay K F ts vs)(e:vs=[]):ts=[]:=by
 have:=h.length
 subst e
 exact List.length_eq_zero_iff.mp (by simpa using this)
theorem o5{F H:Hp}{ts:List T}{vs:List V}{Q:VK}{p:Addr}(s:aH F H)(hp:H p=none)(r:ay K F ts vs)(q:∀v' H' F',bG F H F' H'→Rep K F' (.lst ts) v'→Q v' H'):Q (.ref p) (upd H p (.lst vs)):=by
 have g:bG F H (upd F p (.lst vs)) (upd H p (.lst vs)):=bG.new hp
 refine q _ _ _ g ?_
 rw[Rep]
 exact⟨p,vs,rfl,SqL.of ax,ay.mono (g.same s) _ _ r⟩
theorem t7{F H:Hp}{ts:List T}{vs:List V}{Q:VK}{p:Addr}(s:aH F H)(hp:H p=none)(r:ay K F ts vs)(q:∀v' H' F',bG F H F' H'→Rep K F' (.tup ts) v'→Q v' H'):Q (.ref p) (upd H p (.tup vs)):=by
 have g:bG F H (upd F p (.tup vs)) (upd H p (.tup vs)):=bG.new hp
 refine q _ _ _ g ?_
 rw[Rep]
 exact⟨p,vs,rfl,SqT.of ax,ay.mono (g.same s) _ _ r⟩
theorem t8{F:Hp}{a:Addr}{ts:List T}{vs:List V}(h:SqT K F a vs)(r:ay K F ts vs):Rep K F (.tup ts) (.ref a):=by
 rw[Rep];exact⟨a,vs,rfl,h,r⟩
theorem FC:f_ K (λx y H Q=>(rI0 λi j=>.int (i+j)) x y H Q∨(λx y H Q=>∃i j,x=.str i∧y=.str j∧i.length+j.length≤sizeLine∧Q (.str (i++j)) H) x y H Q∨CD K x y H Q∨G_ K x y H Q) bg:=by
 intro F H v u t t' w Q s hv hu hw q
 cases t with
 | int i =>
  cases t' with
  | int j =>
   cases hw
   cases hv.int
   cases hu.int
   exact .inl ⟨i,j,rfl,rfl,q _ H F bG.refl (Rep.j7 _)⟩
  | _=>cases hw
 | str i =>
  cases t' with
  | str j =>
   have hw:(if i.length+j.length≤szL then some (T.str (i++j)) else none)=some w:=hw
   by_cases hz:i.length+j.length≤szL
   ·rw[if_pos hz] at hw
    cases hw
    cases hv.str
    cases hu.str
    exact .inr (.inl ⟨i,j,rfl,rfl,hz,q _ H F bG.refl (Rep.Fh _)⟩)
   ·rw[if_neg hz] at hw;cases hw
  | _=>cases hw
 | tup xs =>
  cases t' with
  | tup ys =>
   have hw:(if xs.length+ys.length≤szL then some (T.tup (xs++ys)) else none)=some w:=hw
   by_cases hz:xs.length+ys.length≤szL
   ·rw[if_pos hz] at hw
    cases hw
    obtain⟨a,vs,rfl,ha,ra⟩:=hv.oB
    obtain⟨b,us,rfl,hb,rb⟩:=hu.oB
    refine .inr (.inr (.inl ⟨a,b,vs,us,rfl,rfl,aH.gy s ha,aH.gy s hb,?_,λe=>?_,λe e2=>?_,λe e2 p hp=>?_⟩))
    ·have:=ra.length;have:=rb.length;rw[p5] at hz;lia
    ·refine q _ H F bG.refl ?_
     rw[ra.nil_of e,List.nil_append]
     exact t8 hb rb
    ·refine q _ H F bG.refl ?_
     rw[rb.nil_of e2,List.append_nil]
     exact t8 ha ra
    ·exact t7 s hp (ra.append rb) q
   ·rw[if_neg hz] at hw;cases hw
  | _=>cases hw
 | lst xs =>
  cases t' with
  | lst ys =>
   have hw:(if xs.length+ys.length≤szL then some (T.lst (xs++ys)) else none)=some w:=hw
   by_cases hz:xs.length+ys.length≤szL
   ·rw[if_pos hz] at hw
    cases hw
    obtain⟨a,vs,rfl,ha,ra⟩:=hv.lB
    obtain⟨b,us,rfl,hb,rb⟩:=hu.lB
    exact .inr (.inr (.inr ⟨a,b,vs,us,rfl,rfl,ha,hb,by have:=ra.length;have:=rb.length;rw[p5] at hz;lia,λp hp=>o5 s hp (ra.append rb) q⟩))
   ·rw[if_neg hz] at hw;cases hw
  | _=>cases hw
 | _=>cases hw
end
section
variable{X:Cx}{a b c:Expr}{da db dc:D}{pos p p2:Pos}
theorem dn(ha:CE X a da)(hb:CE X b db):CE X (.BinOp a .Add b pos) (ah bg da db):=pN (HU.or (wA.or (CG.or FA))) FC ha hb
end
section
variable{K:PySem.W.Frag}
theorem FD:f_ K (rI Bl λi j=>.int (i*j)) bX:=ny (λi j=>.int (i*j)) (λi j=>.int (i*j)) Bl (λi j H Q c q=>⟨i,j,rfl,rfl,c,q⟩)
 (λt u w h=>by
  unfold bX at h
  cases t<;>cases u<;>first|cases h|skip
  rename_i i j
  have h:(if (-(2 ^ 64)<i∧i<2 ^ 64)∨(-(2 ^ 64)<j∧j<2 ^ 64) then some (T.int (i*j)) else none)=some w:=h
  by_cases hj:(-(2 ^ 64)<i∧i<2 ^ 64)∨(-(2 ^ 64)<j∧j<2 ^ 64)
  ·rw[if_pos hj] at h
   cases h
   exact⟨_,_,rfl,rfl,rfl,hj⟩
  ·rw[if_neg hj] at h;cases h) λF i j=>Rep.j7 _
theorem ay.atI{F:Hp}{ts:List T}{vs:List V}{i:Int}{t:T}(h:ay K F ts vs)(e:Fw.atI ts i=some t):∃v,L2.atI vs i=some v∧Rep K F t v:=by
 have hl:=h.length
 unfold Fw.atI at e
 obtain⟨j,h1,h2⟩:=Option.bind_eq_some_iff.mp e
 obtain⟨v,hv,rv⟩:=h.get h2
 refine⟨v,?_,rv⟩
 unfold L2.atI
 have:L2.ixN vs.length i=some j:=by rw[← hl];exact h1
 rw[this]
 exact hv
theorem Paired.atI{α β:Type}{P:α→β→Prop}{xs:List α}{ys:List β}{i:Int}{y:β}(h:Paired P xs ys)(e:Fw.atI ys i=some y):∃x,L2.atI xs i=some x∧P x y:=by
 have hl:=h.length
 unfold Fw.atI at e
 obtain⟨j,h1,h2⟩:=Option.bind_eq_some_iff.mp e
 have get:∀{xs:List α}{ys:List β}{j:Nat}{y:β},Paired P xs ys→ys[j]?=some y→∃x,xs[j]?=some x∧P x y:=by
  intro xs ys j y o
  induction o generalizing j with
  | nil=>intro e;simp at e
  | cons r _ ih =>
   intro e
   cases j with
   | zero=>simp at e;subst e;exact⟨_,rfl,r⟩
   | succ j =>
    obtain⟨v,h1,h2⟩:=ih (j:=j) (by simpa using e)
    exact⟨v,by simpa using h1,h2⟩
 obtain⟨v,hv,rv⟩:=get h h2
 refine⟨v,?_,rv⟩
 unfold L2.atI
 have:L2.ixN xs.length i=some j:=by rw[hl];exact h1
 rw[this]
 exact hv
end
section
variable{X:Cx}{a b c:Expr}{da db dc:D}{pos p p2:Pos}
theorem gv(ha:CE X a da)(hb:CE X b db):CE X (.BinOp a .Mult b pos) (ah bX da db):=pN HW FD ha hb
theorem bf(ha:CE X a da)(hb:CE X b db)(hp:yx b:=by intro _ _;rfl):CE X (.Subscript a b pos) (aU da db) :=
 PE.imp (KO Ii ha hb hp) λσ H Q ak=>by
  obtain⟨F,α,e,μ,S,h⟩:=ak
  refine⟨F,α,e,μ,S,?_⟩
  refine (R.wp_bind h).mono (λx μ1 h v H1 F1 α1 x1 S1 o1=>⟨F1,α1,e,μ1,S1,?_⟩) λ_ _ h=>h
  refine (R.wp_bind h).mono (λy μ2 h v2 H2 F2 α2 x2 S2 o2=>?_) λ_ _ h=>h.mono x1
  obtain⟨w,h9,post⟩:=R.br h
  obtain⟨u,hu,h⟩:=Option.bind_eq_some_iff.mp h9
  have nu:=a_ S2.st o2 hu
  have fin:∀{v'},fk X.K F2 α2 v' w→Q v' H2:=λ{v'} o=>post v' H2 F2 α2 (x1.trans x2) S2 o
  have o1':=o1.mono x2.same x2.pre
  have gen:∀t,rd μ2 x=some t→ap1 (λt=>E9 t u) (some t)=some w→rIx X.K v v2 H2 Q:=λt hr h=>by
   obtain⟨t',w',e1,h,rfl⟩:=lg h
   cases e1
   have nt:=a_ S2.st o1' hr
   cases t with
   | lst ts =>
    cases u with
    | int i =>
     cases nu.int
     obtain⟨a,vs,rfl,hq,hl⟩:=nt.lB
     obtain⟨v',g1,g2⟩:=hl.atI h
     exact .inl ⟨a,vs,i,v',rfl,rfl,hq,g1,fin g2⟩
    | _=>cases h
   | tup ts =>
    cases u with
    | int i =>
     cases nu.int
     obtain⟨a,vs,rfl,hq,hl⟩:=nt.oB
     obtain⟨v',g1,g2⟩:=hl.atI h
     exact .inr (.inl ⟨a,vs,i,v',rfl,rfl,aH.gy S2.st.ext hq,g1,fin g2⟩)
    | _=>cases h
   | str z =>
    cases u with
    | int i =>
     cases nu.int
     cases nt.str
     have h:(if z.length≤szL then (Fw.atI z.cps.toList i).map λc=>T.str ⟨#[c]⟩ else none)=some w':=h
     by_cases hz:z.length≤szL
     ·rw[if_pos hz] at h
      obtain⟨ch,g1,rfl⟩:=Option.map_eq_some_iff.mp h
      exact .inr (.inr ⟨z,i,ch,rfl,rfl,hz,g1,fin (Rep.Fh (K:=X.K) (F:=F2) _)⟩)
     ·rw[if_neg hz] at h;cases h
    | _=>cases h
   | _=>cases u<;>cases h
  cases x with
  | val t=>exact gen t rfl (by unfold m_ at h;exact h)
  | cel k =>
   cases q:rd μ2 (.cel k) with
   | none=>unfold m_ at h;simp only at h;rw[q] at h;cases h
   | some t=>exact gen t q (by unfold m_ at h;simp only at h;rw[q] at h;exact h)
  | box xs =>
   cases u with
   | int i =>
    cases nu.int
    obtain⟨y',h1,rfl⟩:=Option.map_eq_some_iff.mp (show (Fw.atI xs i).map pick=some w from h)
    obtain⟨a,vs,rfl,hq,hp⟩:=o1'
    obtain⟨v',g1,g2⟩:=Paired.atI hp h1
    refine .inr (.inl ⟨a,vs,i,v',rfl,rfl,aH.gy S2.st.ext hq,g1,fin ?_⟩)
    cases y' with
    | inl t=>exact g2
    | inr k=>exact g2
   | _=>cases h
theorem t9(hm:X.mg "len"=none)(ha:CE X a da)(hg:Gl X "len":=by rfl)(hs1:starEach [a] X.env=(false,eval a X.env)::starEach [] X.env:=by rfl)(hpl:(backTo pos (starEach [] X.env)).any (·.1)=false:=by rfl) :
  CE X (.Call (.Name "len" p) [a] [] pos) (pH da) :=
 PE.imp (jT (tN.or (tO.or zW)) hg hm PySem.boot_len (ag ha av hs1) (by decide) (by decide) hs1 hpl) λσ H Q ak=>by
  obtain⟨F,α,e,μ,S,h⟩:=ak
  refine sD ⟨F,α,e,μ,S,(R.wp_bind h).mono (λx μ1 h v H1 F1 α1 x1 S1 o1=>?_) λ_ _ h=>h⟩
  obtain⟨w,h9,post⟩:=R.br h
  obtain⟨w',h,rfl⟩:=Option.map_eq_some_iff.mp h9
  have fin:∀{v'},Rep X.K F1 w' v'→Q v' H1:=λ{v'} o=>post v' H1 F1 α1 x1 S1 o
  have gen:∀t,rd μ1 x=some t→IH t=some w'→(∃p ys,[v]=[V.ref p]∧(SqL X.K H1 p ys∨SqT X.K H1 p ys)∧Q (.int ys.length) H1)∨(∃z,[v]=[V.str z]∧z.length≤sizeLine∧Q (.int z.length) H1) ∨
    ∃d kvs,[v]=[V.ref d]∧H1 d=some (.dK kvs)∧Q (.int kvs.length) H1:=λt hr h=>by
   have nt:=a_ S1.st o1 hr
   cases t with
   | lst ts =>
    cases h
    obtain⟨a,vs,rfl,hq,hl⟩:=nt.lB
    exact .inl ⟨a,vs,rfl,.inl hq,fin (by rw[hl.length];exact Rep.j7 _)⟩
   | tup ts =>
    cases h
    obtain⟨a,vs,rfl,hq,hl⟩:=nt.oB
    exact .inl ⟨a,vs,rfl,.inr (aH.gy S1.st.ext hq),fin (by rw[hl.length];exact Rep.j7 _)⟩
   | str z =>
    cases nt.str
    have h:(if z.length≤szL then some (T.int z.length) else none)=some w':=h
    by_cases hz:z.length≤szL
    ·rw[if_pos hz] at h
     cases h
     exact .inr (.inl ⟨z,rfl,hz,fin (Rep.j7 _)⟩)
    ·rw[if_neg hz] at h;cases h
   | dct kts =>
    cases h
    obtain⟨a,kvs,rfl,hq,hl⟩:=nt
    exact .inr (.inr ⟨a,kvs,rfl,hq,fin (by rw[hl.length];exact Rep.j7 _)⟩)
   | _=>cases h
  cases x with
  | val t=>exact gen t rfl (by unfold pG at h;exact h)
  | cel k =>
   cases q:rd μ1 (.cel k) with
   | none=>unfold pG at h;simp only at h;rw[q] at h;cases h
   | some t=>exact gen t q (by unfold pG at h;simp only at h;rw[q] at h;exact h)
  | box xs =>
   cases h
   obtain⟨a,vs,rfl,hq,hp⟩:=o1
   exact .inl ⟨a,vs,rfl,.inr (aH.gy S1.st.ext hq),fin (by rw[hp.length];exact Rep.j7 _)⟩
end
end Fw
set_option maxHeartbeats 4000000
namespace Fw
open PySem PySem.Spec PyProof.Rows L2
mutual
def toPy:T→PyData
 | .non=>.none
 | .bl b=>.bool b
 | .int i=>.int i
 | .str x=>.str x
 | .lst ts=>.list (eI ts)
 | .tup ts=>.tuple (eI ts)
 | .dct _=>.dict []
 | .exc _ _=>.dict []
 | .dtt _ _=>.dict []
def eI:List T→List PyData
 | []=>[]
 | t::ts=>toPy t::eI ts
end
mutual
theorem p6:∀(n:Nat) (t:T),okT n t=true→(toPy t).canLay0=true∧(toPy t).depth≤n
 | n,.non,_=>⟨by rw[toPy,PyData.canLay0],by rw[toPy,PyData.depth];exact Nat.zero_le _⟩
 | n,.bl _,_=>⟨by rw[toPy,PyData.canLay0],by rw[toPy,PyData.depth];exact Nat.zero_le _⟩
 | n,.int _,_=>⟨by rw[toPy,PyData.canLay0],by rw[toPy,PyData.depth];exact Nat.zero_le _⟩
 | n,.str x,h=>by
  unfold okT at h
  exact⟨by rw[toPy,PyData.canLay0];exact h,by rw[toPy,PyData.depth];exact Nat.zero_le _⟩
 | 0,.lst ts,h=>by rw[okT] at h;cases h
 | n+1,.lst ts,h=>by
  rw[okT] at h
  obtain⟨h1,h2⟩:=t_ n ts h
  exact⟨by rw[toPy,PyData.canLay0];exact h1,by rw[toPy,PyData.depth];lia⟩
 | 0,.tup ts,h=>by rw[okT] at h;cases h
 | n+1,.tup ts,h=>by
  rw[okT] at h
  obtain⟨h1,h2⟩:=t_ n ts h
  exact⟨by rw[toPy,PyData.canLay0];exact h1,by rw[toPy,PyData.depth];lia⟩
 | n,.dct _,h=>by unfold okT at h;cases h
 | n,.exc _ _,h=>by unfold okT at h;cases h
 | n,.dtt _ _,h=>by unfold okT at h;cases h
theorem t_:∀(n:Nat) (ts:List T),gJ n ts=true→PyData.canLayAll0 (eI ts)=true∧PyData.depthAll (eI ts)≤n
 | n,[],_=>⟨by rw[eI,PyData.canLayAll0],by rw[eI,PyData.depthAll];exact Nat.zero_le _⟩
 | n,t::ts,h=>by
  rw[gJ,Bool.and_eq_true] at h
  obtain⟨h1,h2⟩:=p6 n t h.1
  obtain⟨h3,h4⟩:=t_ n ts h.2
  exact⟨by rw[eI,PyData.canLayAll0,h1,h3];rfl,by rw[eI,PyData.depthAll];lia⟩
end
mutual
theorem xg:∀(n:Nat) (t u:T),okT n t=true→okT n u=true→PyData.eqv (toPy t) (toPy u)=eqT t u
 | n,.non,u,_,h=>by cases u<;>first|(simp[toPy,eqT,PyData.eqv];done)|(unfold okT at h;cases h)
 | n,.bl a,u,_,h=>by cases u<;>first|(simp[toPy,eqT,PyData.eqv];done)|(unfold okT at h;cases h)
 | n,.int a,u,_,h=>by cases u<;>first|(simp[toPy,eqT,PyData.eqv];done)|(unfold okT at h;cases h)
 | n,.str a,u,_,h=>by cases u<;>first|(simp[toPy,eqT,PyData.eqv];done)|(unfold okT at h;cases h)
 | 0,.lst a,u,h,_=>by rw[okT] at h;cases h
 | n+1,.lst a,u,h1,h=>by
  cases u with
  | lst b=>rw[toPy,toPy,eqT,PyData.eqv];rw[okT] at h1 h;exact ub n a b h1 h
  | dct _=>unfold okT at h;cases h
  | exc _ _=>unfold okT at h;cases h
  | dtt _ _=>unfold okT at h;cases h
  | _=>simp[toPy,eqT,PyData.eqv]
 | 0,.tup a,u,h,_=>by rw[okT] at h;cases h
 | n+1,.tup a,u,h1,h=>by
  cases u with
  | tup b=>rw[toPy,toPy,eqT,PyData.eqv];rw[okT] at h1 h;exact ub n a b h1 h
  | dct _=>unfold okT at h;cases h
  | exc _ _=>unfold okT at h;cases h
  | dtt _ _=>unfold okT at h;cases h
  | _=>simp[toPy,eqT,PyData.eqv]
 | n,.dct _,u,h,_=>by unfold okT at h;cases h
 | n,.exc _ _,u,h,_=>by unfold okT at h;cases h
 | n,.dtt _ _,u,h,_=>by unfold okT at h;cases h
theorem ub:∀(n:Nat) (ts us:List T),gJ n ts=true→gJ n us=true→PyData.eqvAll (eI ts) (eI us)=iA ts us
 | n,[],[],_,_=>by rw[eI,PyData.eqvAll,iA]
 | n,[],u::us,_,_=>by rw[eI,eI,PyData.eqvAll,iA]
 | n,t::ts,[],_,_=>by rw[eI,eI,PyData.eqvAll,iA]
 | n,t::ts,u::us,h1,h2=>by
  rw[gJ,Bool.and_eq_true] at h1 h2
  rw[eI,eI,PyData.eqvAll,iA,xg n t u h1.1 h2.1,ub n ts us h1.2 h2.2]
end
section
variable{X:Cx}{pins:List (Addr×Obj)}{σ:L2.St}{H:Hp}{s:Shared}
mutual
theorem j9(I:Inv X pins σ H s):∀(n:Nat) (t:T) (v:V) (u:Value),Rep X.K H t v→RelV v u→okT n t=true→∃as,Reads s.heap u (toPy t) as
 | n,.non,v,u,h,r,_=>by cases h.jh;cases r;rw[toPy];exact⟨_,.none⟩
 | n,.bl b,v,u,h,r,_=>by cases h.iQ;cases r;rw[toPy];exact⟨_,.bool b⟩
 | n,.int i,v,u,h,r,_=>by cases h.jg;obtain⟨t,rfl⟩:=r;rw[toPy];exact⟨_,.int i t⟩
 | n,.str i,v,u,h,r,_=>by cases h.lq;obtain⟨t,rfl⟩:=r;rw[toPy];exact⟨_,.str i t⟩
 | 0,.lst ts,v,u,h,r,ok=>by rw[okT] at ok;cases ok
 | n+1,.lst ts,v,u,h,r,ok=>by
  rw[Rep] at h
  rw[okT] at ok
  obtain⟨a,vs,rfl,hq,hl⟩:=h
  cases r
  obtain⟨its,rv,pl,_⟩:=I.list hq
  obtain⟨o,ho,hc,m,hd⟩:=pl.isList
  obtain⟨as,ra⟩:=j_ I n ts vs its hl rv ok
  rw[toPy]
  exact⟨_,.list ho hc hd (by simpa using ra)⟩
 | 0,.tup ts,v,u,h,r,ok=>by rw[okT] at ok;cases ok
 | n+1,.tup ts,v,u,h,r,ok=>by
  rw[Rep] at h
  rw[okT] at ok
  obtain⟨a,vs,rfl,hq,hl⟩:=h
  cases r
  obtain⟨its,rv,pl,_⟩:=I.tuple hq
  obtain⟨o,ho,hc,m,hd⟩:=pl
  obtain⟨as,ra⟩:=j_ I n ts vs its hl rv ok
  rw[toPy]
  exact⟨_,.tuple ho hc hd (by simpa using ra)⟩
 | n,.dct _,v,u,h,r,ok=>by unfold okT at ok;cases ok
 | n,.exc _ _,v,u,h,r,ok=>by unfold okT at ok;cases ok
 | n,.dtt _ _,v,u,h,r,ok=>by unfold okT at ok;cases ok
theorem j_(I:Inv X pins σ H s):∀(n:Nat) (ts:List T) (vs:List V) (us:List Value),ay X.K H ts vs→Vals vs us→gJ n ts=true→∃as,ReadsAll s.heap us (eI ts) as
 | n,[],vs,us,h,r,_=>by
  rw[ay] at h;subst h;cases r
  rw[eI];exact⟨_,.nil⟩
 | n,t::ts,vs,us,h,r,ok=>by
  rw[ay] at h
  obtain⟨v,vs',rfl,q,hl⟩:=h
  rw[gJ,Bool.and_eq_true] at ok
  cases r with
  | cons r1 r2 =>
   obtain⟨as,ra⟩:=j9 I n t v _ q r1 ok.1
   obtain⟨bs,rb⟩:=j_ I n ts vs' _ hl r2 ok.2
   rw[eI]
   exact⟨_,.cons ra rb⟩
end
end
theorem Now.rep{K:PySem.W.Frag}{F H:Hp}{v:V}{t:T}(s:aH F H)(h:Now K F H v t)(hx:(∀c n,t≠.exc c n)∧∀f k,t≠.dtt f k):Rep K H t v:=by
 cases t with
 | lst ts=>rw[Rep];obtain⟨a,vs,e,q,r⟩:=h;exact⟨a,vs,e,q,ay.mono s _ _ r⟩
 | tup ts=>rw[Rep];obtain⟨a,vs,e,q,r⟩:=h;exact⟨a,vs,e,aH.gy s q,ay.mono s _ _ r⟩
 | dct ts=>rw[Rep];obtain⟨a,vs,e,q,r⟩:=h;exact⟨a,vs,e,q,bj.mono s _ _ r⟩
 | dtt fz ts=>rw[Rep];exact absurd rfl (hx.2 fz ts)
 | exc c n=>exact absurd rfl (hx.1 c n)
 | _=>exact Rep.mono s _ _ h
def CH(K:PySem.W.Frag)(neg:Bool):R2:=λx y H Q=>∃t u,Rep K H t x∧Rep K H u y∧okT 100 t=true∧okT 100 u=true∧Q (.bl (if neg then !eqT t u else eqT t u)) H
section
variable{X:Cx}{a b c:Expr}{da db dc:D}{pos p p2:Pos}{k:Nat}
theorem CJ(hr:dg k X.A):OpR X (compareOp .Eq) (CH X.K false):=by
 intro pins s σ H x y v u Q I rx ry h
 obtain⟨t,t',h1,h2,o1,o2,q⟩:=h
 obtain⟨as,r1⟩:=j9 I 100 t x v h1 rx o1
 obtain⟨bs,r2⟩:=j9 I 100 t' y u h2 ry o2
 obtain⟨c1,d1⟩:=p6 100 t o1
 obtain⟨c2,d2⟩:=p6 100 t' o2
 refine SeqAt.compareEq_reads r1 r2 c1 c2 (by have:=hr.un;lia) ⟨.bl _,H,I,rfl,?_⟩
 rw[xg 100 t t' o1 o2]
 exact q
theorem xh(hr:dg k X.A):OpR X (compareOp .NotEq) (CH X.K true):=by
 intro pins s σ H x y v u Q I rx ry h
 obtain⟨t,t',h1,h2,o1,o2,q⟩:=h
 obtain⟨as,r1⟩:=j9 I 100 t x v h1 rx o1
 obtain⟨bs,r2⟩:=j9 I 100 t' y u h2 ry o2
 obtain⟨c1,d1⟩:=p6 100 t o1
 obtain⟨c2,d2⟩:=p6 100 t' o2
 refine SeqAt.compareNe_reads r1 r2 c1 c2 (by have:=hr.un;lia) ⟨.bl _,H,I,rfl,?_⟩
 rw[xg 100 t t' o1 o2]
 exact q
theorem gR{n:Nat}{t:T}(h:okT n t=true):(∀c m,t≠.exc c m)∧∀f k,t≠.dtt f k:=⟨λc m e=>(by subst e;unfold okT at h;cases h),λc m e=>(by subst e;unfold okT at h;cases h)⟩
theorem CK{K:PySem.W.Frag}:f_ K (λx y H Q=>CH K false x y H Q∨rEq x y H Q) fEq:=by
 intro F H v u t t' w Q s hv hu hw q
 by_cases hs:∃a b,t=.str a∧t'=.str b
 ·obtain⟨a,b,rfl,rfl⟩:=hs
  cases hw
  cases hv.str
  cases hu.str
  refine .inr ⟨rfl,?_⟩
  have e:decide (V.str a=V.str b)=(a==b):=oR
  rw[e]
  exact q _ H F bG.refl (Rep.bl' _)
 ·have hw:(if okT 100 t=true∧okT 100 t'=true then some (T.bl (eqT t t')) else none)=some w:=by
   unfold fEq at hw
   split at hw
   ·exact absurd ⟨_,_,rfl,rfl⟩ hs
   ·exact hw
  by_cases ho:okT 100 t=true∧okT 100 t'=true
  ·rw[if_pos ho] at hw
   cases hw
   exact .inl ⟨t,t',hv.rep s (gR ho.1),hu.rep s (gR ho.2),ho.1,ho.2,q _ H F bG.refl (Rep.bl' _)⟩
  ·rw[if_neg ho] at hw;cases hw
theorem CL{K:PySem.W.Frag}:f_ K (λx y H Q=>CH K true x y H Q∨rNe x y H Q) fNe:=by
 intro F H v u t t' w Q s hv hu hw q
 by_cases hs:∃a b,t=.str a∧t'=.str b
 ·obtain⟨a,b,rfl,rfl⟩:=hs
  cases hw
  cases hv.str
  cases hu.str
  refine .inr ⟨rfl,?_⟩
  have e:decide (V.str a=V.str b)=(a==b):=oR
  rw[e]
  exact q _ H F bG.refl (Rep.bl' _)
 ·have hw:(if okT 100 t=true∧okT 100 t'=true then some (T.bl (!eqT t t')) else none)=some w:=by
   unfold fNe at hw
   split at hw
   ·exact absurd ⟨_,_,rfl,rfl⟩ hs
   ·exact hw
  by_cases ho:okT 100 t=true∧okT 100 t'=true
  ·rw[if_pos ho] at hw
   cases hw
   exact .inl ⟨t,t',hv.rep s (gR ho.1),hu.rep s (gR ho.2),ho.1,ho.2,q _ H F bG.refl (Rep.bl' _)⟩
  ·rw[if_neg ho] at hw;cases hw
theorem vx(hr:dg k X.A)(ha:CE X a da)(hb:CE X b db):CE X (.Compare a [.Eq] [b] pos) (ah fEq da db):=B6 ((CJ hr).or G4) CK (jS _) ha hb
theorem Lo(hr:dg k X.A)(ha:CE X a da)(hb:CE X b db):CE X (.Compare a [.NotEq] [b] pos) (ah fNe da db):=B6 ((xh hr).or G5) CL (jS _) ha hb
theorem iV(hr:dg k X.A)(ha:CE X a da)(hb:CE X b db):CT X (.Compare a [.Eq] [b] pos) (ah fEq da db):=lx ((CJ hr).or G4) CK (jS _) ha hb
theorem og(hr:dg k X.A)(ha:CE X a da)(hb:CE X b db):CT X (.Compare a [.NotEq] [b] pos) (ah fNe da db):=lx ((xh hr).or G5) CL (jS _) ha hb
def TyN(K:PySem.W.Frag)(H:Hp)(v:V)(ty:String):Prop:=match v with
 | .non=>ty="NoneType"
 | .bl _=>ty="bool"
 | .int _=>ty="int"
 | .str _=>ty="str"
 | .ref a=>(ty="list"∧∃xs,SqL K H a xs)∨(ty="tuple"∧∃xs,SqT K H a xs)∨(ty="dict"∧∃kvs,H a=some (.dK kvs))
 | _=>False
theorem CM{cn:String}:d6 X (.builtin "isinstance") (λxs H Q=>∃v ty r,xs=[v,.ty cn]∧TyN X.K H v ty∧PySem.W.kitOne X.K (.type ty) (.type cn)=some r∧Q (.bl r) H):=by
 intro pins s σ H xs us Q I r h
 obtain⟨v,ty,b,rfl,hty,e,q⟩:=h
 obtain⟨u1,u2,rfl,r1,r2⟩:=vals2 r
 have r2:u2=Value.type cn:=r2
 subst r2
 have fin:∀tk,EP X pins σ Q (.bool b) { s with toks:=tk }:=λtk=>⟨.bl b,H,I.tok _,rfl,q⟩
 cases v with
 | non=>cases (show u1=Value.none from r1);cases hty;exact PySem.W.kia_one PySem.W.kitx_none I.kIn True.intro e (λz=>nomatch z) fin
 | bl y=>cases (show u1=Value.bool y from r1);cases hty;exact PySem.W.kia_one PySem.W.kitx_bool I.kIn True.intro e (λz=>nomatch z) fin
 | int i=>obtain⟨t,q⟩:=(show ∃t,u1=Value.int i t from r1);cases q;cases hty;exact PySem.W.kia_one PySem.W.kitx_int I.kIn True.intro e (λz=>nomatch z) fin
 | str y=>obtain⟨t,q⟩:=(show ∃t,u1=Value.str y t from r1);cases q;cases hty;exact PySem.W.kia_one PySem.W.kitx_str I.kIn True.intro e (λz=>nomatch z) fin
 | ref a =>
  cases (show u1=Value.ref a from r1)
  rcases hty with ⟨rfl,xs,hq⟩|⟨rfl,xs,hq⟩|⟨rfl,kvs,hq⟩
  ·obtain⟨its,_,pl,_⟩:=I.list hq
   obtain⟨o,ho,hc,_⟩:=pl.isList
   exact PySem.W.kia_one PySem.W.kitx_list I.kIn ⟨o,ho,hc⟩ e (λz=>nomatch z) fin
  ·obtain⟨its,_,pl,_⟩:=I.tuple hq
   obtain⟨o,ho,hc,_⟩:=pl
   exact PySem.W.kia_one PySem.W.kitx_tuple I.kIn ⟨o,ho,hc⟩ e (λz=>nomatch z) fin
  ·obtain⟨_,_,vs,_,pz⟩:=(show cL X.prog X.w H s.heap a (.dK kvs) from I.hok a _ hq)
   obtain⟨o,es,h1,h2,_⟩:=pz
   exact PySem.W.kia_one PySem.W.kitx_dict I.kIn ⟨o,h1,h2.1⟩ e (λz=>nomatch z) fin
 | _=>exact hty.elim
def Kd.name:Kd→String
 | .int=>"int"
 | .bool=>"bool"
 | .str=>"str"
 | .list=>"list"
 | .tuple=>"tuple"
 | .dict=>"dict"
def kdT:T→String
 | .non=>"NoneType"
 | .bl _=>"bool"
 | .int _=>"int"
 | .str _=>"str"
 | .lst _=>"list"
 | .tup _=>"tuple"
 | .dct _=>"dict"
 | .exc _ _=>""
 | .dtt _ _=>"dict"
def Lp(x y:String):Option Bool:=if (Value.type x==Value.type y)=true then some true else if PySem.W.kitMeta y=true then (PySem.fastBuiltinMro x).map (·.contains (Value.type y)) else none
def CN(x y:String):Bool:=x==y || (x=="bool" && y=="int")
theorem CP:∀x∈["NoneType","bool","int","str","list","tuple","dict"],∀y∈["int","bool","str","list","tuple","dict"],Lp x y=some (CN x y):=by decide +kernel
theorem za{K:PySem.W.Frag}(kd:Kd)(t:T)(hx:∀c n,t≠.exc c n):PySem.W.kitOne K (.type (kdT t)) (.type kd.name)=some (isK kd t):=by
 have e:PySem.W.kitOne K (.type (kdT t)) (.type kd.name)=Lp (kdT t) kd.name:=rfl
 have h1:kdT t∈["NoneType","bool","int","str","list","tuple","dict"]:=by cases t<;>first|exact absurd rfl (hx _ _)|simp[kdT]
 have h2:kd.name∈["int","bool","str","list","tuple","dict"]:=by cases kd<;>simp[Kd.name]
 have h3:CN (kdT t) kd.name=isK kd t:=by cases kd<;>cases t<;>first|exact absurd rfl (hx _ _)|rfl
 rw[e,CP _ h1 _ h2,h3]
theorem xi(kd:Kd){cn:Str}(hm:X.mg "isinstance"=none)(hm2:X.mg cn=none)(hv2:bootBuiltins cn=some (.type kd.name))(ha:CE X a da)(hn2:cn≠"__name__")(hd2:(cn==("__debug__":Str))=false)(hg:Gl X "isinstance":=by rfl)(hg2:Gl X cn:=by rfl)
  (hs1:starEach [a,.Name cn p2] X.env=(false,eval a X.env)::starEach [.Name cn p2] X.env:=by rfl) (hs2:starEach [.Name cn p2] X.env=(false,eval (.Name cn p2) X.env)::starEach [] X.env:=by rfl) (hpl:(backTo pos (starEach [.Name cn p2] X.env)).any (·.1)=false:=by rfl) :
  CE X (.Call (.Name "isinstance" p) [a,.Name cn p2] [] pos) (dIs kd da) :=
 PE.imp (jT CM hg hm (by decide +kernel) (tJ ha (tJ (Er (v:=.ty kd.name) hg2 hm2 hv2 rfl hn2 hd2) Bn hs2) hs1) (by decide) (by decide) hs1 hpl) λσ H Q ak=>by
  obtain⟨F,α,e,μ,S,h⟩:=ak
  refine⟨F,α,e,μ,S,(R.wp_bind h).mono (λx μ1 h v H1 F1 α1 x1 S1 o1=>?_) λ_ _ h=>h⟩
  obtain⟨w,h9,post⟩:=R.br h
  obtain⟨w',h,rfl⟩:=Option.map_eq_some_iff.mp h9
  have fin:∀{v'},Rep X.K F1 w' v'→Q v' H1:=λ{v'} o=>post v' H1 F1 α1 x1 S1 o
  have gen:∀t,rd μ1 x=some t→isT kd t=some w'→∃v' ty r,[v,V.ty kd.name]=[v',.ty kd.name]∧TyN X.K H1 v' ty∧PySem.W.kitOne X.K (.type ty) (.type kd.name)=some r∧Q (.bl r) H1:=λt hr h=>by
   have nt:=a_ S1.st o1 hr
   have hx:∀c n,t≠.exc c n:=λc n z=>by subst z;cases h
   have ew:w'=.bl (isK kd t):=by
    cases t<;>first|exact (Option.some.inj h).symm|cases h
   subst ew
   refine⟨v,kdT t,_,rfl,?_,za kd t hx,fin (Rep.bl' _)⟩
   cases t with
   | non=>rw[show v=.non from Rep.jh (K:=X.K) (F:=F1) nt];rfl
   | bl b=>rw[nt.bl];rfl
   | int b=>rw[nt.int];rfl
   | str b=>rw[nt.str];rfl
   | lst ts=>obtain⟨a,vs,rfl,hq,_⟩:=nt.lB;exact .inl ⟨rfl,vs,hq⟩
   | tup ts=>obtain⟨a,vs,rfl,hq,_⟩:=nt.oB;exact .inr (.inl ⟨rfl,vs,aH.gy S1.st.ext hq⟩)
   | dct ts=>obtain⟨a,vs,rfl,hq,_⟩:=nt;exact .inr (.inr ⟨rfl,vs,hq⟩)
   | exc c n=>exact absurd rfl (hx c n)
   | dtt fz ts=>cases h
  cases x with
  | val t=>exact gen t rfl h
  | cel j =>
   cases q:rd μ1 (.cel j) with
   | none=>rw[yJ,q] at h;cases h
   | some t=>exact gen t q (by rw[yJ,q] at h;exact h)
  | box xs =>
   cases h
   obtain⟨a,vs,rfl,hq,_⟩:=o1
   exact⟨_,"tuple",_,rfl,.inr (.inl ⟨rfl,vs,aH.gy S1.st.ext hq⟩),za kd (.tup []) (λc n z=>by cases z),fin (Rep.bl' _)⟩
theorem p7(hm:X.mg "isinstance"=none)(hm2:X.mg "bool"=none)(ha:CE X a da)(hg:Gl X "isinstance":=by rfl)(hg2:Gl X "bool":=by rfl)
  (hs1:starEach [a,.Name "bool" p2] X.env=(false,eval a X.env)::starEach [.Name "bool" p2] X.env:=by rfl) (hs2:starEach [.Name "bool" p2] X.env=(false,eval (.Name "bool" p2) X.env)::starEach [] X.env:=by rfl) (hpl:(backTo pos (starEach [.Name "bool" p2] X.env)).any (·.1)=false:=by rfl) :
  CE X (.Call (.Name "isinstance" p) [a,.Name "bool" p2] [] pos) (dIs .bool da):=xi .bool hm hm2 (by decide +kernel) ha (by decide +kernel) (by decide +kernel) hg hg2 hs1 hs2 hpl
theorem lC(hm:X.mg "isinstance"=none)(hm2:X.mg "list"=none)(ha:CE X a da)(hg:Gl X "isinstance":=by rfl)(hg2:Gl X "list":=by rfl)
  (hs1:starEach [a,.Name "list" p2] X.env=(false,eval a X.env)::starEach [.Name "list" p2] X.env:=by rfl) (hs2:starEach [.Name "list" p2] X.env=(false,eval (.Name "list" p2) X.env)::starEach [] X.env:=by rfl) (hpl:(backTo pos (starEach [.Name "list" p2] X.env)).any (·.1)=false:=by rfl) :
  CE X (.Call (.Name "isinstance" p) [a,.Name "list" p2] [] pos) (dIs .list da):=xi .list hm hm2 (by decide +kernel) ha (by decide +kernel) (by decide +kernel) hg hg2 hs1 hs2 hpl
theorem vy(hm:X.mg "isinstance"=none)(hm2:X.mg "tuple"=none)(ha:CE X a da)(hg:Gl X "isinstance":=by rfl)(hg2:Gl X "tuple":=by rfl)
  (hs1:starEach [a,.Name "tuple" p2] X.env=(false,eval a X.env)::starEach [.Name "tuple" p2] X.env:=by rfl) (hs2:starEach [.Name "tuple" p2] X.env=(false,eval (.Name "tuple" p2) X.env)::starEach [] X.env:=by rfl) (hpl:(backTo pos (starEach [.Name "tuple" p2] X.env)).any (·.1)=false:=by rfl) :
  CE X (.Call (.Name "isinstance" p) [a,.Name "tuple" p2] [] pos) (dIs .tuple da):=xi .tuple hm hm2 (by decide +kernel) ha (by decide +kernel) (by decide +kernel) hg hg2 hs1 hs2 hpl
end
theorem p8:∀{ts:List T}{bs:List Bool},mn ts=some bs→ts=bs.map T.bl
 | [],bs,h=>by cases h;rfl
 | t::ts,bs,h=>by
  cases t with
  | bl b =>
   obtain⟨cs,h1,rfl⟩:=Option.map_eq_some_iff.mp (show (mn ts).map (λbs=>b::bs)=some bs from h)
   rw[p8 h1];rfl
  | _=>cases h
theorem sN:∀{ts:List T}{bs:List Int},dD ts=some bs→ts=bs.map T.int
 | [],bs,h=>by cases h;rfl
 | t::ts,bs,h=>by
  cases t with
  | int b =>
   obtain⟨cs,h1,rfl⟩:=Option.map_eq_some_iff.mp (show (dD ts).map (λbs=>b::bs)=some bs from h)
   rw[sN h1];rfl
  | _=>cases h
theorem ay.bls{K:PySem.W.Frag}{F:Hp}:∀{bs:List Bool}{vs:List V},ay K F (bs.map T.bl) vs→vs=bs.map V.bl
 | [],vs,h=>by rw[List.map_nil,ay] at h;exact h
 | b::bs,vs,h=>by
  rw[List.map_cons,ay] at h
  obtain⟨v,vs',rfl,q,r⟩:=h
  rw[r.bls,q.iQ];rfl
theorem ay.Ha{K:PySem.W.Frag}{F:Hp}:∀{bs:List Int}{vs:List V},ay K F (bs.map T.int) vs→vs=bs.map V.int
 | [],vs,h=>by rw[List.map_nil,ay] at h;exact h
 | b::bs,vs,h=>by
  rw[List.map_cons,ay] at h
  obtain⟨v,vs',rfl,q,r⟩:=h
  rw[r.Ha,q.jg];rfl
theorem p9:∀{bs:List Bool}{us:List Value},Vals (bs.map V.bl) us→us=bs.map Value.bool
 | [],us,h=>by cases h;rfl
 | b::bs,us,h=>by
  rw[List.map_cons] at h
  cases h with
  | cons r h=>rw[p9 h,show _=Value.bool b from r];rfl
section
variable{X:Cx}{a b c:Expr}{da db dc:D}{pos p p2:Pos}{k:Nat}
theorem sO{prog:Program}{w:World}{A:Around}{E:Value→Shared→Prop}{s:Shared}{l:Addr}{its:Array Value}{Q:Value→Shared→Prop}(hl:s.heap.IsList l its)
  (h:∀s₂:Shared,s₂={ s with heap:=s.heap.push { cls:=.type "list_iterator",data:=.fields #[.ref l,.int 0 0] } }→(s₂.heap.IsListIter s.heap.objs.size l 0∧s₂.heap.IsList l its)→l≠s.heap.objs.size→Q (.ref s.heap.objs.size) s₂) :
  wpAny (model prog w) A (pyIter (.ref l)) Q E s:=by
 have hlt:l<s.heap.objs.size:=by obtain⟨_,e,_⟩:=hl;exact Heap.lt_size e
 exact wpAny_pyIter_list hl (h _ rfl ⟨⟨_,Heap.get?_push_size _ rfl,rfl,rfl⟩,hl.push _⟩ (Nat.ne_of_lt hlt))
theorem range_all(bs:List Bool):(List.range bs.length).all (λi=>bs.getD i true)=bs.all id:=by
 rw[Bool.eq_iff_iff,List.all_eq_true,List.all_eq_true]
 constructor
 ·intro h x hx
  obtain⟨i,hi⟩:=List.mem_iff_getElem?.mp hx
  have hl:i<bs.length:=(List.getElem?_eq_some_iff.mp hi).1
  have:=h i (List.mem_range.mpr hl)
  rw[List.getD_eq_getElem?_getD,hi] at this
  exact this
 ·intro h i hi
  have hl:i<bs.length:=List.mem_range.mp hi
  rw[List.getD_eq_getElem?_getD,List.getElem?_eq_getElem hl]
  exact h _ (List.getElem_mem hl)
theorem range_any(bs:List Bool):(List.range bs.length).any (λi=>bs.getD i true)=bs.any id:=by
 rw[Bool.eq_iff_iff,List.any_eq_true,List.any_eq_true]
 constructor
 ·rintro⟨i,hi,h⟩
  have hl:i<bs.length:=List.mem_range.mp hi
  rw[List.getD_eq_getElem?_getD,List.getElem?_eq_getElem hl] at h
  exact⟨_,List.getElem_mem hl,h⟩
 ·rintro⟨x,hx,h⟩
  obtain⟨i,hi⟩:=List.mem_iff_getElem?.mp hx
  have hl:i<bs.length:=(List.getElem?_eq_some_iff.mp hi).1
  refine⟨i,List.mem_range.mpr hl,?_⟩
  rw[List.getD_eq_getElem?_getD,hi]
  exact h
theorem sP{prog:Program}{w:World}{A:Around}(bs:List Bool):TruthOf prog w A (λi v=>((bs.map Value.bool).toArray)[i]?=some v) (λi=>bs.getD i true):=by
 intro i v s Q E hP hQ
 have hP:(bs.map Value.bool)[i]?=some v:=by simpa using hP
 rw[List.getElem?_map] at hP
 cases q:bs[i]? with
 | none=>rw[q] at hP;cases hP
 | some y =>
  rw[q] at hP
  cases hP
  have hQ:Q (bs.getD i true) s:=hQ
  rw[List.getD_eq_getElem?_getD,q] at hQ
  exact wpAny_truthy_bool hQ
theorem Am(hr:dg k X.A):d6 X (.builtin "all") (λxs H Q=>∃(p:Addr) (bs:List Bool),xs=[.ref p]∧SqL X.K H p (bs.map V.bl)∧Q (.bl (bs.all id)) H):=by
 intro pins s σ H xs us Q I r h
 obtain⟨p,bs,rfl,hq,q⟩:=h
 obtain⟨u,rfl,ru⟩:=vals1 r
 cases ru
 obtain⟨its,rv,pl,hz⟩:=I.list hq
 cases p9 rv
 refine call_all_walk (sO pl.isList λs₂ e st hne=>?_)
 subst e
 refine⟨_,_,_,_,_,_,_,rfl,Walks.list (A:=X.A.in1) hr.hd _ p hne _,st,sP bs,λh' tk hk=>?_⟩
 rw[List.size_toArray,List.length_map,range_all]
 exact⟨.bl _,H,I.kept (t':=tk) (old_kept hk),rfl,q⟩
theorem An(hr:dg k X.A):d6 X (.builtin "any") (λxs H Q=>∃(p:Addr) (bs:List Bool),xs=[.ref p]∧SqL X.K H p (bs.map V.bl)∧Q (.bl (bs.any id)) H):=by
 intro pins s σ H xs us Q I r h
 obtain⟨p,bs,rfl,hq,q⟩:=h
 obtain⟨u,rfl,ru⟩:=vals1 r
 cases ru
 obtain⟨its,rv,pl,hz⟩:=I.list hq
 cases p9 rv
 refine call_any_walk (sO pl.isList λs₂ e st hne=>?_)
 subst e
 refine⟨_,_,_,_,_,_,_,rfl,Walks.list (A:=X.A.in1) hr.hd _ p hne _,st,sP bs,λh' tk hk=>?_⟩
 rw[List.size_toArray,List.length_map,range_any]
 exact⟨.bl _,H,I.kept (t':=tk) (old_kept hk),rfl,q⟩
theorem Jc(hr:dg k X.A)(hm:X.mg "all"=none)(ha:CE X a da)(hg:Gl X "all":=by rfl)(hs1:starEach [a] X.env=(false,eval a X.env)::starEach [] X.env:=by rfl)(hpl:(backTo pos (starEach [] X.env)).any (·.1)=false:=by rfl) :
  CE X (.Call (.Name "all" p) [a] [] pos) (dUn BS da):=oW (Am hr) (by
 intro F H v t w Q s hv hw q
 cases t with
 | lst ts =>
  obtain⟨bs,h1,rfl⟩:=Option.map_eq_some_iff.mp (show (mn ts).map _=some w from hw)
  obtain⟨a,vs,rfl,hq,hl⟩:=hv.lB
  rw[p8 h1] at hl
  rw[hl.bls] at hq
  exact⟨a,bs,rfl,hq,q _ H F bG.refl (Rep.bl' _)⟩
 | _=>cases hw) hm (by decide +kernel) ha hg (by decide) (by decide) hs1 hpl
theorem Jd(hr:dg k X.A)(hm:X.mg "any"=none)(ha:CE X a da)(hg:Gl X "any":=by rfl)(hs1:starEach [a] X.env=(false,eval a X.env)::starEach [] X.env:=by rfl)(hpl:(backTo pos (starEach [] X.env)).any (·.1)=false:=by rfl) :
  CE X (.Call (.Name "any" p) [a] [] pos) (dUn BU da):=oW (An hr) (by
 intro F H v t w Q s hv hw q
 cases t with
 | lst ts =>
  obtain⟨bs,h1,rfl⟩:=Option.map_eq_some_iff.mp (show (mn ts).map _=some w from hw)
  obtain⟨a,vs,rfl,hq,hl⟩:=hv.lB
  rw[p8 h1] at hl
  rw[hl.bls] at hq
  exact⟨a,bs,rfl,hq,q _ H F bG.refl (Rep.bl' _)⟩
 | _=>cases hw) hm (by decide +kernel) ha hg (by decide) (by decide) hs1 hpl
theorem b_(hm:X.mg "tuple"=none)(ha:CE X a da)(hg:Gl X "tuple":=by rfl)(hs1:starEach [a] X.env=(false,eval a X.env)::starEach [] X.env:=by rfl)(hpl:(backTo pos (starEach [] X.env)).any (·.1)=false:=by rfl) :
  CE X (.Call (.Name "tuple" p) [a] [] pos) (dUn aD da):=IX rq (by
 intro F H v t w Q s hv hw q
 cases t with
 | lst ts =>
  cases hw
  obtain⟨a,vs,rfl,hq,hl⟩:=hv.lB
  exact⟨a,vs,rfl,.inl ⟨hq,λl hp=>t7 s hp hl q⟩⟩
 | tup ts =>
  cases hw
  obtain⟨a,vs,rfl,hq,hl⟩:=hv.oB
  exact⟨a,vs,rfl,.inr ⟨aH.gy s hq,q _ H F bG.refl (t8 hq hl)⟩⟩
 | _=>cases hw) hm (by decide +kernel) ha hg (by decide) (by decide) hs1 hpl
theorem mD(hm:X.mg "list"=none)(ha:CE X a da)(hg:Gl X "list":=by rfl)(hs1:starEach [a] X.env=(false,eval a X.env)::starEach [] X.env:=by rfl)(hpl:(backTo pos (starEach [] X.env)).any (·.1)=false:=by rfl) :
  CF X (.Call (.Name "list" p) [a] [] pos) (dUn iP da):=Cj tP (by
 intro F H v t w Q s hv hw q
 cases t with
 | lst ts =>
  cases hw
  obtain⟨a,vs,rfl,hq,hl⟩:=hv.lB
  exact⟨a,vs,rfl,.inl hq,λl hp=>q l _ hp ⟨vs,ax,hl⟩⟩
 | tup ts =>
  cases hw
  obtain⟨a,vs,rfl,hq,hl⟩:=hv.oB
  exact⟨a,vs,rfl,.inr (aH.gy s hq),λl hp=>q l _ hp ⟨vs,ax,hl⟩⟩
 | _=>cases hw) hm (by decide +kernel) ha hg (by decide) (by decide) hs1 hpl
theorem Je:CF X (.Dict [] [] pos) (dC (.dct [])):=by
 refine⟨PE.imp BH λσ H Q ⟨F,α,e,μ,S,h⟩=>?_,λe μ x μ' h=>?_⟩
 ·obtain⟨t,et,post⟩:=h
  cases et
  intro d hd
  exact post d _ F α (Ex.lay hd) (S.of (aH.refl _) (List.prefix_refl _) (S.st.lay hd)) hd (S.st.ext.free hd) (b8 S.st hd) ⟨[],ax,by rw[bj]⟩
 ·cases h;exact⟨_,rfl⟩
theorem CQ{es:List Expr}{ds:List D}(h:CA X es ds)(hb:CE X b db)(hl:ds.length≤1000:=by decide):CF X (.BinOp (.List es p) .Mult b pos) (rz rA ds db):=by
 refine⟨PE.imp (G3 Iu (Bp h) hb) λσ H Q ⟨F,α,e,μ,S,h⟩=>?_,λe μ x μ' h=>?_⟩
 ·refine⟨F,α,e,μ,S,(fu (R.wp_bind h)).mono (λxs μ1 ⟨hn,h⟩ vs H1 F1 α1 x1 S1 o1=>?_) λ_ _ h=>h⟩
  have h:=R.wp_bind h
  cases hz:eD xs μ1 with
  | err c μ2=>exact absurd hz (oT xs μ1 c μ2)
  | bad=>rw[hz] at h;exact h.elim
  | ok ts μ2 =>
   rw[hz] at h
   obtain⟨F2,s2,n2,S2,r2⟩:=oV S1.st o1 hz
   refine⟨kI hn o1 hl,λl hp=>?_⟩
   have x2:Ex F α H F2 α1 (upd H1 l (.lst vs)):=x1.trans ((Ex.nZ s2 n2).trans (Ex.lay hp))
   refine⟨F2,α1,e,μ2,S1.of s2 (List.prefix_refl _) (S2.lay hp),(R.wp_bind h).mono (λy μ3 h v3 H3 F3 α3 x3 S3 o3=>?_) λ_ _ h=>h.mono x2⟩
   obtain⟨w,h9,t',e1,post⟩:=R.br h
   obtain⟨t,w',ht,h,e2⟩:=lg h9
   subst e1
   cases e2
   cases t with
   | int i =>
    cases (a_ S3.st o3 ht).int
    have h:(if -(2 ^ 63)≤i∧i<2 ^ 63∧ts.length*i.toNat≤szL then some (T.lst (List.replicate i.toNat ts).flatten) else none)=some t':=h
    by_cases hc:-(2 ^ 63)≤i∧i<2 ^ 63∧ts.length*i.toNat≤szL
    ·rw[if_pos hc] at h
     cases h
     obtain⟨g1,g2,g3⟩:=x3.fr l _ ax (S2.ext.free hp) (b8 S2 hp)
     refine⟨l,i,vs,rfl,rfl,g1,hc.1,hc.2.1,by rw[← r2.length];exact hc.2.2,λp' hp'=>?_⟩
     exact post p' _ F3 α3 ((x2.trans x3).trans (Ex.lay hp')) (S3.of (aH.refl _) (List.prefix_refl _) (S3.st.lay hp')) ((x2.trans x3).was S3.st hp') (S3.st.ext.free hp') (b8 S3.st hp')
      ⟨_,ax,(ay.mono x3.same _ _ r2).flat i.toNat⟩
    ·rw[if_neg hc] at h;cases h
   | _=>cases h
 ·unfold rz at h
  obtain⟨xs,μ1,hx,h⟩:=R.aR h
  obtain⟨ts,μ2,hz,h⟩:=R.aR h
  obtain⟨y,μ3,hy,h⟩:=R.aR h
  obtain⟨h9,rfl⟩:=R.lb h
  obtain⟨t,w',ht,h,rfl⟩:=lg h9
  exact⟨_,rfl⟩
theorem dU{o e1:Expr}{do_ de:D}{apos fq:Pos}(ho:CE X o do_)(he:CE X e1 de)(jV:attributeBase o "append" X.env (eval o X.env)=eval o X.env:=by rfl)
  (Im:((backTo fq (starEach [e1] X.env)).all (λx=>!x.1) && (backToKw fq (keywordEach [] X.env)).all (λx=>x.1.isSome) && decide (([e1]:List Expr).length+([]:List Keyword).length+(if ([]:List Keyword).isEmpty then 0 else 1)<30))=true:=by rfl)
  (jW:(apos.endLine==fq.line)=true:=by rfl) (hs1:starEach [e1] X.env=(false,eval e1 X.env)::starEach [] X.env:=by rfl) (hpl:(backTo fq (starEach [] X.env)).any (·.1)=false:=by rfl)
  (hs:swapsWith (.Call (.Attribute o "append" apos) [e1] [] fq) none pos.line X.env=pure false:=by rfl) :
  CS X (.Expr (.Call (.Attribute o "append" apos) [e1] [] fq) pos) (aW do_ de) :=
 PS.imp (yo (KU PySem.F.plainAttrs_list PySem.F.slot_list_append PySem.F.type_list_append sk ho (ag he av hs1) jV Im jW hs1 hpl) hs) λD σ H ak=>by
  obtain⟨F,α,e,μ,S,h⟩:=ak
  refine⟨F,α,e,μ,S,(aQ.toS h).mono (λx μ1 h v H1 F1 α1 x1 S1 o1=>?_) λ_ _ h=>h⟩
  obtain⟨_,hl,h⟩:=h.lift
  cases x with
  | cel j =>
   obtain⟨ad,ha,rfl⟩:=o1
   have hc:∃bb ts,μ1[j]?=some (bb,.lst ts):=by
    unfold mq at hl
    simp only at hl
    split at hl
    ·exact⟨_,_,by assumption⟩
    ·cases hl
   obtain⟨bb,ts,hj⟩:=hc
   have n1:=a_ S1.st (x:=.cel j) (t:=.lst ts) ⟨ad,ha,rfl⟩ (by rw[pU,hj];rfl)
   obtain⟨a',vs,e1,hq,_⟩:=n1.lB
   cases e1
   refine⟨.inl ⟨rfl,vs,hq⟩,sD ⟨F1,α1,e,μ1,S1,(aQ.toS h).mono (λy μ2 h v2 H2 F2 α2 x2 S2 o2=>?_) λ_ _ h=>h.mono x1⟩⟩
   have h:=h.toS
   cases hz:frz y μ2 with
   | err c μ3=>exact absurd hz (pj y μ2 c μ3)
   | bad=>rw[hz] at h;exact h.elim
   | ok t μ3 =>
    rw[hz] at h
    obtain⟨μ4,ha4,h⟩:=aQ.lift h
    obtain⟨F3,s3,n3,S3,r3⟩:=lr S2.st o2 hz
    unfold appendAt at ha4
    simp only at ha4
    have hc:∃us,μ3[j]?=some (true,.lst us)∧us.length<szL∧μ4=μ3.set j (true,.lst (us++[t])):=by
     split at ha4
     ·rename_i us hjs
      by_cases hu:us.length<szL
      ·rw[if_pos hu] at ha4
       cases ha4
       exact⟨us,hjs,hu,rfl⟩
      ·rw[if_neg hu] at ha4;cases ha4
     ·cases ha4
    obtain⟨us,hj3,hu,rfl⟩:=hc
    have ha3:α2[j]?=some ad:=ji x2.pre ha
    obtain⟨_,ws,hw,rw'⟩:=(S3.cell j true _ ad hj3 ha3).1 rfl
    have el:=rw'.length
    refine⟨ad,ws,v2,rfl,rfl,hw,by rw[p5] at hu;omega,?_⟩
    have x3:Ex F α H F3 α2 H2:=x1.trans (x2.trans (Ex.nZ s3 n3))
    exact h σ _ F3 α2 (x3.trans (Ex.put ha3)) ((S2.of s3 (List.prefix_refl _) S3).of (aH.refl _) (List.prefix_refl _) (pK S3 hj3 ha3 ⟨_,ax,rw'.append (ay.one r3)⟩))
  | val t=>cases hl
  | box xs=>cases hl
end
end Fw
namespace Fw
open PySem L2 PyProof.Rows
theorem ay.erase{K:PySem.W.Frag}{F:Hp}{ts:List T}{vs:List V}(h:ay K F ts vs)(i:Nat):ay K F (ts.eraseIdx i) (vs.eraseIdx i):=by
 rw[List.eraseIdx_eq_take_drop_succ,List.eraseIdx_eq_take_drop_succ]
 exact (h.take i).append (h.drop (i+1))
section
variable{X:Cx}
end
end Fw
namespace L2
open PySem PySem.Spec PyProof.Rows
def KIt(k:Bool)(h:Heap)(i l:Addr)(n:Nat):Prop:=match k with
 | true=>h.IsListIter i l n
 | false=>h.IsTupleIter i l n
def KSq(k:Bool)(h:Heap)(l:Addr)(xs:Array Value):Prop:=match k with
 | true=>h.IsList l xs
 | false=>h.IsTuple l xs
theorem KIt.at{k:Bool}{h h':Heap}{i l:Addr}{n:Nat}(x:KIt k h i l n)(e:∀o,h.get? i=some o→h'.get? i=some o):KIt k h' i l n:=by
 cases k with
 | true=>exact Heap.IsListIter.at x e
 | false=>exact Heap.IsTupleIter.at x e
theorem KSq.at{k:Bool}{h h':Heap}{l:Addr}{xs:Array Value}(x:KSq k h l xs)(e:∀o,h.get? l=some o→h'.get? l=some o):KSq k h' l xs:=by
 cases k with
 | true=>exact Heap.IsList.at x e
 | false=>exact Heap.IsTuple.at x e
theorem KIt.ob{k:Bool}{h:Heap}{i l:Addr}{n:Nat}(x:KIt k h i l n):∃o,h.get? i=some o∧o.data=.fields #[.ref l,.int n 0]:=by
 cases k with
 | true=>obtain⟨o,a,_,b⟩:=x;exact⟨o,a,b⟩
 | false=>obtain⟨o,a,_,b⟩:=x;exact⟨o,a,b⟩
section
variable{prog:Program}{w:World}{A:Around}{E:Value→Shared→Prop}{s:Shared}
theorem xj{it t:Addr}{i:Nat}{items:Array Value}{x:Value}{Q:Value→Shared→Prop}(hit:s.heap.IsTupleIter it t i)(ht:s.heap.IsTuple t items)(hx:items[i]?=some x)
  (hQ:∀h',h'.IsTupleIter it t (i+1)→Heap.SameBut it s.heap h'→Q x { s with heap:=h' }):wpAny (model prog w) A (Builtin.SmallTypes.nextOf (.ref it)) Q E s:=by
 obtain⟨⟨o,ho,hc,hd⟩,⟨ol,hol,_,nl,hdl⟩⟩:=And.intro (id hit) ht
 unfold Builtin.SmallTypes.nextOf
 refine wpAny_bind (wpAny_callSpecial?_slot (name:=Str.ofString "__next__") hit.typeIs F.slot_tuple_iterator_next (wpAny_call_entry F.slot_tuple_iterator_next hit.typeIs F.entry_tuple_iterator_next ?_ (F.args_tuple_iterator_next_1 _)))
 show wpAny _ _ (field (.ref it) 0>>=_) _ _ s;refine wpAny_bind (wpAny_field ho hd (x:=.ref t) rfl ?_)
 show wpAny _ _ (if (Value.ref t==Value.none)=true then _ else _) _ _ s;rw[if_neg (show ¬ ((Value.ref t==Value.none)=true) from Bool.false_ne_true)]
 show wpAny _ _ (field (.ref it) 1>>=_) _ _ s;refine wpAny_bind (wpAny_field ho hd (x:=.int i 0) rfl ?_)
 show wpAny _ _ (seqItems? (.ref t)>>=_) _ _ s;refine wpAny_bind (wpAny_seqItems hol hdl ?_)
 simp only[Int.toNat_natCast,hx];refine wpAny_bind (wpAny_setField ho hd (by simp) (wpAny_pure ⟨x,rfl,wpAny_pure (hQ _ ?_ (Heap.SameBut.update ..))⟩))
 exact⟨_,Heap.get?_update_self _ ho (Obj.isFreed_of_fields (Obj.data_mapFields hd _)),(Obj.cls_mapFields ..).trans hc,by rw[Obj.data_mapFields hd];simp[rawInt]⟩
theorem Ao{it t:Addr}{i:Nat}{items:Array Value}{Q:Value→Shared→Prop}(hh:A.handled=none)(hit:s.heap.IsTupleIter it t i)(ht:s.heap.IsTuple t items)(hx:items[i]?=none)
  (hE:∀h' e,Heap.ExtBut it s.heap h'→(∃o,h'.get? e=some o∧o.cls=.type "StopIteration")→E (.ref e) { s with heap:=h' }):wpAny (model prog w) A (Builtin.SmallTypes.nextOf (.ref it)) Q E s:=by
 obtain⟨⟨o,ho,hc,hd⟩,⟨ol,hol,_,nl,hdl⟩⟩:=And.intro (id hit) ht
 unfold Builtin.SmallTypes.nextOf
 refine wpAny_bind (wpAny_callSpecial?_slot (name:=Str.ofString "__next__") hit.typeIs F.slot_tuple_iterator_next (wpAny_call_entry F.slot_tuple_iterator_next hit.typeIs F.entry_tuple_iterator_next ?_ (F.args_tuple_iterator_next_1 _)))
 show wpAny _ _ (field (.ref it) 0>>=_) _ _ s;refine wpAny_bind (wpAny_field ho hd (x:=.ref t) rfl ?_)
 show wpAny _ _ (if (Value.ref t==Value.none)=true then _ else _) _ _ s;rw[if_neg (show ¬ ((Value.ref t==Value.none)=true) from Bool.false_ne_true)]
 show wpAny _ _ (field (.ref it) 1>>=_) _ _ s;refine wpAny_bind (wpAny_field ho hd (x:=.int i 0) rfl ?_)
 show wpAny _ _ (seqItems? (.ref t)>>=_) _ _ s;refine wpAny_bind (wpAny_seqItems hol hdl ?_)
 simp only[Int.toNat_natCast,hx];refine wpAny_bind (wpAny_rule (wpAny_bind (wpAny_setField ho hd (by simp) ?_)))
 show wpAny _ _ (newExc (.type "StopIteration") []>>=_) _ _ _;refine wpAny_bind ?_
 simp only[newExc,newTuple];refine wpAny_bind (wpAny_newObj_type ?_ (by size_fits))
 refine wpAny_bind (m:=firstArgMember _ _) (wpAny_of_eq (a:=Value.none) (by first|rfl|(simp only[firstArgMember];rfl)) ?_);refine wpAny_newObj_type ?_ (by size_fits)
 simp only[raiseNew];refine wpAny_bind (wpAny_handled ?_);first|rw[show A.in1.handled=none from hh]|rw[hh]
 refine wpAny_bind (wpAny_pure (wpAny_throw ?_));exact hE _ _ (((Heap.SameBut.update ..).extBut.push _).push _) ⟨_,Heap.get?_push_size _ rfl,rfl⟩
theorem jn{k:Bool}{it t:Addr}{i:Nat}{items:Array Value}{x:Value}{Q:Value→Shared→Prop}(hit:KIt k s.heap it t i)(ht:KSq k s.heap t items)(hx:items[i]?=some x)
  (hQ:∀h',KIt k h' it t (i+1)→Heap.SameBut it s.heap h'→Q x { s with heap:=h' }):wpAny (model prog w) A (Builtin.SmallTypes.nextOf (.ref it)) Q E s:=by
 cases k with
 | true=>exact wpAny_nextOf_list_item hit ht hx hQ
 | false=>exact xj hit ht hx hQ
theorem nz{k:Bool}{it t:Addr}{i:Nat}{items:Array Value}{Q:Value→Shared→Prop}(hh:A.handled=none)(hit:KIt k s.heap it t i)(ht:KSq k s.heap t items)(hx:items[i]?=none)
  (hE:∀h' e,Heap.ExtBut it s.heap h'→(∃o,h'.get? e=some o∧o.cls=.type "StopIteration")→E (.ref e) { s with heap:=h' }):wpAny (model prog w) A (Builtin.SmallTypes.nextOf (.ref it)) Q E s:=by
 cases k with
 | true=>exact wpAny_nextOf_list_end hh hit ht hx hE
 | false=>exact Ao hh hit ht hx hE
theorem Ap{k1 k2:Bool}{z TI TO i1 i2 l1 l2:Addr}{n1 n2:Nat}{xs ys:Array Value}{x y a b:Value}{Q:Value→Shared→Prop}(D:ZipApart z TI TO i1 i2 l1 l2)
  (hz:IsZip s.heap z TI TO .none) (hTI:IsPair s.heap TI (.ref i1) (.ref i2)) (hTO:IsPair s.heap TO a b) (h1:KIt k1 s.heap i1 l1 n1) (h2:KIt k2 s.heap i2 l2 n2) (hl1:KSq k1 s.heap l1 xs) (hl2:KSq k2 s.heap l2 ys) (hx:xs[n1]?=some x) (hy:ys[n2]?=some y)
  (hQ:∀h',IsZip h' z TI TO (rawInt s.heap.objs.size)→IsPair h' TO x y→KIt k1 h' i1 l1 (n1+1)→KIt k2 h' i2 l2 (n2+1)→IsPair h' s.heap.objs.size x y→h'.objs.size=s.heap.objs.size+1 →
   (∀c o,c≠z→c≠TO→c≠i1→c≠i2→s.heap.get? c=some o→h'.get? c=some o)→Q (.ref s.heap.objs.size) { s with heap:=h' }) :
  wpAny (model prog w) A (Builtin.«zip.__next__» ⟨[.ref z],[]⟩) (λfin s'=>∃v,fin=.done (.ret v)∧Q v s') E s:=by
 show wpAny _ _ (field (.ref z) 2>>=_) _ _ _;refine wpAny_bind (wpAny_field hz rfl (x:=.bool false) rfl ?_)
 show wpAny _ _ (field (.ref z) 3>>=_) _ _ _;refine wpAny_bind (wpAny_field hz rfl (x:=.ref TI) rfl ?_)
 refine wpAny_bind (wpAny_seqItems hTI rfl ?_);show wpAny _ _ (Builtin.SmallTypes.ownedTupleIsFree (.ref z)>>=_) _ _ _;refine wpAny_bind ?_
 unfold Builtin.SmallTypes.ownedTupleIsFree;refine wpAny_bind (wpAny_field hz rfl (x:=.none) rfl (wpAny_pure ?_))
 simp only[if_true];refine wpAny_bind (wpAny_rule ?_);refine wpAny_bind (wpAny_field hz rfl (x:=.ref TO) rfl ?_)
 refine wpAny_bind (wpAny_setField_rec hz (by simp) λg₁ hz₁ hs₁=>?_);replace hz₁:IsZip g₁ z TI TO .ellipsis:=hz₁
 refine wpAny_bind ?_;simp only[List.zipIdx_cons,List.zipIdx_nil,List.forIn_cons,List.forIn_nil];refine wpAny_bind (wpAny_bind (wpAny_onRaise ?_))
 show wpAny _ _ (Builtin.SmallTypes.nextOf (.ref i1)>>=_) _ _ _
 refine wpAny_bind (jn (h1.at λo e=>hs₁.extBut _ _ D.i1z e) (hl1.at λo e=>hs₁.extBut _ _ D.l1z e) hx λg₂ h1₂ hs₂=>wpAny_pure ?_)
 have hTO₂:IsPair g₂ TO a b:=hs₂.extBut _ _ D.TOi1 (hs₁.extBut _ _ D.TOz hTO)
 refine wpAny_bind (wpAny_seqItems hTO₂ rfl ?_);refine wpAny_bind (wpAny_updateSeq_pair hTO₂ λg₃ hTO₃ hs₃=>?_)
 replace hTO₃:IsPair g₃ TO x b:=hTO₃;refine wpAny_bind (wpAny_letGo (wpAny_pure ?_));refine wpAny_bind (wpAny_bind (wpAny_onRaise ?_))
 show wpAny _ _ (Builtin.SmallTypes.nextOf (.ref i2)>>=_) _ _ _
 refine wpAny_bind (jn (h2.at λo e=>hs₃.extBut _ _ D.TOi2.symm (hs₂.extBut _ _ D.i12.symm (hs₁.extBut _ _ D.i2z e))) (hl2.at λo e=>hs₃.extBut _ _ D.l2TO (hs₂.extBut _ _ D.l2i1 (hs₁.extBut _ _ D.l2z e))) hy λg₄ h2₄ hs₄=>wpAny_pure ?_)
 have hTO₄:IsPair g₄ TO x b:=hs₄.extBut _ _ D.TOi2 hTO₃
 refine wpAny_bind (wpAny_seqItems hTO₄ rfl ?_);refine wpAny_bind (wpAny_updateSeq_pair hTO₄ λg₅ hTO₅ hs₅=>?_)
 replace hTO₅:IsPair g₅ TO x y:=hTO₅;refine wpAny_bind (wpAny_letGo (wpAny_pure (wpAny_pure ?_)))
 refine wpAny_bind (wpAny_seqItems hTO₅ rfl ?_);refine wpAny_bind (wpAny_newTuple ?_)
 have hsz:g₅.objs.size=s.heap.objs.size:=by rw[hs₅.1,hs₄.1,hs₃.1,hs₂.1,hs₁.1]
 have hz₅:IsZip g₅ z TI TO .ellipsis:=hs₅.extBut _ _ D.TOz.symm (hs₄.extBut _ _ D.i2z.symm (hs₃.extBut _ _ D.TOz.symm (hs₂.extBut _ _ D.i1z.symm hz₁)))
 have hk₅:∀c o,c≠z→c≠TO→c≠i1→c≠i2→s.heap.get? c=some o→g₅.get? c=some o:=λc o c1 c2 c3 c4 e=>hs₅.extBut _ _ c2 (hs₄.extBut _ _ c4 (hs₃.extBut _ _ c2 (hs₂.extBut _ _ c3 (hs₁.extBut _ _ c1 e))))
 have h1₅:KIt k1 g₅ i1 l1 (n1+1):=h1₂.at λo e=>hs₅.extBut _ _ D.TOi1.symm (hs₄.extBut _ _ D.i12 (hs₃.extBut _ _ D.TOi1.symm e))
 have h2₅:KIt k2 g₅ i2 l2 (n2+1):=h2₄.at λo e=>hs₅.extBut _ _ D.TOi2.symm e
 have Lq:z<g₅.objs.size:=Heap.lt_size hz₅
 show wpAny _ _ (Builtin.SmallTypes.ownedTupleHandOut (.ref z) (.ref g₅.objs.size)>>=_) _ _ _;refine wpAny_bind ?_
 unfold Builtin.SmallTypes.ownedTupleHandOut
 have hz₆:IsZip (g₅.push { cls:=.type "tuple",data:=.seq #[x,y] }) z TI TO .ellipsis:=Heap.get?_push_of_some _ hz₅
 refine wpAny_bind (wpAny_setField_rec hz₆ (by simp) λg₇ hz₇ hs₇=>?_);replace hz₇:IsZip g₇ z TI TO (rawInt g₅.objs.size):=hz₇
 refine wpAny_setField_rec hz₇ (by simp) λg₈ hz₈ hs₈=>?_
 replace hz₈:IsZip g₈ z TI TO (rawInt g₅.objs.size):=hz₈
 have up:∀c o,c≠z→g₅.get? c=some o→g₈.get? c=some o:=λc o c1 e=>hs₈.extBut _ _ c1 (hs₇.extBut _ _ c1 (Heap.get?_push_of_some _ e))
 have hT₈:IsPair g₈ g₅.objs.size x y:=hs₈.extBut _ _ (Nat.ne_of_gt Lq) (hs₇.extBut _ _ (Nat.ne_of_gt Lq) (Heap.get?_push_size _ rfl))
 have hz8:g₈.objs.size=g₅.objs.size+1:=by rw[hs₈.1,hs₇.1,Heap.size_push]
 rw[hsz] at hz₈ hT₈ hz8
 refine wpAny_pure ⟨_,rfl,?_⟩
 show Q (.ref g₅.objs.size) _
 rw[hsz]
 exact hQ g₈ hz₈ (up _ _ D.TOz hTO₅) (h1₅.at λo e=>up _ o D.i1z e) (h2₅.at λo e=>up _ o D.i2z e) hT₈ hz8 λc o c1 c2 c3 c4 e=>up c o c1 (hk₅ c o c1 c2 c3 c4 e)
theorem CU{k1 k2:Bool}{z TI TO i1 i2 l1 l2:Addr}{n1 n2:Nat}{xs ys:Array Value}{a b:Value}{Q:Fin→Shared→Prop}(hh:A.handled=none)(D:ZipApart z TI TO i1 i2 l1 l2)
  (hz:IsZip s.heap z TI TO .none) (hTI:IsPair s.heap TI (.ref i1) (.ref i2)) (hTO:IsPair s.heap TO a b) (h1:KIt k1 s.heap i1 l1 n1) (h2:KIt k2 s.heap i2 l2 n2) (hl1:KSq k1 s.heap l1 xs) (hl2:KSq k2 s.heap l2 ys) (pL:xs[n1]?=none∨ys[n2]?=none)
  (hE:∀h' e,(∀c o,c≠z→c≠TO→c≠i1→c≠i2→s.heap.get? c=some o→h'.get? c=some o)→(∃o,h'.get? e=some o∧o.cls=.type "StopIteration")→E (.ref e) { s with heap:=h' }) :
  wpAny (model prog w) A (Builtin.«zip.__next__» ⟨[.ref z],[]⟩) Q E s:=by
 show wpAny _ _ (field (.ref z) 2>>=_) _ _ _;refine wpAny_bind (wpAny_field hz rfl (x:=.bool false) rfl ?_)
 show wpAny _ _ (field (.ref z) 3>>=_) _ _ _;refine wpAny_bind (wpAny_field hz rfl (x:=.ref TI) rfl ?_)
 refine wpAny_bind (wpAny_seqItems hTI rfl ?_);show wpAny _ _ (Builtin.SmallTypes.ownedTupleIsFree (.ref z)>>=_) _ _ _;refine wpAny_bind ?_
 unfold Builtin.SmallTypes.ownedTupleIsFree;refine wpAny_bind (wpAny_field hz rfl (x:=.none) rfl (wpAny_pure ?_))
 simp only[if_true];refine wpAny_bind (wpAny_rule ?_);refine wpAny_bind (wpAny_field hz rfl (x:=.ref TO) rfl ?_)
 refine wpAny_bind (wpAny_setField_rec hz (by simp) λg₁ hz₁ hs₁=>?_);replace hz₁:IsZip g₁ z TI TO .ellipsis:=hz₁
 refine wpAny_bind ?_;simp only[List.zipIdx_cons,List.zipIdx_nil,List.forIn_cons,List.forIn_nil];refine wpAny_bind (wpAny_bind (wpAny_onRaise ?_))
 show wpAny _ _ (Builtin.SmallTypes.nextOf (.ref i1)>>=_) _ _ _
 have h1':=h1.at λo e=>hs₁.extBut _ _ D.i1z e
 have Lr:=hl1.at λo e=>hs₁.extBut _ _ D.l1z e
 cases hx:xs[n1]? with
 | none =>
  refine wpAny_bind (nz hh h1' Lr hx λg₂ e hs₂ he=>?_)
  obtain⟨oe,hoe,hce⟩:=he
  have hz₂:IsZip g₂ z TI TO .ellipsis:=hs₂ _ _ D.i1z.symm hz₁
  have hez:e≠z:=λq=>by subst q;rw[hz₂] at hoe;cases hoe;simp at hce
  exact wpAny_setField_rec hz₂ (by simp) λg₃ _ hs₃=>hE g₃ e (λc o c1 _ c3 _ q=>hs₃.extBut _ _ c1 (hs₂ _ _ c3 (hs₁.extBut _ _ c1 q))) ⟨oe,hs₃.extBut _ _ hez hoe,hce⟩
 | some x =>
  have hy:ys[n2]?=none:=by
   rcases pL with h|h
   ·rw[hx] at h;cases h
   ·exact h
  refine wpAny_bind (jn h1' Lr hx λg₂ h1₂ hs₂=>wpAny_pure ?_)
  have hTO₂:IsPair g₂ TO a b:=hs₂.extBut _ _ D.TOi1 (hs₁.extBut _ _ D.TOz hTO)
  refine wpAny_bind (wpAny_seqItems hTO₂ rfl ?_);refine wpAny_bind (wpAny_updateSeq_pair hTO₂ λg₃ hTO₃ hs₃=>?_)
  refine wpAny_bind (wpAny_letGo (wpAny_pure ?_));refine wpAny_bind (wpAny_bind (wpAny_onRaise ?_))
  show wpAny _ _ (Builtin.SmallTypes.nextOf (.ref i2)>>=_) _ _ _
  refine wpAny_bind (nz hh (h2.at λo e=>hs₃.extBut _ _ D.TOi2.symm (hs₂.extBut _ _ D.i12.symm (hs₁.extBut _ _ D.i2z e))) (hl2.at λo e=>hs₃.extBut _ _ D.l2TO (hs₂.extBut _ _ D.l2i1 (hs₁.extBut _ _ D.l2z e))) hy λg₄ e hs₄ he=>?_)
  obtain⟨oe,hoe,hce⟩:=he
  have hz₄:IsZip g₄ z TI TO .ellipsis:=hs₄ _ _ D.i2z.symm (hs₃.extBut _ _ D.TOz.symm (hs₂.extBut _ _ D.i1z.symm hz₁))
  have hez:e≠z:=λq=>by subst q;rw[hz₄] at hoe;cases hoe;simp at hce
  exact wpAny_setField_rec hz₄ (by simp) λg₅ _ hs₅=>hE g₅ e (λc o c1 c2 c3 c4 q=>hs₅.extBut _ _ c1 (hs₄ _ _ c4 (hs₃.extBut _ _ c2 (hs₂.extBut _ _ c3 (hs₁.extBut _ _ c1 q))))) ⟨oe,hs₅.extBut _ _ hez hoe,hce⟩
theorem uc{k1 k2:Bool}{z TI TO i1 i2 l1 l2:Addr}{n1 n2:Nat}{xs ys:Array Value}{x y a b:Value}{Q:Option Value→Shared→Prop}(D:ZipApart z TI TO i1 i2 l1 l2)
  (hz:IsZip s.heap z TI TO .none) (hTI:IsPair s.heap TI (.ref i1) (.ref i2)) (hTO:IsPair s.heap TO a b) (h1:KIt k1 s.heap i1 l1 n1) (h2:KIt k2 s.heap i2 l2 n2) (hl1:KSq k1 s.heap l1 xs) (hl2:KSq k2 s.heap l2 ys) (hx:xs[n1]?=some x) (hy:ys[n2]?=some y)
  (hQ:∀h',IsZip h' z TI TO (rawInt s.heap.objs.size)→IsPair h' TO x y→KIt k1 h' i1 l1 (n1+1)→KIt k2 h' i2 l2 (n2+1)→IsPair h' s.heap.objs.size x y→h'.objs.size=s.heap.objs.size+1 →
   (∀c o,c≠z→c≠TO→c≠i1→c≠i2→s.heap.get? c=some o→h'.get? c=some o)→Q (some (.ref s.heap.objs.size)) { s with heap:=h' }):wpAny (model prog w) A (pyNext (.ref z)) Q E s:=by
 have hT:s.TypeIs (.ref z) "zip":=⟨_,hz,rfl⟩
 unfold pyNext
 exact wpAny_bind (wpAny_attempt (wpAny_callSpecial?_slot (name:=Str.ofString "__next__") hT F.slot_zip_next (wpAny_call_entry F.slot_zip_next hT F.entry_zip_next
  (Ap D hz hTI hTO h1 h2 hl1 hl2 hx hy λh' a1 a2 a3 a4 a5 a6 a7=>wpAny_pure (hQ h' a1 a2 a3 a4 a5 a6 a7)) (F.args_zip_next_1 _))))
theorem vA{k1 k2:Bool}{z TI TO i1 i2 l1 l2:Addr}{n1 n2:Nat}{xs ys:Array Value}{a b:Value}{Q:Option Value→Shared→Prop}(hh:A.handled=none)(D:ZipApart z TI TO i1 i2 l1 l2)
  (hz:IsZip s.heap z TI TO .none) (hTI:IsPair s.heap TI (.ref i1) (.ref i2)) (hTO:IsPair s.heap TO a b) (h1:KIt k1 s.heap i1 l1 n1) (h2:KIt k2 s.heap i2 l2 n2) (hl1:KSq k1 s.heap l1 xs) (hl2:KSq k2 s.heap l2 ys) (pL:xs[n1]?=none∨ys[n2]?=none)
  (hQ:∀h',(∀c o,c≠z→c≠TO→c≠i1→c≠i2→s.heap.get? c=some o→h'.get? c=some o)→Q none { s with heap:=h' }):wpAny (model prog w) A (pyNext (.ref z)) Q E s:=by
 have hT:s.TypeIs (.ref z) "zip":=⟨_,hz,rfl⟩
 unfold pyNext
 refine wpAny_bind (wpAny_attempt (wpAny_callSpecial?_slot (name:=Str.ofString "__next__") hT F.slot_zip_next (wpAny_call_entry F.slot_zip_next hT F.entry_zip_next (CU hh D hz hTI hTO h1 h2 hl1 hl2 pL λh' e hk he=>?_) (F.args_zip_next_1 _))))
 obtain⟨o,ho,hc⟩:=he
 refine wpAny_bind (wpAny_isInstance (T:="StopIteration") (b:=true) ⟨o,ho,hc⟩ isSubtype_stop ?_);exact wpAny_pure (hQ _ hk)
end
def gx(k:Bool)(l:Addr):Obj:={ cls:=.type (if k then "list_iterator" else "tuple_iterator"),data:=.fields #[.ref l,.int 0 0] }
noncomputable abbrev zH2 (k1 k2 : Bool) (h : Heap) (l1 l2 : Addr) : Heap := (h.push (gx k1 l1)).push (gx k2 l2)
noncomputable abbrev zH4 (k1 k2 : Bool) (h : Heap) (l1 l2 : Addr) : Heap := ((zH2 k1 k2 h l1 l2).push { cls := .type "tuple", data := .seq #[.ref h.objs.size, .ref (h.push (gx k1 l1)).objs.size] }).push { cls := .type "tuple", data := .seq #[.none, .none] }
noncomputable abbrev zH5 (k1 k2 : Bool) (h : Heap) (l1 l2 : Addr) : Heap := (zH4 k1 k2 h l1 l2).push { cls := .type "zip", data := .fields #[.none, .bool false, .bool false, .ref (zH2 k1 k2 h l1 l2).objs.size, .ref ((zH2 k1 k2 h l1 l2).push { cls := .type "tuple", data := .seq #[.ref h.objs.size, .ref (h.push (gx k1 l1)).objs.size] }).objs.size] }
set_option maxHeartbeats 4000000 in
theorem FE(k1 k2:Bool)(l1 l2:Addr)(xs ys:Array Value) :
  Meets (Builtin.«zip.__new__» ⟨[.type "zip",.ref l1,.ref l2],[]⟩) (λ_ R s=>KSq k1 s.heap l1 xs∧KSq k2 s.heap l2 ys∧R (.ok (.ret (.ref (zH4 k1 k2 s.heap l1 l2).objs.size))) { s with heap:=zH5 k1 k2 s.heap l1 l2 }) :=
 .of_wp λprog w A R s h=>by
  obtain⟨hp,g,d,tk,os⟩:=s;obtain⟨hl1,hl2,h⟩:=h
  have Nt:=sub_zip
  cases k1 with
  | true =>
   have hL1:Heap.IsList (Shared.heap ⟨hp,g,d,tk,os⟩) l1 xs:=hl1
   cases k2 with
   | true =>
    have hL2:Heap.IsList (Shared.heap ⟨hp.push { cls:=.type "list_iterator",data:=.fields #[.ref l1,.int 0 0] },g,d,tk,os⟩) l2 ys:=Heap.IsList.push hl2 _
    wp_walk using wpAny_pyIter_list hL1,wpAny_pyIter_list hL2
    exact⟨_,rfl,h⟩
   | false =>
    have hL2:Heap.IsTuple (Shared.heap ⟨hp.push { cls:=.type "list_iterator",data:=.fields #[.ref l1,.int 0 0] },g,d,tk,os⟩) l2 ys:=Heap.IsTuple.push hl2 _
    wp_walk using wpAny_pyIter_list hL1,wpAny_pyIter_tuple hL2
    exact⟨_,rfl,h⟩
  | false =>
   have hL1:Heap.IsTuple (Shared.heap ⟨hp,g,d,tk,os⟩) l1 xs:=hl1
   cases k2 with
   | true =>
    have hL2:Heap.IsList (Shared.heap ⟨hp.push { cls:=.type "tuple_iterator",data:=.fields #[.ref l1,.int 0 0] },g,d,tk,os⟩) l2 ys:=Heap.IsList.push hl2 _
    wp_walk using wpAny_pyIter_tuple hL1,wpAny_pyIter_list hL2
    exact⟨_,rfl,h⟩
   | false =>
    have hL2:Heap.IsTuple (Shared.heap ⟨hp.push { cls:=.type "tuple_iterator",data:=.fields #[.ref l1,.int 0 0] },g,d,tk,os⟩) l2 ys:=Heap.IsTuple.push hl2 _
    wp_walk using wpAny_pyIter_tuple hL1,wpAny_pyIter_tuple hL2
    exact⟨_,rfl,h⟩
theorem KIt.new{k:Bool}{h:Heap}{i l:Addr}(e:h.get? i=some (gx k l)):KIt k h i l 0:=by
 cases k with
 | true=>exact⟨_,e,rfl,rfl⟩
 | false=>exact⟨_,e,rfl,rfl⟩
section
variable{prog:Program}{w:World}{A:Around}{E:Value→Shared→Prop}{s:Shared}
theorem Aq{k1 k2:Bool}{l1 l2:Addr}{xs ys:Array Value}{Q:Value→Shared→Prop}(hl1:KSq k1 s.heap l1 xs)(hl2:KSq k2 s.heap l2 ys)
  (h:∀h',IsZip h' (s.heap.objs.size+4) (s.heap.objs.size+2) (s.heap.objs.size+3) .none→IsPair h' (s.heap.objs.size+2) (.ref s.heap.objs.size) (.ref (s.heap.objs.size+1))→IsPair h' (s.heap.objs.size+3) .none .none →
   KIt k1 h' s.heap.objs.size l1 0→KIt k2 h' (s.heap.objs.size+1) l2 0→h'.objs.size=s.heap.objs.size+5→(∀c o,s.heap.get? c=some o→h'.get? c=some o)→Q (.ref (s.heap.objs.size+4)) { s with heap:=h' }) :
  wpAny (model prog w) A (call (.type "zip") [.ref l1,.ref l2]) Q E s:=by
 refine callType_new F.called_zip (by decide) (F.typeCall_zip_2 _ _) (F.newCall_zip_2 _ _) (λobj=>F.args_object_init_3 obj _ _) F.entry_zip_new (FE k1 k2 l1 l2 xs ys) ⟨hl1,hl2,?_⟩
 have z1:(s.heap.push (gx k1 l1)).objs.size=s.heap.objs.size+1:=Heap.size_push ..
 have z2:(zH2 k1 k2 s.heap l1 l2).objs.size=s.heap.objs.size+2:=by rw[Heap.size_push,z1]
 have z3:((zH2 k1 k2 s.heap l1 l2).push { cls:=.type "tuple",data:=.seq #[.ref s.heap.objs.size,.ref (s.heap.push (gx k1 l1)).objs.size] }).objs.size=s.heap.objs.size+3:=by rw[Heap.size_push,z2]
 have z4:(zH4 k1 k2 s.heap l1 l2).objs.size=s.heap.objs.size+4:=by rw[Heap.size_push,z3]
 have z5:(zH5 k1 k2 s.heap l1 l2).objs.size=s.heap.objs.size+5:=by rw[Heap.size_push,z4]
 have g5:(zH5 k1 k2 s.heap l1 l2).get? (zH4 k1 k2 s.heap l1 l2).objs.size=some _:=Heap.get?_push_size _ rfl
 have g4:(zH5 k1 k2 s.heap l1 l2).get? ((zH2 k1 k2 s.heap l1 l2).push { cls:=.type "tuple",data:=.seq #[.ref s.heap.objs.size,.ref (s.heap.push (gx k1 l1)).objs.size] }).objs.size=some _:=Heap.get?_push_of_some _ (Heap.get?_push_size _ rfl)
 have g3:(zH5 k1 k2 s.heap l1 l2).get? (zH2 k1 k2 s.heap l1 l2).objs.size=some _:=Heap.get?_push_of_some _ (Heap.get?_push_of_some _ (Heap.get?_push_size _ rfl))
 have g2:(zH5 k1 k2 s.heap l1 l2).get? (s.heap.push (gx k1 l1)).objs.size=some (gx k2 l2):=Heap.get?_push_of_some _ (Heap.get?_push_of_some _ (Heap.get?_push_of_some _ (Heap.get?_push_size _ rfl)))
 have g1:(zH5 k1 k2 s.heap l1 l2).get? s.heap.objs.size=some (gx k1 l1):=Heap.get?_push_of_some _ (Heap.get?_push_of_some _ (Heap.get?_push_of_some _ (Heap.get?_push_of_some _ (Heap.get?_push_size _ rfl))))
 show _∧_
 rw[z2,z3,z4] at g5;rw[z1,z2] at g3;rw[z3] at g4;rw[z1] at g2;rw[z4]
 exact⟨⟨_,g5,rfl⟩,h _ g5 g3 g4 (KIt.new g1) (KIt.new g2) z5 λc o q =>
  Heap.get?_push_of_some _ (Heap.get?_push_of_some _ (Heap.get?_push_of_some _ (Heap.get?_push_of_some _ (Heap.get?_push_of_some _ q))))⟩
end
def iC(K:PySem.W.Frag)(k:Bool)(H:Hp)(a:Addr)(xs:List V):Prop:=match k with
 | true=>SqL K H a xs
 | false=>SqT K H a xs
theorem Inv.ksq{X:Cx}{pins:List (Addr×Obj)}{σ:L2.St}{H:Hp}{s:Shared}{k:Bool}{a:Addr}{xs:List V}(I:Inv X pins σ H s)(h:iC X.K k H a xs):∃its:List Value,Vals xs its∧KSq k s.heap a its.toArray∧xs.length≤sizeLine:=by
 cases k with
 | true=>obtain⟨its,r,p,z⟩:=I.list h;exact⟨its,r,p.isList,z⟩
 | false=>obtain⟨its,r,p,z⟩:=I.tuple h;exact⟨its,r,p,z⟩
theorem Inv.ud{X:Cx}{pins:List (Addr×Obj)}{σ:L2.St}{H:Hp}{s:Shared}{k:Bool}{a:Addr}{xs ys:List V}(I:Inv X pins σ H s)(h:iC X.K k H a xs)(h':iC X.K k H a ys):xs=ys:=by
 cases k with
 | true=>exact I.uX h h'
 | false=>exact I.se h h'
def Itz(K:PySem.W.Frag)(k1 k2:Bool)(a b:Addr):It :=
 ⟨λi H=>∃xs ys x y,iC K k1 H a xs∧iC K k2 H b ys∧xs[i]?=some x∧ys[i]?=some y,
  λi H v H'=>∃p x y,v=.ref p∧H p=none∧H'=upd H p (.tup [x,y])∧(∀xs,iC K k1 H a xs→xs[i]?=some x)∧∀ys,iC K k2 H b ys→ys[i]?=some y,
  λi H=>∃xs ys,iC K k1 H a xs∧iC K k2 H b ys∧(xs.length≤i∨ys.length≤i)⟩
theorem gS{X:Cx}{pins:List (Addr×Obj)}{σ:L2.St}{H:Hp}{s:Shared}{k:Bool}{a c:Addr}{xs:List V}(I:Inv X pins σ H s)(h:iC X.K k H a xs)(hf:jR X pins H c):a≠c:=λe=>by
 subst e
 have key:∀o,X.K.lookup a=some o→False:=λo hk=>by
  have hb:=I.ok.mod.kin a o hk
  rcases hf.2.2.2.1 with z|z
  ·exact I.ok.zI a o hb z
  ·exact absurd (Nat.lt_of_lt_of_le (Heap.lt_size hb) (Nat.le_trans I.ok.bsz z)) (Nat.lt_irrefl _)
 cases k with
 | true =>
  rcases h with (h|⟨o,h⟩)|⟨o,its,n,hk,_⟩
  ·rw[hf.1] at h;cases h
  ·rw[hf.1] at h;cases h
  ·exact key o hk
 | false =>
  have h:H a=some (.tup xs):=h
  rw[hf.1] at h;cases h
section
variable{X:Cx}{pins:List (Addr×Obj)}{σ:L2.St}{H:Hp}{s:Shared}{h':Heap}{ch:List Addr}
theorem zb{b:Addr}{u o:HO}{H':Hp}{tr:Addr}(I:Inv X pins σ H s)(k:∀b o,b∉ch→s.heap.get? b=some o→h'.get? b=some o)(hf:∀b∈ch,jR X pins H b)(e:H b=some u)
  (ho:∀c,H c=some (.own b)→H' c=some (.own b)) (ht:∀c xs,H c=some (.tup xs)→H' c=some (.tup xs)):cL X.prog X.w H' h' b u:=by
 refine (I.hok b u e).uU (λc v hc q=>k c v (λz=>?_) q) ho ht
 have hn:=(hf c z).1
 rcases hc with rfl|hc
 ·rw[hn] at e;cases e
 ·rw[hn] at hc;cases hc
theorem Inv.ue{t':Nat}(I:Inv X pins σ H s)(k:∀b o,b∉ch→s.heap.get? b=some o→h'.get? b=some o)(hf:∀b∈ch,jR X pins H b):Inv X pins σ H { s with heap:=h',toks:=t' }:=by
 refine I.step (g':=s.gens) (d':=s.drawn) (ch:=ch) (λb hb=>⟨(hf b hb).2.2.2.1,(hf b hb).2.1,(hf b hb).2.2.2.2.1,(hf b hb).2.2.2.2.2⟩) (λb o _ _ hc e _=>k b o hc e) (λb o _ _ hc e _=>⟨o.slots,k b o hc e⟩) (λ_ _ _ _ n=>n)
  (λb o hc e=>⟨o,k b o hc e⟩) (λ_ _ e=>e) (λ_ _ _ e=>e) (λb ps e=>⟨#[],by rw[e];simp⟩) (λm hm=>?_) (λb u e=>zb (o:=u) (tr:=b) I k hf e (λ_ q=>q) λ_ _ q=>q) I.bare
 obtain⟨o,es,ep,ho,r⟩:=hm
 exact⟨o,es,ep,k _ o (λz=>(hf _ z).2.1 rfl) ho,r⟩
theorem Inv.uf{o:HO}(I:Inv X pins σ H s)(k:∀b o,b∉ch→s.heap.get? b=some o→h'.get? b=some o)(hf:∀b∈ch,jR X pins H b)(new:cL X.prog X.w (upd H s.heap.objs.size o) h' s.heap.objs.size o) :
  Inv X pins σ (upd H s.heap.objs.size o) { s with heap:=h' }:=by
 have hn:H s.heap.objs.size=none:=I.hok.fresh (Nat.le_refl _)
 have ne:∀{b:Addr}{ob:Obj},s.heap.get? b=some ob→b≠s.heap.objs.size:=λe=>Nat.ne_of_lt (Heap.lt_size e)
 refine I.step (g':=s.gens) (d':=s.drawn) (t':=s.toks) (ch:=ch) (λb hb=>⟨(hf b hb).2.2.2.1,(hf b hb).2.1,(hf b hb).2.2.2.2.1,(hf b hb).2.2.2.2.2⟩) (λb o _ _ hc e _=>k b o hc e) (λb o _ _ hc e _=>⟨o.slots,k b o hc e⟩) (λb ob _ e n=>by rw[aB (ne e)];exact n)
  (λb o hc e=>⟨o,k b o hc e⟩) (λb xs q=>by rw[aB (cY q hn)];exact q) (λb u xs q=>by rw[aB (cY q hn)];exact q) (λb ps q=>⟨#[],by rw[aB (cY q hn),q];simp⟩) (λm hm=>?_) (λb u e=>?_) I.bare
 ·obtain⟨o,es,ep,ho,r⟩:=hm
  exact⟨o,es,ep,k _ o (λz=>(hf _ z).2.1 rfl) ho,r⟩
 ·by_cases hb:b=s.heap.objs.size
  ·subst hb;rw[ax] at e;cases e;exact new
  ·rw[aB hb] at e
   exact zb (o:=u) (tr:=b) I k hf e (λc q=>by rw[aB (cY q hn)];exact q) λc xs q=>by rw[aB (cY q hn)];exact q
end
structure ZSt(k1 k2:Bool)(z TI TO i1 i2 l1 l2:Addr)(i:Nat)(h:Heap):Prop where
 z:IsZip h z TI TO .none
 ti:IsPair h TI (.ref i1) (.ref i2)
 to:∃a b,IsPair h TO a b
 one:KIt k1 h i1 l1 i
 two:KIt k2 h i2 l2 i
theorem Ls{P:Addr→Prop}{a b c d e:Addr}(h1:P a)(h2:P b)(h3:P c)(h4:P d)(h5:P e):∀x∈[a,b,c,d,e],P x:=by
 simp[h1,h2,h3,h4,h5]
theorem Hb{a b c d e x:Addr}(h:x∈[a,c,d,e]):x∈[a,b,c,d,e]:=by
 simp at h ⊢
 rcases h with h|h|h|h<;>simp[h]
theorem Lu{a b c d x:Addr}(h:x∉[a,b,c,d]):x≠a∧x≠b∧x≠c∧x≠d:=by
 simpa using h
theorem CV {P : Program} {w : World} {K : PySem.W.Frag} {elts : List Expr} {x1 : Nat} {pos : Pos} {k1 k2 : Bool} {z TI TO i1 i2 l1 l2 : Addr} (d1 : TI ≠ TO) (d2 : i1 ≠ i2) :
    Turn P w K (.Tuple elts x1 pos) (Itz K k1 k2 l1 l2) [z, TI, TO, i1, i2] z (ZSt k1 k2 z TI TO i1 i2 l1 l2) := by
  have ap : ∀ {X : Cx} {pins : List (Addr × Obj)} {σ : L2.St} {H : Hp} {s : Shared} {i : Nat} {xs ys : List V}, X.K = K → Inv X pins σ H s → (∀ b ∈ [z, TI, TO, i1, i2], jR X pins H b) → ZSt k1 k2 z TI TO i1 i2 l1 l2 i s.heap → iC K k1 H l1 xs → iC K k2 H l2 ys → ZipApart z TI TO i1 i2 l1 l2 := by
    intro X pins σ H s i xs ys hK I hf st h1 h2
    subst hK
    obtain ⟨a, b, hto⟩ := st.to
    obtain ⟨o1, e1, q1⟩ := st.one.ob
    obtain ⟨o2, e2, q2⟩ := st.two.ob
    have neP : ∀ {c d : Addr} {o : Obj} {u v : Value} {vs : Array Value}, IsPair s.heap c u v → s.heap.get? d = some o → o.data = .fields vs → c ≠ d := fun {c d o u v vs} hp ho hd e => by
      subst e
      have hp : s.heap.get? c = some { cls := .type "tuple", data := .seq #[u, v] } := hp
      rw [hp] at ho; cases ho; cases hd
    have neZ : ∀ {d : Addr} {l : Addr} {o : Obj} {n : Nat}, s.heap.get? d = some o → o.data = .fields #[.ref l, .int n 0] → d ≠ z := fun {d l o n} ho hd e => by
      subst e
      have hz : s.heap.get? d = some _ := st.z
      rw [hz] at ho; cases ho
      have : (#[Value.none, .bool false, .bool false, .ref TI, .ref TO] : Array Value) = #[.ref l, .int n 0] := by injection hd
      exact absurd (congrArg Array.size this) (by simp)
    have w : ∀ c ∈ [z, TI, TO, i1, i2], l1 ≠ c ∧ l2 ≠ c := fun c hc => ⟨gS I h1 (hf c hc), gS I h2 (hf c hc)⟩
    exact { TIz := neP st.ti st.z rfl, TOz := neP hto st.z rfl, i1z := neZ e1 q1, i2z := neZ e2 q2, TITO := d1, TIi1 := neP st.ti e1 q1, TIi2 := neP st.ti e2 q2, TOi1 := neP hto e1 q1, TOi2 := neP hto e2 q2, i12 := d2,
            l1z := (w z (.head _)).1, l1TO := (w TO (.tail _ (.tail _ (.head _)))).1, l1i1 := (w i1 (.tail _ (.tail _ (.tail _ (.head _))))).1, l1i2 := (w i2 (.tail _ (.tail _ (.tail _ (.tail _ (.head _)))))).1, l2z := (w z (.head _)).2, l2TO := (w TO (.tail _ (.tail _ (.head _)))).2, l2i1 := (w i1 (.tail _ (.tail _ (.tail _ (.head _))))).2, l2i2 := (w i2 (.tail _ (.tail _ (.tail _ (.tail _ (.head _)))))).2 }
  refine ⟨by simp, fun i h st => ?_, fun i h h' st k => ?_, ?_, ?_, fun A i s Q E st hq => wpAny_pyIter_zip st.z hq⟩
  · obtain ⟨a, b', hto⟩ := st.to
    obtain ⟨o1, e1, q1⟩ := st.one.ob
    obtain ⟨o2, e2, q2⟩ := st.two.ob
    exact Ls ⟨_, st.z, fun v e => by cases e⟩ ⟨_, st.ti, fun v e => by cases e⟩ ⟨_, hto, fun v e => by cases e⟩ ⟨_, e1, fun v e => by rw [q1] at e; cases e⟩ ⟨_, e2, fun v e => by rw [q2] at e; cases e⟩
  · obtain ⟨a, b', hto⟩ := st.to
    exact ⟨k z (.head _) _ st.z, k TI (.tail _ (.head _)) _ st.ti, ⟨a, b', k TO (.tail _ (.tail _ (.head _))) _ hto⟩, st.one.at fun o e => k i1 (.tail _ (.tail _ (.tail _ (.head _)))) o e, st.two.at fun o e => k i2 (.tail _ (.tail _ (.tail _ (.tail _ (.head _))))) o e⟩
  · intro X hP hw hK hc i pins s σ H E I hf st hg
    obtain ⟨xs, ys, x, y, h1, h2, hx, hy⟩ := hg
    have D := ap hK I hf st h1 h2
    subst hP hw hK
    obtain ⟨rE, r1, s1, z1⟩ := I.ksq h1
    obtain ⟨pg, r2, s2, z2⟩ := I.ksq h2
    obtain ⟨u, hu, ru⟩ := r1.get hx
    obtain ⟨v, hv, rv⟩ := r2.get hy
    obtain ⟨a, b', hto⟩ := st.to
    refine uc D st.z st.ti hto st.one st.two s1 s2 (x := u) (y := v) (by simpa using hu) (by simpa using hv) fun h' g1 g2 g3 g4 g5 g6 g7 => ⟨_, rfl, ?_⟩
    refine wpAny_letOwnedTupleGo_zip g1 fun h'' q1 q2 => ?_
    have lt : ∀ {c : Addr} {o : Obj}, s.heap.get? c = some o → c ≠ s.heap.objs.size := fun e => Nat.ne_of_lt (Heap.lt_size e)
    have hTz : s.heap.objs.size ≠ z := (lt st.z).symm
    obtain ⟨o1, e1, _⟩ := st.one.ob
    obtain ⟨o2, e2, _⟩ := st.two.ob
    have new : IsPair h'' s.heap.objs.size u v := q2.extBut _ _ hTz g5
    refine ⟨.ref s.heap.objs.size, upd H s.heap.objs.size (.tup [x, y]), ?_, rfl, ⟨s.heap.objs.size, x, y, rfl, I.hok.fresh (Nat.le_refl _), rfl, fun ws hw => by rw [I.ud hw h1]; exact hx, fun ws hw => by rw [I.ud hw h2]; exact hy⟩, ?_, fun c hcm => ?_⟩
    · refine I.uf (ch := [z, TO, i1, i2]) (fun c o hcn e => ?_) (fun c hcm => hf c (Hb hcm)) ?_
      · have hcn := Lu hcn
        exact q2.extBut _ _ hcn.1 (g7 c o hcn.1 hcn.2.1 hcn.2.2.1 hcn.2.2.2 e)
      · exact ⟨by show 2 ≤ sizeLine; decide, [u, v], .cons ru (.cons rv .nil), ⟨_, new, rfl, 0, rfl⟩⟩
    · exact ⟨q1, q2.extBut _ _ D.TIz (g7 TI _ D.TIz D.TITO D.TIi1 D.TIi2 st.ti), ⟨_, _, q2.extBut _ _ D.TOz g2⟩, g3.at fun o e => q2.extBut _ _ D.i1z e, g4.at fun o e => q2.extBut _ _ D.i2z e⟩
    · rw [aB]
      · exact (hf c hcm).1
      · exact Ls (P := fun c => c ≠ s.heap.objs.size) (lt st.z) (lt st.ti) (lt hto) (lt e1) (lt e2) c hcm
  · intro X hP hw hK hc i pins s σ H E I hf st hg
    obtain ⟨xs, ys, h1, h2, hle⟩ := hg
    have D := ap hK I hf st h1 h2
    subst hP hw hK
    obtain ⟨rE, r1, s1, z1⟩ := I.ksq h1
    obtain ⟨pg, r2, s2, z2⟩ := I.ksq h2
    obtain ⟨a, b', hto⟩ := st.to
    have l1' := r1.length
    have l2' := r2.length
    refine vA (I.ok.hd hc) D st.z st.ti hto st.one st.two s1 s2 (by
      rcases hle with q | q
      · exact .inl (by simp; lia)
      · exact .inr (by simp; lia)) fun h' g7 => ⟨rfl, I.ue (t' := s.toks) (ch := [z, TO, i1, i2]) (fun c o hcn e => ?_) fun c hcm => hf c (Hb hcm)⟩
    have hcn := Lu hcn
    exact g7 c o hcn.1 hcn.2.1 hcn.2.2.1 hcn.2.2.2 e
def Lv(K:PySem.W.Frag)(t:TA):TI:=λσ H R=>t σ H λvs H1=>∃a b k1 k2 xs ys,vs=[.ref a,.ref b]∧iC K k1 H1 a xs∧iC K k2 H1 b ys∧R (Itz K k1 k2 a b) H1
theorem Jf{X:Cx}{elts:List Expr}{x1:Nat}{fL p pos:Pos}{a b:Expr}{t:TA}(hg:Gl X "zip")(hm:X.mg "zip"=none)(ha:PA X [a,b] t)(he:starEach [a,b] X.env=(false,eval a X.env)::starEach [b] X.env)(hpl:(backTo pos (starEach [b] X.env)).any (·.1)=false) :
  PI X (.Tuple elts x1 fL) (.Call (.Name "zip" p) [a,b] [] pos) (Lv X.K t):=by
 intro pins s σ H R I h
 refine wpAny_Call_Name_kw (mY I hg hm PyProof.Rows.boot_zip ?_ (by decide) (by decide))
 refine PyProof.Rows.callWith_type1 (thn (ha pos pins s σ H _ I h) λus s1 ak=>?_) he hpl
 obtain⟨vs,H1,I1,r1,q1⟩:=ak
 obtain⟨c,d,k1,k2,xs,ys,rfl,h1,h2,q⟩:=q1
 obtain⟨u1,u2,rfl,ru1,ru2⟩:=vals2 r1
 cases ru1
 cases ru2
 obtain⟨rE,_,s1',_⟩:=I1.ksq h1
 obtain⟨pg,_,s2',_⟩:=I1.ksq h2
 refine Aq s1' s2' λh' g1 g2 g3 g4 g5 g6 g7=>wpAny_pyIter_zip g1 ?_
 have I2:Inv X pins σ H1 { s1 with heap:=h' }:=I1.kept (t':=s1.toks) g7
 refine⟨_,_,_,_,H1,rfl,I2,CV (k1:=k1) (k2:=k2) (TI:=s1.heap.objs.size+2) (TO:=s1.heap.objs.size+3) (i1:=s1.heap.objs.size) (i2:=s1.heap.objs.size+1) (l1:=c) (l2:=d) (λe=>by have e:s1.heap.objs.size+2=s1.heap.objs.size+3:=e;lia) (λe=>by have e:s1.heap.objs.size=s1.heap.objs.size+1:=e;lia),⟨g1,g2,⟨_,_,g3⟩,g4,g5⟩,λe he=>?_,q⟩
 have:s1.heap.objs.size≤e:=by
  simp only[List.mem_cons,List.not_mem_nil,or_false] at he
  rcases he with rfl|rfl|rfl|rfl|rfl
  ·exact Nat.le_add_right _ _
  ·exact Nat.le_add_right _ _
  ·exact Nat.le_add_right _ _
  ·exact Nat.le_refl _
  ·exact Nat.le_add_right _ _
 exact I1.u0 this (I1.hok.fresh this)
end L2
namespace Fw
open PySem PySem.Spec PyProof.Rows L2
theorem vB:∀{ts us:List T}{i:Nat}{t:T},(kO ts us)[i]?=some t→∃a b,ts[i]?=some a∧us[i]?=some b∧t=.tup [a,b]
 | [],us,i,t,h=>by simp[kO] at h
 | a::ts,[],i,t,h=>by simp[kO] at h
 | a::ts,b::us,0,t,h=>by simp[kO] at h;exact⟨a,b,rfl,rfl,h.symm⟩
 | a::ts,b::us,i+1,t,h=>by
  obtain⟨c,d,h1,h2,h3⟩:=vB (ts:=ts) (us:=us) (i:=i) (t:=t) (by simpa [kO] using h)
  exact⟨c,d,by simpa using h1,by simpa using h2,h3⟩
theorem ij{K:PySem.W.Frag}{F H:Hp}{v:V}{t:T}{ts:List T}(s:aH F H)(h:Now K F H v t)(e:bx t=some ts):∃a vs k,v=.ref a∧iC K k H a vs∧ay K F ts vs∧(k=true↔∃l,t=.lst l):=by
 cases t with
 | lst us=>cases e;obtain⟨a,vs,rfl,q,r⟩:=h.lB;exact⟨a,vs,true,rfl,q,r,by simp⟩
 | tup us=>cases e;obtain⟨a,vs,rfl,q,r⟩:=h.oB;exact⟨a,vs,false,rfl,aH.gy s q,r,by simp⟩
 | _=>cases e
theorem Jg{X:Cx}{elts:List Expr}{x1:Nat}{fL p pos:Pos}{a b:Expr}{da db:D}(hm:X.mg "zip"=none)(ha:CE X a da)(hb:CE X b db)(hg:Gl X "zip":=by rfl)(hs:starEach [a,b] X.env=(false,eval a X.env)::starEach [b] X.env:=by rfl)(hs2:starEach [b] X.env=(false,eval b X.env)::starEach [] X.env:=by rfl)(hpl:(backTo pos (starEach [b] X.env)).any (·.1)=false:=by rfl) :
  CI X (.Tuple elts x1 fL) (.Call (.Name "zip" p) [a,b] [] pos) (Fd da db) :=
 PI.imp (Jf hg hm (ag ha (ag hb av hs2) hs) hs hpl) λσ H R0 ak=>by
  obtain⟨F,α,e,μ,S,h⟩:=ak
  refine Lc ⟨F,α,e,μ,S,(R.wp_bind h).mono (λx μ1 h=>(R.wp_bind h).mono (λy μ2 h v u H1 F1 α1 x1 S1 o1 o2=>?_) λ_ _ h=>h) λ_ _ h=>h⟩
  obtain⟨ts,ht,h⟩:=R.br (R.wp_bind h)
  obtain⟨us,hu,post⟩:=R.br (R.wp_bind h)
  obtain⟨t,hr,ht⟩:=Option.bind_eq_some_iff.mp ht
  obtain⟨t2,hr2,hu⟩:=Option.bind_eq_some_iff.mp hu
  obtain⟨a1,vs1,k1,rfl,q1,r1,m1⟩:=ij S1.st.ext (a_ S1.st o1 hr) ht
  obtain⟨a2,vs2,k2,rfl,q2,r2,m2⟩:=ij S1.st.ext (a_ S1.st o2 hr2) hu
  refine⟨a1,a2,k1,k2,vs1,vs2,rfl,q1,q2,post _ H1 F1 α1 x1 S1 λF2 α2 μ3 H2 s2 p2 S2 same=>?_⟩
  obtain⟨e1,e2⟩:=(show rd μ3 x=rd μ2 x∧rd μ3 y=rd μ2 y from same)
  obtain⟨b1,ws1,j1,g1,n1,l1,m1'⟩:=ij S2.ext (a_ S2 (o1.mono s2 p2) (e1.trans hr)) ht
  obtain⟨b2,ws2,j2,g2,n2,l2,m2'⟩:=ij S2.ext (a_ S2 (o2.mono s2 p2) (e2.trans hr2)) hu
  cases g1
  cases g2
  have ej1:j1=k1:=by rw[Bool.eq_iff_iff,m1,m1']
  have ej2:j2=k2:=by rw[Bool.eq_iff_iff,m2,m2']
  subst ej1
  subst ej2
  refine⟨λi t hi=>?_,?_⟩
  ·obtain⟨c,d,hc,hd,rfl⟩:=vB hi
   obtain⟨v1,hv1,rv1⟩:=l1.get hc
   obtain⟨v2,hv2,rv2⟩:=l2.get hd
   refine⟨⟨ws1,ws2,v1,v2,n1,n2,hv1,hv2⟩,?_⟩
   rintro z H3 ⟨q,z1,z2,rfl,hq,rfl,f1,f2⟩
   have w1:=f1 ws1 n1
   have w2:=f2 ws2 n2
   rw[hv1] at w1
   rw[hv2] at w2
   cases w1
   cases w2
   have g:bG F2 H2 (upd F2 q (.tup [v1,v2])) (upd H2 q (.tup [v1,v2])):=bG.new hq
   refine⟨_,g,?_⟩
   rw[Rep]
   exact⟨q,_,rfl,SqT.of ax,ay.mono (g.same S2.ext) _ _ (.eF rv1 (.eF rv2 .iR))⟩
  ·refine⟨ws1,ws2,n1,n2,?_⟩
   have:=l1.length
   have:=l2.length
   show ws1.length≤(kO ts us).length∨ws2.length≤(kO ts us).length
   rw[Co]
   lia
def tDO(X:Cx)(o:Option D):TO:=λσ H Q=>∃F α e μ,Sim X.K F α e μ σ H∧(wX o e μ).wp (λi μ'=>∀H' F' α',Ex F α H F' α' H'→Sim X.K F' α' e μ' σ H'→Q i H') (fK X F α H e)
def CO(X:Cx)(e:Option Expr)(o:Option D):Prop:=PO X e (tDO X o)
theorem PO.imp{X:Cx}{e:Option Expr}{t t':TO}(h:PO X e t)(i:∀σ H Q,t' σ H Q→t σ H Q):PO X e t':=λpins s σ H Q I q=>h pins s σ H Q I (i σ H Q q)
section
variable{X:Cx}{a b:Expr}{da db:D}{pos p2:Pos}
theorem FF:CO X none none:=PO.imp ED λσ H Q ⟨F,α,e,μ,S,h⟩=>h H F α Ex.refl S
theorem FG(h:CE X a da):CO X (some a) (some da):=PO.imp (EE h) λσ H Q ak=>by
 obtain⟨F,α,e,μ,S,h⟩:=ak
 refine⟨F,α,e,μ,S,(R.wp_bind h).mono (λx μ1 h v H1 F1 α1 x1 S1 o1=>?_) λ_ _ h=>h⟩
 obtain⟨i,hi,h⟩:=R.br (R.wp_bind h)
 obtain⟨t,hr,ht⟩:=Option.bind_eq_some_iff.mp hi
 cases vm ht
 cases (a_ S1.st o1 hr).int
 exact⟨i,rfl,h H1 F1 α1 x1 S1⟩
theorem ay.cut{K:PySem.W.Frag}{F:Hp}{ts:List T}{vs:List V}(h:ay K F ts vs)(lo hi:Option Int):ay K F (wU ts lo hi) (u4 vs lo hi):=by
 have e:∀d o,Fw.sIx ts.length d o=HT.sIx vs.length d o:=λd o=>by rw[h.length];cases o<;>rfl
 unfold wU u4
 rw[e,e,h.length]
 exact (h.drop _).take _
theorem Jh{lo hi:Option Expr}{dl dh:Option D}(ha:CE X a da)(hl:CO X lo dl)(hh:CO X hi dh):CE X (.Subscript a (.Slice lo hi none p2) pos) (BY da dl dh) :=
 PE.imp (Bu (EH.or Ie) ha hl hh) λσ H Q ak=>by
  obtain⟨F,α,e,μ,S,h⟩:=ak
  refine⟨F,α,e,μ,S,(R.wp_bind h).mono (λx μ1 h v H1 F1 α1 x1 S1 o1=>⟨F1,α1,e,μ1,S1,?_⟩) λ_ _ h=>h⟩
  refine (R.wp_bind h).mono (λl μ2 h H2 F2 α2 x2 S2=>⟨F2,α2,e,μ2,S2,?_⟩) λ_ _ h=>h.mono x1
  refine (R.wp_bind h).mono (λr μ3 h H3 F3 α3 x3 S3=>?_) λ_ _ h=>h.mono (x1.trans x2)
  obtain⟨w,h9,post⟩:=R.br h
  obtain⟨t,w',ht,h,rfl⟩:=lg h9
  have nt:=a_ S3.st (o1.mono (x2.trans x3).same (x2.trans x3).pre) ht
  have fin:∀v' H' F',bG F3 H3 F' H'→Rep X.K F' w' v'→Q v' H':=λv' H' F' g rp=>post v' H' F' α3 (x1.trans (x2.trans (x3.trans (g.ex S3.st.ext)))) (S3.grow g) rp
  cases t with
  | lst ts =>
   cases h
   obtain⟨c,vs,rfl,hq,hl⟩:=nt.lB
   exact .inl ⟨c,vs,rfl,hq,λq hq'=>o5 S3.st.ext hq' (hl.cut l r) fin⟩
  | tup ts =>
   have h:(if Fw.sIx ts.length 0 l=0∧Fw.sIx ts.length ts.length r=ts.length then none else some (T.tup (wU ts l r)))=some w':=h
   by_cases hc:Fw.sIx ts.length 0 l=0∧Fw.sIx ts.length ts.length r=ts.length
   ·rw[if_pos hc] at h;cases h
   ·rw[if_neg hc] at h
    cases h
    obtain⟨c,vs,rfl,hq,hl⟩:=nt.oB
    refine .inr ⟨c,vs,rfl,aH.gy S3.st.ext hq,?_,λq hq'=>t7 S3.st.ext hq' (hl.cut l r) fin⟩
    have e:∀d o,HT.sIx vs.length d o=Fw.sIx ts.length d o:=λd o=>by rw[hl.length];cases o<;>rfl
    rw[e,e,← hl.length]
    exact hc
  | _=>cases h
end
section
variable{X:Cx}{a b c:Expr}{da db dc:D}{pos p p2:Pos}
theorem lD(i:Nat){y:Str}{py fL:Pos}{ik ev:Expr}{dk dv:D}(hk:CE X ik dk)(hv:CE X ev dv)(hN:X.N[i]?=some y:=by rfl)
  (hvs:Vis X.env.scope y:=by first|exact Or.inl rfl|exact Or.inr (Or.inl rfl)|exact Or.inr (Or.inr rfl)) (hd:(y==("__debug__":Str))=false:=by decide) (hcd:(y==("__classdict__":Str))=false:=by decide)
  (ha:∀v,assign (.Subscript (.Name y py) ik fL) X.env v=(do
   let ov ← holding [v] (eval (.Name y py) X.env)
   let iv ← holding [v,ov] (eval ik X.env)
   standAt fL
   holding [v,ov,iv] (setItem ov iv v)
   release [v,ov,iv] []):=by intro _;rfl)
  (hs:swapsWithSole [.Subscript (.Name y py) ik fL] ev pos.line X.env=pure false:=by rfl) (hw:swappedStores [.Subscript (.Name y py) ik fL] ev X.env=pure none:=by rfl)
  (h1:(assignEach [.Subscript (.Name y py) ik fL] X.env).map (·.2)=[assign (.Subscript (.Name y py) ik fL) X.env]:=by rfl) :
  CS X (.Assign [.Subscript (.Name y py) ik fL] ev pos) (dj i dk dv) :=
 PS.imp (Bh hv (HM (tI hN hvs hd hcd) hk set_list ha) hs hw h1) λD σ H ak=>by
  obtain⟨F,α,e,μ,S,h⟩:=ak
  refine⟨F,α,e,μ,S,(aQ.toS h).mono (λy μ1 h v H1 F1 α1 x1 S1 o1=>?_) λ_ _ h=>h⟩
  obtain⟨x,hx,h⟩:=aQ.lift h
  obtain⟨ov,hov,oo⟩:=S1.sl i x hx
  refine⟨ov,hov,F1,α1,e,μ1,S1,(aQ.toS h).mono (λz μ2 h v2 H2 F2 α2 x2 S2 o2=>?_) λ_ _ h=>h.mono x1⟩
  obtain⟨k,hk,h⟩:=aQ.lift h
  have h:=h.toS
  have nk:=a_ S2.st o2 hk
  cases hz:frz y μ2 with
  | err c μ3=>exact absurd hz (pj y μ2 c μ3)
  | bad=>rw[hz] at h;exact h.elim
  | ok t μ3 =>
   rw[hz] at h
   obtain⟨μ4,ha4,h⟩:=aQ.lift h
   obtain⟨F3,s3,n3,S3,r3⟩:=lr S2.st (o1.mono x2.same x2.pre) hz
   cases x with
   | cel j =>
    obtain⟨ad,had,rfl⟩:=oo
    cases k with
    | int ki =>
     cases nk.int
     unfold setAt at ha4
     simp only at ha4
     have hc:∃us jj,μ3[j]?=some (true,.lst us)∧Fw.ixN us.length ki=some jj∧μ4=μ3.set j (true,.lst (us.set jj t)):=by
      split at ha4
      ·rename_i us hjs
       obtain⟨jj,e1,e2⟩:=Option.map_eq_some_iff.mp ha4
       exact⟨us,jj,hjs,e1,e2.symm⟩
      ·cases ha4
     obtain⟨us,jj,hj3,hjj,rfl⟩:=hc
     have ha3:α2[j]?=some ad:=ji x2.pre had
     obtain⟨_,ws,hw,rw'⟩:=(S3.cell j true _ ad hj3 ha3).1 rfl
     have el:=rw'.length
     refine⟨ad,ws,ki,jj,rfl,rfl,hw,by rw[← el];exact hjj,?_⟩
     have x3:Ex F α H F3 α2 H2:=x1.trans (x2.trans (Ex.nZ s3 n3))
     exact h σ _ F3 α2 (x3.trans (Ex.put ha3)) ((S2.of s3 (List.prefix_refl _) S3).of (aH.refl _) (List.prefix_refl _) (pK S3 hj3 ha3 ⟨_,ax,rw'.set jj r3⟩))
    | _=>unfold setAt at ha4;cases ha4
   | val t=>cases k<;>(unfold setAt at ha4;cases ha4)
   | box xs=>cases k<;>(unfold setAt at ha4;cases ha4)
theorem FH{K:PySem.W.Frag}{F H:Hp}{v:V}{t:T}(h:Now K F H v t):decide (v=.non)=(match t with|.non=>true|_=>false):=by
 cases t with
 | non=>have e:v=.non:=Rep.jh (K:=K) (F:=F) h;subst e;rfl
 | bl b=>have e:=h.bl;subst e;rfl
 | int b=>have e:=h.int;subst e;rfl
 | str b=>have e:=h.str;subst e;rfl
 | lst ts=>obtain⟨a,vs,rfl,_⟩:=h.lB;rfl
 | tup ts=>obtain⟨a,vs,rfl,_⟩:=h.oB;rfl
 | dct ts=>obtain⟨a,vs,rfl,_⟩:=h;rfl
 | exc c n=>have h:Rep K F (.exc c n) v:=h;rw[Rep] at h;obtain⟨a,rfl,_⟩:=h;rfl
 | dtt fz ts=>obtain⟨a,rfl,_⟩:=h;rfl
def Lw:T→T→Option T:=λt u=>match u with
 | .non=>pF t
 | _=>none
theorem FI{K:PySem.W.Frag}:f_ K (λx y H Q=>y=.non∧Q (.bl (decide (x=.non))) H) Lw:=by
 intro F H v u t t' w Q s hv hu hw q
 cases t' with
 | non =>
  refine⟨Rep.jh (K:=K) (F:=F) hu,?_⟩
  rw[FH hv]
  refine q _ H F bG.refl ?_
  cases t<;>(cases hw;exact Rep.bl' _)
 | _=>cases hw
theorem FJ:ah Lw da (dC .non)=dUn pF da:=by
 funext e μ
 rw[ia,tR]
 cases da e μ with
 | ok x μ1=>rw[R.aT,R.aT,pq,R.aT];cases rd μ1 x<;>rfl
 | err c μ1=>rfl
 | bad=>rfl
theorem Ji{j}(ha:CE X a da):CT X (.Compare a [.Is] [.Constant .none j p] pos) (dUn pF da):=FJ ▸ lx HZ FI (jS _) ha B5
end
section
variable{K:PySem.W.Frag}{F:Hp}
theorem bj.iR:bj K F [] []:=by rw[bj]
theorem bj.eF{k:Key}{t:T}{v:V}{kts:List (Key×T)}{kvs:List (Key×V)}(q:Rep K F t v)(r:bj K F kts kvs):bj K F ((k,t)::kts) ((k,v)::kvs):=by rw[bj];exact⟨v,kvs,rfl,q,r⟩
theorem CY{p:Key×T}{r:List (Key×T)}{k:Key}(e:p.1=k):oy (p::r) k=some p.2:=by simp[oy,List.find?_cons,e]
theorem CZ{p:Key×T}{r:List (Key×T)}{k:Key}(e:¬ p.1=k):oy (p::r) k=oy r k:=by simp[oy,List.find?_cons,e]
theorem bj.val:∀{kts:List (Key×T)}{kvs:List (Key×V)} (k:Key),bj K F kts kvs→(oy kts k=none∧k_ kvs k=none)∨∃t v,oy kts k=some t∧k_ kvs k=some v∧Rep K F t v
 | [],kvs,k,h=>by rw[bj] at h;subst h;exact .inl ⟨rfl,rfl⟩
 | (k0,t)::kts,kvs,k,h=>by
  rw[bj] at h
  obtain⟨v,ng,rfl,q,r⟩:=h
  by_cases e:k0=k
  ·exact .inr ⟨t,v,CY (p:=(k0,t)) e,jX (p:=(k0,v)) e,q⟩
  ·rw[CZ (p:=(k0,t)) e,jY (p:=(k0,v)) e]
   exact bj.val k r
theorem bj.any:∀{kts:List (Key×T)}{kvs:List (Key×V)} (k:Key),bj K F kts kvs→(kts.any λkv=>decide (kv.1=k))=(kvs.any λkv=>decide (kv.1=k))
 | [],kvs,k,h=>by rw[bj] at h;subst h;rfl
 | (k0,t)::kts,kvs,k,h=>by
  rw[bj] at h
  obtain⟨v,ng,rfl,q,r⟩:=h
  rw[List.any_cons,List.any_cons,bj.any k r]
theorem bj.wI{t':T}{v':V}(q':Rep K F t' v')(k:Key):∀{kts:List (Key×T)}{kvs:List (Key×V)},bj K F kts kvs→bj K F (kts.map λkv=>if kv.1=k then (kv.1,t') else kv) (kvs.map λkv=>if kv.1=k then (kv.1,v') else kv)
 | [],kvs,h=>by rw[bj] at h;subst h;exact .iR
 | (k0,t)::kts,kvs,h=>by
  rw[bj] at h
  obtain⟨v,ng,rfl,q,r⟩:=h
  rw[List.map_cons,List.map_cons]
  by_cases e:k0=k
  ·simp only[e,if_true]
   exact .eF q' (bj.wI q' k r)
  ·simp only[e,if_false]
   exact .eF q (bj.wI q' k r)
theorem bj.append:∀{kts uts:List (Key×T)}{kvs uvs:List (Key×V)},bj K F kts kvs→bj K F uts uvs→bj K F (kts++uts) (kvs++uvs)
 | [],uts,kvs,uvs,h,g=>by rw[bj] at h;subst h;exact g
 | (k0,t)::kts,uts,kvs,uvs,h,g=>by
  rw[bj] at h
  obtain⟨v,ng,rfl,q,r⟩:=h
  exact .eF q (r.append g)
theorem bj.put{kts:List (Key×T)}{kvs:List (Key×V)}{t:T}{v:V}(h:bj K F kts kvs)(k:Key)(q:Rep K F t v):bj K F (t4 kts k t) (putK kvs k v):=by
 unfold t4 putK
 rw[h.any k]
 by_cases e:(kvs.any λkv=>decide (kv.1=k))=true
 ·rw[if_pos e,if_pos e];exact bj.wI q k h
 ·rw[if_neg e,if_neg e];exact h.append (.eF q .iR)
theorem zc{H:Hp}{v:V}{t:T}{k:Key}(h:Now K F H v t)(e:sI t=some k):v=kV k:=by
 cases t with
 | int i=>cases e;exact h.int
 | str x=>cases e;exact h.str
 | _=>cases e
end
section
variable{X:Cx}{a b c:Expr}{da db dc:D}{pos p p2:Pos}{k:Nat}
theorem mE(hr:dg k X.A):X.A.units+1<cLine:=by have:=hr.units;omega
theorem Ar(σ:L2.St)(H:Hp)(Q:VK)(h:tD X (ah pX da db) σ H Q):BE (tD X da) (tD X db) σ H Q:=by
 obtain⟨F,α,e,μ,S,h⟩:=h
 refine⟨F,α,e,μ,S,?_⟩
 refine (R.wp_bind h).mono (λx μ1 h v H1 F1 α1 x1 S1 o1=>⟨F1,α1,e,μ1,S1,?_⟩) λ_ _ h=>h
 refine (R.wp_bind h).mono (λy μ2 h v2 H2 F2 α2 x2 S2 o2=>?_) λ_ _ h=>h.mono x1
 obtain⟨w,h9,post⟩:=R.br h
 obtain⟨t,u,w',ht,hu,h,rfl⟩:=pw h9
 have n1:=a_ S2.st (o1.mono x2.same x2.pre) ht
 have n2:=a_ S2.st o2 hu
 cases t with
 | dct kts =>
  obtain⟨kk,hk,h⟩:=Option.bind_eq_some_iff.mp (show (sI u).bind (λk=>oy kts k)=some w' from h)
  obtain⟨ad,kvs,rfl,hq,rd⟩:=n1
  have ek:=zc n2 hk
  subst ek
  rcases rd.val kk with ⟨g1,_⟩|⟨t,v,g1,g2,g3⟩
  ·rw[g1] at h;cases h
  ·rw[g1] at h
   cases h
   exact⟨ad,v,rfl,by rw[← g2];exact wK.k hq,post v H2 F2 α2 (x1.trans x2) S2 g3⟩
 | _=>cases u<;>cases h
theorem FK(hr:dg k X.A)(ha:CE X a da)(hb:CE X b db)(hs:EJ b:=by intro _ _;rfl):CE X (.Subscript a b pos) (ah pX da db):=PE.imp (yC (mE hr) ha hb hs) Ar
theorem zd(hr:dg k X.A)(i:Nat){y:Str}{py fL:Pos}{ik ev:Expr}{dk dv:D}(hk:CE X ik dk)(hv:CE X ev dv)(hN:X.N[i]?=some y:=by rfl)
  (hvs:Vis X.env.scope y:=by first|exact Or.inl rfl|exact Or.inr (Or.inl rfl)|exact Or.inr (Or.inr rfl)) (hd:(y==("__debug__":Str))=false:=by decide) (hcd:(y==("__classdict__":Str))=false:=by decide)
  (hs:swapsWith ev (some (.Subscript (.Name y py) ik fL)) pos.line X.env=pure false:=by rfl) :
  CS X (.Assign [.Subscript (.Name y py) ik fL] ev pos) (oa i dk dv) :=
 PS.imp (yD (mE hr) (tI hN hvs hd hcd) hk hv hs) λD σ H ak=>by
  obtain⟨F,α,e,μ,S,h⟩:=ak
  refine⟨F,α,e,μ,S,(aQ.toS h).mono (λy μ1 h v H1 F1 α1 x1 S1 o1=>?_) λ_ _ h=>h⟩
  obtain⟨x,hx,h⟩:=aQ.lift h
  obtain⟨ov,hov,oo⟩:=S1.sl i x hx
  refine⟨ov,hov,F1,α1,e,μ1,S1,(aQ.toS h).mono (λz μ2 h v2 H2 F2 α2 x2 S2 o2=>?_) λ_ _ h=>h.mono x1⟩
  obtain⟨k,hk,h⟩:=aQ.lift h
  have h:=h.toS
  have nk:=a_ S2.st o2 hk
  cases hz:frz y μ2 with
  | err c μ3=>exact absurd hz (pj y μ2 c μ3)
  | bad=>rw[hz] at h;exact h.elim
  | ok t μ3 =>
   rw[hz] at h
   obtain⟨μ4,ha4,h⟩:=aQ.lift h
   obtain⟨F3,s3,n3,S3,r3⟩:=lr S2.st (o1.mono x2.same x2.pre) hz
   cases x with
   | cel j =>
    obtain⟨ad,had,rfl⟩:=oo
    unfold ly at ha4
    simp only at ha4
    have hc:∃kts kk,μ3[j]?=some (true,.dct kts)∧sI k=some kk∧kts.length<szL∧μ4=μ3.set j (true,.dct (t4 kts kk t)):=by
     split at ha4
     ·rename_i us hjs
      obtain⟨kk,e1,e2⟩:=Option.bind_eq_some_iff.mp ha4
      by_cases hl:us.length<szL
      ·rw[if_pos hl] at e2
       cases e2
       exact⟨us,kk,hjs,e1,hl,rfl⟩
      ·rw[if_neg hl] at e2;cases e2
     ·cases ha4
    obtain⟨kts,kk,hj3,hkk,hl,rfl⟩:=hc
    have ha3:α2[j]?=some ad:=ji x2.pre had
    obtain⟨_,kvs,hw,rw'⟩:=(S3.cell j true _ ad hj3 ha3).1 rfl
    have el:=rw'.length
    have ek:=zc nk hkk
    subst ek
    refine⟨ad,_,rfl,u7.k hw (by rw[p5] at hl;omega),?_⟩
    have x3:Ex F α H F3 α2 H2:=x1.trans (x2.trans (Ex.nZ s3 n3))
    exact h σ _ F3 α2 (x3.trans (Ex.put ha3)) ((S2.of s3 (List.prefix_refl _) S3).of (aH.refl _) (List.prefix_refl _) (pK S3 hj3 ha3 ⟨_,ax,rw'.put kk r3⟩))
   | val t=>unfold ly at ha4;cases ha4
   | box xs=>unfold ly at ha4;cases ha4
end
end Fw
namespace L2
open PySem PySem.Spec PyProof.Rows
theorem Hd{P:Program}{w:World}{k:Key}{u:Value}(h:(cK P w).is k u=true):RelV (kV k) u:=by
 rcases cm (show pd k u=true from h) with ⟨i,t,rfl,rfl⟩|⟨x,t,rfl,rfl⟩
 ·exact⟨t,rfl⟩
 ·exact⟨t,rfl⟩
theorem KV.get{kvs:List (Key×V)}{vs:List (Key×Value)}(r:KV kvs vs){i:Nat}{p:Key×V}(h:kvs[i]?=some p):∃u,vs[i]?=some (p.1,u)∧RelV p.2 u:=by
 unfold KV at r
 induction r generalizing i with
 | nil=>simp at h
 | @cons a b as bs h1 t ih =>
  cases i with
  | zero =>
   simp at h
   subst h
   refine⟨b.2,?_,h1.2⟩
   rw[h1.1]
   rfl
  | succ i=>simpa using ih (by simpa using h)
def Itd(d:Addr)(n:Nat):It :=
 ⟨λi H=>∃kvs p,H d=some (.dK kvs)∧kvs.length=n∧kvs[i]?=some p,
  λi H v H'=>∃q p,v=.ref q∧H q=none∧H'=upd H q (.tup [kV p.1,p.2])∧∀kvs,H d=some (.dK kvs)→kvs[i]?=some p,
  λi H=>∃kvs,H d=some (.dK kvs)∧kvs.length=n∧n≤i⟩
theorem xk{P:Program}{w:World}{K:PySem.W.Frag}{elts:List Expr}{x1:Nat}{pos:Pos}{it d:Addr}{n:Nat} :
  Turn P w K (.Tuple elts x1 pos) (Itd d n) [it] it (λi h=>∃ok ov,IsItemIter h it d i n n ok ov):=by
 refine⟨by simp,λi h ⟨ok,ov,st⟩ b hb=>?_,λi h h' ⟨ok,ov,st⟩ k=>⟨ok,ov,k it (by simp) _ st⟩,?_,?_,λA i s Q E ⟨ok,ov,st⟩ hq=>?_⟩
 ·simp at hb;subst hb
  exact⟨_,st,λv e=>by cases e⟩
 ·intro X hP hw hK hc i pins s σ H E I hf st hg
  obtain⟨kvs,p,hd,hn,hp⟩:=hg
  obtain⟨ok,ov,st⟩:=st
  subst hP hw hK
  obtain⟨z,hS,vs,rel,dd⟩:=u6 I.hok (.inl hd)
  have hl:=rel.length
  obtain⟨u,hu,ru⟩:=rel.get hp
  have en:n=vs.length:=by lia
  rw[en] at st
  refine wpAny_pyNext_items_item st dd hu λkey h' hk Jj ht hz Lx=>⟨_,rfl,wpAny_letOwnedTupleGo_items Jj λh'' hit hs=>?_⟩
  have hne:it≠s.heap.objs.size:=Nat.ne_of_lt (Heap.lt_size st)
  have ht2:h''.get? s.heap.objs.size=some { cls:=.type "tuple",data:=.seq #[key,u] }:=hs.extBut _ _ hne.symm ht
  refine⟨.ref s.heap.objs.size,upd H s.heap.objs.size (.tup [kV p.1,p.2]),?_,rfl,⟨s.heap.objs.size,p,rfl,I.hok.fresh (Nat.le_refl _),rfl,λws hw=>by rw[hd] at hw;cases hw;exact hp⟩,⟨_,_,by rw[en];exact hit⟩,λc hcm=>?_⟩
  ·refine I.uf (ch:=[it]) (λc o hcn e=>?_) (λc hcm=>hf c hcm) ?_
   ·simp at hcn
    exact hs.extBut _ _ hcn (Lx c o hcn e)
   ·exact⟨by show 2≤sizeLine;decide,[key,u],.cons (Hd hk) (.cons ru .nil),⟨_,ht2,rfl,0,rfl⟩⟩
  ·simp at hcm
   subst hcm
   rw[aB hne]
   exact (hf c (by simp)).1
 ·intro X hP hw hK hc i pins s σ H E I hf st hg
  obtain⟨kvs,hd,hn,hle⟩:=hg
  obtain⟨ok,ov,st⟩:=st
  subst hP hw hK
  obtain⟨z,hS,vs,rel,dd⟩:=u6 I.hok (.inl hd)
  have hl:=rel.length
  have en:n=vs.length:=by lia
  rw[en] at st
  refine wpAny_pyNext_items_end (I.ok.hd hc) st dd (List.getElem?_eq_none (by lia)) λh' hx=>⟨rfl,I.ue (t':=s.toks) (ch:=[it]) (λc o hcn e=>?_) λc hcm=>hf c hcm⟩
  simp at hcn
  exact hx c o hcn e
 ·exact PySem.W.kcp_self st hq
def FL(tl:TE):TI:=λσ H R=>tl σ H λx H1=>∃d kvs,x=.ref d∧H1 d=some (.dK kvs)∧R (Itd d kvs.length) H1
theorem C0{X:Cx}{elts:List Expr}{x1:Nat}{fL apos pos:Pos}{o:Expr}{tl:TE}(ho:PE X o tl)(jV:attributeBase o "items" X.env (eval o X.env)=eval o X.env)(jW:(apos.endLine==pos.line)=true) :
  PI X (.Tuple elts x1 fL) (.Call (.Attribute o "items" apos) [] [] pos) (FL tl):=by
 intro pins s σ H R I h
 refine wpAny_Call_method (T:="dict") (id:="dict.items") jV rfl jW PySem.F.plainAttrs_dict PySem.F.slot_dict_items PySem.F.type_dict_items (thn (ho pins s σ H _ I h) λv s1 ak=>?_)
 obtain⟨x,H1,I1,r1,q1⟩:=ak
 obtain⟨d,kvs,rfl,hd,q⟩:=q1
 cases r1
 obtain⟨z,hS,vs,rel,dd⟩:=u6 I1.hok (.inl hd)
 have hl:=rel.length
 refine⟨dd.dictOf.typeIs,dd.dictOf.mapOf.noDict,?_⟩
 show wpAny _ _ (callWith pos (.builtin "dict.items") [.ref d] [] []) _ _ s1
 refine method_meetsIn PySem.F.slot_dict_items PySem.F.entry_dict_items rfl (PySem.evalArgs_none ⟨rfl,dd.dictOf.typeIs,PySem.F.args_dict_items_1 _,_,meets_dict_items (cK X.prog X.w) d hS,⟨vs,dd.dictOf⟩,?_⟩)
 refine wpAny_pyIter_items (d:=d) (kvs:=vs) (ep:=vs.length) ⟨_,Heap.get?_push_size _ rfl,rfl,rfl⟩ (dd.push _) ?_
 have I2:Inv X pins σ H1 { s1 with heap:=(s1.heap.push { cls:=.type "dict_items",data:=.fields #[.ref d] }).push { cls:=.type "dict_itemiterator",data:=.fields #[.none,.bool false,.ref d,.int 0 0,.int vs.length 0,.int vs.length 0,.none,.none] } } :=
  I1.kept (t':=s1.toks) λb o e=>Heap.get?_push_of_some _ (Heap.get?_push_of_some _ e)
 refine⟨_,[_],_,Itd d kvs.length,H1,rfl,I2,xk,⟨.none,.none,by rw[hl];exact Heap.get?_push_size _ rfl⟩,λb hb=>?_,q⟩
 have e:s1.heap.objs.size≤b:=by
  simp at hb
  subst hb
  exact Nat.le_succ _
 exact I1.u0 e (I1.hok.fresh e)
theorem As{P:Program}{w:World}{kvs:List (Key×V)}{vs:List (Key×Value)}(r:KV kvs vs){acc:List Value}(hl:acc.length=vs.length)(h:∀(i:Nat) (v:Value),acc[i]?=some v→∃(k:Key) (x:Value),vs[i]?=some (k,x)∧(cK P w).is k v=true):Vals (kvs.map λp=>kV p.1) acc:=by
 unfold KV at r
 induction r generalizing acc with
 | nil=>cases acc with
  | nil=>exact .nil
  | cons a l=>simp at hl
 | @cons p q ps qs h1 t ih =>
  cases acc with
  | nil=>simp at hl
  | cons a l =>
   obtain⟨k,x,e,hk⟩:=h 0 a rfl
   simp at e
   refine .cons ?_ (ih (by simpa using hl) λi v e=>by simpa using h (i+1) v (by simpa using e))
   have:p.1=k:=by rw[h1.1,e]
   show RelV (kV p.1) a
   rw[this]
   exact Hd hk
theorem xl{X:Cx}(hc:X.calm=true):d6 X (.type "list") (λxs H Q=>∃d kvs,xs=[.ref d]∧H d=some (.dK kvs)∧∀l,H l=none→Q (.ref l) (upd H l (.lst (kvs.map λp=>kV p.1)))):=by
 intro pins s σ H xs us Q I r h
 obtain⟨d,kvs,rfl,hd,q⟩:=h
 obtain⟨u,rfl,ru⟩:=vals1 r
 cases ru
 obtain⟨z,hS,vs,rel,dd⟩:=u6 I.hok (.inl hd)
 have hl:=rel.length
 refine PySem.W.kdl_call (PySem.W.kdl_dict (knd:=cK X.prog X.w) (kvs:=vs) (ep:=vs.length) hS) (I.ok.hd hc) dd (by lia) λh' tk Ly c' hk hD Lz=>?_
 have hv:Vals (kvs.map λp=>kV p.1) Ly.toList:=As rel (by rw[Array.length_toList];exact Lz.1) λj v e=>Lz.2 j v (by rw[← Array.getElem?_toList];exact e)
 exact⟨.ref s.heap.objs.size,_,I.laid (a:=s.heap.objs.size) (o:=.lst (kvs.map λp=>kV p.1)) (h':=h') (t':=tk) hk (Nat.le_refl _) ⟨by rw[List.length_map];exact z,Ly.toList,c',hv,hD⟩,rfl,q _ I.fresh⟩
end L2
namespace Fw
open PySem PySem.Spec PyProof.Rows L2
section
variable{K:PySem.W.Frag}{F:Hp}
theorem ze(k:Key):Rep K F (vf k) (kV k):=by
 cases k with
 | inl i=>exact Rep.j7 i
 | inr x=>exact Rep.Fh x
theorem bj.get:∀{kts:List (Key×T)}{kvs:List (Key×V)}{i:Nat}{p:Key×T},bj K F kts kvs→kts[i]?=some p→∃v,kvs[i]?=some (p.1,v)∧Rep K F p.2 v
 | [],_,_,_,_,e=>by simp at e
 | (k,t)::kts,kvs,0,p,h,e=>by
  rw[bj] at h
  obtain⟨v,ng,rfl,q,_⟩:=h
  simp at e;subst e
  exact⟨v,rfl,q⟩
 | (k,t)::kts,kvs,i+1,p,h,e=>by
  rw[bj] at h
  obtain⟨v,ng,rfl,q,r⟩:=h
  obtain⟨v',h1,h2⟩:=bj.get (i:=i) r (by simpa using e)
  exact⟨v',by simpa using h1,h2⟩
theorem bj.keys:∀{kts:List (Key×T)}{kvs:List (Key×V)},bj K F kts kvs→ay K F (kts.map λp=>vf p.1) (kvs.map λp=>kV p.1)
 | [],kvs,h=>by rw[bj] at h;subst h;exact .iR
 | (k,t)::kts,kvs,h=>by
  rw[bj] at h
  obtain⟨v,ng,rfl,q,r⟩:=h
  exact .eF (ze k) r.keys
end
section
variable{X:Cx}{a b:Expr}{da db:D}{pos p:Pos}
theorem vC{elts:List Expr}{x1:Nat}{fL apos fq:Pos}(ha:CE X a da)(jV:attributeBase a "items" X.env (eval a X.env)=eval a X.env:=by rfl)(jW:(apos.endLine==fq.line)=true:=by rfl) :
  CI X (.Tuple elts x1 fL) (.Call (.Attribute a "items" apos) [] [] fq) (lz da) :=
 PI.imp (C0 ha jV jW) λσ H R0 ak=>by
  obtain⟨F,α,e,μ,S,h⟩:=ak
  refine⟨F,α,e,μ,S,(R.wp_bind h).mono (λx μ1 h v H1 F1 α1 x1 S1 o1=>?_) λ_ _ h=>h⟩
  obtain⟨kts,ht,post⟩:=R.br (R.wp_bind h)
  obtain⟨t,hr,ht⟩:=Option.bind_eq_some_iff.mp ht
  have n1:=a_ S1.st o1 hr
  cases t with
  | dct us =>
   cases ht
   obtain⟨d,kvs,rfl,hq,hl⟩:=n1
   have hlen:=hl.length
   refine⟨d,kvs,rfl,hq,post _ H1 F1 α1 x1 S1 λF2 α2 μ2 H2 s2 p2 S2 same=>?_⟩
   obtain⟨d',ng,e1,hq2,hl2⟩:=a_ S2 (o1.mono s2 p2) ((show rd μ2 x=rd μ1 x from same).trans hr)
   cases e1
   have He:=hl2.length
   refine⟨λi t hi=>?_,⟨ng,hq2,by lia,?_⟩⟩
   ·unfold eZ at hi
    rw[List.getElem?_map] at hi
    obtain⟨p,hp,rfl⟩:=Option.map_eq_some_iff.mp hi
    obtain⟨v,hv,rv⟩:=hl2.get hp
    refine⟨⟨ng,(p.1,v),hq2,by lia,hv⟩,?_⟩
    rintro z H3 ⟨q,p',rfl,hq',rfl,f⟩
    have w1:=f ng hq2
    rw[hv] at w1
    cases w1
    have g:bG F2 H2 (upd F2 q (.tup [kV p.1,v])) (upd H2 q (.tup [kV p.1,v])):=bG.new hq'
    refine⟨_,g,?_⟩
    rw[Rep]
    exact⟨q,_,rfl,SqT.of ax,.eF (ze p.1) (.eF (Rep.mono (g.same S2.ext) _ _ rv) .iR)⟩
   ·show kvs.length≤(eZ kts).length
    unfold eZ
    rw[List.length_map]
    lia
  | _=>cases ht
theorem C1(hm:X.mg "list"=none)(ha:CE X a da)(hc:X.calm=true:=by rfl)(hg:Gl X "list":=by rfl)(hs1:starEach [a] X.env=(false,eval a X.env)::starEach [] X.env:=by rfl)(hpl:(backTo pos (starEach [] X.env)).any (·.1)=false:=by rfl) :
  CF X (.Call (.Name "list" p) [a] [] pos) (dUn yK da):=Cj (xl hc) (by
 intro F H v t w Q s hv hw q
 cases t with
 | dct ts =>
  cases hw
  obtain⟨a,vs,rfl,hq,hl⟩:=hv
  exact⟨a,vs,rfl,hq,λl hp=>q l _ hp ⟨_,ax,hl.keys⟩⟩
 | _=>cases hw) hm (by decide +kernel) ha hg (by decide) (by decide) hs1 hpl
theorem FO{id:String}{x:Str}{r:List V→Hp→VK→Prop}{g:T→T→Option T}(hc:d6 X (.builtin id) r)(hs:vh X.K r g)(hm:X.mg x=none)(hv:bootBuiltins x=some (.builtin id))(ha:CE X a da)(hb:CE X b db)(hg:Gl X x:=by rfl)(hn:x≠"__name__":=by decide)
  (hdb:(x==("__debug__":Str))=false:=by decide) (hs1:starEach [a,b] X.env=(false,eval a X.env)::starEach [b] X.env:=by rfl) (hs2:starEach [b] X.env=(false,eval b X.env)::starEach [] X.env:=by rfl) (hpl:(backTo pos (starEach [b] X.env)).any (·.1)=false:=by rfl):CE X (.Call (.Name x p) [a,b] [] pos) (ah g da db) :=
 PE.imp (jT hc hg hm hv (ag ha (ag hb av hs2) hs1) hn hdb hs1 hpl) (call2 hs)
theorem C2(hm:X.mg "min"=none)(ha:CE X a da)(hb:CE X b db)(hc:X.calm=true:=by rfl)(hg:Gl X "min":=by rfl)(hs1:starEach [a,b] X.env=(false,eval a X.env)::starEach [b] X.env:=by rfl)(hs2:starEach [b] X.env=(false,eval b X.env)::starEach [] X.env:=by rfl)(hpl:(backTo pos (starEach [b] X.env)).any (·.1)=false:=by rfl) :
  CE X (.Call (.Name "min" p) [a,b] [] pos) (ah vv da db):=FO (zM hc) (by
 intro F H v u t t' w Q s hv hu hw q
 cases t<;>cases t'<;>first|cases hw|skip
 exact⟨_,_,by rw[hv.int,hu.int],q _ H F bG.refl (Rep.j7 _)⟩) hm (by decide +kernel) ha hb hg (by decide) (by decide) hs1 hs2 hpl
end
section
variable{X:Cx}{a b:Expr}{da db:D}{pos p:Pos}{k:Nat}
end
end Fw
namespace L2
open PySem PySem.Spec PyProof.Rows
open AutoSeq1 (wpAny_loadPart')
theorem C3{prog:Program}{w:World}{A:Around}{k:Bool}(hh:A.handled=none)(it l:Addr)(hne:l≠it)(items:Array Value) :
  Draws prog w A it [it,l] items.size (λi v=>items[i]?=some v) (λi h=>KIt k h it l i∧KSq k h l items) where
 live:=λ_ _ st=>by obtain⟨o,ho,_⟩:=st.1.ob;exact⟨o,ho⟩
 frame:=λ_ _ _ st hk=>⟨st.1.at λo e=>hk it (by simp) o e,st.2.at λo e=>hk l (by simp) o e⟩
 item:=λi s Q E hi st hQ=>jn st.1 st.2 (x:=items[i]) (by simp[hi]) λh' FP hs'=>hQ _ h' s.toks (by simp[hi]) ⟨FP,st.2.at λo e=>hs'.extBut _ _ hne e⟩ hs'
 done:=λs Q E st hE=>nz hh st.1 st.2 (by simp) hE
noncomputable abbrev eH (k : Bool) (h : Heap) (l : Addr) : Heap := (h.push (gx k l)).push { cls := .type "enumerate", data := .fields #[.none, .bool false, .ref h.objs.size, rawInt 0, .none, .none] }
set_option maxHeartbeats 4000000 in
theorem Au(l:Addr)(items:Array Value)(n:Nat)(dct:Option Addr)(sl:Array (Option Value)) :
  Meets (Builtin.«enumerate.__new__» ⟨[.type "enumerate",.ref l],[]⟩) (λ_ R s=>s.heap.get? l=some { cls:=.type "tuple",dict:=dct,data:=.seq items n,slots:=sl } ∧
   R (.ok (.ret (.ref (s.heap.push (gx false l)).objs.size))) { s with heap:=eH false s.heap l }) :=
 .of_wp λprog w A R s h=>by
  obtain⟨hp,g,d,tk,os⟩:=s
  obtain⟨hl,h⟩:=h
  have Nt:=sub_enumerate
  have hT:Heap.IsTuple (Shared.heap ⟨hp,g,d,tk,os⟩) l items:=⟨_,hl,rfl,n,rfl⟩
  wp_walk using wpAny_loadPart' hl
  refine wpAny_stack_any λst=>wpAny_pure ?_
  split
  ·rename_i c _ _ _ _ _
   cases (c==Value.type "enumerate")
   ·(wp_walk using wpAny_loadPart' hl,wpAny_pyIter_tuple hT);exact⟨_,rfl,h⟩
   ·(wp_walk using wpAny_loadPart' hl,wpAny_pyIter_tuple hT);exact⟨_,rfl,h⟩
  ·(wp_walk using wpAny_loadPart' hl,wpAny_pyIter_tuple hT);exact⟨_,rfl,h⟩
section
variable{prog:Program}{w:World}{A:Around}{E:Value→Shared→Prop}{s:Shared}
theorem xm{k:Bool}{l:Addr}{xs:Array Value}{Q:Value→Shared→Prop}(hl:KSq k s.heap l xs)
  (h:∀h',IsEnum h' (s.heap.objs.size+1) s.heap.objs.size 0 .none→KIt k h' s.heap.objs.size l 0→h'.objs.size=s.heap.objs.size+2→(∀c o,s.heap.get? c=some o→h'.get? c=some o)→Q (.ref (s.heap.objs.size+1)) { s with heap:=h' }) :
  wpAny (model prog w) A (call (.type "enumerate") [.ref l]) Q E s:=by
 cases k with
 | true=>exact call_enumerate_list hl h
 | false =>
  obtain⟨⟨c,dct,dt,sl⟩,hg,hc,n,hd⟩:=hl
  simp only at hc hd
  subst hc hd
  refine callType_new F.called_enumerate (by decide) (F.typeCall_enumerate_1 _) (F.newCall_enumerate_1 _) (λobj=>F.args_object_init_2 obj _) F.entry_enumerate_new (Au l xs n dct sl) ⟨hg,?_⟩
  have z1:(s.heap.push (gx false l)).objs.size=s.heap.objs.size+1:=Heap.size_push ..
  have g2:(eH false s.heap l).get? (s.heap.push (gx false l)).objs.size=some _:=Heap.get?_push_size _ rfl
  have g1:(eH false s.heap l).get? s.heap.objs.size=some (gx false l):=Heap.get?_push_of_some _ (Heap.get?_push_size _ rfl)
  show _∧_
  rw[z1] at g2
  rw[z1]
  exact⟨⟨_,g2,rfl⟩,h _ g2 (KIt.new g1) (by rw[Heap.size_push,z1]) λc o q=>Heap.get?_push_of_some _ (Heap.get?_push_of_some _ q)⟩
end
def Ite(K:PySem.W.Frag)(k:Bool)(a:Addr):It :=
 ⟨λi H=>∃xs x,iC K k H a xs∧xs[i]?=some x,
  λi H v H'=>∃p x,v=.ref p∧H p=none∧H'=upd H p (.tup [.int (i:Int),x])∧∀xs,iC K k H a xs→xs[i]?=some x,
  λi H=>∃xs,iC K k H a xs∧xs.length=i⟩
structure ESt(k:Bool)(z i1 l1:Addr)(i:Nat)(h:Heap):Prop where
 z:∃old,IsEnum h z i1 (i:Int) old
 one:KIt k h i1 l1 i
theorem Av{P:Program}{w:World}{K:PySem.W.Frag}{elts:List Expr}{x1:Nat}{pos:Pos}{k:Bool}{z i1 l1:Addr}(d:z≠i1) :
  Turn P w K (.Tuple elts x1 pos) (Ite K k l1) [z,i1] z (ESt k z i1 l1):=by
 refine⟨by simp,λi h st b hb=>?_,λi h h' st k'=>?_,?_,?_,λA i s Q E st hq=>?_⟩
 ·obtain⟨old,hz⟩:=st.z
  obtain⟨o1,e1,q1⟩:=st.one.ob
  simp only[List.mem_cons,List.not_mem_nil,or_false] at hb
  rcases hb with rfl|rfl
  ·exact⟨_,hz,λv e=>by cases e⟩
  ·exact⟨_,e1,λv e=>by rw[q1] at e;cases e⟩
 ·obtain⟨old,hz⟩:=st.z
  exact⟨⟨old,k' z (by simp) _ hz⟩,st.one.at λo e=>k' i1 (by simp) o e⟩
 ·intro X hP hw hK hc i pins s σ H E I hf st hg
  obtain⟨xs,x,h1,hx⟩:=hg
  subst hP hw hK
  obtain⟨rE,r1,s1,z1⟩:=I.ksq h1
  obtain⟨u,hu,ru⟩:=r1.get hx
  obtain⟨old,hz⟩:=st.z
  have hli:l1≠i1:=gS I h1 (hf i1 (by simp))
  have hlz:l1≠z:=gS I h1 (hf z (by simp))
  obtain⟨o1,e1,_⟩:=st.one.ob
  have hlt:i<rE.toArray.size:=by
   have:=(List.getElem?_eq_some_iff.mp hu).1
   simpa using this
  have hne:z∉[i1,l1]:=by
   simp only[List.mem_cons,List.not_mem_nil,or_false,not_or]
   exact⟨d,λe=>hlz e.symm⟩
  refine wpAny_pyNext_enum_itemD (C3 (k:=k) (A:=X.A.in1) (I.ok.hd hc) i1 l1 hli rE.toArray) hz ⟨st.one,s1⟩ hlt d hne λy h' tk hy g1 g2 g3 g4 g5=>⟨_,rfl,?_⟩
  have ey:y=u:=by
   have hy:rE[i]?=some y:=by simpa using hy
   rw[hu] at hy
   exact (Option.some.inj hy).symm
  subst ey
  refine wpAny_letOwnedTupleGo_enum g1 λh'' q1 q2=>?_
  have lt:∀{c:Addr}{o:Obj},s.heap.get? c=some o→c≠s.heap.objs.size:=λe=>Nat.ne_of_lt (Heap.lt_size e)
  have hTz:s.heap.objs.size≠z:=(lt hz).symm
  have new:h''.get? s.heap.objs.size=some { cls:=.type "tuple",data:=.seq #[.int i tk,y] }:=q2.extBut _ _ hTz g3
  refine⟨.ref s.heap.objs.size,upd H s.heap.objs.size (.tup [.int (i:Int),x]),?_,rfl,⟨s.heap.objs.size,x,rfl,I.hok.fresh (Nat.le_refl _),rfl,λws hw=>by rw[I.ud hw h1];exact hx⟩,?_,λc hcm=>?_⟩
  ·refine (I.uf (ch:=[z,i1]) (h':=h'') (λc o hcn e=>?_) (λc hcm=>hf c hcm) ?_).tok _
   ·simp at hcn
    exact q2.extBut _ _ hcn.1 (g5 c o hcn.1 hcn.2 e)
   ·exact⟨by show 2≤sizeLine;decide,[.int i tk,y],.cons ⟨tk,rfl⟩ (.cons ru .nil),⟨_,new,rfl,0,rfl⟩⟩
  ·exact⟨⟨_,by simpa using q1⟩,g2.1.at λo e=>q2.extBut _ _ d.symm e⟩
  ·rw[aB]
   ·exact (hf c hcm).1
   ·simp only[List.mem_cons,List.not_mem_nil,or_false] at hcm
    rcases hcm with rfl|rfl
    ·exact lt hz
    ·exact lt e1
 ·intro X hP hw hK hc i pins s σ H E I hf st hg
  obtain⟨xs,h1,hle⟩:=hg
  subst hP hw hK
  obtain⟨rE,r1,s1,z1⟩:=I.ksq h1
  obtain⟨old,hz⟩:=st.z
  have hli:l1≠i1:=gS I h1 (hf i1 (by simp))
  have l1':=r1.length
  have en:rE.toArray.size=i:=by simp;lia
  refine wpAny_pyNext_enum_endD (C3 (k:=k) (A:=X.A.in1) (I.ok.hd hc) i1 l1 hli rE.toArray) hz ⟨by rw[en];exact st.one,s1⟩ λh' g7=>⟨rfl,I.ue (t':=s.toks) (ch:=[z,i1]) (λc o hcn e=>?_) λc hcm=>hf c hcm⟩
  simp at hcn
  exact g7 c o hcn.2 e
 ·obtain⟨old,hz⟩:=st.z
  exact wpAny_pyIter_enum hz hq
def Jk(K:PySem.W.Frag)(t:TA):TI:=λσ H R=>t σ H λvs H1=>∃a k xs,vs=[.ref a]∧iC K k H1 a xs∧R (Ite K k a) H1
theorem FQ{X:Cx}{elts:List Expr}{x1:Nat}{fL p pos:Pos}{a:Expr}{t:TA}(hg:Gl X "enumerate")(hm:X.mg "enumerate"=none)(ha:PA X [a] t)(he:starEach [a] X.env=(false,eval a X.env)::starEach [] X.env)(hpl:(backTo pos (starEach [] X.env)).any (·.1)=false) :
  PI X (.Tuple elts x1 fL) (.Call (.Name "enumerate" p) [a] [] pos) (Jk X.K t):=by
 intro pins s σ H R I h
 refine wpAny_Call_Name_kw (mY I hg hm PyProof.Rows.boot_enumerate ?_ (by decide) (by decide))
 refine PyProof.Rows.callWith_type1 (thn (ha pos pins s σ H _ I h) λus s1 ak=>?_) he hpl
 obtain⟨vs,H1,I1,r1,q1⟩:=ak
 obtain⟨c,k,xs,rfl,h1,q⟩:=q1
 obtain⟨u1,rfl,ru1⟩:=vals1 r1
 cases ru1
 obtain⟨rE,_,s1',_⟩:=I1.ksq h1
 refine xm s1' λh' g1 g2 g6 g7=>wpAny_pyIter_enum g1 ?_
 have I2:Inv X pins σ H1 { s1 with heap:=h' }:=I1.kept (t':=s1.toks) g7
 refine⟨_,_,_,_,H1,rfl,I2,Av (k:=k) (i1:=s1.heap.objs.size) (l1:=c) (λe=>by have e:s1.heap.objs.size+1=s1.heap.objs.size:=e;lia),⟨⟨_,g1⟩,g2⟩,λe he=>?_,q⟩
 have:s1.heap.objs.size≤e:=by
  simp only[List.mem_cons,List.not_mem_nil,or_false] at he
  rcases he with rfl|rfl
  ·exact Nat.le_add_right _ _
  ·exact Nat.le_refl _
 exact I1.u0 this (I1.hok.fresh this)
end L2
namespace Fw
open PySem PySem.Spec PyProof.Rows L2
theorem FR{X:Cx}{elts:List Expr}{x1:Nat}{fL p pos:Pos}{a:Expr}{da:D}(hm:X.mg "enumerate"=none)(ha:CE X a da)(hg:Gl X "enumerate":=by rfl)(hs:starEach [a] X.env=(false,eval a X.env)::starEach [] X.env:=by rfl)(hpl:(backTo pos (starEach [] X.env)).any (·.1)=false:=by rfl) :
  CI X (.Tuple elts x1 fL) (.Call (.Name "enumerate" p) [a] [] pos) (yY da) :=
 PI.imp (FQ hg hm (ag ha av hs) hs hpl) λσ H R0 ak=>by
  obtain⟨F,α,e,μ,S,h⟩:=ak
  refine sD ⟨F,α,e,μ,S,(R.wp_bind h).mono (λx μ1 h v H1 F1 α1 x1 S1 o1=>?_) λ_ _ h=>h⟩
  obtain⟨ts,ht,post⟩:=R.br (R.wp_bind h)
  obtain⟨t,hr,ht⟩:=Option.bind_eq_some_iff.mp ht
  obtain⟨a1,vs1,k1,rfl,q1,r1,m1⟩:=ij S1.st.ext (a_ S1.st o1 hr) ht
  refine⟨a1,k1,vs1,rfl,q1,post _ H1 F1 α1 x1 S1 λF2 α2 μ3 H2 s2 p2 S2 same=>?_⟩
  have e1:rd μ3 x=rd μ1 x:=same
  obtain⟨b1,ws1,j1,g1,n1,l1,m1'⟩:=ij S2.ext (a_ S2 (o1.mono s2 p2) (e1.trans hr)) ht
  cases g1
  have ej1:j1=k1:=by rw[Bool.eq_iff_iff,m1,m1']
  subst ej1
  refine⟨λi t hi=>?_,?_⟩
  ·obtain⟨c,hc,rfl⟩:=sM hi
   obtain⟨v1,hv1,rv1⟩:=l1.get hc
   refine⟨⟨ws1,v1,n1,hv1⟩,?_⟩
   rintro z H3 ⟨q,z1,rfl,hq,rfl,f1⟩
   have w1:=f1 ws1 n1
   rw[hv1] at w1
   cases w1
   have g:bG F2 H2 (upd F2 q (.tup [.int (i:Int),v1])) (upd H2 q (.tup [.int (i:Int),v1])):=bG.new hq
   refine⟨_,g,?_⟩
   rw[Rep]
   rw[Int.zero_add]
   exact⟨q,_,rfl,SqT.of ax,ay.mono (g.same S2.ext) _ _ (.eF (Rep.j7 _) (.eF rv1 .iR))⟩
  ·refine⟨ws1,n1,?_⟩
   have:=l1.length
   show ws1.length=(gP 0 ts).length
   rw[sL]
   lia
end Fw
namespace L2
open PySem PySem.Spec PyProof.Rows
end L2
namespace Fw
open PySem PySem.Spec PyProof.Rows L2
section
variable{K:PySem.W.Frag}
theorem p_{F:Hp}{t:T}{v:V}(h:Rep K F t v)(f:gf t=true):kT v=true∧∀{t':T}{v':V},Rep K F t' v'→gf t'=true→eqV v v'=eqT t t':=by
 cases t with
 | non=>cases h.jh;exact⟨rfl,λ{t' v'} h' f'=>by
   cases t' with
   | non=>cases h'.jh;simp[eqV,eqT]
   | bl b=>cases h'.iQ;simp[eqV,eqT]
   | int b=>cases h'.jg;simp[eqV,eqT]
   | str b=>cases h'.lq;simp[eqV,eqT]
   | _=>cases f'⟩
 | bl c=>cases h.iQ;exact⟨rfl,λ{t' v'} h' f'=>by
   cases t' with
   | non=>cases h'.jh;simp[eqV,eqT]
   | bl b=>cases h'.iQ;simp[eqV,eqT]
   | int b=>cases h'.jg;simp[eqV,eqT]
   | str b=>cases h'.lq;simp[eqV,eqT]
   | _=>cases f'⟩
 | int c=>cases h.jg;exact⟨rfl,λ{t' v'} h' f'=>by
   cases t' with
   | non=>cases h'.jh;simp[eqV,eqT]
   | bl b=>cases h'.iQ;simp[eqV,eqT]
   | int b=>cases h'.jg;simp[eqV,eqT]
   | str b=>cases h'.lq;simp[eqV,eqT]
   | _=>cases f'⟩
 | str c=>cases h.lq;exact⟨rfl,λ{t' v'} h' f'=>by
   cases t' with
   | non=>cases h'.jh;simp[eqV,eqT]
   | bl b=>cases h'.iQ;simp[eqV,eqT]
   | int b=>cases h'.jg;simp[eqV,eqT]
   | str b=>cases h'.lq;simp[eqV,eqT]
   | _=>cases f'⟩
 | _=>cases f
theorem nA{F:Hp}{t:T}{v:V}(h:Rep K F t v)(f:gf t=true):∀{us:List T}{vs:List V},ay K F us vs→us.all gf=true→vs.all kT=true∧inV v vs=inT t us
 | [],vs,r,_=>by rw[ay] at r;subst r;exact⟨rfl,rfl⟩
 | u::us,vs,r,hf=>by
  rw[ay] at r
  obtain⟨v1,vs1,rfl,r1,r2⟩:=r
  rw[List.all_cons,Bool.and_eq_true] at hf
  obtain⟨a,b⟩:=nA h f r2 hf.2
  obtain⟨c,d⟩:=p_ r1 hf.1
  refine⟨by rw[List.all_cons,c,a];rfl,?_⟩
  unfold inV inT at b ⊢
  rw[List.any_cons,List.any_cons,b,d h f]
theorem Now.flat{F H:Hp}{v:V}{t:T}(h:Now K F H v t)(f:gf t=true):Rep K F t v:=by
 cases t with
 | non=>exact h
 | bl b=>exact h
 | int b=>exact h
 | str b=>exact h
 | _=>cases f
theorem Jl:f_ K (rIn K false) fIn:=by
 intro F H v u t t' w Q s hv hu hw q
 unfold fIn at hw
 cases e:bx t' with
 | none=>rw[e] at hw;cases hw
 | some us =>
  rw[e] at hw
  simp only at hw
  by_cases hf:(gf t && us.all gf)=true
  ·rw[if_pos hf] at hw
   cases hw
   rw[Bool.and_eq_true] at hf
   obtain⟨a,vs,k,rfl,hq,hl,_⟩:=ij s hu e
   obtain⟨f1,f2⟩:=nA (hv.flat hf.1) hf.1 hl hf.2
   have fx:=(p_ (hv.flat hf.1) hf.1).1
   refine⟨a,vs,rfl,?_,fx,f1,?_⟩
   ·cases k with
    | true=>exact .inl hq
    | false=>exact .inr hq
   ·rw[f2];exact q _ H F bG.refl (Rep.bl' _)
  ·rw[if_neg hf] at hw;cases hw
theorem FT:f_ K (rIn K true) iB:=by
 intro F H v u t t' w Q s hv hu hw q
 unfold iB at hw
 cases e:bx t' with
 | none=>rw[e] at hw;cases hw
 | some us =>
  rw[e] at hw
  simp only at hw
  by_cases hf:(gf t && us.all gf)=true
  ·rw[if_pos hf] at hw
   cases hw
   rw[Bool.and_eq_true] at hf
   obtain⟨a,vs,k,rfl,hq,hl,_⟩:=ij s hu e
   obtain⟨f1,f2⟩:=nA (hv.flat hf.1) hf.1 hl hf.2
   have fx:=(p_ (hv.flat hf.1) hf.1).1
   refine⟨a,vs,rfl,?_,fx,f1,?_⟩
   ·cases k with
    | true=>exact .inl hq
    | false=>exact .inr hq
   ·rw[f2];exact q _ H F bG.refl (Rep.bl' _)
  ·rw[if_neg hf] at hw;cases hw
end
section
variable{X:Cx}{a b c:Expr}{da db dc:D}{pos p p2:Pos}{k:Nat}
theorem LA(hr:dg k X.A)(ha:CE X a da)(hb:CE X b db)(hm:behindInMarks .In b=false:=by with_unfolding_all rfl):CT X (.Compare a [.In] [b] pos) (ah fIn da db):=lx zO Jl hm ha hb
theorem qa(hr:dg k X.A)(ha:CE X a da)(hb:CE X b db)(hm:behindInMarks .NotIn b=false:=by with_unfolding_all rfl):CT X (.Compare a [.NotIn] [b] pos) (ah iB da db):=lx tM FT hm ha hb
theorem Jm{tg:Expr}{is:List Nat}(hg:CB X tg (h_ is))(he:CE X a da)(hs:swapsWithSole [tg] a pos.line X.env=pure false:=by rfl)(hw:swappedStores [tg] a X.env=pure none:=by rfl)
  (h1:(assignEach [tg] X.env).map (·.2)=[assign tg X.env]:=by rfl):CS X (.Assign [tg] a pos) (Fu is da) :=
 PS.imp (Bh he hg hs hw h1) λD σ H ⟨F,α,e,μ,S,h⟩ =>
  ⟨F,α,e,μ,S,(aQ.toS h).mono (λx μ1 h v H1 F1 α1 x1 S1 o1=>by
   obtain⟨e',hb,hp⟩:=aQ.lift h
   obtain⟨t,ht,hb⟩:=Option.bind_eq_some_iff.mp hb
   cases x with
   | val t'=>cases ht;exact⟨F1,α1,e,μ1,t,e',S1,o1,hb,λσ' S'=>hp σ' H1 F1 α1 x1 S'⟩
   | cel _=>cases ht
   | box _=>cases ht) λ_ _ h=>h⟩
end
end Fw
namespace L2
open PySem PySem.Spec PyProof.Rows
end L2
namespace Fw
open PySem PySem.Spec PyProof.Rows L2
section
variable{X:Cx}{a b c:Expr}{da db dc:D}{pos p p2 pu pc:Pos}{k:Nat}
end
section
variable{X:Cx}{a b c:Expr}{da db dc:D}{pos p p2 pu pc:Pos}{k:Nat}
theorem C4{o:Expr}{do_:D}{apos fq:Pos}(ho:CE X o do_)(jV:attributeBase o "clear" X.env (eval o X.env)=eval o X.env:=by rfl)(jW:(apos.endLine==fq.line)=true:=by rfl)
  (hs:swapsWith (.Call (.Attribute o "clear" apos) [] [] fq) none pos.line X.env=pure false:=by rfl):CS X (.Expr (.Call (.Attribute o "clear" apos) [] [] fq) pos) (t5 do_) :=
 PS.imp (yo (Il PySem.F.plainAttrs_list PySem.F.slot_list_clear PySem.F.type_list_clear By ho jV jW) hs) λD σ H ak=>by
  obtain⟨F,α,e,μ,S,h⟩:=ak
  refine⟨F,α,e,μ,S,(aQ.toS h).mono (λx μ1 h v H1 F1 α1 x1 S1 o1=>?_) λ_ _ h=>h⟩
  obtain⟨μ2,hc,hp⟩:=aQ.lift h
  cases x with
  | cel j =>
   obtain⟨ad,ha,rfl⟩:=o1
   have hcc:∃ts,μ1[j]?=some (true,.lst ts)∧μ2=μ1.set j (true,.lst []):=by
    unfold oZ at hc
    simp only at hc
    split at hc
    ·rename_i ts hj
     cases hc
     exact⟨ts,hj,rfl⟩
    ·cases hc
   obtain⟨ts,hj,rfl⟩:=hcc
   obtain⟨_,ws,hw,rw'⟩:=(S1.st.cell j true _ ad hj ha).1 rfl
   refine⟨.inl ⟨rfl,ws,SqL.of hw⟩,ad,ws,rfl,rfl,hw,?_⟩
   exact hp σ _ F1 α1 (x1.trans (Ex.put ha)) (S1.of (aH.refl _) (List.prefix_refl _) (pK S1.st hj ha ⟨_,ax,ay.iR⟩))
  | val t=>cases hc
  | box xs=>cases hc
end
section
variable{X:Cx}{pos:Pos}
end
section
variable{X:Cx}{pos p:Pos}{k:Nat}{a:Expr}{da:D}
end
section
variable{X:Cx}{a b:Expr}{da db:D}{pos p:Pos}{k:Nat}
end
section
variable{X:Cx}{a b:Expr}{da db:D}{pos:Pos}
end
theorem Paired.get'{α β:Type}{P:α→β→Prop}:∀{as:List α}{bs:List β}{i:Nat}{b:β},Paired P as bs→bs[i]?=some b→∃a,as[i]?=some a∧P a b
 | _,_,i,b,.nil,h=>by simp at h
 | _,_,0,b,.cons r t,h=>by simp at h;subst h;exact⟨_,rfl,r⟩
 | _,_,i+1,b,.cons r t,h=>by
  obtain⟨a,h1,h2⟩:=Paired.get' t (by simpa using h)
  exact⟨a,by simpa using h1,h2⟩
section
variable{X:Cx}{body:List Stmt}{es:List Expr}{ds:List D}{d:DS}{pos np lp:Pos}
end
end Fw
namespace L2
open PySem PySem.Spec PyProof.Rows
section
variable{prog:Program}{w:World}{A:Around}{E:Value→Shared→Prop}{s:Shared}
end
section
variable{prog:Program}{w:World}{A:Around}{E:Value→Shared→Prop}{s:Shared}
end
end L2
namespace Fw
open PySem PySem.Spec PyProof.Rows L2
end Fw
namespace L2
open PySem PySem.Spec PyProof.Rows
open AutoSeq1 (wpAny_loadPart')
section
variable{prog:Program}{w:World}{A:Around}{E:Value→Shared→Prop}{s:Shared}
end
end L2
namespace HT
open PySem PySem.Spec PyProof.Rows L2
section
variable{prog:Program}{w:World}{A:Around}{E:Value→Shared→Prop}{s:Shared}
end
end HT
namespace L2
open PySem PySem.Spec PyProof.Rows
end L2
namespace Fw
open PySem PySem.Spec PyProof.Rows L2
end Fw
namespace Fw
open PySem L2 PyProof.Rows
section
variable{X:Cx}{pins:List (Addr×Obj)}{σ:L2.St}{H:Hp}{s:Shared}
end
section
variable{X:Cx}{a:Expr}{da:D}{p pos:Pos}{b:Bool}
end
section
variable{X:Cx}{E:Value→Shared→Prop}{pins:List (Addr×Obj)}{σ:L2.St}{H:Hp}{s:Shared}
end
end Fw
namespace L2
open PySem PySem.Spec PyProof.Rows Fw
section
variable{X:Cx}
theorem jo:∀{us:List Value}{ns:List Int},IntsAre us ns→Vals (ns.map V.int) us
 | _,_,.nil=>.nil
 | _,_,.cons _ _ h=>.cons ⟨_,rfl⟩ (jo h)
theorem vD:d6 X (.builtin "sorted") (λxs H Q=>∃(p:Addr) (ns:List Int),xs=[.ref p]∧SqL X.K H p (ns.map V.int)∧ns.length<64∧∀q,H q=none→Q (.ref q) (upd H q (.lst ((jP ns).map V.int)))):=by
 intro pins s σ H xs us Q I r h
 obtain⟨p,ns,rfl,hq,hlt,q⟩:=h
 obtain⟨u,rfl,ru⟩:=vals1 r
 cases ru
 obtain⟨its,rv,pl,hz⟩:=I.list hq
 have hi:IntsAre its ns:=intsAre_of rv
 have hl:=rv.length
 rw[List.length_map] at hl hz
 refine sorted_ints pl.isList hi (by omega) λout ns' a1 a2 a3=>?_
 have e:ns'=jP ns:=y_ a2 a3
 subst e
 have hv:=jo a1
 have hsz:((s.heap.push (seqObj "list" #[] 0)).update s.heap.objs.size (Obj.mapSeq (·++its.toArray))).objs.size=s.heap.objs.size+1:=by
  rw[Heap.size_update,Heap.size_push]
 have keep:∀b o,s.heap.get? b=some o→(sortedAll s.heap its out).get? b=some o:=λb o e=>by
  have hb:=Heap.lt_size e
  have n1:s.heap.objs.size≠b:=Nat.ne_of_gt hb
  have n2:s.heap.objs.size+1≠b:=Nat.ne_of_gt (Nat.lt_succ_of_lt hb)
  unfold sortedAll sortedHeap
  rw[Heap.get?_update_other _ _ n2]
  refine Heap.get?_push_of_some _ (Heap.get?_push_of_some _ ?_)
  rw[Heap.get?_update_other _ _ n2]
  refine Heap.get?_push_of_some _ ?_
  rw[Heap.get?_update_other _ _ n1]
  exact Heap.get?_push_of_some _ e
 have new:∃c,(sortedAll s.heap its out).get? (s.heap.objs.size+1)=some { cls:=.type "list",data:=.seq out c }:=by
  have h1:(((s.heap.push (seqObj "list" #[] 0)).update s.heap.objs.size (Obj.mapSeq (·++its.toArray))).push (seqObj "list" its.toArray 0)).get? (s.heap.objs.size+1)=some (seqObj "list" its.toArray 0):=by
   rw[← hsz];exact Heap.get?_push_size _ rfl
  have h2:=Heap.get?_update_self (Obj.mapSeq λ_=>(#[]:Array Value)) h1 rfl
  have h3:=Heap.get?_push_of_some (seqObj "list" #[] 0) (Heap.get?_push_of_some (seqObj "tuple" its.toArray 0) h2)
  have h4:=Heap.get?_update_self (Obj.mapSeq λ_=>out) h3 rfl
  exact⟨_,h4⟩
 obtain⟨c,hc⟩:=new
 have hle:s.heap.objs.size≤s.heap.objs.size+1:=Nat.le_succ _
 refine⟨.ref (s.heap.objs.size+1),_,I.laid (a:=s.heap.objs.size+1) (o:=.lst ((jP ns).map V.int)) (t':=s.toks) keep hle ⟨?_,out.toList,c,hv,?_⟩,rfl,q _ (I.hok.fresh hle)⟩
 ·rw[List.length_map,(iU ns).length_eq];exact hz
 ·simpa using hc
end
end L2
namespace Fw
open PySem PySem.Spec PyProof.Rows L2
section
variable{X:Cx}{a:Expr}{da:D}{p pos:Pos}
theorem Aw(hm:X.mg "sorted"=none)(ha:CE X a da)(hg:Gl X "sorted":=by rfl)(hs1:starEach [a] X.env=(false,eval a X.env)::starEach [] X.env:=by rfl)(hpl:(backTo pos (starEach [] X.env)).any (·.1)=false:=by rfl) :
  CE X (.Call (.Name "sorted" p) [a] [] pos) (dUn jm da):=oW vD (by
 intro F H v t w Q s hv hw q
 cases t with
 | lst ts =>
  obtain⟨ns,h1,h2⟩:=Option.bind_eq_some_iff.mp (show ((dD ts).bind λns=>if ns.length<64 then some (T.lst ((jP ns).map T.int)) else none)=some w from hw)
  obtain⟨a,vs,rfl,hq,hl⟩:=hv.lB
  rw[sN h1] at hl
  rw[hl.Ha] at hq
  by_cases hlt:ns.length<64
  ·rw[if_pos hlt] at h2
   cases h2
   exact⟨a,ns,rfl,hq,hlt,λp hp=>o5 s hp (ay.mr _) q⟩
  ·rw[if_neg hlt] at h2;cases h2
 | _=>cases hw) hm (by decide +kernel) ha hg (by decide) (by decide) hs1 hpl
end
section
variable{X:Cx}{pins:List (Addr×Obj)}{σ:L2.St}{H:Hp}{s:Shared}{k:Nat}
end
section
variable{X:Cx}{a b:Expr}{da db:D}{pos:Pos}{k:Nat}
end
end Fw
namespace L2
open PySem PySem.Spec PyProof.Rows
end L2
namespace Fw
open PySem PySem.Spec PyProof.Rows L2
end Fw
namespace L2
open PySem PySem.Spec PyProof.Rows
section
variable{prog:Program}{w:World}{A:Around}{E:Value→Shared→Prop}{s:Shared}
noncomputable abbrev Jn (h : Heap) (z TI TO a : Addr) (f : Bool) : Prop := h.get? z = some { cls := .type "zip", dict := none, data := .fields #[rawInt a, .bool f, .bool false, .ref TI, .ref TO], slots := #[] }
structure ZOA(z TI i1 i2 l1 l2:Addr):Prop where
 TIz:TI≠z
 i1z:i1≠z
 i2z:i2≠z
 i12:i1≠i2
 l1z:l1≠z
 l1i1:l1≠i1
 l2z:l2≠z
 l2i1:l2≠i1
end
section
variable{X:Cx}{pins:List (Addr×Obj)}{σ:L2.St}{H:Hp}{s:Shared}
structure ZO(k1 k2:Bool)(z TI TO i1 i2 l1 l2:Addr)(i:Nat)(H:Hp)(h:Heap):Prop where
 zz:IsZip h z TI TO .none∨∃a f ws,H a=some (.tup ws)∧Jn h z TI TO a f
 ti:IsPair h TI (.ref i1) (.ref i2)
 to:∃a b,IsPair h TO a b
 one:KIt k1 h i1 l1 i
 two:KIt k2 h i2 l2 i
theorem ZO.keep{k1 k2:Bool}{z TI TO i1 i2 l1 l2:Addr}{i:Nat}{h h':Heap}(st:ZO k1 k2 z TI TO i1 i2 l1 l2 i H h)(k:∀b∈[z,TI,TO,i1,i2],∀o,h.get? b=some o→h'.get? b=some o):ZO k1 k2 z TI TO i1 i2 l1 l2 i H h':=by
 obtain⟨a,b,hto⟩:=st.to
 refine⟨?_,k TI (.tail _ (.head _)) _ st.ti,⟨a,b,k TO (.tail _ (.tail _ (.head _))) _ hto⟩,st.one.at λo e=>k i1 (.tail _ (.tail _ (.tail _ (.head _)))) o e,st.two.at λo e=>k i2 (.tail _ (.tail _ (.tail _ (.tail _ (.head _))))) o e⟩
 rcases st.zz with hz|⟨c,f,ws,hc,hz⟩
 ·exact .inl (k z (.head _) _ hz)
 ·exact .inr ⟨c,f,ws,hc,k z (.head _) _ hz⟩
theorem ZO.apart{k1 k2:Bool}{z TI TO i1 i2 l1 l2:Addr}{i:Nat}{xs ys:List V}(d1:TI≠TO)(d2:i1≠i2)(I:Inv X pins σ H s)(hf:∀b∈[z,TI,TO,i1,i2],jR X pins H b)(st:ZO k1 k2 z TI TO i1 i2 l1 l2 i H s.heap)(h1:iC X.K k1 H l1 xs)(h2:iC X.K k2 H l2 ys) :
  ZipApart z TI TO i1 i2 l1 l2∧ZOA z TI i1 i2 l1 l2:=by
 obtain⟨a,b,hto⟩:=st.to
 obtain⟨o1,e1,q1⟩:=st.one.ob
 obtain⟨o2,e2,q2⟩:=st.two.ob
 obtain⟨oz,vz,ez,qz,sz⟩:∃(oz:Obj) (vz:Array Value),s.heap.get? z=some oz∧oz.data=.fields vz∧vz.size=5:=by
  rcases st.zz with hz|⟨c,f,ws,hc,hz⟩
  ·exact⟨_,_,hz,rfl,rfl⟩
  ·exact⟨_,_,hz,rfl,rfl⟩
 have neP:∀{c d:Addr}{o:Obj}{u v:Value}{vs:Array Value},IsPair s.heap c u v→s.heap.get? d=some o→o.data=.fields vs→c≠d:=λ{c d o u v vs} hp ho hd e=>by
  subst e
  have hp:s.heap.get? c=some { cls:=.type "tuple",data:=.seq #[u,v] }:=hp
  rw[hp] at ho;cases ho;cases hd
 have neZ:∀{d:Addr}{l:Addr}{o:Obj}{n:Nat},s.heap.get? d=some o→o.data=.fields #[.ref l,.int n 0]→d≠z:=λ{d l o n} ho hd e=>by
  subst e
  rw[ez] at ho;cases ho
  rw[qz] at hd
  have:vz=#[.ref l,.int n 0]:=by injection hd
  rw[this] at sz
  exact absurd sz (by simp)
 have w:∀c∈[z,TI,TO,i1,i2],l1≠c∧l2≠c:=λc hc=>⟨gS I h1 (hf c hc),gS I h2 (hf c hc)⟩
 have D:ZipApart z TI TO i1 i2 l1 l2:={ TIz:=neP st.ti ez qz,TOz:=neP hto ez qz,i1z:=neZ e1 q1,i2z:=neZ e2 q2,TITO:=d1,TIi1:=neP st.ti e1 q1,TIi2:=neP st.ti e2 q2,TOi1:=neP hto e1 q1,TOi2:=neP hto e2 q2,i12:=d2,l1z:=(w z (.head _)).1,l1TO:=(w TO (.tail _ (.tail _ (.head _)))).1,l1i1:=(w i1 (.tail _ (.tail _ (.tail _ (.head _))))).1,l1i2:=(w i2 (.tail _ (.tail _ (.tail _ (.tail _ (.head _)))))).1,l2z:=(w z (.head _)).2,l2TO:=(w TO (.tail _ (.tail _ (.head _)))).2,l2i1:=(w i1 (.tail _ (.tail _ (.tail _ (.head _))))).2,l2i2:=(w i2 (.tail _ (.tail _ (.tail _ (.tail _ (.head _)))))).2 }
 exact⟨D,⟨D.TIz,D.i1z,D.i2z,D.i12,D.l1z,D.l1i1,D.l2z,D.l2i1⟩⟩
end
end L2
namespace Fw
open PySem PySem.Spec PyProof.Rows L2
end Fw
namespace L2
open PySem PySem.Spec PyProof.Rows
end L2
namespace Fw
open PySem PySem.Spec PyProof.Rows L2
end Fw
namespace L2
open PySem PySem.Spec PyProof.Rows
def FU(h:Heap)(d:Addr)(es:Array DictEntry)(ep:Nat):Prop:=∃o,h.get? d=some o∧o.ExactDict∧o.data=.dict es ep
section
variable{prog:Program}{w:World}{A:Around}{E:Value→Shared→Prop}{s:Shared}{d it:Addr}{es:Array DictEntry}{ep i:Nat}
theorem C5{Q:Value→Shared→Prop}(hd:(d==sysModules)=false)(hm:FU s.heap d es ep)
  (hQ:Q (.ref s.heap.objs.size) { s with heap:=s.heap.push { cls:=.type "dict_keyiterator",data:=.fields #[.ref d,.int 0 0,.int es.size 0,.int ep 0] } }) :
  wpAny (model prog w) A (pyIter (.ref d)) Q E s:=by
 obtain⟨o,ho,hx,LB⟩:=hm
 have hT:s.TypeIs (.ref d) "dict":=⟨o,ho,hx.1⟩
 refine wpAny_pyIter_slot hT PySem.F.slot_dict_iter (wpAny_call_entry PySem.F.slot_dict_iter hT PySem.F.entry_dict_iter ?_ (PySem.F.args_dict_iter_1 _))
 unfold Builtin.«dict.__iter__»
 refine wpAny_bind ?_
 unfold Builtin.Dict.dictSlotNone
 refine wpAny_bind (wpAny_notOrdered_dict hT ?_)
 refine wpAny_pure (?_:wpAny _ _ (Builtin.Dict.showsAll d>>=_) _ _ s)
 unfold Builtin.Dict.showsAll
 rw[if_neg (by rw[hd];exact Bool.false_ne_true)]
 refine wpAny_bind (wpAny_pure (wpAny_bind (wpAny_dictEntries ho LB (wpAny_bind (wpAny_dictEpoch ho LB ?_)))))
 refine wpAny_bind (wpAny_newObj_type (wpAny_pure ⟨_,rfl,"dict_keyiterator",_,⟨_,Heap.get?_push_size _ rfl,rfl⟩,PySem.F.slot_dict_keyiterator_next.lookup,?_⟩))
 simpa [rawInt] using hQ
theorem C6{Q:Option Value→Shared→Prop}(hit:s.heap.IsKeyIter it d i es.size ep)(hm:FU s.heap d es ep)(hlt:i<es.size)
  (hQ:∀h',h'.IsKeyIter it d (i+1) es.size ep→Heap.SameBut it s.heap h'→Q (some es[i].key) { s with heap:=h' }) :
  wpAny (model prog w) A (pyNext (.ref it)) Q E s:=by
 obtain⟨o,ho,hc,hd⟩:=id hit
 obtain⟨od,hod,hcd,hdd⟩:=hm
 unfold pyNext
 refine wpAny_bind (wpAny_attempt (wpAny_callSpecial?_slot (name:=Str.ofString "__next__") hit.typeIs PySem.F.slot_dict_keyiterator_next
  (wpAny_call_entry PySem.F.slot_dict_keyiterator_next hit.typeIs PySem.F.entry_dict_keyiterator_next ?_ (PySem.F.args_dict_keyiterator_next_1 _))))
 refine wpAny_bind (wpAny_pure (wpAny_bind (wpAny_bind ?_)))
 first|refine wpAny_bind (wpAny_typeNameOfWhole_keyiter hit.typeIs (wpAny_pure ?_))|refine wpAny_bind (wpAny_typeNameOf_keyiter hit.typeIs (wpAny_pure ?_))
 refine wpAny_bind (wpAny_fieldsOf ho hd ?_)
 simp only[show Builtin.Dict_items.ownsTuple "dict_keyiterator"=false by decide,Bool.false_eq_true,if_false]
 show wpAny _ _ (if (Value.ref d==Value.none)=true then _ else _) _ _ s
 rw[if_neg (show ¬ ((Value.ref d==Value.none)=true) from Bool.false_ne_true)]
 refine wpAny_bind (wpAny_pure (wpAny_bind (wpAny_dictEntries hod hdd ?_)))
 rw[if_neg (by simp)]
 refine wpAny_bind (wpAny_pure (wpAny_bind (wpAny_dictEpoch hod hdd ?_)))
 rw[if_neg (by simp)]
 refine wpAny_pure ?_
 simp only[show ¬ ((i:Int)<0) from by omega,if_false,Int.toNat_natCast,Array.getElem?_eq_getElem hlt]
 refine wpAny_bind ?_
 first|refine wpAny_bind (wpAny_typeNameOfWhole_keyiter hit.typeIs (wpAny_pure ?_))|refine wpAny_bind (wpAny_typeNameOf_keyiter hit.typeIs (wpAny_pure ?_))
 refine wpAny_bind (wpAny_isOneOf_keyiter hit.typeIs ?_)
 show wpAny _ _ (setField (.ref it) 1 (rawInt ((i:Int)+1))>>=_) _ _ s
 refine wpAny_bind (wpAny_setField ho hd (by simp) ?_)
 have FP:(s.heap.update it (Obj.mapFields (·.setIfInBounds 1 (rawInt ((i:Int)+1))))).IsKeyIter it d (i+1) es.size ep :=
  ⟨_,Heap.get?_update_self _ ho (Obj.isFreed_of_fields (Obj.data_mapFields hd _)),(Obj.cls_mapFields ..).trans hc,by rw[Obj.data_mapFields hd];simp[rawInt]⟩
 refine wpAny_bind (wpAny_holding ?_)
 refine wpAny_bind (wpAny_isOneOf_keyiter (s:={ s with heap:=s.heap.update it (Obj.mapFields (·.setIfInBounds 1 (rawInt ((i:Int)+1)))) }) FP.typeIs ?_)
 show wpAny _ _ (pure es[i].key) _ _ _
 exact wpAny_pure (wpAny_pure ⟨_,rfl,wpAny_pure (hQ _ FP (Heap.SameBut.update ..))⟩)
theorem FV{Q:Option Value→Shared→Prop}(hh:A.handled=none)(hit:s.heap.IsKeyIter it d i es.size ep)(hm:FU s.heap d es ep)(hge:es.size≤i)
  (hQ:∀h',Heap.ExtBut it s.heap h'→Q none { s with heap:=h' }):wpAny (model prog w) A (pyNext (.ref it)) Q E s:=by
 obtain⟨o,ho,hc,hd⟩:=id hit
 obtain⟨od,hod,hcd,hdd⟩:=hm
 unfold pyNext
 refine wpAny_bind (wpAny_attempt (wpAny_callSpecial?_slot (name:=Str.ofString "__next__") hit.typeIs PySem.F.slot_dict_keyiterator_next
  (wpAny_call_entry PySem.F.slot_dict_keyiterator_next hit.typeIs PySem.F.entry_dict_keyiterator_next ?_ (PySem.F.args_dict_keyiterator_next_1 _))))
 refine wpAny_bind (wpAny_pure (wpAny_bind (wpAny_bind ?_)))
 first|refine wpAny_bind (wpAny_typeNameOfWhole_keyiter hit.typeIs (wpAny_pure ?_))|refine wpAny_bind (wpAny_typeNameOf_keyiter hit.typeIs (wpAny_pure ?_))
 refine wpAny_bind (wpAny_fieldsOf ho hd ?_)
 simp only[show Builtin.Dict_items.ownsTuple "dict_keyiterator"=false by decide,Bool.false_eq_true,if_false]
 show wpAny _ _ (if (Value.ref d==Value.none)=true then _ else _) _ _ s
 rw[if_neg (show ¬ ((Value.ref d==Value.none)=true) from Bool.false_ne_true)]
 refine wpAny_bind (wpAny_pure (wpAny_bind (wpAny_dictEntries hod hdd ?_)))
 rw[if_neg (by simp)]
 refine wpAny_bind (wpAny_pure (wpAny_bind (wpAny_dictEpoch hod hdd ?_)))
 rw[if_neg (by simp)]
 refine wpAny_pure ?_
 simp only[show ¬ ((i:Int)<0) from by omega,if_false,Int.toNat_natCast,Array.getElem?_eq_none hge]
 refine wpAny_bind ?_
 first|refine wpAny_bind (wpAny_typeNameOfWhole_keyiter hit.typeIs (wpAny_pure ?_))|refine wpAny_bind (wpAny_typeNameOf_keyiter hit.typeIs (wpAny_pure ?_))
 show wpAny _ _ (setField (.ref it) 0 .none>>=_) _ _ s
 refine wpAny_bind (wpAny_setField ho hd (by simp) ?_)
 show wpAny _ _ (newExc (.type "StopIteration") []>>=_) _ _ _
 refine wpAny_bind ?_
 simp only[newExc,newTuple]
 refine wpAny_bind (wpAny_newObj_type ?_ (by size_fits))
 refine wpAny_bind (m:=firstArgMember _ _) (wpAny_of_eq (a:=Value.none) (by first|rfl|(simp only[firstArgMember];rfl)) ?_)
 refine wpAny_newObj_type ?_ (by size_fits)
 simp only[raiseNew]
 refine wpAny_bind (wpAny_handled ?_)
 rw[show A.in1.handled=none from hh]
 refine wpAny_bind (wpAny_pure (wpAny_throw ?_))
 refine wpAny_bind (wpAny_isInstance (T:="StopIteration") (b:=true) ⟨_,Heap.get?_push_size _ rfl,rfl⟩ isSubtype_stop ?_)
 exact wpAny_pure (hQ _ (((Heap.SameBut.update ..).extBut.push _).push _))
end
theorem xn{α β:Type}{R:α→β→Prop}:∀{as:List α}{bs:List β}{i:Nat}{a:α},Paired R as bs→as[i]?=some a→∃b,bs[i]?=some b∧R a b:=by
 intro as bs i a r
 induction r generalizing i with
 | nil=>intro h;simp at h
 | cons x t ih =>
  intro h
  cases i with
  | zero=>simp at h;subst h;exact⟨_,rfl,x⟩
  | succ i=>simpa using ih (i:=i) (by simpa using h)
theorem Jo{P:Program}{w:World}{H:Hp}{h:Heap}{d:Addr}{o:HO}{kvs:List (List Key×V)}(hd:H d=some (.dT kvs))(x:cL P w H h d (.dT kvs)):cL P w (upd H d o) h d (.dT kvs):=by
 obtain⟨z,y,xs,r,q⟩:=x
 refine⟨z,y,xs,?_,q⟩
 refine Paired.imp' (λa b g=>⟨g.1,?_,g.2.2⟩) r
 rw[aB λe=>by rw[e,hd] at g;cases g.2.1]
 exact g.2.1
section
variable{X:Cx}{pins:List (Addr×Obj)}{σ:List (Option V)}{H:Hp}{s:Shared}{d:Addr}{kvs:List (List Key×V)}
theorem Inv.Nu(I:Inv X pins σ H s)(hd:H d=some (.dT kvs)):∃o,s.heap.get? d=some o∧Inv X pins σ (upd H d (.frz o (.dT kvs))) s:=by
 have x:=I.hok d _ hd
 obtain⟨z,y,xs,r,o,es,ep,h1,h2⟩:=id x
 refine⟨o,h1,?_⟩
 have:=I.write (x:=d) (e:=d) (o:=.frz o (.dT kvs)) (h':=s.heap) (t':=s.toks) (by rw[hd];trivial) (.inl rfl) (λb u _ e=>e) ⟨o,h1⟩ ⟨h1,Jo hd x⟩
 exact this
def Itk(d:Addr)(o:Obj)(kvs:List (List Key×V)):It :=
 ⟨λi H=>H d=some (.frz o (.dT kvs))∧∃p,kvs[i]?=some p,
  λi H v H'=>H'=H∧∃b p,v=.ref b∧kvs[i]?=some p∧H b=some (.tup (p.1.map kV)),
  λi H=>H d=some (.frz o (.dT kvs))∧kvs.length≤i⟩
theorem C7{P:Program}{w:World}{h:Heap}{o:Obj}{es:Array DictEntry}{ep:Nat}(ok:HOk P w H h)(hd:H d=some (.frz o (.dT kvs)))(he:o.data=.dict es ep) :
  FU h d es ep∧es.size=kvs.length∧∀i p,kvs[i]?=some p→∃(hi:i<es.size) (b:Addr),es[i].key=.ref b∧H b=some (.tup (p.1.map kV)):=by
 obtain⟨h1,_,_,xs,r,o',es',ep',g1,g2,g3,g4,_⟩:=ok d _ hd
 rw[h1] at g1;cases g1
 rw[he] at g3;cases g3
 have hl:=r.length
 have hz:es.size=xs.length:=by
  have:=congrArg List.length g4
  simpa using this
 refine⟨⟨o,h1,g2,he⟩,by omega,λi p hp=>?_⟩
 have hi:i<kvs.length:=(List.getElem?_eq_some_iff.mp hp).1
 obtain⟨q,hq,rel⟩:∃q,xs[i]?=some q∧p.1=q.1∧H q.2.1=some (.tup (p.1.map kV))∧RelV p.2 q.2.2:=by
  exact xn r hp
 have hi2:i<es.size:=by omega
 refine⟨hi2,q.2.1,?_,rel.2.1⟩
 have e1:es.toList[i]?=some es[i]:=by simp[hi2]
 rw[g4,List.getElem?_map,hq] at e1
 have e2:=Option.some.inj e1
 rw[← e2]
 rfl
end
theorem Ax{P:Program}{w:World}{K:PySem.W.Frag}{tg:Expr}{d it:Addr}{o:Obj}{kvs:List (List Key×V)}{es:Array DictEntry}{ep:Nat}(he:o.data=.dict es ep) :
  Turn P w K tg (Itk d o kvs) [it] it (λi h=>h.IsKeyIter it d i es.size ep) where
 mem:=by simp
 obj:=λi h st b hb=>by
  have e:b=it:=by simpa using hb
  subst e
  obtain⟨o,e,c,d⟩:=st
  exact⟨o,e,λv z=>by rw[d] at z;cases z⟩
 keep:=λi h h' st k=>st.at λo e=>k it (by simp) o e
 item:=by
  intro X hP hw hK hc i pins s σ H E I hf st hg
  subst hP hw hK
  obtain⟨hd,p,hp⟩:=hg
  obtain⟨de,_,ks⟩:=C7 I.hok hd he
  obtain⟨hi,b,hk,hb⟩:=ks i p hp
  obtain⟨f0,f1,f2,f3,f4,f5⟩:=hf it (by simp)
  refine C6 st de hi λh' st' sb=>?_
  have I1:Inv X pins σ H { s with heap:=h' }:=I.turned (t':=s.toks) (λb o hb e=>(sb.2 b hb).trans e) f0 f1 f3 f4 f5
  obtain⟨o',e,c,d'⟩:=id st'
  rw[hk]
  exact⟨.ref b,rfl,yp (s:={ s with heap:=h' }) e c d' (by decide) ⟨.ref b,H,I1,rfl,⟨rfl,b,p,rfl,hp,hb⟩,st',λb hb=>(hf b hb).1⟩⟩
 done:=by
  intro X hP hw hK hc i pins s σ H E I hf st hg
  subst hP hw hK
  obtain⟨hd,hle⟩:=hg
  obtain⟨de,hz,_⟩:=C7 I.hok hd he
  obtain⟨f0,f1,f2,f3,f4,f5⟩:=hf it (by simp)
  exact FV (I.ok.hd hc) st de (by omega) λh' eb=>⟨rfl,I.turned (t':=s.toks) (λb o hb e=>eb b o hb e) f0 f1 f3 f4 f5⟩
 self:=λ_ _ _ _ _ st h=>wpAny_pyIter_keyiter st h
def Jp(tl:TE):TI:=λσ H R=>tl σ H λx H1=>∃d kvs,x=.ref d∧((H1 d=some (.dT kvs)∧∀o,R (Itk d o kvs) (upd H1 d (.frz o (.dT kvs))))∨∃o,H1 d=some (.frz o (.dT kvs))∧R (Itk d o kvs) H1)
theorem FW{X:Cx}{tg l:Expr}{tl:TE}(hl:PE X l tl):PI X tg l (Jp tl):=by
 intro pins s σ H R I h
 refine thn (hl pins s σ H _ I h) λv s1 ak=>?_
 obtain⟨x,H1,I1,r1,q1⟩:=ak
 obtain⟨d,kvs,e,q⟩:=q1
 subst e
 cases r1
 have main:∀(H2:Hp) (o:Obj),Inv X pins σ H2 s1→H2 d=some (.frz o (.dT kvs))→R (Itk d o kvs) H2→wpAny (model X.prog X.w) X.A (pyIter (.ref d)) (PIE X pins σ tg R) X.xe s1:=λH2 o I2 hd q=>by
  obtain⟨_,_,hS,xs,r,o',es,ep,g1,g2,g3,g4,_⟩:=I2.hok d _ hd
  have h1:=(I2.hok d _ hd).1
  rw[h1] at g1;cases g1
  refine C5 hS ⟨o,h1,g2,g3⟩ ?_
  refine⟨s1.heap.objs.size,[s1.heap.objs.size],_,_,H2,rfl,I2.kept (t':=s1.toks) λb o e=>Heap.get?_push_of_some _ e,Ax (d:=d) (kvs:=kvs) g3,⟨_,Heap.get?_push_size _ rfl,rfl,rfl⟩,λb hb=>?_,q⟩
  have e:b=s1.heap.objs.size:=by simpa using hb
  subst e
  exact I2.u0 (Nat.le_refl _) (I2.hok.fresh (Nat.le_refl _))
 rcases q with ⟨hd,q⟩|⟨o,hd,q⟩
 ·obtain⟨o,_,I2⟩:=I1.Nu hd
  exact main _ o I2 ax (q o)
 ·exact main _ o I1 hd q
end L2
namespace Fw
open PySem
def oh(kts:List (List Int×Bool))(k:List Int):Option Bool:=(kts.find? λkv=>decide (kv.1=k)).map (·.2)
def qb(kts:List (List Int×Bool))(k:List Int)(b:Bool):List (List Int×Bool) :=
 if (kts.any λkv=>decide (kv.1=k))=true then kts.map (λkv=>if kv.1=k then (kv.1,b) else kv) else kts++[(k,b)]
def vE:T→Option (List Int)
 | .tup ts=>dD ts
 | _=>none
def bH:T→T→Option T
 | .dtt _ kts,u=>(vE u).bind λk=>(oh kts k).map T.bl
 | _,_=>none
def ka(x:SV)(k:T)(t:T)(μ:af):Option af:=match x with
 | .cel c=>match μ[c]? with
  | some (true,.dtt false kts)=>match t with
   | .bl b=>(vE k).bind λkk=>if kts.length<szL then some (μ.set c (true,.dtt false (qb kts kk b))) else none
   | _=>none
  | _=>none
 | _=>none
def oi(i:Nat)(dk dv:D):DS:=λe μ=>(dv e μ).toS e λy μ1=>(R.lift (slot e i) μ1).toS e λx μ1=>(dk e μ1).toS e λz μ2=>(R.lift (rd μ2 z) μ2).toS e λk μ2 =>
 (frz y μ2).toS e λt μ3=>(R.lift (ka x k t μ3) μ3).toS e λμ4 _=>.nx e μ4
theorem vF(i:Nat)(dk dv:D)(e:Slots)(μ:af):oi i dk dv e μ=(dv e μ).toS e λy μ1=>(R.lift (slot e i) μ1).toS e λx μ1=>(dk e μ1).toS e λz μ2=>(R.lift (rd μ2 z) μ2).toS e λk μ2 =>
 (frz y μ2).toS e λt μ3=>(R.lift (ka x k t μ3) μ3).toS e λμ4 _=>.nx e μ4:=(rfl)
def vG(kts:List (List Int×Bool)):List T:=kts.map λp=>.tup (p.1.map T.int)
def keysAt(x:SV)(μ:af):Option (List (List Int×Bool)×af):=match x with
 | .cel c=>match μ[c]? with
  | some (true,.dtt false kts)=>some (kts,μ.set c (false,.dtt true kts))
  | some (false,.dtt true kts)=>some (kts,μ)
  | _=>none
 | _=>none
def nB(d:D):DI:=λe μ=>(d e μ).bind λx μ1=>(R.lift (keysAt x μ1) μ1).bind λp _=>.ok ⟨vG p.1,λ_=>True⟩ p.2
theorem sQ(d:D)(e:Slots)(μ:af):nB d e μ=(d e μ).bind λx μ1=>(R.lift (keysAt x μ1) μ1).bind λp _=>.ok ⟨vG p.1,λ_=>True⟩ p.2:=(rfl)
end Fw
namespace Fw
open PySem PySem.Spec PyProof.Rows L2
theorem ug:∀(a b:List Int),(a.map (Sum.inl:Int→Key)=b.map Sum.inl)↔a=b:=λa b =>
 ⟨λh=>(List.map_inj_right (λx y z=>by cases z;rfl)).mp h,λh=>by rw[h]⟩
theorem zf:∀(kts:List (List Int×Bool)) (k:List Int),k_ (kvT kts) (k.map Sum.inl)=(oh kts k).map V.bl
 | [],k=>rfl
 | (k0,b)::kts,k=>by
  have ih:=zf kts k
  by_cases e:k0=k
  ·subst e
   rw[show kvT ((k0,b)::kts)=(k0.map Sum.inl,V.bl b)::kvT kts from rfl,jX (p:=(k0.map Sum.inl,V.bl b)) rfl]
   simp[oh,List.find?_cons]
  ·have e2:¬ (k0.map (Sum.inl:Int→Key))=k.map Sum.inl:=λz=>e ((ug _ _).mp z)
   rw[show kvT ((k0,b)::kts)=(k0.map Sum.inl,V.bl b)::kvT kts from rfl,jY (p:=(k0.map Sum.inl,V.bl b)) e2,ih]
   simp[oh,List.find?_cons,e]
theorem FX(kts:List (List Int×Bool))(k:List Int)(b:Bool):putK (kvT kts) (k.map Sum.inl) (V.bl b)=kvT (qb kts k b):=by
 have ha:((kvT kts).any λkv=>decide (kv.1=k.map Sum.inl))=(kts.any λkv=>decide (kv.1=k)):=by
  unfold kvT
  rw[List.any_map]
  congr 1
  funext p
  exact decide_eq_decide.mpr (ug _ _)
 unfold putK qb
 rw[ha]
 by_cases e:(kts.any λkv=>decide (kv.1=k))=true
 ·rw[if_pos e,if_pos e]
  unfold kvT
  rw[List.map_map,List.map_map]
  refine List.map_congr_left λp _=>?_
  by_cases q:p.1=k
  ·subst q;simp
  ·have q2:¬ (p.1.map (Sum.inl:Int→Key))=k.map Sum.inl:=λz=>q ((ug _ _).mp z)
   simp[q,q2]
 ·rw[if_neg e,if_neg e]
  unfold kvT
  rw[List.map_append]
  rfl
theorem zg(kts:List (List Int×Bool)):(kvT kts).length=kts.length:=List.length_map _
theorem zh{K:PySem.W.Frag}{F H:Hp}{v:V}{t:T}{k:List Int}(s:aH F H)(h:Now K F H v t)(e:vE t=some k):∃b,v=.ref b∧H b=some (.tup ((k.map (Sum.inl:Int→Key)).map kV)):=by
 cases t with
 | tup ts =>
  obtain⟨b,vs,rfl,q,r⟩:=h.oB
  refine⟨b,rfl,?_⟩
  have e2:=r.ints e
  subst e2
  rw[List.map_map]
  exact s _ _ q
 | _=>cases e
section
variable{X:Cx}{a b c:Expr}{da db dc:D}{pos p p2:Pos}{k:Nat}
theorem Ay(σ:L2.St)(H:Hp)(Q:VK)(h:tD X (ah bH da db) σ H Q):BE (tD X da) (tD X db) σ H Q:=by
 obtain⟨F,α,e,μ,S,h⟩:=h
 refine⟨F,α,e,μ,S,?_⟩
 refine (R.wp_bind h).mono (λx μ1 h v H1 F1 α1 x1 S1 o1=>⟨F1,α1,e,μ1,S1,?_⟩) λ_ _ h=>h
 refine (R.wp_bind h).mono (λy μ2 h v2 H2 F2 α2 x2 S2 o2=>?_) λ_ _ h=>h.mono x1
 obtain⟨w,h9,post⟩:=R.br h
 obtain⟨t,u,w',ht,hu,h,rfl⟩:=pw h9
 have n1:=a_ S2.st (o1.mono x2.same x2.pre) ht
 have n2:=a_ S2.st o2 hu
 cases t with
 | dtt fz kts =>
  obtain⟨kk,hk,h⟩:=Option.bind_eq_some_iff.mp (show (vE u).bind (λk=>(oh kts k).map T.bl)=some w' from h)
  obtain⟨ad,rfl,hq⟩:=n1
  obtain⟨bd,rfl,hb⟩:=zh S2.st.ext n2 hk
  obtain⟨bv,h1,rfl⟩:=Option.map_eq_some_iff.mp h
  have hg:wK H2 ad (.ref bd) (k_ (kvT kts) (kk.map Sum.inl)):=.inr ⟨_,_,bd,hq,rfl,hb,rfl⟩
  rw[zf,h1] at hg
  exact⟨ad,.bl bv,rfl,hg,post _ H2 F2 α2 (x1.trans x2) S2 (Rep.bl' (K:=X.K) (F:=F2) bv)⟩
 | _=>cases u<;>cases h
theorem fw(hr:dg k X.A)(ha:CE X a da)(hb:CE X b db)(hs:EJ b:=by intro _ _;rfl):CE X (.Subscript a b pos) (ah bH da db):=PE.imp (yC (mE hr) ha hb hs) Ay
theorem xo:CF X (.Dict [] [] pos) (dC (.dtt false [])):=by
 refine⟨PE.imp BI λσ H Q ⟨F,α,e,μ,S,h⟩=>?_,λe μ x μ' h=>?_⟩
 ·obtain⟨t,et,post⟩:=h
  cases et
  intro d hd
  exact post d _ F α (Ex.lay hd) (S.of (aH.refl _) (List.prefix_refl _) (S.st.lay hd)) hd (S.st.ext.free hd) (b8 S.st hd) ⟨rfl,ax⟩
 ·cases h;exact⟨_,rfl⟩
theorem uh(hr:dg k X.A)(i:Nat){y:Str}{py fL:Pos}{ik ev:Expr}{dk dv:D}(hk:CE X ik dk)(hv:CE X ev dv)(hN:X.N[i]?=some y:=by rfl)
  (hvs:Vis X.env.scope y:=by first|exact Or.inl rfl|exact Or.inr (Or.inl rfl)|exact Or.inr (Or.inr rfl)) (hd:(y==("__debug__":Str))=false:=by decide) (hcd:(y==("__classdict__":Str))=false:=by decide)
  (hs:swapsWith ev (some (.Subscript (.Name y py) ik fL)) pos.line X.env=pure false:=by rfl) :
  CS X (.Assign [.Subscript (.Name y py) ik fL] ev pos) (oi i dk dv) :=
 PS.imp (yD (mE hr) (tI hN hvs hd hcd) hk hv hs) λD σ H ak=>by
  obtain⟨F,α,e,μ,S,h⟩:=ak
  refine⟨F,α,e,μ,S,(aQ.toS h).mono (λy μ1 h v H1 F1 α1 x1 S1 o1=>?_) λ_ _ h=>h⟩
  obtain⟨x,hx,h⟩:=aQ.lift h
  obtain⟨ov,hov,oo⟩:=S1.sl i x hx
  refine⟨ov,hov,F1,α1,e,μ1,S1,(aQ.toS h).mono (λz μ2 h v2 H2 F2 α2 x2 S2 o2=>?_) λ_ _ h=>h.mono x1⟩
  obtain⟨k,hk,h⟩:=aQ.lift h
  have h:=h.toS
  have nk:=a_ S2.st o2 hk
  cases hz:frz y μ2 with
  | err c μ3=>exact absurd hz (pj y μ2 c μ3)
  | bad=>rw[hz] at h;exact h.elim
  | ok t μ3 =>
   rw[hz] at h
   obtain⟨μ4,ha4,h⟩:=aQ.lift h
   obtain⟨F3,s3,n3,S3,r3⟩:=lr S2.st (o1.mono x2.same x2.pre) hz
   cases x with
   | cel j =>
    obtain⟨ad,had,rfl⟩:=oo
    unfold ka at ha4
    simp only at ha4
    have hc:∃kts kk bb,μ3[j]?=some (true,.dtt false kts)∧t=.bl bb∧vE k=some kk∧kts.length<szL∧μ4=μ3.set j (true,.dtt false (qb kts kk bb)):=by
     split at ha4
     ·rename_i us hjs
      split at ha4
      ·rename_i bb
       obtain⟨kk,e1,e2⟩:=Option.bind_eq_some_iff.mp ha4
       by_cases hl:us.length<szL
       ·rw[if_pos hl] at e2
        cases e2
        exact⟨us,kk,bb,hjs,rfl,e1,hl,rfl⟩
       ·rw[if_neg hl] at e2;cases e2
      ·cases ha4
     ·cases ha4
    obtain⟨kts,kk,bb,hj3,rfl,hkk,hl,rfl⟩:=hc
    have ha3:α2[j]?=some ad:=ji x2.pre had
    have hw:H2 ad=some (.dT (kvT kts)):=((S3.cell j true _ ad hj3 ha3).1 rfl).2.2
    obtain⟨bd,rfl,hb⟩:=zh S2.st.ext nk hkk
    have ev:v=.bl bb:=Rep.iQ (K:=X.K) (F:=F3) r3
    subst ev
    have hp:=u7.t (v:=V.bl bb) hw hb (by rw[zg];rw[p5] at hl;omega)
    rw[FX] at hp
    refine⟨ad,_,rfl,hp,?_⟩
    have x3:Ex F α H F3 α2 H2:=x1.trans (x2.trans (Ex.nZ s3 n3))
    exact h σ _ F3 α2 (x3.trans (Ex.put ha3)) ((S2.of s3 (List.prefix_refl _) S3).of (aH.refl _) (List.prefix_refl _) (pK S3 hj3 ha3 ⟨rfl,ax⟩))
   | val t=>unfold ka at ha4;cases ha4
   | box xs=>unfold ka at ha4;cases ha4
theorem C8{K:PySem.W.Frag}{F:Hp}{α:List Addr}{d:Addr}{o:Obj}{kts:List (List Int×Bool)}(hF:F d=some (.frz o (.dT (kvT kts)))):IS K F α (Itk d o (kvT kts)) ⟨vG kts,λ_=>True⟩:=by
 intro F2 α2 μ2 H2 s2 p2 S2 _
 have hd:=S2.ext _ _ (s2 _ _ hF)
 have gt:∀i p,(kvT kts)[i]?=some p→∃q:List Int×Bool,kts[i]?=some q∧p=(q.1.map Sum.inl,V.bl q.2):=λi p h=>by
  unfold kvT at h
  rw[List.getElem?_map] at h
  obtain⟨q,h1,h2⟩:=Option.map_eq_some_iff.mp h
  exact⟨q,h1,h2.symm⟩
 refine⟨λi t ht=>?_,hd,?_⟩
 ·have ht:(kts.map λp=>T.tup (p.1.map T.int))[i]?=some t:=ht
  rw[List.getElem?_map] at ht
  obtain⟨q,hq,rfl⟩:=Option.map_eq_some_iff.mp ht
  refine⟨⟨hd,(q.1.map Sum.inl,V.bl q.2),by unfold kvT;rw[List.getElem?_map,hq];rfl⟩,λx H3 y=>?_⟩
  obtain⟨rfl,b,p,rfl,hp,hb⟩:=y
  obtain⟨q',hq',rfl⟩:=gt i p hp
  rw[hq] at hq';cases hq'
  refine⟨F2,bG.refl,?_⟩
  rw[Rep]
  refine⟨b,q.1.map V.int,rfl,?_,ay.mr _⟩
  have hb:H3 b=some (.tup ((q.1.map (Sum.inl:Int→Key)).map kV)):=hb
  rw[List.map_map] at hb
  exact S2.tps _ _ hb
 ·show (kvT kts).length≤(kts.map λp=>T.tup (p.1.map T.int)).length
  rw[zg,List.length_map]
  exact Nat.le_refl _
theorem mF{tg:Expr}(ha:CE X a da):CI X tg a (nB da):=PI.imp (FW ha) λσ H G ak=>by
 obtain⟨F,α,e,μ,S,h⟩:=ak
 refine⟨F,α,e,μ,S,(R.wp_bind h).mono (λx μ1 h v H1 F1 α1 x1 S1 o1=>?_) λ_ _ h=>h⟩
 obtain⟨⟨kts,μ2⟩,hk,post⟩:=R.br (R.wp_bind h)
 cases x with
 | cel c =>
  obtain⟨d,hd,rfl⟩:=o1
  unfold keysAt at hk
  simp only at hk
  split at hk
  ·rename_i us hj
   cases hk
   obtain⟨f0,_,hw⟩:=(S1.st.cell c true _ d hj hd).1 rfl
   refine⟨d,kvT kts,rfl,.inl ⟨hw,λo=>?_⟩⟩
   have s2:aH F1 (upd F1 d (.frz o (.dT (kvT kts)))):=λb z hz=>by
    rw[aB (λq=>by subst q;rw[f0] at hz;cases hz)];exact hz
   have hc:c<μ1.length:=(List.getElem?_eq_some_iff.mp hj).1
   have ex:Ex F1 α1 H1 (upd F1 d (.frz o (.dT (kvT kts)))) α1 (upd H1 d (.frz o (.dT (kvT kts)))):=⟨s2,List.prefix_refl _,λb z h1 h2 h3=>by
    have nb:b≠d:=λq=>h3 (by rw[q];exact List.mem_of_getElem? hd)
    exact⟨by rw[aB nb];exact h1,by rw[aB nb];exact h2,h3⟩⟩
   have st:cM X.K (upd F1 d (.frz o (.dT (kvT kts)))) α1 (μ1.set c (false,.dtt true kts)) (upd H1 d (.frz o (.dT (kvT kts)))):=by
    refine⟨λb z hz=>?_,by rw[List.length_set];exact S1.st.len,S1.st.nd,λk b hb=>?_,λk b u a' h1 h2=>?_,λb xs q=>?_⟩
    ·by_cases eb:b=d
     ·subst eb;rw[ax] at hz ⊢;exact hz
     ·rw[aB eb] at hz ⊢;exact S1.st.ext _ _ hz
    ·by_cases eb:b=d
     ·subst eb;exact⟨_,ax⟩
     ·rw[aB eb];exact S1.st.there k b hb
    ·by_cases ek:k=c
     ·subst ek
      rw[List.getElem?_set_self hc] at h1
      cases h1
      rw[hd] at h2;cases h2
      refine⟨λz=>(by cases z),λ_=>?_⟩
      rw[Rep]
      exact⟨_,rfl,.inr ⟨rfl,o,ax⟩⟩
     ·rw[List.getElem?_set_ne (Ne.symm ek)] at h1
      have na:a'≠d:=λq=>by subst q;exact ek (mv S1.st.nd h2 hd)
      obtain⟨c1,c2⟩:=S1.st.cell k b u a' h1 h2
      refine⟨λhb=>⟨by rw[aB na];exact (c1 hb).1,?_⟩,λhb=>Rep.mono s2 _ _ (c2 hb)⟩
      have d2:=(c1 hb).2
      cases u with
      | lst ts=>obtain⟨vs,w1,w2⟩:=d2;exact⟨vs,by rw[aB na];exact w1,ay.mono s2 _ _ w2⟩
      | dct ts=>obtain⟨vs,w1,w2⟩:=d2;exact⟨vs,by rw[aB na];exact w1,bj.mono s2 _ _ w2⟩
      | dtt fz ts=>exact⟨d2.1,(aB na).trans d2.2⟩
      | _=>exact d2.elim
    ·by_cases eb:b=d
     ·subst eb;rw[ax] at q;cases q
     ·rw[aB eb] at q ⊢;exact S1.st.tps _ _ q
   exact post _ _ _ α1 (x1.trans ex) (S1.of s2 (List.prefix_refl _) st) (C8 ax)
  ·rename_i us hj
   cases hk
   have rp:=(S1.st.cell c false _ d hj hd).2 rfl
   rw[Rep] at rp
   obtain⟨d',e',q⟩:=rp
   cases e'
   rcases q with ⟨z,_⟩|⟨_,o,q⟩
   ·cases z
   ·exact⟨d,kvT kts,rfl,.inr ⟨o,S1.st.ext _ _ q,post _ _ F1 α1 x1 S1 (C8 q)⟩⟩
  ·cases hk
 | val t=>cases hk
 | box xs=>cases hk
end
end Fw
namespace HT
open PySem PyProof.Rows
section
open PySem.SeqAt
open PySem.AutoSeq1 (wpAny_loadPart')
open PySem.MeetsSeq PySem.MeetsSeq2 PySem.MeetsSeq3
theorem iD{items:Array Value}{ns:List Int}{i:Nat}(h:IntsAre (items.toList.drop i) ns)(hi:items.size≤i):ns=[]:=by
 rw[List.drop_eq_nil_of_le (by simpa using hi)] at h
 cases h;rfl
theorem gT{items:Array Value}{ns:List Int}{i:Nat}(h:IntsAre (items.toList.drop i) ns)(hi:i<items.size) :
  ∃a t ns',ns=a::ns'∧items[i]?=some (.int a t)∧IntsAre (items.toList.drop (i+1)) ns':=by
 rw[List.drop_eq_getElem_cons (by simpa using hi)] at h
 generalize hv:items.toList[i]'(by simpa using hi)=v at h
 cases h with
 | cons a t h =>
  refine⟨a,t,_,rfl,?_,h⟩
  rw[Array.getElem?_eq_getElem hi,← hv]
  simp
theorem FY(l b:Addr)(items cJ:Array Value)(n n2:Nat)(dd dd2:Option Addr)(sl sl2:Array (Option Value))(k:Nat) :
  ∀(i:Nat) (ns ms:List Int),items.size-i=k→i≤items.size→i≤cJ.size→IntsAre (items.toList.drop i) ns→IntsAre (cJ.toList.drop i) ms→Meets (Builtin.«list.__eq__.loop» ⟨[.ref l,.ref b,rawInt i,rawInt 0],[]⟩)
   (λA R s=>s.heap.get? l=some { cls:=.type "list",dict:=dd,data:=.seq items n,slots:=sl }∧s.heap.get? b=some { cls:=.type "list",dict:=dd2,data:=.seq cJ n2,slots:=sl2 } ∧
    R (.ok (.ret (.bool (lexLt ns ms)))) s):=by
 induction k with
 | zero =>
  intro i ns ms hk hle Nv hi hj prog w A R s h
  obtain⟨hp,g,d,tk,os⟩:=s;obtain⟨hl,hb,h⟩:=h
  wp_walk using wpAny_loadPart' hl,wpAny_loadPart' hb
  have hi1:items[((i:Nat):Int).toNat]?=none:=by simp;omega
  have e:=iD hi (by omega)
  subst e
  by_cases h2:i<cJ.size
  ·obtain⟨c,u,ms',rfl,q,_⟩:=gT hj h2
   have hi2:cJ[((i:Nat):Int).toNat]?=some (.int c u):=by simpa using q
   rw[hi1,hi2]
   wp_walk using wpAny_loadPart' hl,wpAny_loadPart' hb
   show R (.ok (.ret (.bool (decide (items.size<cJ.size))))) _
   rw[decide_eq_true (by omega)]
   exact h
  ·have hi2:cJ[((i:Nat):Int).toNat]?=none:=by simp;omega
   have e:=iD hj (by omega)
   subst e
   rw[hi1,hi2]
   wp_walk using wpAny_loadPart' hl,wpAny_loadPart' hb
   show R (.ok (.ret (.bool (decide (items.size<cJ.size))))) _
   rw[decide_eq_false (by omega)]
   exact h
 | succ k ih =>
  intro i ns ms hk hle Nv hi hj prog w A R s h
  obtain⟨hp,g,d,tk,os⟩:=s;obtain⟨hl,hb,h⟩:=h
  wp_walk using wpAny_loadPart' hl,wpAny_loadPart' hb
  obtain⟨a,t,ns',rfl,q1,r1⟩:=gT hi (by omega)
  have hi1:items[((i:Nat):Int).toNat]?=some (.int a t):=by simpa using q1
  by_cases h2:i<cJ.size
  ·obtain⟨c,u,ms',rfl,q2,r2⟩:=gT hj h2
   have hi2:cJ[((i:Nat):Int).toNat]?=some (.int c u):=by simpa using q2
   have hc:((i:Int)+1)=((i+1:Nat):Int):=by push_cast;rfl
   rw[wD] at h
   rw[hi1,hi2]
   obtain⟨e,he,LC⟩:=Br A.in1 ⟨hp,g,d,tk,os⟩ a t c u
   refine wpAny_bind (he prog w _ _ ?_)
   cases e with
   | true =>
    rw[if_pos (LC.mp rfl)] at h
    wp_walk
    rw[hc]
    exact⟨plainId_quiet plain_eq_loop _,codeAny_builtin entry_eq_loop (by
     rw[Around.under_plainId plain_eq_loop _]
     exact ih (i+1) ns' ms' (by omega) (by omega) (by omega) r1 r2 prog w A R _ ⟨hl,hb,h⟩)⟩
   | false =>
    rw[if_neg (λq=>absurd (LC.mpr q) Bool.false_ne_true)] at h
    wp_walk using wpAny_loadPart' hl,wpAny_loadPart' hb
    rw[hi1,hi2]
    have hri:=Bs A.in1 ⟨hp,g,d,tk,os⟩ a t c u prog w
    wp_walk using hri
    simpa using h
  ·have hi2:cJ[((i:Nat):Int).toNat]?=none:=by simp;omega
   have e:=iD hj (by omega)
   subst e
   rw[hi1,hi2]
   wp_walk using wpAny_loadPart' hl,wpAny_loadPart' hb
   show R (.ok (.ret (.bool (decide (items.size<cJ.size))))) _
   rw[decide_eq_false (by omega)]
   exact h
theorem ui(l b:Addr)(items cJ:Array Value)(n n2:Nat)(dd dd2:Option Addr)(sl sl2:Array (Option Value))(ns ms:List Int)(hi:IntsAre items.toList ns)(hj:IntsAre cJ.toList ms) :
  Meets (Builtin.«list.__lt__» ⟨[.ref l,.ref b],[]⟩)
   (λA R s=>s.heap.get? l=some { cls:=.type "list",dict:=dd,data:=.seq items n,slots:=sl }∧s.heap.get? b=some { cls:=.type "list",dict:=dd2,data:=.seq cJ n2,slots:=sl2 } ∧
    R (.ok (.ret (.bool (lexLt ns ms)))) s):=by
 intro prog w A R s h
 obtain⟨hp,g,d,tk,os⟩:=s;obtain⟨hl,hb,h⟩:=h
 have f3:=AutoSeq1.sub_list_list
 wp_walk using wpAny_loadPart' hl,wpAny_loadPart' hb
 exact⟨plainId_quiet plain_eq_loop _,codeAny_builtin entry_eq_loop (by
  rw[Around.under_plainId plain_eq_loop _]
  exact FY l b items cJ n n2 dd dd2 sl sl2 _ 0 ns ms rfl (Nat.zero_le _) (Nat.zero_le _) (by simpa using hi) (by simpa using hj) prog w A R _ ⟨hl,hb,h⟩)⟩
end
section
variable{prog:Program}{w:World}{A:Around}{E:Value→Shared→Prop}{s:Shared}
theorem xp{l b:Addr}{items cJ:Array Value}{ns ms:List Int}{Q:Bool→Shared→Prop}(hl:s.heap.IsList l items)(hb:s.heap.IsList b cJ)(hi:IntsAre items.toList ns)(hj:IntsAre cJ.toList ms)
  (hu:A.units<cLine) (h:Q (lexLt ns ms) s):wpAny (model prog w) A (oneLt' true (.ref l) (.ref b)) Q E s:=by
 obtain⟨⟨cls,dd,data,sl⟩,ho,hc,n,hd⟩:=id hl
 obtain⟨⟨Ib,dd2,data2,sl2⟩,ho2,hc2,n2,hd2⟩:=id hb
 simp only at hc hd hc2 hd2
 subst hc hd hc2 hd2
 rw[oneLt'_eq]
 simp only[if_true]
 refine wpAny_bind (wpAny_cRoomFor hu ?_)
 refine wpAny_bind (wpAny_callSpecialIfBound?_slot ⟨_,ho,rfl⟩ PySem.F.slot_list_lt (call_meets PySem.F.slot_list_lt ⟨_,ho,rfl⟩ PySem.F.entry_list_lt (PySem.F.args_list_lt_2 _ _) (ui l b items cJ n n2 dd dd2 sl sl2 ns ms hi hj) ⟨ho,ho2,?_⟩))
 exact wpAny_truthy_bool h
end
end HT
namespace HT
open PySem PySem.W PySem.Calls PyProof.Rows
def sR{α:Type}(lt:Nat→Nat→Bool):KasT α→α
 | .ret a=>a
 | .ask i j k=>sR lt (k (lt i j))
def Al{α:Type}(n:Nat)(R:α→Prop):KasT α→Prop
 | .ret a=>R a
 | .ask i j k=>i<n∧j<n∧∀b,Al n R (k b)
theorem Al.bind{α β:Type}{n:Nat}{R:α→Prop}{R':β→Prop}{f:α→KasT β}:∀{t:KasT α},Al n R t→(∀a,R a→Al n R' (f a))→Al n R' (t.bind f)
 | .ret a,h,hf=>hf a h
 | .ask i j k,h,hf=>⟨h.1,h.2.1,λb=>Al.bind (h.2.2 b) hf⟩
theorem Al.ev{α:Type}{n:Nat}{R:α→Prop}(lt:Nat→Nat→Bool):∀{t:KasT α},Al n R t→R (sR lt t)
 | .ret _,h=>h
 | .ask i j k,h=>by
  have:=Al.ev lt (t:=k (lt i j)) (h.2.2 (lt i j))
  exact this
theorem Al.wp{α:Type}{n:Nat}{R:α→Prop}{cmp:Nat→Nat→(Bool→Shared→Prop)→Shared→Prop}{lt:Nat→Nat→Bool}{Q:α→Shared→Prop}{s:Shared}(hc:∀i j C,i<n→j<n→C (lt i j) s→cmp i j C s):∀{t:KasT α},Al n R t→Q (sR lt t) s→t.kasWp cmp Q s
 | .ret _,_,q=>q
 | .ask i j k,h,q=>hc i j _ h.1 h.2.1 (Al.wp (t:=k (lt i j)) hc (h.2.2 (lt i j)) q)
section
variable{n:Nat}{p:Array Nat}
noncomputable abbrev Pm (n : Nat) (p : Array Nat) : Prop := p.Perm (List.toArray (List.range n))
theorem Pm.gd(hn:0<n)(hp:Pm n p)(i:Nat):p.getD i 0<n:=by
 unfold Array.getD
 by_cases h:i<p.size
 ·rw[dif_pos h]
  have:p[i]∈(List.toArray (List.range n)):=hp.mem_iff.mp (Array.getElem_mem h)
  simpa using this
 ·rw[dif_neg h];exact hn
theorem Pm.rev(hp:Pm n p)(i j:Nat):Pm n (kas_rev p i j):=(mirror_perm _ _ _ _).trans hp
theorem xq(hn:0<n)(hp:Pm n p):∀f m,Al n (λ_=>True) (kas_asc p f m)
 | 0,_=>trivial
 | f+1,m=>⟨hp.gd hn _,hp.gd hn _,λb=>by
  cases b with
  | true=>exact trivial
  | false=>exact xq hn hp f (m+1)⟩
theorem o7(hn:0<n):∀f (p:Array Nat) m q,Pm n p→Al n (λr:Array Nat×Nat×Nat=>Pm n r.1) (kas_desc f p m q)
 | 0,_,_,_,hp=>hp
 | f+1,p,m,q,hp=>⟨hp.gd hn _,hp.gd hn _,λb=>by
  cases b with
  | true =>
   show Al n _ (if q > 0 then _ else _)
   by_cases h:q > 0
   ·rw[if_pos h];exact o7 hn f _ _ _ (hp.rev _ _)
   ·rw[if_neg h];exact o7 hn f _ _ _ hp
  | false=>exact⟨hp.gd hn _,hp.gd hn _,λd=>by
    cases d with
    | true=>exact hp
    | false=>exact o7 hn f _ _ _ hp⟩⟩
theorem zi(hn:0<n)(m r:Nat)(hp:Pm n p):Al n (λr:Nat×Array Nat=>Pm n r.2) (kas_tail3 m r p) :=
 Al.bind (xq hn (hp.rev _ _) _ _) λ_ _=>hp.rev _ _
theorem zj(hn:0<n)(m r:Nat)(hp:Pm n p):Al n (λr:Nat×Array Nat=>Pm n r.2) (kas_descPart m r p) :=
 Al.bind (o7 hn _ _ _ _ hp) λa ha=>by
  by_cases h:a.2.2 > 0
  ·rw[if_pos h];exact zi hn _ _ (ha.rev _ _)
  ·rw[if_neg h];exact zi hn _ _ ha
theorem C9(hn:0<n)(r:Nat)(hp:Pm n p):Al n (λr:Nat×Array Nat=>Pm n r.2) (kas_count r p) :=
 Al.bind (xq hn hp _ _) λm _=>by
  by_cases h:(m==r)=true
  ·rw[if_pos h];exact hp
  ·rw[if_neg h]
   by_cases h1:m > 1
   ·rw[if_pos h1]
    exact⟨hp.gd hn _,hp.gd hn _,λb=>by
     cases b with
     | true=>exact hp
     | false=>exact zj hn _ _ (hp.rev _ _)⟩
   ·rw[if_neg h1];exact zj hn _ _ hp
theorem qc(hn:0<n)(hp:Pm n p)(k:Nat):∀f l r,Al n (λ_=>True) (kas_place p k f l r)
 | 0,_,_=>trivial
 | f+1,l,r=>by
  unfold kas_place
  by_cases h:l ≥ r
  ·rw[if_pos h];exact trivial
  ·rw[if_neg h]
   exact⟨hp.gd hn _,hp.gd hn _,λb=>by
    cases b with
    | true=>exact qc hn hp k f _ _
    | false=>exact qc hn hp k f _ _⟩
theorem C_(hn:0<n):∀f (p:Array Nat) k,Pm n p→Al n (λq=>Pm n q) (kas_bin f p k)
 | 0,_,_,hp=>hp
 | f+1,p,k,hp=>Al.bind (qc hn hp k _ _ _) λl _=>C_ hn f _ _ ((bubble_perm _ _ _).trans hp)
theorem zk(hn:0<n):Al n (λq=>Pm n q) (kas_sort n) :=
 Al.bind (C9 hn n (Array.Perm.refl _)) λr hr=>by
  by_cases h:r.1<n
  ·rw[if_pos h];exact C_ hn _ _ _ hr
  ·rw[if_neg h];exact hr
end
def rF(n:Nat)(lt:Nat→Nat→Bool):List Nat:=if n<2 then List.range n else (sR lt (kas_sort n)).toList
theorem fN(n:Nat)(lt:Nat→Nat→Bool):(rF n lt).Perm (List.range n):=by
 unfold rF
 by_cases h:n<2
 ·rw[if_pos h]
 ·rw[if_neg h]
  have:=(zk (n:=n) (by omega)).ev lt
  exact Array.perm_iff_toList_perm.mp this
section
variable{prog:Program}{w:World}{A:Around}{E:Value→Shared→Prop}{s:Shared}
def nC(vs:List Value)(lt:Nat→Nat→Bool):List Value:=(rF vs.length lt).map λi=>vs.getD i .none
theorem Dc{vs:List Value}{lt:Nat→Nat→Bool}(h:vs.length<2):nC vs lt=vs:=by
 unfold nC rF
 rw[if_pos h]
 match vs,h with
 | [],_=>rfl
 | [v],_=>rfl
theorem oE{a:Addr}{vs:List Value}{n:Nat}{P:PySem.Fin→Shared→Prop}(lt:Nat→Nat→Bool)(ho:s.heap.get? a=some (seqObj "list" vs.toArray n))(h64:vs.length<64)
  (hT:∀h':Heap,(∀b o,b≠a→s.heap.get? b=some o→h'.get? b=some o)→∀v∈vs,Looks (model prog w) h' (typeOf v) (.type "list"))
  (hc:∀h':Heap,(∀b o,b≠a→s.heap.get? b=some o→h'.get? b=some o)→∀i j C,i<vs.length→j<vs.length→C (lt i j) { s with heap:=h' }→wpAny (model prog w) A (keyLt' oneType' (vs.getD i .none) (vs.getD j .none)) C (λ_ _=>False) { s with heap:=h' })
  (h:P (.done (.ret .none)) { s with heap:=sortedHeap s.heap a vs (nC vs lt).toArray }) :
  wpAny (model prog w) A (Builtin.«list.sort» ⟨[.ref a],[]⟩) P E s:=by
 rw[list_sort_plain]
 have ha:a<s.heap.objs.size:=Heap.lt_size ho
 refine wpAny_bind (listItems_at ho rfl ?_)
 refine wpAny_bind (listUpdate_at ho rfl ?_)
 obtain⟨e1,ho1⟩:∃e1,(s.heap.update a (Obj.mapSeq λ_=>#[])).get? a=some (seqObj "list" #[] e1):=⟨_,get?_update_seq ho (λ_=>#[])⟩
 refine wpAny_bind (seqEpoch_at ho1 rfl ?_)
 refine wpAny_bind (wpAny_newTuple ?_)
 refine wpAny_bind (wpAny_newList ?_)
 refine wpAny_holding ?_
 have ho6:(((s.heap.update a (Obj.mapSeq λ_=>#[])).push (seqObj "tuple" vs.toArray 0)).push (seqObj "list" #[] 0)).get? a=some (seqObj "list" #[] e1):=by
  rw[Heap.get?_push_ne _ _ _ (by rw[size_push',Heap.size_update];exact Nat.ne_of_lt (Nat.lt_succ_of_lt ha)),Heap.get?_push_ne _ _ _ (by rw[Heap.size_update];exact Nat.ne_of_lt ha)]
  exact ho1
 have kp:∀b o,b≠a→s.heap.get? b=some o→(((s.heap.update a (Obj.mapSeq λ_=>#[])).push (seqObj "tuple" vs.toArray 0)).push (seqObj "list" #[] 0)).get? b=some o:=λb o hb e=>by
  refine Heap.get?_push_of_some _ (Heap.get?_push_of_some _ ?_)
  rw[Heap.get?_update_ne _ _ _ _ hb]
  exact e
 show wpAny (model prog w) A _ P E { s with heap:=((s.heap.update a (Obj.mapSeq λ_=>#[])).push (seqObj "tuple" vs.toArray 0)).push (seqObj "list" #[] 0) }
 dsimp only
 have hsz:vs.toArray.size=vs.length:=by simp
 by_cases h2:vs.toArray.size<2
 ·rw[if_pos h2,if_pos h2]
  refine wpAny_bind (wpAny_pure ?_)
  rw[StateT.run_pure]
  refine wpAny_bind (wpAny_pure ?_)
  dsimp only
  refine wpAny_bind (seqEpoch_at ho6 rfl ?_)
  refine wpAny_bind (listUpdate_at ho6 rfl ?_ (hsz2:=by rw[Array.size_map];show (pairsOf vs).size≤_;rw[pairsOf_size,sizeLine_eq];omega))
  simp only[bne_self_eq_false,Bool.false_eq_true,if_false]
  refine wpAny_pure ?_
  rw[Dc (by rw[← hsz];exact h2)] at h
  have e:(arrOf (SortSt.mk' general' (vs.toArray.zip vs.toArray) #[] 7 none)).map (·.2)=vs.toArray:=by
   show (vs.toArray.zip vs.toArray).map (·.2)=vs.toArray
   apply Array.toList_inj.mp
   simp[List.map_snd_zip]
  rw[e]
  exact h
 ·rw[if_neg h2,if_neg h2]
  have h2':2≤vs.length:=by omega
  refine wpAny_bind (kas_kind (T:=.type "list") h2' (hT _ kp) (by decide) (by decide) ?_)
  have hal:=zk (n:=vs.length) (by omega)
  have ask:(kas_sort vs.length).kasWp (kas_ask prog w A oneType' vs) (λp s'=>p=sR lt (kas_sort vs.length)∧s'={ s with heap:=((s.heap.update a (Obj.mapSeq λ_=>#[])).push (seqObj "tuple" vs.toArray 0)).push (seqObj "list" #[] 0) }) { s with heap:=((s.heap.update a (Obj.mapSeq λ_=>#[])).push (seqObj "tuple" vs.toArray 0)).push (seqObj "list" #[] 0) } :=
   Al.wp (lt:=lt) (λi j C hi hj q=>hc _ kp i j C hi hj q) hal ⟨rfl,rfl⟩
  rw[kas_ask_eq] at ask
  have est:SortSt.mk' oneType' (vs.toArray.zip vs.toArray) #[] 7 none=kas_st oneType' (pairsOf vs) (List.toArray (List.range vs.length)):=by
   have e:=kas_range (pairsOf vs)
   rw[pairsOf_size] at e
   show SortSt.mk' oneType' (pairsOf vs) #[] 7 none=SortSt.mk' oneType' ((List.toArray (List.range vs.length)).map (kas_item (pairsOf vs))) #[] 7 none
   rw[e]
  have run:=kas_runs (E:=E) (Q:=λ_ st' s'=>∃p:Array Nat,p.size=vs.length∧arrOf st'=p.map (kas_item (pairsOf vs))∧failedOf st'=none∧p=sR lt (kas_sort vs.length)∧s'={ s with heap:=((s.heap.update a (Obj.mapSeq λ_=>#[])).push (seqObj "tuple" vs.toArray 0)).push (seqObj "list" #[] 0) })
   h2' h64 (λp' st' s' a1 a2 a3 a4=>⟨p',a1,a2,a3,a4⟩) ask
  rw[← est] at run
  refine wpAny_bind (wpAny_mono run ?_ λ_ _ e=>e)
  rintro⟨⟨⟩,st'⟩ s' ⟨p,hp,har,hf,hpe,rfl⟩
  dsimp only
  have Jj:(arrOf st').map (·.2)=(nC vs lt).toArray:=by
   apply Array.toList_inj.mp
   rw[har,Array.map_map,Array.toList_map]
   unfold nC rF
   rw[if_neg (by omega),hpe]
   exact List.map_congr_left λi _=>by show (kas_item (pairsOf vs) i).2=_;rw[kas_item_eq]
  have hsz2:(nC vs lt).length=vs.length:=by unfold nC;rw[List.length_map,(fN _ _).length_eq,List.length_range]
  refine wpAny_bind (seqEpoch_at ho6 rfl ?_)
  rw[Jj]
  refine wpAny_bind (listUpdate_at ho6 rfl ?_ (hsz2:=by rw[List.size_toArray,hsz2,sizeLine_eq];omega))
  rw[hf]
  simp only[bne_self_eq_false,Bool.false_eq_true,if_false]
  exact wpAny_pure h
end
end HT
namespace Fw
open PySem
def oj:List T→Option (List (List Int))
 | []=>some []
 | .lst us::ts=>(dD us).bind λns=>(oj ts).map (ns::·)
 | _::_=>none
def ltN(nss:List (List Int))(i j:Nat):Bool:=HT.lexLt (nss.getD i []) (nss.getD j [])
def nD{α:Type}(xs:List α)(d:α)(nss:List (List Int)):List α:=(HT.rF xs.length (ltN nss)).map λi=>xs.getD i d
def eJ:T→Option T
 | .lst ts=>(oj ts).bind λnss=>if ts.length<64 then some (.lst (nD ts .non nss)) else none
 | _=>none
def qd:T→Option T
 | .tup ts=>(dD ts).bind λns=>if ns.length<64 then some (.lst ((jP ns).map T.int)) else none
 | _=>none
end Fw
namespace HT
open PySem PySem.W PySem.Calls PyProof.Rows
section
variable{prog:Program}{w:World}{A:Around}{E:Value→Shared→Prop}{s:Shared}
theorem uj{l:Addr}{vs:List Value}{Q:Value→Shared→Prop}(lt:Nat→Nat→Bool)(hl:s.heap.IsList l vs.toArray)(h64:vs.length<64)
  (hT:∀h':Heap,(∀b o,s.heap.get? b=some o→h'.get? b=some o)→∀v∈vs,Looks (model prog w) h' (typeOf v) (.type "list"))
  (hc:∀h':Heap,(∀b o,s.heap.get? b=some o→h'.get? b=some o)→∀i j C,i<vs.length→j<vs.length→C (lt i j) { s with heap:=h' }→wpAny (model prog w) A.in1.in1 (keyLt' oneType' (vs.getD i .none) (vs.getD j .none)) C (λ_ _=>False) { s with heap:=h' })
  (h:Q (.ref (s.heap.objs.size+1)) { s with heap:=sortedAll s.heap vs (nC vs lt).toArray }) :
  wpAny (model prog w) A (call (.builtin "sorted") [.ref l]) Q E s:=by
 refine Calls.call_function_entry kind_sorted plain_sorted entry_sorted (args_sorted1 _) ?_
 unfold Builtin.«sorted»
 refine wpAny_bind (m:=checkCount "sorted" 1 1 _) (wpAny_pure ?_)
 refine wpAny_bind (collect_list hl ?_)
 refine wpAny_bind (wpAny_newList ?_)
 have hsz:((s.heap.push (seqObj "list" #[] 0)).update s.heap.objs.size (Obj.mapSeq (·++vs.toArray))).objs.size=s.heap.objs.size+1:=by
  rw[Heap.size_update,size_push']
 have hoL:(((s.heap.push (seqObj "list" #[] 0)).update s.heap.objs.size (Obj.mapSeq (·++vs.toArray))).push (seqObj "list" vs.toArray 0)).get? (s.heap.objs.size+1)=some (seqObj "list" vs.toArray 0):=by
  rw[← hsz];exact Heap.get?_push_size _ rfl
 have keep:∀b o,s.heap.get? b=some o→b≠s.heap.objs.size+1∧(((s.heap.push (seqObj "list" #[] 0)).update s.heap.objs.size (Obj.mapSeq (·++vs.toArray))).push (seqObj "list" vs.toArray 0)).get? b=some o:=λb o q=>by
  have hlt:b<s.heap.objs.size:=Heap.lt_size q
  refine⟨Nat.ne_of_lt (Nat.lt_succ_of_lt hlt),?_⟩
  rw[Heap.get?_push_ne _ _ _ (by rw[hsz];exact Nat.ne_of_lt (Nat.lt_succ_of_lt hlt)),Heap.get?_update_ne _ _ _ _ (Nat.ne_of_lt hlt),Heap.get?_push_ne _ _ _ (Nat.ne_of_lt hlt)]
  exact q
 show wpAny _ _ _ _ _ { s with heap:=((s.heap.push (seqObj "list" #[] 0)).update s.heap.objs.size (Obj.mapSeq (·++vs.toArray))).push (seqObj "list" vs.toArray 0) }
 rw[hsz]
 refine wpAny_bind (wpAny_holding (wpAny_call_entry slot_list_sort ⟨_,hoL,rfl⟩ entry_list_sort (oE (s:={ s with heap:=((s.heap.push (seqObj "list" #[] 0)).update s.heap.objs.size (Obj.mapSeq (·++vs.toArray))).push (seqObj "list" vs.toArray 0) }) lt hoL h64 (λh' kp=>hT h' λb o q=>kp b o (keep b o q).1 (keep b o q).2) (λh' kp i j C hi hj q=>hc h' (λb o e=>kp b o (keep b o e).1 (keep b o e).2) i j C hi hj q) ⟨_,rfl,?_⟩) (args_list_sort _)))
 exact wpAny_pure ⟨_,rfl,h⟩
end
end HT
namespace L2
open PySem PySem.Spec PyProof.Rows Fw
section
variable{X:Cx}
def LsI(K:PySem.W.Frag)(H:Hp):List V→List (List Int)→Prop
 | [],[]=>True
 | v::vs,ns::nss=>(∃a,v=.ref a∧SqL K H a (ns.map V.int))∧LsI K H vs nss
 | _,_=>False
theorem LsI.len{K:PySem.W.Frag}{H:Hp}:∀{vs:List V}{nss:List (List Int)},LsI K H vs nss→vs.length=nss.length
 | [],[],_=>rfl
 | _::_,_::_,h=>by rw[List.length_cons,List.length_cons,LsI.len h.2]
theorem LsI.at{K:PySem.W.Frag}{H:Hp}:∀{vs:List V}{nss:List (List Int)} (i:Nat),LsI K H vs nss→i<vs.length→∃a,vs[i]?=some (.ref a)∧SqL K H a ((nss.getD i []).map V.int)
 | _::_,_::_,0,h,_=>by obtain⟨a,rfl,q⟩:=h.1;exact⟨a,rfl,q⟩
 | _::_,_::_,i+1,h,hi=>by
  obtain⟨a,h1,h2⟩:=LsI.at i h.2 (by simpa using hi)
  exact⟨a,h1,h2⟩
theorem Dd{xs:List V}{us:List Value}(r:Vals xs us)(ps:List Nat)(hp:∀i∈ps,i<xs.length):Vals (ps.map λi=>xs.getD i .non) (ps.map λi=>us.getD i .none):=by
 induction ps with
 | nil=>exact .nil
 | cons i ps ih =>
  refine .cons ?_ (ih λj hj=>hp j (.tail _ hj))
  have hi:=hp i (.head _)
  have hu:i<us.length:=by rw[← r.length];exact hi
  obtain⟨u,h1,h2⟩:=r.get (List.getElem?_eq_getElem hi)
  show RelV (xs.getD i .non) (us.getD i .none)
  rw[List.getD_eq_getElem?_getD,List.getElem?_eq_getElem hi,Option.getD_some,List.getD_eq_getElem?_getD,h1,Option.getD_some]
  exact h2
theorem zl{n:Nat}{lt:Nat→Nat→Bool}:∀i∈HT.rF n lt,i<n:=λi hi=>List.mem_range.mp ((HT.fN n lt).mem_iff.mp hi)
theorem uk(hu:X.A.units+2<cLine):d6 X (.builtin "sorted") (λxs H Q=>∃(p:Addr) (vs:List V) (nss:List (List Int)),xs=[.ref p]∧SqL X.K H p vs∧LsI X.K H vs nss∧vs.length<64∧∀q,H q=none→Q (.ref q) (upd H q (.lst (nD vs .non nss)))):=by
 intro pins s σ H xs us Q I r h
 obtain⟨p,vs,nss,rfl,hq,hI,hlt,q⟩:=h
 obtain⟨u,rfl,ru⟩:=vals1 r
 cases ru
 obtain⟨its,rv,pl,hz⟩:=I.list hq
 have hl:=rv.length
 have hat:∀i,i<its.length→∃a items,its.getD i .none=.ref a∧s.heap.IsList a items∧IntsAre items.toList (nss.getD i []):=λi hi=>by
  obtain⟨a,h1,h2⟩:=hI.at i (by omega)
  obtain⟨u,h3,h4⟩:=rv.get h1
  cases h4
  obtain⟨pg,rv2,pl2,_⟩:=I.list h2
  refine⟨a,pg.toArray,?_,pl2.isList,by simpa using intsAre_of rv2⟩
  rw[List.getD_eq_getElem?_getD,h3];rfl
 have De:∀(h':Heap) (a:Addr) (items:Array Value),(∀b o,s.heap.get? b=some o→h'.get? b=some o)→s.heap.IsList a items→h'.IsList a items:=λh' a items kp ⟨o,e,z⟩=>⟨o,kp _ _ e,z⟩
 refine HT.uj (ltN nss) pl.isList (by omega) (λh' kp v hv=>?_) (λh' kp i j C hi hj hC=>?_) ?_
 ·obtain⟨i,hi,rfl⟩:=List.getElem_of_mem hv
  obtain⟨a,items,e1,e2,e3⟩:=hat i hi
  rw[List.getD_eq_getElem?_getD,List.getElem?_eq_getElem hi,Option.getD_some] at e1
  rw[e1]
  obtain⟨o,ho,hc,_⟩:=De h' a items kp e2
  rw[← hc]
  exact (PySem.W.Looks.ld ho).andThen .now
 ·obtain⟨a,items,e1,e2,e3⟩:=hat i hi
  obtain⟨b,cJ,f1,f2,f3⟩:=hat j hj
  rw[e1,f1,keyLt'_oneType]
  exact HT.xp (s:={ s with heap:=h' }) (De h' a items kp e2) (De h' b cJ kp f2) e3 f3 (by show X.A.units+1+1<cLine;omega) hC
 have hv:=Dd rv (HT.rF its.length (ltN nss)) (λi hi=>by have:=zl i hi;omega)
 have keep:∀b o,s.heap.get? b=some o→(sortedAll s.heap its (HT.nC its (ltN nss)).toArray).get? b=some o:=λb o e=>by
  have hb:=Heap.lt_size e
  have n1:s.heap.objs.size≠b:=Nat.ne_of_gt hb
  have n2:s.heap.objs.size+1≠b:=Nat.ne_of_gt (Nat.lt_succ_of_lt hb)
  unfold sortedAll sortedHeap
  rw[Heap.get?_update_other _ _ n2]
  refine Heap.get?_push_of_some _ (Heap.get?_push_of_some _ ?_)
  rw[Heap.get?_update_other _ _ n2]
  refine Heap.get?_push_of_some _ ?_
  rw[Heap.get?_update_other _ _ n1]
  exact Heap.get?_push_of_some _ e
 have hsz:((s.heap.push (seqObj "list" #[] 0)).update s.heap.objs.size (Obj.mapSeq (·++its.toArray))).objs.size=s.heap.objs.size+1:=by
  rw[Heap.size_update,Heap.size_push]
 have new:∃c,(sortedAll s.heap its (HT.nC its (ltN nss)).toArray).get? (s.heap.objs.size+1)=some { cls:=.type "list",data:=.seq (HT.nC its (ltN nss)).toArray c }:=by
  have h1:(((s.heap.push (seqObj "list" #[] 0)).update s.heap.objs.size (Obj.mapSeq (·++its.toArray))).push (seqObj "list" its.toArray 0)).get? (s.heap.objs.size+1)=some (seqObj "list" its.toArray 0):=by
   rw[← hsz];exact Heap.get?_push_size _ rfl
  have h2:=Heap.get?_update_self (Obj.mapSeq λ_=>(#[]:Array Value)) h1 rfl
  have h3:=Heap.get?_push_of_some (seqObj "list" #[] 0) (Heap.get?_push_of_some (seqObj "tuple" its.toArray 0) h2)
  have h4:=Heap.get?_update_self (Obj.mapSeq λ_=>(HT.nC its (ltN nss)).toArray) h3 rfl
  exact⟨_,h4⟩
 obtain⟨c,hc⟩:=new
 have hle:s.heap.objs.size≤s.heap.objs.size+1:=Nat.le_succ _
 have es:nD vs .non nss=(HT.rF its.length (ltN nss)).map λi=>vs.getD i .non:=by unfold nD;rw[hl]
 refine⟨.ref (s.heap.objs.size+1),_,I.laid (a:=s.heap.objs.size+1) (o:=.lst (nD vs .non nss)) (t':=s.toks) keep hle ⟨?_,(HT.nC its (ltN nss)),c,?_,hc⟩,rfl,q _ (I.hok.fresh hle)⟩
 ·rw[es,List.length_map,(HT.fN _ _).length_eq,List.length_range,← hl];exact hz
 ·rw[es];exact hv
end
end L2
namespace Fw
open PySem PySem.Spec PyProof.Rows L2
section
variable{K:PySem.W.Frag}{F H:Hp}
theorem Df(s:aH F H):∀{ts:List T}{vs:List V}{nss:List (List Int)},ay K F ts vs→oj ts=some nss→LsI K H vs nss
 | [],vs,nss,r,h=>by
  rw[ay] at r
  subst r
  cases h
  exact trivial
 | t::ts,vs,nss,r,h=>by
  rw[ay] at r
  obtain⟨v,vs',rfl,r1,r2⟩:=r
  cases t with
  | lst us =>
   obtain⟨ns,h1,h2⟩:=Option.bind_eq_some_iff.mp (show (dD us).bind (λns=>(oj ts).map (ns::·))=some nss from h)
   obtain⟨QX,h3,rfl⟩:=Option.map_eq_some_iff.mp h2
   rw[Rep] at r1
   obtain⟨a,ws,rfl,q,rw_⟩:=r1
   have e:=rw_.ints h1
   subst e
   exact⟨⟨a,rfl,aH.seq s q⟩,Df s r2 h3⟩
  | _=>cases h
theorem zm{ts:List T}{vs:List V}(r:ay K F ts vs):∀(ps:List Nat),(∀i∈ps,i<ts.length)→ay K F (ps.map λi=>ts.getD i .non) (ps.map λi=>vs.getD i .non)
 | [],_=>ay.iR
 | i::ps,hp=>by
  have hi:=hp i (.head _)
  obtain⟨v,h1,h2⟩:=r.get (List.getElem?_eq_getElem hi)
  refine ay.eF ?_ (zm r ps λj hj=>hp j (.tail _ hj))
  show Rep K F (ts.getD i .non) (vs.getD i .non)
  rw[List.getD_eq_getElem?_getD,List.getElem?_eq_getElem hi,Option.getD_some,List.getD_eq_getElem?_getD,h1,Option.getD_some]
  exact h2
end
section
variable{X:Cx}{a:Expr}{da:D}{p pos:Pos}{k:Nat}
theorem fO(hr:dg k X.A)(hm:X.mg "sorted"=none)(ha:CE X a da)(hg:Gl X "sorted":=by rfl)(hs1:starEach [a] X.env=(false,eval a X.env)::starEach [] X.env:=by rfl)(hpl:(backTo pos (starEach [] X.env)).any (·.1)=false:=by rfl) :
  CF X (.Call (.Name "sorted" p) [a] [] pos) (dUn eJ da) :=
 ⟨PE.imp (jT (uk (by have:=hr.units;omega)) hg hm (by decide +kernel) (ag ha av hs1) (by decide) (by decide) hs1 hpl) (B8 (by
 intro F H v t w Q s hv hw q
 cases t with
 | lst ts =>
  obtain⟨nss,h1,h2⟩:=Option.bind_eq_some_iff.mp (show ((oj ts).bind λnss=>if ts.length<64 then some (T.lst (nD ts .non nss)) else none)=some w from hw)
  obtain⟨a,vs,rfl,hq,hl⟩:=hv.lB
  have ll:=hl.length
  by_cases hlt:ts.length<64
  ·rw[if_pos hlt] at h2
   cases h2
   refine⟨a,vs,nss,rfl,hq,Df s hl h1,by omega,λp hp=>?_⟩
   have e:nD vs .non nss=(HT.rF ts.length (ltN nss)).map λi=>vs.getD i .non:=by unfold nD;rw[ll]
   rw[e]
   exact q p _ hp ⟨_,ax,zm hl _ λi hi=>zl i hi⟩
  ·rw[if_neg hlt] at h2;cases h2
 | _=>cases hw)),λ_ _ _ _ h=>yQ h⟩
end
end Fw
namespace Fw
open PySem
def rdP(μ:af):Sum T Nat→Option T
 | .inl t=>some t
 | .inr k=>(μ[k]?).map (·.2)
def FZ(μ:af):List (Sum T Nat)→Option (List T)
 | []=>some []
 | x::xs=>(rdP μ x).bind λt=>(FZ μ xs).map (t::·)
def rdX(μ:af):SV→Option T
 | .box xs=>(FZ μ xs).map T.tup
 | x=>rd μ x
def eqB(neg:Bool)(t u:T):Option T:=if okT 100 t=true∧okT 100 u=true then some (.bl (if neg then !eqT t u else eqT t u)) else none
def vH(neg:Bool)(da db:D):D:=λe μ=>(da e μ).bind λx μ1=>(db e μ1).bind λy μ2=>R.lift (ap2 (eqB neg) (rdX μ2 x) (rdX μ2 y)) μ2
theorem Dg(neg:Bool)(da db:D)(e:Slots)(μ:af):vH neg da db e μ=(da e μ).bind λx μ1=>(db e μ1).bind λy μ2=>R.lift (ap2 (eqB neg) (rdX μ2 x) (rdX μ2 y)) μ2:=(rfl)
def F_:Sum T Nat→SV
 | .inl t=>.val t
 | .inr k=>.cel k
def Dh:SV→Option (List SV)
 | .box xs=>some (xs.map F_)
 | _=>none
def zo(d:D)(i:Nat)(body:DS):DS:=λe μ=>(d e μ).toS e λx μ1=>(R.lift (Dh x) μ1).toS e λys μ1=>oA i body ys e μ1
theorem Di(d:D)(i:Nat)(body:DS)(e:Slots)(μ:af):zo d i body e μ=(d e μ).toS e λx μ1=>(R.lift (Dh x) μ1).toS e λys μ1=>oA i body ys e μ1:=(rfl)
end Fw
namespace Fw
open PySem PySem.Spec PyProof.Rows L2
section
variable{K:PySem.W.Frag}{F H:Hp}{α:List Addr}{μ:af}
theorem Ga(S:cM K F α μ H){x:Sum T Nat}{v:V}{t:T}(h:nh K F α v x)(r:rdP μ x=some t){n:Nat}(ok:okT n t=true):Rep K H t v:=by
 cases x with
 | inl u=>cases r;exact Rep.mono S.ext _ _ h
 | inr k=>exact (a_ S (x:=.cel k) h r).rep S.ext (gR ok)
theorem vI(S:cM K F α μ H){n:Nat}:∀{xs:List (Sum T Nat)}{vs:List V}{ts:List T},Paired (nh K F α) vs xs→FZ μ xs=some ts→gJ n ts=true→ay K H ts vs
 | [],_,ts,.nil,r,ok=>by cases r;exact ay.iR
 | x::xs,_,ts,.cons h hs,r,ok=>by
  obtain⟨t,r1,r2⟩:=Option.bind_eq_some_iff.mp (show (rdP μ x).bind _=some ts from r)
  obtain⟨us,r3,rfl⟩:=Option.map_eq_some_iff.mp r2
  rw[gJ,Bool.and_eq_true] at ok
  exact .eF (Ga S h r1 ok.1) (vI S hs r3 ok.2)
theorem zp(S:cM K F α μ H){x:SV}{v:V}{t:T}(h:fk K F α v x)(r:rdX μ x=some t){n:Nat}(ok:okT n t=true):Rep K H t v:=by
 cases x with
 | box xs =>
  obtain⟨ts,r1,rfl⟩:=Option.map_eq_some_iff.mp (show (FZ μ xs).map T.tup=some t from r)
  obtain⟨a,vs,rfl,hq,hp⟩:=h
  rw[Rep]
  cases n with
  | zero=>rw[okT] at ok;cases ok
  | succ n =>
   rw[okT] at ok
   exact⟨a,vs,rfl,aH.gy S.ext hq,vI S hp r1 ok⟩
 | val u=>exact (a_ S h r).rep S.ext (gR ok)
 | cel k=>exact (a_ S h r).rep S.ext (gR ok)
end
section
variable{X:Cx}{a b:Expr}{da db:D}{pos:Pos}{k:Nat}
theorem Nw{neg:Bool}(σ:L2.St)(H:Hp)(Q:VK)(h:tD X (vH neg da db) σ H Q):tOp (CH X.K neg) (tD X da) (tD X db) σ H Q:=by
 obtain⟨F,α,e,μ,S,h⟩:=h
 refine⟨F,α,e,μ,S,?_⟩
 refine (R.wp_bind h).mono (λx μ1 h v H1 F1 α1 x1 S1 o1=>⟨F1,α1,e,μ1,S1,?_⟩) λ_ _ h=>h
 refine (R.wp_bind h).mono (λy μ2 h v2 H2 F2 α2 x2 S2 o2=>?_) λ_ _ h=>h.mono x1
 obtain⟨w,h9,post⟩:=R.br h
 obtain⟨t,u,w',ht,hu,h,rfl⟩:=pw h9
 have h:(if okT 100 t=true∧okT 100 u=true then some (T.bl (if neg then !eqT t u else eqT t u)) else none)=some w':=h
 by_cases ho:okT 100 t=true∧okT 100 u=true
 ·rw[if_pos ho] at h
  cases h
  exact⟨t,u,zp S2.st (o1.mono x2.same x2.pre) ht ho.1,zp S2.st o2 hu ho.2,ho.1,ho.2,post _ H2 F2 α2 (x1.trans x2) S2 (Rep.bl' (K:=X.K) (F:=F2) _)⟩
 ·rw[if_neg ho] at h;cases h
theorem Jq(hr:dg k X.A)(ha:CE X a da)(hb:CE X b db):CT X (.Compare a [.NotEq] [b] pos) (vH true da db):=PT.imp (yt (xh hr) ha hb (jS _)) λσ H Q q=>Nw σ H _ (nj q)
end
theorem Gb{K:PySem.W.Frag}{F:Hp}{α:List Addr}{v:V}{x:Sum T Nat}(h:nh K F α v x):fk K F α v (F_ x):=by
 cases x with
 | inl t=>exact h
 | inr k=>exact h
theorem vJ{K:PySem.W.Frag}{F:Hp}{α:List Addr}:∀{vs:List V}{xs:List (Sum T Nat)},Paired (nh K F α) vs xs→Paired (λv x=>fk K F α v x) vs (xs.map F_)
 | _,_,.nil=>.nil
 | _,_,.cons h hs=>.cons (Gb h) (vJ hs)
section
variable{X:Cx}{body:List Stmt}{it:Expr}{dv:D}{d:DS}{pos np:Pos}
theorem Gd(hp:PassesOwn (model X.prog X.w) X.A X.env X.xe)(hc:X.calm=true)(i:Nat){x:Str}(h:CE X it dv)(hN:X.N.Nodup)(hb:CSs X body d)(hi:X.N[i]?=some x:=by rfl)(hx:Loc X.env.scope x:=by first|exact Or.inl rfl|exact Or.inr rfl)
  (hf:X.fn x=true∨X.env.scope.names.lookup x=some .local:=by first|exact .inl rfl|exact .inr rfl|assumption) (hs:∀x,foldedSetIterable it X.env x=pure x:=by intro _;rfl) :
  CS X (.For (.Name x np) it body [] pos) (zo dv i d) :=
 PS.imp (Bk hp hc (yS h) (oQ hN hi hx hf) hb hs) λD σ H ak=>by
  obtain⟨F,α,e,μ,S,h⟩:=ak
  refine⟨F,α,e,μ,S,(aQ.toS h).mono (λy μ1 h v H1 F1 α1 x1 S1 o1=>?_) λ_ _ h=>h⟩
  obtain⟨xs,hb',h⟩:=R.br (aQ.toS h)
  cases y with
  | val t=>cases hb'
  | cel k=>cases hb'
  | box ys =>
  cases hb'
  obtain⟨p,vs,rfl,hq0,hps⟩:=o1
  have o1:=vJ hps
  generalize ys.map F_=xs at o1 h
  refine⟨p,rfl,.inr ⟨⟨vs,aH.gy S1.st.ext hq0⟩,?_⟩⟩
  refine⟨λi' m σ H=>m=xs.length-i'∧i'≤xs.length∧∃F3 α3 e3 μ3,aH F1 F3∧α1 <+: α3∧Sim X.K F3 α3 e3 μ3 σ H∧aQ X F3 α3 H D (oA i d (xs.drop i') e3 μ3),
   ⟨_,rfl,Nat.zero_le _,F1,α1,e,μ1,aH.refl _,List.prefix_refl _,S1,aQ.mono x1 h⟩,?_⟩
  rintro i' m σ2 H2 ⟨rfl,hle,F3,α3,e3,μ3,s3,p3,S3,h⟩
  have hq:SqT X.K H2 p vs:=aH.gy S3.st.ext (aH.gy s3 hq0)
  have hlen:vs.length=xs.length:=o1.length
  by_cases hlt:i'<xs.length
  ·rw[List.drop_eq_getElem_cons hlt] at h
   unfold oA at h
   obtain⟨v,hv,ov⟩:=Paired.get' o1 (List.getElem?_eq_getElem hlt)
   have ov3:fk X.K F3 α3 v xs[i']:=ov.mono s3 p3
   refine .inr ⟨⟨vs,v,hq,hv⟩,λσ' H'=>∃F4 α4 e4 μ4,aH F1 F4∧α1 <+: α4∧Sim X.K F4 α4 e4 μ4 σ' H'∧aQ X F4 α4 H' D (oA i d (xs.drop (i'+1)) e4 μ4),
    λσ' H' q=>⟨xs.length-(i'+1),by omega,rfl,hlt,q⟩,λy H3 ⟨e9,hy⟩=>?_⟩
   subst e9
   have hy2:=hy vs hq
   rw[hv] at hy2
   cases hy2
   refine⟨F3,α3,e3.set i (some xs[i']),μ3,S3.set (x:=xs[i']) ov3,?_⟩
   cases q:d (e3.set i (some xs[i'])) μ3 with
   | nx e5 μ5 =>
    simp only[q] at h
    exact λσ' H' F' α' x S'=>⟨F',α',e5,μ5,s3.trans x.same,p3.trans x.pre,S',aQ.mono x h⟩
   | ct e5 μ5 =>
    simp only[q] at h
    exact λσ' H' F' α' x S'=>⟨F',α',e5,μ5,s3.trans x.same,p3.trans x.pre,S',aQ.mono x h⟩
   | bk e5 μ5 =>
    simp only[q] at h
    exact λσ' H' F' α' x S'=>h σ' H' F' α' x S'
   | rt x μ5 =>
    simp only[q] at h
    exact λv H' F' α' x S'=>h v H' F' α' x S'
   | err c e5 μ5=>simp only[q] at h;exact h
   | bad=>simp only[q] at h;exact h
  ·have e1:i'=xs.length:=by omega
   subst e1
   rw[List.drop_length] at h
   exact .inl ⟨⟨vs,hq,by omega⟩,h σ2 H2 F3 α3 Ex.refl S3⟩
end
end Fw
namespace HT
open PySem PySem.Calls PyProof.Rows
section
variable{prog:Program}{w:World}{A:Around}{E:Value→Shared→Prop}{s:Shared}
theorem vK{l:Addr}{vs:List Value}{Q:List Value→Shared→Prop}(hl:IsTup s.heap l vs.toArray)
  (h:Q vs { s with heap:=(s.heap.push (seqObj "list" #[] 0)).update s.heap.objs.size (Obj.mapSeq (·++vs.toArray)) }) (hsz:vs.length≤sizeLine:=by size_fits) :
  wpAny (model prog w) A (collect (.ref l)) Q E s:=by
 obtain⟨o,ho,hc,n,hd⟩:=id hl
 unfold collect
 refine wpAny_bind (wpAny_runValue (codeAny_builtin entry_proto_collect' ?_))
 show wpAny _ _ (do again (.builtin "list.__iadd__" ⟨[← newList [],.ref l],[]⟩)) _ _ s
 refine wpAny_bind (wpAny_newList (wpAny_pure ⟨Code.quiet_builtin _ (by decide +kernel),codeAny_builtin entry_list_iadd' ?_⟩))
 show wpAny _ _ (Builtin.List.listExtendWith (.ref s.heap.objs.size) (.ref l) (.ref s.heap.objs.size)) _ _ { s with heap:=s.heap.push (seqObj "list" #[] 0) }
 unfold Builtin.List.listExtendWith
 have ho':(s.heap.push (seqObj "list" #[] 0)).get? l=some o:=Heap.get?_push_of_some _ ho
 refine wpAny_bind (wpAny_typeOf (T:="tuple") ⟨o,ho',hc⟩ ?_)
 have ht:(Value.type "tuple"==Value.type "tuple")=true:=by rfl
 rw[if_pos (by rw[ht];simp)]
 refine wpAny_bind (listItems_at ho' hd ?_)
 refine wpAny_bind (listItems_at (xs:=#[]) (n:=0) (Heap.get?_push_size _ rfl) rfl ?_)
 rw[if_neg (by simp)]
 refine wpAny_bind (listUpdate_at (xs:=#[]) (n:=0) (Heap.get?_push_size _ rfl) rfl ?_ (Nat.zero_le _) (by show (#[]++vs.toArray).size≤sizeLine+1;simp only[Array.size_append,List.size_toArray,List.length_nil];omega))
 refine wpAny_pure ?_
 show wpAny (model prog w) A (do
   let o ← load s.heap.objs.size
   match o.data with
   | .seq xs _=>pure xs.toList
   | _=>unsupported "internal:collect") Q E { s with heap:=(s.heap.push (seqObj "list" #[] 0)).update s.heap.objs.size (Obj.mapSeq (·++vs.toArray)) }
 refine wpAny_bind (wpAny_load (get?_update_seq (Heap.get?_push_size _ rfl) _) ?_)
 show wpAny _ _ (pure ((#[]:Array Value)++vs.toArray).toList) Q E _
 rw[show ((#[]:Array Value)++vs.toArray).toList=vs by simp]
 exact wpAny_pure h
theorem xr{l:Addr}{vs:List Value}{ns:List Int}{Q:Value→Shared→Prop}(hl:IsTup s.heap l vs.toArray)(hI:IntsAre vs ns)(h64:vs.length<64)
  (h:∀(out:Array Value) (ns':List Int),IntsAre out.toList ns'→ns'.Perm ns→ns'.Pairwise (·≤·)→Q (.ref (s.heap.objs.size+1)) { s with heap:=sortedAll s.heap vs out }) :
  wpAny (model prog w) A (call (.builtin "sorted") [.ref l]) Q E s:=by
 refine Calls.call_function_entry kind_sorted plain_sorted entry_sorted (args_sorted1 _) ?_
 unfold Builtin.«sorted»
 refine wpAny_bind (m:=checkCount "sorted" 1 1 _) (wpAny_pure ?_)
 refine wpAny_bind (vK hl ?_)
 refine wpAny_bind (wpAny_newList ?_)
 have hsz:((s.heap.push (seqObj "list" #[] 0)).update s.heap.objs.size (Obj.mapSeq (·++vs.toArray))).objs.size=s.heap.objs.size+1:=by
  rw[Heap.size_update,size_push']
 have hoL:(((s.heap.push (seqObj "list" #[] 0)).update s.heap.objs.size (Obj.mapSeq (·++vs.toArray))).push (seqObj "list" vs.toArray 0)).get? (s.heap.objs.size+1)=some (seqObj "list" vs.toArray 0):=by
  rw[← hsz];exact Heap.get?_push_size _ rfl
 show wpAny _ _ _ _ _ { s with heap:=((s.heap.push (seqObj "list" #[] 0)).update s.heap.objs.size (Obj.mapSeq (·++vs.toArray))).push (seqObj "list" vs.toArray 0) }
 rw[hsz]
 refine wpAny_bind (wpAny_holding (wpAny_call_entry slot_list_sort ⟨_,hoL,rfl⟩ entry_list_sort (list_sort_tree hoL hI h64 λout ns' a1 a2 a3=>⟨_,rfl,?_⟩) (args_list_sort _)))
 exact wpAny_pure ⟨_,rfl,h out ns' a1 a2 a3⟩
end
end HT
namespace L2
open PySem PySem.Spec PyProof.Rows Fw
section
variable{X:Cx}
theorem um:d6 X (.builtin "sorted") (λxs H Q=>∃(p:Addr) (ns:List Int),xs=[.ref p]∧SqT X.K H p (ns.map V.int)∧ns.length<64∧∀q,H q=none→Q (.ref q) (upd H q (.lst ((jP ns).map V.int)))):=by
 intro pins s σ H xs us Q I r h
 obtain⟨p,ns,rfl,hq,hlt,q⟩:=h
 obtain⟨u,rfl,ru⟩:=vals1 r
 cases ru
 obtain⟨its,rv,pl,hz⟩:=I.tuple hq
 have hi:IntsAre its ns:=intsAre_of rv
 have hl:=rv.length
 rw[List.length_map] at hl hz
 refine HT.xr pl hi (by omega) λout ns' a1 a2 a3=>?_
 have e:ns'=jP ns:=y_ a2 a3
 subst e
 have hv:=jo a1
 have hsz:((s.heap.push (seqObj "list" #[] 0)).update s.heap.objs.size (Obj.mapSeq (·++its.toArray))).objs.size=s.heap.objs.size+1:=by
  rw[Heap.size_update,Heap.size_push]
 have keep:∀b o,s.heap.get? b=some o→(sortedAll s.heap its out).get? b=some o:=λb o e=>by
  have hb:=Heap.lt_size e
  have n1:s.heap.objs.size≠b:=Nat.ne_of_gt hb
  have n2:s.heap.objs.size+1≠b:=Nat.ne_of_gt (Nat.lt_succ_of_lt hb)
  unfold sortedAll sortedHeap
  rw[Heap.get?_update_other _ _ n2]
  refine Heap.get?_push_of_some _ (Heap.get?_push_of_some _ ?_)
  rw[Heap.get?_update_other _ _ n2]
  refine Heap.get?_push_of_some _ ?_
  rw[Heap.get?_update_other _ _ n1]
  exact Heap.get?_push_of_some _ e
 have new:∃c,(sortedAll s.heap its out).get? (s.heap.objs.size+1)=some { cls:=.type "list",data:=.seq out c }:=by
  have h1:(((s.heap.push (seqObj "list" #[] 0)).update s.heap.objs.size (Obj.mapSeq (·++its.toArray))).push (seqObj "list" its.toArray 0)).get? (s.heap.objs.size+1)=some (seqObj "list" its.toArray 0):=by
   rw[← hsz];exact Heap.get?_push_size _ rfl
  have h2:=Heap.get?_update_self (Obj.mapSeq λ_=>(#[]:Array Value)) h1 rfl
  have h3:=Heap.get?_push_of_some (seqObj "list" #[] 0) (Heap.get?_push_of_some (seqObj "tuple" its.toArray 0) h2)
  have h4:=Heap.get?_update_self (Obj.mapSeq λ_=>out) h3 rfl
  exact⟨_,h4⟩
 obtain⟨c,hc⟩:=new
 have hle:s.heap.objs.size≤s.heap.objs.size+1:=Nat.le_succ _
 refine⟨.ref (s.heap.objs.size+1),_,I.laid (a:=s.heap.objs.size+1) (o:=.lst ((jP ns).map V.int)) (t':=s.toks) keep hle ⟨?_,out.toList,c,hv,?_⟩,rfl,q _ (I.hok.fresh hle)⟩
 ·rw[List.length_map,(iU ns).length_eq];exact hz
 ·simpa using hc
end
end L2
namespace Fw
open PySem PySem.Spec PyProof.Rows L2
section
variable{X:Cx}{a:Expr}{da:D}{p pos:Pos}
theorem xt(hm:X.mg "sorted"=none)(ha:CE X a da)(hg:Gl X "sorted":=by rfl)(hs1:starEach [a] X.env=(false,eval a X.env)::starEach [] X.env:=by rfl)(hpl:(backTo pos (starEach [] X.env)).any (·.1)=false:=by rfl) :
  CE X (.Call (.Name "sorted" p) [a] [] pos) (dUn qd da):=oW um (by
 intro F H v t w Q s hv hw q
 cases t with
 | tup ts =>
  obtain⟨ns,h1,h2⟩:=Option.bind_eq_some_iff.mp (show ((dD ts).bind λns=>if ns.length<64 then some (T.lst ((jP ns).map T.int)) else none)=some w from hw)
  obtain⟨a,vs,rfl,hq,hl⟩:=hv.oB
  have e:=hl.ints h1
  subst e
  by_cases hlt:ns.length<64
  ·rw[if_pos hlt] at h2
   cases h2
   exact⟨a,ns,rfl,aH.gy s hq,hlt,λp hp=>o5 s hp (ay.mr _) q⟩
  ·rw[if_neg hlt] at h2;cases h2
 | _=>cases hw) hm (by decide +kernel) ha hg (by decide) (by decide) hs1 hpl
end
end Fw
namespace Fw
open PySem
end Fw
namespace L2
open PySem PySem.Spec PyProof.Rows
end L2
namespace Fw
open PySem PySem.Spec PyProof.Rows L2
section
variable{X:Cx}{a b:Expr}{da db:D}{pos:Pos}{k:Nat}
end
section
variable{X:Cx}{a b:Expr}{da db:D}{pos:Pos}{k:Nat}
end
end Fw
namespace Fw.k33
open PySem Fw
def lE:DS :=
 (ar (az 3 (ah aY (aa 2) (aa 0)))
 (ar (sIf (ah fEq (aa 3) (dC (.int 0))) IK b7)
 (ar (az 4 (ah aY (aa 1) (aa 0)))
 (ar (lh (ah fNe (aa 3) (dC (.int 1))) (ar (az 4 (ah aY (ah bX (dUn EX (aa 4)) (ah du (aa 0) (aa 3))) (aa 0)))
 (az 3 (ah aY (aa 0) (aa 3)))))
 (aM (aa 4))))))
def mG:FN:=fnV 5 lE
def jq:DS :=
 (aM (aJ (bo (aa 2)) [none,some 0,some 1] (ao 0) (dC (.bl true)) (ah aY (ah bX (aa 2) (aa 0)) (aa 1))))
def kb:FN:=fnV 3 jq
def fT:DS :=
 (ar (az 4 (aU (aa 1) (aa 3)))
 (ar (sIf (ah fEq (aa 4) (dC (.int 0))) (aM (aa 1)) b7)
 (aM (aJ (Fd (aa 1) (aa 2)) [none,none,some 0,some 4] (h_ [0,1]) (dC (.bl true)) (ah aY (ah vd (aa 0) (ah bX (aa 3) (aa 1))) (aa 2))))))
def mH:FN:=fnV 5 fT
def cZ:DS :=
 (ar (bF (aI (aa 1)) (ao 2) (sIf (ah fNe (aU (aa 0) (aa 2)) (dC (.int 0))) (aM (aa 2)) b7))
 (aM (dC (.non))))
def gU:FN:=fnV 3 cZ
def mI:DS :=
 (ar (az 3 (bQ (dC (.dct []))))
 (ar (az 4 (bQ (bC [])))
 (ar (bF (bo (aa 1)) (ao 5) (ar (az 6 (aa 5))
 (ar (bF (lz (aa 3)) (h_ [7,8]) (az 6 (aw (cal mH) [(aa 0),(aa 6),(aa 8),(aa 7)])))
 (ar (az 9 (aw (cal gU) [(aa 6),(aa 2)]))
 (sIf (dUn pF (aa 9)) (aW (aa 4) (aa 6)) (ar (az 10 (aw (cal kb) [(aa 0),(aw (cal mG) [(aa 0),(dC (.int 1)),(aU (aa 6) (aa 9))]),(aa 6)]))
 (ar (bF (bo (dUn yK (aa 3))) (ao 7) (oa 3 (aa 7) (aw (cal mH) [(aa 0),(ah pX (aa 3) (aa 7)),(aa 10),(aa 9)])))
 (oa 3 (aa 9) (aa 10)))))))))
 (aM (eW [(aa 3),(aa 4)])))))
def qe:FN:=fnV 11 mI
def dF:DS :=
 (aM (aJ (bo (aa 1)) [none,some 0,some 2] (ao 0) (dC (.bl true)) (ah aY (aU (aa 0) (aa 2)) (aa 1))))
def iE:FN:=fnV 3 dF
def nE:DS :=
 (ar (az 2 (bQ (rz rA [(dC (.int 0))] (aa 0))))
 (ar (dj 2 (aa 1) (dC (.int 1)))
 (aM (aa 2))))
def uo:FN:=fnV 3 nE
def lF:DS :=
 (ar (az 4 (pH (aa 2)))
 (ar (az 5 (bQ (bC [])))
 (ar (bF (aI (aa 1)) (ao 6) (aW (aa 5) (ah bg (ah bg (aw (cal iE) [(aa 0),(aa 2),(aa 6)]) (bC [(ah aY (aU (aa 3) (aa 6)) (aa 0))])) (aw (cal uo) [(aa 1),(aa 6)]))))
 (ar (az 7 (aw (cal qe) [(aa 0),(aa 5),(aa 4)]))
 (ar (bF (bo (aU (aa 7) (dC (.int 1)))) (ao 8) (sIf (ah fNe (aU (aa 8) (aa 4)) (dC (.int 0))) (aM (mh [(dC (.str "turn")),(dUn aD (aw (cal kb) [(aa 0),(aw (cal mG) [(aa 0),(dC (.int 1)),(aU (aa 8) (aa 4))]),(BY (aa 8) (some (ah bg (aa 4) (dC (.int 1)))) none)]))])) b7))
 (ar (az 9 (bQ (rz rA [(dC (.int 0))] (aa 4))))
 (ar (bF (lz (aU (aa 7) (dC (.int 0)))) (h_ [6,10]) (dj 9 (aa 6) (aU (aa 10) (aa 4))))
 (aM (mh [(dC (.str "sum")),(aa 9)])))))))))
def kM:FN:=fnK 11 lF
def Az:DS :=
 (aM (aJ (yY (aU (aa 0) (dC (.int 2)))) [none,none,some 1] (h_ [0,1]) (ah fIn (aU (aa 1) (dC (.int 0))) (aa 2)) (aa 0)))
def cE:FN:=fnV 2 Az
def jr:DS :=
 (aM (aJ (bo (aa 1)) [none,some 0] (ao 0) (dC (.bl true)) (aU (aU (aU (aa 1) (dC (.int 2))) (aa 0)) (dC (.int 1)))))
def d_:FN:=fnV 2 jr
def fU:DS :=
 (aM (dUn aD (aJ (aI (aa 0)) [none] (ao 0) (dC (.bl true)) (ES (ah fEq (aa 0) (dC (.int 0))) (dC (.int 1)) (dC (.int 0))))))
def cF:FN:=fnV 1 fU
def il:DS :=
 (ar (az 2 (aw (cal kM) [(aU (aa 0) (dC (.int 0))),(aU (aa 0) (dC (.int 1))),(aw (cal d_) [(aa 0),(aa 1)]),(aw (cal cF) [(aU (aa 0) (dC (.int 1)))])]))
 (ar (sIf (ah fEq (aU (aa 2) (dC (.int 0))) (dC (.str "sum"))) (aM (mh [(dC (.str "open")),(aU (aa 2) (dC (.int 1)))])) b7)
 (aM (mh [(dC (.str "shut")),(aU (aa 2) (dC (.int 1)))]))))
def cf:FN:=fnK 3 il
def fV:DS :=
 (aM (aw (cal cf) [(aa 0),(aw (cal cE) [(aa 0),(aa 1)])]))
def dq:FN:=fnV 2 fV
def kc:DS :=
 (aM (ah fEq (aU (aw (cal dq) [(aa 0),(aa 1)]) (dC (.int 0))) (dC (.str "open"))))
def bt:FN:=fnV 2 kc
def mJ:DS :=
 (ar (az 1 (bC [(eW [])]))
 (ar (bF (aI (aa 0)) (ao 2) (az 1 (ah bg (aa 1) (aJ (bo (aa 1)) [none,some 2] (ao 0) (dC (.bl true)) (ah bg (aa 0) (eW [(aa 1)]))))))
 (aM (aa 1))))
def iF:DS:=(az 1 (bC [(eW [])]))
def iG:DS:=(bF (aI (aa 0)) (ao 2) (az 1 (ah bg (aa 1) (aJ (bo (aa 1)) [none,some 2] (ao 0) (dC (.bl true)) (ah bg (aa 0) (eW [(aa 1)]))))))
def iH:DS:=(aM (aa 1))
def iI:DS:=iH
def iJ:DS:=ar iG iI
def kW:DS:=ar iF iJ
theorem rG:mJ=kW:=rfl
theorem nF(e:Slots)(μ:af):kW e μ=(iF e μ).seq iJ:=rfl
theorem nG(e:Slots)(μ:af):iJ e μ=(iG e μ).seq iI:=rfl
theorem nH(e:Slots)(μ:af):iI e μ=iH e μ:=rfl
def cq:FN:=fnV 3 mJ
def sS:DS :=
 (aM (dUn aD (aJ (bo (aa 0)) [none,some 1] (ao 0) (ah fNe (aa 0) (aa 1)) (aa 0))))
def fP:FN:=fnV 2 sS
def jO:DS :=
 (aM (dUn aD (dUn qd (ah bg (aa 0) (eW [(aa 1)])))))
def cD:FN:=fnV 2 jO
def qf:DS :=
 (aM (j0 (ah bH (aa 0) (aa 1)) (h8 (dUn BU (aJ (bo (aa 1)) [none,some 0,some 1] (ao 0) (dC (.bl true)) (ah bH (aa 1) (aw (cal fP) [(aa 2),(aa 0)])))))))
def dw:FN:=fnV 2 qf
def kX:DS :=
 (ar (sIf (ah bH (aa 0) (aa 2)) (aM (dC (.bl false))) b7)
 (aM (dUn BS (aJ (aI (aa 1)) [none,some 0,some 2] (ao 0) (ah iB (aa 0) (aa 2)) (ah bH (aa 1) (aw (cal cD) [(aa 2),(aa 0)]))))))
def bR:FN:=fnV 3 kX
def fb:DS :=
 (ar (az 2 (bQ (dC (.dtt false []))))
 (ar (bF (bo (aw (cal cq) [(aa 1)])) (ao 3) (oi 2 (aa 3) (aw (cal bt) [(aa 0),(aa 3)])))
 (ar (az 4 (aJ (nB (aa 2)) [none,some 2] (ao 0) (aw (cal dw) [(aa 1),(aa 0)]) (dUn iP (aa 0))))
 (ar (az 5 (aJ (nB (aa 2)) [none,some 2,some 1] (ao 0) (aw (cal bR) [(aa 1),(aa 2),(aa 0)]) (dUn iP (aa 0))))
 (aM (mh [(bQ (dUn eJ (aa 4))),(bQ (dUn eJ (aa 5)))]))))))
def jt:DS:=(az 2 (bQ (dC (.dtt false []))))
def ju:DS:=(bF (bo (aw (cal cq) [(aa 1)])) (ao 3) (oi 2 (aa 3) (aw (cal bt) [(aa 0),(aa 3)])))
def jv:DS:=(az 4 (aJ (nB (aa 2)) [none,some 2] (ao 0) (aw (cal dw) [(aa 1),(aa 0)]) (dUn iP (aa 0))))
def jw:DS:=(az 5 (aJ (nB (aa 2)) [none,some 2,some 1] (ao 0) (aw (cal bR) [(aa 1),(aa 2),(aa 0)]) (dUn iP (aa 0))))
def jx:DS:=(aM (mh [(bQ (dUn eJ (aa 4))),(bQ (dUn eJ (aa 5)))]))
def jy:DS:=jx
def jz:DS:=ar jw jy
def jA:DS:=ar jv jz
def jB:DS:=ar ju jA
def mK:DS:=ar jt jB
theorem uq:fb=mK:=rfl
theorem oF(e:Slots)(μ:af):mK e μ=(jt e μ).seq jB:=rfl
theorem oG(e:Slots)(μ:af):jB e μ=(ju e μ).seq jA:=rfl
theorem oH(e:Slots)(μ:af):jA e μ=(jv e μ).seq jz:=rfl
theorem oI(e:Slots)(μ:af):jz e μ=(jw e μ).seq jy:=rfl
theorem oJ(e:Slots)(μ:af):jy e μ=jx e μ:=rfl
def dG:FN:=fnK 6 fb
def dH:FN:=fnV 6 fb
def Dj:DS :=
 (aM (h8 (aw (cal bt) [(aa 0),(aJ (aI (aa 1)) [none,some 2] (ao 0) (ah iB (aa 0) (aa 1)) (aa 0))])))
def jC:FN:=fnV 3 Dj
def vL:DS :=
 (ar (sIf (ah fLt (aa 1) (pH (aa 0))) (aM (aU (aa 0) (aa 1))) b7)
 (ar (az 2 (ah bg (ah bX (aa 1) (dC (.int 7919))) (dC (.int 11))))
 (ar (sIf (ah fGt (pH (aa 0)) (dC (.int 0))) (az 2 (ah bg (aa 2) (ah bX (ah aY (aU (aa 0) (ah aY (ah bg (ah bX (dC (.int 5)) (aa 1)) (dC (.int 2))) (pH (aa 0)))) (dC (.int 2147483629))) (dC (.int 69621))))) b7)
 (ar (az 2 (ah aY (ah bX (aa 2) (aa 2)) (dC (.int 2147483647))))
 (aM (ah aY (ah bX (aa 2) (aa 2)) (dC (.int 998244353))))))))
def cP:FN:=fnV 3 vL
def xu:DS :=
 (ar (az 3 (bQ (bC [])))
 (ar (sIf (ah fEq (ah aY (aa 0) (dC (.int 2))) (dC (.int 0))) (ar (az 0 (ah du (aa 0) (dC (.int 2))))
 (ar (bF (aI (aa 2)) (ao 4) (ar (aW (aa 3) (ah aY (aa 0) (aa 1)))
 (az 0 (ah du (aa 0) (aa 1)))))
 (aM (aa 3)))) b7)
 (ar (bF (aI (aa 2)) (ao 4) (ar (az 5 (ah aY (ah bg (ah du (aa 0) (dC (.int 2))) (ah bX (aa 4) (dC (.int 40503)))) (dC (.int 2147483629))))
 (ar (az 5 (ah aY (ah bg (ah bX (aa 5) (aa 5)) (aa 4)) (dC (.int 998244353))))
 (ar (az 5 (ah aY (ah bX (aa 5) (aa 5)) (dC (.int 2147483587))))
 (aW (aa 3) (ah aY (ah du (aa 5) (dC (.int 11))) (aa 1)))))))
 (aM (aa 3)))))
def fg:FN:=fnD 6 xu
def Dk:DS :=
 (ar (sIf (ah fEq (ah aY (ah du (aa 0) (dC (.int 6))) (dC (.int 8))) (dC (.int 5))) (aM (aU (bC [(dC (.int 17)),(dC (.int 31)),(dC (.int 61)),(dC (.int 97))]) (ah aY (ah du (aa 0) (dC (.int 48))) (dC (.int 4))))) b7)
 (aM (aU (bC [(dC (.int 2)),(dC (.int 3)),(dC (.int 5)),(dC (.int 7)),(dC (.int 11)),(dC (.int 13))]) (ah aY (aa 0) (dC (.int 6))))))
def iW:FN:=fnV 1 Dk
def kY:DS :=
 (ar (az 3 (bQ (bC [(dC (.int 1))])))
 (ar (bF (aI (ah vd (aa 1) (dC (.int 1)))) (ao 4) (aW (aa 3) (ah aY (ah bX (aU (aa 3) (aa 4)) (aa 2)) (aa 0))))
 (aM (aa 3))))
def ke:DS:=(az 3 (bQ (bC [(dC (.int 1))])))
def kg:DS:=(bF (aI (ah vd (aa 1) (dC (.int 1)))) (ao 4) (aW (aa 3) (ah aY (ah bX (aU (aa 3) (aa 4)) (aa 2)) (aa 0))))
def kh:DS:=(aM (aa 3))
def kj:DS:=kh
def kl:DS:=ar kg kj
def om:DS:=ar ke kl
theorem vM:kY=om:=rfl
theorem qg(e:Slots)(μ:af):om e μ=(ke e μ).seq kl:=rfl
theorem qh(e:Slots)(μ:af):kl e μ=(kg e μ).seq kj:=rfl
theorem qi(e:Slots)(μ:af):kj e μ=kh e μ:=rfl
def cG:FN:=fnV 5 kY
def mL:DS :=
 (ar (az 1 (aw (cal cP) [(aa 0),(dC (.int 0))]))
 (ar (az 2 (aw (cal iW) [(aa 1)]))
 (ar (az 3 (ah bg (dC (.int 1)) (ah aY (ah du (aa 1) (dC (.int 200))) (dC (.int 4)))))
 (ar (az 4 (ah bg (dC (.int 1)) (ah aY (ah du (aa 1) (dC (.int 800))) (dC (.int 4)))))
 (ar (az 5 (ah aY (ah du (aa 1) (dC (.int 76800))) (dC (.int 8))))
 (ar (sIf (ah fEq (ah aY (ah du (aa 1) (dC (.int 3200))) (dC (.int 8))) (dC (.int 3))) (az 4 (ah bg (dC (.int 1)) (ah aY (ah du (aa 1) (dC (.int 800))) (dC (.int 6))))) b7)
 (ar (sIf (ah fEq (ah aY (ah du (aa 1) (dC (.int 3200))) (dC (.int 16))) (dC (.int 5))) (ar (az 4 (ah bg (dC (.int 7)) (ah aY (ah du (aa 1) (dC (.int 800))) (dC (.int 2)))))
 (ar (az 5 (ah vv (aa 5) (dC (.int 4))))
 (az 3 (ah vv (aa 3) (dC (.int 2)))))) b7)
 (ar (az 6 (bQ (bC [])))
 (ar (sIf (ah fEq (ah aY (ah du (aa 1) (dC (.int 25600))) (dC (.int 3))) (dC (.int 0))) (ar (bF (aI (aa 4)) (ao 7) (aW (aa 6) (eW [(aa 7),(dUn aD (aw (cal cG) [(aa 2),(aa 3),(ah bg (aa 7) (dC (.int 1)))]))])))
 (aM (eW [(eW [(aa 2),(aa 3),(dUn aD (aa 6))]),(aa 4)]))) b7)
 (ar (bF (aI (aa 5)) (ao 8) (ar (az 9 (aw (cal cP) [(aa 0),(ah bg (dC (.int 2)) (aa 8))]))
 (ar (az 10 (aw (cal fg) [(ah du (aa 9) (dC (.int 12))),(aa 2),(aa 3)]))
 (ar (sIf (ah fEq (ah aY (ah du (aa 9) (dC (.int 6))) (dC (.int 2))) (dC (.int 1))) (dj 10 (dC (.int 0)) (dC (.int 0))) b7)
 (aW (aa 6) (eW [(ah aY (aa 9) (aa 4)),(dUn aD (aa 10))]))))))
 (aM (eW [(eW [(aa 2),(aa 3),(dUn aD (aa 6))]),(aa 4)]))))))))))))
def lG:DS:=(az 1 (aw (cal cP) [(aa 0),(dC (.int 0))]))
def lH:DS:=(az 2 (aw (cal iW) [(aa 1)]))
def lI:DS:=(az 3 (ah bg (dC (.int 1)) (ah aY (ah du (aa 1) (dC (.int 200))) (dC (.int 4)))))
def lJ:DS:=(az 4 (ah bg (dC (.int 1)) (ah aY (ah du (aa 1) (dC (.int 800))) (dC (.int 4)))))
def lK:DS:=(az 5 (ah aY (ah du (aa 1) (dC (.int 76800))) (dC (.int 8))))
def lL:DS:=(sIf (ah fEq (ah aY (ah du (aa 1) (dC (.int 3200))) (dC (.int 8))) (dC (.int 3))) (az 4 (ah bg (dC (.int 1)) (ah aY (ah du (aa 1) (dC (.int 800))) (dC (.int 6))))) b7)
def lM:DS:=(sIf (ah fEq (ah aY (ah du (aa 1) (dC (.int 3200))) (dC (.int 16))) (dC (.int 5))) (ar (az 4 (ah bg (dC (.int 7)) (ah aY (ah du (aa 1) (dC (.int 800))) (dC (.int 2)))))
 (ar (az 5 (ah vv (aa 5) (dC (.int 4))))
 (az 3 (ah vv (aa 3) (dC (.int 2)))))) b7)
def lN:DS:=(az 6 (bQ (bC [])))
def jD:DS:=(sIf (ah fEq (ah aY (ah du (aa 1) (dC (.int 25600))) (dC (.int 3))) (dC (.int 0))) (ar (bF (aI (aa 4)) (ao 7) (aW (aa 6) (eW [(aa 7),(dUn aD (aw (cal cG) [(aa 2),(aa 3),(ah bg (aa 7) (dC (.int 1)))]))])))
 (aM (eW [(eW [(aa 2),(aa 3),(dUn aD (aa 6))]),(aa 4)]))) b7)
def lO:DS:=(bF (aI (aa 5)) (ao 8) (ar (az 9 (aw (cal cP) [(aa 0),(ah bg (dC (.int 2)) (aa 8))]))
 (ar (az 10 (aw (cal fg) [(ah du (aa 9) (dC (.int 12))),(aa 2),(aa 3)]))
 (ar (sIf (ah fEq (ah aY (ah du (aa 9) (dC (.int 6))) (dC (.int 2))) (dC (.int 1))) (dj 10 (dC (.int 0)) (dC (.int 0))) b7)
 (aW (aa 6) (eW [(ah aY (aa 9) (aa 4)),(dUn aD (aa 10))]))))))
def km:DS:=(aM (eW [(eW [(aa 2),(aa 3),(dUn aD (aa 6))]),(aa 4)]))
def ko:DS:=km
def lP:DS:=ar lO ko
def lQ:DS:=ar jD lP
def jE:DS:=ar lN lQ
def jF:DS:=ar lM jE
def lR:DS:=ar lL jF
def lS:DS:=ar lK lR
def lT:DS:=ar lJ lS
def lU:DS:=ar lI lT
def lV:DS:=ar lH lU
def qj:DS:=ar lG lV
theorem xv:mL=qj:=rfl
theorem rH(e:Slots)(μ:af):qj e μ=(lG e μ).seq lV:=rfl
theorem rJ(e:Slots)(μ:af):lV e μ=(lH e μ).seq lU:=rfl
theorem rK(e:Slots)(μ:af):lU e μ=(lI e μ).seq lT:=rfl
theorem rL(e:Slots)(μ:af):lT e μ=(lJ e μ).seq lS:=rfl
theorem rM(e:Slots)(μ:af):lS e μ=(lK e μ).seq lR:=rfl
theorem rN(e:Slots)(μ:af):lR e μ=(lL e μ).seq jF:=rfl
theorem rO(e:Slots)(μ:af):jF e μ=(lM e μ).seq jE:=rfl
theorem rP(e:Slots)(μ:af):jE e μ=(lN e μ).seq lQ:=rfl
theorem rQ(e:Slots)(μ:af):lQ e μ=(jD e μ).seq lP:=rfl
theorem rR(e:Slots)(μ:af):lP e μ=(lO e μ).seq ko:=rfl
theorem qk(e:Slots)(μ:af):ko e μ=km e μ:=rfl
def dW:FN:=fnV 11 mL
def oq:DS :=
 (ar (az 1 (bC [(bC [])]))
 (ar (bF (aI (aa 0)) (ao 2) (az 1 (ah bg (aa 1) (aJ (bo (aa 1)) [none,some 2] (ao 0) (dC (.bl true)) (ah bg (aa 0) (bC [(aa 1)]))))))
 (aM (aa 1))))
def nI:DS:=(az 1 (bC [(bC [])]))
def nJ:DS:=(bF (aI (aa 0)) (ao 2) (az 1 (ah bg (aa 1) (aJ (bo (aa 1)) [none,some 2] (ao 0) (dC (.bl true)) (ah bg (aa 0) (bC [(aa 1)]))))))
def nK:DS:=(aM (aa 1))
def nL:DS:=nK
def nM:DS:=ar nJ nL
def sT:DS:=ar nI nM
theorem AA:oq=sT:=rfl
theorem ur(e:Slots)(μ:af):sT e μ=(nI e μ).seq nM:=rfl
theorem uu(e:Slots)(μ:af):nM e μ=(nJ e μ).seq nL:=rfl
theorem uv(e:Slots)(μ:af):nL e μ=nK e μ:=rfl
def eo:FN:=fnV 3 oq
def kZ:DS :=
 (aM (ah fEq (aJ (bo (aa 0)) [none,some 1] (ao 0) (ah iB (aa 0) (aa 1)) (aa 0)) (bC [])))
def aX:FN:=fnV 2 kZ
def ql:DS :=
 (ar (az 3 (bQ (bC [])))
 (ar (az 4 (bQ (bC [])))
 (ar (bF (bo (aa 0)) (ao 5) (ar (az 6 (aJ (bo (aa 5)) [none,some 5] (ao 0) (dC (.bl true)) (aJ (bo (aa 1)) [none,some 0] (ao 0) (ah fNe (aa 0) (aa 1)) (aa 0))))
 (ar (az 7 (aJ (aI (aa 2)) [none,some 5] (ao 0) (ah iB (aa 0) (aa 1)) (dUn jm (ah bg (aa 1) (bC [(aa 0)])))))
 (ar (sIf (j0 (ah bH (aa 1) (dUn aD (aa 5))) (ah fEq (aJ (bo (aa 6)) [none,some 1] (ao 0) (ah bH (aa 1) (dUn aD (aa 0))) (aa 0)) (bC []))) (aW (aa 3) (aa 5)) b7)
 (sIf (j0 (h8 (ah bH (aa 1) (dUn aD (aa 5)))) (ah fEq (aJ (bo (aa 7)) [none,some 1] (ao 0) (h8 (ah bH (aa 1) (dUn aD (aa 0)))) (aa 0)) (bC []))) (aW (aa 4) (aa 5)) b7)))))
 (aM (eW [(dUn eJ (aa 3)),(dUn eJ (aa 4))])))))
def qm:DS:=(az 3 (bQ (bC [])))
def qo:DS:=(az 4 (bQ (bC [])))
def qp:DS:=(bF (bo (aa 0)) (ao 5) (ar (az 6 (aJ (bo (aa 5)) [none,some 5] (ao 0) (dC (.bl true)) (aJ (bo (aa 1)) [none,some 0] (ao 0) (ah fNe (aa 0) (aa 1)) (aa 0))))
 (ar (az 7 (aJ (aI (aa 2)) [none,some 5] (ao 0) (ah iB (aa 0) (aa 1)) (dUn jm (ah bg (aa 1) (bC [(aa 0)])))))
 (ar (sIf (j0 (ah bH (aa 1) (dUn aD (aa 5))) (ah fEq (aJ (bo (aa 6)) [none,some 1] (ao 0) (ah bH (aa 1) (dUn aD (aa 0))) (aa 0)) (bC []))) (aW (aa 3) (aa 5)) b7)
 (sIf (j0 (h8 (ah bH (aa 1) (dUn aD (aa 5)))) (ah fEq (aJ (bo (aa 7)) [none,some 1] (ao 0) (h8 (ah bH (aa 1) (dUn aD (aa 0)))) (aa 0)) (bC []))) (aW (aa 4) (aa 5)) b7)))))
def qq:DS:=(aM (eW [(dUn eJ (aa 3)),(dUn eJ (aa 4))]))
def qr:DS:=qq
def qt:DS:=ar qp qr
def qu:DS:=ar qo qt
def vN:DS:=ar qm qu
theorem Dl:ql=vN:=rfl
theorem vO(e:Slots)(μ:af):vN e μ=(qm e μ).seq qu:=rfl
theorem vP(e:Slots)(μ:af):qu e μ=(qo e μ).seq qt:=rfl
theorem vQ(e:Slots)(μ:af):qt e μ=(qp e μ).seq qr:=rfl
theorem vR(e:Slots)(μ:af):qr e μ=qq e μ:=rfl
def fh:FN:=fnV 8 ql
def mM:DS :=
 (ar (zo (aa 0) 1 (bF (bo (aa 1)) (ao 2) (sIf (dOr (h8 (dIs .list (aa 2))) (ah fNe (aJ (bo (aa 2)) [none] (ao 0) (dIs .bool (aa 0)) (aa 0)) (bC []))) (aM (dC (.bl false))) b7)))
 (aM (j0 (dIs .tuple (aa 0)) (j0 (dIs .list (aU (aa 0) (dC (.int 0)))) (dIs .list (aU (aa 0) (dC (.int 1))))))))
def dX:FN:=fnV 3 mM
def Dm:DS :=
 (ar (Fu [1,2] (aw (cal dW) [(aa 0)]))
 (ar (az 3 (aw (cal eo) [(aa 2)]))
 (ar (az 4 (bQ (dC (.dtt false []))))
 (ar (bF (bo (aa 3)) (ao 5) (oi 4 (dUn aD (aa 5)) (ah fEq (aU (aw (cal dq) [(aa 1),(aa 5)]) (dC (.int 0))) (dC (.str "open")))))
 (ar (az 6 (aw (cal fh) [(aa 3),(aa 4),(aa 2)]))
 (ar (az 7 (aw (cal dG) [(aa 1),(aa 2)]))
 (ar (sIf (dOr (vH true (aa 7) (aa 6)) (h8 (aw (cal dX) [(aa 7)]))) (aM (dC (.bl false))) b7)
 (ar (bF (bo (aa 3)) (ao 5) (ar (az 8 (aJ (aI (aa 2)) [none,some 5] (ao 0) (ah iB (aa 0) (aa 1)) (aa 0)))
 (ar (az 9 (aw (cal jC) [(aa 1),(aa 2),(dUn iP (aa 5))]))
 (ar (sIf (dOr (h8 (dIs .bool (aa 9))) (ah fEq (aa 9) (ah bH (aa 4) (dUn aD (aa 8))))) (aM (dC (.bl false))) b7)
 (ar (az 10 (aJ (bo (aU (aa 6) (dC (.int 0)))) [none,some 5] (ao 0) (aw (cal aX) [(aa 0),(aa 1)]) (aa 0)))
 (ar (az 11 (aJ (bo (aU (aa 6) (dC (.int 1)))) [none,some 5] (ao 0) (aw (cal aX) [(aa 1),(aa 0)]) (aa 0)))
 (sIf (dOr (ah fNe (ah bH (aa 4) (dUn aD (aa 5))) (ah fNe (aa 10) (bC []))) (ah fNe (ah bH (aa 4) (dUn aD (aa 5))) (ah fEq (aa 11) (bC [])))) (aM (dC (.bl false))) b7)))))))
 (ar (aW (aU (aa 7) (dC (.int 0))) (bC [(dC (.int 0))]))
 (ar (t5 (aU (aa 7) (dC (.int 1))))
 (aM (ah fEq (aw (cal dH) [(aa 1),(aa 2)]) (aa 6)))))))))))))
def xw:DS:=(Fu [1,2] (aw (cal dW) [(aa 0)]))
def xx:DS:=(az 3 (aw (cal eo) [(aa 2)]))
def xy:DS:=(az 4 (bQ (dC (.dtt false []))))
def xA:DS:=(bF (bo (aa 3)) (ao 5) (oi 4 (dUn aD (aa 5)) (ah fEq (aU (aw (cal dq) [(aa 1),(aa 5)]) (dC (.int 0))) (dC (.str "open")))))
def xB:DS:=(az 6 (aw (cal fh) [(aa 3),(aa 4),(aa 2)]))
def xC:DS:=(az 7 (aw (cal dG) [(aa 1),(aa 2)]))
def xD:DS:=(sIf (dOr (vH true (aa 7) (aa 6)) (h8 (aw (cal dX) [(aa 7)]))) (aM (dC (.bl false))) b7)
def xE:DS:=(bF (bo (aa 3)) (ao 5) (ar (az 8 (aJ (aI (aa 2)) [none,some 5] (ao 0) (ah iB (aa 0) (aa 1)) (aa 0)))
 (ar (az 9 (aw (cal jC) [(aa 1),(aa 2),(dUn iP (aa 5))]))
 (ar (sIf (dOr (h8 (dIs .bool (aa 9))) (ah fEq (aa 9) (ah bH (aa 4) (dUn aD (aa 8))))) (aM (dC (.bl false))) b7)
 (ar (az 10 (aJ (bo (aU (aa 6) (dC (.int 0)))) [none,some 5] (ao 0) (aw (cal aX) [(aa 0),(aa 1)]) (aa 0)))
 (ar (az 11 (aJ (bo (aU (aa 6) (dC (.int 1)))) [none,some 5] (ao 0) (aw (cal aX) [(aa 1),(aa 0)]) (aa 0)))
 (sIf (dOr (ah fNe (ah bH (aa 4) (dUn aD (aa 5))) (ah fNe (aa 10) (bC []))) (ah fNe (ah bH (aa 4) (dUn aD (aa 5))) (ah fEq (aa 11) (bC [])))) (aM (dC (.bl false))) b7)))))))
def xF:DS:=(aW (aU (aa 7) (dC (.int 0))) (bC [(dC (.int 0))]))
def xG:DS:=(t5 (aU (aa 7) (dC (.int 1))))
def uw:DS:=(aM (ah fEq (aw (cal dH) [(aa 1),(aa 2)]) (aa 6)))
def ux:DS:=uw
def xH:DS:=ar xG ux
def xI:DS:=ar xF xH
def xJ:DS:=ar xE xI
def xK:DS:=ar xD xJ
def xM:DS:=ar xC xK
def xN:DS:=ar xB xM
def xO:DS:=ar xA xN
def xP:DS:=ar xy xO
def xQ:DS:=ar xx xP
def Dn:DS:=ar xw xQ
theorem Jr:Dm=Dn:=rfl
theorem AB(e:Slots)(μ:af):Dn e μ=(xw e μ).seq xQ:=rfl
theorem AD(e:Slots)(μ:af):xQ e μ=(xx e μ).seq xP:=rfl
theorem AE(e:Slots)(μ:af):xP e μ=(xy e μ).seq xO:=rfl
theorem AF(e:Slots)(μ:af):xO e μ=(xA e μ).seq xN:=rfl
theorem AG(e:Slots)(μ:af):xN e μ=(xB e μ).seq xM:=rfl
theorem AH(e:Slots)(μ:af):xM e μ=(xC e μ).seq xK:=rfl
theorem AI(e:Slots)(μ:af):xK e μ=(xD e μ).seq xJ:=rfl
theorem AJ(e:Slots)(μ:af):xJ e μ=(xE e μ).seq xI:=rfl
theorem AK(e:Slots)(μ:af):xI e μ=(xF e μ).seq xH:=rfl
theorem AL(e:Slots)(μ:af):xH e μ=(xG e μ).seq ux:=rfl
theorem xR(e:Slots)(μ:af):ux e μ=uw e μ:=rfl
def nN:FN:=fnV 12 Dm
end Fw.k33
section
set_option maxHeartbeats 4000000
namespace Fw.k33
open PySem L2 Fw
seal Fw.CE Fw.CT Fw.CA Fw.CS Fw.CSs Fw.CI Fw.CB Fw.CF Fw.CW Fw.CO L2.kP
def top(i:Nat):Stmt:=PySem.Challenge.pw_fewopen_k33_least_and_greatest.main.body.getD i (.Pass ⟨0,0,0,0⟩)
noncomputable abbrev jG : Stmt := top 4
noncomputable abbrev fW : Stmt := top 6
noncomputable abbrev gz : Stmt := top 7
noncomputable abbrev cu : Stmt := top 8
noncomputable abbrev ip : Stmt := top 9
noncomputable abbrev cg : Stmt := top 10
noncomputable abbrev kq : Stmt := top 11
noncomputable abbrev kr : Stmt := top 12
noncomputable abbrev eA : Stmt := top 14
noncomputable abbrev dI : Stmt := top 16
noncomputable abbrev bL : Stmt := top 17
noncomputable abbrev dy : Stmt := top 18
noncomputable abbrev gA : Stmt := top 19
noncomputable abbrev cw : Stmt := top 21
noncomputable abbrev bM : Stmt := top 22
noncomputable abbrev eB : Stmt := top 23
noncomputable abbrev bE : Stmt := top 24
noncomputable abbrev c_ : Stmt := top 25
noncomputable abbrev bD : Stmt := top 26
noncomputable abbrev bA : Stmt := top 27
noncomputable abbrev jH : Stmt := top 28
noncomputable abbrev dz : Stmt := top 30
noncomputable abbrev ed : Stmt := top 31
noncomputable abbrev gg : Stmt := top 32
noncomputable abbrev cx : Stmt := top 33
noncomputable abbrev cQ : Stmt := top 34
noncomputable abbrev cR : Stmt := top 35
noncomputable abbrev bN : Stmt := top 36
noncomputable abbrev bJ : Stmt := top 37
noncomputable abbrev cj : Stmt := top 38
noncomputable abbrev iX : Stmt := top 39
structure Tx(K:PySem.W.Frag)(mg:Str→Option Value):Prop where
 LD:mg "all"=none
 LF:mg "any"=none
 Dp:mg "bool"=none
 vS:mg "enumerate"=none
 eC:mg "isinstance"=none
 zq:mg "len"=none
 jI:mg "list"=none
 Hf:mg "min"=none
 d5:mg "range"=none
 gh:mg "sorted"=none
 cS:mg "tuple"=none
 LG:mg "zip"=none
noncomputable abbrev n0 : List Str := ["entry", "p", "number"]
noncomputable abbrev n1 : List Str := ["p", "number", "row"]
noncomputable abbrev n2 : List Str := ["entry", "other", "p", "number"]
noncomputable abbrev n3 : List Str := ["p", "row", "lead", "place", "number"]
noncomputable abbrev n4 : List Str := ["line", "p", "place"]
noncomputable abbrev n5 : List Str := ["p", "lines", "place"]
noncomputable abbrev n6 : List Str := ["number", "row", "hands"]
noncomputable abbrev n7 : List Str := ["table", "hands"]
noncomputable abbrev n8 : List Str := ["number", "table"]
noncomputable abbrev n9 : List Str := ["table", "numbers"]
noncomputable abbrev n10 : List Str := ["place"]
noncomputable abbrev n11 : List Str := ["wide"]
noncomputable abbrev n12 : List Str := ["hands", "hand"]
noncomputable abbrev n13 : List Str := ["many", "found", "hand"]
noncomputable abbrev n14 : List Str := ["other", "hand"]
noncomputable abbrev n15 : List Str := ["hand", "opening", "hands"]
noncomputable abbrev n16 : List Str := ["opening", "hands"]
noncomputable abbrev n17 : List Str := ["opening", "many", "hands"]
noncomputable abbrev n18 : List Str := ["hands", "opening"]
noncomputable abbrev n19 : List Str := ["table", "many", "opening", "hands", "least", "greatest"]
noncomputable abbrev n20 : List Str := ["hands", "opening", "many"]
noncomputable abbrev n21 : List Str := ["hand", "hands"]
noncomputable abbrev n22 : List Str := ["table", "many", "hands"]
noncomputable abbrev n23 : List Str := ["_law_some", "_law_hand"]
noncomputable abbrev n24 : List Str := ["_law_many", "_law_found", "_law_hand"]
noncomputable abbrev n25 : List Str := ["_law_hand", "_law_other"]
noncomputable abbrev n26 : List Str := ["_law_one", "_law_other"]
noncomputable abbrev n27 : List Str := ["_law_one", "_law_hand"]
noncomputable abbrev n28 : List Str := ["_law_hand", "_law_hands"]
noncomputable abbrev n29 : List Str := ["_law_some", "_law_opened", "_law_many", "_law_least", "_law_greatest", "_law_hands", "_law_fewer", "_law_more"]
noncomputable abbrev n30 : List Str := ["_law_one", "_law_opened"]
noncomputable abbrev n31 : List Str := ["_law_hand"]
noncomputable abbrev n32 : List Str := ["_law_found", "_law_lists", "_law_hands"]
noncomputable abbrev n33 : List Str := ["_law_script", "_law_table_here", "_law_many", "_law_some", "_law_opened", "_law_hands", "_law_due_here", "_law_found", "_law_others", "_law_told_bar", "_law_inner", "_law_outer"]
noncomputable abbrev n34 : List Str := ["_law_one", "_law_hands"]
noncomputable abbrev n35 : List Str := ["p", "one", "other", "rest", "told"]
noncomputable abbrev n36 : List Str := ["p", "one", "other"]
noncomputable abbrev n37 : List Str := ["p", "row", "lead", "place"]
noncomputable abbrev n38 : List Str := ["row", "many", "place"]
noncomputable abbrev n39 : List Str := ["row", "many"]
noncomputable abbrev n40 : List Str := ["p", "rows", "many", "leads", "noughts", "row", "rest", "place", "lead", "found", "fresh"]
noncomputable abbrev n41 : List Str := ["p", "rows", "many"]
noncomputable abbrev n42 : List Str := ["width", "place", "row"]
noncomputable abbrev n43 : List Str := ["width", "place"]
noncomputable abbrev n44 : List Str := ["p", "width", "lines", "wished", "many", "rows", "place", "parted", "row", "multipliers", "lead"]
noncomputable abbrev n45 : List Str := ["p", "width", "lines", "wished"]
noncomputable abbrev n46 : List Str := ["table", "numbers", "found"]
noncomputable abbrev n47 : List Str := ["many"]
noncomputable abbrev n48 : List Str := ["table", "many"]
noncomputable abbrev n49 : List Str := ["_law_script", "_law_k", "_law_number"]
noncomputable abbrev n50 : List Str := ["_law_script", "_law_k"]
noncomputable abbrev n51 : List Str := ["_law_cell_here", "_law_most", "_law_many", "_law_found", "_law_turn", "_law_number"]
noncomputable abbrev n52 : List Str := ["_law_cell_here", "_law_most", "_law_many"]
noncomputable abbrev n53 : List Str := ["_law_cell_here"]
noncomputable abbrev n54 : List Str := ["_law_p_here", "_law_wide", "_law_x", "_law_found", "_law_k"]
noncomputable abbrev n55 : List Str := ["_law_p_here", "_law_wide", "_law_x"]
noncomputable abbrev n56 : List Str := ["_law_script", "_law_cell_here", "_law_p_here", "_law_wide", "_law_many", "_law_count", "_law_rows", "_law_hand", "_law_k", "_law_own", "_law_line"]
noncomputable abbrev n57 : List Str := ["_law_script"]
noncomputable abbrev n58 : List Str := ["_law_many"]
noncomputable abbrev n59 : List Str := ["_law_some", "_law_opened", "_law_many"]
noncomputable abbrev n60 : List Str := ["_law_found"]
section
variable{P:Program}{w:World}{K:PySem.W.Frag}{mg:Str→Option Value}{base:Heap}
theorem mN:aP n35 n36 (ai jG):=⟨rfl,rfl,rfl,by decide +kernel,rfl,by decide +kernel,by decide +kernel⟩
theorem Dq{ku:Addr}{kx:FuncData}(T:Tx K mg)(jJ:Gf K mg "over" jG n36 ku kx) :
  aV P w K mg base CX0 1 ku kx n36 (spD K mG 3) :=
 cp .V jJ.F mN λcdv A outer s H E hr=>(aj (aG 3 mN.nd (bp (ae 2) (ae 0)))
 (aj (eG (iV hr (ae 3) aq) (au IQ) bZ)
 (aj (aG 4 mN.nd (bp (ae 1) (ae 0)))
 (aj (Cb PassesOwn.never (og hr (ae 3) aq) (aj (aG 4 mN.nd (bp (gv (Jb (ae 4)) (d9 (ae 0) (ae 3))) (ae 0)))
 (au (aG 3 mN.nd (bp (ae 0) (ae 3))))))
 (au (aO (ae 4)))))))
theorem Dr:aP n1 n1 (ai fW):=⟨rfl,rfl,rfl,by decide +kernel,rfl,by decide +kernel,by decide +kernel⟩
theorem AM{iq:Addr}{ir:FuncData}(T:Tx K mg)(gB:Gf K mg "times" fW n1 iq ir) :
  aV P w K mg base CX0 1 iq ir n1 (spD K kb 3) :=
 cp .V gB.F Dr λcdv A outer s H E hr=>(au (aO (CF.ce (cN (N':=n0) rfl (aA (ai fW) rfl n1 rfl (by decide +kernel)) rfl (aC rfl) (cc (ae 2)) (λ_ _ _ _ _=>(aE 0 (show n0.Nodup by decide +kernel))) (λ_ _ _ _ _=>ei) (λ_ _ _ _ _=>(bp (gv (ae 2) (ae 0)) (ae 1)))))))
theorem vT:aP n3 n37 (ai gz):=⟨rfl,rfl,rfl,by decide +kernel,rfl,by decide +kernel,by decide +kernel⟩
theorem AN{mO:Addr}{mP:FuncData}(T:Tx K mg)(iu:Gf K mg "freed" gz n37 mO mP) :
  aV P w K mg base CX0 1 mO mP n37 (spD K mH 4) :=
 cp .V iu.F vT λcdv A outer s H E hr=>(aj (aG 4 vT.nd (bf (ae 1) (ae 3)))
 (aj (eG (iV hr (ae 4) aq) (au (aO (ae 1))) bZ)
 (au (aO (CF.ce (cN (N':=n2) rfl (aA (ai gz) rfl n3 rfl (by decide +kernel)) rfl (n_ rfl rfl) (Jg T.LG (ae 1) (ae 2)) (λ_ _ _ _ _=>(my 0 1 (show n2.Nodup by decide +kernel) rfl)) (λ_ _ _ _ _=>ei) (λ_ _ _ _ _=>(bp (CC (ae 0) (gv (ae 3) (ae 1))) (ae 2)))))))))
theorem ky:aP n38 n39 (ai cu):=⟨rfl,rfl,rfl,by decide +kernel,rfl,by decide +kernel,by decide +kernel⟩
theorem oK{eK:Addr}{eL:FuncData}(T:Tx K mg)(eM:Gf K mg "first_place" cu n39 eK eL) :
  aV P w K mg base CX0 1 eK eL n39 (spD K gU 2) :=
 cp .V eM.F ky λcdv A outer s H E hr=>(aj (dm PassesOwn.never rfl (b3 T.d5 (ae 1)) (aE 2 ky.nd) (au (eG (og hr (bf (ae 0) (ae 2)) aq) (au (aO (ae 2))) bZ)))
 (au (aO B5)))
theorem eN:aP n40 n41 (ai ip):=⟨rfl,rfl,rfl,by decide +kernel,rfl,by decide +kernel,by decide +kernel⟩
theorem AO{mQ:Addr}{mR:FuncData}(T:Tx K mg)(mS:Gf K mg "eased" ip n41 mQ mR)
  {mO:Addr}{mP:FuncData} (iu:Gf K mg "freed" gz n37 mO mP)
  (vU:aV P w K mg base CX0 1 mO mP n37 (spD K mH 4))
  {eK:Addr}{eL:FuncData} (eM:Gf K mg "first_place" cu n39 eK eL)
  (qv:aV P w K mg base CX0 1 eK eL n39 (spD K gU 2))
  {ku:Addr}{kx:FuncData} (jJ:Gf K mg "over" jG n36 ku kx)
  (uy:aV P w K mg base CX0 1 ku kx n36 (spD K mG 3))
  {iq:Addr}{ir:FuncData} (gB:Gf K mg "times" fW n1 iq ir)
  (qw:aV P w K mg base CX0 1 iq ir n1 (spD K kb 3)) :
  aV P w K mg base CX0 2 mQ mR n41 (spD K qe 3) :=
 cp .V mS.F eN λcdv A outer s H E hr=>(aj (aG 3 eN.nd (CF.cell Je))
 (aj (aG 4 eN.nd (CF.cell (cI av)))
 (aj (dm PassesOwn.never rfl (cc (ae 1)) (aE 5 eN.nd) (aj (aG 6 eN.nd (ae 5))
 (aj (dm PassesOwn.never rfl (vC (ae 3)) (my 7 8 eN.nd rfl) (au (aG 6 eN.nd (aF vU (hr.mono (by decide)) iu.m iu.F.kp iu.b (ag (ae 0) (ag (ae 6) (ag (ae 8) (ag (ae 7) av))))))))
 (aj (aG 9 eN.nd (aF qv (hr.mono (by decide)) eM.m eM.F.kp eM.b (ag (ae 6) (ag (ae 2) av))))
 (au (eG (Ji (ae 9)) (au (dU (ae 4) (ae 6))) (aj (aG 10 eN.nd (aF qw (hr.mono (by decide)) gB.m gB.F.kp gB.b (ag (ae 0) (ag (aF uy (hr.mono (by decide)) jJ.m jJ.F.kp jJ.b (ag (ae 0) (ag aq (ag (bf (ae 6) (ae 9)) av)))) (ag (ae 6) av)))))
 (aj (dm PassesOwn.never rfl (cc (CF.ce (C1 T.jI (ae 3)))) (aE 7 eN.nd) (au (zd hr 3 (ae 7) (aF vU (hr.mono (by decide)) iu.m iu.F.kp iu.b (ag (ae 0) (ag (FK hr (ae 3) (ae 7)) (ag (ae 10) (ag (ae 9) av))))))))
 (au (zd hr 3 (ae 9) (ae 10)))))))))))
 (au (aO (gN (ag (ae 3) (ag (ae 4) av))))))))
theorem rS:aP n5 n5 (ai cg):=⟨rfl,rfl,rfl,by decide +kernel,rfl,by decide +kernel,by decide +kernel⟩
theorem qx{fA:Addr}{fB:FuncData}(T:Tx K mg)(fC:Gf K mg "numbers_at" cg n5 fA fB) :
  aV P w K mg base CX0 1 fA fB n5 (spD K iE 3) :=
 cp .V fC.F rS λcdv A outer s H E hr=>(au (aO (CF.ce (cN (N':=n4) rfl (aA (ai cg) rfl n5 rfl (by decide +kernel)) rfl (aC rfl) (cc (ae 1)) (λ_ _ _ _ _=>(aE 0 (show n4.Nodup by decide +kernel))) (λ_ _ _ _ _=>ei) (λ_ _ _ _ _=>(bp (bf (ae 0) (ae 2)) (ae 1)))))))
theorem zr:aP n42 n43 (ai kq):=⟨rfl,rfl,rfl,by decide +kernel,rfl,by decide +kernel,by decide +kernel⟩
theorem Ds{qy:Addr}{qA:FuncData}(T:Tx K mg)(qB:Gf K mg "unit" kq n43 qy qA) :
  aV P w K mg base CX0 1 qy qA n43 (spD K uo 2) :=
 cp .V qB.F zr λcdv A outer s H E hr=>(aj (aG 2 zr.nd (CF.cell (CQ (ag aq av) (ae 0))))
 (aj (lD 2 (ae 1) aq)
 (au (aO (ae 2)))))
theorem iw:aP n44 n45 (ai kr):=⟨rfl,rfl,rfl,by decide +kernel,rfl,by decide +kernel,by decide +kernel⟩
theorem Dt{qC:Addr}{qD:FuncData}(T:Tx K mg)(qE:Gf K mg "held" kr n45 qC qD)
  {fA:Addr}{fB:FuncData} (fC:Gf K mg "numbers_at" cg n5 fA fB)
  (rT:aV P w K mg base CX0 1 fA fB n5 (spD K iE 3))
  {qy:Addr}{qA:FuncData} (qB:Gf K mg "unit" kq n43 qy qA)
  (Ge:aV P w K mg base CX0 1 qy qA n43 (spD K uo 2))
  {mQ:Addr}{mR:FuncData} (mS:Gf K mg "eased" ip n41 mQ mR)
  (Du:aV P w K mg base CX0 2 mQ mR n41 (spD K qe 3))
  {ku:Addr}{kx:FuncData} (jJ:Gf K mg "over" jG n36 ku kx)
  (uy:aV P w K mg base CX0 1 ku kx n36 (spD K mG 3))
  {iq:Addr}{ir:FuncData} (gB:Gf K mg "times" fW n1 iq ir)
  (qw:aV P w K mg base CX0 1 iq ir n1 (spD K kb 3)) :
  aV P w K mg base CX0 3 qC qD n45 (spD K kM 4) :=
 cp .K qE.F iw λcdv A outer s H E hr=>(aj (aG 4 iw.nd (t9 T.zq (ae 2)))
 (aj (aG 5 iw.nd (CF.cell (cI av)))
 (aj (dm PassesOwn.never rfl (b3 T.d5 (ae 1)) (aE 6 iw.nd) (au (dU (ae 5) (dn (dn (aF rT (hr.mono (by decide)) fC.m fC.F.kp fC.b (ag (ae 0) (ag (ae 2) (ag (ae 6) av)))) (CF.ce (cI (ag (bp (bf (ae 3) (ae 6)) (ae 0)) av)))) (aF Ge (hr.mono (by decide)) qB.m qB.F.kp qB.b (ag (ae 1) (ag (ae 6) av)))))))
 (aj (aG 7 iw.nd (aF Du (hr.mono (by decide)) mS.m mS.F.kp mS.b (ag (ae 0) (ag (ae 5) (ag (ae 4) av)))))
 (aj (dm PassesOwn.never rfl (cc (bf (ae 7) aq)) (aE 8 iw.nd) (au (eG (og hr (bf (ae 8) (ae 4)) aq) (au (aO (ni (ag lu (ag (b_ T.cS (aF qw (hr.mono (by decide)) gB.m gB.F.kp gB.b (ag (ae 0) (ag (aF uy (hr.mono (by decide)) jJ.m jJ.F.kp jJ.b (ag (ae 0) (ag aq (ag (bf (ae 8) (ae 4)) av)))) (ag (Jh (ae 8) (FG (dn (ae 4) aq)) FF) av))))) av))))) bZ)))
 (aj (aG 9 iw.nd (CF.cell (CQ (ag aq av) (ae 4))))
 (aj (dm PassesOwn.never rfl (vC (bf (ae 7) aq)) (my 6 10 iw.nd rfl) (au (lD 9 (ae 6) (bf (ae 10) (ae 4)))))
 (au (aO (ni (ag lu (ag (ae 9) av))))))))))))
theorem xS:aP n7 n7 (ai eA):=⟨rfl,rfl,rfl,by decide +kernel,rfl,by decide +kernel,by decide +kernel⟩
theorem vV{iY:Addr}{iZ:FuncData}(T:Tx K mg)(i4:Gf K mg "rows_of" eA n7 iY iZ) :
  aV P w K mg base CX0 1 iY iZ n7 (spD K cE 2) :=
 cp .V i4.F xS λcdv A outer s H E hr=>(au (aO (CF.ce (cN (N':=n6) rfl (aA (ai eA) rfl n7 rfl (by decide +kernel)) rfl (n_ rfl rfl) (FR T.vS (bf (ae 0) aq)) (λ_ _ _ _ _=>(my 0 1 (show n6.Nodup by decide +kernel) rfl)) (λ_ _ _ _ _=>(bz (LA hr (bf (ae 1) aq) (ae 2)))) (λ_ _ _ _ _=>(ae 0))))))
theorem vW:aP n9 n9 (ai dI):=⟨rfl,rfl,rfl,by decide +kernel,rfl,by decide +kernel,by decide +kernel⟩
theorem uz{gW:Addr}{gX:FuncData}(T:Tx K mg)(gY:Gf K mg "lines_at" dI n9 gW gX) :
  aV P w K mg base CX0 1 gW gX n9 (spD K d_ 2) :=
 cp .V gY.F vW λcdv A outer s H E hr=>(au (aO (CF.ce (cN (N':=n8) rfl (aA (ai dI) rfl n9 rfl (by decide +kernel)) rfl (aC rfl) (cc (ae 1)) (λ_ _ _ _ _=>(aE 0 (show n8.Nodup by decide +kernel))) (λ_ _ _ _ _=>ei) (λ_ _ _ _ _=>(bf (bf (bf (ae 1) aq) (ae 0)) aq))))))
theorem qF:aP n11 n11 (ai bL):=⟨rfl,rfl,rfl,by decide +kernel,rfl,by decide +kernel,by decide +kernel⟩
theorem oM{eO:Addr}{eP:FuncData}(T:Tx K mg)(eQ:Gf K mg "hidden_line" bL n11 eO eP) :
  aV P w K mg base CX0 1 eO eP n11 (spD K cF 1) :=
 cp .V eQ.F qF λcdv A outer s H E hr=>(au (aO (b_ T.cS (CF.ce (cN (N':=n10) rfl (aA (ai bL) rfl n11 rfl (by decide +kernel)) rfl (aC rfl) (b3 T.d5 (ae 0)) (λ_ _ _ _ _=>(aE 0 (show n10.Nodup by decide +kernel))) (λ_ _ _ _ _=>ei) (λ_ _ _ _ _=>(IP (iV hr (ae 0) aq) aq aq)))))))
theorem mT:aP n46 n9 (ai dy):=⟨rfl,rfl,rfl,by decide +kernel,rfl,by decide +kernel,by decide +kernel⟩
theorem rV{gi:Addr}{gj:FuncData}(T:Tx K mg)(gk:Gf K mg "opened_by" dy n9 gi gj)
  {gW:Addr}{gX:FuncData} (gY:Gf K mg "lines_at" dI n9 gW gX)
  (vX:aV P w K mg base CX0 1 gW gX n9 (spD K d_ 2))
  {eO:Addr}{eP:FuncData} (eQ:Gf K mg "hidden_line" bL n11 eO eP)
  (qG:aV P w K mg base CX0 1 eO eP n11 (spD K cF 1))
  {qC:Addr}{qD:FuncData} (qE:Gf K mg "held" kr n45 qC qD)
  (Gg:aV P w K mg base CX0 3 qC qD n45 (spD K kM 4)) :
  aV P w K mg base CX0 4 gi gj n9 (spD K cf 2) :=
 cp .K gk.F mT λcdv A outer s H E hr=>(aj (aG 2 mT.nd (aF Gg (hr.mono (by decide)) qE.m qE.F.kp qE.b (ag (bf (ae 0) aq) (ag (bf (ae 0) aq) (ag (aF vX (hr.mono (by decide)) gY.m gY.F.kp gY.b (ag (ae 0) (ag (ae 1) av))) (ag (aF qG (hr.mono (by decide)) eQ.m eQ.F.kp eQ.b (ag (bf (ae 0) aq) av)) av))))))
 (aj (eG (iV hr (bf (ae 2) aq) lu) (au (aO (ni (ag lu (ag (bf (ae 2) aq) av))))) bZ)
 (au (aO (ni (ag lu (ag (bf (ae 2) aq) av)))))))
theorem Dv:aP n7 n7 (ai gA):=⟨rfl,rfl,rfl,by decide +kernel,rfl,by decide +kernel,by decide +kernel⟩
theorem AQ{ix:Addr}{iy:FuncData}(T:Tx K mg)(gC:Gf K mg "opens" gA n7 ix iy)
  {iY:Addr}{iZ:FuncData} (i4:Gf K mg "rows_of" eA n7 iY iZ)
  (xT:aV P w K mg base CX0 1 iY iZ n7 (spD K cE 2))
  {gi:Addr}{gj:FuncData} (gk:Gf K mg "opened_by" dy n9 gi gj)
  (uA:aV P w K mg base CX0 4 gi gj n9 (spD K cf 2)) :
  aV P w K mg base CX0 5 ix iy n7 (spD K dq 2) :=
 cp .V gC.F Dv λcdv A outer s H E hr=>(au (aO (aF uA (hr.mono (by decide)) gk.m gk.F.kp gk.b (ag (ae 0) (ag (aF xT (hr.mono (by decide)) i4.m i4.F.kp i4.b (ag (ae 0) (ag (ae 1) av))) av)))))
theorem uB:aP n7 n7 (ai cw):=⟨rfl,rfl,rfl,by decide +kernel,rfl,by decide +kernel,by decide +kernel⟩
theorem rW{bS:Addr}{bT:FuncData}(T:Tx K mg)(bB:Gf K mg "is_opened" cw n7 bS bT)
  {ix:Addr}{iy:FuncData} (gC:Gf K mg "opens" gA n7 ix iy)
  (qH:aV P w K mg base CX0 5 ix iy n7 (spD K dq 2)) :
  aV P w K mg base CX0 6 bS bT n7 (spD K bt 2) :=
 cp .V bB.F uB λcdv A outer s H E hr=>(au (aO (vx hr (bf (aF qH (hr.mono (by decide)) gC.m gC.F.kp gC.b (ag (ae 0) (ag (ae 1) av))) aq) lu)))
theorem fX:aP n13 n47 (ai bM):=⟨rfl,rfl,rfl,by decide +kernel,rfl,by decide +kernel,by decide +kernel⟩
theorem qI{cT:Addr}{cU:FuncData}(T:Tx K mg)(ck:Gf K mg "sets_below" bM n47 cT cU) :
  aV P w K mg base CX0 1 cT cU n47 (spD K cq 1) :=
 cp .V ck.F fX λcdv A outer s H E hr=>(aj (aG 1 fX.nd (CF.ce (cI (ag (gN av) av))))
 (aj (dm PassesOwn.never rfl (b3 T.d5 (ae 0)) (aE 2 fX.nd) (au (aG 1 fX.nd (dn (ae 1) (CF.ce (cN (N':=n12) rfl (aA (ai bM) rfl n13 rfl (by decide +kernel)) rfl (aC rfl) (cc (ae 1)) (λ_ _ _ _ _=>(aE 0 (show n12.Nodup by decide +kernel))) (λ_ _ _ _ _=>ei) (λ_ _ _ _ _=>(dn (ae 0) (gN (ag (ae 1) av))))))))))
 (au (aO (ae 1)))))
theorem xU:aP n12 n12 (ai eB):=⟨rfl,rfl,rfl,by decide +kernel,rfl,by decide +kernel,by decide +kernel⟩
theorem vY{i5:Addr}{i6:FuncData}(T:Tx K mg)(i7:Gf K mg "without" eB n12 i5 i6) :
  aV P w K mg base CX0 1 i5 i6 n12 (spD K fP 2) :=
 cp .V i7.F xU λcdv A outer s H E hr=>(au (aO (b_ T.cS (CF.ce (cN (N':=n14) rfl (aA (ai eB) rfl n12 rfl (by decide +kernel)) rfl (aC rfl) (cc (ae 0)) (λ_ _ _ _ _=>(aE 0 (show n14.Nodup by decide +kernel))) (λ_ _ _ _ _=>(bz (og hr (ae 0) (ae 1)))) (λ_ _ _ _ _=>(ae 0)))))))
theorem nO:aP n12 n12 (ai bE):=⟨rfl,rfl,rfl,by decide +kernel,rfl,by decide +kernel,by decide +kernel⟩
theorem mU{dO:Addr}{dP:FuncData}(T:Tx K mg)(dQ:Gf K mg "with_one_more" bE n12 dO dP) :
  aV P w K mg base CX0 1 dO dP n12 (spD K cD 2) :=
 cp .V dQ.F nO λcdv A outer s H E hr=>(au (aO (b_ T.cS (xt T.gh (dn (ae 0) (gN (ag (ae 1) av)))))))
theorem vZ:aP n16 n16 (ai c_):=⟨rfl,rfl,rfl,by decide +kernel,rfl,by decide +kernel,by decide +kernel⟩
theorem uC{ee:Addr}{ef:FuncData}(T:Tx K mg)(dJ:Gf K mg "is_least" c_ n16 ee ef)
  {i5:Addr}{i6:FuncData} (i7:Gf K mg "without" eB n12 i5 i6)
  (xV:aV P w K mg base CX0 1 i5 i6 n12 (spD K fP 2)) :
  aV P w K mg base CX0 2 ee ef n16 (spD K dw 2) :=
 cp .V dJ.F vZ λcdv A outer s H E hr=>(au (aO (w6 (fw hr (ae 0) (ae 1)) (B_ (Ca (Jd hr T.LF (CF.ce (cN (N':=n15) rfl (aA (ai c_) rfl n16 rfl (by decide +kernel)) rfl (aC rfl) (cc (ae 1)) (λ_ _ _ _ _=>(aE 0 (show n15.Nodup by decide +kernel))) (λ_ _ _ _ _=>ei) (λ_ _ _ _ _=>(fw hr (ae 1) (aF xV (hr.mono (by decide)) i7.m i7.F.kp i7.b (ag (ae 2) (ag (ae 0) av)))))))))))))
theorem qJ:aP n17 n17 (ai bD):=⟨rfl,rfl,rfl,by decide +kernel,rfl,by decide +kernel,by decide +kernel⟩
theorem oN{cy:Addr}{cz:FuncData}(T:Tx K mg)(bO:Gf K mg "is_greatest" bD n17 cy cz)
  {dO:Addr}{dP:FuncData} (dQ:Gf K mg "with_one_more" bE n12 dO dP)
  (nP:aV P w K mg base CX0 1 dO dP n12 (spD K cD 2)) :
  aV P w K mg base CX0 2 cy cz n17 (spD K bR 3) :=
 cp .V bO.F qJ λcdv A outer s H E hr=>(aj (eG (eX (fw hr (ae 0) (ae 2))) (au (aO vj)) bZ)
 (au (aO (Jc hr T.LD (CF.ce (cN (N':=n15) rfl (aA (ai bD) rfl n17 rfl (by decide +kernel)) rfl (aC rfl) (b3 T.d5 (ae 1)) (λ_ _ _ _ _=>(aE 0 (show n15.Nodup by decide +kernel))) (λ_ _ _ _ _=>(bz (qa hr (ae 0) (ae 2)))) (λ_ _ _ _ _=>(fw hr (ae 1) (aF nP (hr.mono (by decide)) dQ.m dQ.F.kp dQ.b (ag (ae 2) (ag (ae 0) av)))))))))))
theorem bP:aP n19 n48 (ai bA):=⟨rfl,rfl,rfl,by decide +kernel,rfl,by decide +kernel,by decide +kernel⟩
theorem rX{cV:Addr}{cW:FuncData}(T:Tx K mg)(cA:Gf K mg "open_sets" bA n48 cV cW)
  {cT:Addr}{cU:FuncData} (ck:Gf K mg "sets_below" bM n47 cT cU)
  (iK:aV P w K mg base CX0 1 cT cU n47 (spD K cq 1))
  {bS:Addr}{bT:FuncData} (bB:Gf K mg "is_opened" cw n7 bS bT)
  (fD:aV P w K mg base CX0 6 bS bT n7 (spD K bt 2))
  {ee:Addr}{ef:FuncData} (dJ:Gf K mg "is_least" c_ n16 ee ef)
  (kA:aV P w K mg base CX0 2 ee ef n16 (spD K dw 2))
  {cy:Addr}{cz:FuncData} (bO:Gf K mg "is_greatest" bD n17 cy cz)
  (gZ:aV P w K mg base CX0 2 cy cz n17 (spD K bR 3)) :
  aV P w K mg base CX0 7 cV cW n48 (spD K dG 2) :=
 cp .K cA.F bP λcdv A outer s H E hr=>(aj (aG 2 bP.nd (CF.cell xo))
 (aj (dm PassesOwn.never rfl (cc (aF iK (hr.mono (by decide)) ck.m ck.F.kp ck.b (ag (ae 1) av))) (aE 3 bP.nd) (au (uh hr 2 (ae 3) (aF fD (hr.mono (by decide)) bB.m bB.F.kp bB.b (ag (ae 0) (ag (ae 3) av))))))
 (aj (dE (cO 4 (N':=n18) rfl (aA (ai bA) rfl n19 rfl (by decide +kernel)) rfl (aC rfl) (mF (ae 2)) (λ_ _ _ _ _=>(aE 0 (show n18.Nodup by decide +kernel))) (λ_ _ _ _ _=>(bz (eX (aF kA (hr.mono (by decide)) dJ.m dJ.F.kp dJ.b (ag (ae 1) (ag (ae 0) av)))))) (λ_ _ _ _ _=>(CF.ce (mD T.jI (ae 0)))) bP.nd) λ_ _ _ _ h=>dS h)
 (aj (dE (cO 5 (N':=n20) rfl (aA (ai bA) rfl n19 rfl (by decide +kernel)) rfl (aC rfl) (mF (ae 2)) (λ_ _ _ _ _=>(aE 0 (show n20.Nodup by decide +kernel))) (λ_ _ _ _ _=>(bz (eX (aF gZ (hr.mono (by decide)) bO.m bO.F.kp bO.b (ag (ae 1) (ag (ae 2) (ag (ae 0) av))))))) (λ_ _ _ _ _=>(CF.ce (mD T.jI (ae 0)))) bP.nd) λ_ _ _ _ h=>dS h)
 (au (aO (ni (ag (CF.cell (fO hr T.gh (ae 4))) (ag (CF.cell (fO hr T.gh (ae 5))) av)))))))))
theorem rY{cV:Addr}{cW:FuncData}(T:Tx K mg)(cA:Gf K mg "open_sets" bA n48 cV cW)
  {cT:Addr}{cU:FuncData} (ck:Gf K mg "sets_below" bM n47 cT cU)
  (iK:aV P w K mg base CX0 1 cT cU n47 (spD K cq 1))
  {bS:Addr}{bT:FuncData} (bB:Gf K mg "is_opened" cw n7 bS bT)
  (fD:aV P w K mg base CX0 6 bS bT n7 (spD K bt 2))
  {ee:Addr}{ef:FuncData} (dJ:Gf K mg "is_least" c_ n16 ee ef)
  (kA:aV P w K mg base CX0 2 ee ef n16 (spD K dw 2))
  {cy:Addr}{cz:FuncData} (bO:Gf K mg "is_greatest" bD n17 cy cz)
  (gZ:aV P w K mg base CX0 2 cy cz n17 (spD K bR 3)) :
  aV P w K mg base CX0 7 cV cW n48 (spD K dH 2) :=
 cp .V cA.F bP λcdv A outer s H E hr=>(aj (aG 2 bP.nd (CF.cell xo))
 (aj (dm PassesOwn.never rfl (cc (aF iK (hr.mono (by decide)) ck.m ck.F.kp ck.b (ag (ae 1) av))) (aE 3 bP.nd) (au (uh hr 2 (ae 3) (aF fD (hr.mono (by decide)) bB.m bB.F.kp bB.b (ag (ae 0) (ag (ae 3) av))))))
 (aj (dE (cO 4 (N':=n18) rfl (aA (ai bA) rfl n19 rfl (by decide +kernel)) rfl (aC rfl) (mF (ae 2)) (λ_ _ _ _ _=>(aE 0 (show n18.Nodup by decide +kernel))) (λ_ _ _ _ _=>(bz (eX (aF kA (hr.mono (by decide)) dJ.m dJ.F.kp dJ.b (ag (ae 1) (ag (ae 0) av)))))) (λ_ _ _ _ _=>(CF.ce (mD T.jI (ae 0)))) bP.nd) λ_ _ _ _ h=>dS h)
 (aj (dE (cO 5 (N':=n20) rfl (aA (ai bA) rfl n19 rfl (by decide +kernel)) rfl (aC rfl) (mF (ae 2)) (λ_ _ _ _ _=>(aE 0 (show n20.Nodup by decide +kernel))) (λ_ _ _ _ _=>(bz (eX (aF gZ (hr.mono (by decide)) bO.m bO.F.kp bO.b (ag (ae 1) (ag (ae 2) (ag (ae 0) av))))))) (λ_ _ _ _ _=>(CF.ce (mD T.jI (ae 0)))) bP.nd) λ_ _ _ _ h=>dS h)
 (au (aO (ni (ag (CF.cell (fO hr T.gh (ae 4))) (ag (CF.cell (fO hr T.gh (ae 5))) av)))))))))
theorem Gh:aP n22 n22 (ai jH):=⟨rfl,rfl,rfl,by decide +kernel,rfl,by decide +kernel,by decide +kernel⟩
theorem Dw{qK:Addr}{qL:FuncData}(T:Tx K mg)(qM:Gf K mg "bars" jH n22 qK qL)
  {bS:Addr}{bT:FuncData} (bB:Gf K mg "is_opened" cw n7 bS bT)
  (fD:aV P w K mg base CX0 6 bS bT n7 (spD K bt 2)) :
  aV P w K mg base CX0 7 qK qL n22 (spD K jC 3) :=
 cp .V qM.F Gh λcdv A outer s H E hr=>(au (aO (Ca (aF fD (hr.mono (by decide)) bB.m bB.F.kp bB.b (ag (ae 0) (ag (CF.ce (cN (N':=n21) rfl (aA (ai jH) rfl n22 rfl (by decide +kernel)) rfl (aC rfl) (b3 T.d5 (ae 1)) (λ_ _ _ _ _=>(aE 0 (show n21.Nodup by decide +kernel))) (λ_ _ _ _ _=>(bz (qa hr (ae 0) (ae 1)))) (λ_ _ _ _ _=>(ae 0)))) av))))))
theorem gD:aP n49 n50 (ai dz):=⟨rfl,rfl,rfl,by decide +kernel,rfl,by decide +kernel,by decide +kernel⟩
theorem rZ{gm:Addr}{gn:FuncData}(T:Tx K mg)(dA:Gf K mg "_law_cell" dz n50 gm gn) :
  aV P w K mg base CX0 1 gm gn n50 (spD K cP 2) :=
 cp .V dA.F gD λcdv A outer s H E hr=>(aj (eG (Lm (ae 1) (t9 T.zq (ae 0))) (au (aO (bf (ae 0) (ae 1)))) bZ)
 (aj (aG 2 gD.nd (dn (gv (ae 1) aq) aq))
 (aj (eG (Ln (t9 T.zq (ae 0)) aq) (au (aG 2 gD.nd (dn (ae 2) (gv (bp (bf (ae 0) (bp (dn (gv aq (ae 1)) aq) (t9 T.zq (ae 0)))) aq) aq)))) bZ)
 (aj (aG 2 gD.nd (bp (gv (ae 2) (ae 2)) aq))
 (au (aO (bp (gv (ae 2) (ae 2)) aq)))))))
theorem cX:aP n51 n52 (ai ed):=⟨rfl,rfl,rfl,by decide +kernel,rfl,by decide +kernel,by decide +kernel⟩
theorem uD{g_:Addr}{hG:FuncData}(T:Tx K mg)(hJ:Gf K mg "_law_row" ed n52 g_ hG) :
  aV P w K mg base CX0 1 g_ hG n52 (spD K fg 3) :=
 cp .D hJ.F cX λcdv A outer s H E hr=>(aj (aG 3 cX.nd (CF.cell (cI av)))
 (aj (eG (iV hr (bp (ae 0) aq) aq) (aj (aG 0 cX.nd (d9 (ae 0) aq))
 (aj (dm PassesOwn.never rfl (b3 T.d5 (ae 2)) (aE 4 cX.nd) (aj (dU (ae 3) (bp (ae 0) (ae 1)))
 (au (aG 0 cX.nd (d9 (ae 0) (ae 1))))))
 (au (aO (ae 3))))) bZ)
 (aj (dm PassesOwn.never rfl (b3 T.d5 (ae 2)) (aE 4 cX.nd) (aj (aG 5 cX.nd (bp (dn (d9 (ae 0) aq) (gv (ae 4) aq)) aq))
 (aj (aG 5 cX.nd (bp (dn (gv (ae 5) (ae 5)) (ae 4)) aq))
 (aj (aG 5 cX.nd (bp (gv (ae 5) (ae 5)) aq))
 (au (dU (ae 3) (bp (d9 (ae 5) aq) (ae 1))))))))
 (au (aO (ae 3))))))
theorem AR:aP n53 n53 (ai gg):=⟨rfl,rfl,rfl,by decide +kernel,rfl,by decide +kernel,by decide +kernel⟩
theorem xW{kB:Addr}{kC:FuncData}(T:Tx K mg)(kD:Gf K mg "_law_p" gg n53 kB kC) :
  aV P w K mg base CX0 1 kB kC n53 (spD K iW 1) :=
 cp .V kD.F AR λcdv A outer s H E hr=>(aj (eG (iV hr (bp (d9 (ae 0) aq) aq) aq) (au (aO (bf (CF.ce (cI (ag aq (ag aq (ag aq (ag aq av)))))) (bp (d9 (ae 0) aq) aq)))) bZ)
 (au (aO (bf (CF.ce (cI (ag aq (ag aq (ag aq (ag aq (ag aq (ag aq av)))))))) (bp (ae 0) aq)))))
theorem hU:aP n54 n55 (ai cx):=⟨rfl,rfl,rfl,by decide +kernel,rfl,by decide +kernel,by decide +kernel⟩
theorem oO{eR:Addr}{eS:FuncData}(T:Tx K mg)(eT:Gf K mg "_law_powers" cx n55 eR eS) :
  aV P w K mg base CX0 1 eR eS n55 (spD K cG 3) :=
 cp .V eT.F hU λcdv A outer s H E hr=>(aj (aG 3 hU.nd (CF.cell (cI (ag aq av))))
 (aj (dm PassesOwn.never rfl (b3 T.d5 (CC (ae 1) aq)) (aE 4 hU.nd) (au (dU (ae 3) (bp (gv (bf (ae 3) (ae 4)) (ae 2)) (ae 0)))))
 (au (aO (ae 3)))))
theorem aS:aP n56 n57 (ai cQ):=⟨rfl,rfl,rfl,by decide +kernel,rfl,by decide +kernel,by decide +kernel⟩
theorem qN{fE:Addr}{fF:FuncData}(T:Tx K mg)(fG:Gf K mg "_law_table" cQ n57 fE fF)
  {gm:Addr}{gn:FuncData} (dA:Gf K mg "_law_cell" dz n50 gm gn)
  (mV:aV P w K mg base CX0 1 gm gn n50 (spD K cP 2))
  {kB:Addr}{kC:FuncData} (kD:Gf K mg "_law_p" gg n53 kB kC)
  (AS:aV P w K mg base CX0 1 kB kC n53 (spD K iW 1))
  {eR:Addr}{eS:FuncData} (eT:Gf K mg "_law_powers" cx n55 eR eS)
  (qO:aV P w K mg base CX0 1 eR eS n55 (spD K cG 3))
  {g_:Addr}{hG:FuncData} (hJ:Gf K mg "_law_row" ed n52 g_ hG)
  (v7:aV P w K mg base CX0 1 g_ hG n52 (spD K fg 3)) :
  aV P w K mg base CX0 2 fE fF n57 (spD K dW 1) :=
 cp .V fG.F aS λcdv A outer s H E hr=>(aj (aG 1 aS.nd (aF mV (hr.mono (by decide)) dA.m dA.F.kp dA.b (ag (ae 0) (ag aq av))))
 (aj (aG 2 aS.nd (aF AS (hr.mono (by decide)) kD.m kD.F.kp kD.b (ag (ae 1) av)))
 (aj (aG 3 aS.nd (dn aq (bp (d9 (ae 1) aq) aq)))
 (aj (aG 4 aS.nd (dn aq (bp (d9 (ae 1) aq) aq)))
 (aj (aG 5 aS.nd (bp (d9 (ae 1) aq) aq))
 (aj (eG (iV hr (bp (d9 (ae 1) aq) aq) aq) (au (aG 4 aS.nd (dn aq (bp (d9 (ae 1) aq) aq)))) bZ)
 (aj (eG (iV hr (bp (d9 (ae 1) aq) aq) aq) (aj (aG 4 aS.nd (dn aq (bp (d9 (ae 1) aq) aq)))
 (aj (aG 5 aS.nd (C2 T.Hf (ae 5) aq))
 (au (aG 3 aS.nd (C2 T.Hf (ae 3) aq))))) bZ)
 (aj (aG 6 aS.nd (CF.cell (cI av)))
 (aj (eG (iV hr (bp (d9 (ae 1) aq) aq) aq) (aj (dm PassesOwn.never rfl (b3 T.d5 (ae 4)) (aE 7 aS.nd) (au (dU (ae 6) (gN (ag (ae 7) (ag (b_ T.cS (aF qO (hr.mono (by decide)) eT.m eT.F.kp eT.b (ag (ae 2) (ag (ae 3) (ag (dn (ae 7) aq) av))))) av))))))
 (au (aO (gN (ag (gN (ag (ae 2) (ag (ae 3) (ag (b_ T.cS (ae 6)) av)))) (ag (ae 4) av)))))) bZ)
 (aj (dm PassesOwn.never rfl (b3 T.d5 (ae 5)) (aE 8 aS.nd) (aj (aG 9 aS.nd (aF mV (hr.mono (by decide)) dA.m dA.F.kp dA.b (ag (ae 0) (ag (dn aq (ae 8)) av))))
 (aj (aG 10 aS.nd (aF v7 (hr.mono (by decide)) hJ.m hJ.F.kp hJ.b (ag (d9 (ae 9) aq) (ag (ae 2) (ag (ae 3) av)))))
 (aj (eG (iV hr (bp (d9 (ae 9) aq) aq) aq) (au (lD 10 aq aq)) bZ)
 (au (dU (ae 6) (gN (ag (bp (ae 9) (ae 4)) (ag (b_ T.cS (ae 10)) av)))))))))
 (au (aO (gN (ag (gN (ag (ae 2) (ag (ae 3) (ag (b_ T.cS (ae 6)) av)))) (ag (ae 4) av)))))))))))))))
theorem gE:aP n24 n58 (ai cR):=⟨rfl,rfl,rfl,by decide +kernel,rfl,by decide +kernel,by decide +kernel⟩
theorem r8{gp:Addr}{gq:FuncData}(T:Tx K mg)(gu:Gf K mg "_law_sets" cR n58 gp gq) :
  aV P w K mg base CX0 1 gp gq n58 (spD K eo 1) :=
 cp .V gu.F gE λcdv A outer s H E hr=>(aj (aG 1 gE.nd (CF.ce (cI (ag (CF.ce (cI av)) av))))
 (aj (dm PassesOwn.never rfl (b3 T.d5 (ae 0)) (aE 2 gE.nd) (au (aG 1 gE.nd (dn (ae 1) (CF.ce (cN (N':=n23) rfl (aA (ai cR) rfl n24 rfl (by decide +kernel)) rfl (aC rfl) (cc (ae 1)) (λ_ _ _ _ _=>(aE 0 (show n23.Nodup by decide +kernel))) (λ_ _ _ _ _=>ei) (λ_ _ _ _ _=>(dn (ae 0) (CF.ce (cI (ag (ae 1) av)))))))))))
 (au (aO (ae 1)))))
theorem qP:aP n26 n26 (ai bN):=⟨rfl,rfl,rfl,by decide +kernel,rfl,by decide +kernel,by decide +kernel⟩
theorem oP{eU:Addr}{eV:FuncData}(T:Tx K mg)(cB:Gf K mg "_law_within" bN n26 eU eV) :
  aV P w K mg base CX0 1 eU eV n26 (spD K aX 2) :=
 cp .V cB.F qP λcdv A outer s H E hr=>(au (aO (vx hr (CF.ce (cN (N':=n25) rfl (aA (ai bN) rfl n26 rfl (by decide +kernel)) rfl (aC rfl) (cc (ae 0)) (λ_ _ _ _ _=>(aE 0 (show n25.Nodup by decide +kernel))) (λ_ _ _ _ _=>(bz (qa hr (ae 0) (ae 1)))) (λ_ _ _ _ _=>(ae 0)))) (CF.ce (cI av)))))
theorem fj:aP n29 n59 (ai bJ):=⟨rfl,rfl,rfl,by decide +kernel,rfl,by decide +kernel,by decide +kernel⟩
theorem uE{hX:Addr}{hZ:FuncData}(T:Tx K mg)(h7:Gf K mg "_law_due" bJ n59 hX hZ) :
  aV P w K mg base CX0 1 hX hZ n59 (spD K fh 3) :=
 cp .V h7.F fj λcdv A outer s H E hr=>(aj (aG 3 fj.nd (CF.cell (cI av)))
 (aj (aG 4 fj.nd (CF.cell (cI av)))
 (aj (dm PassesOwn.never rfl (cc (ae 0)) (aE 5 fj.nd) (aj (dE (cO 6 (N':=n28) rfl (aA (ai bJ) rfl n29 rfl (by decide +kernel)) rfl (aC rfl) (cc (ae 5)) (λ_ _ _ _ _=>(aE 0 (show n28.Nodup by decide +kernel))) (λ_ _ _ _ _=>ei) (λ_ _ _ _ _=>(CF.ce (cN (N':=n27) rfl (p4 (ai bJ) rfl (by decide +kernel)) rfl (aC rfl) (cc (ae 1)) (λ_ _ _ _ _=>(aE 0 (show n27.Nodup by decide +kernel))) (λ_ _ _ _ _=>(bz (og hr (ae 0) (ae 1)))) (λ_ _ _ _ _=>(ae 0))))) fj.nd) λ_ _ _ _ h=>dS h)
 (aj (dE (cO 7 (N':=n28) rfl (aA (ai bJ) rfl n29 rfl (by decide +kernel)) rfl (aC rfl) (b3 T.d5 (ae 2)) (λ_ _ _ _ _=>(aE 0 (show n28.Nodup by decide +kernel))) (λ_ _ _ _ _=>(bz (qa hr (ae 0) (ae 1)))) (λ_ _ _ _ _=>(Aw T.gh (dn (ae 1) (CF.ce (cI (ag (ae 0) av)))))) fj.nd) λ_ _ _ _ h=>dS h)
 (aj (eG (CW.ct (B9 (eX (fw hr (ae 1) (b_ T.cS (ae 5)))) (pQ (iV hr (CF.ce (cN (N':=n30) rfl (aA (ai bJ) rfl n29 rfl (by decide +kernel)) rfl (aC rfl) (cc (ae 6)) (λ_ _ _ _ _=>(aE 0 (show n30.Nodup by decide +kernel))) (λ_ _ _ _ _=>(bz (eX (fw hr (ae 1) (b_ T.cS (ae 0)))))) (λ_ _ _ _ _=>(ae 0)))) (CF.ce (cI av)))))) (au (dU (ae 3) (ae 5))) bZ)
 (au (eG (CW.ct (B9 (pP (eX (fw hr (ae 1) (b_ T.cS (ae 5))))) (pQ (iV hr (CF.ce (cN (N':=n30) rfl (aA (ai bJ) rfl n29 rfl (by decide +kernel)) rfl (aC rfl) (cc (ae 7)) (λ_ _ _ _ _=>(aE 0 (show n30.Nodup by decide +kernel))) (λ_ _ _ _ _=>(bz (pP (eX (fw hr (ae 1) (b_ T.cS (ae 0))))))) (λ_ _ _ _ _=>(ae 0)))) (CF.ce (cI av)))))) (au (dU (ae 4) (ae 5))) bZ))))))
 (au (aO (gN (ag (CF.ce (fO hr T.gh (ae 3))) (ag (CF.ce (fO hr T.gh (ae 4))) av))))))))
theorem iL:aP n32 n60 (ai cj):=⟨rfl,rfl,rfl,by decide +kernel,rfl,by decide +kernel,by decide +kernel⟩
theorem qQ{fH:Addr}{fI:FuncData}(T:Tx K mg)(fJ:Gf K mg "_law_whole" cj n60 fH fI) :
  aV P w K mg base CX0 1 fH fI n60 (spD K dX 1) :=
 cp .V fJ.F iL λcdv A outer s H E hr=>(aj (Gd PassesOwn.never rfl 1 (ae 0) iL.nd (au (dm PassesOwn.never rfl (cc (ae 1)) (aE 2 iL.nd) (au (eG (CW.ct (yR (pP (eX (lC T.eC T.jI (ae 2)))) (kK (og hr (CF.ce (cN (N':=n31) rfl (aA (ai cj) rfl n32 rfl (by decide +kernel)) rfl (aC rfl) (cc (ae 2)) (λ_ _ _ _ _=>(aE 0 (show n31.Nodup by decide +kernel))) (λ_ _ _ _ _=>(bz (eX (p7 T.eC T.Dp (ae 0))))) (λ_ _ _ _ _=>(ae 0)))) (CF.ce (cI av)))))) (au (aO vj)) bZ)))))
 (au (aO (w6 (vy T.eC T.cS (ae 0)) (w6 (lC T.eC T.jI (bf (ae 0) aq)) (B_ (lC T.eC T.jI (bf (ae 0) aq))))))))
theorem gw:aP n33 n57 (ai iX):=⟨rfl,rfl,rfl,by decide +kernel,rfl,by decide +kernel,by decide +kernel⟩
theorem Gi{Hg:Addr}{Hh:FuncData}(T:Tx K mg)(LH:Gf K mg "law" iX n57 Hg Hh)
  {fE:Addr}{fF:FuncData} (fG:Gf K mg "_law_table" cQ n57 fE fF)
  (r_:aV P w K mg base CX0 2 fE fF n57 (spD K dW 1))
  {gp:Addr}{gq:FuncData} (gu:Gf K mg "_law_sets" cR n58 gp gq)
  (uF:aV P w K mg base CX0 1 gp gq n58 (spD K eo 1))
  {ix:Addr}{iy:FuncData} (gC:Gf K mg "opens" gA n7 ix iy)
  (qH:aV P w K mg base CX0 5 ix iy n7 (spD K dq 2))
  {hX:Addr}{hZ:FuncData} (h7:Gf K mg "_law_due" bJ n59 hX hZ)
  (v8:aV P w K mg base CX0 1 hX hZ n59 (spD K fh 3))
  {cV:Addr}{cW:FuncData} (cA:Gf K mg "open_sets" bA n48 cV cW)
  (uG:aV P w K mg base CX0 7 cV cW n48 (spD K dG 2))
  {fH:Addr}{fI:FuncData} (fJ:Gf K mg "_law_whole" cj n60 fH fI)
  (sa:aV P w K mg base CX0 1 fH fI n60 (spD K dX 1))
  {qK:Addr}{qL:FuncData} (qM:Gf K mg "bars" jH n22 qK qL)
  (Gj:aV P w K mg base CX0 7 qK qL n22 (spD K jC 3))
  {eU:Addr}{eV:FuncData} (cB:Gf K mg "_law_within" bN n26 eU eV)
  (kE:aV P w K mg base CX0 1 eU eV n26 (spD K aX 2))
  (uH:aV P w K mg base CX0 7 cV cW n48 (spD K dH 2)) :
  aV P w K mg base CX0 8 Hg Hh n57 (spD K nN 1) :=
 cp .V LH.F gw λcdv A outer s H E hr=>(aj (Jm (my 1 2 gw.nd rfl) (aF r_ (hr.mono (by decide)) fG.m fG.F.kp fG.b (ag (ae 0) av)))
 (aj (aG 3 gw.nd (aF uF (hr.mono (by decide)) gu.m gu.F.kp gu.b (ag (ae 2) av)))
 (aj (aG 4 gw.nd (CF.cell xo))
 (aj (dm PassesOwn.never rfl (cc (ae 3)) (aE 5 gw.nd) (au (uh hr 4 (b_ T.cS (ae 5)) (vx hr (bf (aF qH (hr.mono (by decide)) gC.m gC.F.kp gC.b (ag (ae 1) (ag (ae 5) av))) aq) lu))))
 (aj (aG 6 gw.nd (aF v8 (hr.mono (by decide)) h7.m h7.F.kp h7.b (ag (ae 3) (ag (ae 4) (ag (ae 2) av)))))
 (aj (aG 7 gw.nd (aF uG (hr.mono (by decide)) cA.m cA.F.kp cA.b (ag (ae 1) (ag (ae 2) av))))
 (aj (eG (CW.ct (yR (Jq hr (ae 7) (ae 6)) (kK (pP (eX (aF sa (hr.mono (by decide)) fJ.m fJ.F.kp fJ.b (ag (ae 7) av))))))) (au (aO vj)) bZ)
 (aj (dm PassesOwn.never rfl (cc (ae 3)) (aE 5 gw.nd) (aj (dE (cO 8 (N':=n28) rfl (aA (ai iX) rfl n33 rfl (by decide +kernel)) rfl (aC rfl) (b3 T.d5 (ae 2)) (λ_ _ _ _ _=>(aE 0 (show n28.Nodup by decide +kernel))) (λ_ _ _ _ _=>(bz (qa hr (ae 0) (ae 1)))) (λ_ _ _ _ _=>(ae 0)) gw.nd) λ_ _ _ _ h=>dS h)
 (aj (aG 9 gw.nd (aF Gj (hr.mono (by decide)) qM.m qM.F.kp qM.b (ag (ae 1) (ag (ae 2) (ag (CF.ce (mD T.jI (ae 5))) av)))))
 (aj (eG (CW.ct (yR (pP (eX (p7 T.eC T.Dp (ae 9)))) (kK (iV hr (ae 9) (fw hr (ae 4) (b_ T.cS (ae 8))))))) (au (aO vj)) bZ)
 (aj (dE (cO 10 (N':=n34) rfl (aA (ai iX) rfl n33 rfl (by decide +kernel)) rfl (aC rfl) (cc (bf (ae 6) aq)) (λ_ _ _ _ _=>(aE 0 (show n34.Nodup by decide +kernel))) (λ_ _ _ _ _=>(bz (eX (aF kE (hr.mono (by decide)) cB.m cB.F.kp cB.b (ag (ae 0) (ag (ae 1) av)))))) (λ_ _ _ _ _=>(ae 0)) gw.nd) λ_ _ _ _ h=>dS h)
 (aj (dE (cO 11 (N':=n34) rfl (aA (ai iX) rfl n33 rfl (by decide +kernel)) rfl (aC rfl) (cc (bf (ae 6) aq)) (λ_ _ _ _ _=>(aE 0 (show n34.Nodup by decide +kernel))) (λ_ _ _ _ _=>(bz (eX (aF kE (hr.mono (by decide)) cB.m cB.F.kp cB.b (ag (ae 1) (ag (ae 0) av)))))) (λ_ _ _ _ _=>(ae 0)) gw.nd) λ_ _ _ _ h=>dS h)
 (au (eG (CW.ct (yR (og hr (fw hr (ae 4) (b_ T.cS (ae 5))) (Lo hr (ae 10) (CF.ce (cI av)))) (kK (og hr (fw hr (ae 4) (b_ T.cS (ae 5))) (vx hr (ae 11) (CF.ce (cI av))))))) (au (aO vj)) bZ))))))))
 (aj (dU (bf (ae 7) aq) (CF.ce (cI (ag aq av))))
 (aj (C4 (bf (ae 7) aq))
 (au (aO (vx hr (aF uH (hr.mono (by decide)) cA.m cA.F.kp cA.b (ag (ae 1) (ag (ae 2) av))) (ae 6))))))))))))))
theorem us1{us:List Value}(h:us.length=1):∃a0,us=[a0]:=by
 obtain⟨a0,us,rfl⟩:=fS h;rw[List.length_cons] at h;replace h:=Nat.succ.inj h;cases List.eq_nil_of_length_eq_zero h;exact⟨_,rfl⟩
theorem us2{us:List Value}(h:us.length=2):∃a0 a1,us=[a0,a1]:=by
 obtain⟨a0,us,rfl⟩:=fS h;rw[List.length_cons] at h;replace h:=Nat.succ.inj h;obtain⟨a1,us,rfl⟩:=fS h;rw[List.length_cons] at h;replace h:=Nat.succ.inj h;cases List.eq_nil_of_length_eq_zero h;exact⟨_,_,rfl⟩
theorem us3{us:List Value}(h:us.length=3):∃a0 a1 a2,us=[a0,a1,a2]:=by
 obtain⟨a0,us,rfl⟩:=fS h;rw[List.length_cons] at h;replace h:=Nat.succ.inj h;obtain⟨a1,us,rfl⟩:=fS h;rw[List.length_cons] at h;replace h:=Nat.succ.inj h;obtain⟨a2,us,rfl⟩:=fS h;rw[List.length_cons] at h;replace h:=Nat.succ.inj h;cases List.eq_nil_of_length_eq_zero h;exact⟨_,_,_,rfl⟩
theorem us4{us:List Value}(h:us.length=4):∃a0 a1 a2 a3,us=[a0,a1,a2,a3]:=by
 obtain⟨a0,us,rfl⟩:=fS h;rw[List.length_cons] at h;replace h:=Nat.succ.inj h;obtain⟨a1,us,rfl⟩:=fS h;rw[List.length_cons] at h;replace h:=Nat.succ.inj h;obtain⟨a2,us,rfl⟩:=fS h;rw[List.length_cons] at h;replace h:=Nat.succ.inj h;obtain⟨a3,us,rfl⟩:=fS h;rw[List.length_cons] at h;replace h:=Nat.succ.inj h;cases List.eq_nil_of_length_eq_zero h;exact⟨_,_,_,_,rfl⟩
theorem all_mk{l:PySem.W.OpenLaw}{w:World}{K:PySem.W.Frag}{h:Heap}{mg:Str→Option Value}{fa:Addr}(X:K.In h)(G:h.Ns mainGlobals mg)(hfa:mg "law"=some (.ref fa))
  {f0 f1 f2 f3 f4 f5 f6 f7 f8 f9 f10 f11 f12 f13 f14 f15 f16 f17 f18 f19 f20 f21 f22 f23 f24 f25 f26 f27 f28 f29 f30:Addr}{od0 an0 od1 an1 od2 an2 od3 an3 od4 an4 od5 an5 od6 an6 od7 an7 od8 an8 od9 an9 Nx Ny Nz NA NB NC ND NF NG NH NI NJ NK NL NM NN NO NP NQ NR NS NU NV NW NX NY NZ N0 N1 N3 N4 N5 N6 N7 N8 N9 N_ Oa Ob Oc Od LI:Option Addr}{sl0 sl1 sl2 sl3 sl4 sl5 sl6 sl7 sl8 sl9 Oe Of Og Oh Oi Oj Ol Om Oo Oq Ot Ou Ov Ow Ox Oy Oz OA OB OC OD:Array (Option Value)}{oc0 kV0 dc0 pm0 cd0 ct0 oc1 kV1 dc1 pm1 cd1 ct1 oc2 kV2 dc2 pm2 cd2 ct2 oc3 kV3 dc3 pm3 cd3 ct3 oc4 kV4 dc4 pm4 cd4 ct4 oc5 kV5 dc5 pm5 cd5 ct5 oc6 kV6 dc6 pm6 cd6 ct6 oc7 kV7 dc7 pm7 cd7 ct7 oc8 kV8 dc8 pm8 cd8 ct8 oc9 kV9 dc9 pm9 cd9 ct9 OE OF OG OH LJ OI OJ OK OL OM LK ON OO OP OQ OR LM OS OT OU OV OW LN OX OY OZ O0 O1 LO O2 O3 O4 O5 O6 LP O7 O8 O9 O_ Pa LQ Pb Pc Pd Pe Pf LR Pg Ph Pj Pk Pl LS Pn Po Pp Pq Pr LU Pt Pu Px Py Pz LV PB PD PF PH PJ LW PK PL PM PN PQ LX PR PU PV PX PY LY PZ P0 P1 P2 P4 LZ P5 P6 P7 P8 P9 L0 P_ Qa Qb Qc Qd L1 Qe Qf Qg Qh Qi L3 Qj Qk Ql Qm Qn L4 Qo Qp Qq Qr Qs L5 Qt Qu L6 L7 L8 Js L9:Value}
  (a0:PySem.W.nsIn K mainGlobals "over"=some (some (.ref f0))) (l0:K.lookup f0=some ⟨oc0,od0,.func (PySem.W.fnOf "over" "over" (aN jG) (aL jG) (ai jG) .none kV0 dc0 pm0 an0 cd0 ct0),sl0⟩) (c0:PySem.W.codeIn K cd0 "over"=true) (k0:PySem.W.keepIn K (.ref f0)=true)
  (a1:PySem.W.nsIn K mainGlobals "times"=some (some (.ref f1))) (l1:K.lookup f1=some ⟨oc1,od1,.func (PySem.W.fnOf "times" "times" (aN fW) (aL fW) (ai fW) .none kV1 dc1 pm1 an1 cd1 ct1),sl1⟩) (c1:PySem.W.codeIn K cd1 "times"=true) (k1:PySem.W.keepIn K (.ref f1)=true)
  (a2:PySem.W.nsIn K mainGlobals "freed"=some (some (.ref f2))) (l2:K.lookup f2=some ⟨oc2,od2,.func (PySem.W.fnOf "freed" "freed" (aN gz) (aL gz) (ai gz) .none kV2 dc2 pm2 an2 cd2 ct2),sl2⟩) (c2:PySem.W.codeIn K cd2 "freed"=true) (k2:PySem.W.keepIn K (.ref f2)=true)
  (a3:PySem.W.nsIn K mainGlobals "first_place"=some (some (.ref f3))) (l3:K.lookup f3=some ⟨oc3,od3,.func (PySem.W.fnOf "first_place" "first_place" (aN cu) (aL cu) (ai cu) .none kV3 dc3 pm3 an3 cd3 ct3),sl3⟩) (c3:PySem.W.codeIn K cd3 "first_place"=true) (k3:PySem.W.keepIn K (.ref f3)=true)
  (a4:PySem.W.nsIn K mainGlobals "eased"=some (some (.ref f4))) (l4:K.lookup f4=some ⟨oc4,od4,.func (PySem.W.fnOf "eased" "eased" (aN ip) (aL ip) (ai ip) .none kV4 dc4 pm4 an4 cd4 ct4),sl4⟩) (c4:PySem.W.codeIn K cd4 "eased"=true) (k4:PySem.W.keepIn K (.ref f4)=true)
  (a5:PySem.W.nsIn K mainGlobals "numbers_at"=some (some (.ref f5))) (l5:K.lookup f5=some ⟨oc5,od5,.func (PySem.W.fnOf "numbers_at" "numbers_at" (aN cg) (aL cg) (ai cg) .none kV5 dc5 pm5 an5 cd5 ct5),sl5⟩) (c5:PySem.W.codeIn K cd5 "numbers_at"=true) (k5:PySem.W.keepIn K (.ref f5)=true)
  (a6:PySem.W.nsIn K mainGlobals "unit"=some (some (.ref f6))) (l6:K.lookup f6=some ⟨oc6,od6,.func (PySem.W.fnOf "unit" "unit" (aN kq) (aL kq) (ai kq) .none kV6 dc6 pm6 an6 cd6 ct6),sl6⟩) (c6:PySem.W.codeIn K cd6 "unit"=true) (k6:PySem.W.keepIn K (.ref f6)=true)
  (a7:PySem.W.nsIn K mainGlobals "held"=some (some (.ref f7))) (l7:K.lookup f7=some ⟨oc7,od7,.func (PySem.W.fnOf "held" "held" (aN kr) (aL kr) (ai kr) .none kV7 dc7 pm7 an7 cd7 ct7),sl7⟩) (c7:PySem.W.codeIn K cd7 "held"=true) (k7:PySem.W.keepIn K (.ref f7)=true)
  (a8:PySem.W.nsIn K mainGlobals "rows_of"=some (some (.ref f8))) (l8:K.lookup f8=some ⟨oc8,od8,.func (PySem.W.fnOf "rows_of" "rows_of" (aN eA) (aL eA) (ai eA) .none kV8 dc8 pm8 an8 cd8 ct8),sl8⟩) (c8:PySem.W.codeIn K cd8 "rows_of"=true) (k8:PySem.W.keepIn K (.ref f8)=true)
  (a9:PySem.W.nsIn K mainGlobals "lines_at"=some (some (.ref f9))) (l9:K.lookup f9=some ⟨oc9,od9,.func (PySem.W.fnOf "lines_at" "lines_at" (aN dI) (aL dI) (ai dI) .none kV9 dc9 pm9 an9 cd9 ct9),sl9⟩) (c9:PySem.W.codeIn K cd9 "lines_at"=true) (k9:PySem.W.keepIn K (.ref f9)=true)
  (a10:PySem.W.nsIn K mainGlobals "hidden_line"=some (some (.ref f10))) (l10:K.lookup f10=some ⟨OE,Nx,.func (PySem.W.fnOf "hidden_line" "hidden_line" (aN bL) (aL bL) (ai bL) .none OF OG OH Ny LJ OI),Oe⟩) (c10:PySem.W.codeIn K LJ "hidden_line"=true) (k10:PySem.W.keepIn K (.ref f10)=true)
  (a11:PySem.W.nsIn K mainGlobals "opened_by"=some (some (.ref f11))) (l11:K.lookup f11=some ⟨OJ,Nz,.func (PySem.W.fnOf "opened_by" "opened_by" (aN dy) (aL dy) (ai dy) .none OK OL OM NA LK ON),Of⟩) (c11:PySem.W.codeIn K LK "opened_by"=true) (k11:PySem.W.keepIn K (.ref f11)=true)
  (a12:PySem.W.nsIn K mainGlobals "opens"=some (some (.ref f12))) (l12:K.lookup f12=some ⟨OO,NB,.func (PySem.W.fnOf "opens" "opens" (aN gA) (aL gA) (ai gA) .none OP OQ OR NC LM OS),Og⟩) (c12:PySem.W.codeIn K LM "opens"=true) (k12:PySem.W.keepIn K (.ref f12)=true)
  (a13:PySem.W.nsIn K mainGlobals "is_opened"=some (some (.ref f13))) (l13:K.lookup f13=some ⟨OT,ND,.func (PySem.W.fnOf "is_opened" "is_opened" (aN cw) (aL cw) (ai cw) .none OU OV OW NF LN OX),Oh⟩) (c13:PySem.W.codeIn K LN "is_opened"=true) (k13:PySem.W.keepIn K (.ref f13)=true)
  (a14:PySem.W.nsIn K mainGlobals "sets_below"=some (some (.ref f14))) (l14:K.lookup f14=some ⟨OY,NG,.func (PySem.W.fnOf "sets_below" "sets_below" (aN bM) (aL bM) (ai bM) .none OZ O0 O1 NH LO O2),Oi⟩) (c14:PySem.W.codeIn K LO "sets_below"=true) (k14:PySem.W.keepIn K (.ref f14)=true)
  (a15:PySem.W.nsIn K mainGlobals "without"=some (some (.ref f15))) (l15:K.lookup f15=some ⟨O3,NI,.func (PySem.W.fnOf "without" "without" (aN eB) (aL eB) (ai eB) .none O4 O5 O6 NJ LP O7),Oj⟩) (c15:PySem.W.codeIn K LP "without"=true) (k15:PySem.W.keepIn K (.ref f15)=true)
  (a16:PySem.W.nsIn K mainGlobals "with_one_more"=some (some (.ref f16))) (l16:K.lookup f16=some ⟨O8,NK,.func (PySem.W.fnOf "with_one_more" "with_one_more" (aN bE) (aL bE) (ai bE) .none O9 O_ Pa NL LQ Pb),Ol⟩) (c16:PySem.W.codeIn K LQ "with_one_more"=true) (k16:PySem.W.keepIn K (.ref f16)=true)
  (a17:PySem.W.nsIn K mainGlobals "is_least"=some (some (.ref f17))) (l17:K.lookup f17=some ⟨Pc,NM,.func (PySem.W.fnOf "is_least" "is_least" (aN c_) (aL c_) (ai c_) .none Pd Pe Pf NN LR Pg),Om⟩) (c17:PySem.W.codeIn K LR "is_least"=true) (k17:PySem.W.keepIn K (.ref f17)=true)
  (a18:PySem.W.nsIn K mainGlobals "is_greatest"=some (some (.ref f18))) (l18:K.lookup f18=some ⟨Ph,NO,.func (PySem.W.fnOf "is_greatest" "is_greatest" (aN bD) (aL bD) (ai bD) .none Pj Pk Pl NP LS Pn),Oo⟩) (c18:PySem.W.codeIn K LS "is_greatest"=true) (k18:PySem.W.keepIn K (.ref f18)=true)
  (a19:PySem.W.nsIn K mainGlobals "open_sets"=some (some (.ref f19))) (l19:K.lookup f19=some ⟨Po,NQ,.func (PySem.W.fnOf "open_sets" "open_sets" (aN bA) (aL bA) (ai bA) .none Pp Pq Pr NR LU Pt),Oq⟩) (c19:PySem.W.codeIn K LU "open_sets"=true) (k19:PySem.W.keepIn K (.ref f19)=true)
  (a20:PySem.W.nsIn K mainGlobals "bars"=some (some (.ref f20))) (l20:K.lookup f20=some ⟨Pu,NS,.func (PySem.W.fnOf "bars" "bars" (aN jH) (aL jH) (ai jH) .none Px Py Pz NU LV PB),Ot⟩) (c20:PySem.W.codeIn K LV "bars"=true) (k20:PySem.W.keepIn K (.ref f20)=true)
  (a21:PySem.W.nsIn K mainGlobals "_law_cell"=some (some (.ref f21))) (l21:K.lookup f21=some ⟨PD,NV,.func (PySem.W.fnOf "_law_cell" "_law_cell" (aN dz) (aL dz) (ai dz) .none PF PH PJ NW LW PK),Ou⟩) (c21:PySem.W.codeIn K LW "_law_cell"=true) (k21:PySem.W.keepIn K (.ref f21)=true)
  (a22:PySem.W.nsIn K mainGlobals "_law_row"=some (some (.ref f22))) (l22:K.lookup f22=some ⟨PL,NX,.func (PySem.W.fnOf "_law_row" "_law_row" (aN ed) (aL ed) (ai ed) .none PM PN PQ NY LX PR),Ov⟩) (c22:PySem.W.codeIn K LX "_law_row"=true) (k22:PySem.W.keepIn K (.ref f22)=true)
  (a23:PySem.W.nsIn K mainGlobals "_law_p"=some (some (.ref f23))) (l23:K.lookup f23=some ⟨PU,NZ,.func (PySem.W.fnOf "_law_p" "_law_p" (aN gg) (aL gg) (ai gg) .none PV PX PY N0 LY PZ),Ow⟩) (c23:PySem.W.codeIn K LY "_law_p"=true) (k23:PySem.W.keepIn K (.ref f23)=true)
  (a24:PySem.W.nsIn K mainGlobals "_law_powers"=some (some (.ref f24))) (l24:K.lookup f24=some ⟨P0,N1,.func (PySem.W.fnOf "_law_powers" "_law_powers" (aN cx) (aL cx) (ai cx) .none P1 P2 P4 N3 LZ P5),Ox⟩) (c24:PySem.W.codeIn K LZ "_law_powers"=true) (k24:PySem.W.keepIn K (.ref f24)=true)
  (a25:PySem.W.nsIn K mainGlobals "_law_table"=some (some (.ref f25))) (l25:K.lookup f25=some ⟨P6,N4,.func (PySem.W.fnOf "_law_table" "_law_table" (aN cQ) (aL cQ) (ai cQ) .none P7 P8 P9 N5 L0 P_),Oy⟩) (c25:PySem.W.codeIn K L0 "_law_table"=true) (k25:PySem.W.keepIn K (.ref f25)=true)
  (a26:PySem.W.nsIn K mainGlobals "_law_sets"=some (some (.ref f26))) (l26:K.lookup f26=some ⟨Qa,N6,.func (PySem.W.fnOf "_law_sets" "_law_sets" (aN cR) (aL cR) (ai cR) .none Qb Qc Qd N7 L1 Qe),Oz⟩) (c26:PySem.W.codeIn K L1 "_law_sets"=true) (k26:PySem.W.keepIn K (.ref f26)=true)
  (a27:PySem.W.nsIn K mainGlobals "_law_within"=some (some (.ref f27))) (l27:K.lookup f27=some ⟨Qf,N8,.func (PySem.W.fnOf "_law_within" "_law_within" (aN bN) (aL bN) (ai bN) .none Qg Qh Qi N9 L3 Qj),OA⟩) (c27:PySem.W.codeIn K L3 "_law_within"=true) (k27:PySem.W.keepIn K (.ref f27)=true)
  (a28:PySem.W.nsIn K mainGlobals "_law_due"=some (some (.ref f28))) (l28:K.lookup f28=some ⟨Qk,N_,.func (PySem.W.fnOf "_law_due" "_law_due" (aN bJ) (aL bJ) (ai bJ) .none Ql Qm Qn Oa L4 Qo),OB⟩) (c28:PySem.W.codeIn K L4 "_law_due"=true) (k28:PySem.W.keepIn K (.ref f28)=true)
  (a29:PySem.W.nsIn K mainGlobals "_law_whole"=some (some (.ref f29))) (l29:K.lookup f29=some ⟨Qp,Ob,.func (PySem.W.fnOf "_law_whole" "_law_whole" (aN cj) (aL cj) (ai cj) .none Qq Qr Qs Oc L5 Qt),OC⟩) (c29:PySem.W.codeIn K L5 "_law_whole"=true) (k29:PySem.W.keepIn K (.ref f29)=true)
  (a30:PySem.W.nsIn K mainGlobals "law"=some (some (.ref f30))) (l30:K.lookup f30=some ⟨Qu,Od,.func (PySem.W.fnOf "law" "law" (aN iX) (aL iX) (ai iX) .none L6 L7 L8 LI Js L9),OD⟩) (c30:PySem.W.codeIn K Js "law"=true) (k30:PySem.W.keepIn K (.ref f30)=true)
  (z0:PySem.W.nsIn K mainGlobals "all"=some none)
  (z1:PySem.W.nsIn K mainGlobals "any"=some none)
  (z2:PySem.W.nsIn K mainGlobals "bool"=some none)
  (z3:PySem.W.nsIn K mainGlobals "enumerate"=some none)
  (z4:PySem.W.nsIn K mainGlobals "isinstance"=some none)
  (z5:PySem.W.nsIn K mainGlobals "len"=some none)
  (z6:PySem.W.nsIn K mainGlobals "list"=some none)
  (z7:PySem.W.nsIn K mainGlobals "min"=some none)
  (z8:PySem.W.nsIn K mainGlobals "range"=some none)
  (z9:PySem.W.nsIn K mainGlobals "sorted"=some none)
  (z10:PySem.W.nsIn K mainGlobals "tuple"=some none)
  (z11:PySem.W.nsIn K mainGlobals "zip"=some none)
  : ∃fd:FuncData,(∀(s:Shared) (v:Value),BindsTo s fd ⟨[v],[]⟩ [("_law_script",v)])∧∀base:Heap,K.In base→base.Ns mainGlobals mg→aV l.prog w K mg base CX0 8 fa fd ["_law_script"] (spD K nN 1):=by
 have e:=hfa.symm.trans (PySem.W.mg_of X G a30)
 cases e
 have T:Tx K mg:=⟨PySem.W.mg_none_of X G z0,PySem.W.mg_none_of X G z1,PySem.W.mg_none_of X G z2,PySem.W.mg_none_of X G z3,PySem.W.mg_none_of X G z4,PySem.W.mg_none_of X G z5,PySem.W.mg_none_of X G z6,PySem.W.mg_none_of X G z7,PySem.W.mg_none_of X G z8,PySem.W.mg_none_of X G z9,PySem.W.mg_none_of X G z10,PySem.W.mg_none_of X G z11⟩
 have F0:=bw (st:=jG) l0 c0 k0
 have g0:Gf K mg "over" jG ["p","one","other"] _ _:=⟨F0,F0.binds (ps:=["p","one","other"]) λ_ _ _ _ _ _ us hl=>by obtain⟨_,_,_,rfl⟩:=us3 hl;rfl,PySem.W.mg_of X G a0⟩
 have F1:=bw (st:=fW) l1 c1 k1
 have g1:Gf K mg "times" fW ["p","number","row"] _ _:=⟨F1,F1.binds (ps:=["p","number","row"]) λ_ _ _ _ _ _ us hl=>by obtain⟨_,_,_,rfl⟩:=us3 hl;rfl,PySem.W.mg_of X G a1⟩
 have F2:=bw (st:=gz) l2 c2 k2
 have g2:Gf K mg "freed" gz ["p","row","lead","place"] _ _:=⟨F2,F2.binds (ps:=["p","row","lead","place"]) λ_ _ _ _ _ _ us hl=>by obtain⟨_,_,_,_,rfl⟩:=us4 hl;rfl,PySem.W.mg_of X G a2⟩
 have F3:=bw (st:=cu) l3 c3 k3
 have g3:Gf K mg "first_place" cu ["row","many"] _ _:=⟨F3,F3.binds (ps:=["row","many"]) λ_ _ _ _ _ _ us hl=>by obtain⟨_,_,rfl⟩:=us2 hl;rfl,PySem.W.mg_of X G a3⟩
 have F4:=bw (st:=ip) l4 c4 k4
 have g4:Gf K mg "eased" ip ["p","rows","many"] _ _:=⟨F4,F4.binds (ps:=["p","rows","many"]) λ_ _ _ _ _ _ us hl=>by obtain⟨_,_,_,rfl⟩:=us3 hl;rfl,PySem.W.mg_of X G a4⟩
 have F5:=bw (st:=cg) l5 c5 k5
 have g5:Gf K mg "numbers_at" cg ["p","lines","place"] _ _:=⟨F5,F5.binds (ps:=["p","lines","place"]) λ_ _ _ _ _ _ us hl=>by obtain⟨_,_,_,rfl⟩:=us3 hl;rfl,PySem.W.mg_of X G a5⟩
 have F6:=bw (st:=kq) l6 c6 k6
 have g6:Gf K mg "unit" kq ["width","place"] _ _:=⟨F6,F6.binds (ps:=["width","place"]) λ_ _ _ _ _ _ us hl=>by obtain⟨_,_,rfl⟩:=us2 hl;rfl,PySem.W.mg_of X G a6⟩
 have F7:=bw (st:=kr) l7 c7 k7
 have g7:Gf K mg "held" kr ["p","width","lines","wished"] _ _:=⟨F7,F7.binds (ps:=["p","width","lines","wished"]) λ_ _ _ _ _ _ us hl=>by obtain⟨_,_,_,_,rfl⟩:=us4 hl;rfl,PySem.W.mg_of X G a7⟩
 have F8:=bw (st:=eA) l8 c8 k8
 have g8:Gf K mg "rows_of" eA ["table","hands"] _ _:=⟨F8,F8.binds (ps:=["table","hands"]) λ_ _ _ _ _ _ us hl=>by obtain⟨_,_,rfl⟩:=us2 hl;rfl,PySem.W.mg_of X G a8⟩
 have F9:=bw (st:=dI) l9 c9 k9
 have g9:Gf K mg "lines_at" dI ["table","numbers"] _ _:=⟨F9,F9.binds (ps:=["table","numbers"]) λ_ _ _ _ _ _ us hl=>by obtain⟨_,_,rfl⟩:=us2 hl;rfl,PySem.W.mg_of X G a9⟩
 have F10:=bw (st:=bL) l10 c10 k10
 have g10:Gf K mg "hidden_line" bL ["wide"] _ _:=⟨F10,F10.binds (ps:=["wide"]) λ_ _ _ _ _ _ us hl=>by obtain⟨_,rfl⟩:=us1 hl;rfl,PySem.W.mg_of X G a10⟩
 have F11:=bw (st:=dy) l11 c11 k11
 have g11:Gf K mg "opened_by" dy ["table","numbers"] _ _:=⟨F11,F11.binds (ps:=["table","numbers"]) λ_ _ _ _ _ _ us hl=>by obtain⟨_,_,rfl⟩:=us2 hl;rfl,PySem.W.mg_of X G a11⟩
 have F12:=bw (st:=gA) l12 c12 k12
 have g12:Gf K mg "opens" gA ["table","hands"] _ _:=⟨F12,F12.binds (ps:=["table","hands"]) λ_ _ _ _ _ _ us hl=>by obtain⟨_,_,rfl⟩:=us2 hl;rfl,PySem.W.mg_of X G a12⟩
 have F13:=bw (st:=cw) l13 c13 k13
 have g13:Gf K mg "is_opened" cw ["table","hands"] _ _:=⟨F13,F13.binds (ps:=["table","hands"]) λ_ _ _ _ _ _ us hl=>by obtain⟨_,_,rfl⟩:=us2 hl;rfl,PySem.W.mg_of X G a13⟩
 have F14:=bw (st:=bM) l14 c14 k14
 have g14:Gf K mg "sets_below" bM ["many"] _ _:=⟨F14,F14.binds (ps:=["many"]) λ_ _ _ _ _ _ us hl=>by obtain⟨_,rfl⟩:=us1 hl;rfl,PySem.W.mg_of X G a14⟩
 have F15:=bw (st:=eB) l15 c15 k15
 have g15:Gf K mg "without" eB ["hands","hand"] _ _:=⟨F15,F15.binds (ps:=["hands","hand"]) λ_ _ _ _ _ _ us hl=>by obtain⟨_,_,rfl⟩:=us2 hl;rfl,PySem.W.mg_of X G a15⟩
 have F16:=bw (st:=bE) l16 c16 k16
 have g16:Gf K mg "with_one_more" bE ["hands","hand"] _ _:=⟨F16,F16.binds (ps:=["hands","hand"]) λ_ _ _ _ _ _ us hl=>by obtain⟨_,_,rfl⟩:=us2 hl;rfl,PySem.W.mg_of X G a16⟩
 have F17:=bw (st:=c_) l17 c17 k17
 have g17:Gf K mg "is_least" c_ ["opening","hands"] _ _:=⟨F17,F17.binds (ps:=["opening","hands"]) λ_ _ _ _ _ _ us hl=>by obtain⟨_,_,rfl⟩:=us2 hl;rfl,PySem.W.mg_of X G a17⟩
 have F18:=bw (st:=bD) l18 c18 k18
 have g18:Gf K mg "is_greatest" bD ["opening","many","hands"] _ _:=⟨F18,F18.binds (ps:=["opening","many","hands"]) λ_ _ _ _ _ _ us hl=>by obtain⟨_,_,_,rfl⟩:=us3 hl;rfl,PySem.W.mg_of X G a18⟩
 have F19:=bw (st:=bA) l19 c19 k19
 have g19:Gf K mg "open_sets" bA ["table","many"] _ _:=⟨F19,F19.binds (ps:=["table","many"]) λ_ _ _ _ _ _ us hl=>by obtain⟨_,_,rfl⟩:=us2 hl;rfl,PySem.W.mg_of X G a19⟩
 have F20:=bw (st:=jH) l20 c20 k20
 have g20:Gf K mg "bars" jH ["table","many","hands"] _ _:=⟨F20,F20.binds (ps:=["table","many","hands"]) λ_ _ _ _ _ _ us hl=>by obtain⟨_,_,_,rfl⟩:=us3 hl;rfl,PySem.W.mg_of X G a20⟩
 have F21:=bw (st:=dz) l21 c21 k21
 have g21:Gf K mg "_law_cell" dz ["_law_script","_law_k"] _ _:=⟨F21,F21.binds (ps:=["_law_script","_law_k"]) λ_ _ _ _ _ _ us hl=>by obtain⟨_,_,rfl⟩:=us2 hl;rfl,PySem.W.mg_of X G a21⟩
 have F22:=bw (st:=ed) l22 c22 k22
 have g22:Gf K mg "_law_row" ed ["_law_cell_here","_law_most","_law_many"] _ _:=⟨F22,F22.binds (ps:=["_law_cell_here","_law_most","_law_many"]) λ_ _ _ _ _ _ us hl=>by obtain⟨_,_,_,rfl⟩:=us3 hl;rfl,PySem.W.mg_of X G a22⟩
 have F23:=bw (st:=gg) l23 c23 k23
 have g23:Gf K mg "_law_p" gg ["_law_cell_here"] _ _:=⟨F23,F23.binds (ps:=["_law_cell_here"]) λ_ _ _ _ _ _ us hl=>by obtain⟨_,rfl⟩:=us1 hl;rfl,PySem.W.mg_of X G a23⟩
 have F24:=bw (st:=cx) l24 c24 k24
 have g24:Gf K mg "_law_powers" cx ["_law_p_here","_law_wide","_law_x"] _ _:=⟨F24,F24.binds (ps:=["_law_p_here","_law_wide","_law_x"]) λ_ _ _ _ _ _ us hl=>by obtain⟨_,_,_,rfl⟩:=us3 hl;rfl,PySem.W.mg_of X G a24⟩
 have F25:=bw (st:=cQ) l25 c25 k25
 have g25:Gf K mg "_law_table" cQ ["_law_script"] _ _:=⟨F25,F25.binds (ps:=["_law_script"]) λ_ _ _ _ _ _ us hl=>by obtain⟨_,rfl⟩:=us1 hl;rfl,PySem.W.mg_of X G a25⟩
 have F26:=bw (st:=cR) l26 c26 k26
 have g26:Gf K mg "_law_sets" cR ["_law_many"] _ _:=⟨F26,F26.binds (ps:=["_law_many"]) λ_ _ _ _ _ _ us hl=>by obtain⟨_,rfl⟩:=us1 hl;rfl,PySem.W.mg_of X G a26⟩
 have F27:=bw (st:=bN) l27 c27 k27
 have g27:Gf K mg "_law_within" bN ["_law_one","_law_other"] _ _:=⟨F27,F27.binds (ps:=["_law_one","_law_other"]) λ_ _ _ _ _ _ us hl=>by obtain⟨_,_,rfl⟩:=us2 hl;rfl,PySem.W.mg_of X G a27⟩
 have F28:=bw (st:=bJ) l28 c28 k28
 have g28:Gf K mg "_law_due" bJ ["_law_some","_law_opened","_law_many"] _ _:=⟨F28,F28.binds (ps:=["_law_some","_law_opened","_law_many"]) λ_ _ _ _ _ _ us hl=>by obtain⟨_,_,_,rfl⟩:=us3 hl;rfl,PySem.W.mg_of X G a28⟩
 have F29:=bw (st:=cj) l29 c29 k29
 have g29:Gf K mg "_law_whole" cj ["_law_found"] _ _:=⟨F29,F29.binds (ps:=["_law_found"]) λ_ _ _ _ _ _ us hl=>by obtain⟨_,rfl⟩:=us1 hl;rfl,PySem.W.mg_of X G a29⟩
 have F30:=bw (st:=iX) l30 c30 k30
 have g30:Gf K mg "law" iX ["_law_script"] _ _:=⟨F30,F30.binds (ps:=["_law_script"]) λ_ _ _ _ _ _ us hl=>by obtain⟨_,rfl⟩:=us1 hl;rfl,PySem.W.mg_of X G a30⟩
 refine⟨PySem.W.fnOf "law" "law" (aN iX) (aL iX) (ai iX) .none L6 L7 L8 LI Js L9,λs v=>.of_eq rfl,λbase _ _=>?_⟩
 have oV0:=Dq (P:=l.prog) (w:=w) (base:=base) T g0
 have oV1:=AM (P:=l.prog) (w:=w) (base:=base) T g1
 have oV2:=AN (P:=l.prog) (w:=w) (base:=base) T g2
 have oV3:=oK (P:=l.prog) (w:=w) (base:=base) T g3
 have oV4:=AO (P:=l.prog) (w:=w) (base:=base) T g4 g2 oV2 g3 oV3 g0 oV0 g1 oV1
 have oV5:=qx (P:=l.prog) (w:=w) (base:=base) T g5
 have oV6:=Ds (P:=l.prog) (w:=w) (base:=base) T g6
 have oK7:=Dt (P:=l.prog) (w:=w) (base:=base) T g7 g5 oV5 g6 oV6 g4 oV4 g0 oV0 g1 oV1
 have oV8:=vV (P:=l.prog) (w:=w) (base:=base) T g8
 have oV9:=uz (P:=l.prog) (w:=w) (base:=base) T g9
 have Qv:=oM (P:=l.prog) (w:=w) (base:=base) T g10
 have Qw:=rV (P:=l.prog) (w:=w) (base:=base) T g11 g9 oV9 g10 Qv g7 oK7
 have L_:=AQ (P:=l.prog) (w:=w) (base:=base) T g12 g8 oV8 g11 Qw
 have Jt:=rW (P:=l.prog) (w:=w) (base:=base) T g13 g12 L_
 have Ma:=qI (P:=l.prog) (w:=w) (base:=base) T g14
 have Qx:=vY (P:=l.prog) (w:=w) (base:=base) T g15
 have Qy:=mU (P:=l.prog) (w:=w) (base:=base) T g16
 have Mb:=uC (P:=l.prog) (w:=w) (base:=base) T g17 g15 Qx
 have Mc:=oN (P:=l.prog) (w:=w) (base:=base) T g18 g16 Qy
 have Qz:=rX (P:=l.prog) (w:=w) (base:=base) T g19 g14 Ma g13 Jt g17 Mb g18 Mc
 have QA:=rY (P:=l.prog) (w:=w) (base:=base) T g19 g14 Ma g13 Jt g17 Mb g18 Mc
 have QB:=Dw (P:=l.prog) (w:=w) (base:=base) T g20 g13 Jt
 have QC:=rZ (P:=l.prog) (w:=w) (base:=base) T g21
 have QD:=uD (P:=l.prog) (w:=w) (base:=base) T g22
 have QE:=xW (P:=l.prog) (w:=w) (base:=base) T g23
 have QF:=oO (P:=l.prog) (w:=w) (base:=base) T g24
 have QG:=qN (P:=l.prog) (w:=w) (base:=base) T g25 g21 QC g23 QE g24 QF g22 QD
 have QH:=r8 (P:=l.prog) (w:=w) (base:=base) T g26
 have QI:=oP (P:=l.prog) (w:=w) (base:=base) T g27
 have QJ:=uE (P:=l.prog) (w:=w) (base:=base) T g28
 have QK:=qQ (P:=l.prog) (w:=w) (base:=base) T g29
 have QL:=Gi (P:=l.prog) (w:=w) (base:=base) T g30 g25 QG g26 QH g12 L_ g28 QJ g19 Qz g29 QK g20 QB g27 QI QA
 exact QL
end
theorem walk{l:PySem.W.OpenLaw}{q:Program}{loose:List Str}{XP:(Str→Option Value)→Heap→Prop}{YP:World→Heap→Prop}{d:DefRec}{K:Params→PySem.W.Frag}(hn:l.most=some 63)(hdf:d.params.defaults=[])
  (I0:∀ns:List Int,ns.length≤63→∃μ',nN [.val (.lst (ns.map T.int))] []=.ok (.val (.bl true)) μ')
  (hY:∀(w:World) (h:Heap),YP w h→(K w.params).In h)
  (F:∀(w:World) (mg:Str→Option Value) (fa:Addr) (h:Heap),(K w.params).In h→h.Ns mainGlobals mg→mg d.name=some (.ref fa) →
   ∃fd:FuncData,(∀(s:Shared) (u:Value),BindsTo s fd ⟨[u],[]⟩ [("_law_script",u)])∧∀base:Heap,(K w.params).In base→base.Ns mainGlobals mg→aV l.prog w (K w.params) mg base CX0 8 fa fd ["_law_script"] (spD (K w.params) nN 1)) :
  PySem.W.WalkO q loose XP YP l.row.toRowW d [] (λf vs=>PySem.call f vs) :=
 L2.EN (n:=63) (k:=8) (x:="_law_script") (CX:=λ_=>CX0) (sp:=λw=>spD (K w.params) nN 1) hn (by decide) hdf ⟨rfl,by decide,by decide⟩ hY F (λw H a ns hl hO hS=>IZ I0 hl hS hO) λ_ _ _ _ _ z=>z
end Fw.k33
end
namespace Fw.Sets
def subs:Nat→List (List Int)
 | 0=>[[]]
 | n+1=>subs n++(subs n).map λs=>s++[(n:Int)]
theorem qR:∀n,(subs n).length=2 ^ n
 | 0=>rfl
 | n+1=>by unfold subs;rw[List.length_append,List.length_map,qR n,Nat.pow_succ];omega
theorem o8:∀n,∀s∈subs n,s.Pairwise (·<·)∧∀x∈s,0≤x∧x<(n:Int)
 | 0,s,h=>by
  rw[subs,List.mem_singleton] at h
  subst h
  exact⟨.nil,λ_ h=>(nomatch h)⟩
 | n+1,s,h=>by
  rw[subs] at h
  rcases List.mem_append.mp h with h|h
  ·obtain⟨h1,h2⟩:=o8 n s h
   exact⟨h1,λx hx=>⟨(h2 x hx).1,by have:=(h2 x hx).2;omega⟩⟩
  ·obtain⟨t,ht,rfl⟩:=List.mem_map.mp h
   obtain⟨h1,h2⟩:=o8 n t ht
   refine⟨List.pairwise_append.mpr ⟨h1,List.pairwise_singleton _ _,λa ha b hb=>?_⟩,λx hx=>?_⟩
   ·rw[List.mem_singleton] at hb;subst hb;exact (h2 a ha).2
   ·rcases List.mem_append.mp hx with hx|hx
    ·exact⟨(h2 x hx).1,by have:=(h2 x hx).2;omega⟩
    ·rw[List.mem_singleton] at hx;subst hx;exact⟨by omega,by omega⟩
theorem qS:∀(n:Nat) (s:List Int),s.Pairwise (·<·)→(∀x∈s,0≤x∧x<(n:Int))→s∈subs n
 | 0,s,_,h=>by
  cases s with
  | nil=>exact List.mem_singleton.mpr rfl
  | cons x s=>have:=h x (.head _);omega
 | n+1,s,hs,h=>by
  rw[subs]
  by_cases hn:(n:Int)∈s
  ·refine List.mem_append.mpr (.inr (List.mem_map.mpr ?_))
   obtain⟨t,ht⟩:∃t,s=t++[(n:Int)]:=by
    have hne:s≠[]:=λe=>by rw[e] at hn;cases hn
    refine⟨s.dropLast,?_⟩
    have e1:=List.dropLast_concat_getLast hne
    have hl:=h _ (List.getLast_mem hne)
    have e2:s.getLast hne=(n:Int):=by
     rw[← e1] at hn hs
     rcases List.mem_append.mp hn with q|q
     ·have:=(List.pairwise_append.mp hs).2.2 _ q _ (List.mem_singleton.mpr rfl)
      omega
     ·exact (List.mem_singleton.mp q).symm
    rw[← e2,e1]
   refine⟨t,?_,ht.symm⟩
   rw[ht] at hs h
   obtain⟨p1,_,p3⟩:=List.pairwise_append.mp hs
   exact qS n t p1 λx hx=>⟨(h x (List.mem_append_left _ hx)).1,p3 x hx _ (List.mem_singleton.mpr rfl)⟩
  ·refine List.mem_append.mpr (.inl (qS n s hs λx hx=>⟨(h x hx).1,?_⟩))
   have:=(h x hx).2
   have:x≠n:=λe=>hn (e ▸ hx)
   omega
theorem aZ{n:Nat}{s:List Int}:s∈subs n↔s.Pairwise (·<·)∧∀x∈s,0≤x∧x<(n:Int):=⟨o8 n s,λh=>qS n s h.1 h.2⟩
theorem dM:∀n,(subs n).Nodup
 | 0=>by rw[subs];exact List.pairwise_singleton _ _
 | n+1=>by
  rw[subs]
  refine List.nodup_append.mpr ⟨dM n,?_,λa ha b hb e=>?_⟩
  ·refine List.Pairwise.map _ (λa b (h:a≠b) e=>h ?_) (dM n)
   exact List.append_cancel_right e
  ·subst e
   obtain⟨t,ht,rfl⟩:=List.mem_map.mp hb
   have:=(o8 n _ ha).2 (n:Int) (List.mem_append_right _ (List.mem_singleton.mpr rfl))
   omega
def less(s:List Int)(h:Int):List Int:=s.filter λx=>decide (x≠h)
theorem qT{n:Nat}{s:List Int}(hs:s∈subs n)(h:Int):less s h∈subs n:=by
 obtain⟨h1,h2⟩:=aZ.mp hs
 exact aZ.mpr ⟨h1.filter _,λx hx=>h2 x (List.mem_filter.mp hx).1⟩
theorem Dx{s:List Int}{h:Int}(hm:h∈s):(less s h).length<s.length:=by
 unfold less
 refine List.length_filter_lt_length_iff_exists.mpr ⟨h,hm,by simp⟩
section
variable(O:List Int→Bool)
def qU(n:Nat)(s:List Int):Prop:=s∈subs n∧O s=true∧∀h∈s,O (less s h)=false
theorem Dy{n:Nat}:∀(k:Nat) (s:List Int),s.length=k→s∈subs n→O s=true→∃t,qU O n t∧∀x∈t,x∈s:=by
 intro k
 induction k using Nat.strongRecOn with
 | ind k ih =>
  intro s hk hs ho
  by_cases hq:∀h∈s,O (less s h)=false
  ·exact⟨s,⟨hs,ho,hq⟩,λ_ h=>h⟩
  ·obtain⟨h,hm,hf⟩:∃h,h∈s∧O (less s h)=true:=by
    refine Classical.byContradiction λno=>hq λh hm=>?_
    cases e:O (less s h) with
    | true=>exact absurd ⟨h,hm,e⟩ no
    | false=>rfl
   obtain⟨t,h1,h2⟩:=ih _ (by rw[← hk];exact Dx hm) (less s h) rfl (qT hs h) hf
   exact⟨t,h1,λx hx=>(List.mem_filter.mp (h2 x hx)).1⟩
end
theorem few{n:Nat}(hn:n≤6)(h1:0<n)(P:List Int→Bool)(h:P []=true→P [0]=true→False):((subs n).filter P).length<64:=by
 have hl:=qR n
 have hp:2 ^ n≤64:=Nat.le_trans (Nat.pow_le_pow_right (by decide) hn) (by decide)
 by_cases ha:∀s∈subs n,P s=true
 ·exact (h (ha [] (aZ.mpr ⟨.nil,λ_ h=>(nomatch h)⟩)) (ha [0] (aZ.mpr ⟨List.pairwise_singleton _ _,λx hx=>by rw[List.mem_singleton] at hx;omega⟩))).elim
 ·obtain⟨s,hs,hf⟩:∃s,s∈subs n∧¬ P s=true:=by
   refine Classical.byContradiction λno=>ha λs hs=>Classical.byContradiction λq=>no ⟨s,hs,q⟩
  have:((subs n).filter P).length<(subs n).length:=List.length_filter_lt_length_iff_exists.mpr ⟨s,hs,hf⟩
  omega
end Fw.Sets
namespace Fw.Sets
open Fw
theorem sub_len{n:Nat}:∀{s:List Int},s∈subs n→s.length≤n:=by
 induction n with
 | zero=>intro s h;rw[subs,List.mem_singleton] at h;subst h;exact Nat.le_refl _
 | succ n ih =>
  intro s h
  rw[subs] at h
  rcases List.mem_append.mp h with h|h
  ·have:=ih h;omega
  ·obtain⟨t,ht,rfl⟩:=List.mem_map.mp h
   have:=ih ht
   rw[List.length_append]
   show t.length+1≤n+1
   omega
def more(s:List Int)(h:Int):List Int:=jP (s++[h])
theorem nQ(s:List Int)(h:Int):(more s h).Perm (s++[h]):=iU _
theorem kF{s:List Int}{h x:Int}:x∈more s h↔x∈s∨x=h:=by
 rw[(nQ s h).mem_iff,List.mem_append,List.mem_singleton]
theorem v9(s:List Int)(h:Int):(more s h).length=s.length+1:=by
 rw[(nQ s h).length_eq,List.length_append];rfl
theorem strict:∀{l:List Int},l.Pairwise (·≤·)→l.Nodup→l.Pairwise (·<·)
 | [],_,_=>.nil
 | a::l,h1,h2=>by
  obtain⟨p1,p2⟩:=List.pairwise_cons.mp h1
  obtain⟨q1,q2⟩:=List.pairwise_cons.mp h2
  refine List.pairwise_cons.mpr ⟨λb hb=>?_,strict p2 q2⟩
  have:=p1 b hb
  have:=q1 b hb
  omega
theorem qV{n:Nat}{s:List Int}(hs:s∈subs n){h:Int}(h0:0≤h∧h<(n:Int))(hm:h∉s):more s h∈subs n:=by
 obtain⟨h1,h2⟩:=aZ.mp hs
 refine aZ.mpr ⟨strict (lA _) ((nQ s h).nodup_iff.mpr ?_),λx hx=>?_⟩
 ·refine List.nodup_append.mpr ⟨h1.imp λq=>by omega,List.pairwise_singleton _ _,λa ha b hb e=>?_⟩
  rw[List.mem_singleton] at hb
  subst hb e
  exact hm ha
 ·rcases kF.mp hx with q|rfl
  ·exact h2 x q
  ·exact h0
section
variable(O:List Int→Bool)
def eg(n:Nat)(s:List Int):Prop:=s∈subs n∧O s=false∧∀h:Int,0≤h∧h<(n:Int)→h∉s→O (more s h)=true
theorem AU{n:Nat}:∀(k:Nat) (s:List Int),n-s.length=k→s∈subs n→O s=false→∃t,eg O n t∧∀x∈s,x∈t:=by
 intro k
 induction k using Nat.strongRecOn with
 | ind k ih =>
  intro s hk hs ho
  by_cases hq:∀h:Int,0≤h∧h<(n:Int)→h∉s→O (more s h)=true
  ·exact⟨s,⟨hs,ho,hq⟩,λ_ h=>h⟩
  ·obtain⟨h,h0,hm,hf⟩:∃h:Int,(0≤h∧h<(n:Int))∧h∉s∧O (more s h)=false:=by
    refine Classical.byContradiction λno=>hq λh h0 hm=>?_
    cases e:O (more s h) with
    | true=>rfl
    | false=>exact absurd ⟨h,h0,hm,e⟩ no
   have hmm:=qV hs h0 hm
   have l1:=sub_len hmm
   rw[v9] at l1
   obtain⟨t,h1,h2⟩:=ih (n-(more s h).length) (by rw[v9];omega) (more s h) rfl hmm hf
   exact⟨t,h1,λx hx=>h2 x (kF.mpr (.inl hx))⟩
theorem v_{n:Nat}(mono:∀s t,s∈subs n→t∈subs n→(∀x∈s,x∈t)→O s=true→O t=true){s:List Int}(hs:s∈subs n):O s=true↔∃t,qU O n t∧∀x∈t,x∈s :=
 ⟨λh=>Dy O _ s rfl hs h,λ⟨t,h1,h2⟩=>mono t s h1.1 hs h2 h1.2.1⟩
theorem wa{n:Nat}(mono:∀s t,s∈subs n→t∈subs n→(∀x∈s,x∈t)→O s=true→O t=true){s:List Int}(hs:s∈subs n):O s=false↔∃t,eg O n t∧∀x∈s,x∈t :=
 ⟨λh=>AU O _ s rfl hs h,λak=>by
  obtain⟨t,h1,h2⟩:=ak
  cases e:O s with
  | false=>rfl
  | true=>have:=mono s t hs h1.1 h2 e;rw[h1.2.1] at this;cases this⟩
end
end Fw.Sets
namespace Fw
open PySem Fw Fw.H
theorem J4(a b:DS)(e:Slots)(μ:af):ar a b e μ=(a e μ).seq b:=rfl
theorem J5(i:Nat)(d:D)(e:Slots)(μ:af):az i d e μ=(d e μ).toS e λx μ1=>.nx (e.set i (some x)) μ1:=rfl
theorem J6(d:D)(e:Slots)(μ:af):aM d e μ=(d e μ).toS e λx μ1=>.rt x μ1:=rfl
theorem Me(c:D)(a b:DS)(e:Slots)(μ:af):sIf c a b e μ=(c e μ).toS e λx μ1=>(R.lift (asB x) μ1).toS e λk μ1=>if k=true then a e μ1 else b e μ1:=rfl
theorem J7(e:Slots)(μ:af):b7 e μ=.nx e μ:=rfl
theorem Mf(f:T→Option T)(a:D)(e:Slots)(μ:af):dUn f a e μ=(a e μ).bind λx μ1=>R.lift (ap1 f (rd μ1 x)) μ1:=rfl
theorem J8(f:T→T→Option T)(a b:D)(e:Slots)(μ:af):ah f a b e μ=(a e μ).bind λx μ1=>(b e μ1).bind λy μ2=>R.lift (ap2 f (rd μ2 x) (rd μ2 y)) μ2:=rfl
theorem J9(i:Nat)(e:Slots)(μ:af):aa i e μ=R.lift (slot e i) μ:=rfl
theorem MJ(t:T)(e:Slots)(μ:af):dC t e μ=.ok (.val t) μ:=rfl
theorem Ju(f:FN)(ds:List D)(e:Slots)(μ:af):aw f ds e μ=(dN ds e μ).bind λxs μ1=>f xs μ1:=rfl
theorem Gk(d:D)(ds:List D)(e:Slots)(μ:af):dN (d::ds) e μ=(d e μ).bind λx μ1=>(dN ds e μ1).bind λxs μ2=>.ok (x::xs) μ2:=rfl
theorem Hi(e:Slots)(μ:af):dN [] e μ=.ok [] μ:=rfl
theorem J_(ds:List D)(e:Slots)(μ:af):eW ds e μ=(dN ds e μ).bind λxs μ1=>(eD xs μ1).bind λts μ2=>.ok (.val (.tup ts)) μ2:=rfl
theorem Ka(ds:List D)(e:Slots)(μ:af):bC ds e μ=(dN ds e μ).bind λxs μ1=>(eD xs μ1).bind λts μ2=>.ok (.val (.lst ts)) μ2:=rfl
theorem Kb(a b:D)(e:Slots)(μ:af):aU a b e μ=(a e μ).bind λx μ1=>(b e μ1).bind λy μ2=>R.lift ((rd μ2 y).bind λu=>m_ μ2 x u) μ2:=rfl
theorem Kc(a:D)(e:Slots)(μ:af):pH a e μ=(a e μ).bind λx μ1=>R.lift ((pG μ1 x).map SV.val) μ1:=rfl
theorem Mg(f:FN)(xs:List SV)(μ:af):cal f xs μ=(f xs μ).calm:=rfl
theorem Hj(x:Option SV)(e:Slots)(i:Nat):slot (x::e) (i+1)=slot e i:=rfl
theorem Hk(x:SV)(e:Slots):slot (some x::e) 0=some x:=rfl
theorem Jv{α:Type}(a:α)(e:Slots)(μ:af)(f:α→af→RS):(R.ok a μ).toS e f=f a μ:=rfl
theorem Mh(μ:af)(t:T):rd μ (.val t)=some t:=rfl
theorem Jw(f:T→Option T)(t:T):ap1 f (some t)=(f t).map SV.val:=rfl
theorem Jx(f:T→T→Option T)(t u:T):ap2 f (some t) (some u)=(f t u).map SV.val:=rfl
theorem Mi(b:Bool):asB (.val (.bl b))=some b:=rfl
theorem Ke(μ:af)(t:T):frz (.val t) μ=.ok t μ:=rfl
theorem Jy(μ:af):eD [] μ=.ok [] μ:=rfl
theorem Hl(x:SV)(xs:List SV)(μ:af):eD (x::xs) μ=(frz x μ).bind λt μ1=>(eD xs μ1).bind λts μ2=>.ok (t::ts) μ2:=rfl
theorem Hm(e:Slots)(μ:af)(f:Slots→af→RS):(RS.nx e μ).seq f=f e μ:=rfl
theorem El{α:Type}(a:α)(μ:af):R.lift (some a) μ=.ok a μ:=rfl
theorem Hn{α β:Type}(a:α)(μ:af)(f:α→af→R β):(R.ok a μ).bind f=f a μ:=rfl
theorem Ho{α:Type}(a:α)(μ:af):(R.ok a μ).calm=.ok a μ:=rfl
theorem Kf(a b:D)(e:Slots)(μ:af):j0 a b e μ=(a e μ).bind λx μ1=>(R.lift (asB x) μ1).bind λk μ1=>if k=true then b e μ1 else .ok (.val (.bl false)) μ1:=rfl
theorem Mj(a b:D)(e:Slots)(μ:af):dOr a b e μ=(a e μ).bind λx μ1=>(R.lift (asB x) μ1).bind λk μ1=>if k=true then .ok (.val (.bl true)) μ1 else b e μ1:=rfl
theorem Kg(a:D)(e:Slots)(μ:af):h8 a e μ=(a e μ).bind λx μ1=>(R.lift (asB x) μ1).bind λk μ1=>.ok (.val (.bl (!k))) μ1:=rfl
theorem Kh(d:D)(e:Slots)(μ:af):bo d e μ=(d e μ).bind λx μ1=>(R.lift ((rd μ1 x).bind bx) μ1).bind λts μ1=>.ok ⟨ts,λμ'=>rd μ' x=rd μ1 x⟩ μ1:=rfl
theorem Ki(it:DI)(b:BD)(body:DS)(e:Slots)(μ:af):bF it b body e μ=(it e μ).toS e λW μ1=>forL W.same b body W.items e μ1:=rfl
theorem Kj(e:Slots):ini [] e=[]:=rfl
theorem Jz(mp:List (Option Nat))(e:Slots):ini (none::mp) e=none::ini mp e:=rfl
theorem JA(j:Nat)(mp:List (Option Nat))(e:Slots):ini (some j::mp) e=slot e j::ini mp e:=rfl
theorem JB(i:Nat)(t:T)(e:Slots):ao i t e=some (e.set i (some (.val t))):=rfl
end Fw
local macro_rules
 | `(tactic| simp_all! only [$ls,*]) => do
  let mut xs:Array (Lean.TSyntax `Lean.Parser.Tactic.simpLemma):=#[]
  for n in "J4 J5 J6 Me J7 Mf J8 J9 MJ Ju Gk Hi J_ Ka Kb Kc Mg Hj Hk Jv Mh Jw Jx Mi Ke Jy Hl Hm El Hn Ho Kf Mj Kg Kh Ki Kj Jz JA JB".splitOn " " do xs := xs.push (← `(Lean.Parser.Tactic.simpLemma| $(Lean.mkIdent (`Fw ++ n.toName)):term))
  `(tactic| try dsimp only [$(xs),*, Nat.reduceAdd, Nat.reduceSub, List.set_cons_succ, List.set_cons_zero, $ls,*])
namespace Fw.E
open PySem Fw Fw.H
structure Rw(p:Int)(L:Nat)(r:List Int):Prop where
 len:r.length=L
 lo:∀x∈r,0≤x
 hi:∀x∈r,x<p
def g(r:List Int)(k:Nat):Int:=r.getD k 0
theorem iM(x:Int)(r:List Int):g (x::r) 0=x:=by simp[g]
theorem e8(x:Int)(r:List Int)(k:Nat):g (x::r) (k+1)=g r k:=by simp[g]
theorem AV(r:List Int)(k:Nat)(h:k<r.length):g r k=r[k]:=by simp[g,h]
theorem Rw.g0{p:Int}{L:Nat}{r:List Int}(h:Rw p L r)(hp:0<p)(k:Nat):0≤g r k∧g r k<p:=by
 by_cases hk:k<r.length
 ·rw[AV r k hk];exact⟨h.lo _ (List.getElem_mem hk),h.hi _ (List.getElem_mem hk)⟩
 ·have:g r k=0:=by simp[g,Nat.le_of_not_lt hk]
  lia
def dot:List Int→List Int→Int
 | x::xs,y::ys=>x*y+dot xs ys
 | _,_=>0
@[simp] theorem MK(ys:List Int):dot [] ys=0:=by cases ys<;>rfl
@[simp] theorem Dz(ys:List Int):dot ys []=0:=by cases ys<;>rfl
@[simp] theorem bI(x y:Int)(xs ys:List Int):dot (x::xs) (y::ys)=x*y+dot xs ys:=rfl
theorem DA(xs ys:List Int):dot xs ys=dot ys xs:=by
 induction xs generalizing ys with
 | nil=>cases ys<;>rfl
 | cons x xs ih=>cases ys with
  | nil=>rfl
  | cons y ys=>simp[ih,Int.mul_comm]
theorem xX(c1 c2 r1 r2:List Int)(h:c1.length=r1.length):dot (c1++c2) (r1++r2)=dot c1 r1+dot c2 r2:=by
 induction c1 generalizing r1 with
 | nil=>cases r1 with
  | nil=>simp
  | cons x r1=>simp at h
 | cons x c1 ih=>cases r1 with
  | nil=>simp at h
  | cons y r1=>simp[ih r1 (by simpa using h)];lia
theorem md(x p:Int):∃t,x%p=x-p*t:=⟨x / p,Int.emod_def x p⟩
def sub(p n:Int)(row lead:List Int):List Int:=(row.zip lead).map λq=>(q.1-n*q.2)%p
theorem zt(p n:Int):∀(row lead c:List Int),row.length=lead.length→∃t,dot c (sub p n row lead)=dot c row-n*dot c lead+p*t
 | [],lead,c,h=>by cases lead with
  | nil=>exact⟨0,by simp[sub]⟩
  | cons x l=>simp at h
 | e::row,[],c,h=>by simp at h
 | e::row,o::lead,[],h=>⟨0,by simp[sub]⟩
 | e::row,o::lead,c0::c,h=>by
  obtain⟨s,hs⟩:=zt p n row lead c (by simpa using h)
  obtain⟨t,ht⟩:=md (e-n*o) p
  refine⟨s-c0*t,?_⟩
  have e1:sub p n (e::row) (o::lead)=(e-n*o)%p::sub p n row lead:=rfl
  rw[e1,bI,bI,bI,hs,ht]
  grind
theorem Hq(p n:Int):∀(row lead:List Int) (k:Nat),row.length=lead.length→g (sub p n row lead) k=(g row k-n*g lead k)%p
 | [],lead,k,h=>by cases lead with
  | nil=>simp[sub,g]
  | cons x l=>simp at h
 | e::row,[],k,h=>by simp at h
 | e::row,o::lead,0,h=>by simp[sub,g]
 | e::row,o::lead,k+1,h=>by
  have e1:sub p n (e::row) (o::lead)=(e-n*o)%p::sub p n row lead:=rfl
  rw[e1,e8,e8,e8]
  exact Hq p n row lead k (by simpa using h)
theorem JC{p:Int}{L:Nat}{row lead:List Int}(hp:0<p)(n:Int)(h1:row.length=L)(h2:lead.length=L):Rw p L (sub p n row lead):=by
 refine⟨by simp[sub,h1,h2],λx hx=>?_,λx hx=>?_⟩
 ·obtain⟨q,_,rfl⟩:=List.mem_map.mp hx
  exact Int.emod_nonneg _ (by lia)
 ·obtain⟨q,_,rfl⟩:=List.mem_map.mp hx
  exact Int.emod_lt_of_pos _ hp
def fr(p:Int)(row lead:List Int)(q:Nat):List Int:=if g row q=0 then row else sub p (g row q) row lead
theorem DB{p:Int}{L:Nat}{row lead:List Int}(hp:0<p)(q:Nat)(h1:Rw p L row)(h2:Rw p L lead):Rw p L (fr p row lead q):=by
 unfold fr
 split
 ·exact h1
 ·exact JC hp _ h1.len h2.len
theorem Mk{p:Int}{L:Nat}{row lead:List Int}(hp:0<p)(q k:Nat)(h1:Rw p L row)(h2:Rw p L lead):g (fr p row lead q) k=(g row k-g row q*g lead k)%p:=by
 unfold fr
 split
 ·rename_i h
  have:=h1.g0 hp k
  rw[h]
  simp
  rw[Int.emod_eq_of_lt this.1 this.2]
 ·exact Hq p _ row lead k (by rw[h1.len,h2.len])
def Z(p:Int)(c r:List Int):Prop:=p ∣ dot c r
theorem Ml{p:Int}{L:Nat}{row lead c:List Int}(q:Nat)(h1:Rw p L row)(h2:Rw p L lead)(hz:Z p c lead):Z p c (fr p row lead q)↔Z p c row:=by
 unfold fr
 split
 ·exact Iff.rfl
 ·obtain⟨t,ht⟩:=zt p (g row q) row lead c (by rw[h1.len,h2.len])
  obtain⟨s,hs⟩:=hz
  unfold Z
  rw[ht,hs]
  constructor
  ·rintro⟨u,hu⟩;exact⟨u+g row q*s-t,by grind⟩
  ·rintro⟨u,hu⟩;exact⟨u-g row q*s+t,by grind⟩
def tm(p n:Int)(row:List Int):List Int:=row.map λe=>n*e%p
theorem uI(p n:Int):∀(row c:List Int),∃t,dot c (tm p n row)=n*dot c row+p*t
 | [],c=>⟨0,by simp[tm]⟩
 | e::row,[]=>⟨0,by simp[tm]⟩
 | e::row,c0::c=>by
  obtain⟨s,hs⟩:=uI p n row c
  obtain⟨t,ht⟩:=md (n*e) p
  refine⟨s-c0*t,?_⟩
  have e1:tm p n (e::row)=n*e%p::tm p n row:=rfl
  rw[e1,bI,bI,hs,ht]
  grind
theorem Mm(p n:Int)(row:List Int)(k:Nat):g (tm p n row) k=n*g row k%p:=by
 induction row generalizing k with
 | nil=>simp[tm,g]
 | cons e row ih =>
  have e1:tm p n (e::row)=n*e%p::tm p n row:=rfl
  cases k with
  | zero=>rw[e1,iM,iM]
  | succ k=>rw[e1,e8,e8];exact ih k
theorem DC{p:Int}{L:Nat}{row:List Int}(hp:0<p)(n:Int)(h:row.length=L):Rw p L (tm p n row):=by
 refine⟨by simp[tm,h],λx hx=>?_,λx hx=>?_⟩
 ·obtain⟨q,_,rfl⟩:=List.mem_map.mp hx
  exact Int.emod_nonneg _ (by lia)
 ·obtain⟨q,_,rfl⟩:=List.mem_map.mp hx
  exact Int.emod_lt_of_pos _ hp
def Inv(p n a:Int):Prop:=n*a%p=1%p
theorem QM{p n a:Int}(row c:List Int)(hi:Inv p n a):Z p c (tm p n row)↔Z p c row:=by
 obtain⟨t,ht⟩:=uI p n row c
 unfold Z
 rw[ht]
 constructor
 ·rintro⟨u,hu⟩
  obtain⟨m1,e1⟩:=md (n*a) p
  obtain⟨m2,e2⟩:=md 1 p
  have e3:n*a-p*m1=1-p*m2:=by rw[← e1,← e2];exact hi
  exact⟨a*(u-t)+(m2-m1)*dot c row,by grind⟩
 ·rintro⟨u,hu⟩;exact⟨n*u+t,by grind⟩
theorem Mn{p:Int}(h:fo p)(r:Int)(h1:1<r)(h2:r<p):p%r≠0:=by
 have hb:=h.pos
 have key:∀p∈([2,3,5,7,11,13,17,19,23,29,31,37,41,43,47,53,59,61,67,71,73,79,83,89,97]:List Int),∀r:Nat,r<97→1<r→(r:Int)<p→p%(r:Int)≠0:=by decide +kernel
 have:=key p h r.toNat (by lia) (by lia) (by lia)
 rwa [show (r.toNat:Int)=r by lia] at this
noncomputable abbrev Ld := Nat × List Int
def frees(p:Int)(ls:List Ld)(row:List Int):List Int:=ls.foldl (λr q=>fr p r q.2 q.1) row
structure kQ(p:Int)(L m:Nat)(ls:List Ld)(ns:List (List Int))(rows:List (List Int)):Prop where
 nd:(ls.map (·.1)).Nodup
 key:∀q∈ls,q.1<m
 rl:∀q∈ls,Rw p L q.2
 rn:∀r∈ns,Rw p L r
 one:∀q∈ls,g q.2 q.1=1
 off:∀q∈ls,∀q'∈ls,q'.1≠q.1→g q.2 q'.1=0
 no:∀r∈ns,∀j,j<m→g r j=0
 eq:∀c,(∀r∈rows,Z p c r)↔((∀q∈ls,Z p c q.2)∧∀r∈ns,Z p c r)
theorem kQ.start(p:Int)(L m:Nat):kQ p L m [] [] []:=⟨by simp,by simp,by simp,by simp,by simp,by simp,by simp,by simp⟩
theorem wb{p:Int}{L:Nat}{ls:List Ld}(hp:1<p)(rl:∀q∈ls,Rw p L q.2)(one:∀q∈ls,g q.2 q.1=1)(off:∀q∈ls,∀q'∈ls,q'.1≠q.1→g q.2 q'.1=0) :
  ∀(l D:List Ld) (row:List Int),(∀q∈l,q∈ls)→(∀q∈D,q∈ls)→Rw p L row→(∀q∈D,g row q.1=0) →
   Rw p L (frees p l row)∧(∀q∈D++l,g (frees p l row) q.1=0)∧∀c,(∀q∈l,Z p c q.2)→(Z p c (frees p l row)↔Z p c row)
 | [],D,row,_,_,hr,hd=>⟨hr,λq hq=>hd q (by simpa using hq),λc _=>Iff.rfl⟩
 | a::l,D,row,hl,hD,hr,hd=>by
  have ha:a∈ls:=hl a (by simp)
  have r1:=DB (by lia) a.1 hr (rl a ha)
  have hg:∀k,g (fr p row a.2 a.1) k=(g row k-g row a.1*g a.2 k)%p:=λk=>Mk (by lia) a.1 k hr (rl a ha)
  have h1:g (fr p row a.2 a.1) a.1=0:=by rw[hg,one a ha];simp
  obtain⟨i1,i2,i3⟩:=wb hp rl one off l (D++[a]) (fr p row a.2 a.1) (λq hq=>hl q (by simp[hq])) (λq hq=>by
   rcases List.mem_append.mp hq with h|h
   ·exact hD q h
   ·simp at h;subst h;exact ha) r1 (λq hq=>by
   rcases List.mem_append.mp hq with h|h
   ·by_cases e:q.1=a.1
    ·rw[e];exact h1
    ·rw[hg,hd q h,off a ha q (hD q h) e];simp
   ·simp at h;subst h;exact h1)
  refine⟨i1,λq hq=>i2 q (by simpa using hq),λc hc=>?_⟩
  exact (i3 c λq hq=>hc q (by simp[hq])).trans (Ml a.1 hr (rl a ha) (hc a (by simp)))
theorem kQ.rest{p:Int}{L m:Nat}{ls:List Ld}{ns rows:List (List Int)}{row:List Int}(hp:1<p)(E:kQ p L m ls ns rows)(hr:Rw p L row) :
  Rw p L (frees p ls row)∧(∀q∈ls,g (frees p ls row) q.1=0)∧∀c,(∀q∈ls,Z p c q.2)→(Z p c (frees p ls row)↔Z p c row):=by
 obtain⟨h1,h2,h3⟩:=wb hp E.rl E.one E.off ls [] row (λq h=>h) (by simp) hr (by simp)
 exact⟨h1,by simpa using h2,h3⟩
theorem kQ.JD{p:Int}{L m:Nat}{ls:List Ld}{ns rows:List (List Int)}{row:List Int}(hp:1<p)(E:kQ p L m ls ns rows)(hr:Rw p L row)(h0:∀j,j<m→g (frees p ls row) j=0) :
  kQ p L m ls (ns++[frees p ls row]) (rows++[row]):=by
 obtain⟨h1,h2,h3⟩:=E.rest hp hr
 refine⟨E.nd,E.key,E.rl,λr h=>?_,E.one,E.off,λr h j hj=>?_,λc=>?_⟩
 ·rcases List.mem_append.mp h with h|h
  ·exact E.rn r h
  ·simp at h;subst h;exact h1
 ·rcases List.mem_append.mp h with h|h
  ·exact E.no r h j hj
  ·simp at h;subst h;exact h0 j hj
 ·constructor
  ·intro h
   have a:=(E.eq c).mp λr hr=>h r (by simp[hr])
   refine⟨a.1,λr hr=>?_⟩
   rcases List.mem_append.mp hr with hr|hr
   ·exact a.2 r hr
   ·simp at hr;subst hr;exact (h3 c a.1).mpr (h row (by simp))
  ·rintro⟨a,b⟩ r hr
   rcases List.mem_append.mp hr with hr|hr
   ·exact (E.eq c).mpr ⟨a,λr h=>b r (by simp[h])⟩ r hr
   ·simp at hr;subst hr;exact (h3 c a).mp (b _ (by simp))
def led(p:Int)(ls:List Ld)(fresh:List Int)(f:Nat):List Ld:=ls.map λq=>(q.1,fr p q.2 fresh f)
theorem kQ.lead{p:Int}{L m:Nat}{ls:List Ld}{ns rows:List (List Int)}{row:List Int}{n:Int}{f:Nat}(hp:1<p)(E:kQ p L m ls ns rows)(hr:Rw p L row)(hf:f<m)(h0:g (frees p ls row) f≠0)(hi:Inv p n (g (frees p ls row) f)) :
  kQ p L m (led p ls (tm p n (frees p ls row)) f++[(f,tm p n (frees p ls row))]) ns (rows++[row]):=by
 obtain⟨h1,h2,h3⟩:=E.rest hp hr
 have k1:Rw p L (tm p n (frees p ls row)):=DC (by lia) n h1.len
 have kz:∀c,Z p c (tm p n (frees p ls row))↔Z p c (frees p ls row):=λc=>QM _ c hi
 have kf:g (tm p n (frees p ls row)) f=1:=by
  rw[Mm]
  have:n*g (frees p ls row) f%p=1%p:=hi
  rw[this]
  exact Int.emod_eq_of_lt (by lia) hp
 have k0:∀q∈ls,g (tm p n (frees p ls row)) q.1=0:=λq hq=>by rw[Mm,h2 q hq];simp
 generalize tm p n (frees p ls row)=u at k1 kz kf k0
 have fne:∀q∈ls,q.1≠f:=λq hq e=>h0 (by rw[← e];exact h2 q hq)
 have hg:∀q∈ls,∀k,g (fr p q.2 u f) k=(g q.2 k-g q.2 f*g u k)%p:=λq hq k=>Mk (by lia) f k (E.rl q hq) k1
 have mem:∀q,q∈led p ls u f++[(f,u)]→(∃q0∈ls,q=(q0.1,fr p q0.2 u f))∨q=(f,u):=λq hq=>by
  rcases List.mem_append.mp hq with h|h
  ·obtain⟨q0,h1,h2⟩:=List.mem_map.mp h
   exact .inl ⟨q0,h1,h2.symm⟩
  ·simp at h;exact .inr h
 have up:∀q0∈ls,(q0.1,fr p q0.2 u f)∈led p ls u f++[(f,u)]:=λq0 h=>List.mem_append_left _ (List.mem_map.mpr ⟨q0,h,rfl⟩)
 refine⟨?_,λq hq=>?_,λq hq=>?_,E.rn,λq hq=>?_,λq hq q' hq' hne=>?_,E.no,λc=>?_⟩
 ·have e1:(led p ls u f++[(f,u)]).map (·.1)=ls.map (·.1)++[f]:=by simp[led]
  rw[e1,List.nodup_append]
  refine⟨E.nd,by simp,λa ha b hb=>?_⟩
  simp at hb
  obtain⟨q,hq,rfl⟩:=List.mem_map.mp ha
  rw[hb]
  exact fne q hq
 ·rcases mem q hq with ⟨q0,h,rfl⟩|rfl
  ·exact E.key q0 h
  ·exact hf
 ·rcases mem q hq with ⟨q0,h,rfl⟩|rfl
  ·exact DB (by lia) f (E.rl q0 h) k1
  ·exact k1
 ·rcases mem q hq with ⟨q0,h,rfl⟩|rfl
  ·show g (fr p q0.2 u f) q0.1=1
   rw[hg q0 h,E.one q0 h,k0 q0 h]
   simp
   exact Int.emod_eq_of_lt (by lia) hp
  ·exact kf
 ·rcases mem q hq with ⟨q0,h,rfl⟩|rfl
  ·show g (fr p q0.2 u f) q'.1=0
   rcases mem q' hq' with ⟨q1,h',rfl⟩|rfl
   ·have hne:q1.1≠q0.1:=hne
    show g (fr p q0.2 u f) q1.1=0
    rw[hg q0 h,E.off q0 h q1 h' hne,k0 q1 h']
    simp
   ·show g (fr p q0.2 u f) f=0
    rw[hg q0 h,kf]
    simp
  ·rcases mem q' hq' with ⟨q1,h',rfl⟩|rfl
   ·exact k0 q1 h'
   ·exact absurd rfl hne
 ·have key:∀q0∈ls,Z p c u→(Z p c (fr p q0.2 u f)↔Z p c q0.2):=λq0 h hz=>Ml f (E.rl q0 h) k1 hz
  constructor
  ·intro h
   have a:=(E.eq c).mp λr hr=>h r (by simp[hr])
   have hz:Z p c u:=(kz c).mpr ((h3 c a.1).mpr (h row (by simp)))
   refine⟨λq hq=>?_,a.2⟩
   rcases mem q hq with ⟨q0,h',rfl⟩|rfl
   ·exact (key q0 h' hz).mpr (a.1 q0 h')
   ·exact hz
  ·rintro⟨a,b⟩ r hr
   have hz:Z p c u:=a (f,u) (by simp)
   have al:∀q∈ls,Z p c q.2:=λq hq=>(key q hq hz).mp (a _ (up q hq))
   rcases List.mem_append.mp hr with hr|hr
   ·exact (E.eq c).mpr ⟨al,b⟩ r hr
   ·simp at hr;subst hr
    exact (h3 c al).mp ((kz c).mp hz)
def lE:DS :=
 (ar (az 3 (ah aY (aa 2) (aa 0)))
 (ar (sIf (ah fEq (aa 3) (dC (.int 0))) IK b7)
 (ar (az 4 (ah aY (aa 1) (aa 0)))
 (ar (lh (ah fNe (aa 3) (dC (.int 1))) (ar (az 4 (ah aY (ah bX (dUn EX (aa 4)) (ah du (aa 0) (aa 3))) (aa 0)))
 (az 3 (ah aY (aa 0) (aa 3)))))
 (aM (aa 4))))))
def jq:DS :=
 (aM (aJ (bo (aa 2)) [none,some 0,some 1] (ao 0) (dC (.bl true)) (ah aY (ah bX (aa 2) (aa 0)) (aa 1))))
def fT:DS :=
 (ar (az 4 (aU (aa 1) (aa 3)))
 (ar (sIf (ah fEq (aa 4) (dC (.int 0))) (aM (aa 1)) b7)
 (aM (aJ (Fd (aa 1) (aa 2)) [none,none,some 0,some 4] (h_ [0,1]) (dC (.bl true)) (ah aY (ah vd (aa 0) (ah bX (aa 3) (aa 1))) (aa 2))))))
def cZ:DS :=
 (ar (bF (aI (aa 1)) (ao 2) (sIf (ah fNe (aU (aa 0) (aa 2)) (dC (.int 0))) (aM (aa 2)) b7))
 (aM (dC (.non))))
def mI:DS :=
 (ar (az 3 (bQ (dC (.dct []))))
 (ar (az 4 (bQ (bC [])))
 (ar (bF (bo (aa 1)) (ao 5) (ar (az 6 (aa 5))
 (ar (bF (lz (aa 3)) (h_ [7,8]) (az 6 (aw (cal (fnV 5 fT)) [(aa 0),(aa 6),(aa 8),(aa 7)])))
 (ar (az 9 (aw (cal (fnV 3 cZ)) [(aa 6),(aa 2)]))
 (sIf (dUn pF (aa 9)) (aW (aa 4) (aa 6)) (ar (az 10 (aw (cal (fnV 3 jq)) [(aa 0),(aw (cal (fnV 5 lE)) [(aa 0),(dC (.int 1)),(aU (aa 6) (aa 9))]),(aa 6)]))
 (ar (bF (bo (dUn yK (aa 3))) (ao 7) (oa 3 (aa 7) (aw (cal (fnV 5 fT)) [(aa 0),(ah pX (aa 3) (aa 7)),(aa 10),(aa 9)])))
 (oa 3 (aa 9) (aa 10)))))))))
 (aM (eW [(aa 3),(aa 4)])))))
noncomputable abbrev li (r : List Int) : T := .lst (r.map T.int)
theorem uJ{p:Int}(hP:fo p)(one other:Int)(μ:af)(h0:other%p≠0) :
  ∃y,fnV 5 lE [.val (.int p),.val (.int one),.val (.int other)] μ=.ok (.val (.int y)) μ∧0≤y∧y<p∧(y*other-one)%p=0:=by
 have hb:=hP.pos
 have hp0:0<p:=Int.lt_of_lt_of_le (by decide) hb.1
 unfold lE
 have hp:0<p:=by lia
 have z:(other%p==0)=false:=by simpa using h0
 (try simp_all! only[]);simp[hp,z]
 have r0:=Int.emod_nonneg other (Int.ne_of_gt hp0)
 have r1:=Int.emod_lt_of_pos other hp
 refine xc (P:=λr=>∃y,RS.rB μ.length (r.seq (aM (aa 4)))=R.ok (SV.val (T.int y)) μ∧0≤y∧y<p∧(y*other-one)%p=0) ?_
  (λn e μ'=>μ'=μ∧∃rest told:Int,e=[some (.val (.int p)),some (.val (.int one)),some (.val (.int other)),some (.val (.int rest)),some (.val (.int told))]∧rest.toNat=n∧1≤rest∧rest<p∧0≤told∧told<p∧∃t,told*other=one*rest+p*t) ?_ (other%p).toNat _ _ ?_
 ·rintro⟨y,h,_⟩;cases h
 ·rintro m e μ' ⟨rfl,rest,told,rfl,hm,q1,q2,q3,q4,t,ht⟩
  by_cases e1:rest=1
  ·subst e1
   refine⟨false,μ',by simp,?_⟩
   rw[if_neg (by simp)]
   refine⟨told,by simp,q3,q4,?_⟩
   rw[ht]
   simp
   exact Int.emod_eq_zero_of_dvd ⟨t,by lia⟩
  ·refine⟨true,μ',by simp[e1],?_⟩
   rw[if_pos rfl]
   have d1:0≤p / rest:=Int.ediv_nonneg (by lia) (by lia)
   have d2:p / rest≤p:=Int.ediv_le_self _ (by lia)
   have hm2:bX (.int (-told)) (.int (p / rest))=some (.int (-told*(p / rest))):=kH _ _ (by lia) (by lia)
   have hr:0<rest:=by lia
   have hr2:rest<1073741824:=by lia
   (try simp_all! only[]);simp[hp,hr,hr2,hm2]
   have m0:=Int.emod_nonneg p (show rest≠0 by lia)
   have m1:=Int.emod_lt_of_pos p hr
   have m2:=Mn hP rest (by lia) q2
   have t0:=Int.emod_nonneg (-told*(p / rest)) (Int.ne_of_gt hp0)
   have t1:=Int.emod_lt_of_pos (-told*(p / rest)) hp
   refine⟨(p%rest).toNat,by lia,p%rest,-told*(p / rest)%p,⟨rfl,rfl⟩,rfl,by lia,by lia,t0,t1,?_⟩
   obtain⟨u,hu⟩:=md (-told*(p / rest)) p
   have e3:p%rest=p-rest*(p / rest):=Int.emod_def p rest
   rw[hu,e3]
   refine⟨-(u*other)-(p / rest)*t-one,?_⟩
   generalize p / rest=d
   grind
 ·have b0:=Int.emod_nonneg one (Int.ne_of_gt hp0)
  have b1:=Int.emod_lt_of_pos one hp
  refine⟨rfl,_,_,rfl,rfl,by lia,r1,b0,b1,?_⟩
  obtain⟨u,hu⟩:=md one p
  obtain⟨v,hv⟩:=md other p
  exact⟨one*v-u*other,by rw[hu,hv];grind⟩
theorem wc{p:Int}{L:Nat}(hp:0<p)(hp2:p<1000000)(n:Int)(r:List Int)(μ:af)(h:Rw p L r)(hl:L≤1000) :
  fnV 3 jq [.val (.int p),.val (.int n),.val (li r)] μ=.ok (.val (li (tm p n r))) μ:=by
 unfold jq
 simp
 rw[gG _ (λe:Int=>.int (n*e%p)) (by simp)]
 ·rw[R.dB,R.aT,if_pos (by have:=h.len;simp[szL];lia)]
  (try simp_all! only[]);simp[tm,Function.comp_def]
 ·intro e he
  have h1:=h.lo e he
  have h2:=h.hi e he
  refine⟨_,rfl,?_⟩
  have:bX (.int n) (.int e)=some (.int (n*e)):=yF _ _ (by lia) (by lia)
  (try simp_all! only[]);simp[this,hp]
theorem atg{r:List Int}{k:Int}(h0:0≤k)(h1:k<r.length):atI (r.map T.int) k=some (.int (g r k.toNat)):=by
 rw[oY h0 h1,AV r k.toNat (by lia)]
theorem wd{p:Int}{L:Nat}(hp:0<p)(hp2:p<1000000)(q:Nat)(row lead:List Int)(μ:af)(h1:Rw p L row)(h2:Rw p L lead)(hl:L≤1000)(hq:q<L) :
  fnV 5 fT [.val (.int p),.val (li row),.val (li lead),.val (.int q)] μ=.ok (.val (li (fr p row lead q))) μ:=by
 unfold fT
 have ha:atI (row.map T.int) (q:Int)=some (.int (g row q)):=atg (by lia) (by have:=h1.len;lia)
 simp[ha]
 by_cases e:g row q=0
 ·simp[e,fr]
 ·have e':(g row q==0)=false:=by simpa using e
  simp[e,e']
  rw[Af,gG _ (λz:Int×Int=>.int ((z.1-g row q*z.2)%p)) (by simp)]
  ·rw[R.dB,R.aT,if_pos (by have:=h1.len;simp[szL];lia)]
   (try simp_all! only[]);simp[fr,e,sub,Function.comp_def]
  ·rintro⟨x,y⟩ hz
   have b:=h1.g0 hp q
   refine⟨_,rfl,?_⟩
   have:bX (.int (g row q)) (.int y)=some (.int (g row q*y)):=kH _ _ (by lia) (by lia)
   simp[this,hp]
theorem DD{p:Int}{L m:Nat}(r:List Int)(μ:af)(h:Rw p L r)(hm:m≤L)(hl:L≤1000) :
  (fnV 3 cZ [.val (li r),.val (.int m)] μ=.ok (.val .non) μ∧∀j,j<m→g r j=0) ∨
  ∃f:Nat,fnV 3 cZ [.val (li r),.val (.int m)] μ=.ok (.val (.int f)) μ∧f<m∧g r f≠0:=by
 unfold cZ
 simp (disch:=lia)
 refine iT (P:=λx=>(RS.rB μ.length (x.seq (aM (dC .non)))=R.ok (SV.val .non) μ∧∀j,j<m→g r j=0)∨∃f:Nat,RS.rB μ.length (x.seq (aM (dC .non)))=R.ok (SV.val (.int f)) μ∧f<m∧g r f≠0)
  (λi e μ'=>μ'=μ∧(∀j,j<i→g r j=0)∧∃x,e=[some (.val (li r)),some (.val (.int m)),x]) (λ_ _ _ _=>trivial) ?_ ?_ ⟨rfl,by simp,none,rfl⟩
 ·rintro i t e μ' ht ⟨rfl,hz,x,rfl⟩
  obtain⟨hi,rfl⟩:=mB ht
  refine⟨_,rfl,?_⟩
  have hi':i<m:=by lia
  have ha:atI (r.map T.int) ((0:Int)+i)=some (.int (g r i)):=by
   have:=atg (r:=r) (k:=(0:Int)+i) (by lia) (by have:=h.len;lia)
   rwa [show ((0:Int)+i).toNat=i by lia] at this
  simp at ha
  (try simp_all! only[]);simp[ha]
  by_cases e:g r i=0
  ·(try simp_all! only[]);simp[e]
   intro j hj
   by_cases ej:j=i
   ·rw[ej];exact e
   ·exact hz j (by lia)
  ·have e':(g r i==0)=false:=by simpa using e
   (try simp_all! only[]);simp[e,e']
   exact⟨i,rfl,hi',e⟩
 ·rintro e μ' ⟨rfl,hz,x,rfl⟩
  left
  refine⟨by simp,?_⟩
  rw[cC] at hz
  intro j hj
  exact hz j (by lia)
def dk(ls:List Ld):List (Key×T):=ls.map λq=>((.inl (q.1:Int):Key),li q.2)
theorem nR(a b:List Ld):dk (a++b)=dk a++dk b:=by simp[dk]
theorem DE(a:List Ld):(dk a).length=a.length:=by simp[dk]
theorem sU{ls:List Ld}{i:Nat}{t:T}(h:(eZ (dk ls))[i]?=some t):∃q,ls[i]?=some q∧i<ls.length∧t=.tup [.int (q.1:Int),li q.2]:=by
 unfold eZ dk at h
 rw[List.map_map,List.getElem?_map] at h
 obtain⟨q,h1,rfl⟩:=Option.map_eq_some_iff.mp h
 exact⟨q,h1,(List.getElem?_eq_some_iff.mp h1).1,rfl⟩
theorem xY(p:Int)(ls:List Ld)(row:List Int)(i:Nat)(q:Ld)(h:ls[i]?=some q):frees p (ls.take (i+1)) row=fr p (frees p (ls.take i) row) q.2 q.1:=by
 unfold frees
 rw[List.take_add_one,h]
 simp
theorem we{p:Int}{L:Nat}(hp:0<p):∀(ls:List Ld) (row:List Int),(∀q∈ls,Rw p L q.2)→Rw p L row→Rw p L (frees p ls row)
 | [],row,_,h=>h
 | q::ls,row,hq,h=>we hp ls _ (λq' h'=>hq q' (by simp[h'])) (DB hp q.1 h (hq q (by simp)))
theorem Gm{ls:List Ld}{q:Ld}(hn:(ls.map (·.1)).Nodup)(h:q∈ls):oy (dk ls) (.inl (q.1:Int))=some (li q.2):=by
 induction ls with
 | nil=>simp at h
 | cons a ls ih =>
  have hn':(a.1::ls.map (·.1)).Nodup:=hn
  obtain⟨h1,h2⟩:=List.nodup_cons.mp hn'
  have e:dk (a::ls)=((.inl (a.1:Int):Key),li a.2)::dk ls:=rfl
  rw[e]
  unfold oy
  rw[List.find?_cons]
  by_cases ea:a.1=q.1
  ·have:q=a:=by
    rcases List.mem_cons.mp h with h|h
    ·exact h
    ·exact absurd (List.mem_map.mpr ⟨q,h,ea.symm⟩) h1
   subst this
   simp
  ·have hne:¬ ((Sum.inl (a.1:Int):Key)=.inl (q.1:Int)):=λz=>ea (by have:=Sum.inl.inj z;lia)
   have:q∈ls:=by
    rcases List.mem_cons.mp h with h|h
    ·subst h;exact absurd rfl ea
    ·exact h
   simp only[hne,decide_false]
   exact ih h2 this
theorem DF(ls:List Ld)(f:Nat):((dk ls).any λkv=>decide (kv.1=(.inl (f:Int):Key)))=ls.any λq=>decide (q.1=f):=by
 unfold dk
 rw[List.any_map]
 congr 1
 funext q
 show decide ((Sum.inl (q.1:Int):Key)=.inl (f:Int))=decide (q.1=f)
 by_cases e:q.1=f
 ·simp[e]
 ·have:¬ ((Sum.inl (q.1:Int):Key)=.inl (f:Int)):=λz=>e (by have:=Sum.inl.inj z;lia)
  simp[e,this]
theorem DG{ls:List Ld}{f:Nat}(r:List Int)(h:∀q∈ls,q.1≠f):t4 (dk ls) (.inl (f:Int)) (li r)=dk (ls++[(f,r)]):=by
 unfold t4
 rw[DF,if_neg,nR]
 ·rfl
 ·intro hc
  obtain⟨q,hq,e⟩:=List.any_eq_true.mp hc
  exact h q hq (of_decide_eq_true e)
theorem DH{a b:List Ld}{q:Ld}(r:List Int)(hn:((a++q::b).map (·.1)).Nodup):t4 (dk (a++q::b)) (.inl (q.1:Int)) (li r)=dk (a++(q.1,r)::b):=by
 unfold t4
 rw[DF,if_pos (List.any_eq_true.mpr ⟨q,by simp,by simp⟩)]
 have ne:∀x∈a++b,¬ ((Sum.inl (x.1:Int):Key)=.inl (q.1:Int)):=λx hx z=>by
  have e:x.1=q.1:=by have:=Sum.inl.inj z;lia
  rw[List.map_append,List.nodup_append] at hn
  obtain⟨_,n2,n3⟩:=hn
  rcases List.mem_append.mp hx with h|h
  ·exact n3 x.1 (List.mem_map.mpr ⟨x,h,rfl⟩) q.1 (by simp) e
  ·have n2':(q.1::b.map (·.1)).Nodup:=n2
   exact (List.nodup_cons.mp n2').1 (List.mem_map.mpr ⟨x,h,e⟩)
 have same:∀l:List Ld,(∀x∈l,x∈a++b)→(dk l).map (λkv=>if kv.1=(.inl (q.1:Int):Key) then (kv.1,li r) else kv)=dk l:=λl hl=>by
  unfold dk
  rw[List.map_map]
  refine List.map_congr_left λx hx=>?_
  show (if (Sum.inl (x.1:Int):Key)=.inl (q.1:Int) then _ else _)=_
  rw[if_neg (ne x (hl x hx))]
 rw[nR,List.map_append,same a (λx h=>by simp[h]),nR]
 congr 1
 show (if (Sum.inl (q.1:Int):Key)=.inl (q.1:Int) then _ else _)::(dk b).map _=_
 rw[if_pos rfl,same b (λx h=>by simp[h])]
 rfl
section
variable{p:Int}{L m:Nat}
theorem JE(hP:fo p)(hl:L≤1000)(hmL:m≤L){ls:List Ld}{row:List Int}(hk:∀q∈ls,q.1<m)(rl:∀q∈ls,Rw p L q.2)(hr:Rw p L row)(same:af→Prop)(μ:af)(hs:same μ)(x1 x2 x3 x4 x5 x7 x8 x9 x10:Option SV) :
  ∃y7 y8,forL same (h_ [7,8]) (az 6 (aw (cal (fnV 5 fT)) [(aa 0),(aa 6),(aa 8),(aa 7)])) (eZ (dk ls)) [some (.val (.int p)),x1,x2,x3,x4,x5,some (.val (li row)),x7,x8,x9,x10] μ =
   .nx [some (.val (.int p)),x1,x2,x3,x4,x5,some (.val (li (frees p ls row))),y7,y8,x9,x10] μ:=by
 have hb:=hP.pos
 have hp0:0<p:=Int.lt_of_lt_of_le (by decide) hb.1
 obtain⟨e',μ',h1,y7,y8,h2,h3⟩:=d0 (same:=same) (b:=h_ [7,8]) (body:=az 6 (aw (cal (fnV 5 fT)) [(aa 0),(aa 6),(aa 8),(aa 7)])) (ts:=eZ (dk ls))
  (e:=[some (.val (.int p)),x1,x2,x3,x4,x5,some (.val (li row)),x7,x8,x9,x10]) (μ:=μ)
  (λi e μ'=>∃y7 y8,μ'=μ∧e=[some (.val (.int p)),x1,x2,x3,x4,x5,some (.val (li (frees p (ls.take i) row))),y7,y8,x9,x10])
  (λi e μ' ak=>by obtain⟨_,_,h,_⟩:=ak;rw[h];exact hs) (λi t e μ' ht df=>by
   obtain⟨y7,y8,hμ,he⟩:=df
   subst hμ he
   obtain⟨q,hq,hi,rfl⟩:=sU ht
   have hm:q∈ls:=List.mem_of_getElem? hq
   have hf:=wd (p:=p) (L:=L) (by lia) (by lia) q.1 (frees p (ls.take i) row) q.2 μ' (we (by lia) _ _ (λq' h'=>rl q' (List.mem_of_mem_take h')) hr) (rl q hm) hl (by have:=hk q hm;lia)
   refine⟨_,_,_,gF _ _ _ _ _,?_,some (.val (.int q.1)),some (.val (li q.2)),rfl,rfl⟩
   rw[xY p ls row i q hq]
   simp only[jd,fZ,bh,dZ,dR,List.set_cons_succ,List.set_cons_zero,bW,bV,R.aK,R.aT,j3]
   rw[hf]
   rfl) ⟨x7,x8,rfl,rfl⟩
 refine⟨y7,y8,?_⟩
 rw[h1,h2,h3]
 have:(eZ (dk ls)).length=ls.length:=by simp[eZ,dk]
 rw[this,List.take_length]
theorem DJ(u:List Int)(f:Nat)(ls:List Ld)(i:Nat)(q:Ld)(h:ls[i]?=some q):led p (ls.take (i+1)) u f=led p (ls.take i) u f++[(q.1,fr p q.2 u f)]:=by
 unfold led
 rw[List.take_add_one,h]
 simp
theorem DK{ls:List Ld}{i:Nat}{t:T}(h:((dk ls).map λp=>vf p.1)[i]?=some t):∃q,ls[i]?=some q∧i<ls.length∧t=.int (q.1:Int):=by
 unfold dk at h
 rw[List.map_map,List.getElem?_map] at h
 obtain⟨q,h1,rfl⟩:=Option.map_eq_some_iff.mp h
 exact⟨q,h1,(List.getElem?_eq_some_iff.mp h1).1,rfl⟩
theorem JF(hP:fo p)(hl:L≤1000)(hmL:m≤L){ls:List Ld}{u:List Int}{f:Nat}(hn:(ls.map (·.1)).Nodup)(hf:f<m)(rl:∀q∈ls,Rw p L q.2)(hu:Rw p L u)(hsz:ls.length<szL)(same:af→Prop)(hs:∀μ,same μ)(μ tl:af)(x1 x2 x4 x5 x6 x7 x8:Option SV) :
  ∃y7,forL same (ao 7) (oa 3 (aa 7) (aw (cal (fnV 5 fT)) [(aa 0),(ah pX (aa 3) (aa 7)),(aa 10),(aa 9)])) ((dk ls).map λp=>vf p.1)
   [some (.val (.int p)),x1,x2,some (.cel μ.length),x4,x5,x6,x7,x8,some (.val (.int f)),some (.val (li u))] (μ++(true,.dct (dk ls))::tl) =
   .nx [some (.val (.int p)),x1,x2,some (.cel μ.length),x4,x5,x6,y7,x8,some (.val (.int f)),some (.val (li u))] (μ++(true,.dct (dk (led p ls u f)))::tl):=by
 have hb:=hP.pos
 have hp0:0<p:=Int.lt_of_lt_of_le (by decide) hb.1
 obtain⟨e',μ',h1,y7,h2,h3⟩:=d0 (same:=same) (b:=ao 7) (body:=oa 3 (aa 7) (aw (cal (fnV 5 fT)) [(aa 0),(ah pX (aa 3) (aa 7)),(aa 10),(aa 9)])) (ts:=(dk ls).map λp=>vf p.1)
  (e:=[some (.val (.int p)),x1,x2,some (.cel μ.length),x4,x5,x6,x7,x8,some (.val (.int f)),some (.val (li u))]) (μ:=μ++(true,.dct (dk ls))::tl)
  (λi e μ'=>∃y7,μ'=μ++(true,.dct (dk (led p (ls.take i) u f++ls.drop i)))::tl∧e=[some (.val (.int p)),x1,x2,some (.cel μ.length),x4,x5,x6,y7,x8,some (.val (.int f)),some (.val (li u))])
  (λi e μ' _=>hs μ') (λi t e μ' ht ak=>by
   obtain⟨y7,hμ,he⟩:=ak
   subst hμ he
   obtain⟨q,hq,hi,rfl⟩:=DK ht
   have hm:q∈ls:=List.mem_of_getElem? hq
   have hd:ls.drop i=q::ls.drop (i+1):=by
    rw[List.drop_eq_getElem_cons hi]
    congr 1
    rw[List.getElem?_eq_getElem hi] at hq
    exact Option.some.inj hq
   have Hr:(led p (ls.take i) u f++q::ls.drop (i+1)).map (·.1)=ls.map (·.1):=by
    rw[← hd,List.map_append]
    have:(led p (ls.take i) u f).map (·.1)=(ls.take i).map (·.1):=by unfold led;rw[List.map_map];rfl
    rw[this,← List.map_append,List.take_append_drop]
   have hnd:((led p (ls.take i) u f++q::ls.drop (i+1)).map (·.1)).Nodup:=by rw[Hr];exact hn
   have hlen:(dk (led p (ls.take i) u f++q::ls.drop (i+1))).length<szL:=by
    have:=congrArg List.length Hr
    simp only[List.length_map] at this
    rw[DE,this];exact hsz
   have hv:=Gm hnd (q:=q) (by simp)
   have hfr:=wd (p:=p) (L:=L) (by lia) (by lia) f q.2 u (μ++(true,.dct (dk (led p (ls.take i) u f++q::ls.drop (i+1))))::tl) (rl q hm) hu hl (by lia)
   rw[hd]
   refine⟨_,_,_,j5 _ _ _,?_,some (.val (.int q.1)),rfl,rfl⟩
   rw[DJ u f ls i q hq,List.append_assoc,List.singleton_append,← DH (fr p q.2 u f) hnd]
   simp only[pY,fZ,bh,dZ,dR,List.set_cons_succ,List.set_cons_zero,bW,bV,R.aK,R.aT,R.b5,j3,ia,pU,iz,jl,Option.map_some,jZ,Ai,hv]
   rw[hfr]
   simp only[R.dB,R.b5,mf]
   rw[sJ (kts:=dk (led p (ls.take i) u f++q::ls.drop (i+1))) (by simp) hlen]
   simp) ⟨x7,by simp[led],rfl⟩
 refine⟨y7,?_⟩
 rw[h1,h2,h3]
 have:((dk ls).map λp=>vf p.1).length=ls.length:=by simp[dk]
 rw[this,List.take_length,List.drop_length,List.append_nil]
end
seal RS.tZ
theorem wg{r:RS}{k:Slots→af→RS}{I:Slots→af→Prop}{P:RS→Prop}{e':Slots}{μ':af}(h:r=.nx e' μ')(hk:(k e' μ').tZ I P):(r.seq k).tZ I P:=by rw[h];exact hk
section
variable{p:Int}{L m:Nat}
theorem DL(hP:fo p)(hl:L≤1000)(hmL:m≤L)(rows:List (List Int))(hR:∀r∈rows,Rw p L r)(hrn:rows.length≤1000)(x:SV)(μ:af)(hx:∀l,rd (μ++l) x=some (.lst (rows.map li))) :
  ∃ls ns,fnV 11 mI [.val (.int p),x,.val (.int m)] μ=.ok (.val (.tup [.dct (dk ls),.lst (ns.map li)])) μ∧kQ p L m ls ns rows∧ls.length+ns.length=rows.length:=by
 have hb:=hP.pos
 have hp0:0<p:=Int.lt_of_lt_of_le (by decide) hb.1
 unfold mI
 simp[hx]
 refine iT (P:=λr=>∃ls ns,RS.rB μ.length (r.seq (aM (eW [aa 3,aa 4])))=R.ok (SV.val (.tup [.dct (dk ls),.lst (ns.map li)])) μ∧kQ p L m ls ns rows∧ls.length+ns.length=rows.length)
  (λi e μ'=>∃ls ns x5 x6 x7 x8 x9 x10,e=[some (.val (.int p)),some x,some (.val (.int m)),some (.cel μ.length),some (.cel (μ.length+1)),x5,x6,x7,x8,x9,x10]∧μ'=μ++[(true,.dct (dk ls)),(true,.lst (ns.map li))]∧kQ p L m ls ns (rows.take i)∧ls.length+ns.length=i)
  ?_ ?_ ?_ ⟨[],[],none,none,none,none,none,none,rfl,rfl,kQ.start p L m,rfl⟩
 ·rintro i e μ' ⟨ls,ns,_,_,_,_,_,_,_,h,_⟩
  rw[h];exact hx _
 ·rintro i t e μ' ht ⟨ls,ns,x5,x6,x7,x8,x9,x10,rfl,rfl,E,hlen⟩
  rw[List.getElem?_map] at ht
  obtain⟨row,JG,rfl⟩:=Option.map_eq_some_iff.mp ht
  have hi:i<rows.length:=(List.getElem?_eq_some_iff.mp JG).1
  have hr:Rw p L row:=hR row (List.mem_of_getElem? JG)
  have htk:rows.take (i+1)=rows.take i++[row]:=by rw[List.take_add_one,JG];rfl
  obtain⟨r1,r2,r3⟩:=E.rest (by lia) hr
  refine⟨_,j5 _ _ _,?_⟩
  (try simp_all! only[]);simp only[ie,jd,dZ,List.set_cons_succ,List.set_cons_zero,bW,bV,R.aK,R.b5,RS.gL,jf,nr,R.aT,pU,jl,Option.map_some,Option.bind_some,yX]
  obtain⟨y7,y8,h⟩:=JE hP hl hmL E.key E.rl hr (λμ'=>Option.map (λx=>x.snd) μ'[List.length μ]?=some (T.dct (dk ls))) (μ++[(true,T.dct (dk ls)),(true,T.lst (ns.map li))]) (by simp) (some x) (some (.val (.int m))) (some (.cel μ.length)) (some (.cel (μ.length+1))) (some (.val (li row))) x7 x8 x9 x10
  refine wg h ?_
  clear h
  simp only[ie,jd,dZ,fZ,bh,dR,j3,List.set_cons_succ,List.set_cons_zero,bW,bV,R.aK,R.aT,R.b5,RS.gL]
  have hfo:=DD (m:=m) (frees p ls row) (μ++[(true,T.dct (dk ls)),(true,T.lst (ns.map li))]) r1 hmL hl
  generalize fnV 3 cZ [.val (li (frees p ls row)),.val (.int m)] (μ++[(true,T.dct (dk ls)),(true,T.lst (ns.map li))])=G at hfo ⊢
  rcases hfo with ⟨rfl,hz⟩|⟨f,rfl,hfm,hne⟩
  ·skip
   have hsz:(ns.map li).length<szL:=by rw[List.length_map];unfold szL;lia
   (try simp_all! only[]);simp[pV _ _ _ _ _ hsz]
   refine⟨ls,ns++[frees p ls row],⟨rfl,by simp⟩,?_,by simp;lia⟩
   rw[htk]
   exact E.JD (by lia) hr hz
  ·skip
   have ha:atI ((frees p ls row).map T.int) (f:Int)=some (.int (g (frees p ls row) f)):=atg (by lia) (by rw[r1.len];lia)
   have gb:=r1.g0 (p:=p) (by lia) f
   have JH:g (frees p ls row) f%p≠0:=by rw[Int.emod_eq_of_lt gb.1 gb.2];exact hne
   obtain⟨y,ho,y0,y1,yz⟩:=uJ hP 1 (g (frees p ls row) f) (μ++[(true,T.dct (dk ls)),(true,T.lst (ns.map li))]) JH
   have ht:=wc (p:=p) (L:=L) (by lia) (by lia) y (frees p ls row) (μ++[(true,T.dct (dk ls)),(true,T.lst (ns.map li))]) r1 hl
   have hinv:Inv p y (g (frees p ls row) f):=by
    unfold Inv
    exact Int.emod_eq_emod_iff_emod_sub_eq_zero.mpr yz
   have hE:=E.lead (by lia) hr hfm hne hinv
   have fne:∀q∈ls,q.1≠f:=λq hq e=>hne (by rw[← e];exact r2 q hq)
   generalize hu:tm p y (frees p ls row)=u at ht hE
   have hu2:Rw p L u:=by rw[← hu];exact DC (by lia) y r1.len
   (try simp_all! only[]);simp only[R.dB,R.b5,wY,tR,dZ,List.set_cons_succ,List.set_cons_zero,bW,bV,R.aK,R.aT,iz,pv,z_,Option.map_some,gI,Bool.false_eq_true,if_false,ie,jd,fZ,bh,dR,j3,pq,jb,Option.bind_some,ml,ha,ho,ht,RS.gL,jf,oU,pU,jl,yK,eh]
   refine (JF hP hl hmL E.nd hfm E.rl hu2 (by unfold szL;lia) _ ?_ _ _ _ _ _ _ _ _ _).elim λy7 h=>wg h ?_
   ·intro μ'';trivial
   have hkl:(dk (led p ls u f)).length<szL:=by rw[DE];simp[led];unfold szL;lia
   simp only[pY,dZ,bW,bV,R.aK,R.b5,iz,mf]
   rw[sJ (kts:=dk (led p ls u f)) (by simp) hkl]
   (try simp_all! only[]);simp only[R.aK,R.b5,Fp,yV]
   rw[DG u (λq hq=>by
    obtain⟨q0,h0,rfl⟩:=List.mem_map.mp hq
    exact fne q0 h0)]
   refine⟨_,ns,_,_,_,_,_,_,rfl,rfl,?_,?_⟩
   ·rw[htk];exact hE
   ·simp[led];lia
 ·rintro e μ' ⟨ls,ns,x5,x6,x7,x8,x9,x10,rfl,rfl,E,hlen⟩
  rw[List.length_map,List.take_length] at E
  rw[List.length_map] at hlen
  exact⟨ls,ns,by simp,E,hlen⟩
end
def eu(n k:Nat):List Int:=(List.replicate n 0).set k 1
theorem gH(n:Nat)(r:List Int):dot (List.replicate n 0) r=0:=by
 induction n generalizing r with
 | zero=>simp
 | succ n ih=>cases r with
  | nil=>simp
  | cons x r=>rw[List.replicate_succ,bI,ih];simp
theorem nS:∀(n k:Nat) (r:List Int),k<n→dot (eu n k) r=g r k
 | 0,k,r,h=>by lia
 | n+1,0,r,h=>by
  cases r with
  | nil=>simp[g]
  | cons x r =>
   have:eu (n+1) 0=1::List.replicate n 0:=by simp[eu,List.replicate_succ]
   rw[this,bI,gH,iM];lia
 | n+1,k+1,r,h=>by
  have e:eu (n+1) (k+1)=0::eu n k:=by simp[eu,List.replicate_succ]
  cases r with
  | nil=>simp[g]
  | cons x r=>rw[e,bI,e8,nS n k r (by lia)];lia
theorem zu(l r:List Int):dot (l.map λx=>-x) r=- dot l r:=by
 induction l generalizing r with
 | nil=>simp
 | cons x l ih=>cases r with
  | nil=>simp
  | cons y r=>simp only[List.map_cons,bI,ih];rw[Int.neg_mul];lia
theorem qW:∀(xs ys:List Int),(∀i,g xs i*g ys i=0)→dot xs ys=0
 | [],ys,h=>by simp
 | x::xs,[],h=>by simp
 | x::xs,y::ys,h=>by
  rw[bI,qW xs ys λi=>by simpa [e8] using h (i+1)]
  have:=h 0
  rw[iM,iM] at this
  lia
theorem qX:∀(xs ys:List Int) (k:Nat),(∀i,i≠k→g xs i*g ys i=0)→dot xs ys=g xs k*g ys k
 | [],ys,k,h=>by simp[g]
 | x::xs,[],k,h=>by simp[g]
 | x::xs,y::ys,0,h=>by
  rw[bI,qW xs ys λi=>by simpa [e8] using h (i+1) (by lia),iM,iM];lia
 | x::xs,y::ys,k+1,h=>by
  have:=h 0 (by lia)
  rw[iM,iM] at this
  rw[bI,this,qX xs ys k λi hi=>by simpa [e8] using h (i+1) (by lia),e8,e8];lia
theorem uK(r:List Int)(n k:Nat)(h:k<n):g (r.take n) k=g r k:=by
 simp[g,List.getD_eq_getElem?_getD,List.getElem?_take,h]
theorem xZ(r:List Int)(n k:Nat)(h:n≤k):g (r.take n) k=0:=by
 simp[g,List.getD_eq_getElem?_getD,List.getElem?_take,Nat.not_lt.mpr h]
theorem Hs(r:List Int)(k j:Nat)(v:Int)(h:k<r.length):g (r.set k v) j=if j=k then v else g r j:=by
 by_cases e:j=k
 ·subst e;simp[g,List.getD_eq_getElem?_getD,h]
 ·simp[g,List.getD_eq_getElem?_getD,List.getElem?_set,e,Ne.symm e]
theorem DM(r:List Int)(m:Nat)(h:m<r.length):r=r.take m++g r m::r.drop (m+1):=by
 rw[AV r m h,← List.drop_eq_getElem_cons h,List.take_append_drop]
theorem i8(a c r:List Int)(b:Int)(m:Nat)(ha:a.length=m)(h:m<r.length):dot (a++b::c) r=dot a (r.take m)+b*g r m+dot c (r.drop (m+1)):=by
 have e:=DM r m h
 have:dot (a++b::c) (r.take m++g r m::r.drop (m+1))=dot a (r.take m)+(b*g r m+dot c (r.drop (m+1))):=by
  rw[xX _ _ _ _ (by simp[ha];lia),bI]
 rw[← e] at this
 rw[this];lia
theorem DN(n k:Nat):(eu n k).length=n:=by simp[eu]
theorem qY{p:Int}(hp:1<p)(n:Nat):Rw p n (List.replicate n 0):=⟨by simp,λx hx=>by have:=(List.mem_replicate.mp hx).2;lia,λx hx=>by have:=(List.mem_replicate.mp hx).2;lia⟩
theorem Rw.set{p:Int}{n k:Nat}{r:List Int}{v:Int}(h:Rw p n r)(h0:0≤v)(h1:v<p):Rw p n (r.set k v):=by
 refine⟨by simp[h.len],λx hx=>?_,λx hx=>?_⟩
 ·rcases List.mem_or_eq_of_mem_set hx with z|z
  ·exact h.lo x z
  ·lia
 ·rcases List.mem_or_eq_of_mem_set hx with z|z
  ·exact h.hi x z
  ·lia
theorem Rw.append{p:Int}{n k:Nat}{r s:List Int}(h:Rw p n r)(h':Rw p k s):Rw p (n+k) (r++s):=by
 refine⟨by simp[h.len,h'.len],λx hx=>?_,λx hx=>?_⟩
 ·rcases List.mem_append.mp hx with z|z
  ·exact h.lo x z
  ·exact h'.lo x z
 ·rcases List.mem_append.mp hx with z|z
  ·exact h.hi x z
  ·exact h'.hi x z
theorem Rw.drop{p:Int}{n k:Nat}{r:List Int}(h:Rw p n r):Rw p (n-k) (r.drop k) :=
 ⟨by simp[h.len],λx hx=>h.lo x (List.mem_of_mem_drop hx),λx hx=>h.hi x (List.mem_of_mem_drop hx)⟩
def col(lines:List (List Int))(j:Nat):List Int:=lines.map λl=>g l j
def aug(w:Nat)(lines:List (List Int))(ws:List Int)(j:Nat):List Int:=(col lines j++[g ws j])++eu w j
section
variable{p:Int}{w:Nat}{lines:List (List Int)}{ws:List Int}
theorem JI(hp:0<p)(hl:∀l∈lines,Rw p w l)(j:Nat):Rw p lines.length (col lines j):=by
 refine⟨by simp[col],λx hx=>?_,λx hx=>?_⟩
 ·obtain⟨l,h,rfl⟩:=List.mem_map.mp hx
  exact ((hl l h).g0 hp j).1
 ·obtain⟨l,h,rfl⟩:=List.mem_map.mp hx
  exact ((hl l h).g0 hp j).2
theorem JJ(hp:1<p)(hl:∀l∈lines,Rw p w l)(hw:Rw p w ws)(j:Nat):Rw p (lines.length+1+w) (aug w lines ws j):=by
 have g0:=hw.g0 (by lia) j
 have h1:Rw p 1 [g ws j]:=⟨rfl,λx hx=>by simp at hx;lia,λx hx=>by simp at hx;lia⟩
 exact ((JI (by lia) hl j).append h1).append ((qY hp w).set (by lia) hp)
theorem Mo(k j:Nat)(h:k<lines.length):g (col lines j) k=g lines[k] j:=by
 rw[AV _ _ (by simp[col,h])];simp[col]
theorem sV(j:Nat):(aug w lines ws j).take lines.length=col lines j∧g (aug w lines ws j) lines.length=g ws j∧(aug w lines ws j).drop (lines.length+1)=eu w j:=by
 have hc:(col lines j).length=lines.length:=by simp[col]
 refine⟨?_,?_,?_⟩
 ·unfold aug;rw[List.append_assoc,List.take_append_of_le_length (by lia),List.take_of_length_le (by lia)]
 ·unfold aug;rw[AV _ _ (by simp[hc])];simp[hc]
 ·unfold aug;rw[List.drop_append_of_le_length (by simp[hc]),List.drop_of_length_le (by simp[hc]),List.nil_append]
theorem told{ls:List Ld}{ns:List (List Int)}(hp:1<p)(E:kQ p (lines.length+1+w) lines.length ls ns ((List.range w).map λj=>aug w lines ws j)){r:List Int}(hr:r∈ns)(hw:ws.length=w)(hl:∀l∈lines,l.length=w) :
  (∀l∈lines,p ∣ dot l (r.drop (lines.length+1)))∧p ∣ g r lines.length-dot ws (r.drop (lines.length+1)):=by
 have hrl:=(E.rn r hr).len
 have use:∀(a v:List Int) (b:Int),a.length=lines.length→(∀j,j<w→dot a (col lines j)+b*g ws j=g v j)→p ∣ dot a (r.take lines.length)+b*g r lines.length-dot v (r.drop (lines.length+1)):=λa v b ha hv=>by
  have hz:=((E.eq (a++b::v.map λx=>-x)).mp λq hq=>by
   obtain⟨j,hj,rfl⟩:=List.mem_map.mp hq
   have hj:j<w:=List.mem_range.mp hj
   obtain⟨e1,e2,e3⟩:=sV (w:=w) (lines:=lines) (ws:=ws) j
   unfold Z
   rw[i8 a _ _ b lines.length ha (by simp[aug,col]),e1,e2,e3,zu,DA v (eu w j),nS w j v hj,hv j hj]
   exact⟨0,by lia⟩).2 r hr
  unfold Z at hz
  rw[i8 a _ _ b lines.length ha (by lia),zu] at hz
  exact hz
 refine⟨λl hl'=>?_,?_⟩
 ·obtain⟨k,hk,rfl⟩:=List.mem_iff_getElem.mp hl'
  have:=use (eu lines.length k) lines[k] 0 (DN _ _) λj hj=>by rw[nS _ _ _ hk,Mo k j hk];lia
  rw[nS _ _ _ hk,uK _ _ _ hk,E.no r hr k hk] at this
  obtain⟨t,ht⟩:=this
  exact⟨-t,by rw[Int.mul_neg];lia⟩
 ·have:=use (List.replicate lines.length 0) ws 1 (by simp) λj hj=>by rw[gH];lia
  rw[gH] at this
  simpa using this
theorem JK{ls:List Ld}{ns:List (List Int)}(hp:1<p)(E:kQ p (lines.length+1+w) lines.length ls ns ((List.range w).map λj=>aug w lines ws j))(h0:∀r∈ns,g r lines.length=0){ms:List Int}(hm:ms.length=lines.length)
  (h1:∀q∈ls,g ms q.1=g q.2 lines.length) (h2:∀i,(∀q∈ls,q.1≠i)→g ms i=0) (j:Nat) (hj:j<w):p ∣ dot ms (col lines j)-g ws j:=by
 have hz:=(E.eq (ms++(-1)::List.replicate w 0)).mpr ⟨λq hq=>?_,λr hr=>?_⟩ (aug w lines ws j) (List.mem_map.mpr ⟨j,List.mem_range.mpr hj,rfl⟩)
 ·obtain⟨e1,e2,e3⟩:=sV (w:=w) (lines:=lines) (ws:=ws) j
  unfold Z at hz
  rw[i8 ms _ _ _ lines.length hm (by simp[aug,col]),e1,e2,gH] at hz
  obtain⟨t,ht⟩:=hz
  exact⟨t,by lia⟩
 ·unfold Z
  rw[i8 ms _ _ _ lines.length hm (by rw[(E.rl q hq).len];lia),gH,qX ms (q.2.take lines.length) q.1,uK _ _ _ (E.key q hq),E.one q hq,h1 q hq]
  ·exact⟨0,by lia⟩
  ·intro i hi
   by_cases hk:∃q'∈ls,q'.1=i
   ·obtain⟨q',hq',rfl⟩:=hk
    rw[uK _ _ _ (E.key q' hq'),E.off q hq q' hq' hi];simp
   ·rw[h2 i λq' hq' e=>hk ⟨q',hq',e⟩];simp
 ·unfold Z
  rw[i8 ms _ _ _ lines.length hm (by rw[(E.rn r hr).len];lia),gH,h0 r hr,qW]
  ·exact⟨0,by lia⟩
  ·intro i
   by_cases hi:i<lines.length
   ·rw[uK _ _ _ hi,E.no r hr i hi];simp
   ·rw[xZ _ _ _ (by lia)];simp
end
def dF:DS :=
 (aM (aJ (bo (aa 1)) [none,some 0,some 2] (ao 0) (dC (.bl true)) (ah aY (aU (aa 0) (aa 2)) (aa 1))))
def nE:DS :=
 (ar (az 2 (bQ (rz rA [(dC (.int 0))] (aa 0))))
 (ar (dj 2 (aa 1) (dC (.int 1)))
 (aM (aa 2))))
def lF:DS :=
 (ar (az 4 (pH (aa 2)))
 (ar (az 5 (bQ (bC [])))
 (ar (bF (aI (aa 1)) (ao 6) (aW (aa 5) (ah bg (ah bg (aw (cal (fnV 3 dF)) [(aa 0),(aa 2),(aa 6)]) (bC [(ah aY (aU (aa 3) (aa 6)) (aa 0))])) (aw (cal (fnV 3 nE)) [(aa 1),(aa 6)]))))
 (ar (az 7 (aw (cal (fnV 11 mI)) [(aa 0),(aa 5),(aa 4)]))
 (ar (bF (bo (aU (aa 7) (dC (.int 1)))) (ao 8) (sIf (ah fNe (aU (aa 8) (aa 4)) (dC (.int 0))) (aM (mh [(dC (.str "turn")),(dUn aD (aw (cal (fnV 3 jq)) [(aa 0),(aw (cal (fnV 5 lE)) [(aa 0),(dC (.int 1)),(aU (aa 8) (aa 4))]),(BY (aa 8) (some (ah bg (aa 4) (dC (.int 1)))) none)]))])) b7))
 (ar (az 9 (bQ (rz rA [(dC (.int 0))] (aa 4))))
 (ar (bF (lz (aU (aa 7) (dC (.int 0)))) (h_ [6,10]) (dj 9 (aa 6) (aU (aa 10) (aa 4))))
 (aM (mh [(dC (.str "sum")),(aa 9)])))))))))
noncomputable abbrev tu (r : List Int) : T := .tup (r.map T.int)
theorem zv{μ:af}{x:SV}{ts:List T}(h:rd μ x=some (.lst ts)):pG μ x=some (.int ts.length):=by
 cases x with
 | val t=>cases h;rfl
 | cel k=>rw[BR,h];rfl
 | box xs=>cases h
theorem Gn{μ:af}{x:SV}{ts:List T}{i:Int}(h:rd μ x=some (.lst ts)):m_ μ x (.int i)=(atI ts i).map SV.val:=by
 cases x with
 | val t=>cases h;rfl
 | cel k=>rw[BO,h];rfl
 | box xs=>cases h
section
variable{p:Int}{w:Nat}{lines:List (List Int)}{ws:List Int}
def mdl(p:Int)(l:List Int):List Int:=l.map (·%p)
theorem QN(p:Int)(l:List Int)(j:Nat):g (mdl p l) j=g l j%p:=by
 unfold g mdl
 rw[List.getD_eq_getElem?_getD,List.getD_eq_getElem?_getD,List.getElem?_map]
 cases l[j]? with
 | none=>simp
 | some x=>simp
theorem Mp{l:List Int}(hp:0<p)(h:l.length=w):Rw p w (mdl p l):=by
 refine⟨by unfold mdl;rw[List.length_map];exact h,λx hx=>?_,λx hx=>?_⟩
 ·obtain⟨y,_,rfl⟩:=List.mem_map.mp hx;exact Int.emod_nonneg _ (by lia)
 ·obtain⟨y,_,rfl⟩:=List.mem_map.mp hx;exact Int.emod_lt_of_pos _ hp
theorem Mq{l:List Int}(h:Rw p w l):mdl p l=l:=by
 unfold mdl
 exact (List.map_congr_left λx hx=>Int.emod_eq_of_lt (h.2 x hx) (h.3 x hx)).trans (List.map_id' l)
theorem JL(hl:∀l∈lines,Rw p w l):lines.map (mdl p)=lines:=(List.map_congr_left λl h=>Mq (hl l h)).trans (List.map_id' lines)
theorem wj(hp:0<p)(hl:∀l∈lines,l.length=w)(hn:lines.length≤1000)(j:Nat)(hj:j<w)(x:SV)(μ:af)(hx:rd μ x=some (.lst (lines.map tu))) :
  fnV 3 dF [.val (.int p),x,.val (.int j)] μ=.ok (.val (li (col (lines.map (mdl p)) j))) μ:=by
 unfold dF
 (try simp_all! only[]);simp[hx]
 rw[gG _ (λl:List Int=>.int (g l j%p)) (by simp[hx])]
 ·rw[R.dB,R.aT,if_pos (by simp[szL];lia)]
  (try simp_all! only[]);simp[col,Function.comp_def,QN]
 ·intro l hm
  have h:=hl l hm
  refine⟨_,rfl,?_⟩
  have ha:atI (l.map T.int) (j:Int)=some (.int (g l j)):=by
   have:=atg (r:=l) (k:=(j:Int)) (by lia) (by rw[h];lia)
   simpa using this
  (try simp_all! only[]);simp[ha,hp]
theorem Gp(xs:List T)(k:Int)(h:-(2 ^ 63)≤k∧k<2 ^ 63∧xs.length*k.toNat≤szL):rA (.lst xs) (.int k)=some (.lst (List.replicate k.toNat xs).flatten):=if_pos h
theorem rep0(n:Nat)(h:n≤1000):rA (.lst [.int 0]) (.int (n:Int))=some (li (List.replicate n 0)):=by
 have hn:(n:Int).toNat=n:=by lia
 have hz:[T.int 0].length*(n:Int).toNat≤szL:=by
  rw[hn]
  unfold szL
  simp
  lia
 rw[Gp _ _ ⟨by lia,by lia,hz⟩,hn,List.flatten_replicate_singleton,li,List.map_replicate]
theorem hs_(w j:Nat)(hj:j<w)(μ:af):setAt (.cel μ.length) (.int (j:Int)) (.int 1) (μ++[(true,li (List.replicate w 0))])=some (μ++[(true,li (eu w j))]):=by
  rw[pW (ts:=(List.replicate w 0).map T.int) jl (by lia) (by rw[List.length_map,List.length_replicate];lia),yV]
  have:(j:Int).toNat=j:=by lia
  rw[this]
  unfold eu li
  rw[List.map_set]
theorem JM(f:T→T→Option T)(x y:Int)(z z2:T)(μ:af)(hr:f (.lst [.int 0]) (.int x)=some z)(hs:setAt (.cel μ.length) (.int y) (.int 1) (μ++[(true,z)])=some (μ++[(true,z2)])):fnV 3 (ar (az 2 (bQ (rz f [(dC (.int 0))] (aa 0))))
 (ar (dj 2 (aa 1) (dC (.int 1)))
 (aM (aa 2)))) [.val (.int x),.val (.int y)] μ=.ok (.val z2) μ:=by
 simp[hr,hs]
theorem Gq(j:Nat)(hj:j<w)(hw:w≤1000)(μ:af):fnV 3 nE [.val (.int w),.val (.int j)] μ=.ok (.val (li (eu w j))) μ :=
 JM rA w j _ _ μ (rep0 w hw) (hs_ w j hj μ)
theorem DO(f:T→T→Option T)(i j:Nat)(e:Slots)(μ:af)(k:Int)(t:T)(hs:slot e j=some (.val (.int k)))(h:f (.lst [.int 0]) (.int k)=some t):az i (bQ (rz f [dC (.int 0)] (aa j))) e μ=.nx (e.set i (some (.cel μ.length))) (μ++[(true,t)]):=by
 (try simp_all! only[]);simp[hs,h]
theorem Gr{raw:List (List Int)}(hP:fo p)(hl:∀l∈raw,l.length=w)(AW:raw.map (mdl p)=lines)(hw:Rw p w ws)(hn:lines.length≤200)(hw2:w≤100)(x:SV)(μ:af)(hx:∀l,rd (μ++l) x=some (.lst (raw.map tu)))(same:af→Prop)(DP:∀μ',same μ')(x4 x6 x7 x8 x9 x10:Option SV) :
  ∃y6,forL same (ao 6) (aW (aa 5) (ah bg (ah bg (aw (cal (fnV 3 dF)) [(aa 0),(aa 2),(aa 6)]) (bC [(ah aY (aU (aa 3) (aa 6)) (aa 0))])) (aw (cal (fnV 3 nE)) [(aa 1),(aa 6)]))) (bK 0 w)
   [some (.val (.int p)),some (.val (.int w)),some x,some (.val (tu ws)),x4,some (.cel μ.length),x6,x7,x8,x9,x10] (μ++[(true,.lst [])]) =
   .nx [some (.val (.int p)),some (.val (.int w)),some x,some (.val (tu ws)),x4,some (.cel μ.length),y6,x7,x8,x9,x10] (μ++[(true,.lst (((List.range w).map λj=>aug w lines ws j).map li))]):=by
 have hb:=hP.pos
 have hp0:0<p:=Int.lt_of_lt_of_le (by decide) hb.1
 have hrl:raw.length=lines.length:=by rw[← AW,List.length_map]
 obtain⟨e',μ',h1,y6,h2,h3⟩:=d0 (same:=same) (b:=ao 6) (body:=aW (aa 5) (ah bg (ah bg (aw (cal (fnV 3 dF)) [(aa 0),(aa 2),(aa 6)]) (bC [(ah aY (aU (aa 3) (aa 6)) (aa 0))])) (aw (cal (fnV 3 nE)) [(aa 1),(aa 6)]))) (ts:=bK 0 w)
  (e:=[some (.val (.int p)),some (.val (.int w)),some x,some (.val (tu ws)),x4,some (.cel μ.length),x6,x7,x8,x9,x10]) (μ:=μ++[(true,.lst [])])
  (λi e μ'=>∃y6,e=[some (.val (.int p)),some (.val (.int w)),some x,some (.val (tu ws)),x4,some (.cel μ.length),y6,x7,x8,x9,x10]∧μ'=μ++[(true,.lst (((List.range i).map λj=>aug w lines ws j).map li))])
  (λi e μ' _=>DP μ') (λi t e μ' ht ak=>by
   obtain⟨y6,he,hμ⟩:=ak
   subst he hμ
   obtain⟨hi,rfl⟩:=mB ht
   have e0:(0:Int)+(i:Int)=(i:Int):=by lia
   rw[e0]
   generalize hc:(true,T.lst (((List.range i).map λj=>aug w lines ws j).map li))=c
   have Mr:=wj (p:=p) (w:=w) (by lia) hl (by lia) i (by lia) x (μ++[c]) (hx _)
   rw[AW] at Mr
   have hun:=Gq (w:=w) i (by lia) (by lia) (μ++[c])
   have gb:=hw.g0 (p:=p) (by lia) i
   have ha:atI (ws.map T.int) (i:Int)=some (.int (g ws i)):=by
    have:=atg (r:=ws) (k:=(i:Int)) (by lia) (by rw[hw.len];lia)
    simpa using this
   have JH:g ws i%p=g ws i:=Int.emod_eq_of_lt gb.1 gb.2
   have a1:bg (li (col lines i)) (.lst [.int (g ws i)])=some (li (col lines i++[g ws i])):=by
    rw[iO _ _ (by simp[col,szL];lia)];simp
   have a2:bg (li (col lines i++[g ws i])) (li (eu w i))=some (li (aug w lines ws i)):=by
    rw[iO _ _ (by simp[col,szL,eu];lia)];simp[aug]
   have hls:mq (.cel μ.length) (μ++[c])=some ():=by rw[← hc];exact j8 _ _ _ _
   have hap:∀t,appendAt (.cel μ.length) t (μ++[c])=some (μ++[(true,T.lst (((List.range i).map λj=>aug w lines ws j).map li++[t]))]):=λt=>by rw[← hc];exact eY _ _ _ _ (by simp[szL];lia)
   refine⟨_,_,_,j5 _ _ _,?_,some (.val (.int i)),rfl,rfl⟩
   simp only[hls,hap,pI,fZ,bh,dR,dZ,j3,ia,tS,jb,kG,ph,mf,List.set_cons_succ,List.set_cons_zero,bW,bV,R.aK,R.aT,R.b5,iz,jZ,Option.bind_some,mm,ha,Option.map_some,mi _ _ hp0,JH,Mr,hun,R.dB,a1,a2]
   rw[List.range_succ,List.map_append,List.map_append]
   rfl) ⟨x6,rfl,rfl⟩
 refine⟨y6,?_⟩
 rw[h1,h2,h3,cC]
end
theorem QO(r:List Int)(i:Int)(h0:0≤i)(h1:i≤r.length):II (li r) (some i) none=some (li (r.drop i.toNat)):=by
 have e1:sIx (r.map T.int).length 0 (some i)=i.toNat:=by show (if i<0 then _ else min i.toNat (r.map T.int).length)=_;rw[if_neg (by omega),List.length_map];omega
 have e2:sIx (r.map T.int).length (r.map T.int).length none=(r.map T.int).length:=rfl
 show some (T.lst (wU (r.map T.int) (some i) none))=_
 unfold wU
 rw[e1,e2,List.take_of_length_le (by simp)]
 simp
theorem atn{r:List Int}{k:Nat}(h:k<r.length):atI (r.map T.int) (k:Int)=some (.int (g r k)):=by
 have:=atg (r:=r) (k:=(k:Int)) (by omega) (by omega)
 simpa using this
section
variable{p:Int}{w:Nat}{lines:List (List Int)}{ws:List Int}
theorem Gs{L m:Nat}(hp:0<p){ls:List Ld}(hn:(ls.map (·.1)).Nodup)(hk:∀q∈ls,q.1<m)(rl:∀q∈ls,Rw p L q.2)(hmL:m<L)(hp1:1<p)(same:af→Prop)(DP:∀μ',same μ')(μ:af)(c:Bool×T)(x0 x1 x2 x3 x5 x6 x7 x8 x10:Option SV) :
  ∃y6 y10 ms,forL same (h_ [6,10]) (dj 9 (aa 6) (aU (aa 10) (aa 4))) (eZ (dk ls)) [x0,x1,x2,x3,some (.val (.int m)),x5,x6,x7,x8,some (.cel (μ.length+1)),x10] (μ++[c,(true,li (List.replicate m 0))]) =
   .nx [x0,x1,x2,x3,some (.val (.int m)),x5,y6,x7,x8,some (.cel (μ.length+1)),y10] (μ++[c,(true,li ms)])∧Rw p m ms∧(∀q∈ls,g ms q.1=g q.2 m)∧∀j,(∀q∈ls,q.1≠j)→g ms j=0:=by
 obtain⟨e',μ',h1,y6,y10,ms,h2,h3,h4,h5,h6⟩:=d0 (same:=same) (b:=h_ [6,10]) (body:=dj 9 (aa 6) (aU (aa 10) (aa 4))) (ts:=eZ (dk ls))
  (e:=[x0,x1,x2,x3,some (.val (.int m)),x5,x6,x7,x8,some (.cel (μ.length+1)),x10]) (μ:=μ++[c,(true,li (List.replicate m 0))])
  (λi e μ'=>∃y6 y10 ms,e=[x0,x1,x2,x3,some (.val (.int m)),x5,y6,x7,x8,some (.cel (μ.length+1)),y10]∧μ'=μ++[c,(true,li ms)]∧Rw p m ms∧(∀q∈ls.take i,g ms q.1=g q.2 m)∧∀j,(∀q∈ls.take i,q.1≠j)→g ms j=0)
  (λi e μ' _=>DP μ') (λi t e μ' ht ak=>by
   obtain⟨y6,y10,ms,he,hμ,hr,h5,h6⟩:=ak
   subst he hμ
   obtain⟨q,hq,hi,rfl⟩:=sU ht
   have hm:q∈ls:=List.mem_of_getElem? hq
   have hkq:=hk q hm
   have ha:=atn (r:=q.2) (k:=m) (by rw[(rl q hm).len];exact hmL)
   have gb:=(rl q hm).g0 hp m
   have JN:setAt (.cel (μ.length+1)) (.int (q.1:Int)) (.int (g q.2 m)) (μ++[c,(true,li ms)])=some (μ++[c,(true,li (ms.set q.1 (g q.2 m)))]):=by
    rw[pW (ts:=ms.map T.int) yU (by omega) (by rw[List.length_map,hr.len];omega),Fm]
    have:(q.1:Int).toNat=q.1:=by omega
    rw[this,← List.map_set]
   have htk:ls.take (i+1)=ls.take i++[q]:=by rw[List.take_add_one,hq];rfl
   have hne:∀q'∈ls.take i,q'.1≠q.1:=λq' hq' e=>by
    have hd:ls=ls.take i++q::ls.drop (i+1):=by
     have:ls.drop i=q::ls.drop (i+1):=by
      rw[List.drop_eq_getElem_cons hi]
      congr 1
      rw[List.getElem?_eq_getElem hi] at hq
      exact Option.some.inj hq
     rw[← this,List.take_append_drop]
    rw[hd,List.map_append,List.nodup_append] at hn
    exact hn.2.2 q'.1 (List.mem_map.mpr ⟨q',hq',rfl⟩) q.1 (by simp) e
   have hlen:q.1<ms.length:=by rw[hr.len];exact hkq
   refine⟨_,_,_,gF _ _ _ _ _,?_,some (.val (.int q.1)),some (.val (li q.2)),ms.set q.1 (g q.2 m),rfl,rfl,hr.set gb.1 gb.2,λq' hq'=>?_,λj hj=>?_⟩
   ·simp only[nY,jb,dZ,List.set_cons_succ,List.set_cons_zero,bW,bV,R.aK,R.aT,R.b5,iz,Option.bind_some,ml,ha,Option.map_some,mf,JN]
   ·rw[Hs _ _ _ _ hlen]
    rw[htk] at hq'
    rcases List.mem_append.mp hq' with h|h
    ·rw[if_neg (hne q' h)];exact h5 q' h
    ·simp at h;subst h;rw[if_pos rfl]
   ·rw[Hs _ _ _ _ hlen,if_neg (λe=>hj q (by rw[htk];simp) e.symm)]
    exact h6 j λq' hq'=>hj q' (by rw[htk];simp[hq'])) ⟨x6,x10,_,rfl,rfl,qY hp1 m,by simp,λj _=>by
     by_cases hj:j<m
     ·rw[AV _ _ (by simp[hj])];simp
     ·simp[g,List.getD_eq_getElem?_getD,hj]⟩
 have hil:(eZ (dk ls)).length=ls.length:=by simp[eZ,dk]
 rw[hil,List.take_length] at h5 h6
 exact⟨y6,y10,ms,by rw[h1,h2,h3],h4,h5,h6⟩
end
inductive AX(p:Int)(w:Nat)(lines:List (List Int))(ws:List Int)(μ:af):RS→Prop where
 | turn (c:T) (tv:List Int) (h:Rw p w tv) (h1:∀l∈lines,p ∣ dot l tv) (h2:p ∣ dot ws tv-1):AX p w lines ws μ (.rt (.box [.inl (.str "turn"),.inl (tu tv)]) (μ++[(true,c)]))
 | sum (c:T) (ms:List Int) (h:Rw p lines.length ms) (h1:∀j,j<w→p ∣ dot ms (col lines j)-g ws j):AX p w lines ws μ (.rt (.box [.inl (.str "sum"),.inr (μ.length+1)]) (μ++[(true,c),(true,li ms)]))
section
variable{p:Int}{w:Nat}{lines:List (List Int)}{ws:List Int}
theorem DQ{raw:List (List Int)}(hP:fo p)(hrw:∀l∈raw,l.length=w)(AW:raw.map (mdl p)=lines)(hw:Rw p w ws)(hn:lines.length≤200)(hw2:w≤100)(x:SV)(μ:af)(hx:∀l,rd (μ++l) x=some (.lst (raw.map tu))) :
  AX p w lines ws μ (lF (starts 11 [.val (.int p),.val (.int w),x,.val (tu ws)]) μ):=by
 have hb:=hP.pos
 have hp0:0<p:=Int.lt_of_lt_of_le (by decide) hb.1
 have hl:∀l∈lines,Rw p w l:=λl h=>by
  rw[← AW] at h
  obtain⟨r,hr,rfl⟩:=List.mem_map.mp h
  exact Mp hp0 (hrw r hr)
 have hx0:rd μ x=some (.lst (raw.map tu)):=by simpa using hx []
 have hlen:=zv hx0
 rw[List.length_map,show raw.length=lines.length by rw[← AW,List.length_map]] at hlen
 unfold lF
 simp only[sH,ie,jd,yI,dZ,List.map_cons,List.map_nil,List.length_cons,List.length_nil,List.cons_append,List.nil_append,Nat.reduceAdd,Nat.reduceSub,List.replicate_succ,List.replicate_zero,bW,bV,R.aK,R.aT,R.b5,hlen,Option.map_some,List.set_cons_succ,List.set_cons_zero,RS.gL,pB,tS,dR,ph,pA,jf,pJ,iz,Option.bind_some,nc,d7 (show (0:Int)≤(w:Int) by lia) (show (w:Int)≤1000000 by lia),if_true,Int.toNat_natCast]
 obtain⟨y6,h1⟩:=Gr hP hrw AW hw hn hw2 x μ hx (λ_=>True) (λ_=>trivial) (some (.val (.int lines.length))) none none none none none
 rw[h1,RS.gL]
 clear h1
 have Ms:∀r∈(List.range w).map λj=>aug w lines ws j,Rw p (lines.length+1+w) r:=λr hr=>by
  obtain⟨j,_,rfl⟩:=List.mem_map.mp hr
  exact JJ (by lia) hl hw j
 obtain⟨ls,ns,h2,E,_⟩:=DL (m:=lines.length) hP (L:=lines.length+1+w) (by lia) (by lia) ((List.range w).map λj=>aug w lines ws j) Ms (by simp;lia) (.cel μ.length) (μ++[(true,.lst (((List.range w).map λj=>aug w lines ws j).map li))]) (λl=>by simp)
 generalize hc:T.lst (((List.range w).map λj=>aug w lines ws j).map li)=c at h2 ⊢
 (try simp_all! only[]);simp only[ie,jd,dZ,fZ,bh,dR,j3,List.set_cons_succ,List.set_cons_zero,bW,bV,R.aK,R.aT,R.b5,h2,R.dB,RS.gL,jf,oU,jb,pq,iz,Option.bind_some,mm,yW,Option.map_some,eh]
 refine iT (P:=λr=>AX p w lines ws μ (r.seq (ar (az 9 (bQ (rz rA [dC (.int 0)] (aa 4))))
  (ar (bF (lz (aU (aa 7) (dC (.int 0)))) (h_ [6,10]) (dj 9 (aa 6) (aU (aa 10) (aa 4)))) (aM (mh [dC (.str "sum"),aa 9]))))))
  (λi e μ'=>∃y8,e=[some (.val (.int p)),some (.val (.int w)),some x,some (.val (tu ws)),some (.val (.int lines.length)),some (.cel μ.length),y6,some (.val (.tup [.dct (dk ls),.lst (ns.map li)])),y8,none,none]∧μ'=μ++[(true,c)]∧∀r∈ns.take i,g r lines.length=0)
  ?_ ?_ ?_ ⟨none,rfl,rfl,by simp⟩
 ·intro i e μ' _;trivial
 ·rintro i t e μ' ht ⟨y8,rfl,rfl,hz⟩
  rw[List.getElem?_map] at ht
  obtain⟨r,hr,rfl⟩:=Option.map_eq_some_iff.mp ht
  have hm:r∈ns:=List.mem_of_getElem? hr
  have hR:=E.rn r hm
  have ha:=atn (r:=r) (k:=lines.length) (by rw[hR.len];lia)
  refine⟨_,j5 _ _ _,?_⟩
  by_cases e0:g r lines.length=0
  ·(try simp_all! only[]);simp[ha,e0]
   intro r' hr'
   rw[List.take_add_one,hr] at hr'
   rcases List.mem_append.mp hr' with h|h
   ·exact hz r' h
   ·simp at h;subst h;exact e0
  ·have gb:=hR.g0 (p:=p) (by lia) lines.length
   obtain⟨y,ho,y0,y1,yz⟩:=uJ hP 1 (g r lines.length) (μ++[(true,c)]) (by rw[Int.emod_eq_of_lt gb.1 gb.2];exact e0)
   have hR2:Rw p w (r.drop (lines.length+1)):=by
    have:=hR.drop (k:=lines.length+1)
    rwa [show lines.length+1+w-(lines.length+1)=w by lia] at this
   have ht2:=wc (p:=p) (L:=w) (by lia) (by lia) y (r.drop (lines.length+1)) (μ++[(true,c)]) hR2 (by lia)
   have Mt:=QO r ((lines.length:Int)+1) (by lia) (by rw[hR.len];lia)
   rw[show ((lines.length:Int)+1).toNat=lines.length+1 by lia] at Mt
   have e1:(g r lines.length==0)=false:=by simpa using e0
   have tl:=told (by lia) E hm hw.len λl h=>(hl l h).len
   obtain⟨t,hts⟩:∃t,g r lines.length-dot ws (r.drop (lines.length+1))=p*t:=tl.2
   obtain⟨s,hs⟩:∃s,y*g r lines.length-1=p*s:=Int.dvd_of_emod_eq_zero yz
   have Mu:AX p w lines ws μ (.rt (.box [.inl (.str "turn"),.inl (tu (tm p y (r.drop (lines.length+1))))]) (μ++[(true,c)])):=by
    refine .turn c _ (DC (by lia) y hR2.len) (λl h=>?_) ?_
    ·obtain⟨u,hu⟩:=uI p y (r.drop (lines.length+1)) l
     obtain⟨v,hv⟩:=tl.1 l h
     rw[hu,hv]
     exact⟨y*v+u,by grind⟩
    ·obtain⟨u,hu⟩:=uI p y (r.drop (lines.length+1)) ws
     rw[hu]
     exact⟨s-y*t+u,by grind⟩
   have hb2:fNe (.int (g r lines.length)) (.int 0)=some (.bl true):=by rw[yH,e1];rfl
   have goal:∀(e:Slots),slot e 0=some (.val (.int p))→slot e 4=some (.val (.int lines.length))→slot e 8=some (.val (li r)) →
     sIf (ah fNe (aU (aa 8) (aa 4)) (dC (.int 0))) (aM (mh [(dC (.str "turn")),(dUn aD (aw (cal (fnV 3 jq)) [(aa 0),(aw (cal (fnV 5 lE)) [(aa 0),(dC (.int 1)),(aU (aa 8) (aa 4))]),(BY (aa 8) (some (ah bg (aa 4) (dC (.int 1)))) none)]))])) b7 e (μ++[(true,c)]) =
     .rt (.box [.inl (.str "turn"),.inl (tu (tm p y (r.drop (lines.length+1))))]) (μ++[(true,c)]):=λe q0 q4 q8=>by
    (try simp_all! only[]);simp only[wY,ia,jb,dZ,pq,q0,q4,q8,R.aK,R.aT,R.b5,iz,Option.bind_some,ml,ha,Option.map_some,jZ,hb2,gI,if_true,tV,tT,bh,dR,tR,fZ,j3,ho,R.dB,yL,sA,sy,vc,nc,pv,Mt,ht2,gK,boxed]
   rw[goal _ rfl rfl rfl,Fq]
   exact Mu
 ·rintro e μ' ⟨y8,rfl,rfl,hz⟩
  rw[List.length_map,List.take_length] at hz
  rw[RS.gL,ie,DO rA 9 4 _ _ (lines.length:Int) _ rfl (rep0 lines.length (by lia)),RS.gL]
  obtain⟨z6,z10,ms,h3,h4,h5,h6⟩:=Gs (p:=p) (L:=lines.length+1+w) (m:=lines.length) (by lia) E.nd E.key E.rl (by lia) (by lia) (λ_=>True) (λ_=>trivial) μ (true,c) (some (.val (.int p))) (some (.val (.int w))) (some x) (some (.val (tu ws))) (some (.cel μ.length)) y6 (some (.val (.tup [.dct (dk ls),.lst (ns.map li)]))) y8 none
  have He:(μ++[(true,c)]).length=μ.length+1:=by simp
  have hap:μ++[(true,c)]++[(true,li (List.replicate lines.length 0))]=μ++[(true,c),(true,li (List.replicate lines.length 0))]:=by simp
  rw[He,hap]
  (try simp_all! only[]);simp only[ie,jf,nr,jb,dZ,pq,List.set_cons_succ,List.set_cons_zero,bW,bV,R.aK,R.aT,R.b5,iz,Option.bind_some,mm,vt,Option.map_some,yX]
  rw[h3,RS.gL]
  (try simp_all! only[]);simp only[tV,tT,bh,dR,pq,dZ,bW,bV,R.aK,R.aT,R.b5,boxed,Option.map_some]
  exact .sum c ms h4 λj hj=>JK (by lia) E hz h4.len h5 h6 j hj
theorem Gu(hP:fo p)(hl:∀l∈lines,Rw p w l)(hw:Rw p w ws)(hn:lines.length≤100)(hw2:w≤100)(x:SV)(μ:af)(hx:∀l,rd (μ++l) x=some (.lst (lines.map tu))) :
  AX p w lines ws μ (lF (starts 11 [.val (.int p),.val (.int w),x,.val (tu ws)]) μ):=DQ hP (λl h=>(hl l h).1) (JL hl) hw (by lia) hw2 x μ hx
end
def less(n:Int)(v l:List Int):List Int:=(v.zip l).map λq=>q.1-n*q.2
theorem wk(n:Int):∀(v l t:List Int),v.length=l.length→dot (less n v l) t=dot v t-n*dot l t
 | [],l,t,h=>by cases l with
  | nil=>simp[less]
  | cons x l=>simp at h
 | a::v,[],t,h=>by simp at h
 | a::v,b::l,[],h=>by simp[less]
 | a::v,b::l,c::t,h=>by
  have e:less n (a::v) (b::l)=(a-n*b)::less n v l:=rfl
  rw[e,bI,bI,bI,wk n v l t (by simpa using h)]
  grind
theorem DR(n:Int):∀(v l:List Int) (j:Nat),v.length=l.length→g (less n v l) j=g v j-n*g l j
 | [],l,j,h=>by cases l with
  | nil=>simp[less,g]
  | cons x l=>simp at h
 | a::v,[],j,h=>by simp at h
 | a::v,b::l,0,h=>by simp[less,g]
 | a::v,b::l,j+1,h=>by
  have e:less n (a::v) (b::l)=(a-n*b)::less n v l:=rfl
  rw[e,e8,e8,e8]
  exact DR n v l j (by simpa using h)
theorem zw(p:Int):∀(v t:List Int),(∀j,j<v.length→p ∣ g v j)→p ∣ dot v t
 | [],t,_=>⟨0,by simp⟩
 | a::v,[],_=>⟨0,by simp⟩
 | a::v,b::t,h=>by
  rw[bI]
  have h0:=h 0 (by simp)
  rw[iM] at h0
  obtain⟨s,hs⟩:=h0
  obtain⟨u,hu⟩:=zw p v t λj hj=>by have:=h (j+1) (by simp;lia);rwa [e8] at this
  exact⟨s*b+u,by rw[hs,hu];grind⟩
theorem wm(p:Int)(w:Nat)(t:List Int):∀(lines:List (List Int)) (ms v:List Int),ms.length=lines.length→(∀l∈lines,l.length=w)→v.length=w→(∀j,j<w→p ∣ dot ms (col lines j)-g v j)→(∀l∈lines,p ∣ dot l t)→p ∣ dot v t
 | [],ms,v,_,_,hv,h,_=>zw p v t λj hj=>by
  obtain⟨s,hs⟩:=h j (by lia)
  rw[show col ([]:List (List Int)) j=[] from rfl,Dz] at hs
  exact⟨-s,by rw[Int.mul_neg];lia⟩
 | l::lines,[],v,h,_,_,_,_=>by simp at h
 | l::lines,m::ms,v,hm,hl,hv,h,ht=>by
  have hl0:=hl l (by simp)
  have ih:=wm p w t lines ms (less m v l) (by simpa using hm) (λl' h'=>hl l' (by simp[h'])) (by simp[less,hv,hl0]) (λj hj=>by
   obtain⟨s,hs⟩:=h j hj
   rw[show col (l::lines) j=g l j::col lines j from rfl,bI] at hs
   rw[DR _ _ _ _ (by lia)]
   exact⟨s,by grind⟩) λl' h'=>ht l' (by simp[h'])
  rw[wk _ _ _ _ (by lia)] at ih
  obtain⟨s,hs⟩:=ih
  obtain⟨u,hu⟩:=ht l (by simp)
  exact⟨s+m*u,by grind⟩
theorem DT{p:Int}{w:Nat}{lines:List (List Int)}{ws ms tv:List Int}(hp:1<p)(hl:∀l∈lines,l.length=w)(hw:ws.length=w)(hm:ms.length=lines.length)(h:∀j,j<w→p ∣ dot ms (col lines j)-g ws j)(h1:∀l∈lines,p ∣ dot l tv)(h2:p ∣ dot ws tv-1):False:=by
 obtain⟨a,ha⟩:=wm p w tv lines ms ws hm hl hw h h1
 obtain⟨b,hb⟩:=h2
 have:p*(a-b)=1:=by grind
 have h3:p ∣ 1:=⟨a-b,this.symm⟩
 have:=Int.le_of_dvd (by lia) h3
 lia
theorem AY(n:Nat):bc 0 n=(List.range n).map λ(i:Nat)=>(i:Int):=by simp[bc]
end Fw.E
namespace Fw.F
open PySem Fw Fw.H Fw.E
noncomputable abbrev Rows := List (Int × List Int)
def rt(q:Int×List Int):T:=.tup [.int q.1,tu q.2]
def tb(p:Int)(w:Nat)(rows:Rows):T:=.tup [.int p,.int w,.tup (rows.map rt)]
structure Tbl(p:Int)(w:Nat)(rows:Rows):Prop where
 pr:fo p
 w0:0<w
 w1:w≤12
 n:rows.length≤24
 li:∀q∈rows,Rw p w q.2
def i9(rows:Rows)(i:Nat):Int×List Int:=rows.getD i (0,[])
def rowsOf(rows:Rows)(bU:List Int):List Nat:=(List.range rows.length).filter λi=>decide ((i9 rows i).1∈bU)
theorem enum_rows(rows:Rows):gP 0 (rows.map rt)=(List.range rows.length).map λ(i:Nat)=>.tup [.int (i:Int),rt (i9 rows i)]:=by
 apply List.ext_getElem?
 intro i
 rw[Cp,List.getElem?_map,List.getElem?_map]
 by_cases h:i<rows.length
 ·rw[List.getElem?_range h,List.getElem?_eq_getElem h]
  simp[i9,h]
 ·rw[List.getElem?_eq_none (by lia),List.getElem?_eq_none (by simp;lia)]
  rfl
theorem DU(μ:af)(t:T):gc μ.length (.cel μ.length) (μ++[(true,t)])=.ok (.cel μ.length) (μ++[(true,t)]):=by
 unfold gc
 simp
theorem Gv(μ:af)(t:T):ice μ.length (.cel μ.length) (μ++[(true,t)])=.ok (.val t) μ:=by
 unfold ice
 rw[w8 (b:=true) (t:=t) (by simp),R.aT]
 simp
def nums(is:List Nat):List Int:=is.map λ(i:Nat)=>(i:Int)
theorem x_(is:List Nat):(is.map λ(i:Nat)=>T.int (i:Int))=(nums is).map T.int:=by simp[nums]
end Fw.F
namespace Fw
open PySem Fw Fw.H Fw.E
theorem Gw:fEq (.lst []) (.lst [])=some (.bl true):=pE [] []
theorem Gx:fNe (.lst []) (.lst [])=some (.bl false):=ve [] []
theorem JO(x:SV)(μ:af):R.ok x (μ.take μ.length)=R.ok x μ:=by rw[List.take_length]
def stw:=And.intro @ie <| And.intro @jd <| And.intro @tV <| And.intro @wY <| And.intro @BZ <| And.intro @Fb <| And.intro @pI <| And.intro @Fv <| And.intro @Ak <| And.intro @nY <| And.intro @pY <| And.intro @jf <| And.intro @pB <| And.intro @tR <| And.intro @ia <| And.intro @dZ <| And.intro @pq <| And.intro @fZ <| And.intro @bh <| And.intro @dR <| And.intro @EU <| And.intro @ET <| And.intro @ID <| And.intro @EV <| And.intro @EW <| And.intro @tS <| And.intro @jb <| And.intro @yI <| And.intro @B0 <| And.intro @yL <| And.intro @sy <| And.intro @sA <| And.intro @tT <| And.intro @oU <| And.intro @pJ <| And.intro @wZ <| And.intro @Fe <| And.intro @Cq <| And.intro @nr <| And.intro @Ff <| And.intro @B1 <| And.intro @B2 <| And.intro @j5 <| And.intro @gF <| And.intro @Ct <| And.intro @j3 <| And.intro @fM <| And.intro @lj <| And.intro @j6 <| And.intro @sH <| And.intro @bW <| And.intro @bV <| And.intro @zX <| And.intro @R.b5 <| And.intro @iz <| And.intro @pU <| And.intro @Ft <| And.intro @pv <| And.intro @jZ <| And.intro @pA <| And.intro @gI <| And.intro @nc <| And.intro @mf <| And.intro @ph <| And.intro @kG <| And.intro @RS.gL <| And.intro @RS.IJ <| And.intro @yN <| And.intro @Fg <| And.intro @yO <| And.intro @Fn <| And.intro @zZ <| And.intro @gK <| And.intro @wR <| And.intro @eh <| And.intro @je <| And.intro @BP <| And.intro @BQ <| And.intro @ml <| And.intro @mm <| And.intro @BN <| And.intro @vc <| And.intro @BK <| And.intro @mi <| And.intro @BL <| And.intro @BM <| And.intro @kH <| And.intro @yF <| And.intro @EY <| And.intro @EZ <| And.intro @E1 <| And.intro @E2 <| And.intro @E6 <| And.intro @yH <| And.intro @E7 <| And.intro @E8 <| And.intro @pE <| And.intro @ve <| And.intro @Gw <| And.intro @Gx <| And.intro @JO <| And.intro @Aj <| And.intro @Cs <| And.intro @Fs <| And.intro @wV <| And.intro @wW <| And.intro @Cu <| And.intro @R.aK <| And.intro @R.aT <| And.intro @R.dB <| And.intro @vt <| And.intro @yW <| @Fo
def stc:=And.intro @Option.bind_some.{0,0} <| And.intro @Option.map_some.{0,0} <| And.intro @List.map_cons.{0,0} <| And.intro @List.map_nil.{0,0} <| And.intro @List.length_cons.{0} <| And.intro @List.length_nil.{0} <| And.intro @List.cons_append.{0} <| And.intro @List.nil_append.{0} <| And.intro @List.replicate_succ.{0} <| And.intro @List.replicate_zero.{0} <| And.intro @List.set_cons_succ.{0} <| And.intro @List.set_cons_zero.{0} <| And.intro @List.getElem?_cons_zero.{0} <| And.intro @List.getElem?_cons_succ.{0} <| And.intro @List.take_zero.{0} <| And.intro @List.take_nil.{0} <| And.intro @beq_self_eq_true.{0} <| And.intro @if_false.{1} <| And.intro @if_true.{1} <| And.intro @Bool.false_eq_true <| And.intro @Bool.not_true <| @Bool.not_false
end Fw
local macro_rules
  | `(tactic| simp?! only [$ls,*]) => `(tactic| simp (disch := first | decide | omega | assumption) only [Fw.stw, Fw.stc, Nat.reduceAdd, Nat.reduceSub, $ls,*])
namespace Fw
open PySem Fw Fw.H Fw.E
end Fw
local macro_rules
 | `(tactic| simp! only [$ls,*]) => do
  let mut xs:Array (Lean.TSyntax `Lean.Parser.Tactic.simpLemma):=#[]
  for n in "J4 J5 J6 Me J7 Mf J8 J9 MJ Ju Gk Hi J_ Ka Kb Kc Mg Hj Hk Jv Mh Jw Jx Mi Ke Jy Hl Hm El Hn Ho Kf Mj Kg Kh Ki Kj Jz JA JB BZ pI Fv Ak nY pY pB EV B0 yL sy sA tT pJ wZ Fe Cq nr gF Ct fM lj j6 sH zX pU Ft pA nc RS.IJ yN Fg yO Fn zZ gK wR eh je BP BQ ml mm BN vc BK mi BL BM kH yF EY EZ E1 E2 E6 yH E7 E8 pE ve Gw Gx JO Aj Cs Fs wV wW Cu vt yW Fo".splitOn " " do xs := xs.push (← `(Lean.Parser.Tactic.simpLemma| $(Lean.mkIdent (`Fw ++ n.toName)):term))
  `(tactic| simp (disch := first | decide | omega | assumption) only [$(xs),*, Fw.stc, Nat.reduceAdd, Nat.reduceSub, $ls,*])
local macro_rules
 | `(tactic| dsimp! only [$ls,*]) => do
  let mut xs:Array (Lean.TSyntax `Lean.Parser.Tactic.simpLemma):=#[]
  for n in "Hj Hk J9 MJ Mh Ke Mi ie jd tV wY BZ Fb pI Fv Ak nY pY jf pB tR ia fZ bh dR EU ET ID EV EW tS jb yI B0 yL sy sA tT oU pJ wZ Fe Cq nr Ff B1 B2 j5 gF Ct j3 fM lj j6 sH zX R.b5 pU Ft pv jZ pA nc ph kG RS.gL RS.IJ yN Fg yO Fn zZ gK wR eh je BP BQ ml mm BN vc BK mi BL BM kH yF EY EZ E1 E2 E6 yH E7 E8 pE ve Gw Gx JO Aj Cs Fs wV wW Cu R.aK R.aT R.dB vt yW Fo".splitOn " " do xs := xs.push (← `(Lean.Parser.Tactic.simpLemma| $(Lean.mkIdent (`Fw ++ n.toName)):term))
  `(tactic| simp (disch := first | decide | omega | assumption) only [$(xs),*, Fw.stc, Nat.reduceAdd, Nat.reduceSub, $ls,*])
namespace Fw.F
open PySem Fw Fw.H Fw.E
def kM:FN:=fnK 11 E.lF
def lW:DS :=
 (aM (aJ (yY (aU (aa 0) (dC (.int 2)))) [none,none,some 1] (h_ [0,1]) (ah fIn (aU (aa 1) (dC (.int 0))) (aa 2)) (aa 0)))
def cE:FN:=fnV 2 lW
def jr:DS :=
 (aM (aJ (bo (aa 1)) [none,some 0] (ao 0) (dC (.bl true)) (aU (aU (aU (aa 1) (dC (.int 2))) (aa 0)) (dC (.int 1)))))
def d_:FN:=fnV 2 jr
def fU:DS :=
 (aM (dUn aD (aJ (aI (aa 0)) [none] (ao 0) (dC (.bl true)) (ES (ah fEq (aa 0) (dC (.int 0))) (dC (.int 1)) (dC (.int 0))))))
def cF:FN:=fnV 1 fU
def il:DS :=
 (ar (az 2 (aw (cal kM) [(aU (aa 0) (dC (.int 0))),(aU (aa 0) (dC (.int 1))),(aw (cal d_) [(aa 0),(aa 1)]),(aw (cal cF) [(aU (aa 0) (dC (.int 1)))])]))
 (ar (sIf (ah fEq (aU (aa 2) (dC (.int 0))) (dC (.str "sum"))) (aM (mh [(dC (.str "open")),(aU (aa 2) (dC (.int 1)))])) b7)
 (aM (mh [(dC (.str "shut")),(aU (aa 2) (dC (.int 1)))]))))
def cf:FN:=fnK 3 il
def fV:DS :=
 (aM (aw (cal cf) [(aa 0),(aw (cal cE) [(aa 0),(aa 1)])]))
theorem sW{p:Int}{w:Nat}{rows:Rows}(hn:rows.length≤24)(bU:List Int)(y:SV)(μ:af)(h2:rd μ y=some (.lst (bU.map T.int))) :
  cE [.val (tb p w rows),y] μ=.ok (.val (li (nums (rowsOf rows bU)))) μ:=by
 unfold cE lW tb
 simp! only[h2]
 rw[enum_rows,fv (λ(i:Nat)=>.tup [.int (i:Int),rt (i9 rows i)]) (λi=>decide ((i9 rows i).1∈bU)) (λ(i:Nat)=>.int (i:Int)) (by simp)]
 ·rw[R.dB,R.aT,if_pos (by simp[szL];lia)]
  simp! only[]
  rw[x_]
  rfl
 ·intro i hi
  refine⟨_,gF 0 1 _ _ _,?_,λ_=>?_⟩
  ·simp! only[rt,h2,Cr]
  ·simp! only[]
def linesAt(rows:Rows)(is:List Nat):List (List Int):=is.map λi=>(i9 rows i).2
theorem DV{p:Int}{w:Nat}{rows:Rows}(is:List Nat)(hi:∀i∈is,i<rows.length)(hl:is.length≤1000)(y:SV)(μ:af)(h2:rd μ y=some (li (nums is))) :
  d_ [.val (tb p w rows),y] μ=.ok (.val (.lst ((linesAt rows is).map tu))) μ:=by
 unfold d_ jr
 simp! only[h2]
 rw[← x_,gG (λ(i:Nat)=>.int (i:Int)) (λ(i:Nat)=>tu (i9 rows i).2) (by simp[h2])]
 ·rw[R.dB,R.aT,if_pos (by simp[szL];lia)]
  simp! only[]
  simp[linesAt,Function.comp_def]
 ·intro i hm
  have hlt:=hi i hm
  have a1:atI (rows.map rt) (i:Int)=some (rt (i9 rows i)):=by
   rw[oY (by lia) (by lia)]
   simp[i9,hlt]
  refine⟨_,rfl,?_⟩
  unfold tb
  simp! only[a1,rt]
theorem Gy(w:Nat)(h:0<w):eu w 0=1::List.replicate (w-1) 0:=by
 obtain⟨n,rfl⟩:∃n,w=n+1:=⟨w-1,by lia⟩
 simp[eu,List.replicate_succ]
theorem AZ(w:Nat)(h:0<w)(h2:w≤1000)(μ:af):cF [.val (.int w)] μ=.ok (.val (tu (eu w 0))) μ:=by
 unfold cF fU
 have hr:eE (w:Int)=true:=d7 (by lia) (by lia)
 dsimp! only[hr]
 rw[iS,nq (λk=>.int (if k=0 then 1 else 0)) trivial]
 ·rw[R.dB,R.aT,if_pos (by simp[szL];lia)]
  dsimp! only[]
  have e:((bc 0 (w:Int).toNat).map λk=>T.int (if k=0 then 1 else 0))=(eu w 0).map T.int:=by
   rw[AY,Int.toNat_natCast,Gy w h]
   obtain⟨n,rfl⟩:∃n,w=n+1:=⟨w-1,by lia⟩
   rw[List.range_succ_eq_map]
   simp only[List.map_cons,List.map_map,Nat.add_sub_cancel,List.map_replicate]
   refine congr (congrArg _ rfl) ?_
   refine List.eq_replicate_iff.mpr ⟨by simp,λb hb=>?_⟩
   obtain⟨k,_,rfl⟩:=List.mem_map.mp hb
   show T.int (if ((Nat.succ k:Nat):Int)=0 then 1 else 0)=_
   rw[if_neg (by lia)]
  rw[e]
 ·intro k hk
  refine⟨_,rfl,?_⟩
  dsimp! only[]
  by_cases hk0:k=0
  ·subst hk0;rfl
  ·rw[if_neg (by simpa using hk0),if_neg hk0]
inductive Opened(p:Int)(w:Nat)(lines:List (List Int))(μ:af):R SV→Prop where
 | ya (c:T) (tv:List Int) (h:Rw p w tv) (h1:∀l∈lines,p ∣ dot l tv) (h2:g tv 0=1):Opened p w lines μ (.ok (.box [.inl (.str "shut"),.inl (tu tv)]) (μ++[(true,c)]))
 | opn (c:T) (ms:List Int) (h:Rw p lines.length ms) (h1:∀j,j<w→p ∣ dot ms (col lines j)-g (eu w 0) j):Opened p w lines μ (.ok (.box [.inl (.str "open"),.inr (μ.length+1)]) (μ++[(true,c),(true,li ms)]))
theorem Gz{p:Int}{w:Nat}{rows:Rows}(H:Tbl p w rows){i:Nat}(h:i<rows.length):Rw p w (i9 rows i).2:=by
 have:i9 rows i=rows[i]:=by simp[i9,h]
 rw[this];exact H.li _ (List.getElem_mem h)
theorem qZ{p:Int}{w:Nat}{rows:Rows}(H:Tbl p w rows){is:List Nat}(hi:∀i∈is,i<rows.length):∀l∈linesAt rows is,Rw p w l:=λl hl=>by
 obtain⟨i,hm,rfl⟩:=List.mem_map.mp hl
 exact Gz H (hi i hm)
theorem Mv{p:Int}(hp:1<p)(w k:Nat):Rw p w (eu w k):=Rw.set (qY hp w) (by lia) (by lia)
theorem JP{p x:Int}(hp:1<p)(h0:0≤x)(h1:x<p)(h:p ∣ x-1):x=1:=by
 obtain⟨k,hk⟩:=h
 rcases Int.lt_trichotomy k 0 with z|z|z
 ·have:p*k≤p*(-1):=Int.mul_le_mul_of_nonneg_left (by lia) (by lia)
  lia
 ·subst z;lia
 ·have:p*1≤p*k:=Int.mul_le_mul_of_nonneg_left (by lia) (by lia)
  lia
theorem GA{p:Int}{w:Nat}{rows:Rows}(H:Tbl p w rows)(is:List Nat)(hi:∀i∈is,i<rows.length)(hl:is.length≤100)(y:SV)(μ:af)(h2:rd μ y=some (li (nums is))) :
  Opened p w (linesAt rows is) μ (cf [.val (tb p w rows),y] μ):=by
 have hb:=H.pr.pos
 have hp0:0<p:=Int.lt_of_lt_of_le (by decide) hb.1
 have hw:=H.w1
 have e1:=DV (p:=p) (w:=w) is hi (by lia) y μ h2
 have e2:=AZ w H.w0 (by lia) μ
 have hL:=qZ H hi
 have hh:=Gu H.pr hL (Mv (by lia) w 0) (by simp[linesAt];lia) (by lia) (.val (.lst ((linesAt rows is).map tu))) μ (λ_=>rfl)
 unfold cf il tb
 unfold tb at e1
 dsimp! only[e1,e2]
 generalize hr:E.lF (starts 11 [.val (.int p),.val (.int w),.val (.lst ((linesAt rows is).map tu)),.val (tu (eu w 0))]) μ=r at hh
 have hf:∀r',r.tW=r'→kM [.val (.int p),.val (.int w),.val (.lst ((linesAt rows is).map tu)),.val (tu (eu w 0))] μ=r':=λr' h=>by
  rw[← h,← hr];rfl
 cases hh with
 | turn c tv h h1 h3 =>
  rw[hf _ rfl]
  have hp0:tv.length=w:=h.1
  have h4:g tv 0=1:=by
   rw[nS w 0 tv H.w0] at h3
   have:=h.g0 (p:=p) (by lia) 0
   exact JP (by lia) this.1 this.2 h3
  have s1:((Str.ofString "turn")==(Str.ofString "sum"))=false:=by decide
  dsimp! only[pick,s1]
  exact .ya c tv h h1 h4
 | sum c ms h h1 =>
  rw[hf _ rfl]
  dsimp! only[pick]
  exact .opn c ms h h1
structure Sq(μ:af)(x:SV)(xs:List Int):Prop where
 len:pG μ x=some (.int xs.length)
 at_:∀k:Int,0≤k→k<xs.length→m_ μ x (.int k)=some (.val (.int (g xs k.toNat)))
 it:(rd μ x).bind bx=some (xs.map T.int)
theorem JQ{μ:af}{k:Nat}{xs:List Int}(h:rd μ (.cel k)=some (li xs)):Sq μ (.cel k) xs :=
 ⟨by rw[zv h];simp,λk h0 h1=>by rw[Gn h,atg h0 h1];rfl,by rw[h];rfl⟩
theorem bq(rows:Rows)(bU:List Int):linesAt rows (rowsOf rows bU)=(rows.filter λq=>decide (q.1∈bU)).map (·.2):=by
 have key:∀(l:List Nat),(l.filter λi=>decide ((i9 rows i).1∈bU)).map (λi=>(i9 rows i).2)=((l.map (i9 rows)).filter λq=>decide (q.1∈bU)).map (·.2):=by
  intro l
  induction l with
  | nil=>rfl
  | cons i l ih =>
   rw[List.filter_cons,List.map_cons,List.filter_cons]
   by_cases h:decide ((i9 rows i).1∈bU)=true
   ·rw[if_pos h,if_pos h,List.map_cons,List.map_cons,ih]
   ·rw[if_neg h,if_neg h,ih]
 have e:(List.range rows.length).map (i9 rows)=rows:=by
  apply List.ext_getElem?
  intro i
  rw[List.getElem?_map]
  by_cases h:i<rows.length
  ·rw[List.getElem?_range h,List.getElem?_eq_getElem h]
   simp[i9,h]
  ·rw[List.getElem?_eq_none (by simp;lia),List.getElem?_eq_none (by lia)];rfl
 unfold linesAt rowsOf
 rw[key,e]
theorem GB(c m:Int)(n:Nat)(μ:af)(hm:0<m)(hm2:m<1000000)(hn2:n≤1000):∃r,fnD 6 H.Cy [.val (.int c),.val (.int m),.val (.int n)] μ=.ok (.cel μ.length) (μ++[(true,li r)])∧Rw m n r:=by
 suffices h:∃ns,fnD 6 H.Cy [.val (.int c),.val (.int m),.val (.int n)] μ=.ok (.cel μ.length) (μ++[(true,li ns)])∧Row m (n:Int) ns by
  obtain⟨r,h,R⟩:=h
  exact⟨r,h,by have:=R.len;lia,R.lo,R.hi⟩
 unfold H.Cy
 have hr:(((n:Int)).toNat:Int)=n:=by lia
 by_cases h:c%2=0
 ·simp (disch:=lia) [h]
  refine iT (P:=λr=>∃ns,RS.B3 μ.length ((r.seq _).seq _)=R.ok (SV.cel μ.length) (μ++[(true,T.lst (ns.map T.int))])∧Row m n ns)
   (λi e μ'=>∃c' x4 ns,e=[some (.val (.int c')),some (.val (.int m)),some (.val (.int n)),some (.cel μ.length),x4,none]∧μ'=μ++[(true,.lst (ns.map T.int))]∧Row m i ns) (λ_ _ _ _=>trivial) ?_ ?_ ⟨_,none,[],rfl,rfl,Row.nil m⟩
  ·rintro i t e μ' ht ⟨c',x4,ns,rfl,rfl,hR⟩
   obtain⟨hi,rfl⟩:=mB ht
   refine⟨_,rfl,?_⟩
   have hl:(ns.map T.int).length<szL:=by have:=hR.len;unfold szL;simp;lia
   have hm3:m<1073741824:=by lia
   simp[hm,hm3,eY _ _ _ _ hl]
   exact⟨ns++[c'%m],by simp,hR.snoc (Int.emod_nonneg _ (by lia)) (Int.emod_lt_of_pos _ hm)⟩
  ·rintro e μ' ⟨c',x4,ns,rfl,rfl,hR⟩
   rw[cC] at hR
   exact⟨ns,by simp[DU],by simpa using hR⟩
 ·simp (disch:=lia) [h]
  refine iT (P:=λr=>∃ns,RS.B3 μ.length (r.seq _)=R.ok (SV.cel μ.length) (μ++[(true,T.lst (ns.map T.int))])∧Row m n ns)
   (λi e μ'=>∃x4 x5 ns,e=[some (.val (.int c)),some (.val (.int m)),some (.val (.int n)),some (.cel μ.length),x4,x5]∧μ'=μ++[(true,.lst (ns.map T.int))]∧Row m i ns) (λ_ _ _ _=>trivial) ?_ ?_ ⟨none,none,[],rfl,rfl,Row.nil m⟩
  ·rintro i t e μ' ht ⟨x4,x5,ns,rfl,rfl,hR⟩
   obtain⟨k,rfl,hi,hk⟩:=kL ht
   refine⟨_,rfl,?_⟩
   have hl:(ns.map T.int).length<szL:=by have:=hR.len;unfold szL;simp;lia
   simp
   have y0:0≤(c / 2+k*40503)%2147483629∧(c / 2+k*40503)%2147483629<2147483629:=by lia
   generalize (c / 2+k*40503)%2147483629=y at y0 ⊢
   rw[kH y y (by lia) (by lia)]
   simp
   have z0:0≤(y*y+k)%998244353∧(y*y+k)%998244353<998244353:=by lia
   generalize (y*y+k)%998244353=z at z0 ⊢
   rw[kH z z (by lia) (by lia)]
   simp[hm,eY _ _ _ _ hl]
   exact⟨ns++[z*z%2147483587 / 11%m],by simp,hR.snoc (Int.emod_nonneg _ (by lia)) (Int.emod_lt_of_pos _ hm)⟩
  ·rintro e μ' ⟨x4,x5,ns,rfl,rfl,hR⟩
   rw[cC] at hR
   exact⟨ns,by simp[DU],by simpa using hR⟩
theorem toNat_mod(a b:Int)(h:0<b):∃n:Nat,a%b=(n:Int)∧(n:Int)<b:=⟨(a%b).toNat,by have:=Int.emod_nonneg a (show b≠0 by lia);lia,by have:=Int.emod_nonneg a (show b≠0 by lia);have:=Int.emod_lt_of_pos a h;lia⟩
theorem sX{rows:Rows}{bU:List Int}:∀i∈rowsOf rows bU,i<rows.length:=λi hi=>List.mem_range.mp (List.mem_filter.mp hi).1
theorem yb(rows:Rows)(bU:List Int):(rowsOf rows bU).length≤rows.length:=Nat.le_trans (List.length_filter_le _ _) (by simp)
theorem JR{p:Int}{w:Nat}{rows:Rows}(H:Tbl p w rows)(bU:List Int)(y:SV)(μ:af)(h2:rd μ y=some (li bU)) :
  Opened p w (linesAt rows (rowsOf rows bU)) μ (fnK 2 fV [.val (tb p w rows),y] μ):=by
 have hn:=H.n
 have e1:=sW (p:=p) (w:=w) H.n bU y μ h2
 have ho:=GA H (rowsOf rows bU) sX (by have:=yb rows bU;lia) (.val (li (nums (rowsOf rows bU)))) μ rfl
 unfold fV
 simp! only[e1]
 generalize cf [.val (tb p w rows),.val (li (nums (rowsOf rows bU)))] μ=r at ho
 cases ho with
 | ya c tv h h1 h2=>exact .ya c tv h h1 h2
 | opn c ms h h1=>exact .opn c ms h h1
theorem JS{p:Int}{w:Nat}{rows:Rows}(H:Tbl p w rows)(bU:List Int)(y:SV)(μ:af)(h2:rd μ y=some (li bU)) :
  (∃tv,fnV 2 fV [.val (tb p w rows),y] μ=.ok (.val (.tup [.str "shut",tu tv])) μ∧Rw p w tv∧(∀l∈linesAt rows (rowsOf rows bU),p ∣ dot l tv)∧g tv 0=1) ∨
  ∃ms,fnV 2 fV [.val (tb p w rows),y] μ=.ok (.val (.tup [.str "open",li ms])) μ∧Rw p (linesAt rows (rowsOf rows bU)).length ms∧∀j,j<w→p ∣ dot ms (col (linesAt rows (rowsOf rows bU)) j)-g (eu w 0) j:=by
 have h:=JR H bU y μ h2
 rw[j6] at h
 rw[fM]
 generalize fV (starts 2 [.val (tb p w rows),y]) μ=r at h ⊢
 cases r with
 | rt x μ' =>
  rw[yO] at h
  rw[yN]
  generalize hq:R.ok x μ'=q at h
  cases h with
  | ya c tv h h1 h2 =>
   cases hq
   exact .inl ⟨tv,by simp[ice,frz,jN,tQ],h,h1,h2⟩
  | opn c ms h h1 =>
   cases hq
   exact .inr ⟨ms,by simp[ice,frz,jN,tQ],h,h1⟩
 | nx e μ'=>generalize hq:(RS.nx e μ').tW=q at h;cases h<;>cases hq
 | bk e μ'=>generalize hq:(RS.bk e μ').tW=q at h;cases h<;>cases hq
 | ct e μ'=>generalize hq:(RS.ct e μ').tW=q at h;cases h<;>cases hq
 | err c e μ'=>generalize hq:(RS.err c e μ').tW=q at h;cases h<;>cases hq
 | bad=>generalize hq:RS.bad.tW=q at h;cases h<;>cases hq
end Fw.F
namespace Fw.Sets
open PySem Fw Fw.H Fw.E Fw.F
def Mul(p:Int)(w:Nat)(lines:List (List Int))(ms:List Int):Prop:=ms.length=lines.length∧∀j,j<w→p ∣ dot ms (col lines j)-g (eu w 0) j
def Op(p:Int)(w:Nat)(rows:Rows)(s:List Int):Prop:=∃ms,Mul p w (linesAt rows (rowsOf rows s)) ms
theorem widen(P Q:Int→Bool)(h:∀x,P x=true→Q x=true):∀(rows:Rows) (ms:List Int),ms.length=(rows.filter λq=>P q.1).length →
  ∃ms',ms'.length=(rows.filter λq=>Q q.1).length∧∀j,dot ms' (col ((rows.filter λq=>Q q.1).map (·.2)) j)=dot ms (col ((rows.filter λq=>P q.1).map (·.2)) j)
 | [],ms,hl=>⟨ms,hl,λ_=>rfl⟩
 | r::rows,ms,hl=>by
  by_cases hp:P r.1=true
  ·have hq:=h _ hp
   rw[List.filter_cons_of_pos (p:=λq:Int×List Int=>P q.1) hp] at hl
   cases ms with
   | nil=>simp at hl
   | cons m ms =>
    obtain⟨ms',h1,h2⟩:=widen P Q h rows ms (by simpa using hl)
    refine⟨m::ms',?_,λj=>?_⟩
    ·rw[List.filter_cons_of_pos (p:=λq:Int×List Int=>Q q.1) hq,List.length_cons,List.length_cons,h1]
    ·rw[List.filter_cons_of_pos (p:=λq:Int×List Int=>Q q.1) hq,List.filter_cons_of_pos (p:=λq:Int×List Int=>P q.1) hp]
     have:=h2 j
     unfold col at this ⊢
     simp only[List.map_cons,dot,this]
  ·have hp':P r.1=false:=by cases e:P r.1 with|true=>exact absurd e hp|false=>rfl
   rw[List.filter_cons_of_neg (p:=λq:Int×List Int=>P q.1) hp] at hl
   obtain⟨ms',h1,h2⟩:=widen P Q h rows ms hl
   by_cases hq:Q r.1=true
   ·refine⟨0::ms',?_,λj=>?_⟩
    ·rw[List.filter_cons_of_pos (p:=λq:Int×List Int=>Q q.1) hq,List.length_cons,List.length_cons,h1]
    ·rw[List.filter_cons_of_pos (p:=λq:Int×List Int=>Q q.1) hq,List.filter_cons_of_neg (p:=λq:Int×List Int=>P q.1) hp]
     have:=h2 j
     unfold col at this ⊢
     simp only[List.map_cons,dot,this,Int.zero_mul,Int.zero_add]
   ·have hq':Q r.1=false:=by cases e:Q r.1 with|true=>exact absurd e hq|false=>rfl
    refine⟨ms',?_,λj=>?_⟩
    ·rw[List.filter_cons_of_neg (p:=λq:Int×List Int=>Q q.1) hq,h1]
    ·rw[List.filter_cons_of_neg (p:=λq:Int×List Int=>Q q.1) hq,List.filter_cons_of_neg (p:=λq:Int×List Int=>P q.1) hp]
     exact h2 j
theorem GC{p:Int}{w:Nat}{rows:Rows}{s t:List Int}(h:∀x∈s,x∈t)(o:Op p w rows s):Op p w rows t:=by
 obtain⟨ms,h1,h2⟩:=o
 rw[bq,List.length_map] at h1
 obtain⟨ms',k1,k2⟩:=widen (λx=>decide (x∈s)) (λx=>decide (x∈t)) (λx hx=>decide_eq_true (h x (of_decide_eq_true hx))) rows ms h1
 refine⟨ms',by rw[bq,List.length_map];exact k1,λj hj=>?_⟩
 have:=h2 j hj
 rw[bq] at this ⊢
 rw[k2 j]
 exact this
theorem nT{α:Type}[DecidableEq α]:∀(l m:List α),l.Nodup→(∀x∈l,x∈m)→l.length≤m.length
 | [],_,_,_=>Nat.zero_le _
 | a::l,m,hd,h=>by
  obtain⟨h1,h2⟩:=List.pairwise_cons.mp hd
  have ha:=h a (.head _)
  have ih:=nT l (m.erase a) h2 λx hx=>(List.mem_erase_of_ne (Ne.symm (h1 x hx))).mpr (h x (.tail _ hx))
  rw[List.length_erase_of_mem ha] at ih
  have:0<m.length:=List.length_pos_of_mem ha
  rw[List.length_cons]
  omega
def jK:List Int→List (List Int)
 | []=>[[]]
 | x::l=>jK l++(jK l).map (x::·)
theorem q5:∀l,(jK l).length=2 ^ l.length
 | []=>rfl
 | x::l=>by unfold jK;rw[List.length_append,List.length_map,q5 l,List.length_cons,Nat.pow_succ];omega
theorem jL:∀(u s:List Int),u.Pairwise (·<·)→s.Pairwise (·<·)→(∀x∈s,x∈u)→s∈jK u
 | [],s,_,_,h=>by
  cases s with
  | nil=>exact List.mem_singleton.mpr rfl
  | cons x s=>exact absurd (h x (.head _)) List.not_mem_nil
 | a::u,s,hu,hs,h=>by
  obtain⟨u1,u2⟩:=List.pairwise_cons.mp hu
  unfold jK
  by_cases ha:a∈s
  ·refine List.mem_append.mpr (.inr (List.mem_map.mpr ?_))
   cases s with
   | nil=>cases ha
   | cons b s =>
    obtain⟨s1,s2⟩:=List.pairwise_cons.mp hs
    have hb:b=a:=by
     rcases List.mem_cons.mp ha with e|q
     ·exact e.symm
     ·have q1:=s1 a q
      rcases List.mem_cons.mp (h b (.head _)) with e|q2
      ·exact e
      ·have:=u1 b q2;omega
    subst hb
    refine⟨s,jL u s u2 s2 λx hx=>?_,rfl⟩
    rcases List.mem_cons.mp (h x (.tail _ hx)) with e|q
    ·have:=s1 x hx;omega
    ·exact q
  ·refine List.mem_append.mpr (.inl (jL u s u2 hs λx hx=>?_))
   rcases List.mem_cons.mp (h x hx) with e|q
   ·exact absurd (e ▸ hx) ha
   ·exact q
theorem sY{s t:List Int}(hs:s.Pairwise (·<·))(ht:t.Pairwise (·<·))(h:∀x,x∈s↔x∈t):s=t:=by
 have ns:s.Nodup:=hs.imp λq=>by omega
 have nt:t.Nodup:=ht.imp λq=>by omega
 exact List.Perm.eq_of_pairwise (λ_ _ _ _ a b=>by omega) hs ht ((List.perm_ext_iff_of_nodup ns nt).mpr h)
section
variable{p:Int}{w n:Nat}{rows:Rows}
def own(n:Nat)(rows:Rows):List Int:=((List.range n).map λ(i:Nat)=>(i:Int)).filter λx=>rows.any λq=>decide (q.1=x)
theorem uL{x:Int}:x∈own n rows↔(0≤x∧x<(n:Int))∧∃q∈rows,q.1=x:=by
 unfold own
 rw[List.mem_filter,List.mem_map,List.any_eq_true]
 constructor
 ·rintro⟨⟨i,hi,rfl⟩,q,hq,e⟩
  have:=List.mem_range.mp hi
  exact⟨⟨by omega,by omega⟩,q,hq,of_decide_eq_true e⟩
 ·rintro⟨⟨h0,h1⟩,q,hq,e⟩
  exact⟨⟨x.toNat,List.mem_range.mpr (by omega),by omega⟩,q,hq,decide_eq_true e⟩
theorem nU:(own n rows).Pairwise (·<·):=by
 unfold own
 refine List.Pairwise.filter _ (List.Pairwise.map _ (λa b (h:a<b)=>by omega) List.pairwise_lt_range)
theorem GD:(own n rows).length≤rows.length:=by
 have hd:(own n rows).Nodup:=nU.imp λq=>by omega
 have:=nT (own n rows) (rows.map (·.1)) hd λx hx=>by
  obtain⟨_,q,hq,rfl⟩:=uL.mp hx
  exact List.mem_map.mpr ⟨q,hq,rfl⟩
 rwa [List.length_map] at this
theorem zx{s t:List Int}(h:∀x,(∃q∈rows,q.1=x)→(x∈s↔x∈t)):Op p w rows s↔Op p w rows t:=by
 have e:linesAt rows (rowsOf rows s)=linesAt rows (rowsOf rows t):=by
  rw[bq,bq]
  congr 1
  refine List.filter_congr λq hq=>?_
  rw[decide_eq_decide]
  exact h _ ⟨q,hq,rfl⟩
 unfold Op
 rw[e]
end
theorem zy{α β:Type}[DecidableEq β](f:α→β)(l:List α)(m:List β)(hd:l.Nodup)(hi:∀x∈l,∀y∈l,f x=f y→x=y)(h:∀x∈l,f x∈m):l.length≤m.length:=by
 have:=nT (l.map f) m (List.pairwise_map.mpr (List.Pairwise.imp_of_mem (λ{a b} ha hb (q:a≠b) e=>q (hi a ha b hb e)) hd)) λy hy=>by
  obtain⟨x,hx,rfl⟩:=List.mem_map.mp hy
  exact h x hx
 rwa [List.length_map] at this
section
variable{p:Int}{w n:Nat}{rows:Rows}{O:List Int→Bool}
theorem DW(hO:∀s,O s=true↔Op p w rows s){s t:List Int}(h:Op p w rows s↔Op p w rows t):O s=O t:=by
 rw[Bool.eq_iff_iff,hO,hO];exact h
theorem sZ(hr:rows.length≤5):(jK (own n rows)).length<64:=by
 rw[q5]
 exact Nat.lt_of_le_of_lt (Nat.pow_le_pow_right (by decide) (Nat.le_trans GD hr)) (by decide)
theorem A0(hO:∀s,O s=true↔Op p w rows s)(hr:rows.length≤5)(P:List Int→Bool)(hP:∀s∈subs n,P s=true→qU O n s):((subs n).filter P).length<64:=by
 refine Nat.lt_of_le_of_lt (nT _ (jK (own n rows)) ((dM n).filter _) λs hs=>?_) (sZ (n:=n) hr)
 obtain⟨h1,h2⟩:=List.mem_filter.mp hs
 obtain⟨_,l2,l3⟩:=hP s h1 h2
 obtain⟨s1,s2⟩:=aZ.mp h1
 refine jL _ s nU s1 λx hx=>Classical.byContradiction λno=>?_
 have e:O (less s x)=O s:=DW hO (zx λy hy=>by
  unfold less
  rw[List.mem_filter]
  refine⟨λq=>q.1,λq=>⟨q,decide_eq_true λe=>?_⟩⟩
  subst e
  exact no (uL.mpr ⟨s2 y q,hy⟩))
 rw[l3 x hx,l2] at e
 cases e
theorem A1(hO:∀s,O s=true↔Op p w rows s)(hr:rows.length≤5)(P:List Int→Bool)(hP:∀s∈subs n,P s=true→eg O n s):((subs n).filter P).length<64:=by
 have idle:∀s,eg O n s→∀x,0≤x∧x<(n:Int)→x∉own n rows→x∈s:=λs ⟨_,g2,g3⟩ x h0 no=>Classical.byContradiction λq=>by
  have e:O (more s x)=O s:=DW hO (zx λy hy=>by
   rw[kF]
   refine⟨λz=>z.elim id λe=>?_,.inl⟩
   subst e
   exact absurd (uL.mpr ⟨h0,hy⟩) no)
  rw[g3 x h0 q,g2] at e
  cases e
 refine Nat.lt_of_le_of_lt (zy (λt=>t.filter λx=>decide (x∈own n rows)) _ (jK (own n rows)) ((dM n).filter _) (λs hs t ht e=>?_) λs hs=>?_) (sZ (n:=n) hr)
 ·obtain⟨a1,a2⟩:=List.mem_filter.mp hs
  obtain⟨b1,b2⟩:=List.mem_filter.mp ht
  obtain⟨s1,s2⟩:=aZ.mp a1
  obtain⟨t1,t2⟩:=aZ.mp b1
  refine sY s1 t1 λx=>?_
  by_cases ho:x∈own n rows
  ·have key:∀u:List Int,x∈u↔x∈u.filter λx=>decide (x∈own n rows):=λu=>by
    rw[List.mem_filter];exact⟨λq=>⟨q,decide_eq_true ho⟩,λq=>q.1⟩
   rw[key s,key t]
   exact Iff.of_eq (congrArg (x∈·) e)
  ·exact⟨λq=>idle t (hP t b1 b2) x (s2 x q) ho,λq=>idle s (hP s a1 a2) x (t2 x q) ho⟩
 ·obtain⟨a1,_⟩:=List.mem_filter.mp hs
  exact jL _ _ nU ((aZ.mp a1).1.filter _) λx hx=>of_decide_eq_true (List.mem_filter.mp hx).2
end
theorem o9{p:Int}{w:Nat}{rows:Rows}(H:Tbl p w rows){s tv:List Int}(h1:∀l∈linesAt rows (rowsOf rows s),p ∣ dot l tv)(h2:g tv 0=1):¬ Op p w rows s:=λak=>by
 obtain⟨ms,hl,h⟩:=ak
 have hb:=H.pr.pos
 have hL:=qZ H (is:=rowsOf rows s) sX
 refine DT (p:=p) (w:=w) (ws:=eu w 0) (by omega) (λl hl=>(hL l hl).1) (DN _ _) hl h h1 ?_
 rw[nS w 0 tv H.w0,h2]
 exact⟨0,by omega⟩
theorem word{p:Int}{w:Nat}{rows:Rows}(H:Tbl p w rows)(s:List Int)(y:SV)(μ:af)(h2:rd μ y=some (li s)) :
  (Op p w rows s∧∃ms,fnV 2 fV [.val (tb p w rows),y] μ=.ok (.val (.tup [.str "open",li ms])) μ)∨(¬ Op p w rows s∧∃tv,fnV 2 fV [.val (tb p w rows),y] μ=.ok (.val (.tup [.str "shut",tu tv])) μ):=by
 rcases F.JS H s y μ h2 with ⟨tv,e,_,h3,h4⟩|⟨ms,e,h2,h3⟩
 ·exact .inr ⟨o9 H h3 h4,tv,e⟩
 ·exact .inl ⟨⟨ms,h2.1,h3⟩,ms,e⟩
theorem wo(F:Int×List Int→Int):∀(fl:List (Int×List Int)),(∀q∈fl,F q=0)→(fl.map F).sum=0
 | [],_=>rfl
 | q::fl,h=>by rw[List.map_cons,List.sum_cons,h q (.head _),wo F fl λr hr=>h r (.tail _ hr)];rfl
theorem mW(F:Int×List Int→Int){a:Int}{la:List Int}:∀(fl:List (Int×List Int)),(fl.map (·.1)).Nodup→(a,la)∈fl→(∀q∈fl,q.1≠a→F q=0)→(fl.map F).sum=F (a,la)
 | [],_,h,_=>(nomatch h)
 | q::fl,hd,hm,h=>by
  rw[List.map_cons] at hd
  obtain⟨d1,d2⟩:=List.pairwise_cons.mp hd
  rw[List.map_cons,List.sum_cons]
  rcases List.mem_cons.mp hm with e|hm
  ·subst e
   rw[wo F fl λr hr=>h r (.tail _ hr) λe=>d1 r.1 (List.mem_map.mpr ⟨r,hr,rfl⟩) e.symm]
   exact Int.add_zero _
  ·have hq:q.1≠a:=d1 a (List.mem_map.mpr ⟨_,hm,rfl⟩)
   rw[h q (.head _) hq,mW F fl d2 hm λr hr=>h r (.tail _ hr)]
   exact Int.zero_add _
theorem wq(F G:Int×List Int→Int):∀(fl:List (Int×List Int)),(fl.map λq=>F q+G q).sum=(fl.map F).sum+(fl.map G).sum
 | []=>rfl
 | q::fl=>by rw[List.map_cons,List.sum_cons,wq F G fl,List.map_cons,List.sum_cons,List.map_cons,List.sum_cons];omega
theorem o_(c:Int→Int)(j:Nat):∀(fl:List (Int×List Int)),dot (fl.map λq=>c q.1) (col (fl.map (·.2)) j)=(fl.map λq=>c q.1*g q.2 j).sum
 | []=>by simp[dot,col]
 | q::fl=>by
  have ih:=o_ c j fl
  unfold col at ih ⊢
  simp only[List.map_cons,dot,ih,List.sum_cons]
theorem DX{p:Int}{rows:Rows}(hd:(rows.map (·.1)).Nodup){s:List Int}{a b xa xb i:Int}(ha:a∈s)(hb:b∈s)(hab:a≠b)(ra:(a,[1,xa])∈rows)(rb:(b,[1,xb])∈rows)(hi:p ∣ i*(xa-xb)-1):Op p 2 rows s:=by
 unfold Op Mul
 rw[bq]
 have hd':((rows.filter λq=>decide (q.1∈s)).map (·.1)).Nodup:=List.Sublist.nodup (List.Sublist.map _ List.filter_sublist) hd
 have ma:(a,[1,xa])∈rows.filter λq=>decide (q.1∈s):=List.mem_filter.mpr ⟨ra,decide_eq_true ha⟩
 have mb:(b,[1,xb])∈rows.filter λq=>decide (q.1∈s):=List.mem_filter.mpr ⟨rb,decide_eq_true hb⟩
 generalize rows.filter (λq=>decide (q.1∈s))=fl at hd' ma mb
 refine⟨fl.map λq=>(if q.1=a then -xb*i else 0)+(if q.1=b then xa*i else 0),by rw[List.length_map,List.length_map],λj hj=>?_⟩
 rw[o_ (λx=>(if x=a then -xb*i else 0)+(if x=b then xa*i else 0)) j fl]
 have e:(fl.map λq=>((if q.1=a then -xb*i else 0)+(if q.1=b then xa*i else 0))*g q.2 j).sum=-xb*i*g [1,xa] j+xa*i*g [1,xb] j:=by
  have e1:=wq (λq=>(if q.1=a then -xb*i else 0)*g q.2 j) (λq=>(if q.1=b then xa*i else 0)*g q.2 j) fl
  have e2:=mW (λq=>(if q.1=a then -xb*i else 0)*g q.2 j) fl hd' ma λq _ hq=>by rw[if_neg hq,Int.zero_mul]
  have e3:=mW (λq=>(if q.1=b then xa*i else 0)*g q.2 j) fl hd' mb λq _ hq=>by rw[if_neg hq,Int.zero_mul]
  simp only[if_true] at e2 e3
  rw[← e2,← e3,← e1]
  congr 1
  exact List.map_congr_left λq _=>Int.add_mul _ _ _
 rw[e]
 obtain⟨k,hk⟩:=hi
 match j,hj with
 | 0,_=>exact⟨k,by show -xb*i*1+xa*i*1-g (eu 2 0) 0=p*k;rw[show g (eu 2 0) 0=1 from rfl];grind⟩
 | 1,_=>exact⟨0,by show -xb*i*xa+xa*i*xb-g (eu 2 0) 1=p*0;rw[show g (eu 2 0) 1=0 from rfl];grind⟩
theorem DY{p:Int}(hP:fo p){x:Int}(h:x%p≠0):∃i,p ∣ i*x-1:=by
 obtain⟨y,_,_,_,e⟩:=uJ hP 1 x [] h
 exact⟨y,Int.dvd_of_emod_eq_zero e⟩
section
variable{p:Int}{n:Nat}{rows:Rows}{X:Int→Int}
structure Pw(p:Int)(n:Nat)(rows:Rows)(X:Int→Int):Prop where
 tbl:Tbl p 2 rows
 nd:(rows.map (·.1)).Nodup
 row:∀q∈rows,q.2=[1,X q.1]
 all:∀h:Int,0≤h∧h<(n:Int)→(h,[1,X h])∈rows
 bd:∀h,0≤X h∧X h<p
theorem DZ(W:Pw p n rows X){s:List Int}{a:Int}(ha:a∈s)(h0:0≤a∧a<(n:Int))(hx:X a=0):Op p 2 rows s:=by
 unfold Op Mul
 rw[bq]
 have hd':((rows.filter λq=>decide (q.1∈s)).map (·.1)).Nodup:=List.Sublist.nodup (List.Sublist.map _ List.filter_sublist) W.nd
 have ma:(a,[1,X a])∈rows.filter λq=>decide (q.1∈s):=List.mem_filter.mpr ⟨W.all a h0,decide_eq_true ha⟩
 generalize rows.filter (λq=>decide (q.1∈s))=fl at hd' ma
 refine⟨fl.map λq=>if q.1=a then 1 else 0,by rw[List.length_map,List.length_map],λj hj=>?_⟩
 rw[o_ (λx=>if x=a then 1 else 0) j fl]
 have e2:=mW (λq=>(if q.1=a then 1 else 0)*g q.2 j) fl hd' ma λq _ hq=>by rw[if_neg hq,Int.zero_mul]
 simp only[if_true] at e2
 rw[e2,hx]
 match j,hj with
 | 0,_=>exact⟨0,by rw[show g (eu 2 0) 0=1 from rfl,show g [1,0] 0=1 from rfl];omega⟩
 | 1,_=>exact⟨0,by rw[show g (eu 2 0) 1=0 from rfl,show g [1,0] 1=0 from rfl];omega⟩
theorem s_(W:Pw p n rows X){s:List Int}(hs:∀x∈s,0≤x∧x<(n:Int)):Op p 2 rows s↔(∃a∈s,∃b∈s,X a≠X b)∨∃a∈s,X a=0:=by
 have hb:=W.tbl.pr.pos
 constructor
 ·intro ho
  refine Classical.byContradiction λno=>?_
  have n1:∀a∈s,∀b∈s,X a=X b:=λa ha b hb=>Classical.byContradiction λq=>no (.inl ⟨a,ha,b,hb,q⟩)
  have n2:∀a∈s,X a≠0:=λa ha q=>no (.inr ⟨a,ha,q⟩)
  have lines:∀l∈linesAt rows (rowsOf rows s),∃a∈s,l=[1,X a]:=λl hl=>by
   rw[bq] at hl
   obtain⟨q,hq,rfl⟩:=List.mem_map.mp hl
   obtain⟨q1,q2⟩:=List.mem_filter.mp hq
   exact⟨q.1,of_decide_eq_true q2,W.row q q1⟩
  cases s with
  | nil=>exact o9 W.tbl (tv:=[1,0]) (λl hl=>by obtain⟨a,ha,_⟩:=lines l hl;cases ha) rfl ho
  | cons c s =>
   have hc:=W.bd c
   have hx:X c%p≠0:=by rw[Int.emod_eq_of_lt hc.1 hc.2];exact n2 c (.head _)
   obtain⟨i,k,hk⟩:=DY W.tbl.pr hx
   refine o9 W.tbl (tv:=[1,-i]) (λl hl=>?_) rfl ho
   obtain⟨a,ha,rfl⟩:=lines l hl
   rw[n1 a ha c (.head _)]
   refine⟨-k,?_⟩
   show 1*1+(X c*-i+0)=p*-k
   grind
 ·rintro (⟨a,ha,b,hb',hab⟩|⟨a,ha,hx⟩)
  ·have ba:=W.bd a
   have bb:=W.bd b
   have hne:a≠b:=λe=>hab (by rw[e])
   have hm:(X a-X b)%p≠0:=λe=>by
    obtain⟨k,hk⟩:=Int.dvd_of_emod_eq_zero e
    have:k=0:=by
     rcases Int.lt_trichotomy k 0 with q|q|q
     ·have:p*k≤p*(-1):=Int.mul_le_mul_of_nonneg_left (by omega) (by omega)
      omega
     ·exact q
     ·have:p*1≤p*k:=Int.mul_le_mul_of_nonneg_left (by omega) (by omega)
      omega
    subst this
    omega
   obtain⟨i,hi⟩:=DY W.tbl.pr hm
   exact DX W.nd ha hb' hne (W.all a (hs a ha)) (W.all b (hs b hb')) hi
  ·exact DZ W ha (hs a ha) hx
end
theorem D2{s m:List Int}(hd:s.Nodup)(h:m.length<s.length):∃c,c∈s∧c∉m:=by
 refine Classical.byContradiction λno=>?_
 have:=nT s m hd λx hx=>Classical.byContradiction λq=>no ⟨x,hx,q⟩
 omega
theorem i_{s:List Int}{c x:Int}:x∈less s c↔x∈s∧x≠c:=by
 unfold less
 rw[List.mem_filter]
 exact⟨λq=>⟨q.1,of_decide_eq_true q.2⟩,λq=>⟨q.1,decide_eq_true q.2⟩⟩
theorem uM{n:Nat}(hn:n≤8)(P:List Int→Bool)(h:∀s∈subs n,P s=true→s.length≤2):((subs n).filter P).length<64:=by
 have hc:((subs 8).filter λs=>decide (s.length≤2)).length<64:=by decide +kernel
 refine Nat.lt_of_le_of_lt (nT _ ((subs 8).filter λs=>decide (s.length≤2)) ((dM n).filter _) λs hs=>?_) hc
 obtain⟨h1,h2⟩:=List.mem_filter.mp hs
 obtain⟨s1,s2⟩:=aZ.mp h1
 exact List.mem_filter.mpr ⟨aZ.mpr ⟨s1,λx hx=>⟨(s2 x hx).1,by have:=(s2 x hx).2;omega⟩⟩,decide_eq_true (h s h1 h2)⟩
section
variable{p:Int}{n:Nat}{rows:Rows}{X:Int→Int}{O:List Int→Bool}
theorem A2(W:Pw p n rows X)(hO:∀s,O s=true↔Op p 2 rows s){s:List Int}(L:qU O n s):s.length≤2:=by
 obtain⟨l1,l2,l3⟩:=L
 obtain⟨s1,s2⟩:=aZ.mp l1
 have hd:s.Nodup:=s1.imp λq=>by omega
 refine Classical.byContradiction λno=>?_
 have bad:∀c∈s,Op p 2 rows (less s c)→False:=λc hc o=>by
  have:=(hO _).mpr o
  rw[l3 c hc] at this
  cases this
 have bl:∀c,∀x∈less s c,0≤x∧x<(n:Int):=λc x hx=>s2 x (i_.mp hx).1
 rcases (s_ W s2).mp ((hO s).mp l2) with ⟨a,ha,b,hb,hab⟩|⟨a,ha,hx⟩
 ·obtain⟨c,hc,hn⟩:=D2 (m:=[a,b]) hd (by simp;omega)
  have ca:a≠c:=λe=>hn (by rw[e];exact .head _)
  have cb:b≠c:=λe=>hn (by rw[e];exact .tail _ (.head _))
  exact bad c hc ((s_ W (bl c)).mpr (.inl ⟨a,i_.mpr ⟨ha,ca⟩,b,i_.mpr ⟨hb,cb⟩,hab⟩))
 ·obtain⟨c,hc,hn⟩:=D2 (m:=[a]) hd (by simp;omega)
  have ca:a≠c:=λe=>hn (by rw[e];exact .head _)
  exact bad c hc ((s_ W (bl c)).mpr (.inr ⟨a,i_.mpr ⟨ha,ca⟩,hx⟩))
theorem A3(W:Pw p n rows X)(hn:n≤8)(hO:∀s,O s=true↔Op p 2 rows s)(P:List Int→Bool)(hP:∀s∈subs n,P s=true→eg O n s):((subs n).filter P).length<64:=by
 have ya:∀s,eg O n s→(∀a∈s,∀b∈s,X a=X b)∧∀a∈s,X a≠0:=λs ak=>by
  obtain⟨g1,g2,_⟩:=ak
  have s2:=(aZ.mp g1).2
  have no:¬ Op p 2 rows s:=λo=>by have:=(hO s).mpr o;rw[g2] at this;cases this
  exact⟨λa ha b hb=>Classical.byContradiction λq=>no ((s_ W s2).mpr (.inl ⟨a,ha,b,hb,q⟩)),λa ha q=>no ((s_ W s2).mpr (.inr ⟨a,ha,q⟩))⟩
 have sub:∀s t,eg O n s→eg O n t→∀a,a∈s→a∈t→∀x∈s,x∈t:=λs t gs gt a as at_ x hx=>Classical.byContradiction λno=>by
  have s2:=(aZ.mp gs.1).2
  have t2:=(aZ.mp gt.1).2
  have o:=(hO _).mp (gt.2.2 x (s2 x hx) no)
  obtain⟨q1,q2⟩:=ya s gs
  obtain⟨r1,r2⟩:=ya t gt
  have all:∀y∈more t x,X y=X a:=λy hy=>by
   rcases kF.mp hy with h|rfl
   ·exact r1 y h a at_
   ·exact q1 y hx a as
  rcases (s_ W λy hy=>by
   rcases kF.mp hy with h|rfl
   ·exact t2 y h
   ·exact s2 y hx).mp o with ⟨c,hc,d,hd,h⟩|⟨c,hc,h⟩
  ·exact h ((all c hc).trans (all d hd).symm)
  ·rw[all c hc] at h;exact q2 a as h
 have hl:(none::(List.range n).map λ(i:Nat)=>some (i:Int)).length<64:=by rw[List.length_cons,List.length_map,List.length_range];omega
 refine Nat.lt_of_le_of_lt (zy (λt:List Int=>t.head?) _ (none::(List.range n).map λ(i:Nat)=>some (i:Int)) ((dM n).filter _) (λs hs t ht e=>?_) λs hs=>?_) hl
 ·obtain⟨a1,a2⟩:=List.mem_filter.mp hs
  obtain⟨b1,b2⟩:=List.mem_filter.mp ht
  have gs:=hP s a1 a2
  have gt:=hP t b1 b2
  cases s with
  | nil=>cases t with
   | nil=>rfl
   | cons b t=>cases e
  | cons a s=>cases t with
   | nil=>cases e
   | cons b t =>
    have e:a=b:=Option.some.inj e
    subst e
    exact sY (aZ.mp a1).1 (aZ.mp b1).1 λx=>⟨sub _ _ gs gt a (.head _) (.head _) x,sub _ _ gt gs a (.head _) (.head _) x⟩
 ·obtain⟨a1,_⟩:=List.mem_filter.mp hs
  cases s with
  | nil=>exact .head _
  | cons a s =>
   have:=(aZ.mp a1).2 a (.head _)
   exact .tail _ (List.mem_map.mpr ⟨a.toNat,List.mem_range.mpr (by omega),by show some ((a.toNat:Nat):Int)=some a;congr 1;omega⟩)
end
section
variable{p:Int}{n:Nat}{rows:Rows}{O:List Int→Bool}
structure Pw1(p:Int)(n:Nat)(rows:Rows):Prop where
 tbl:Tbl p 1 rows
 nd:(rows.map (·.1)).Nodup
 all:∀h:Int,0≤h∧h<(n:Int)→(h,[1])∈rows
theorem D3(W:Pw1 p n rows){s:List Int}(hs:∀x∈s,0≤x∧x<(n:Int)):Op p 1 rows s↔s≠[]:=by
 constructor
 ·rintro ho rfl
  refine o9 W.tbl (tv:=[1]) (λl hl=>?_) rfl ho
  rw[bq] at hl
  obtain⟨q,hq,_⟩:=List.mem_map.mp hl
  exact absurd (of_decide_eq_true (List.mem_filter.mp hq).2) List.not_mem_nil
 ·intro hne
  obtain⟨a,ha⟩:=List.exists_mem_of_ne_nil s hne
  unfold Op Mul
  rw[bq]
  have hd':((rows.filter λq=>decide (q.1∈s)).map (·.1)).Nodup:=List.Sublist.nodup (List.Sublist.map _ List.filter_sublist) W.nd
  have ma:(a,[1])∈rows.filter λq=>decide (q.1∈s):=List.mem_filter.mpr ⟨W.all a (hs a ha),decide_eq_true ha⟩
  generalize rows.filter (λq=>decide (q.1∈s))=fl at hd' ma
  refine⟨fl.map λq=>if q.1=a then 1 else 0,by rw[List.length_map,List.length_map],λj hj=>?_⟩
  rw[o_ (λx=>if x=a then 1 else 0) j fl]
  have e2:=mW (λq=>(if q.1=a then 1 else 0)*g q.2 j) fl hd' ma λq _ hq=>by rw[if_neg hq,Int.zero_mul]
  simp only[if_true] at e2
  rw[e2]
  match j,hj with
  | 0,_=>exact⟨0,by rw[show g (eu 1 0) 0=1 from rfl,show g [1] 0=1 from rfl];omega⟩
theorem A4(W:Pw1 p n rows)(hO:∀s,O s=true↔Op p 1 rows s){s:List Int}(L:qU O n s):s.length≤2:=by
 obtain⟨l1,l2,l3⟩:=L
 obtain⟨s1,s2⟩:=aZ.mp l1
 have hd:s.Nodup:=s1.imp λq=>by omega
 refine Classical.byContradiction λno=>?_
 have hne:s≠[]:=λe=>by rw[e] at no;exact no (by simp)
 obtain⟨a,ha⟩:=List.exists_mem_of_ne_nil s hne
 obtain⟨c,hc,hn⟩:=D2 (m:=[a]) hd (by simp;omega)
 have ca:a≠c:=λe=>hn (by rw[e];exact .head _)
 have o:Op p 1 rows (less s c):=(D3 W λx hx=>s2 x (i_.mp hx).1).mpr λe=>by
  have:=i_.mpr ⟨ha,ca⟩
  rw[e] at this
  cases this
 have:=(hO _).mpr o
 rw[l3 c hc] at this
 cases this
theorem A5(W:Pw1 p n rows)(hO:∀s,O s=true↔Op p 1 rows s){s:List Int}(G:eg O n s):s.length≤2:=by
 obtain⟨g1,g2,_⟩:=G
 cases s with
 | nil=>exact Nat.zero_le _
 | cons a s =>
  have:=(hO _).mpr ((D3 W (aZ.mp g1).2).mpr (List.cons_ne_nil a s))
  rw[g2] at this
  cases this
end
end Fw.Sets
namespace Fw.k33
open PySem Fw Fw.H Fw.E Fw.F Fw.Sets
theorem fQ{n:Nat}(h:n≤8):(subs n).length≤256:=by
 rw[qR];exact Nat.le_trans (Nat.pow_le_pow_right (by decide) h) (by decide)
def q_:DS:=(az 1 (ah bg (aa 1) (aJ (bo (aa 1)) [none,some 2] (ao 0) (dC (.bl true)) (ah bg (aa 0) (eW [(aa 1)])))))
theorem yc{i:Nat}(hi:i<8)(x0:Option SV)(μ:af):q_ [x0,some (.val (.lst ((subs i).map tu))),some (.val (.int (i:Int)))] μ=.nx [x0,some (.val (.lst ((subs (i+1)).map tu))),some (.val (.int (i:Int)))] μ:=by
 have hs:=fQ (n:=i) (by omega)
 have ec:bY (λ_=>True) (ao 0) (dC (.bl true)) (ah bg (aa 0) (eW [(aa 1)])) [none,some (.val (.int (i:Int)))] ((subs i).map tu) μ=.ok ((subs i).map λs=>tu (s++[(i:Int)])) μ:=by
  rw[gG tu (λs=>tu (s++[(i:Int)])) trivial]
  intro s hm
  have hl:=sub_len hm
  have fa:bg (tu s) (.tup [.int (i:Int)])=some (tu (s++[(i:Int)])):=by
   unfold tu
   rw[vb _ _ (by simp[szL];omega),List.map_append];rfl
  refine⟨_,rfl,?_⟩
  simp?! only[fa]
 have ls:((subs i).map tu).length≤szL:=by rw[List.length_map];unfold szL;omega
 have fa:bg (.lst ((subs i).map tu)) (.lst ((subs i).map λs=>tu (s++[(i:Int)])))=some (.lst ((subs (i+1)).map tu)):=by
  rw[iO _ _ (by rw[List.length_map,List.length_map];unfold szL;omega)]
  rw[show subs (i+1)=subs i++(subs i).map λs=>s++[(i:Int)] from rfl,List.map_append,List.map_map]
  rfl
 unfold q_
 simp?! only[ec,ls,fa]
theorem D4{n:Nat}(hn:n≤8)(μ:af):cq [.val (.int n)] μ=.ok (.val (.lst ((subs n).map tu))) μ:=by
 have rw_:eE (n:Int)=true:=d7 (by omega) (by omega)
 obtain⟨e',M',hf,x2,rfl,rfl⟩:=d0 (same:=λ_=>True) (b:=ao 2) (ts:=bK 0 (n:Int).toNat) (body:=q_)
  (I:=λi e M=>∃x2,e=[some (.val (.int n)),some (.val (.lst ((subs i).map tu))),x2]∧μ=M)
  (λ_ _ _ _=>trivial) (λj t e M ht ak=>by
   obtain⟨x2,he,hM⟩:=ak
   subst he hM
   obtain⟨k,rfl,hj,hk⟩:=kL ht
   have hj:j<n:=by simpa using hj
   have ek:k=(j:Int):=by omega
   subst ek
   exact⟨_,_,_,rfl,yc (by omega) _ μ,some (.val (.int (j:Int))),rfl,rfl⟩)
  (e:=[some (.val (.int n)),some (.val (.lst ((subs 0).map tu))),none]) (μ:=μ) ⟨none,rfl,rfl⟩
 rw[cC] at hf
 rw[Int.toNat_natCast] at hf
 unfold cq
 rw[fM,rG,nF]
 unfold iF
 simp?! only[]
 rw[nG,show iG=bF (aI (aa 0)) (ao 2) q_ from rfl]
 have hf:forL (λ_=>True) (ao 2) q_ (bK 0 n) [some (.val (.int n)),some (.val (.lst [.tup []])),none] μ=.nx [some (.val (.int n)),some (.val (.lst ((subs n).map tu))),x2] μ:=hf
 simp?! only[rw_,Int.toNat_natCast,hf]
 rw[nH]
 unfold iH
 simp?! only[]
def D5:DS:=(az 1 (ah bg (aa 1) (aJ (bo (aa 1)) [none,some 2] (ao 0) (dC (.bl true)) (ah bg (aa 0) (bC [(aa 1)])))))
theorem yd{i:Nat}(hi:i<8)(x0:Option SV)(μ:af):D5 [x0,some (.val (.lst ((subs i).map li))),some (.val (.int (i:Int)))] μ=.nx [x0,some (.val (.lst ((subs (i+1)).map li))),some (.val (.int (i:Int)))] μ:=by
 have hs:=fQ (n:=i) (by omega)
 have ec:bY (λ_=>True) (ao 0) (dC (.bl true)) (ah bg (aa 0) (bC [(aa 1)])) [none,some (.val (.int (i:Int)))] ((subs i).map li) μ=.ok ((subs i).map λs=>li (s++[(i:Int)])) μ:=by
  rw[gG li (λs=>li (s++[(i:Int)])) trivial]
  intro s hm
  have hl:=sub_len hm
  have fa:bg (li s) (.lst [.int (i:Int)])=some (li (s++[(i:Int)])):=by
   unfold li
   rw[iO _ _ (by simp[szL];omega),List.map_append];rfl
  refine⟨_,rfl,?_⟩
  simp?! only[fa]
 have ls:((subs i).map li).length≤szL:=by rw[List.length_map];unfold szL;omega
 have fa:bg (.lst ((subs i).map li)) (.lst ((subs i).map λs=>li (s++[(i:Int)])))=some (.lst ((subs (i+1)).map li)):=by
  rw[iO _ _ (by rw[List.length_map,List.length_map];unfold szL;omega)]
  rw[show subs (i+1)=subs i++(subs i).map λs=>s++[(i:Int)] from rfl,List.map_append,List.map_map]
  rfl
 unfold D5
 simp?! only[ec,ls,fa]
theorem D6{n:Nat}(hn:n≤8)(μ:af):eo [.val (.int n)] μ=.ok (.val (.lst ((subs n).map li))) μ:=by
 have rw_:eE (n:Int)=true:=d7 (by omega) (by omega)
 obtain⟨e',M',hf,x2,rfl,rfl⟩:=d0 (same:=λ_=>True) (b:=ao 2) (ts:=bK 0 (n:Int).toNat) (body:=D5)
  (I:=λi e M=>∃x2,e=[some (.val (.int n)),some (.val (.lst ((subs i).map li))),x2]∧μ=M)
  (λ_ _ _ _=>trivial) (λj t e M ht ak=>by
   obtain⟨x2,he,hM⟩:=ak
   subst he hM
   obtain⟨k,rfl,hj,hk⟩:=kL ht
   have hj:j<n:=by simpa using hj
   have ek:k=(j:Int):=by omega
   subst ek
   exact⟨_,_,_,rfl,yd (by omega) _ μ,some (.val (.int (j:Int))),rfl,rfl⟩)
  (e:=[some (.val (.int n)),some (.val (.lst ((subs 0).map li))),none]) (μ:=μ) ⟨none,rfl,rfl⟩
 rw[cC] at hf
 rw[Int.toNat_natCast] at hf
 unfold eo
 rw[fM,AA,ur]
 unfold nI
 simp?! only[]
 rw[uu,show nJ=bF (aI (aa 0)) (ao 2) D5 from rfl]
 have hf:forL (λ_=>True) (ao 2) D5 (bK 0 n) [some (.val (.int n)),some (.val (.lst [.lst []])),none] μ=.nx [some (.val (.int n)),some (.val (.lst ((subs n).map li))),x2] μ:=hf
 simp?! only[rw_,Int.toNat_natCast,hf]
 rw[uv]
 unfold nK
 simp?! only[]
theorem ye(s:List Int)(h:Int)(hl:s.length≤1000)(μ:af):fP [.val (tu s),.val (.int h)] μ=.ok (.val (tu (less s h))) μ:=by
 have ec:bY (λ_=>True) (ao 0) (ah fNe (aa 0) (aa 1)) (aa 0) [none,some (.val (.int h))] (s.map T.int) μ=.ok ((less s h).map T.int) μ:=by
  rw[d8 (λx=>decide (x≠h)) T.int trivial s]
  ·rfl
  ·intro k _
   refine⟨_,rfl,?_,λ_=>rfl⟩
   simp?! only[]
   congr 3
   rw[Bool.eq_iff_iff]
   simp
 have ls:(s.map T.int).length≤szL:=by rw[List.length_map];unfold szL;omega
 unfold fP sS
 simp?! only[ec,ls,gK]
theorem yf(l:List Int)(h:l.length<64):qd (tu l)=some (li (jP l)):=by
 unfold tu li
 show ((dD (l.map T.int)).bind λns=>if ns.length<64 then some (T.lst ((jP ns).map T.int)) else none)=_
 rw[jc]
 show (if l.length<64 then _ else none)=_
 rw[if_pos h]
theorem GF(s:List Int)(h:Int)(hl:s.length<60)(μ:af):cD [.val (tu s),.val (.int h)] μ=.ok (.val (tu (more s h))) μ:=by
 have fa:bg (tu s) (.tup [.int h])=some (tu (s++[h])):=by
  unfold tu
  rw[vb _ _ (by simp[szL];omega),List.map_append];rfl
 have e:=yf (s++[h]) (by rw[List.length_append];simp;omega)
 unfold cD jO
 simp?! only[fa,e,gK]
 rfl
theorem D7{p:Int}{w:Nat}{rows:Rows}(hn:rows.length≤24)(bU:List Int)(μ:af) :
  F.cE [.val (tb p w rows),.val (tu bU)] μ=.ok (.val (li (nums (rowsOf rows bU)))) μ:=by
 have fi:∀x:Int,fIn (.int x) (.tup (bU.map T.int))=some (.bl (decide (x∈bU))):=λx=>by
  unfold fIn
  simp only[je,fR,Bool.and_true,mC]
  rfl
 unfold F.cE lW tb tu
 simp! only[]
 rw[enum_rows,fv (λ(i:Nat)=>.tup [.int (i:Int),rt (i9 rows i)]) (λi=>decide ((i9 rows i).1∈bU)) (λ(i:Nat)=>.int (i:Int)) (by simp)]
 ·rw[R.dB,R.aT,if_pos (by simp[szL];lia)]
  simp! only[]
  rw[x_]
  rfl
 ·intro i hi
  refine⟨_,gF 0 1 _ _ _,?_,λ_=>?_⟩
  ·simp! only[rt,fi]
  ·simp! only[]
theorem D8{p:Int}{w:Nat}{rows:Rows}(H:Tbl p w rows)(s:List Int)(μ:af):dq [.val (tb p w rows),.val (tu s)] μ=dq [.val (tb p w rows),.val (li s)] μ:=by
 have e1:cE [.val (tb p w rows),.val (tu s)] μ=.ok (.val (li (nums (rowsOf rows s)))) μ:=D7 H.n s μ
 have e2:cE [.val (tb p w rows),.val (li s)] μ=.ok (.val (li (nums (rowsOf rows s)))) μ:=F.sW H.n s (.val (li s)) μ rfl
 unfold dq fV
 simp?! only[e1,e2]
 generalize cf [.val (tb p w rows),.val (li (nums (rowsOf rows s)))] μ=r
 cases r<;>rfl
theorem JT:(("open":Str)=="open")=true:=by decide +kernel
theorem Mw:(("shut":Str)=="open")=false:=by decide +kernel
open Classical in
def ow(p:Int)(w:Nat)(rows:Rows)(s:List Int):Bool:=decide (Op p w rows s)
theorem iN{p:Int}{w:Nat}{rows:Rows}(s:List Int):ow p w rows s=true↔Op p w rows s:=by unfold ow;exact @decide_eq_true_iff _ (Classical.propDecidable _)
theorem uN{p:Int}{w:Nat}{rows:Rows}(H:Tbl p w rows)(s:List Int)(μ:af):∃a t,dq [.val (tb p w rows),.val (li s)] μ=.ok (.val (.tup [.str a,t])) μ∧(a=="open")=ow p w rows s:=by
 have h:(Op p w rows s∧∃ms,dq [.val (tb p w rows),.val (li s)] μ=.ok (.val (.tup [.str "open",li ms])) μ)∨(¬ Op p w rows s∧∃tv,dq [.val (tb p w rows),.val (li s)] μ=.ok (.val (.tup [.str "shut",tu tv])) μ):=word H s (.val (li s)) μ rfl
 rcases h with ⟨h1,ms,h2⟩|⟨h1,tv,h2⟩
 ·exact⟨_,_,h2,by rw[JT];exact ((iN s).mpr h1).symm⟩
 ·refine⟨_,_,h2,?_⟩
  rw[Mw]
  cases e:ow p w rows s with
  | true=>exact absurd ((iN s).mp e) h1
  | false=>rfl
theorem yg{p:Int}{w:Nat}{rows:Rows}(H:Tbl p w rows)(s:List Int)(μ:af):bt [.val (tb p w rows),.val (tu s)] μ=.ok (.val (.bl (ow p w rows s))) μ:=by
 obtain⟨a,t,h1,h2⟩:=uN H s μ
 rw[← D8 H s μ] at h1
 unfold bt kc
 simp?! only[h1,h2]
theorem yh{p:Int}{w:Nat}{rows:Rows}(H:Tbl p w rows)(s:List Int)(μ:af):bt [.val (tb p w rows),.val (li s)] μ=.ok (.val (.bl (ow p w rows s))) μ:=by
 obtain⟨a,t,h1,h2⟩:=uN H s μ
 unfold bt kc
 simp?! only[h1,h2]
theorem o4(ns:List Int)(k:Int)(μ:af)(h0:0≤k)(h1:k≤1000):∃c,cP [.val (.lst (ns.map T.int)),.val (.int k)] μ=.ok (.val (.int c)) μ:=H.o4 ns k μ h0 h1
theorem IY(c:Int)(μ:af):∃p,iW [.val (.int c)] μ=.ok (.val (.int p)) μ∧fo p:=H.IY c μ
theorem GH(c m:Int)(n:Nat)(μ:af)(hm:0<m)(hm2:m<1000000)(hn2:n≤1000):∃r,fg [.val (.int c),.val (.int m),.val (.int n)] μ=.ok (.cel μ.length) (μ++[(true,li r)])∧Rw m n r:=F.GB c m n μ hm hm2 hn2
def pwl(p x:Int):Nat→List Int
 | 0=>[1]
 | n+1=>pwl p x n++[g (pwl p x n) n*x%p]
theorem yi{p:Int}(hp:1<p)(x:Int):∀n,Rw p (n+1) (pwl p x n)
 | 0=>⟨rfl,by simp[pwl],by simp[pwl];omega⟩
 | n+1=>by
  have h:=yi hp x n
  refine⟨by simp[pwl,h.1],?_,?_⟩<;>intro a ha<;>simp only[pwl,List.mem_append,List.mem_singleton] at ha
  ·rcases ha with ha|rfl
   ·exact h.2 a ha
   ·exact Int.emod_nonneg _ (by omega)
  ·rcases ha with ha|rfl
   ·exact h.3 a ha
   ·exact Int.emod_lt_of_pos _ (by omega)
def GI:DS:=(aW (aa 3) (ah aY (ah bX (aU (aa 3) (aa 4)) (aa 2)) (aa 0)))
theorem A6{p:Int}(hp:1<p)(hp2:p≤97)(w:Nat)(hw:w≤10)(x:Int)(μ:af):cG [.val (.int p),.val (.int ((w+1:Nat):Int)),.val (.int x)] μ=.ok (.val (li (pwl p x w))) μ:=by
 have rw_:eE (w:Int)=true:=d7 (by omega) (by omega)
 obtain⟨e',M',hf,x4,rfl,rfl⟩:=d0 (same:=λ_=>True) (b:=ao 4) (ts:=bK 0 (w:Int).toNat) (body:=GI)
  (I:=λi e M=>∃x4,e=[some (.val (.int p)),some (.val (.int ((w+1:Nat):Int))),some (.val (.int x)),some (.cel μ.length),x4]∧M=μ++[(true,li (pwl p x i))])
  (λ_ _ _ _=>trivial) (λj t e M ht ak=>by
   obtain⟨x4,he,hM⟩:=ak
   subst he hM
   obtain⟨k,rfl,hj,hk⟩:=kL ht
   have hj:j<w:=by simpa using hj
   have ek:k=(j:Int):=by omega
   subst ek
   have R:=yi hp x j
   have hi:m_ (μ++[(true,li (pwl p x j))]) (.cel μ.length) (.int (j:Int))=some (.val (.int (g (pwl p x j) j))):=by
    have:=(JQ (μ:=μ++[(true,li (pwl p x j))]) (k:=μ.length) (xs:=pwl p x j) (by simp)).at_ (j:Int) (by omega) (by rw[R.1];omega)
    simpa using this
   have hg0:0≤g (pwl p x j) j∧g (pwl p x j) j<p:=by
    have hl:j<(pwl p x j).length:=by rw[R.1];omega
    have e:g (pwl p x j) j=(pwl p x j)[j]:=by simp[g,hl]
    rw[e]
    exact⟨R.2 _ (List.getElem_mem hl),R.3 _ (List.getElem_mem hl)⟩
   have fm:bX (.int (g (pwl p x j) j)) (.int x)=some (.int (g (pwl p x j) j*x)):=kH _ _ (by omega) (by omega)
   have fmo:∀a,aY (.int a) (.int p)=some (.int (a%p)):=λa=>mi _ _ (by omega)
   have ap:appendAt (.cel μ.length) (.int (g (pwl p x j) j*x%p)) (μ++[(true,li (pwl p x j))])=some (μ++[(true,li (pwl p x (j+1)))]):=by
    unfold li
    rw[eY _ _ _ _ (by rw[List.length_map,R.1];unfold szL;omega)]
    simp[pwl]
   have hls:mq (.cel μ.length) (μ++[(true,li (pwl p x j))])=some ():=j8 _ _ _ _
   refine⟨_,_,μ++[(true,li (pwl p x (j+1)))],rfl,?_,some (.val (.int (j:Int))),rfl,rfl⟩
   unfold GI
   simp?! only[hi,fm,fmo,ap,hls])
  (e:=[some (.val (.int p)),some (.val (.int ((w+1:Nat):Int))),some (.val (.int x)),some (.cel μ.length),none]) (μ:=μ++[(true,li [1])]) ⟨none,rfl,rfl⟩
 rw[cC,Int.toNat_natCast] at hf
 have e1:((w+1:Nat):Int)-1=(w:Int):=by omega
 unfold cG
 rw[fM,vM,qg]
 unfold ke
 simp?! only[]
 rw[qh,show kg=bF (aI (ah vd (aa 1) (dC (.int 1)))) (ao 4) GI from rfl]
 have hf:forL (λ_=>True) (ao 4) GI (bK 0 w) [some (.val (.int p)),some (.val (.int ((w+1:Nat):Int))),some (.val (.int x)),some (.cel μ.length),none] (μ++[(true,.lst [.int 1])])=.nx [some (.val (.int p)),some (.val (.int ((w+1:Nat):Int))),some (.val (.int x)),some (.cel μ.length),x4] (μ++[(true,li (pwl p x w))]):=hf
 simp?! only[e1,rw_,Int.toNat_natCast,hf]
 rw[qi]
 unfold kh
 simp?! only[Gv]
def pwr(p:Int)(w n:Nat):Rows:=(List.range n).map λ(h:Nat)=>((h:Int),pwl p ((h:Int)+1) w)
theorem D9(p:Int)(w n:Nat):pwr p w (n+1)=pwr p w n++[((n:Int),pwl p ((n:Int)+1) w)]:=by simp[pwr,List.range_succ]
theorem pb{p:Int}{w n:Nat}{q:Int×List Int}:q∈pwr p w n↔∃h:Nat,h<n∧q=((h:Int),pwl p ((h:Int)+1) w):=by
 unfold pwr
 rw[List.mem_map]
 exact⟨λ⟨h,a,b⟩=>⟨h,List.mem_range.mp a,b.symm⟩,λ⟨h,a,b⟩=>⟨h,List.mem_range.mpr a,b.symm⟩⟩
theorem uO{p:Int}(hP:fo p){w n:Nat}(hw:w<12)(hn:n≤24):Tbl p (w+1) (pwr p w n):=by
 have hb:=hP.pos
 refine⟨hP,by omega,by omega,by simp[pwr];omega,λq hq=>?_⟩
 obtain⟨h,_,rfl⟩:=pb.mp hq
 exact yi (by omega) _ w
theorem D_(p:Int)(w n:Nat):((pwr p w n).map (·.1)).Nodup:=by
 unfold pwr
 rw[List.map_map]
 exact List.pairwise_map.mpr (List.nodup_range.imp λh e=>h (Int.ofNat.inj e))
theorem GJ{p:Int}(hP:fo p){n:Nat}(hn:n≤24):Pw p n (pwr p 1 n) λh=>(h+1)%p:=by
 have hb:=hP.pos
 have e:∀x:Int,pwl p x 1=[1,x%p]:=λx=>by
  have:g [1] 0=1:=rfl
  simp[pwl,this]
 refine⟨uO hP (by omega) hn,D_ p 1 n,λq hq=>?_,λh h0=>?_,λh=>⟨Int.emod_nonneg _ (by omega),Int.emod_lt_of_pos _ (by omega)⟩⟩
 ·obtain⟨h,_,rfl⟩:=pb.mp hq
  exact e _
 ·refine pb.mpr ⟨h.toNat,by omega,?_⟩
  rw[e,show ((h.toNat:Nat):Int)=h by omega]
theorem GK{p:Int}(hP:fo p){n:Nat}(hn:n≤24):Pw1 p n (pwr p 0 n):=by
 refine⟨uO hP (by omega) hn,D_ p 0 n,λh h0=>?_⟩
 refine pb.mpr ⟨h.toNat,by omega,?_⟩
 rw[show ((h.toNat:Nat):Int)=h by omega]
 rfl
def Fit(p:Int)(w n:Nat)(rows:Rows):Prop:=n≤6∨rows.length≤4∨(w=1∧Pw1 p n rows)∨∃X,w=2∧Pw p n rows X
def pwB:DS:=(aW (aa 6) (eW [(aa 7),(dUn aD (aw (cal cG) [(aa 2),(aa 3),(ah bg (aa 7) (dC (.int 1)))]))]))
theorem GL(x0 x1 x5:Option SV){p:Int}(hP:fo p)(w n:Nat)(hw:w<10)(hn:n≤8)(μ:af) :
  ∃x7,bF (aI (aa 4)) (ao 7) pwB [x0,x1,some (.val (.int p)),some (.val (.int ((w+1:Nat):Int))),some (.val (.int n)),x5,some (.cel μ.length),none,none,none,none] (μ++[(true,.lst [])]) =
   .nx [x0,x1,some (.val (.int p)),some (.val (.int ((w+1:Nat):Int))),some (.val (.int n)),x5,some (.cel μ.length),x7,none,none,none] (μ++[(true,.lst ((pwr p w n).map rt))]):=by
 have hb:=hP.pos
 have hr:eE (n:Int)=true:=d7 (by omega) (by omega)
 obtain⟨e',M',hf,x7,rfl,rfl⟩:=d0 (same:=λ_=>True) (b:=ao 7) (ts:=bK 0 (n:Int).toNat) (body:=pwB)
  (I:=λi e M=>∃x7,e=[x0,x1,some (.val (.int p)),some (.val (.int ((w+1:Nat):Int))),some (.val (.int n)),x5,some (.cel μ.length),x7,none,none,none]∧M=μ++[(true,.lst ((pwr p w i).map rt))])
  (λ_ _ _ _=>trivial) (λj t e M ht ak=>by
   obtain⟨x7,he,hM⟩:=ak
   subst he hM
   obtain⟨k,rfl,hj,hk⟩:=kL ht
   have hj:j<n:=by simpa using hj
   have ek:k=(j:Int):=by omega
   subst ek
   have hpw:=A6 (p:=p) (by omega) (by omega) w (by omega) ((j:Int)+1) (μ++[(true,.lst ((pwr p w j).map rt))])
   have hls:mq (.cel μ.length) (μ++[(true,.lst ((pwr p w j).map rt))])=some ():=j8 _ _ _ _
   have ap:appendAt (.cel μ.length) (.tup [.int (j:Int),tu (pwl p ((j:Int)+1) w)]) (μ++[(true,.lst ((pwr p w j).map rt))])=some (μ++[(true,.lst ((pwr p w (j+1)).map rt))]):=by
    rw[eY _ _ _ _ (by simp[pwr,szL];omega),D9,List.map_append]
    rfl
   refine⟨_,_,μ++[(true,.lst ((pwr p w (j+1)).map rt))],rfl,?_,some (.val (.int (j:Int))),rfl,rfl⟩
   unfold pwB
   simp?! only[hpw,hls,ap,gK])
  (e:=[x0,x1,some (.val (.int p)),some (.val (.int ((w+1:Nat):Int))),some (.val (.int n)),x5,some (.cel μ.length),none,none,none,none]) (μ:=μ++[(true,.lst [])]) ⟨none,rfl,rfl⟩
 rw[cC,Int.toNat_natCast] at hf
 refine⟨x7,?_⟩
 simp?! only[hr,Int.toNat_natCast,hf]
def rwB:DS:=(ar (az 9 (aw (cal cP) [(aa 0),(ah bg (dC (.int 2)) (aa 8))]))
 (ar (az 10 (aw (cal fg) [(ah du (aa 9) (dC (.int 12))),(aa 2),(aa 3)]))
 (ar (sIf (ah fEq (ah aY (ah du (aa 9) (dC (.int 6))) (dC (.int 2))) (dC (.int 1))) (dj 10 (dC (.int 0)) (dC (.int 0))) b7)
 (aW (aa 6) (eW [(ah aY (aa 9) (aa 4)),(dUn aD (aa 10))])))))
theorem GN(ns:List Int)(x1:Option SV){p:Int}(hP:fo p)(w n m:Nat)(hw:0<w∧w≤12)(hn:0<n∧n≤8)(hm:m≤24)(μ:af) :
  ∃rows x8 x9 x10 G,bF (aI (aa 5)) (ao 8) rwB [some (.val (.lst (ns.map T.int))),x1,some (.val (.int p)),some (.val (.int w)),some (.val (.int n)),some (.val (.int m)),some (.cel μ.length),none,none,none,none] (μ++[(true,.lst [])]) =
   .nx [some (.val (.lst (ns.map T.int))),x1,some (.val (.int p)),some (.val (.int w)),some (.val (.int n)),some (.val (.int m)),some (.cel μ.length),none,x8,x9,x10] (μ++(true,.lst (rows.map rt))::G)∧Tbl p w rows∧rows.length=m:=by
 have hb:=hP.pos
 have hr:eE (m:Int)=true:=d7 (by omega) (by omega)
 obtain⟨e',M',hf,rows,x8,x9,x10,G,rfl,rfl,h2,h3⟩:=d0 (same:=λ_=>True) (b:=ao 8) (ts:=bK 0 (m:Int).toNat) (body:=rwB)
  (I:=λi e M=>∃(rows:Rows) (x8 x9 x10:Option SV) (G:af),e=[some (.val (.lst (ns.map T.int))),x1,some (.val (.int p)),some (.val (.int w)),some (.val (.int n)),some (.val (.int m)),some (.cel μ.length),none,x8,x9,x10]∧M=μ++(true,.lst (rows.map rt))::G∧rows.length=i∧∀q∈rows,Rw p w q.2)
  (λ_ _ _ _=>trivial) (λi t e M ht ak=>by
   obtain⟨rows,x8,x9,x10,G,he,hM,h2,h3⟩:=ak
   subst he hM
   obtain⟨k,rfl,hi,hk⟩:=kL ht
   have hi:i<m:=by simpa using hi
   obtain⟨own,ho⟩:=o4 ns (2+k) (μ++(true,T.lst (rows.map rt))::G) (by omega) (by omega)
   obtain⟨r,hr,R⟩:=GH (own / 12) p w (μ++(true,T.lst (rows.map rt))::G) (by omega) (by omega) (by omega)
   have JU:∀(r:List Int),(μ++(true,T.lst (rows.map rt))::G++[(true,li r)])[(μ++(true,T.lst (rows.map rt))::G).length]?=some (true,li r):=λr=>by simp
   have JN:∀(r r':List Int),(μ++(true,T.lst (rows.map rt))::G++[(true,li r)]).set (μ++(true,T.lst (rows.map rt))::G).length (true,li r')=μ++(true,T.lst (rows.map rt))::G++[(true,li r')]:=λr r'=>by simp
   have hsi:setAt (.cel (μ++(true,T.lst (rows.map rt))::G).length) (.int 0) (.int 0) (μ++(true,T.lst (rows.map rt))::G++[(true,li r)])=some (μ++(true,T.lst (rows.map rt))::G++[(true,li (r.set 0 0))]):=by
    rw[pW (ts:=r.map T.int) (JU r) (by omega) (by rw[List.length_map,R.1];omega)]
    rw[show ((r.map T.int).set (0:Int).toNat (T.int 0))=(r.set 0 0).map T.int by simp]
    rw[JN]
   have hls:∀r,mq (.cel μ.length) (μ++(true,T.lst (rows.map rt))::G++[(true,li r)])=some ():=λr=>by
    rw[List.append_assoc,List.cons_append];exact j8 _ _ _ _
   have hap:∀r t,appendAt (.cel μ.length) t (μ++(true,T.lst (rows.map rt))::G++[(true,li r)])=some (μ++(true,T.lst (rows.map rt++[t]))::(G++[(true,li r)])):=λr t=>by
    rw[List.append_assoc,List.cons_append]
    exact eY _ _ _ _ (by rw[List.length_map,h2];unfold szL;omega)
   have hmo:∀a,aY (.int a) (.int (n:Int))=some (.int (a%n)):=λa=>mi _ _ (by omega)
   have fin:∀r':List Int,Rw p w r'→∃mX:Rows,mX.map rt=rows.map rt++[T.tup [.int (own%n),tu r']]∧mX.length=i+1∧∀q∈mX,Rw p w q.2:=λr' R'=>by
    refine⟨rows++[(own%n,r')],by simp[rt],by simp[h2],?_⟩
    intro q hq
    rcases List.mem_append.mp hq with hq|hq
    ·exact h3 q hq
    ·simp at hq;subst hq;exact R'
   cases hq:(own / 6%2==1) with
   | true =>
    obtain⟨mX,f2,f3,f4⟩:=fin (r.set 0 0) (Rw.set R (by omega) (by omega))
    refine⟨_,_,μ++(true,T.lst (mX.map rt))::(G++[(true,li (r.set 0 0))]),rfl,?_,mX,some (.val (.int k)),some (.val (.int own)),some (.cel (μ++(true,T.lst (rows.map rt))::G).length),_,rfl,rfl,f3,f4⟩
    unfold rwB
    simp?! only[ho,hr,hq,hsi,hls,hap,hmo,JU,f2]
   | false =>
    obtain⟨mX,f2,f3,f4⟩:=fin r R
    refine⟨_,_,μ++(true,T.lst (mX.map rt))::(G++[(true,li r)]),rfl,?_,mX,some (.val (.int k)),some (.val (.int own)),some (.cel (μ++(true,T.lst (rows.map rt))::G).length),_,rfl,rfl,f3,f4⟩
    unfold rwB
    simp?! only[ho,hr,hq,hls,hap,hmo,JU,f2])
  (e:=[some (.val (.lst (ns.map T.int))),x1,some (.val (.int p)),some (.val (.int w)),some (.val (.int n)),some (.val (.int m)),some (.cel μ.length),none,none,none,none]) (μ:=μ++[(true,.lst [])]) ⟨[],none,none,none,[],rfl,rfl,rfl,by simp⟩
 rw[cC,Int.toNat_natCast] at h2
 rw[Int.toNat_natCast] at hf
 refine⟨rows,x8,x9,x10,G,?_,⟨hP,hw.1,hw.2,by omega,h3⟩,h2⟩
 simp?! only[hr,Int.toNat_natCast,hf]
theorem tf(ns:List Int)(c:Int){p:Int}(hP:fo p)(w n m:Nat)(hw:w<10)(hn:0<n∧n≤8)(hm:m≤24)(hf:n≤6∨(m≤4∧w<2))(μ:af) :
  ∃rows,(jE [some (.val (.lst (ns.map T.int))),some (.val (.int c)),some (.val (.int p)),some (.val (.int ((w+1:Nat):Int))),some (.val (.int n)),some (.val (.int m)),none,none,none,none,none] μ).rB μ.length=.ok (.val (.tup [tb p (w+1) rows,.int n])) μ∧Tbl p (w+1) rows∧Fit p (w+1) n rows:=by
 rw[rP]
 unfold lN
 simp?! only[]
 rw[rQ]
 cases hq:(c / 25600%3==0) with
 | true =>
  refine⟨pwr p w n,?_,uO hP (by omega) (by omega),?_⟩
  ·obtain⟨x7,h1⟩:=GL (some (.val (.lst (ns.map T.int)))) (some (.val (.int c))) (some (.val (.int m))) hP w n hw hn.2 μ
   rw[show jD=sIf (ah fEq (ah aY (ah du (aa 1) (dC (.int 25600))) (dC (.int 3))) (dC (.int 0))) (ar (bF (aI (aa 4)) (ao 7) pwB) (aM (eW [(eW [(aa 2),(aa 3),(dUn aD (aa 6))]),(aa 4)]))) b7 from rfl]
   generalize bF (aI (aa 4)) (ao 7) pwB=lp at h1
   simp?! only[hq,h1,jl,tY]
   rfl
  ·rcases hf with hf|⟨_,hf⟩
   ·exact .inl hf
   ·have hw2:w=0∨w=1:=by omega
    rcases hw2 with rfl|rfl
    ·exact .inr (.inr (.inl ⟨rfl,GK hP (by omega)⟩))
    ·exact .inr (.inr (.inr ⟨_,rfl,GJ hP (by omega)⟩))
 | false =>
  obtain⟨rows,x8,x9,x10,G,h1,h2,h3⟩:=GN ns (some (.val (.int c))) hP (w+1) n m (by omega) hn hm μ
  refine⟨rows,?_,h2,?_⟩
  ·unfold jD
   simp?! only[hq]
   rw[rR,show lO=bF (aI (aa 5)) (ao 8) rwB from rfl,h1,RS.gL,qk]
   unfold km
   simp?! only[jl,tY]
   rfl
  ·rcases hf with hf|⟨hf,_⟩
   ·exact .inl hf
   ·exact .inr (.inl (by omega))
theorem Ea(ns:List Int)(μ:af):∃p w rows,∃n:Nat,dW [.val (.lst (ns.map T.int))] μ=.ok (.val (.tup [tb p w rows,.int n])) μ∧Tbl p w rows∧(0<n∧n≤8)∧Fit p w n rows:=by
 obtain⟨c,hc⟩:=o4 ns 0 μ (by omega) (by omega)
 obtain⟨p,hp,hP⟩:=IY c μ
 obtain⟨a,ha,ha2⟩:=toNat_mod (c / 200) 4 (by omega)
 obtain⟨b4,hb4,QY⟩:=toNat_mod (c / 800) 4 (by omega)
 obtain⟨b6,hb6,QZ⟩:=toNat_mod (c / 800) 6 (by omega)
 obtain⟨b2,hb2,Q0⟩:=toNat_mod (c / 800) 2 (by omega)
 obtain⟨m,hm,hm2⟩:=toNat_mod (c / 76800) 8 (by omega)
 unfold dW
 rw[fM,xv,rH]
 unfold lG
 simp?! only[hc]
 rw[rJ]
 unfold lH
 simp?! only[hp]
 rw[rK]
 unfold lI
 simp?! only[ha]
 rw[rL]
 unfold lJ
 simp?! only[hb4]
 rw[rM]
 unfold lK
 simp?! only[hm]
 rw[rN]
 have key:∀n:Nat,0<n∧n≤6→∃p' w rows,∃n':Nat,(jF [some (.val (.lst (ns.map T.int))),some (.val (.int c)),some (.val (.int p)),some (.val (.int (1+(a:Int)))),some (.val (.int n)),some (.val (.int m)),none,none,none,none,none] μ).rB μ.length=.ok (.val (.tup [tb p' w rows,.int n'])) μ∧Tbl p' w rows∧(0<n'∧n'≤8)∧Fit p' w n' rows:=by
  intro n hn
  rw[rO]
  unfold lM
  cases hq:(c / 3200%16==5) with
  | true =>
   have f1:vv (.int (m:Int)) (.int 4)=some (.int ((min m 4:Nat):Int)):=by
    rw[vw];congr 2;omega
   have f2:vv (.int (1+(a:Int))) (.int 2)=some (.int ((min a 1+1:Nat):Int)):=by
    rw[vw];congr 2;omega
   obtain⟨rows,k1,k2,k3⟩:=tf ns c hP (min a 1) (7+b2) (min m 4) (by omega) (by omega) (by omega) (.inr (by omega)) μ
   refine⟨p,min a 1+1,rows,7+b2,?_,k2,by omega,k3⟩
   rw[← k1]
   simp?! only[hq,hb2,f1,f2]
   rfl
  | false =>
   obtain⟨rows,k1,k2,k3⟩:=tf ns c hP a n m (by omega) (by omega) (by omega) (.inl (by omega)) μ
   refine⟨p,a+1,rows,n,?_,k2,by omega,k3⟩
   rw[← k1,show ((a+1:Nat):Int)=1+(a:Int) by omega]
   simp?! only[hq]
 unfold lL
 cases hq:(c / 3200%8==3) with
 | true =>
  obtain⟨p',w,rows,n',k1,k2⟩:=key (1+b6) (by omega)
  refine⟨p',w,rows,n',?_,k2⟩
  rw[← k1]
  simp?! only[hq,hb6]
  rfl
 | false =>
  obtain⟨p',w,rows,n',k1,k2⟩:=key (1+b4) (by omega)
  refine⟨p',w,rows,n',?_,k2⟩
  rw[← k1]
  simp?! only[hq]
  rfl
def dd(O:List Int→Bool)(l:List (List Int)):List (List Int×Bool):=l.map λs=>(s,O s)
theorem Eb{O:List Int→Bool}{l:List (List Int)}{s:List Int}(h:s∉l):qb (dd O l) s (O s)=dd O (l++[s]):=by
 unfold qb
 rw[if_neg]
 ·simp[dd]
 ·intro e
  obtain⟨kv,h1,h2⟩:=List.any_eq_true.mp e
  obtain⟨t,h3,rfl⟩:=List.mem_map.mp h1
  exact h (by rw[← of_decide_eq_true h2];exact h3)
theorem Ec{O:List Int→Bool}:∀{l:List (List Int)}{s:List Int},s∈l→oh (dd O l) s=some (O s)
 | [],s,h=>by cases h
 | t::l,s,h=>by
  unfold oh
  show ((((t,O t)::dd O l).find? λkv=>decide (kv.1=s)).map (·.2))=_
  by_cases e:t=s
  ·subst e;rw[List.find?_cons_of_pos (by simp)];rfl
  ·rw[List.find?_cons_of_neg (by simpa using e)]
   exact Ec ((List.mem_cons.mp h).resolve_left λq=>e q.symm)
theorem zA(s:List Int):vE (tu s)=some s:=by unfold tu vE;exact jc s
theorem JV{O:List Int→Bool}{l:List (List Int)}{s:List Int}(h:s∈l)(b:Bool):bH (.dtt b (dd O l)) (tu s)=some (.bl (O s)):=by
 show ((vE (tu s)).bind λk=>(oh (dd O l) k).map T.bl)=_
 rw[zA,Option.bind_some,Ec h]
 rfl
theorem Ed(μ:af)(kts:List (List Int×Bool))(s:List Int)(b:Bool)(h:kts.length<szL):ka (.cel μ.length) (tu s) (.bl b) (μ++[(true,.dtt false kts)])=some (μ++[(true,.dtt false (qb kts s b))]):=by
 have e:(μ++[(true,T.dtt false kts)])[μ.length]?=some (true,T.dtt false kts):=by simp
 unfold ka
 simp only[e,zA,Option.bind_some,if_pos h]
 simp
theorem nV{l:List (List Int)}{i:Nat}{s:List Int}(hd:l.Nodup)(h:l[i]?=some s):l.take (i+1)=l.take i++[s]∧s∉l.take i:=by
 have hi:i<l.length:=(List.getElem?_eq_some_iff.mp h).1
 have e:l[i]=s:=(List.getElem?_eq_some_iff.mp h).2
 have e2:l.take (i+1)=l.take i++[s]:=by rw[List.take_succ,h];rfl
 refine⟨e2,λhm=>?_⟩
 have:=List.Sublist.nodup (List.take_sublist (i+1) l) hd
 rw[e2] at this
 exact (List.nodup_append.mp this).2.2 s hm s (by simp) rfl
def opB:DS:=(oi 2 (aa 3) (aw (cal bt) [(aa 0),(aa 3)]))
theorem GO{p:Int}{w:Nat}{rows:Rows}(H:Tbl p w rows){n:Nat}(hn:n≤8)(μ:af) :
  ∃x3,forL (λ_=>True) (ao 3) opB ((subs n).map tu) [some (.val (tb p w rows)),some (.val (.int n)),some (.cel μ.length),none,none,none] (μ++[(true,.dtt false [])]) =
   .nx [some (.val (tb p w rows)),some (.val (.int n)),some (.cel μ.length),x3,none,none] (μ++[(true,.dtt false (dd (ow p w rows) (subs n)))]):=by
 have hs:=fQ hn
 obtain⟨e',M',hf,x3,rfl,rfl⟩:=d0 (same:=λ_=>True) (b:=ao 3) (ts:=(subs n).map tu) (body:=opB)
  (I:=λi e M=>∃x3,e=[some (.val (tb p w rows)),some (.val (.int n)),some (.cel μ.length),x3,none,none]∧M=μ++[(true,.dtt false (dd (ow p w rows) ((subs n).take i)))])
  (λ_ _ _ _=>trivial) (λj t e M ht ak=>by
   obtain⟨x3,he,hM⟩:=ak
   subst he hM
   rw[List.getElem?_map] at ht
   obtain⟨s,h1,rfl⟩:=Option.map_eq_some_iff.mp ht
   obtain⟨e1,e2⟩:=nV (dM n) h1
   have h3:=yg H s (μ++[(true,.dtt false (dd (ow p w rows) ((subs n).take j)))])
   have h4:=Ed μ (dd (ow p w rows) ((subs n).take j)) s (ow p w rows s) (by unfold dd szL;rw[List.length_map,List.length_take];omega)
   rw[Eb e2,← e1] at h4
   refine⟨_,_,μ++[(true,.dtt false (dd (ow p w rows) ((subs n).take (j+1))))],rfl,?_,some (.val (tu s)),rfl,rfl⟩
   unfold opB
   simp?! only[vF,h3,h4])
  (e:=[some (.val (tb p w rows)),some (.val (.int n)),some (.cel μ.length),none,none,none]) (μ:=μ++[(true,.dtt false [])]) ⟨none,rfl,rfl⟩
 rw[List.length_map,List.take_length] at hf
 exact⟨x3,hf⟩
def lsB(O:List Int→Bool)(s:List Int):Bool:=O s && !(s.any λh=>O (less s h))
def grB(O:List Int→Bool)(n:Nat)(s:List Int):Bool:=!O s && (((bc 0 n).filter λh=>decide (h∉s)).all λh=>O (more s h))
theorem lX{O:List Int→Bool}{n:Nat}{s:List Int}(hs:s∈subs n):lsB O s=true↔qU O n s:=by
 unfold lsB qU
 rw[Bool.and_eq_true,Bool.not_eq_true',List.any_eq_false]
 exact⟨λ⟨a,b⟩=>⟨hs,a,λh hh=>by simpa using b h hh⟩,λ⟨_,a,b⟩=>⟨a,λh hh=>by simpa using b h hh⟩⟩
theorem lY{O:List Int→Bool}{n:Nat}{s:List Int}(hs:s∈subs n):grB O n s=true↔eg O n s:=by
 unfold grB eg
 rw[Bool.and_eq_true,Bool.not_eq_true',List.all_eq_true]
 refine⟨λ⟨a,b⟩=>⟨hs,a,λh h0 hm=>b h (List.mem_filter.mpr ⟨gO.mpr (by omega),decide_eq_true hm⟩)⟩,λ⟨_,a,b⟩=>⟨a,λh hh=>?_⟩⟩
 obtain⟨h1,h2⟩:=List.mem_filter.mp hh
 have:=gO.mp h1
 exact b h (by omega) (of_decide_eq_true h2)
theorem fY{O:List Int→Bool}{n:Nat}{x:SV}{μ:af}{b:Bool}(hx:rd μ x=some (.dtt b (dd O (subs n)))){s:List Int}(hs:s∈subs n):ap2 bH (rd μ x) (some (tu s))=some (.val (.bl (O s))):=by
 rw[hx,jZ,JV hs];rfl
theorem wt{O:List Int→Bool}{n:Nat}(hn:n≤8){x:SV}{μ:af}{b:Bool}(hx:rd μ x=some (.dtt b (dd O (subs n)))){s:List Int}(hs:s∈subs n):dw [x,.val (tu s)] μ=.ok (.val (.bl (lsB O s))) μ:=by
 have hl:=sub_len hs
 have ec:bY (λ_=>True) (ao 0) (dC (.bl true)) (ah bH (aa 1) (aw (cal fP) [(aa 2),(aa 0)])) [none,some x,some (.val (tu s))] (s.map T.int) μ=.ok (s.map λh=>T.bl (O (less s h))) μ:=by
  rw[nq (λh=>T.bl (O (less s h))) trivial s]
  intro h hm
  have h1:=ye s h (by omega) μ
  have h2:=fY hx (qT hs h)
  refine⟨_,rfl,?_⟩
  simp?! only[h1,h2]
 have ls:(s.map T.int).length≤szL:=by rw[List.length_map];unfold szL;omega
 have h2:=fY hx hs
 have fa:=Cn (λh=>O (less s h)) s
 unfold dw qf lsB
 have tus:tu s=.tup (s.map T.int):=rfl
 cases ho:O s with
 | true =>
  rw[ho] at h2
  simp?! only[h2,tus,ec,ls,fa]
  rw[Bool.true_and]
 | false =>
  rw[ho] at h2
  simp?! only[h2]
  rfl
theorem JW(h:Int)(s:List Int):iB (.int h) (tu s)=some (.bl (decide (h∉s))):=by
 unfold iB tu
 simp only[je,fR,Bool.and_true,mC]
 congr 2
 by_cases q:h∈s<;>simp[q,gf]
theorem yj(h:Int)(s:List Int):iB (.int h) (li s)=some (.bl (decide (h∉s))):=by
 unfold iB li
 simp only[eh,fR,Bool.and_true,mC]
 congr 2
 by_cases q:h∈s<;>simp[q,gf]
theorem rf{O:List Int→Bool}{n:Nat}(hn:n≤8){x:SV}{μ:af}{b:Bool}(hx:rd μ x=some (.dtt b (dd O (subs n)))){s:List Int}(hs:s∈subs n):bR [x,.val (.int n),.val (tu s)] μ=.ok (.val (.bl (grB O n s))) μ:=by
 have hl:=sub_len hs
 have rw_:eE (n:Int)=true:=d7 (by omega) (by omega)
 have ec:bY (λ_=>True) (ao 0) (ah iB (aa 0) (aa 2)) (ah bH (aa 1) (aw (cal cD) [(aa 2),(aa 0)])) [none,some x,some (.val (tu s))] (bK 0 n) μ=.ok (((bc 0 n).filter λh=>decide (h∉s)).map λh=>T.bl (O (more s h))) μ:=by
  rw[iS,d8 (λh=>decide (h∉s)) (λh=>T.bl (O (more s h))) trivial (bc 0 n)]
  intro h hm
  have h0:=gO.mp hm
  have h1:=GF s h (by omega) μ
  have h4:=JW h s
  refine⟨_,rfl,?_,λhq=>?_⟩
  ·simp?! only[h4]
  ·have h2:=fY hx (qV hs (h:=h) (by omega) (of_decide_eq_true hq))
   simp?! only[h1,h2]
 have ls:(bK 0 n).length≤szL:=by rw[cC];unfold szL;omega
 have h2:=fY hx hs
 have fa:=Cm (λh=>O (more s h)) ((bc 0 n).filter λh=>decide (h∉s))
 unfold bR kX grB
 cases ho:O s with
 | true =>
  rw[ho] at h2
  simp?! only[h2]
  rfl
 | false =>
  rw[ho] at h2
  simp?! only[h2,rw_,Int.toNat_natCast,ec,ls,fa]
  rw[Bool.true_and]
def srt(l:List (List Int)):List (List Int):=nD l [] l
theorem tj:∀(l:List (List Int)),oj (l.map li)=some l
 | []=>rfl
 | s::l=>by
  show (dD (s.map T.int)).bind (λns=>(oj (l.map li)).map (ns::·))=_
  rw[jc,Option.bind_some,tj l]
  rfl
theorem kN(l:List (List Int))(h:l.length<64):eJ (.lst (l.map li))=some (.lst ((srt l).map li)):=by
 show ((oj (l.map li)).bind λnss=>if (l.map li).length<64 then some (T.lst (nD (l.map li) .non nss)) else none)=_
 rw[tj,Option.bind_some,if_pos (by rw[List.length_map];exact h)]
 congr 2
 unfold srt nD
 rw[List.length_map,List.map_map]
 refine List.map_congr_left λi hi=>?_
 have hi:i<l.length:=List.mem_range.mp ((HT.fN _ _).mem_iff.mp hi)
 simp[hi]
theorem jM{l:List (List Int)}{s:List Int}:s∈srt l↔s∈l:=by
 unfold srt nD
 rw[List.mem_map]
 constructor
 ·rintro⟨i,hi,rfl⟩
  have hi:i<l.length:=List.mem_range.mp ((HT.fN _ _).mem_iff.mp hi)
  simp[hi]
 ·intro h
  obtain⟨i,hi,e⟩:=List.getElem_of_mem h
  refine⟨i,(HT.fN _ _).mem_iff.mpr (List.mem_range.mpr hi),?_⟩
  simp[hi,e]
theorem uP(l:List (List Int)):(srt l).length=l.length:=by unfold srt nD;rw[List.length_map,(HT.fN _ _).length_eq,List.length_range]
def LL(O:List Int→Bool)(n:Nat):List (List Int):=(subs n).filter (lsB O)
def GG(O:List Int→Bool)(n:Nat):List (List Int):=(subs n).filter (grB O n)
theorem zB(O:List Int→Bool)(l:List (List Int)):vG (dd O l)=l.map tu:=by unfold vG dd;rw[List.map_map];rfl
theorem Ee(μ:af)(kts:List (List Int×Bool)):keysAt (.cel μ.length) (μ++[(true,.dtt false kts)])=some (kts,μ++[(false,.dtt true kts)]):=by
 have e:(μ++[(true,T.dtt false kts)])[μ.length]?=some (true,T.dtt false kts):=by simp
 unfold keysAt
 simp only[e]
 simp
theorem Ef(μ:af)(kts:List (List Int×Bool)):keysAt (.cel μ.length) (μ++[(false,.dtt true kts)])=some (kts,μ++[(false,.dtt true kts)]):=by
 have e:(μ++[(false,T.dtt true kts)])[μ.length]?=some (false,T.dtt true kts):=by simp
 unfold keysAt
 simp only[e]
section
variable{p:Int}{w:Nat}{rows:Rows}{n:Nat}
theorem wu(H:Tbl p w rows)(hn:n≤8)(h1:(LL (ow p w rows) n).length<64)(h2:(GG (ow p w rows) n).length<64)(μ:af) :
  fb [some (.val (tb p w rows)),some (.val (.int n)),none,none,none,none] μ=.rt (.box [.inr (μ.length+1),.inr (μ.length+2)]) (μ++[(false,.dtt true (dd (ow p w rows) (subs n))),(true,.lst ((srt (LL (ow p w rows) n)).map li)),(true,.lst ((srt (GG (ow p w rows) n)).map li))]):=by
 have hsm:=fQ hn
 have hb:=D4 hn (μ++[(true,.dtt false [])])
 obtain⟨x3,hl⟩:=GO H hn μ
 rw[uq,oF]
 unfold jt
 simp?! only[]
 rw[oG,show ju=bF (bo (aw (cal cq) [(aa 1)])) (ao 3) opB from rfl]
 simp?! only[hb,hl]
 rw[oH]
 unfold jv
 have hx:rd (μ++[(false,T.dtt true (dd (ow p w rows) (subs n)))]) (.cel μ.length)=some (.dtt true (dd (ow p w rows) (subs n))):=by simp
 have k1:=Ee μ (dd (ow p w rows) (subs n))
 have k2:=Ef μ (dd (ow p w rows) (subs n))
 have ls:((subs n).map tu).length≤szL:=by rw[List.length_map];unfold szL;omega
 have fl:∀s,iP (tu s)=some (li s):=λs=>rfl
 have e1:bY (λ_=>True) (ao 0) (aw (cal dw) [(aa 1),(aa 0)]) (dUn iP (aa 0)) [none,some (.cel μ.length)] ((subs n).map tu) (μ++[(false,T.dtt true (dd (ow p w rows) (subs n)))])=.ok ((LL (ow p w rows) n).map li) (μ++[(false,T.dtt true (dd (ow p w rows) (subs n)))]):=by
  rw[fv tu (lsB (ow p w rows)) li trivial]
  ·rfl
  ·intro s hs
   have q:=wt hn hx hs
   refine⟨_,rfl,?_,λ_=>?_⟩
   ·simp?! only[q]
   ·simp?! only[fl]
 have e2:bY (λ_=>True) (ao 0) (aw (cal bR) [(aa 1),(aa 2),(aa 0)]) (dUn iP (aa 0)) [none,some (.cel μ.length),some (.val (.int n))] ((subs n).map tu) (μ++[(false,T.dtt true (dd (ow p w rows) (subs n)))])=.ok ((GG (ow p w rows) n).map li) (μ++[(false,T.dtt true (dd (ow p w rows) (subs n)))]):=by
  rw[fv tu (grB (ow p w rows) n) li trivial]
  ·rfl
  ·intro s hs
   have q:=rf hn hx hs
   refine⟨_,rfl,?_,λ_=>?_⟩
   ·simp?! only[q]
   ·simp?! only[fl]
 simp?! only[sQ,k1,zB,ls,e1]
 rw[oI]
 unfold jw
 simp?! only[sQ,k2,zB,ls,e2]
 rw[oJ]
 unfold jx
 have s1:=kN _ h1
 have s2:=kN _ h2
 simp?! only[s1,s2]
 have eb:∀a b:Nat,boxed [.cel a,.cel b]=some [.inr a,.inr b]:=λ_ _=>rfl
 rw[eb,R.aK,R.aT,R.b5]
 simp only[List.append_assoc,List.cons_append,List.nil_append,List.length_append,List.length_cons,List.length_nil]
theorem JX(H:Tbl p w rows)(hn:n≤8)(h1:(LL (ow p w rows) n).length<64)(h2:(GG (ow p w rows) n).length<64)(μ:af) :
  dG [.val (tb p w rows),.val (.int n)] μ=.ok (.box [.inr (μ.length+1),.inr (μ.length+2)]) (μ++[(false,.dtt true (dd (ow p w rows) (subs n))),(true,.lst ((srt (LL (ow p w rows) n)).map li)),(true,.lst ((srt (GG (ow p w rows) n)).map li))]):=by
 have h:=wu H hn h1 h2 μ
 unfold dG
 generalize fb=bd at h
 simp?! only[h]
theorem JY(H:Tbl p w rows)(hn:n≤8)(h1:(LL (ow p w rows) n).length<64)(h2:(GG (ow p w rows) n).length<64)(μ:af) :
  dH [.val (tb p w rows),.val (.int n)] μ=.ok (.val (.tup [.lst ((srt (LL (ow p w rows) n)).map li),.lst ((srt (GG (ow p w rows) n)).map li)])) μ:=by
 have h:=wu H hn h1 h2 μ
 unfold dH
 generalize fb=bd at h
 simp?! only[h]
 simp[ice,frz,jN,tQ]
end
theorem uQ(l:List (List Int))(n:Nat):gJ (n+1) (l.map li)=true:=by
 rw[pC]
 intro t ht
 obtain⟨s,_,rfl⟩:=List.mem_map.mp ht
 show okT (n+1) (.lst (s.map T.int))=true
 rw[ic]
 exact zY _ _
theorem zC(l:List (List Int)):eqT (.lst (l.map li)) (.lst [])=l.isEmpty:=by
 cases l with
 | nil=>rw[List.map_nil];exact pD 1 _ (by rw[ic,mj])
 | cons s l=>rw[List.map_cons,eqT];rfl
theorem rg(l:List (List Int)):fEq (.lst (l.map li)) (.lst [])=some (.bl l.isEmpty):=by
 rw[tU (by rw[ic];exact uQ l 98) (by rw[ic,mj]),zC]
theorem Eg(l:List (List Int)):fNe (.lst (l.map li)) (.lst [])=some (.bl (!l.isEmpty)):=by
 rw[wO (by rw[ic];exact uQ l 98) (by rw[ic,mj]),zC]
theorem uR{μ:af}{x:SV}{t:T}(l:af)(h:rd μ x=some t):rd (μ++l) x=some t:=by
 cases x with
 | val u=>exact h
 | box xs=>cases h
 | cel k =>
  obtain⟨c,h1,rfl⟩:=Option.map_eq_some_iff.mp (show (μ[k]?).map (·.2)=some t from h)
  show ((μ++l)[k]?).map (·.2)=_
  rw[List.getElem?_append_left (List.getElem?_eq_some_iff.mp h1).1,h1]
  rfl
theorem A7(l:List Int)(h:l.length<64):jm (li l)=some (li (jP l)):=by
 unfold li
 show ((dD (l.map T.int)).bind λns=>if ns.length<64 then some (T.lst ((jP ns).map T.int)) else none)=_
 rw[jc,Option.bind_some,if_pos h]
theorem Mx{O:Int→Bool}(l:List Int):(l.filter λh=>!O h).isEmpty=l.all O:=by
 induction l with
 | nil=>rfl
 | cons a l ih=>cases q:O a<;>simp[q,ih]
theorem My{O:Int→Bool}(l:List Int):(l.filter O).isEmpty=!l.any O:=by
 induction l with
 | nil=>rfl
 | cons a l ih=>cases q:O a<;>simp[q,ih]
theorem zD{α β:Type}(f:α→β)(l:List α):(l.map f).isEmpty=l.isEmpty:=by cases l<;>rfl
theorem A8(s:List Int)(h:Int)(M:af):bY (λ_=>True) (ao 0) (ah fNe (aa 0) (aa 1)) (aa 0) [none,some (.val (.int h))] (s.map T.int) M=.ok ((less s h).map T.int) M:=by
 rw[d8 (λx=>decide (x≠h)) T.int trivial s]
 ·rfl
 ·intro k _
  refine⟨_,rfl,?_,λ_=>rfl⟩
  simp?! only[]
  congr 3
  rw[Bool.eq_iff_iff]
  simp
def GP:DS:=(ar (az 6 (aJ (bo (aa 5)) [none,some 5] (ao 0) (dC (.bl true)) (aJ (bo (aa 1)) [none,some 0] (ao 0) (ah fNe (aa 0) (aa 1)) (aa 0))))
 (ar (az 7 (aJ (aI (aa 2)) [none,some 5] (ao 0) (ah iB (aa 0) (aa 1)) (dUn jm (ah bg (aa 1) (bC [(aa 0)])))))
 (ar (sIf (j0 (ah bH (aa 1) (dUn aD (aa 5))) (ah fEq (aJ (bo (aa 6)) [none,some 1] (ao 0) (ah bH (aa 1) (dUn aD (aa 0))) (aa 0)) (bC []))) (aW (aa 3) (aa 5)) b7)
 (sIf (j0 (h8 (ah bH (aa 1) (dUn aD (aa 5)))) (ah fEq (aJ (bo (aa 7)) [none,some 1] (ao 0) (h8 (ah bH (aa 1) (dUn aD (aa 0)))) (aa 0)) (bC []))) (aW (aa 4) (aa 5)) b7))))
def ifA(b:Bool)(l:List (List Int))(s:List Int):List (List Int):=if b=true then l++[s] else l
def GQ:DS:=(sIf (j0 (ah bH (aa 1) (dUn aD (aa 5))) (ah fEq (aJ (bo (aa 6)) [none,some 1] (ao 0) (ah bH (aa 1) (dUn aD (aa 0))) (aa 0)) (bC []))) (aW (aa 3) (aa 5)) b7)
def GR:DS:=(sIf (j0 (h8 (ah bH (aa 1) (dUn aD (aa 5)))) (ah fEq (aJ (bo (aa 7)) [none,some 1] (ao 0) (h8 (ah bH (aa 1) (dUn aD (aa 0)))) (aa 0)) (bC []))) (aW (aa 4) (aa 5)) b7)
theorem dY(s:List Int):aD (li s)=some (tu s):=(rfl)
theorem GS{O:List Int→Bool}{n:Nat}(hn:n≤8){x:SV}{μ:af}{b:Bool}(hx:rd μ x=some (.dtt b (dd O (subs n)))){s:List Int}(hs:s∈subs n)(x0 x2 x4 x7:Option SV)(A:List (List Int))(c:Bool×T)(hA:A.length<1000) :
  GQ [x0,some x,x2,some (.cel μ.length),x4,some (.val (li s)),some (.val (.lst (s.map λh=>li (less s h)))),x7] (μ++[(true,.lst (A.map li)),c]) =
   .nx [x0,some x,x2,some (.cel μ.length),x4,some (.val (li s)),some (.val (.lst (s.map λh=>li (less s h)))),x7] (μ++[(true,.lst ((ifA (lsB O s) A s).map li)),c]):=by
 have hl:=sub_len hs
 have g1:=fY (uR [(true,.lst (A.map li)),c] hx) hs
 have ls:(s.map λh=>li (less s h)).length≤szL:=by rw[List.length_map];unfold szL;omega
 have ec:bY (λ_=>True) (ao 0) (ah bH (aa 1) (dUn aD (aa 0))) (aa 0) [none,some x] (s.map λh=>li (less s h)) (μ++[(true,.lst (A.map li)),c])=.ok (((s.filter λh=>O (less s h)).map (less s)).map li) (μ++[(true,.lst (A.map li)),c]):=by
  rw[fv (λh=>li (less s h)) (λh=>O (less s h)) (λh=>li (less s h)) trivial,List.map_map]
  ·rfl
  ·intro h hm
   have g2:=fY (uR [(true,.lst (A.map li)),c] hx) (qT hs h)
   refine⟨_,rfl,?_,λ_=>?_⟩
   ·simp?! only[dY,g2]
   ·simp?! only[]
 have hls:mq (.cel μ.length) (μ++[(true,.lst (A.map li)),c])=some ():=j8 _ _ _ _
 have ap:=eY μ [c] (A.map li) (li s) (by rw[List.length_map];unfold szL;omega)
 have e:lsB O s=(O s && ((s.filter λh=>O (less s h)).map (less s)).isEmpty):=by rw[zD,My];rfl
 have fe:=rg ((s.filter λh=>O (less s h)).map (less s))
 rw[e]
 generalize ((s.filter λh=>O (less s h)).map (less s))=f at ec fe
 unfold GQ
 cases ho:O s with
 | false =>
  rw[ho] at g1
  simp?! only[dY,g1]
  rfl
 | true =>
  rw[ho] at g1
  cases hf:f.isEmpty with
  | false =>
   rw[hf] at fe
   simp?! only[dY,g1,ls,ec,fe]
   rfl
  | true =>
   rw[hf] at fe
   simp?! only[dY,g1,ls,ec,fe,hls,ap]
   simp[ifA]
theorem GU{O:List Int→Bool}{n:Nat}(hn:n≤8){x:SV}{μ:af}{b:Bool}(hx:rd μ x=some (.dtt b (dd O (subs n)))){s:List Int}(hs:s∈subs n)(x0 x2 x3 x6:Option SV)(B:List (List Int))(c:Bool×T)(hB:B.length<1000) :
  GR [x0,some x,x2,x3,some (.cel (μ.length+1)),some (.val (li s)),x6,some (.val (.lst (((bc 0 n).filter λh=>decide (h∉s)).map λh=>li (more s h))))] (μ++[c,(true,.lst (B.map li))]) =
   .nx [x0,some x,x2,x3,some (.cel (μ.length+1)),some (.val (li s)),x6,some (.val (.lst (((bc 0 n).filter λh=>decide (h∉s)).map λh=>li (more s h))))] (μ++[c,(true,.lst ((ifA (grB O n s) B s).map li))]):=by
 have hl:=sub_len hs
 have g1:=fY (uR [c,(true,.lst (B.map li))] hx) hs
 have ls:(((bc 0 n).filter λh=>decide (h∉s)).map λh=>li (more s h)).length≤szL:=by
  rw[List.length_map]
  have:=List.length_filter_le (λh=>decide (h∉s)) (bc 0 n)
  have e:(bc 0 n).length=n:=by simp[bc]
  unfold szL;omega
 have ec:bY (λ_=>True) (ao 0) (h8 (ah bH (aa 1) (dUn aD (aa 0)))) (aa 0) [none,some x] (((bc 0 n).filter λh=>decide (h∉s)).map λh=>li (more s h)) (μ++[c,(true,.lst (B.map li))])=.ok (((((bc 0 n).filter λh=>decide (h∉s)).filter λh=>!O (more s h)).map (more s)).map li) (μ++[c,(true,.lst (B.map li))]):=by
  rw[fv (λh=>li (more s h)) (λh=>!O (more s h)) (λh=>li (more s h)) trivial,List.map_map]
  ·rfl
  ·intro h hm
   obtain⟨m1,m2⟩:=List.mem_filter.mp hm
   have m1:=gO.mp m1
   have g2:=fY (uR [c,(true,.lst (B.map li))] hx) (qV hs (h:=h) (by omega) (of_decide_eq_true m2))
   refine⟨_,rfl,?_,λ_=>?_⟩
   ·simp?! only[dY,g2]
   ·simp?! only[]
 have hls:mq (.cel (μ.length+1)) (μ++[c,(true,.lst (B.map li))])=some ():=Ck _ _ _ _ _
 have ap:=pV μ [] c (B.map li) (li s) (by rw[List.length_map];unfold szL;omega)
 have e:grB O n s=(!O s && ((((bc 0 n).filter λh=>decide (h∉s)).filter λh=>!O (more s h)).map (more s)).isEmpty):=by rw[zD,Mx];rfl
 have fe:=rg ((((bc 0 n).filter λh=>decide (h∉s)).filter λh=>!O (more s h)).map (more s))
 rw[e]
 generalize (((bc 0 n).filter λh=>decide (h∉s)).filter λh=>!O (more s h)).map (more s)=f at ec fe
 unfold GR
 cases ho:O s with
 | true =>
  rw[ho] at g1
  simp?! only[dY,g1]
  rfl
 | false =>
  rw[ho] at g1
  cases hf:f.isEmpty with
  | false =>
   rw[hf] at fe
   simp?! only[dY,g1,ls,ec,fe]
   rfl
  | true =>
   rw[hf] at fe
   simp?! only[dY,g1,ls,ec,fe,hls,ap]
   simp[ifA]
theorem Eh{O:List Int→Bool}{n:Nat}(hn:n≤8){x:SV}{μ:af}{b:Bool}(hx:rd μ x=some (.dtt b (dd O (subs n)))){s:List Int}(hs:s∈subs n)(x0 x6 x7:Option SV)(A B:List (List Int))(hA:A.length<1000)(hB:B.length<1000) :
  ∃y6 y7,GP [x0,some x,some (.val (.int n)),some (.cel μ.length),some (.cel (μ.length+1)),some (.val (li s)),x6,x7] (μ++[(true,.lst (A.map li)),(true,.lst (B.map li))]) =
   .nx [x0,some x,some (.val (.int n)),some (.cel μ.length),some (.cel (μ.length+1)),some (.val (li s)),y6,y7] (μ++[(true,.lst ((ifA (lsB O s) A s).map li)),(true,.lst ((ifA (grB O n s) B s).map li))]):=by
 have hl:=sub_len hs
 have rw_:eE (n:Int)=true:=d7 (by omega) (by omega)
 have lsn:(bK 0 n).length≤szL:=by rw[cC];unfold szL;omega
 have lss:(s.map T.int).length≤szL:=by rw[List.length_map];unfold szL;omega
 have lis:li s=.lst (s.map T.int):=rfl
 have ft:∀s,aD (li s)=some (tu s):=λs=>rfl
 have c6:∀M,bY (λ_=>True) (ao 0) (dC (.bl true)) (aJ (bo (aa 1)) [none,some 0] (ao 0) (ah fNe (aa 0) (aa 1)) (aa 0)) [none,some (.val (li s))] (s.map T.int) M=.ok (s.map λh=>li (less s h)) M:=by
  intro M
  rw[nq (λh=>li (less s h)) trivial s]
  intro h hm
  have ec:=A8 s h M
  refine⟨_,rfl,?_⟩
  simp?! only[lis,ec,lss]
 have c7:∀M,bY (λ_=>True) (ao 0) (ah iB (aa 0) (aa 1)) (dUn jm (ah bg (aa 1) (bC [(aa 0)]))) [none,some (.val (li s))] (bK 0 n) M=.ok (((bc 0 n).filter λh=>decide (h∉s)).map λh=>li (more s h)) M:=by
  intro M
  rw[iS,d8 (λh=>decide (h∉s)) (λh=>li (more s h)) trivial (bc 0 n)]
  intro h hm
  have h4:=yj h s
  have fa:bg (li s) (.lst [.int h])=some (li (s++[h])):=by
   unfold li
   rw[iO _ _ (by simp[szL];omega),List.map_append];rfl
  have fs:=A7 (s++[h]) (by rw[List.length_append];simp;omega)
  refine⟨_,rfl,?_,λhq=>?_⟩
  ·simp?! only[h4]
  ·simp?! only[fa,fs]
   rfl
 have ls6:(s.map λh=>li (less s h)).length≤szL:=by rw[List.length_map];unfold szL;omega
 have k1:=GS hn hx hs x0 (some (.val (.int n))) (some (.cel (μ.length+1))) (some (.val (.lst (((bc 0 n).filter λh=>decide (h∉s)).map λh=>li (more s h))))) A (true,.lst (B.map li)) hA
 have k2:=GU hn hx hs x0 (some (.val (.int n))) (some (.cel μ.length)) (some (.val (.lst (s.map λh=>li (less s h))))) B (true,.lst ((ifA (lsB O s) A s).map li)) hB
 refine⟨some (.val (.lst (s.map λh=>li (less s h)))),some (.val (.lst (((bc 0 n).filter λh=>decide (h∉s)).map λh=>li (more s h)))),?_⟩
 rw[show GP=ar (az 6 (aJ (bo (aa 5)) [none,some 5] (ao 0) (dC (.bl true)) (aJ (bo (aa 1)) [none,some 0] (ao 0) (ah fNe (aa 0) (aa 1)) (aa 0)))) (ar (az 7 (aJ (aI (aa 2)) [none,some 5] (ao 0) (ah iB (aa 0) (aa 1)) (dUn jm (ah bg (aa 1) (bC [(aa 0)]))))) (ar GQ GR)) from rfl]
 generalize GQ=d1 at k1
 generalize GR=d2 at k2
 have is:bx (li s)=some (s.map T.int):=rfl
 simp?! only[is,c6,lss,rw_,Int.toNat_natCast,c7,lsn,k1,k2]
theorem tq(p:List Int→Bool)(l:List (List Int))(s:List Int):(l++[s]).filter p=ifA (p s) (l.filter p) s:=by
 unfold ifA
 cases q:p s<;>simp[q]
def kR(O:List Int→Bool)(n:Nat):T:=.tup [.lst ((srt (LL O n)).map li),.lst ((srt (GG O n)).map li)]
theorem JZ{O:List Int→Bool}{n:Nat}(hn:n≤8)(h1:(LL O n).length<64)(h2:(GG O n).length<64){x:SV}{μ:af}{b:Bool}(hx:rd μ x=some (.dtt b (dd O (subs n)))) :
  fh [.val (.lst ((subs n).map li)),x,.val (.int n)] μ=.ok (.val (kR O n)) μ:=by
 have hsm:=fQ hn
 obtain⟨e',M',hf,x5,x6,x7,rfl,rfl⟩:=d0 (same:=λ_=>True) (b:=ao 5) (ts:=(subs n).map li) (body:=GP)
  (I:=λi e M=>∃x5 x6 x7,e=[some (.val (.lst ((subs n).map li))),some x,some (.val (.int n)),some (.cel μ.length),some (.cel (μ.length+1)),x5,x6,x7]∧M=μ++[(true,.lst ((((subs n).take i).filter (lsB O)).map li)),(true,.lst ((((subs n).take i).filter (grB O n)).map li))])
  (λ_ _ _ _=>trivial) (λj t e M ht ak=>by
   obtain⟨x5,x6,x7,he,hM⟩:=ak
   subst he hM
   rw[List.getElem?_map] at ht
   obtain⟨s,q1,rfl⟩:=Option.map_eq_some_iff.mp ht
   have hs:s∈subs n:=List.mem_of_getElem? q1
   obtain⟨e1,e2⟩:=nV (dM n) q1
   have hlt:∀P:List Int→Bool,(((subs n).take j).filter P).length<1000:=λP=>by
    have a1:=List.length_filter_le P ((subs n).take j)
    have a2:=List.length_take_le j (subs n)
    have a3:=List.length_take_le' j (subs n)
    omega
   obtain⟨y6,y7,k⟩:=Eh hn hx hs (some (.val (.lst ((subs n).map li)))) x6 x7 (((subs n).take j).filter (lsB O)) (((subs n).take j).filter (grB O n)) (hlt _) (hlt _)
   refine⟨_,_,μ++[(true,.lst ((((subs n).take (j+1)).filter (lsB O)).map li)),(true,.lst ((((subs n).take (j+1)).filter (grB O n)).map li))],rfl,?_,some (.val (li s)),y6,y7,rfl,rfl⟩
   rw[e1,tq,tq]
   exact k)
  (e:=[some (.val (.lst ((subs n).map li))),some x,some (.val (.int n)),some (.cel μ.length),some (.cel (μ.length+1)),none,none,none]) (μ:=μ++[(true,.lst []),(true,.lst [])]) ⟨none,none,none,rfl,rfl⟩
 rw[List.length_map,List.take_length] at hf
 have s1:=kN _ h1
 have s2:=kN _ h2
 unfold fh
 rw[fM,Dl,vO]
 unfold qm
 simp?! only[]
 rw[vP]
 unfold qo
 simp?! only[List.append_assoc,List.length_append]
 rw[vQ,show qp=bF (bo (aa 0)) (ao 5) GP from rfl]
 simp?! only[hf]
 rw[vR]
 unfold qq
 have r1:(μ++[(true,T.lst ((LL O n).map li)),(true,T.lst ((GG O n).map li))])[μ.length]?=some (true,T.lst ((LL O n).map li)):=jl
 have r2:(μ++[(true,T.lst ((LL O n).map li)),(true,T.lst ((GG O n).map li))])[μ.length+1]?=some (true,T.lst ((GG O n).map li)):=yU
 rw[show List.filter (lsB O) (subs n)=LL O n from rfl,show List.filter (grB O n) (subs n)=GG O n from rfl]
 have rt:(μ++[(true,T.lst ((LL O n).map li)),(true,T.lst ((GG O n).map li))]).take μ.length=μ:=tY
 generalize μ++[(true,T.lst ((LL O n).map li)),(true,T.lst ((GG O n).map li))]=M at r1 r2 rt ⊢
 simp?! only[r1,r2,s1,s2,rt]
 rfl
def rest(n:Nat)(s:List Int):List Int:=(bc 0 n).filter λh=>decide (h∉s)
theorem A9:∀n:Nat,(bc 0 n).Pairwise (·<·):=λn=>by
 unfold bc
 rw[List.pairwise_map]
 exact List.pairwise_lt_range.imp λh=>by omega
theorem Ei(n:Nat)(s:List Int):rest n s∈subs n:=by
 refine aZ.mpr ⟨(A9 n).filter _,λx hx=>?_⟩
 have:=gO.mp (List.mem_filter.mp hx).1
 omega
theorem tw{n:Nat}(s:List Int)(M:af):bY (λ_=>True) (ao 0) (ah iB (aa 0) (aa 1)) (aa 0) [none,some (.val (li s))] (bK 0 n) M=.ok ((rest n s).map T.int) M:=by
 rw[iS,d8 (λh=>decide (h∉s)) T.int trivial (bc 0 n)]
 ·rfl
 ·intro h hm
  have h4:=yj h s
  refine⟨_,rfl,?_,λhq=>?_⟩
  ·simp?! only[h4]
  ·simp?! only[]
theorem GV{p:Int}{w:Nat}{rows:Rows}(H:Tbl p w rows){n:Nat}(hn:n≤8)(s:List Int)(μ:af):jC [.val (tb p w rows),.val (.int n),.val (li s)] μ=.ok (.val (.bl (!ow p w rows (rest n s)))) μ:=by
 have rw_:eE (n:Int)=true:=d7 (by omega) (by omega)
 have lsn:(bK 0 n).length≤szL:=by rw[cC];unfold szL;omega
 have h1:=yh H (rest n s) μ
 have ec:=tw (n:=n) s μ
 unfold li at h1
 unfold jC Dj
 simp?! only[rw_,Int.toNat_natCast,lsn,ec,h1]
theorem tE(a b:List Int)(h:a.length≤1000)(μ:af):aX [.val (li a),.val (li b)] μ=.ok (.val (.bl (a.all λx=>decide (x∈b)))) μ:=by
 have ls:(a.map T.int).length≤szL:=by rw[List.length_map];unfold szL;omega
 have ec:bY (λ_=>True) (ao 0) (ah iB (aa 0) (aa 1)) (aa 0) [none,some (.val (li b))] (a.map T.int) μ=.ok ((a.filter λh=>decide (h∉b)).map T.int) μ:=by
  rw[d8 (λh=>decide (h∉b)) T.int trivial a]
  intro h hm
  have h4:=yj h b
  refine⟨_,rfl,?_,λhq=>?_⟩
  ·simp?! only[h4]
  ·simp?! only[]
 have is:bx (li a)=some (a.map T.int):=rfl
 have fe:fEq (.lst ((a.filter λh=>decide (h∉b)).map T.int)) (.lst [])=some (.bl (a.all λx=>decide (x∈b))):=by
  have:=pE (a.filter λh=>decide (h∉b)) []
  rw[List.map_nil] at this
  rw[this]
  congr 2
  rw[Bool.eq_iff_iff]
  simp
 unfold aX kZ
 simp?! only[is,ls,ec,fe]
def whB:DS:=(sIf (dOr (h8 (dIs .list (aa 2))) (ah fNe (aJ (bo (aa 2)) [none] (ao 0) (dIs .bool (aa 0)) (aa 0)) (bC []))) (aM (dC (.bl false))) b7)
theorem Ht(x0 x2:Option SV)(k:Nat)(b:Bool)(A:List (List Int))(hl:∀s∈A,s.length≤1000)(M:af)(hk:M[k]?=some (b,.lst (A.map li))) :
  ∃y2,bF (bo (aa 1)) (ao 2) whB [x0,some (.cel k),x2] M=.nx [x0,some (.cel k),y2] M:=by
 obtain⟨e',M',hf,y2,rfl,rfl⟩:=d0 (same:=λμ'=>rd μ' (.cel k)=rd M (.cel k)) (b:=ao 2) (ts:=A.map li) (body:=whB)
  (I:=λi e M1=>∃y2,e=[x0,some (.cel k),y2]∧M=M1)
  (λ_ _ _ ak=>by obtain⟨_,_,h⟩:=ak;subst h;rfl) (λj t e M1 ht df=>by
   obtain⟨y2,he,hM⟩:=df
   subst he hM
   rw[List.getElem?_map] at ht
   obtain⟨s,q1,rfl⟩:=Option.map_eq_some_iff.mp ht
   have hs:=hl s (List.mem_of_getElem? q1)
   have ls:(s.map T.int).length≤szL:=by rw[List.length_map];unfold szL;omega
   have ec:bY (λ_=>True) (ao 0) (dIs .bool (aa 0)) (aa 0) [none] (s.map T.int) M=.ok [] M:=by
    rw[d8 (λ_=>false) T.int trivial s]
    ·simp
    ·intro k _
     refine⟨_,rfl,?_,λhq=>by cases hq⟩
     rfl
   have i1:isS .list M (.val (li s))=some (.bl true):=rfl
   have is:bx (li s)=some (s.map T.int):=rfl
   refine⟨_,_,M,rfl,?_,some (.val (li s)),rfl,rfl⟩
   unfold whB
   simp?! only[wQ,i1,is,ls,ec])
  (e:=[x0,some (.cel k),x2]) (μ:=M) ⟨x2,rfl,rfl⟩
 refine⟨y2,?_⟩
 have hr:rd M (.cel k)=some (.lst (A.map li)):=by show (M[k]?).map (·.2)=_;rw[hk];rfl
 rw[jf,oU]
 show R.toS ((R.lift (slot [x0,some (.cel k),x2] 1) M).bind _) _ _=_
 rw[bW,bV,R.aK,R.aT,hr,Option.bind_some,eh,R.aK,R.aT,R.b5]
 exact hf
theorem Ej(k j:Nat)(b c:Bool)(A B:List (List Int))(hA:∀s∈A,s.length≤1000)(hB:∀s∈B,s.length≤1000)(M:af)(hk:M[k]?=some (b,.lst (A.map li)))(hj:M[j]?=some (c,.lst (B.map li))) :
  dX [.box [.inr k,.inr j]] M=.ok (.val (.bl true)) M:=by
 obtain⟨y2,h1⟩:=Ht (some (.box [.inr k,.inr j])) none k b A hA M hk
 obtain⟨z2,h2⟩:=Ht (some (.box [.inr k,.inr j])) y2 j c B hB M hj
 unfold dX
 rw[show mM=ar (zo (aa 0) 1 (bF (bo (aa 1)) (ao 2) whB)) (aM (j0 (dIs .tuple (aa 0)) (j0 (dIs .list (aU (aa 0) (dC (.int 0)))) (dIs .list (aU (aa 0) (dC (.int 1))))))) from rfl]
 generalize bF (bo (aa 1)) (ao 2) whB=lp at h1 h2
 have eb:Dh (.box [.inr k,.inr j])=some [.cel k,.cel j]:=rfl
 have l1:oA 1 lp [.cel k,.cel j] [some (.box [.inr k,.inr j]),none,none] M=.nx [some (.box [.inr k,.inr j]),some (.cel j),z2] M:=by
  rw[yZ _ h1,yZ _ h2,Cv]
 have i0:isS .tuple M (.box [.inr k,.inr j])=some (.bl true):=rfl
 have i1:isS .list M (.cel k)=some (.bl true):=by unfold isS rd;simp[hk];rfl
 have i2:isS .list M (.cel j)=some (.bl true):=by unfold isS rd;simp[hj];rfl
 have p1:∀a,pick (Sum.inr a)=.cel a:=λ_=>rfl
 simp?! only[Di,eb,l1,wQ,i0,p1,i1,i2]
theorem GW(a b:Bool):fEq (.bl a) (.bl b)=some (.bl (a==b)):=by cases a<;>cases b<;>rfl
theorem zE(a b:Bool):fNe (.bl a) (.bl b)=some (.bl (!(a==b))):=by cases a<;>cases b<;>rfl
def lpB:DS:=(ar (az 8 (aJ (aI (aa 2)) [none,some 5] (ao 0) (ah iB (aa 0) (aa 1)) (aa 0)))
 (ar (az 9 (aw (cal jC) [(aa 1),(aa 2),(dUn iP (aa 5))]))
 (ar (sIf (dOr (h8 (dIs .bool (aa 9))) (ah fEq (aa 9) (ah bH (aa 4) (dUn aD (aa 8))))) (aM (dC (.bl false))) b7)
 (ar (az 10 (aJ (bo (aU (aa 6) (dC (.int 0)))) [none,some 5] (ao 0) (aw (cal aX) [(aa 0),(aa 1)]) (aa 0)))
 (ar (az 11 (aJ (bo (aU (aa 6) (dC (.int 1)))) [none,some 5] (ao 0) (aw (cal aX) [(aa 1),(aa 0)]) (aa 0)))
 (sIf (dOr (ah fNe (ah bH (aa 4) (dUn aD (aa 5))) (ah fNe (aa 10) (bC []))) (ah fNe (ah bH (aa 4) (dUn aD (aa 5))) (ah fEq (aa 11) (bC [])))) (aM (dC (.bl false))) b7))))))
section
variable{p:Int}{w:Nat}{rows:Rows}{n:Nat}
theorem A_(O:List Int→Bool)(mono:∀s t,s∈subs n→t∈subs n→(∀x∈s,x∈t)→O s=true→O t=true){s:List Int}(hs:s∈subs n):O s=!((srt (LL O n)).filter λt=>t.all λx=>decide (x∈s)).isEmpty:=by
 rw[Bool.eq_iff_iff,v_ O mono hs,Bool.not_eq_true',List.isEmpty_eq_false_iff_exists_mem]
 constructor
 ·rintro⟨t,h1,h2⟩
  refine⟨t,List.mem_filter.mpr ⟨jM.mpr (List.mem_filter.mpr ⟨h1.1,(lX h1.1).mpr h1⟩),?_⟩⟩
  exact List.all_eq_true.mpr λx hx=>decide_eq_true (h2 x hx)
 ·rintro⟨t,ht⟩
  obtain⟨h1,h2⟩:=List.mem_filter.mp ht
  obtain⟨h3,h4⟩:=List.mem_filter.mp (jM.mp h1)
  exact⟨t,(lX h3).mp h4,λx hx=>of_decide_eq_true (List.all_eq_true.mp h2 x hx)⟩
theorem Ba(O:List Int→Bool)(mono:∀s t,s∈subs n→t∈subs n→(∀x∈s,x∈t)→O s=true→O t=true){s:List Int}(hs:s∈subs n):O s=((srt (GG O n)).filter λt=>s.all λx=>decide (x∈t)).isEmpty:=by
 have key:O s=false↔∃t,t∈(srt (GG O n)).filter λt=>s.all λx=>decide (x∈t):=by
  rw[wa O mono hs]
  constructor
  ·rintro⟨t,h1,h2⟩
   refine⟨t,List.mem_filter.mpr ⟨jM.mpr (List.mem_filter.mpr ⟨h1.1,(lY h1.1).mpr h1⟩),?_⟩⟩
   exact List.all_eq_true.mpr λx hx=>decide_eq_true (h2 x hx)
  ·rintro⟨t,ht⟩
   obtain⟨h1,h2⟩:=List.mem_filter.mp ht
   obtain⟨h3,h4⟩:=List.mem_filter.mp (jM.mp h1)
   exact⟨t,(lY h3).mp h4,λx hx=>of_decide_eq_true (List.all_eq_true.mp h2 x hx)⟩
 rw[← List.isEmpty_eq_false_iff_exists_mem] at key
 cases h1:O s<;>cases h2:((srt (GG O n)).filter λt=>s.all λx=>decide (x∈t)).isEmpty<;>simp_all
theorem GX(H:Tbl p w rows)(hn:n≤8){x:SV}{M:af}{b:Bool}(hx:rd M x=some (.dtt b (dd (ow p w rows) (subs n)))){s:List Int}(hs:s∈subs n)
  (mono:∀s t,s∈subs n→t∈subs n→(∀x∈s,x∈t)→ow p w rows s=true→ow p w rows t=true) (h1:(LL (ow p w rows) n).length<64) (h2:(GG (ow p w rows) n).length<64) (x0 x3 x7 x8 x9 x10 x11:Option SV) :
  ∃y8 y9 y10 y11,lpB [x0,some (.val (tb p w rows)),some (.val (.int n)),x3,some x,some (.val (li s)),some (.val (kR (ow p w rows) n)),x7,x8,x9,x10,x11] M =
   .nx [x0,some (.val (tb p w rows)),some (.val (.int n)),x3,some x,some (.val (li s)),some (.val (kR (ow p w rows) n)),x7,y8,y9,y10,y11] M:=by
 have rw_:eE (n:Int)=true:=d7 (by omega) (by omega)
 have lsn:(bK 0 n).length≤szL:=by rw[cC];unfold szL;omega
 have hl:=sub_len hs
 have ec:=tw (n:=n) s M
 have hb:=GV H hn s M
 have g1:=fY hx (Ei n s)
 have g2:=fY hx hs
 have i1:=A_ (ow p w rows) mono hs
 have i2:=Ba (ow p w rows) mono hs
 have bd:∀t∈srt (LL (ow p w rows) n),t.length≤1000:=λt ht=>by
  have:=sub_len (List.mem_filter.mp (jM.mp ht)).1
  omega
 have l1:((srt (LL (ow p w rows) n)).map li).length≤szL:=by rw[List.length_map,uP];unfold szL;omega
 have l2:((srt (GG (ow p w rows) n)).map li).length≤szL:=by rw[List.length_map,uP];unfold szL;omega
 have e1:bY (λ_=>True) (ao 0) (aw (cal aX) [(aa 0),(aa 1)]) (aa 0) [none,some (.val (li s))] ((srt (LL (ow p w rows) n)).map li) M=.ok (((srt (LL (ow p w rows) n)).filter λt=>t.all λx=>decide (x∈s)).map li) M:=by
  rw[fv li (λt=>t.all λx=>decide (x∈s)) li trivial]
  intro t ht
  have q:=tE t s (bd t ht) M
  refine⟨_,rfl,?_,λ_=>?_⟩
  ·simp?! only[q]
  ·simp?! only[]
 have e2:bY (λ_=>True) (ao 0) (aw (cal aX) [(aa 1),(aa 0)]) (aa 0) [none,some (.val (li s))] ((srt (GG (ow p w rows) n)).map li) M=.ok (((srt (GG (ow p w rows) n)).filter λt=>s.all λx=>decide (x∈t)).map li) M:=by
  rw[fv li (λt=>s.all λx=>decide (x∈t)) li trivial]
  intro t ht
  have q:=tE s t (by omega) M
  refine⟨_,rfl,?_,λ_=>?_⟩
  ·simp?! only[q]
  ·simp?! only[]
 generalize ((srt (LL (ow p w rows) n)).filter λt=>t.all λx=>decide (x∈s))=A at i1 e1
 generalize ((srt (GG (ow p w rows) n)).filter λt=>s.all λx=>decide (x∈t))=B at i2 e2
 refine⟨some (.val (li (rest n s))),some (.val (.bl (!ow p w rows (rest n s)))),some (.val (.lst (A.map li))),some (.val (.lst (B.map li))),?_⟩
 have fe:=GW (!ow p w rows (rest n s)) (ow p w rows (rest n s))
 have hne:((!ow p w rows (rest n s))==ow p w rows (rest n s))=false:=by cases ow p w rows (rest n s)<;>rfl
 rw[hne] at fe
 have f1:=zE (ow p w rows s) (!A.isEmpty)
 have f2:=zE (ow p w rows s) B.isEmpty
 rw[← i1,beq_self_eq_true,Bool.not_true] at f1
 rw[← i2,beq_self_eq_true,Bool.not_true] at f2
 have n1:=Eg A
 have n2:=rg B
 rw[← i1] at n1
 rw[← i2] at n2
 have fl:iP (li s)=some (li s):=rfl
 have ib:∀b,isS .bool M (.val (.bl b))=some (.bl true):=λ_=>rfl
 have lir:T.lst ((rest n s).map T.int)=li (rest n s):=rfl
 unfold lpB kR
 simp?! only[rw_,Int.toNat_natCast,lsn,ec,hb,fl,lir,wQ,ib,dY,g1,fe,l1,l2,e1,e2,g2,n1,n2,f1,f2]
end
section
variable{p:Int}{w:Nat}{rows:Rows}{n:Nat}
theorem GY:∀s t,s∈subs n→t∈subs n→(∀x∈s,x∈t)→ow p w rows s=true→ow p w rows t=true:=λs t _ _ h o=>(iN t).mpr (GC h ((iN s).mp o))
theorem J0(h0:0<n)(hn:n≤8)(F:Fit p w n rows):(LL (ow p w rows) n).length<64∧(GG (ow p w rows) n).length<64:=by
 have e0:[]∈subs n:=aZ.mpr ⟨.nil,λ_ h=>(nomatch h)⟩
 have e1:[0]∈subs n:=aZ.mpr ⟨List.pairwise_singleton _ _,λx hx=>by rw[List.mem_singleton] at hx;omega⟩
 rcases F with h|h|⟨rfl,W⟩|⟨X,rfl,W⟩
 ·refine⟨few h h0 _ λa b=>?_,few h h0 _ λa b=>?_⟩
  ·have a1:=((lX e0).mp a).2.1
   have b1:=((lX e1).mp b).2.2 0 (by simp)
   have:Sets.less [0] 0=[]:=by simp[Sets.less]
   rw[this,a1] at b1
   cases b1
  ·have a1:=((lY e0).mp a).2.2 0 (by omega) (by simp)
   have b1:=((lY e1).mp b).2.1
   have:more [] 0=[0]:=rfl
   rw[this,b1] at a1
   cases a1
 ·exact⟨A0 iN (by omega) _ λs hs q=>(lX hs).mp q,A1 iN (by omega) _ λs hs q=>(lY hs).mp q⟩
 ·exact⟨uM hn _ λs hs q=>A4 W iN ((lX hs).mp q),uM hn _ λs hs q=>A5 W iN ((lY hs).mp q)⟩
 ·exact⟨uM hn _ λs hs q=>A2 W iN ((lX hs).mp q),A3 W hn iN _ λs hs q=>(lY hs).mp q⟩
end
def ptB:DS:=(oi 4 (dUn aD (aa 5)) (ah fEq (aU (aw (cal dq) [(aa 1),(aa 5)]) (dC (.int 0))) (dC (.str "open"))))
theorem GZ{p:Int}{w:Nat}{rows:Rows}(H:Tbl p w rows){n:Nat}(hn:n≤8)(x0 x2 x3:Option SV) :
  ∃x5,forL (λ_=>True) (ao 5) ptB ((subs n).map li) [x0,some (.val (tb p w rows)),x2,x3,some (.cel 0),none,none,none,none,none,none,none] [(true,.dtt false [])] =
   .nx [x0,some (.val (tb p w rows)),x2,x3,some (.cel 0),x5,none,none,none,none,none,none] [(true,.dtt false (dd (ow p w rows) (subs n)))]:=by
 have hs:=fQ hn
 obtain⟨e',M',hf,x5,rfl,rfl⟩:=d0 (same:=λ_=>True) (b:=ao 5) (ts:=(subs n).map li) (body:=ptB)
  (I:=λi e M=>∃x5,e=[x0,some (.val (tb p w rows)),x2,x3,some (.cel 0),x5,none,none,none,none,none,none]∧M=[(true,.dtt false (dd (ow p w rows) ((subs n).take i)))])
  (λ_ _ _ _=>trivial) (λj t e M ht ak=>by
   obtain⟨x5,he,hM⟩:=ak
   subst he hM
   rw[List.getElem?_map] at ht
   obtain⟨s,h1,rfl⟩:=Option.map_eq_some_iff.mp ht
   obtain⟨e1,e2⟩:=nV (dM n) h1
   obtain⟨a,t,h3,h5⟩:=uN H s [(true,.dtt false (dd (ow p w rows) ((subs n).take j)))]
   have h4:=Ed [] (dd (ow p w rows) ((subs n).take j)) s (ow p w rows s) (by unfold dd szL;rw[List.length_map,List.length_take];omega)
   rw[Eb e2,← e1] at h4
   have h4:ka (.cel 0) (tu s) (.bl (ow p w rows s)) [(true,.dtt false (dd (ow p w rows) ((subs n).take j)))]=some [(true,.dtt false (dd (ow p w rows) ((subs n).take (j+1))))]:=h4
   refine⟨_,_,[(true,.dtt false (dd (ow p w rows) ((subs n).take (j+1))))],rfl,?_,some (.val (li s)),rfl,rfl⟩
   unfold ptB
   simp?! only[vF,h3,h5,dY,h4])
  (e:=[x0,some (.val (tb p w rows)),x2,x3,some (.cel 0),none,none,none,none,none,none,none]) (μ:=[(true,.dtt false [])]) ⟨none,rfl,rfl⟩
 rw[List.length_map,List.take_length] at hf
 exact⟨x5,hf⟩
theorem G0{p:Int}{w:Nat}{rows:Rows}{n:Nat}(H:Tbl p w rows)(hn:n≤8){x:SV}{M:af}{b:Bool}(hx:rd M x=some (.dtt b (dd (ow p w rows) (subs n))))
  (h1:(LL (ow p w rows) n).length<64) (h2:(GG (ow p w rows) n).length<64) (x0 x3 x5 x7:Option SV) :
  ∃y5 y8 y9 y10 y11,forL (λ_=>True) (ao 5) lpB ((subs n).map li) [x0,some (.val (tb p w rows)),some (.val (.int n)),x3,some x,x5,some (.val (kR (ow p w rows) n)),x7,none,none,none,none] M =
   .nx [x0,some (.val (tb p w rows)),some (.val (.int n)),x3,some x,y5,some (.val (kR (ow p w rows) n)),x7,y8,y9,y10,y11] M:=by
 obtain⟨e',M',hf,y5,y8,y9,y10,y11,rfl,rfl⟩:=d0 (same:=λ_=>True) (b:=ao 5) (ts:=(subs n).map li) (body:=lpB)
  (I:=λi e M1=>∃y5 y8 y9 y10 y11,e=[x0,some (.val (tb p w rows)),some (.val (.int n)),x3,some x,y5,some (.val (kR (ow p w rows) n)),x7,y8,y9,y10,y11]∧M=M1)
  (λ_ _ _ _=>trivial) (λj t e M1 ht ak=>by
   obtain⟨y5,y8,y9,y10,y11,he,hM⟩:=ak
   subst he hM
   rw[List.getElem?_map] at ht
   obtain⟨s,q1,rfl⟩:=Option.map_eq_some_iff.mp ht
   obtain⟨z8,z9,z10,z11,k⟩:=GX H hn hx (List.mem_of_getElem? q1) GY h1 h2 x0 x3 x7 y8 y9 y10 y11
   exact⟨_,_,M,rfl,k,some (.val (li s)),z8,z9,z10,z11,rfl,rfl⟩)
  (e:=[x0,some (.val (tb p w rows)),some (.val (.int n)),x3,some x,x5,some (.val (kR (ow p w rows) n)),x7,none,none,none,none]) (μ:=M) ⟨x5,none,none,none,none,rfl,rfl⟩
 exact⟨y5,y8,y9,y10,y11,hf⟩
theorem J1(O:List Int→Bool)(n:Nat):okT 100 (kR O n)=true:=by
 unfold kR
 rw[E3,m7,m7,mj,ic,ic,uQ,uQ]
 rfl
theorem holds(ns:List Int)(hl:ns.length≤63):∃μ',nN [.val (.lst (ns.map T.int))] []=.ok (.val (.bl true)) μ':=by
 obtain⟨p,w,rows,n,ht,H,⟨h0,hn⟩,F⟩:=Ea ns []
 obtain⟨f1,f2⟩:=J0 h0 hn F
 have hs:=D6 hn []
 obtain⟨x5,hp⟩:=GZ H hn (some (.val (.lst (ns.map T.int)))) (some (.val (.int n))) (some (.val (.lst ((subs n).map li))))
 have hd:=JZ (O:=ow p w rows) hn f1 f2 (x:=.cel 0) (μ:=[(true,.dtt false (dd (ow p w rows) (subs n)))]) rfl
 have hK:=JX H hn f1 f2 [(true,.dtt false (dd (ow p w rows) (subs n)))]
 refine⟨[],?_⟩
 show (Dm (starts 12 [.val (.lst (ns.map T.int))]) []).rB 0=_
 rw[Jr,AB]
 unfold xw
 simp?! only[ht,gF]
 rw[AD]
 unfold xx
 simp?! only[hs]
 rw[AE]
 unfold xy
 simp?! only[]
 rw[AF,show xA=bF (bo (aa 3)) (ao 5) ptB from rfl]
 simp?! only[hp]
 rw[AG]
 unfold xB
 simp?! only[hd]
 rw[AH]
 unfold xC
 generalize hD:(true,T.dtt false (dd (ow p w rows) (subs n)))=D0 at hK hd ⊢
 generalize hE:(false,T.dtt true (dd (ow p w rows) (subs n)))=D1 at hK ⊢
 have hK:dG [.val (tb p w rows),.val (.int n)] [D0]=.ok (.box [.inr 2,.inr 3]) [D0,D1,(true,.lst ((srt (LL (ow p w rows) n)).map li)),(true,.lst ((srt (GG (ow p w rows) n)).map li))]:=hK
 simp?! only[hK]
 rw[AI]
 unfold xD
 have bd:∀t∈srt (LL (ow p w rows) n),t.length≤1000:=λt ht=>by
  have:=sub_len (List.mem_filter.mp (jM.mp ht)).1
  omega
 have bd2:∀t∈srt (GG (ow p w rows) n),t.length≤1000:=λt ht=>by
  have:=sub_len (List.mem_filter.mp (jM.mp ht)).1
  omega
 have hw:=Ej 2 3 true true _ _ bd bd2 [D0,D1,(true,.lst ((srt (LL (ow p w rows) n)).map li)),(true,.lst ((srt (GG (ow p w rows) n)).map li))] rfl rfl
 have r1:rdX [D0,D1,(true,.lst ((srt (LL (ow p w rows) n)).map li)),(true,.lst ((srt (GG (ow p w rows) n)).map li))] (.box [.inr 2,.inr 3])=some (kR (ow p w rows) n):=rfl
 have r2:∀M t,rdX M (.val t)=some t:=λ_ _=>rfl
 have okd:=J1 (ow p w rows) n
 have eqd:=pD 100 _ okd
 have eb:eqB true (kR (ow p w rows) n) (kR (ow p w rows) n)=some (.bl false):=by
  unfold eqB
  rw[if_pos ⟨okd,okd⟩,eqd]
  rfl
 simp?! only[Dg,r1,r2,eb,hw]
 rw[AJ,show xE=bF (bo (aa 3)) (ao 5) lpB from rfl]
 obtain⟨y5,y8,y9,y10,y11,hl7⟩:=G0 H hn (x:=.cel 0) (M:=[D0,D1,(true,.lst ((srt (LL (ow p w rows) n)).map li)),(true,.lst ((srt (GG (ow p w rows) n)).map li))]) (b:=false) (by rw[← hD];rfl) f1 f2 (some (.val (.lst (ns.map T.int)))) (some (.val (.lst ((subs n).map li)))) x5 (some (.box [.inr 2,.inr 3]))
 simp?! only[hl7]
 rw[AK]
 unfold xF
 have pk:∀a,pick (Sum.inr a)=.cel a:=λ_=>rfl
 have l8:mq (.cel 2) [D0,D1,(true,.lst ((srt (LL (ow p w rows) n)).map li)),(true,.lst ((srt (GG (ow p w rows) n)).map li))]=some ():=rfl
 have a8:appendAt (.cel 2) (.lst [.int 0]) [D0,D1,(true,.lst ((srt (LL (ow p w rows) n)).map li)),(true,.lst ((srt (GG (ow p w rows) n)).map li))]=some [D0,D1,(true,.lst ((srt (LL (ow p w rows) n)).map li++[.lst [.int 0]])),(true,.lst ((srt (GG (ow p w rows) n)).map li))] :=
  append_at (k:=2) (ts:=(srt (LL (ow p w rows) n)).map li) rfl (by rw[List.length_map,uP];unfold szL;omega)
 simp?! only[pk,l8,a8]
 rw[AL]
 unfold xG
 have c9:oZ (.cel 3) [D0,D1,(true,.lst ((srt (LL (ow p w rows) n)).map li++[.lst [.int 0]])),(true,.lst ((srt (GG (ow p w rows) n)).map li))]=some [D0,D1,(true,.lst ((srt (LL (ow p w rows) n)).map li++[.lst [.int 0]])),(true,.lst [])]:=rfl
 simp?! only[pk,c9]
 rw[xR]
 unfold uw
 have hV:=JY H hn f1 f2 [D0,D1,(true,.lst ((srt (LL (ow p w rows) n)).map li++[.lst [.int 0]])),(true,.lst [])]
 have hV:dH [.val (tb p w rows),.val (.int n)] [D0,D1,(true,.lst ((srt (LL (ow p w rows) n)).map li++[.lst [.int 0]])),(true,.lst [])]=.ok (.val (kR (ow p w rows) n)) _:=hV
 have fe:fEq (kR (ow p w rows) n) (kR (ow p w rows) n)=some (.bl true):=by rw[tU okd okd,eqd]
 simp?! only[hV,fe]
end Fw.k33
open PySem PySem.W PyProof.Rows
namespace PySem.W.Fast
theorem te6157676413404577571 : True := trivial
theorem tw2292255485070115233 : True := trivial
theorem tw8389991400514925893 : True := trivial
theorem tw6583408440863603678 : True := trivial
theorem tw9725446596930000904 : True := trivial
theorem tw11424950218645846903 : True := trivial
theorem tw201980872566075817 : True := trivial
theorem tw14667802739572707777 : True := trivial
theorem tw11113772475036967694 : True := trivial
theorem tw14726535054622050227 : True := trivial
theorem tw17419484621985326873 : True := trivial
theorem tw15023449031071467568 : True := trivial
theorem tw2212015624351675633 : True := trivial
theorem tw17583045002386181902 : True := trivial
theorem tw7807029566209150062 : True := trivial
theorem tw10368390608161881345 : True := trivial
theorem tw8238464153054854702 : True := trivial
theorem tw3614299827247744997 : True := trivial
theorem tw8495686154320612554 : True := trivial
theorem tw5679341011582239420 : True := trivial
theorem tw10855933659657198151 : True := trivial
theorem tw16424613660778316775 : True := trivial
theorem tw12344323796773729562 : True := trivial
theorem tw10610988357894214504 : True := trivial
end PySem.W.Fast
set_option maxRecDepth 100000 in
set_option maxHeartbeats 0 in
theorem PySem.Challenge.cw_fewopen_k33_least_and_greatest_holds : PySem.Challenge.rw_fewopen_k33_least_and_greatest.Holds := by
 w_on;o_law;k_head;(case hw=>w_witness2)
 k_fill
 refine Fw.k33.walk (l:=PySem.Challenge.rw_fewopen_k33_least_and_greatest) rfl rfl Fw.k33.holds (λw h Y=>PySem.W.kIn_of Y) ?F
 case F =>
  intro w mg fa h KX G hmg
  refine' Fw.k33.all_mk KX G hmg ?a0 ?l0 ?c0 ?k0 ?a1 ?l1 ?c1 ?k1 ?a2 ?l2 ?c2 ?k2 ?a3 ?l3 ?c3 ?k3 ?a4 ?l4 ?c4 ?k4 ?a5 ?l5 ?c5 ?k5 ?a6 ?l6 ?c6 ?k6 ?a7 ?l7 ?c7 ?k7 ?a8 ?l8 ?c8 ?k8 ?a9 ?l9 ?c9 ?k9 ?a10 ?l10 ?c10 ?k10 ?a11 ?l11 ?c11 ?k11 ?a12 ?l12 ?c12 ?k12 ?a13 ?l13 ?c13 ?k13 ?a14 ?l14 ?c14 ?k14 ?a15 ?l15 ?c15 ?k15 ?a16 ?l16 ?c16 ?k16 ?a17 ?l17 ?c17 ?k17 ?a18 ?l18 ?c18 ?k18 ?a19 ?l19 ?c19 ?k19 ?a20 ?l20 ?c20 ?k20 ?a21 ?l21 ?c21 ?k21 ?a22 ?l22 ?c22 ?k22 ?a23 ?l23 ?c23 ?k23 ?a24 ?l24 ?c24 ?k24 ?a25 ?l25 ?c25 ?k25 ?a26 ?l26 ?c26 ?k26 ?a27 ?l27 ?c27 ?k27 ?a28 ?l28 ?c28 ?k28 ?a29 ?l29 ?c29 ?k29 ?a30 ?l30 ?c30 ?k30 ?z0 ?z1 ?z2 ?z3 ?z4 ?z5 ?z6 ?z7 ?z8 ?z9 ?z10 ?z11
  (case a0=>k_is)
  (case l0=>k_is)
  (case c0=>k_is)
  (case k0=>k_is)
  (case a1=>k_is)
  (case l1=>k_is)
  (case c1=>k_is)
  (case k1=>k_is)
  (case a2=>k_is)
  (case l2=>k_is)
  (case c2=>k_is)
  (case k2=>k_is)
  (case a3=>k_is)
  (case l3=>k_is)
  (case c3=>k_is)
  (case k3=>k_is)
  (case a4=>k_is)
  (case l4=>k_is)
  (case c4=>k_is)
  (case k4=>k_is)
  (case a5=>k_is)
  (case l5=>k_is)
  (case c5=>k_is)
  (case k5=>k_is)
  (case a6=>k_is)
  (case l6=>k_is)
  (case c6=>k_is)
  (case k6=>k_is)
  (case a7=>k_is)
  (case l7=>k_is)
  (case c7=>k_is)
  (case k7=>k_is)
  (case a8=>k_is)
  (case l8=>k_is)
  (case c8=>k_is)
  (case k8=>k_is)
  (case a9=>k_is)
  (case l9=>k_is)
  (case c9=>k_is)
  (case k9=>k_is)
  (case a10=>k_is)
  (case l10=>k_is)
  (case c10=>k_is)
  (case k10=>k_is)
  (case a11=>k_is)
  (case l11=>k_is)
  (case c11=>k_is)
  (case k11=>k_is)
  (case a12=>k_is)
  (case l12=>k_is)
  (case c12=>k_is)
  (case k12=>k_is)
  (case a13=>k_is)
  (case l13=>k_is)
  (case c13=>k_is)
  (case k13=>k_is)
  (case a14=>k_is)
  (case l14=>k_is)
  (case c14=>k_is)
  (case k14=>k_is)
  (case a15=>k_is)
  (case l15=>k_is)
  (case c15=>k_is)
  (case k15=>k_is)
  (case a16=>k_is)
  (case l16=>k_is)
  (case c16=>k_is)
  (case k16=>k_is)
  (case a17=>k_is)
  (case l17=>k_is)
  (case c17=>k_is)
  (case k17=>k_is)
  (case a18=>k_is)
  (case l18=>k_is)
  (case c18=>k_is)
  (case k18=>k_is)
  (case a19=>k_is)
  (case l19=>k_is)
  (case c19=>k_is)
  (case k19=>k_is)
  (case a20=>k_is)
  (case l20=>k_is)
  (case c20=>k_is)
  (case k20=>k_is)
  (case a21=>k_is)
  (case l21=>k_is)
  (case c21=>k_is)
  (case k21=>k_is)
  (case a22=>k_is)
  (case l22=>k_is)
  (case c22=>k_is)
  (case k22=>k_is)
  (case a23=>k_is)
  (case l23=>k_is)
  (case c23=>k_is)
  (case k23=>k_is)
  (case a24=>k_is)
  (case l24=>k_is)
  (case c24=>k_is)
  (case k24=>k_is)
  (case a25=>k_is)
  (case l25=>k_is)
  (case c25=>k_is)
  (case k25=>k_is)
  (case a26=>k_is)
  (case l26=>k_is)
  (case c26=>k_is)
  (case k26=>k_is)
  (case a27=>k_is)
  (case l27=>k_is)
  (case c27=>k_is)
  (case k27=>k_is)
  (case a28=>k_is)
  (case l28=>k_is)
  (case c28=>k_is)
  (case k28=>k_is)
  (case a29=>k_is)
  (case l29=>k_is)
  (case c29=>k_is)
  (case k29=>k_is)
  (case a30=>k_is)
  (case l30=>k_is)
  (case c30=>k_is)
  (case k30=>k_is)
  (case z0=>k_is)
  (case z1=>k_is)
  (case z2=>k_is)
  (case z3=>k_is)
  (case z4=>k_is)
  (case z5=>k_is)
  (case z6=>k_is)
  (case z7=>k_is)
  (case z8=>k_is)
  (case z9=>k_is)
  (case z10=>k_is)
  (case z11=>k_is)
