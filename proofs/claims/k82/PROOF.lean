import PyProof.Rows.All
import Wide.All
import OpenK.AllK
import Wide.FinOn
import Lean
import PyProof.EqAt
import PyProof.EqKinds
import PyProof.TupleCall
import PyProof.NeData
import PyProof.P3Eq
import PyProof.ConsumeWalk
import PyProof.ZipIter
import PyProof.DictItemsLoops
import KE.KDictList
import KE.KPairComp
import PyProof.Draws
import PyProof.EnumMake
import PyProof.EnumFor
import PyProof.ListRange
import PyProof.ListMulAny
import KE.KRevIter
import PyProof.Rows.SortShell
import PyProof.ListNew
import KE.KDictIter
import PyProof.DictWalks
import PyProof.StrCalls2
import KE.KSortAsk
import KE.KEqDict
import PySem.Challenge.RW_fewopen_k82_idle_hands
set_option compiler.extract_closed false
set_option bootstrap.genMatcherCode false
set_option genSizeOf false
set_option Elab.async false
set_option linter.all false
set_option maxRecDepth 100000
noncomputable section
namespace L2
open PySem PySem.Spec PyProof.Rows
noncomputable abbrev Key := Sum Int Str
def qr:Key→Value→Bool
 | .inl k,v=>Value.isInt k v
 | .inr x,v=>Value.isStrOf x v
def OO(w:World):Key→Int
 | .inl k=>hashInt k
 | .inr x=>hashStr w x
theorem cA:∀{k:Key}{v:Value},qr k v=true→(∃i t,k=Sum.inl i∧v=Value.int i t)∨(∃x t,k=Sum.inr x∧v=Value.str x t)
 | .inl i,v,h=>by
  obtain⟨t,e⟩:=Value.isInt_shape (k:=i) (v:=v) h
  exact .inl ⟨i,t,rfl,e⟩
 | .inr x,v,h=>by
  obtain⟨t,e⟩:=Value.isStrOf_shape (x:=x) (v:=v) h
  exact .inr ⟨x,t,rfl,e⟩
theorem BE(i:Int)(t:Tok):qr (.inl i) (.int i t)=true:=by simp[qr,Value.isInt]
theorem BF(x:Str)(t:Tok):qr (.inr x) (.str x t)=true:=by simp[qr,Value.isStrOf]
theorem JF(a b:Int):decide ((Sum.inl a:Key)=Sum.inl b)=(a==b):=by
 by_cases e:a=b
 ·subst e;simp
 ·have h:¬ (Sum.inl a:Key)=Sum.inl b:=λq=>e (Sum.inl.inj q)
  rw[decide_eq_false h]
  exact (beq_eq_false_iff_ne.mpr e).symm
theorem JG(a b:Str):decide ((Sum.inr a:Key)=Sum.inr b)=decide (a=b):=by
 by_cases e:a=b
 ·subst e;simp
 ·have h:¬ (Sum.inr a:Key)=Sum.inr b:=λq=>e (Sum.inr.inj q)
  rw[decide_eq_false h,decide_eq_false e]
theorem JH(a:Int)(b:Str):decide ((Sum.inl a:Key)=Sum.inr b)=false:=decide_eq_false (λq=>nomatch q)
theorem JI(a:Str)(b:Int):decide ((Sum.inr a:Key)=Sum.inl b)=false:=decide_eq_false (λq=>nomatch q)
def cm(prog:Program)(w:World):PySem.KeyKind prog w Key where
 is:=qr
 hash:=OO w
 inj:=λv a b ha hb=>by
  rcases cA ha with ⟨i,t,rfl,rfl⟩|⟨x,t,rfl,rfl⟩
  ·rcases cA hb with ⟨j,u,rfl,e⟩|⟨y,u,rfl,e⟩
   ·injection e with e1 _;rw[e1]
   ·exact nomatch e
  ·rcases cA hb with ⟨j,u,rfl,e⟩|⟨y,u,rfl,e⟩
   ·exact nomatch e
   ·injection e with e1 _;rw[e1]
 byValue:=λk v h=>by
  rcases cA h with ⟨i,t,rfl,rfl⟩|⟨x,t,rfl,rfl⟩<;>rfl
 pyHash:=λhv h=>by
  rcases cA hv with ⟨i,t,rfl,rfl⟩|⟨x,t,rfl,rfl⟩
  ·exact wpAny_pyHash_int h
  ·exact wpAny_pyHash_str h
 eqBool:=λhu hv h=>by
  rcases cA hu with ⟨i,t,rfl,rfl⟩|⟨x,t,rfl,rfl⟩
  ·rcases cA hv with ⟨j,u,rfl,rfl⟩|⟨y,u,rfl,rfl⟩
   ·rw[JF] at h;exact wpAny_eqBool_int h
   ·rw[JH] at h;exact SeqAt.EqAt.int_str i t y u _ _ _ _ h
  ·rcases cA hv with ⟨j,u,rfl,rfl⟩|⟨y,u,rfl,rfl⟩
   ·rw[JI] at h;exact SeqAt.EqAt.str_int x t j u _ _ _ _ h
   ·rw[JG] at h;exact wpAny_eqBool_str h
 «strs»:=λk x t v h=>by
  rcases cA h with ⟨i,u,rfl,e⟩|⟨y,u,rfl,e⟩
  ·exact nomatch e
  ·injection e with e1 _
   subst e1
   cases v<;>rfl
theorem wM(prog:Program)(w:World)(i:Int)(t:Tok):(cm prog w).is (.inl i) (.int i t)=true:=BE i t
theorem wN(prog:Program)(w:World)(x:Str)(t:Tok):(cm prog w).is (.inr x) (.str x t)=true:=BF x t
inductive V where
 | non|bl (b:Bool)|int (i:Int)|str (x:Str)|byt (b:Array UInt8)|flt (b:UInt64)|ref (a:Addr)|ty (n:String)
 deriving DecidableEq
def RelV:V→Value→Prop
 | .non,u=>u=Value.none
 | .bl b,u=>u=Value.bool b
 | .int i,u=>∃t,u=Value.int i t
 | .str x,u=>∃t,u=Value.str x t
 | .byt b,u=>∃t,u=Value.bytes b t
 | .flt b,u=>∃t,u=Value.float b t
 | .ref a,u=>u=Value.ref a
 | .ty n,u=>u=Value.type n
noncomputable abbrev Vals : List V → List Value → Prop := Paired RelV
theorem Vals.length{xs:List V}{us:List Value}(r:Vals xs us):xs.length=us.length:=Paired.length r
theorem Vals.get:∀{xs:List V}{us:List Value}{i:Nat}{x:V},Vals xs us→xs[i]?=some x→∃u,us[i]?=some u∧RelV x u
 | _,_,_,_,.nil,e=>by simp at e
 | _,_,0,_,.cons r _,e=>by simp at e;subst e;exact⟨_,rfl,r⟩
 | _,_,i+1,x,.cons _ t,e=>by
  obtain⟨u,h1,h2⟩:=Vals.get (i:=i) (x:=x) t (by simpa using e)
  exact⟨u,by simpa using h1,h2⟩
theorem Vals.set{x:V}{u:Value}(r:RelV x u):∀{xs:List V}{us:List Value} (i:Nat),Vals xs us→Vals (xs.set i x) (us.set i u)
 | _,_,_,.nil=>.nil
 | _,_,0,.cons _ t=>.cons r t
 | _,_,i+1,.cons q t=>.cons q (Vals.set r i t)
theorem Vals.append:∀{xs ys:List V}{us ws:List Value},Vals xs us→Vals ys ws→Vals (xs++ys) (us++ws)
 | _,_,_,_,.nil,s=>s
 | _,_,_,_,.cons r t,s=>.cons r (Vals.append t s)
theorem Vals.take:∀{xs:List V}{us:List Value} (n:Nat),Vals xs us→Vals (xs.take n) (us.take n)
 | _,_,0,_=>.nil
 | _,_,_+1,.nil=>.nil
 | _,_,n+1,.cons r t=>.cons r (Vals.take n t)
theorem Vals.drop:∀{xs:List V}{us:List Value} (n:Nat),Vals xs us→Vals (xs.drop n) (us.drop n)
 | _,_,0,r=>r
 | _,_,_+1,.nil=>.nil
 | _,_,n+1,.cons _ t=>Vals.drop n t
def mI:Option V→Option Value→Prop
 | some v,some u=>RelV v u
 | none,none=>True
 | _,_=>False
def KV{κ:Type}:List (κ×V)→List (κ×Value)→Prop:=Paired λ(p:κ×V) (q:κ×Value)=>p.1=q.1∧RelV p.2 q.2
def kV:Key→V
 | .inl i=>.int i
 | .inr x=>.str x
inductive HO where
 | lst (xs:List V)
 | tup (xs:List V)
 | dK (kvs:List (Key×V))|dT (kvs:List (List Key×V))
 | set (S:Int→Bool) (n:Nat)
 | ins (C dx:Addr) (fs:List (Str×V))
 | own (x:Addr)
 | xd (fs:List (Str×V))
 | met (f x:Addr)
 | rng (lo hi:Int)
 | frz (o:Obj) (u:HO)
 | tbl (ps:Array Value)
 | ext (φ:Heap→Prop)
noncomputable abbrev Hp := Addr → Option HO
def upd(H:Hp)(a:Addr)(o:HO):Hp:=λb=>if b=a then some o else H b
theorem aB{H:Hp}{a:Addr}{o:HO}:upd H a o a=some o:=by unfold upd;rw[if_pos rfl]
theorem aE{H:Hp}{a b:Addr}{o:HO}(h:b≠a):upd H a o b=H b:=by unfold upd;rw[if_neg h]
theorem Mn{H:Hp}{a b:Addr}{o u:HO}(h:H a=some o)(h':H b=some u)(d:o≠u):a≠b:=by
 intro e;subst e;rw[h] at h';exact d (Option.some.inj h')
theorem dj{H:Hp}{a b:Addr}{o:HO}(h:H a=some o)(h':H b=none):a≠b:=by
 intro e;subst e;rw[h] at h';cases h'
section
variable(P:Program)(w:World)
def cL(H:Hp)(h:Heap)(a:Addr):HO→Prop
 | .lst xs=>xs.length≤sizeLine∧∃(its:List Value) (n:Nat),Vals xs its∧h.get? a=some { cls:=.type "list",data:=.seq its.toArray n }
 | .tup xs=>xs.length≤sizeLine∧∃its:List Value,Vals xs its∧IsTup h a its.toArray
 | .dK kvs=>kvs.length≤sizeLine∧(a==sysModules)=false∧∃vs,KV kvs vs∧h.DictAt (cm P w) a vs vs.length
 | .dT kvs=>kvs.length≤sizeLine∧(a==sysModules)=false∧∃xs:List (List Key×Addr×Value),
   Paired (λ(p:List Key×V) (q:List Key×Addr×Value)=>p.1=q.1∧H q.2.1=some (.tup (p.1.map kV))∧RelV p.2 q.2.2) kvs xs ∧
   ∃o es ep,h.get? a=some o∧o.ExactDict∧o.data=.dict es ep∧es.toList=xs.map (entryOfKey (tupleKind (cm P w)))∧(xs.map (·.1)).Nodup
 | .set S n=>h.SetOf (intKind P w) a S n
 | .ins C dx fs=>H dx=some (.own a)∧fs.length≤1000∧dx≠a∧h.get? a=some (PySem.W.instObj C dx) ∧
   ∃mA,h.Ns1 dx mA∧(∀f,mI (fs.lookup f) (mA f))∧PySem.Within mA (fs.map (·.1))
 | .own _=>∃o,h.get? a=some o
 | .xd fs=>∃mA,h.Ns1 a mA∧∀f,mI (fs.lookup f) (mA f)
 | .rng lo hi=>∃t u v,h.get? a=some { cls:=.type "range",data:=.fields #[.int lo t,.int hi u,.int 1 v] }
 | .frz o u=>h.get? a=some o∧cL H h a u
 | .tbl ps=>h.get? a=some { cls:=.none,data:=.fields ps }
 | .met f x=>h.get? a=some (PySem.W.methodObj (.ref f) (.ref x))
 | .ext φ=>φ h∧(∃o,h.get? a=some o)∧∀h1 h2:Heap,φ h1→(∀o,h1.get? a=some o→h2.get? a=some o)→φ h2
def HOk(H:Hp)(h:Heap):Prop:=∀a o,H a=some o→cL P w H h a o
end
section
variable{P:Program}{w:World}{H H':Hp}{h h':Heap}{a:Addr}{o:HO}
theorem cL.lt(x:cL P w H h a o):a<h.objs.size:=by
 cases o with
 | lst xs=>obtain⟨_,_,_,_,e⟩:=x;exact Heap.lt_size e
 | tup xs=>obtain⟨_,_,_,p⟩:=x;exact p.lt
 | dK kvs=>obtain⟨_,_,_,_,o,_,e,_⟩:=x;exact Heap.lt_size e
 | dT kvs=>obtain⟨_,_,_,_,o,_,_,e,_⟩:=x;exact Heap.lt_size e
 | set S n=>obtain⟨o,_,_,_,e,_⟩:=x;exact Heap.lt_size e
 | ins C dx fs=>obtain⟨_,_,_,e,_⟩:=x;exact Heap.lt_size e
 | own y=>obtain⟨_,e⟩:=x;exact Heap.lt_size e
 | xd fs=>obtain⟨_,⟨_,_,_,e,_⟩,_⟩:=x;exact Heap.lt_size e
 | rng lo hi=>obtain⟨_,_,_,e⟩:=x;exact Heap.lt_size e
 | frz ob u=>obtain⟨e,_⟩:=x;exact Heap.lt_size e
 | tbl ps=>exact Heap.lt_size (show h.get? a=some _ from x)
 | met f y=>exact Heap.lt_size (show h.get? a=some _ from x)
 | ext φ=>obtain⟨_,⟨_,e⟩,_⟩:=x;exact Heap.lt_size e
theorem Paired.GK{α β:Type}{F G:α→β→Prop}:∀{l₁:List α}{l₂:List β},Paired F l₁ l₂→(∀a b,F a b→G a b)→Paired G l₁ l₂
 | _,_,.nil,_=>.nil
 | _,_,.cons r t,f=>.cons (f _ _ r) (Paired.GK t f)
theorem Paired.imp'{α β:Type}{F G:α→β→Prop}(f:∀a b,F a b→G a b){l₁:List α}{l₂:List β}(r:Paired F l₁ l₂):Paired G l₁ l₂:=Paired.GK r f
theorem cL.wO(x:cL P w H h a o)(k:∀b u,(b=a∨H b=some (.own a))→h.get? b=some u→h'.get? b=some u)
  (ho:∀b,H b=some (.own a)→H' b=some (.own a)) (ht:∀b xs,H b=some (.tup xs)→H' b=some (.tup xs)):cL P w H' h' a o:=by
 induction o with
 | lst xs=>obtain⟨z,its,n,r,e⟩:=x;exact⟨z,its,n,r,k _ _ (.inl rfl) e⟩
 | tup xs=>obtain⟨z,its,r,ob,e,c⟩:=x;exact⟨z,its,r,ob,k _ _ (.inl rfl) e,c⟩
 | dK kvs=>obtain⟨z,y,vs,r,ob,es,e,c⟩:=x;exact⟨z,y,vs,r,ob,es,k _ _ (.inl rfl) e,c⟩
 | dT kvs =>
  obtain⟨z,y,xs,r,ob,es,ep,e,c⟩:=x
  exact⟨z,y,xs,Paired.GK r λp q z=>⟨z.1,ht _ _ z.2.1,z.2.2⟩,ob,es,ep,k _ _ (.inl rfl) e,c⟩
 | set S n=>obtain⟨ob,es,ep,t,e,c⟩:=x;exact⟨ob,es,ep,t,k _ _ (.inl rfl) e,c⟩
 | ins C dx fs =>
  obtain⟨d,z,ne,e,mA,⟨od,es,ep,e2,c⟩,r⟩:=x
  exact⟨ho _ d,z,ne,k _ _ (.inl rfl) e,mA,⟨od,es,ep,k _ _ (.inr d) e2,c⟩,r⟩
 | own y=>obtain⟨ob,e⟩:=x;exact⟨ob,k _ _ (.inl rfl) e⟩
 | xd fs=>obtain⟨mA,⟨od,es,ep,e,c⟩,r⟩:=x;exact⟨mA,⟨od,es,ep,k _ _ (.inl rfl) e,c⟩,r⟩
 | rng lo hi=>obtain⟨t,u,v,e⟩:=x;exact⟨t,u,v,k _ _ (.inl rfl) e⟩
 | frz ob u ih=>obtain⟨e,q⟩:=x;exact⟨k _ _ (.inl rfl) e,ih q⟩
 | tbl ps =>
  have e:h.get? a=some { cls:=.none,data:=.fields ps }:=x
  show h'.get? a=some { cls:=.none,data:=.fields ps }
  exact k a _ (.inl rfl) e
 | met f y =>
  have e:h.get? a=some (PySem.W.methodObj (.ref f) (.ref y)):=x
  show h'.get? a=some (PySem.W.methodObj (.ref f) (.ref y))
  exact k a _ (.inl rfl) e
 | ext φ=>obtain⟨p,⟨o,e⟩,st⟩:=x;exact⟨st _ _ p λo q=>k _ _ (.inl rfl) q,⟨o,k _ _ (.inl rfl) e⟩,st⟩
theorem HOk.lt(x:HOk P w H h)(e:H a=some o):a<h.objs.size:=(x a o e).lt
theorem HOk.fresh(x:HOk P w H h)(e:h.objs.size≤a):H a=none:=by
 cases q:H a with
 | none=>rfl
 | some u=>exact absurd (Nat.lt_of_lt_of_le (x.lt q) e) (Nat.lt_irrefl _)
theorem HOk.kept(x:HOk P w H h)(k:∀b u,h.get? b=some u→h'.get? b=some u):HOk P w H h':=λa o e =>
 (x a o e).wO (λb u _ q=>k b u q) (λ_ q=>q) λ_ _ q=>q
theorem HOk.laid(x:HOk P w H h)(k:∀b u,h.get? b=some u→h'.get? b=some u)(hp:h.objs.size≤a)(new:cL P w (upd H a o) h' a o):HOk P w (upd H a o) h':=λb u e=>by
 have hn:=x.fresh hp
 by_cases hb:b=a
 ·subst hb;rw[aB] at e;cases e;exact new
 ·rw[aE hb] at e
  exact (x b u e).wO (λc v _ q=>k c v q) (λc q=>by rw[aE (dj q hn)];exact q) λc xs q=>by rw[aE (dj q hn)];exact q
end
def Rd(H:Hp)(a:Addr)(u:HO):Prop:=H a=some u∨∃o,H a=some (.frz o u)
theorem Rd.ok{P:Program}{w:World}{H:Hp}{h:Heap}{a:Addr}{u:HO}(r:Rd H a u)(x:HOk P w H h):cL P w H h a u:=by
 rcases r with r|⟨o,r⟩
 ·exact x a u r
 ·obtain⟨_,q⟩:=x a _ r
  exact q
def Mut:Option HO→Prop
 | some (.lst _)=>True
 | some (.dK _)=>True
 | some (.dT _)=>True
 | some (.set _ _)=>True
 | some (.ins _ _ _)=>True
 | some (.ext _)=>True
 | _=>False
section
variable{P:Program}{w:World}{H:Hp}{h h':Heap}{x e:Addr}{o':HO}
theorem HOk.write(ok:HOk P w H h)(mu:Mut (H x))(he:e=x∨H e=some (.own x))(k:∀b u,b≠e→h.get? b=some u→h'.get? b=some u)(heo:∃u,h'.get? e=some u)
  (new:cL P w (upd H x o') h' x o'):HOk P w (upd H x o') h':=λb u q=>by
 have Mo:∀c y,H c=some (.own y)→c≠x:=λc y r z=>by subst z;rw[r] at mu;exact mu
 have OP:∀c xs,H c=some (.tup xs)→c≠x:=λc xs r z=>by subst z;rw[r] at mu;exact mu
 by_cases hb:b=x
 ·subst hb;rw[aB] at q;cases q;exact new
 ·rw[aE hb] at q
  by_cases hbe:b=e
  ·have q':H b=some (.own x):=by
    rcases he with z|z
    ·exact absurd (hbe.trans z) hb
    ·rw[hbe];exact z
   rw[q] at q';cases q'
   obtain⟨v,hv⟩:=heo
   exact⟨v,by rw[hbe];exact hv⟩
  ·refine (ok b u q).wO (λc v hc r=>k c v ?_ r) (λc r=>by rw[aE (Mo c b r)];exact r) λc xs r=>by rw[aE (OP c xs r)];exact r
   rcases hc with rfl|hc
   ·exact hbe
   ·rintro rfl
    rcases he with z|z
    ·exact Mo c b hc z
    ·rw[hc] at z;cases z;exact hb rfl
end
structure Un(fs ex:List Addr)(H H':Hp)(h h':Heap):Prop where
 keep:∀b o,h.get? b=some o→H b=none→b∉fs→b∉ex→h'.get? b=some o
 slot:∀b o,h.get? b=some o→H b=none→b∈fs→b∉ex→∃sl,h'.get? b=some { o with slots:=sl }
 free:∀b o,h.get? b=some o→H b=none→b∉ex→H' b=none
 there:∀b o,h.get? b=some o→b∉ex→∃o',h'.get? b=some o'
 tf:∀b xs,H b=some (.tup xs)→H' b=some (.tup xs)
 eQ:∀b o u,H b=some (.frz o u)→H' b=some (.frz o u)
 tj:∀b ps,H b=some (.tbl ps)→∃more,H' b=some (.tbl (ps++more))
section
variable{fs fs' ex ex':List Addr}{H H1 H2:Hp}{h h1 h2 h':Heap}{a x e:Addr}{o:HO}
theorem Un.any(u:Un fs ex H H1 h h1){b:Addr}{ob:Obj}(q:h.get? b=some ob)(n:H b=none)(hx:b∉ex):∃sl,h1.get? b=some { ob with slots:=sl }:=by
 by_cases hb:b∈fs
 ·exact u.slot b ob q n hb hx
 ·exact⟨ob.slots,u.keep b ob q n hb hx⟩
theorem Un.kept(k:∀b u,h.get? b=some u→h'.get? b=some u):Un fs ex H H h h' :=
 ⟨λb ob q _ _ _=>k b ob q,λb ob q _ _ _=>⟨ob.slots,k b ob q⟩,λ_ _ _ n _=>n,λb ob q _=>⟨ob,k b ob q⟩,λ_ _ q=>q,λ_ _ _ q=>q,λ_ ps q=>⟨#[],by rw[q];simp⟩⟩
theorem Un.refl:Un fs ex H H h h:=Un.kept λ_ _ q=>q
theorem Un.laid(k:∀b u,h.get? b=some u→h'.get? b=some u)(hp:h.objs.size≤a)(hn:H a=none):Un fs ex H (upd H a o) h h' where
 keep:=λb u q _ _ _=>k b u q
 slot:=λb u q _ _ _=>⟨u.slots,k b u q⟩
 free:=λb u q n _=>by rw[aE (Nat.ne_of_lt (Nat.lt_of_lt_of_le (Heap.lt_size q) hp))];exact n
 there:=λb u q _=>⟨u,k b u q⟩
 tf:=λb xs q=>by rw[aE (dj q hn)];exact q
 eQ:=λb u xs q=>by rw[aE (dj q hn)];exact q
 tj:=λb ps q=>⟨#[],by rw[aE (dj q hn),q];simp⟩
theorem Un.write(mu:Mut (H x))(he:e=x∨H e=some (.own x))(k:∀b u,b≠e→h.get? b=some u→h'.get? b=some u)(heo:∃u,h'.get? e=some u):Un fs ex H (upd H x o) h h':=by
 have hx:∀b,H b=none→b≠x:=λb n z=>by subst z;rw[n] at mu;exact mu
 have hb:∀b,H b=none→b≠e:=λb n z=>by
  subst z
  rcases he with r|r
  ·exact hx b n r
  ·rw[n] at r;cases r
 have hm:∀b u,H b=some u→¬ Mut (some u)→b≠x:=λb u q nm z=>by subst z;rw[q] at mu;exact nm mu
 refine⟨λb u q n _ _=>k b u (hb b n) q,λb u q n _ _=>⟨u.slots,k b u (hb b n) q⟩,λb u q n _=>by rw[aE (hx b n)];exact n,λb u q _=>?_,
  λb xs q=>by rw[aE (hm b _ q λz=>z)];exact q,λb u xs q=>by rw[aE (hm b _ q λz=>z)];exact q,λb ps q=>⟨#[],by rw[aE (hm b _ q λz=>z),q];simp⟩⟩
 by_cases hbe:b=e
 ·subst hbe;exact heo
 ·exact⟨u,k b u hbe q⟩
end
def trk(h:Heap)(H:Hp):List Addr:=(List.range h.objs.size).filter λa=>(H a).isSome
def uX(h:Heap)(H:Hp):Heap:=PySem.W.hideAll h (trk h H)
theorem BG(h:Heap)(H:Hp):(uX h H).objs.size=h.objs.size:=PySem.W.hideAll_size _ _
theorem Dd{h:Heap}{H:Hp}{b:Addr}{o:Obj}(e:h.get? b=some o)(n:H b=none):(uX h H).get? b=some o :=
 PySem.W.hideAll_get _ e λhm=>by
  have q:(H b).isSome=true:=(List.mem_filter.mp hm).2
  rw[n] at q;simp at q
theorem GL{h:Heap}{H:Hp}{b:Addr}{o:Obj}(e:(uX h H).get? b=some o):h.get? b=some o∧H b=none:=by
 have e':h.get? b=some o:=PySem.W.of_hideAll (trk h H) e
 refine⟨e',?_⟩
 cases q:H b with
 | none=>rfl
 | some x =>
  have hm:b∈trk h H:=List.mem_filter.mpr ⟨List.mem_range.mpr (Heap.lt_size e'),by simp[q]⟩
  have z:(uX h H).get? b=none:=PySem.W.hideAll_none (trk h H) hm
  rw[z] at e;cases e
structure Mod(K:PySem.W.Frag)(mg:Str→Option Value)(base:Heap):Prop where
 kin:K.In base
 glob:base.Ns mainGlobals mg
 blt:∃mb,base.Ns builtinsNs mb∧∀x:Str,x≠"__name__"→mb x=bootBuiltins x
 nolimit:base.NoLimit
structure Cx where
 prog:Program
 w:World
 K:PySem.W.Frag
 mg:Str→Option Value
 base:Heap
 A:Around
 N:List Str
 s₀:Shared
 H₀:Hp
 env:Env
 outer:List Env
 stack:List Env
 ex:List Addr
 fn:Str→Bool
 calm:Bool
 pn:List (Addr×Obj)
 xe:Value→Shared→Prop
def frs(l:List Env):List Addr:=l.filterMap (·.frame)
noncomputable abbrev Cx.fs (X : Cx) : List Addr := frs X.outer
def Vis(sc:Scope)(x:Str):Prop:=sc.names.lookup x=some .local∨sc.names.lookup x=some .cell∨sc.names.lookup x=some .free
def Loc(sc:Scope)(x:Str):Prop:=sc.names.lookup x=some .local∨sc.names.lookup x=some .cell
def Look(env:Env)(h:Heap)(m:Str→Option Value)(x:Str)(u:Value):Prop :=
 (env.kindOf x=some .local∧m x=some u)∨((env.kindOf x=some .cell∨env.kindOf x=some .free)∧∃c,env.cells.lookup x=some c∧h.IsCell c (some u))
structure Cx.Ok(X:Cx):Prop where
 mod:Mod X.K X.mg X.base
 kind:X.env.scope.kind=.function
 glob:X.env.globals=mainGlobals
 blt:X.env.builtins=builtinsNs
 above:X.s₀.heap.objs.size≤X.env.locals
 inj:∀x y c,X.env.cells.lookup x=some c→X.env.cells.lookup y=some c→x=y
 has:∀x,(X.env.kindOf x=some .cell∨X.env.kindOf x=some .free)→∃c,X.env.cells.lookup x=some c
 cab:∀x c,X.fn x=true→X.env.cells.lookup x=some c→X.s₀.heap.objs.size≤c
 hd:X.calm=true→X.A.handled=none
 frames:X.A.frames=some X.stack
 stk:X.stack=X.outer∨(X.stack=X.env::X.outer∧X.env.frame=some X.env.locals)
 exf:∀b∈X.ex,b≠X.env.locals∧∀x c,X.env.cells.lookup x=some c→c≠b
 bs:∀b o,X.base.get? b=some o→X.s₀.heap.get? b=some o∧X.H₀ b=none
 bsz:X.base.objs.size≤X.s₀.heap.objs.size
 BH:∀b o,X.base.get? b=some o→b∉X.ex
 GN:∀b∈X.ex,b∉X.fs
 pQ:X.s₀.heap.FunFrames X.base X.outer
 frf:∀b∈X.fs,X.H₀ b=none
structure Inv(X:Cx)(pins:List (Addr×Obj))(σ:List (Option V))(H:Hp)(s:Shared):Prop where
 ok:X.Ok
 os:s.os=X.s₀.os
 bare:AllBare s.gens
 base:Un X.fs X.ex X.H₀ H X.s₀.heap s.heap
 loc:∃m,s.heap.Ns X.env.locals m∧∀(i:Nat) (x:Str) (v:V),X.N[i]?=some x→σ[i]?=some (some v)→Vis X.env.scope x→∃u,RelV v u∧Look X.env s.heap m x u
 cell:∀x c,X.env.cells.lookup x=some c→∃v,s.heap.IsCell c v
 free:H X.env.locals=none
 mN:∀x c,X.env.cells.lookup x=some c→H c=none
 pin:∀p∈X.pn++pins,s.heap.get? p.1=some p.2∧H p.1=none∧p.1≠X.env.locals∧p.1∉X.fs∧∀v,p.2.data≠.cell v
 hok:HOk X.prog X.w H s.heap
 len:σ.length=X.N.length
section
variable{X:Cx}{pins:List (Addr×Obj)}{σ:List (Option V)}{H H':Hp}{s:Shared}{h':Heap}
theorem Cx.Ok.OQ(ok:X.Ok){b:Addr}{o:Obj}(e:X.base.get? b=some o):b∉X.fs:=λhb=>by
 have:=(ok.pQ.mem hb).1
 rw[e] at this;cases this
theorem Inv.bs(I:Inv X pins σ H s):∀b o,X.base.get? b=some o→s.heap.get? b=some o∧H b=none:=λb o e =>
 ⟨I.base.keep b o (I.ok.bs b o e).1 (I.ok.bs b o e).2 (I.ok.OQ e) (I.ok.BH b o e),I.base.free b o (I.ok.bs b o e).1 (I.ok.bs b o e).2 (I.ok.BH b o e)⟩
theorem Inv.bk(I:Inv X pins σ H s):∀b o,X.base.get? b=some o→s.heap.get? b=some o:=λb o e=>(I.bs b o e).1
theorem Inv.mod(I:Inv X pins σ H s):Mod X.K X.mg X.base:=I.ok.mod
theorem Inv.kIn(I:Inv X pins σ H s):X.K.In s.heap:=I.ok.mod.kin.keeps I.bk
theorem Inv.nolimit(I:Inv X pins σ H s):s.heap.NoLimit:=I.ok.mod.nolimit.keeps I.bk
theorem Inv.lt(I:Inv X pins σ H s):X.env.locals<s.heap.objs.size:=let ⟨_,hn,_⟩:=I.loc;hn.lt
theorem Inv.sz(I:Inv X pins σ H s):X.s₀.heap.objs.size≤s.heap.objs.size:=Nat.le_trans I.ok.above (Nat.le_of_lt I.lt)
theorem Inv.OR(I:Inv X pins σ H s){a:Addr}(h:s.heap.objs.size≤a):a∉X.fs:=λhb=>by
 obtain⟨_,o,ho,_⟩:=I.ok.pQ.mem hb
 exact absurd (Nat.lt_of_lt_of_le (Heap.lt_size ho) (Nat.le_trans I.sz h)) (Nat.lt_irrefl _)
theorem Inv.cne(I:Inv X pins σ H s):∀x c,X.env.cells.lookup x=some c→c≠X.env.locals:=λx c e z=>by
 obtain⟨v,o,ho,hd⟩:=I.cell x c e
 obtain⟨m,⟨o',es,ep,ho',hd',_⟩,_⟩:=I.loc
 rw[z,ho'] at ho;cases ho;rw[hd'] at hd;cases hd
theorem Inv.pQ(I:Inv X pins σ H s):s.heap.FunFrames X.base X.outer:=by
 have all:∀(l:List Env),(∀b∈frs l,b∈X.fs)→X.s₀.heap.FunFrames X.base l→s.heap.FunFrames X.base l:=by
  intro l
  induction l with
  | nil=>intro _ _;trivial
  | cons env r ih =>
   intro hs hl
   obtain⟨hk,⟨L,o,hf,hn,ho,hd⟩,hr⟩:=hl
   have hL:L∈X.fs:=hs L (by unfold frs;rw[List.filterMap_cons,hf];exact List.mem_cons_self)
   obtain⟨sl,e⟩:=I.base.slot L o ho (I.ok.frf L hL) hL λz=>I.ok.GN L z hL
   exact⟨hk,⟨L,_,hf,hn,e,hd⟩,ih (λb hb=>hs b (by unfold frs;rw[List.filterMap_cons,hf];exact List.mem_cons_of_mem _ hb)) hr⟩
 exact all X.outer (λ_ hb=>hb) I.ok.pQ
theorem Inv.stack(I:Inv X pins σ H s):s.heap.FunFrames X.base X.stack:=by
 rcases I.ok.stk with e|⟨e,hf⟩
 ·rw[e];exact I.pQ
 ·rw[e]
  obtain⟨m,hn,_⟩:=I.loc
  refine .cons (by rw[I.ok.kind];decide) hf hn ?_ I.pQ
  exact Heap.get?_none_of_le (Nat.le_trans I.ok.bsz I.ok.above)
theorem Inv.uY(I:Inv X pins σ H s):∀b∈frs X.stack,b∈X.env.locals::X.fs:=λb hb=>by
 rcases I.ok.stk with e|⟨e,hf⟩
 ·rw[e] at hb;exact List.mem_cons_of_mem _ hb
 ·rw[e] at hb
  unfold frs at hb
  rw[List.filterMap_cons,hf] at hb
  exact hb
theorem Inv.Av(I:Inv X pins σ H s):∀b∈frs X.stack,H b=none:=λb hb=>by
 rcases List.mem_cons.mp (I.uY b hb) with e|hb
 ·rw[e];exact I.free
 ·obtain⟨_,o,ho,_⟩:=I.ok.pQ.mem hb
  exact I.base.free b o ho (I.ok.frf b hb) λz=>I.ok.GN b z hb
theorem Inv.step{g':Array GenState}{t':Nat}{d':Drawn}{ch:List Addr}(I:Inv X pins σ H s)
  (hch:∀b∈ch,(b∈X.ex∨X.s₀.heap.objs.size≤b)∧b≠X.env.locals∧(∀x c,X.env.cells.lookup x=some c→c≠b)∧∀p∈X.pn++pins,p.1≠b)
  (keep:∀b o,b≠X.env.locals→b∉X.fs→b∉ch→s.heap.get? b=some o→H b=none→h'.get? b=some o)
  (slot:∀b o,b≠X.env.locals→b∈X.fs→b∉ch→s.heap.get? b=some o→H b=none→∃sl,h'.get? b=some { o with slots:=sl }) (free:∀b o,b∉ch→s.heap.get? b=some o→H b=none→H' b=none)
  (there:∀b o,b∉ch→s.heap.get? b=some o→∃o',h'.get? b=some o')
  (tf:∀b xs,H b=some (.tup xs)→H' b=some (.tup xs)) (eQ:∀b o u,H b=some (.frz o u)→H' b=some (.frz o u)) (tj:∀b ps,H b=some (.tbl ps)→∃more,H' b=some (.tbl (ps++more)))
  (ns:∀m,s.heap.Ns X.env.locals m→h'.Ns X.env.locals m) (hok:HOk X.prog X.w H' h') (hg:AllBare g') :
  Inv X pins σ H' { s with heap:=h',gens:=g',drawn:=d',toks:=t' }:=by
 have neL:∀b o,X.s₀.heap.get? b=some o→b≠X.env.locals:=λb o e=>Nat.ne_of_lt (Nat.lt_of_lt_of_le (Heap.lt_size e) I.ok.above)
 have neC:∀b o,X.s₀.heap.get? b=some o→b∉X.ex→b∉ch:=λb o e hx hb=>by
  rcases (hch b hb).1 with z|z
  ·exact hx z
  ·exact absurd (Nat.lt_of_lt_of_le (Heap.lt_size e) z) (Nat.lt_irrefl _)
 have cellK:∀x c,X.env.cells.lookup x=some c→∀v,s.heap.IsCell c v→h'.IsCell c v:=λx c e v ao=>by
  obtain⟨o,ho,hd⟩:=ao
  have nch:c∉ch:=λz=>(hch c z).2.2.1 x c e rfl
  by_cases hc:c∈X.fs
  ·obtain⟨sl,q⟩:=slot c o (I.cne x c e) hc nch ho (I.mN x c e)
   exact⟨_,q,hd⟩
  ·exact⟨o,keep c o (I.cne x c e) hc nch ho (I.mN x c e),hd⟩
 refine⟨I.ok,I.os,hg,⟨λb o e n hb hx=>?_,λb o e n hb hx=>?_,λb o e n hx=>?_,λb o e hx=>?_,λb xs e=>tf b xs (I.base.tf b xs e),λb o xs e=>eQ b o xs (I.base.eQ b o xs e),λb ps e=>?_⟩,?_,λx c e=>?_,?_,λx c e=>?_,λp hp=>?_,hok,I.len⟩
 ·exact keep b o (neL b o e) hb (neC b o e hx) (I.base.keep b o e n hb hx) (I.base.free b o e n hx)
 ·obtain⟨sl,e1⟩:=I.base.slot b o e n hb hx
  obtain⟨sl',e2⟩:=slot b _ (neL b o e) hb (neC b o e hx) e1 (I.base.free b o e n hx)
  exact⟨sl',e2⟩
 ·obtain⟨o',e1⟩:=I.base.there b o e hx
  exact free b o' (neC b o e hx) e1 (I.base.free b o e n hx)
 ·obtain⟨o',e1⟩:=I.base.there b o e hx
  exact there b o' (neC b o e hx) e1
 ·obtain⟨m1,e1⟩:=I.base.tj b ps e
  obtain⟨m2,e2⟩:=tj b _ e1
  exact⟨m1++m2,by rw[e2,Array.append_assoc]⟩
 ·obtain⟨m,hn,hl⟩:=I.loc
  refine⟨m,ns m hn,λi x v e1 e2 e3=>?_⟩
  obtain⟨u,r,l⟩:=hl i x v e1 e2 e3
  refine⟨u,r,?_⟩
  rcases l with l|⟨k,c,e,z⟩
  ·exact .inl l
  ·exact .inr ⟨k,c,e,cellK x c e _ z⟩
 ·obtain⟨v,z⟩:=I.cell x c e
  exact⟨v,cellK x c e v z⟩
 ·obtain⟨m,⟨o,_,_,ho,_⟩,_⟩:=I.loc
  exact free _ o (λz=>(hch _ z).2.1 rfl) ho I.free
 ·obtain⟨v,o,ho,hd⟩:=I.cell x c e
  exact free c o (λz=>(hch c z).2.2.1 x c e rfl) ho (I.mN x c e)
 ·obtain⟨e,n,ne,nf,d⟩:=I.pin p hp
  have nch:p.1∉ch:=λz=>(hch p.1 z).2.2.2 p hp rfl
  exact⟨keep p.1 p.2 ne nf nch e n,free p.1 p.2 nch e n,ne,nf,d⟩
theorem Inv.un{t':Nat}(I:Inv X pins σ H s)(u:Un X.fs [] H H' s.heap h')(hok:HOk X.prog X.w H' h'):Inv X pins σ H' { s with heap:=h',toks:=t' }:=by
 obtain⟨m,⟨o,es,ep,ho,r⟩,_⟩:=id I.loc
 obtain⟨sl,hL⟩:=u.any ho I.free (by simp)
 exact I.step (g':=s.gens) (d':=s.drawn) (ch:=[]) (λ_ z=>nomatch z) (λb o _ hb _ e n=>u.keep b o e n hb (by simp)) (λb o _ hb _ e n=>u.slot b o e n hb (by simp)) (λb o _ e n=>u.free b o e n (by simp)) (λb o _ e=>u.there b o e (by simp)) u.tf u.eQ u.tj (λm' hm=>by
  obtain⟨o',es',ep',ho',r'⟩:=hm
  rw[ho] at ho';cases ho'
  exact⟨_,es',ep',hL,r'⟩) hok I.bare
theorem Inv.call{g':Array GenState}{t':Nat}{d':Drawn}{ch:List Addr}(I:Inv X pins σ H s)(u:Un (frs X.stack) ch H H' s.heap h')(hok:HOk X.prog X.w H' h')(hg:AllBare g')
  (hch:∀b∈ch,(b∈X.ex∨X.s₀.heap.objs.size≤b)∧b≠X.env.locals∧(∀x c,X.env.cells.lookup x=some c→c≠b)∧∀p∈X.pn++pins,p.1≠b) :
  Inv X pins σ H' { s with heap:=h',gens:=g',drawn:=d',toks:=t' }:=by
 obtain⟨m,⟨o,es,ep,ho,r⟩,_⟩:=id I.loc
 obtain⟨sl,hL⟩:=u.any ho I.free λz=>(hch _ z).2.1 rfl
 exact I.step (ch:=ch) hch (λb o hL hb hc e n=>u.keep b o e n (λz=>(List.mem_cons.mp (I.uY b z)).elim hL hb) hc) (λb o _ _ hc e n=>u.any e n hc) (λb o hc e n=>u.free b o e n hc) (λb o hc e=>u.there b o e hc) u.tf u.eQ u.tj (λm' hm=>by
  obtain⟨o',es',ep',ho',r'⟩:=hm
  rw[ho] at ho';cases ho'
  exact⟨_,es',ep',hL,r'⟩) hok hg
theorem Inv.turned{t':Nat}{it:Addr}(I:Inv X pins σ H s)(k:∀b o,b≠it→s.heap.get? b=some o→h'.get? b=some o)(hn:H it=none)(hL:it≠X.env.locals)
  (h1:it∈X.ex∨X.s₀.heap.objs.size≤it) (h2:∀x c,X.env.cells.lookup x=some c→c≠it) (h3:∀p∈X.pn++pins,p.1≠it):Inv X pins σ H { s with heap:=h',toks:=t' }:=by
 have nit:∀b u,H b=some u→b≠it:=λb u e z=>by rw[z,hn] at e;cases e
 refine I.step (g':=s.gens) (d':=s.drawn) (ch:=[it]) (λb hb=>?_) (λb o _ _ hc e _=>k b o (λz=>hc (by simp[z])) e) (λb o _ _ hc e _=>⟨o.slots,k b o (λz=>hc (by simp[z])) e⟩) (λ_ _ _ _ n=>n)
  (λb o hc e=>⟨o,k b o (λz=>hc (by simp[z])) e⟩) (λ_ _ e=>e) (λ_ _ _ e=>e) (λb ps e=>⟨#[],by rw[e];simp⟩) (λm hm=>?_) (λb u e=>?_) I.bare
 ·have e:b=it:=by simpa using hb
  subst e
  exact⟨h1,hL,h2,h3⟩
 ·obtain⟨o,es,ep,ho,r⟩:=hm
  exact⟨o,es,ep,k _ o (Ne.symm hL) ho,r⟩
 ·refine (I.hok b u e).wO (λc v hc q=>k c v ?_ q) (λ_ q=>q) λ_ _ q=>q
  rcases hc with z|z
  ·rw[z];exact nit b u e
  ·exact nit c _ z
theorem Inv.tok(I:Inv X pins σ H s)(t:Nat):Inv X pins σ H { s with toks:=t }:=I.un (h':=s.heap) (t':=t) Un.refl I.hok
theorem Inv.kept{t':Nat}(I:Inv X pins σ H s)(k:∀b u,s.heap.get? b=some u→h'.get? b=some u):Inv X pins σ H { s with heap:=h',toks:=t' }:=I.un (Un.kept k) (I.hok.kept k)
theorem Inv.laid{a:Addr}{o:HO}{t':Nat}(I:Inv X pins σ H s)(k:∀b u,s.heap.get? b=some u→h'.get? b=some u)(hp:s.heap.objs.size≤a)(new:cL X.prog X.w (upd H a o) h' a o) :
  Inv X pins σ (upd H a o) { s with heap:=h',toks:=t' }:=I.un (Un.laid k hp (I.hok.fresh hp)) (I.hok.laid k hp new)
theorem Inv.write{x e:Addr}{o:HO}{t':Nat}(I:Inv X pins σ H s)(mu:Mut (H x))(he:e=x∨H e=some (.own x))(k:∀b u,b≠e→s.heap.get? b=some u→h'.get? b=some u)(heo:∃u,h'.get? e=some u)
  (new:cL X.prog X.w (upd H x o) h' x o):Inv X pins σ (upd H x o) { s with heap:=h',toks:=t' }:=I.un (Un.write mu he k heo) (I.hok.write mu he k heo new)
theorem Inv.Aw{Ja:List (Addr×Obj)}(I:Inv X pins σ H s)(h:∀p∈Ja,s.heap.get? p.1=some p.2∧H p.1=none∧p.1≠X.env.locals∧p.1∉X.fs∧∀v,p.2.data≠.cell v):Inv X Ja σ H s :=
 ⟨I.ok,I.os,I.bare,I.base,I.loc,I.cell,I.free,I.mN,λp hp=>(List.mem_append.mp hp).elim (λz=>I.pin p (List.mem_append_left _ z)) (h p),I.hok,I.len⟩
theorem wQ{N:List Str}(hN:N.Nodup){i j:Nat}{x:Str}(a:N[i]?=some x)(b:N[j]?=some x):i=j:=by
 obtain⟨h1,e1⟩:=List.getElem?_eq_some_iff.mp a
 obtain⟨h2,e2⟩:=List.getElem?_eq_some_iff.mp b
 exact (List.getElem_inj hN).mp (e1.trans e2.symm)
theorem t8{M:Model}{A:Around}{E:Value→Shared→Prop}{i:Nat}{x:Str}{v:V}{u:Value}{Q:Unit→Shared→Prop}(I:Inv X pins σ H s)(hN:X.N.Nodup)(hi:X.N[i]?=some x)(hx:Loc X.env.scope x)(r:RelV v u)
  (h:∀s',Inv X pins (σ.set i (some v)) H s'→(∃a,Heap.SameBut a s.heap s'.heap∧(a=X.env.locals∨X.env.cells.lookup x=some a))→Q () s') (hf:X.fn x=true∨X.env.scope.names.lookup x=some .local:=by first|exact .inl rfl|exact .inr rfl|assumption):wpAny M A (storeName X.env x u) Q E s:=by
 obtain⟨m,hn,hl⟩:=id I.loc
 have OS:(X.env.scope.kind==.class || (X.env.scope.kind==.module && X.env.locals != X.env.globals))=false:=by rw[I.ok.kind];rfl
 have hiσ:i<σ.length:=by rw[I.len];exact (List.getElem?_eq_some_iff.mp hi).1
 have cne:=I.cne
 have tracked:∀{a:Addr}{h':Heap},(∃o,s.heap.get? a=some o∧H a=none)→Heap.SameBut a s.heap h'→HOk X.prog X.w H h':=λ{a h'} ha hs b ob e=>by
  obtain⟨_,_,Jb⟩:=ha
  refine (I.hok b ob e).wO (λc w' hc q=>(hs.2 c ?_).trans q) (λ_ q=>q) λ_ _ q=>q
  rintro rfl
  rcases hc with rfl|hc
  ·rw[Jb] at e;cases e
  ·rw[Jb] at hc;cases hc
 rcases hx with hk|hk
 ·refine wpAny_storeName_local hk hn (λh' hn' hs=>?_) OS
  obtain⟨oL,_,_,hoL,_⟩:=id hn
  refine h _ ⟨I.ok,I.os,I.bare,⟨λb o e n hb hx=>?_,λb o e n hb hx=>?_,I.base.free,λb o e hx=>?_,I.base.tf,I.base.eQ,I.base.tj⟩,⟨_,hn',λj y v' e1 e2 e3=>?_⟩,λy c e=>?_,I.free,I.mN,λp hp=>?_,tracked ⟨oL,hoL,I.free⟩ hs,by simpa using I.len⟩ ⟨_,hs,.inl rfl⟩
  ·exact (hs.2 b (Nat.ne_of_lt (Nat.lt_of_lt_of_le (Heap.lt_size e) I.ok.above))).trans (I.base.keep b o e n hb hx)
  ·obtain⟨sl,e1⟩:=I.base.slot b o e n hb hx
   exact⟨sl,(hs.2 b (Nat.ne_of_lt (Nat.lt_of_lt_of_le (Heap.lt_size e) I.ok.above))).trans e1⟩
  ·obtain⟨o',e1⟩:=I.base.there b o e hx
   exact⟨o',(hs.2 b (Nat.ne_of_lt (Nat.lt_of_lt_of_le (Heap.lt_size e) I.ok.above))).trans e1⟩
  ·by_cases hj:j=i
   ·subst hj
    rw[hi] at e1;cases e1
    rw[List.getElem?_set_self hiσ] at e2
    cases e2
    exact⟨u,r,.inl ⟨hk,by simp⟩⟩
   ·rw[List.getElem?_set_ne (Ne.symm hj)] at e2
    obtain⟨u',r',q⟩:=hl j y v' e1 e2 e3
    refine⟨u',r',?_⟩
    rcases q with ⟨k,e⟩|⟨k,c,e,z⟩
    ·refine .inl ⟨k,?_⟩
     have:y≠x:=λe=>hj (wQ hN e1 (e ▸ hi))
     simp[this,e]
    ·exact .inr ⟨k,c,e,z.sameBut hs (cne y c e)⟩
  ·obtain⟨w',z⟩:=I.cell y c e
   exact⟨w',z.sameBut hs (cne y c e)⟩
  ·obtain⟨e,n,ne,nf,d⟩:=I.pin p hp
   exact⟨(hs.2 p.1 ne).trans e,n,ne,nf,d⟩
 ·have hfn:X.fn x=true:=by
   rcases hf with z|z
   ·exact z
   ·rw[z] at hk;cases hk
  obtain⟨c,hc⟩:=I.ok.has x (.inl hk)
  obtain⟨w',z⟩:=I.cell x c hc
  refine wpAny_storeName_cell I.ok.kind hk hc z (λh' hc' hs=>?_)
  obtain⟨oc,hoc,OT⟩:=id z
  refine h { s with heap:=h' } ⟨I.ok,I.os,I.bare,⟨λb o e n hb hx=>?_,λb o e n hb hx=>?_,I.base.free,λb o e hx=>?_,I.base.tf,I.base.eQ,I.base.tj⟩,⟨m,hn.sameBut hs (Ne.symm (cne x c hc)),λj y v' e1 e2 e3=>?_⟩,λy c' e=>?_,I.free,I.mN,λp hp=>?_,tracked ⟨oc,hoc,I.mN x c hc⟩ hs,by simpa using I.len⟩ ⟨c,hs,.inr hc⟩
  ·exact (hs.2 b (Nat.ne_of_lt (Nat.lt_of_lt_of_le (Heap.lt_size e) (I.ok.cab x c hfn hc)))).trans (I.base.keep b o e n hb hx)
  ·obtain⟨sl,e1⟩:=I.base.slot b o e n hb hx
   exact⟨sl,(hs.2 b (Nat.ne_of_lt (Nat.lt_of_lt_of_le (Heap.lt_size e) (I.ok.cab x c hfn hc)))).trans e1⟩
  ·obtain⟨o',e1⟩:=I.base.there b o e hx
   exact⟨o',(hs.2 b (Nat.ne_of_lt (Nat.lt_of_lt_of_le (Heap.lt_size e) (I.ok.cab x c hfn hc)))).trans e1⟩
  ·by_cases hj:j=i
   ·subst hj
    rw[hi] at e1;cases e1
    rw[List.getElem?_set_self hiσ] at e2
    cases e2
    exact⟨u,r,.inr ⟨.inl hk,c,hc,hc'⟩⟩
   ·rw[List.getElem?_set_ne (Ne.symm hj)] at e2
    obtain⟨u',r',q⟩:=hl j y v' e1 e2 e3
    refine⟨u',r',?_⟩
    rcases q with q|⟨k,c',e,z'⟩
    ·exact .inl q
    ·refine .inr ⟨k,c',e,z'.sameBut hs ?_⟩
     rintro rfl
     exact hj (wQ hN e1 (I.ok.inj _ _ _ e hc ▸ hi))
  ·by_cases hcc:c'=c
   ·subst hcc;exact⟨_,hc'⟩
   ·obtain⟨w2,z2⟩:=I.cell y c' e
    exact⟨w2,z2.sameBut hs hcc⟩
  ·obtain⟨e,n,ne,nf,d⟩:=I.pin p hp
   refine⟨(hs.2 p.1 ?_).trans e,n,ne,nf,d⟩
   intro q
   rw[q,hoc] at e
   have q':oc=p.2:=Option.some.inj e
   exact d w' (by rw[← q'];exact OT)
theorem wR{M:Model}{A:Around}{E:Value→Shared→Prop}{i:Nat}{x:Str}{v:V}{u:Value}{Q:Unit→Shared→Prop}(I:Inv X pins σ H s)(hN:X.N.Nodup)(hi:X.N[i]?=some x)(hx:Loc X.env.scope x)(r:RelV v u)
  (h:∀s',Inv X pins (σ.set i (some v)) H s'→Q () s') (hf:X.fn x=true∨X.env.scope.names.lookup x=some .local:=by first|exact .inl rfl|exact .inr rfl|assumption):wpAny M A (storeName X.env x u) Q E s :=
 t8 I hN hi hx r (λs' I' _=>h s' I') hf
theorem Inv.Mp{s':Shared}{ch:List Addr}(I:Inv X pins σ H s)(ho:s'.os=s.os)(u:Un (frs X.stack) ch H H' s.heap s'.heap)(hok:HOk X.prog X.w H' s'.heap)(hg:AllBare s'.gens)
  (hch:∀b∈ch,(b∈X.ex∨X.s₀.heap.objs.size≤b)∧b≠X.env.locals∧(∀x c,X.env.cells.lookup x=some c→c≠b)∧∀p∈X.pn++pins,p.1≠b):Inv X pins σ H' s':=by
 obtain⟨h',g',d',t',o'⟩:=s'
 have e:o'=s.os:=ho
 subst e
 exact I.call (g':=g') (t':=t') (d':=d') u hok hg hch
end
noncomputable abbrev XK := Value → Option Addr → Hp → Prop
noncomputable abbrev St := List (Option V)
noncomputable abbrev VK := V → Hp → Prop
noncomputable abbrev TE := St → Hp → VK → Prop
noncomputable abbrev TT := St → Hp → (Bool → Hp → Prop) → Prop
noncomputable abbrev TA := St → Hp → (List V → Hp → Prop) → Prop
structure Ends where
 nx:St→Hp→Prop
 rt:VK
 bk:St→Hp→Prop:=λ_ _=>False
 ct:St→Hp→Prop:=λ_ _=>False
noncomputable abbrev TS := Ends → St → Hp → Prop
def EP(X:Cx)(pins:List (Addr×Obj))(σ:St)(Q:VK)(u:Value)(s':Shared):Prop:=∃v H',Inv X pins σ H' s'∧RelV v u∧Q v H'
def TP(X:Cx)(pins:List (Addr×Obj))(σ:St)(Q:Bool→Hp→Prop)(b:Bool)(s':Shared):Prop:=∃H',Inv X pins σ H' s'∧Q b H'
def AP(X:Cx)(pins:List (Addr×Obj))(σ:St)(Q:List V→Hp→Prop)(us:List Value)(s':Shared):Prop:=∃vs H',Inv X pins σ H' s'∧Vals vs us∧Q vs H'
def SP(X:Cx)(pins:List (Addr×Obj))(D:Ends)(f:Flow)(s':Shared):Prop :=
 match f with
 | .next=>∃σ' H',Inv X pins σ' H' s'∧D.nx σ' H'
 | .brk=>∃σ' H',Inv X pins σ' H' s'∧D.bk σ' H'
 | .cont=>∃σ' H',Inv X pins σ' H' s'∧D.ct σ' H'
 | .ret u=>∃v σ' H',Inv X pins σ' H' s'∧RelV v u∧D.rt v H'
def PE(X:Cx)(e:Expr)(t:TE):Prop :=
 ∀(pins:List (Addr×Obj)) (s:Shared) (σ:St) (H:Hp) (Q:VK),Inv X pins σ H s→t σ H Q→wpAny (model X.prog X.w) X.A (eval e X.env) (EP X pins σ Q) X.xe s
def PT(X:Cx)(e:Expr)(t:TT):Prop :=
 ∀(pins:List (Addr×Obj)) (s:Shared) (σ:St) (H:Hp) (Q:Bool→Hp→Prop),Inv X pins σ H s→t σ H Q→wpAny (model X.prog X.w) X.A (isTrue e X.env (eval e X.env)) (TP X pins σ Q) X.xe s
def PW(X:Cx)(e:Expr)(t:TT):Prop :=
 ∀(whole:Sem Value) (pins:List (Addr×Obj)) (s:Shared) (σ:St) (H:Hp) (Q:Bool→Hp→Prop),Inv X pins σ H s→t σ H Q→wpAny (model X.prog X.w) X.A (isTrue e X.env whole) (TP X pins σ Q) X.xe s
theorem PW.pt{X:Cx}{e:Expr}{t:TT}(h:PW X e t):PT X e t:=h _
def PA(X:Cx)(es:List Expr)(t:TA):Prop :=
 ∀(pos:Pos) (pins:List (Addr×Obj)) (s:Shared) (σ:St) (H:Hp) (Q:List V→Hp→Prop),Inv X pins σ H s→t σ H Q→wpAny (model X.prog X.w) X.A (spliced (backTo pos (starEach es X.env))) (AP X pins σ Q) X.xe s
def PS(X:Cx)(st:Stmt)(t:TS):Prop :=
 ∀(pins:List (Addr×Obj)) (s:Shared) (σ:St) (H:Hp) (D:Ends),Inv X pins σ H s→t D σ H→wpAny (model X.prog X.w) X.A (exec st X.env) (SP X pins D) X.xe s
def PSs(X:Cx)(st:List Stmt)(t:TS):Prop :=
 ∀(pins:List (Addr×Obj)) (s:Shared) (σ:St) (H:Hp) (D:Ends),Inv X pins σ H s→t D σ H→wpAny (model X.prog X.w) X.A (execs st X.env) (SP X pins D) X.xe s
theorem thn{α:Type}{t:Sem α}{Q Q':α→Shared→Prop}{M:Model}{A:Around}{E:Value→Shared→Prop}{s:Shared}(h:wpAny M A t Q E s)(hQ:∀a s,Q a s→Q' a s):wpAny M A t Q' E s:=wpAny_mono h hQ λ_ _ x=>x
section
variable{X:Cx}
theorem bin{a b:Expr}{ta tb:TE}(ha:PE X a ta)(hb:PE X b tb){pins:List (Addr×Obj)}{s:Shared}{σ:St}{H:Hp}{R:V→V→Hp→Prop}(I:Inv X pins σ H s)(h:ta σ H λx H1=>tb σ H1 λy H2=>R x y H2)
  {α:Type}{Q:α→Shared→Prop}{f:Value→Value→Sem α}
  (hf:∀v u s2 x y H2,Inv X pins σ H2 s2→RelV x v→RelV y u→R x y H2→wpAny (model X.prog X.w) X.A (f v u) Q X.xe s2) :
  wpAny (model X.prog X.w) X.A (eval a X.env) (λv s₁=>wpAny (model X.prog X.w) X.A (eval b X.env) (λu s₂=>wpAny (model X.prog X.w) X.A (f v u) Q X.xe s₂) X.xe s₁) X.xe s:=by
 refine thn (ha pins s σ H _ I h) λv s1 ao=>?_
 obtain⟨x,H1,I1,r1,q1⟩:=ao
 refine thn (hb pins s1 σ H1 _ I1 q1) λu s2 dq=>?_
 obtain⟨y,H2,I2,r2,q2⟩:=dq
 exact hf v u s2 x y H2 I2 r1 r2 q2
def OU(i:Nat):TE:=λσ H Q=>∃v,σ[i]?=some (some v)∧Q v H
def tC(v:V):TE:=λ_ H Q=>Q v H
theorem uZ{i:Nat}{x:Str}{pos:Pos}(hN:X.N[i]?=some x)(hv:Vis X.env.scope x)(hd:(x==("__debug__":Str))=false:=by decide)(hcd:(x==("__classdict__":Str))=false:=by decide):PE X (.Name x pos) (OU i):=by
 intro pins s σ H Q I h
 obtain⟨v,e,h⟩:=h
 obtain⟨m,hn,hl⟩:=I.loc
 obtain⟨u,r,l⟩:=hl i x v hN e hv
 have fin:EP X pins σ Q u s:=⟨v,H,I,r,h⟩
 rcases l with ⟨hk,hm⟩|⟨hk,c,hc,Ax⟩
 ·exact wpAny_Name (wpAny_loadName_local I.ok.kind hk hn hm fin) hd
 ·rcases hk with hk|hk
  ·exact wpAny_Name (wpAny_loadName_cell I.ok.kind hk hc Ax fin) hd
  ·exact wpAny_Name (wpAny_loadName_free I.ok.kind hk hc Ax fin hcd) hd
theorem JJ{i j pos}:PE X (.Constant (.int i) j pos) (tC (.int i)):=λ_ _ _ H _ I h=>wpAny_Constant_int ⟨.int i,H,I.tok _,⟨_,rfl⟩,h⟩
theorem Mq{b j pos}:PE X (.Constant (.bool b) j pos) (tC (.bl b)):=λ_ _ _ H _ I h=>Constant_bool ⟨.bl b,H,I,rfl,h⟩
theorem JK{j pos}:PE X (.Constant .none j pos) (tC .non):=λ_ _ _ H _ I h=>Constant_none ⟨.non,H,I,rfl,h⟩
theorem JL{x j pos}:PE X (.Constant (.str x) j pos) (tC (.str x)):=λ_ _ _ H _ I h=>Calls.Constant_str ⟨.str x,H,I.tok _,⟨_,rfl⟩,h⟩
def Gl(X:Cx)(x:Str):Prop:=X.env.kindOf x=some .globalImplicit
theorem GO{E:Value→Shared→Prop}{pins:List (Addr×Obj)}{s:Shared}{σ:St}{H:Hp}{x:Str}{u:Value}{pos:Pos}{Q:Value→Shared→Prop}(I:Inv X pins σ H s)(hg:Gl X x)(hm:X.mg x=some u)(h:Q u s)
  (hd:(x==("__debug__":Str))=false:=by decide):wpAny (model X.prog X.w) X.A (eval (.Name x pos) X.env) Q E s :=
 Calls.Name_function_global I.ok.kind hg (Calls.loadGlobal_global (by rw[I.ok.glob];exact I.mod.glob.keeps I.bk) hm h) hd
theorem oQ{E:Value→Shared→Prop}{pins:List (Addr×Obj)}{s:Shared}{σ:St}{H:Hp}{x:Str}{u:Value}{pos:Pos}{Q:Value→Shared→Prop}(I:Inv X pins σ H s)(hg:Gl X x)(hm:X.mg x=none)(hv:bootBuiltins x=some u)(h:Q u s)
  (hn:x≠"__name__":=by decide) (hd:(x==("__debug__":Str))=false:=by decide):wpAny (model X.prog X.w) X.A (eval (.Name x pos) X.env) Q E s:=by
 obtain⟨mb,h1,h2⟩:=I.mod.blt
 exact Calls.Name_function_global I.ok.kind hg (Calls.loadGlobal_builtin (by rw[I.ok.glob];exact I.mod.glob.keeps I.bk) hm (by rw[I.ok.blt];exact h1.keeps I.bk) ((h2 x hn).trans hv) h) hd
theorem GP{x:Str}{v:V}{u:Value}{pos:Pos}(hg:Gl X x)(hm:X.mg x=none)(hv:bootBuiltins x=some u)(r:RelV v u)(hn:x≠"__name__":=by decide)(hd:(x==("__debug__":Str))=false:=by decide):PE X (.Name x pos) (tC v) :=
 λ_ _ _ H _ I h=>oQ I hg hm hv ⟨v,H,I,r,h⟩ hn hd
variable{a b:Expr}{ta tb:TE}{pos:Pos}
def PC(X:Cx)(op:CmpOp)(a b:Expr)(t:TE):Prop :=
 ∀(pins:List (Addr×Obj)) (s:Shared) (σ:St) (H:Hp) (Q:VK),Inv X pins σ H s→t σ H Q →
  wpAny (model X.prog X.w) X.A (eval a X.env) (λv s₁=>wpAny (model X.prog X.w) X.A (eval b X.env) (λu s₂=>wpAny (model X.prog X.w) X.A (compareOp op v u) (EP X pins σ Q) X.xe s₂) X.xe s₁) X.xe s
theorem De(b:Expr){op:CmpOp}(h:op≠.In)(h2:op≠.NotIn):behindInMarks op b=false:=by
 have e1:(op==CmpOp.In)=false:=by cases op<;>first|rfl|exact absurd rfl h
 have e2:(op==CmpOp.NotIn)=false:=by cases op<;>first|rfl|exact absurd rfl h2
 cases b<;>simp[behindInMarks,e1,e2]
def tB(t:TE):TT:=λσ H Q=>t σ H λx H1=>∃c,x=.bl c∧Q c H1
theorem OV{op:CmpOp}{t:TE}(h:PC X op a b t)(h1:behindInMarks op b=false:=by first|exact De _ (by decide) (by decide)|rfl):PT X (.Compare a [op] [b] pos) (tB t):=by
 intro pins s σ H Q I hw
 refine wpAny_isTrue_Compare1 (thn (h pins s σ H _ I hw) λv s1 h1=>thn h1 λu s2 h2=>thn h2 λc s3 ao=>?_) h1
 obtain⟨x,H1,I1,r1,q1⟩:=ao
 obtain⟨d,rfl,q⟩:=q1
 cases r1
 exact wpAny_truthy_bool ⟨H1,I1,q⟩
theorem JM{e:Expr}{t:TE}(h:PE X e t)(he:∀whole,isTrue e X.env whole=(do let v ← whole;standAt e.pos;holding [v] (truthy v)):=by intro _;rfl):PT X e (tB t):=by
 intro pins s σ H Q I hw
 refine isTrue_plain (thn (h pins s σ H _ I hw) λv s1 ao=>?_) (he _)
 obtain⟨x,H1,I1,r1,q1⟩:=ao
 obtain⟨d,rfl,q⟩:=q1
 cases r1
 exact wpAny_truthy_bool ⟨H1,I1,q⟩
variable{tA tB':TT}{rest:List Expr}
def OW(t u:TT):TT:=λσ H Q=>t σ H λc H1=>if c=true then u σ H1 Q else Q false H1
def tOr(t u:TT):TT:=λσ H Q=>t σ H λc H1=>if c=true then Q true H1 else u σ H1 Q
def OX(t:TT):TT:=λσ H Q=>t σ H λc H1=>Q (!c) H1
theorem GQ(ha:PT X a tA):PW X (.BoolOp .And [a] pos) tA:=by
 intro wh pins s σ H Q I h
 refine isTrue_and (thn (ha pins s σ H Q I h) λc s1 e=>?_)
 cases c with
 | true=>exact isTrue_and_nil e
 | false=>exact e
theorem JN(ha:PT X a tA):PW X (.BoolOp .Or [a] pos) tA:=by
 intro wh pins s σ H Q I h
 refine isTrue_or (thn (ha pins s σ H Q I h) λc s1 e=>?_)
 cases c with
 | false=>exact isTrue_or_nil e
 | true=>exact e
theorem JO(ha:PT X a tA)(hb:PW X (.BoolOp .And (b::rest) pos) tB'):PW X (.BoolOp .And (a::b::rest) pos) (OW tA tB'):=by
 intro wh pins s σ H Q I h
 refine isTrue_and (thn (ha pins s σ H _ I h) λc s1 ao=>?_)
 obtain⟨H1,I1,q1⟩:=ao
 cases c with
 | true=>exact hb wh pins s1 σ H1 Q I1 q1
 | false=>exact⟨H1,I1,q1⟩
theorem Mr(ha:PT X a tA)(hb:PW X (.BoolOp .Or (b::rest) pos) tB'):PW X (.BoolOp .Or (a::b::rest) pos) (tOr tA tB'):=by
 intro wh pins s σ H Q I h
 refine isTrue_or (thn (ha pins s σ H _ I h) λc s1 ao=>?_)
 obtain⟨H1,I1,q1⟩:=ao
 cases c with
 | true=>exact⟨H1,I1,q1⟩
 | false=>exact hb wh pins s1 σ H1 Q I1 q1
theorem JP(ha:PT X a tA):PT X (.UnaryOp .Not a pos) (OX tA):=by
 intro pins s σ H Q I h
 exact isTrue_not (ha pins s σ H (λc H1=>Q (!c) H1) I h)
def Ms(ta tb:TE):TE:=λσ H Q=>ta σ H λx H1=>∃c,x=.bl c∧if c=true then tb σ H1 Q else Q (.bl false) H1
def OY(ta tb:TE):TE:=λσ H Q=>ta σ H λx H1=>∃c,x=.bl c∧if c=true then Q (.bl true) H1 else tb σ H1 Q
def Mt(ta:TE):TE:=λσ H Q=>ta σ H λx H1=>∃c,x=.bl c∧Q (.bl (!c)) H1
theorem JQ{op}{t:TE}(h:PE X a t):PE X (.BoolOp op [a] pos) t:=λpins s σ H Q I hw=>BoolOp_one (h pins s σ H Q I hw)
theorem JR(ha:PE X a ta)(hb:PE X (.BoolOp .And (b::rest) pos) tb):PE X (.BoolOp .And (a::b::rest) pos) (Ms ta tb):=by
 intro pins s σ H Q I h
 refine BoolOp_and (thn (ha pins s σ H _ I h) λv s1 ao=>?_)
 obtain⟨x,H1,I1,r1,q1⟩:=ao
 obtain⟨c,rfl,q1⟩:=q1
 cases r1
 refine wpAny_truthy_bool ?_
 cases c with
 | true=>exact hb pins s1 σ H1 Q I1 q1
 | false=>exact⟨.bl false,H1,I1,rfl,q1⟩
theorem Mu(ha:PE X a ta)(hb:PE X (.BoolOp .Or (b::rest) pos) tb):PE X (.BoolOp .Or (a::b::rest) pos) (OY ta tb):=by
 intro pins s σ H Q I h
 refine BoolOp_or (thn (ha pins s σ H _ I h) λv s1 ao=>?_)
 obtain⟨x,H1,I1,r1,q1⟩:=ao
 obtain⟨c,rfl,q1⟩:=q1
 cases r1
 refine wpAny_truthy_bool ?_
 cases c with
 | false=>exact hb pins s1 σ H1 Q I1 q1
 | true=>exact⟨.bl true,H1,I1,rfl,q1⟩
theorem JS(ha:PE X a ta):PE X (.UnaryOp .Not a pos) (Mt ta):=by
 intro pins s σ H Q I h
 refine UnaryOp_ (thn (ha pins s σ H _ I h) λv s1 ao=>?_)
 obtain⟨x,H1,I1,r1,q1⟩:=ao
 obtain⟨c,rfl,q1⟩:=q1
 cases r1
 exact not_of (wpAny_truthy_bool ⟨.bl (!c),H1,I1,rfl,q1⟩)
def tIf(t:TT)(ta tb:TE):TE:=λσ H Q=>t σ H λc H1=>if c=true then ta σ H1 Q else tb σ H1 Q
theorem Df{c:Expr}(hc:PT X c tA)(ha:PE X a ta)(hb:PE X b tb):PE X (.IfExp c a b pos) (tIf tA ta tb):=by
 intro pins s σ H Q I h
 refine wpAny_IfExp (thn (hc pins s σ H _ I h) λd s1 ao=>?_)
 obtain⟨H1,I1,q1⟩:=ao
 cases d with
 | true=>exact ha pins s1 σ H1 Q I1 q1
 | false=>exact hb pins s1 σ H1 Q I1 q1
end
def SqL(K:PySem.W.Frag)(H:Hp)(a:Addr)(xs:List V):Prop :=
 Rd H a (.lst xs) ∨
  ∃(o:Obj) (its:Array Value) (n:Nat),K.lookup a=some o∧o.cls=.type "list"∧o.dict=none∧o.data=.seq its n∧its.size≤sizeLine∧Vals xs its.toList
def SqT(K:PySem.W.Frag)(H:Hp)(a:Addr)(xs:List V):Prop :=
 H a=some (.tup xs)
def OZ:Value→Option V
 | .none=>some .non
 | .bool b=>some (.bl b)
 | .int i _=>some (.int i)
 | .str x _=>some (.str x)
 | .bytes b _=>some (.byt b)
 | .float b _=>some (.flt b)
 | .ref a=>some (.ref a)
 | .type n=>some (.ty n)
 | _=>none
theorem RelV.abs{x:V}{u:Value}(r:RelV x u):OZ u=some x:=by
 cases x with
 | non=>cases r;rfl
 | bl _=>cases r;rfl
 | int _=>obtain⟨t,rfl⟩:=r;rfl
 | str _=>obtain⟨t,rfl⟩:=r;rfl
 | byt _=>obtain⟨t,rfl⟩:=r;rfl
 | flt _=>obtain⟨t,rfl⟩:=r;rfl
 | ref _=>cases r;rfl
 | ty _=>cases r;rfl
theorem RelV.inj{x y:V}{u:Value}(r:RelV x u)(q:RelV y u):x=y:=Option.some.inj (r.abs.symm.trans q.abs)
theorem Vals.inj:∀{xs ys:List V}{us:List Value},Vals xs us→Vals ys us→xs=ys
 | _,_,_,.nil,.nil=>rfl
 | _,_,_,.cons r t,.cons r' t'=>by rw[r.inj r',Vals.inj t t']
section
variable{X:Cx}{pins:List (Addr×Obj)}{σ:St}{H:Hp}{s:Shared}{a:Addr}{xs ys:List V}
theorem SqL.of{K:PySem.W.Frag}(h:H a=some (.lst xs)):SqL K H a xs:=.inl (.inl h)
theorem SqT.of{K:PySem.W.Frag}(h:H a=some (.tup xs)):SqT K H a xs:=h
theorem Inv.list(I:Inv X pins σ H s)(h:SqL X.K H a xs):∃its:List Value,Vals xs its∧PlainL s.heap a its.toArray∧xs.length≤sizeLine:=by
 rcases h with h|⟨o,its,n,hk,hc,hd,hs,hz,r⟩
 ·obtain⟨z,its,n,r,e⟩:=h.ok I.hok
  exact⟨its,r,⟨_,n,e,rfl,rfl,rfl⟩,z⟩
 ·refine⟨its.toList,r,⟨o,n,I.kIn a o hk,hc,hd,by simpa using hs⟩,?_⟩
  have e:=r.length
  simp only[Array.length_toList] at e
  lia
theorem Inv.tuple(I:Inv X pins σ H s)(h:SqT X.K H a xs):∃its:List Value,Vals xs its∧IsTup s.heap a its.toArray∧xs.length≤sizeLine:=by
 obtain⟨z,its,r,p⟩:=(show cL X.prog X.w H s.heap a (.tup xs) from I.hok a _ h)
 exact⟨its,r,p,z⟩
theorem Inv.wU(I:Inv X pins σ H s)(h:SqL X.K H a xs)(h':SqL X.K H a ys):xs=ys:=by
 obtain⟨its,r,⟨o,n,e,_,_,d⟩,_⟩:=I.list h
 obtain⟨its',r',⟨o',n',e',_,_,d'⟩,_⟩:=I.list h'
 rw[e] at e';cases e'
 rw[d] at d'
 injection d' with d1 _
 have:its=its':=by simpa using congrArg Array.toList d1
 subst this
 exact r.inj r'
theorem Inv.t9(I:Inv X pins σ H s)(h:SqT X.K H a xs)(h':SqT X.K H a ys):xs=ys:=by
 obtain⟨its,r,⟨o,e,_,n,d⟩,_⟩:=I.tuple h
 obtain⟨its',r',⟨o',e',_,n',d'⟩,_⟩:=I.tuple h'
 rw[e] at e';cases e'
 rw[d] at d'
 injection d' with d1 _
 have:its=its':=by simpa using congrArg Array.toList d1
 subst this
 exact r.inj r'
end
noncomputable abbrev Cx.tq (X : Cx) (E : Value → Shared → Prop) : Cx := { X with xe := E }
noncomputable abbrev Cx.nox (X : Cx) : Cx := X.tq fun _ _ => False
theorem Cx.Ok.tq{X:Cx}(ok:X.Ok)(E:Value→Shared→Prop):(X.tq E).Ok :=
 ⟨ok.mod,ok.kind,ok.glob,ok.blt,ok.above,ok.inj,ok.has,ok.cab,ok.hd,ok.frames,ok.stk,ok.exf,ok.bs,ok.bsz,ok.BH,ok.GN,ok.pQ,ok.frf⟩
theorem Cx.Ok.kW{X:Cx}{E:Value→Shared→Prop}(ok:(X.tq E).Ok):X.Ok :=
 ⟨ok.mod,ok.kind,ok.glob,ok.blt,ok.above,ok.inj,ok.has,ok.cab,ok.hd,ok.frames,ok.stk,ok.exf,ok.bs,ok.bsz,ok.BH,ok.GN,ok.pQ,ok.frf⟩
section
variable{X:Cx}{pins:List (Addr×Obj)}{σ:St}{H:Hp}{s:Shared}{E:Value→Shared→Prop}
theorem Inv.tq(I:Inv X pins σ H s)(E:Value→Shared→Prop):Inv (X.tq E) pins σ H s:=⟨I.ok.tq E,I.os,I.bare,I.base,I.loc,I.cell,I.free,I.mN,I.pin,I.hok,I.len⟩
theorem Inv.kW(I:Inv (X.tq E) pins σ H s):Inv X pins σ H s:=⟨I.ok.kW,I.os,I.bare,I.base,I.loc,I.cell,I.free,I.mN,I.pin,I.hok,I.len⟩
theorem SP.kW{D:Ends}{f:Flow}{s':Shared}(h:SP (X.tq E) pins D f s'):SP X pins D f s':=by
 cases f with
 | next=>obtain⟨σ',H',I,q⟩:=h;exact⟨σ',H',I.kW,q⟩
 | brk=>obtain⟨σ',H',I,q⟩:=h;exact⟨σ',H',I.kW,q⟩
 | cont=>obtain⟨σ',H',I,q⟩:=h;exact⟨σ',H',I.kW,q⟩
 | ret u=>obtain⟨v,σ',H',I,r,q⟩:=h;exact⟨v,σ',H',I.kW,r,q⟩
theorem PSs.nox{st:List Stmt}{t:TS}(h:PSs X.nox st t):PSs X st t:=λpins s σ H D I hw =>
 wpAny_mono (h pins s σ H D (I.tq _) hw) (λ_ _ q=>q.kW) λ_ _ z=>False.elim z
end
section
variable{X:Cx}{st:Stmt}{rest:List Stmt}{t u:TS}{e:Expr}{te:TE}{pos:Pos}
def Mv:TS:=λD σ H=>D.nx σ H
def O0(t u:TS):TS:=λD σ H=>t { D with nx:=u D } σ H
theorem GR:PSs X [] Mv:=λ_ _ σ H _ I h=>wpAny_execs_nil ⟨σ,H,I,h⟩
theorem Dg(h1:PS X st t)(h2:PSs X rest u):PSs X (st::rest) (O0 t u):=by
 intro pins s σ H D I h
 refine wpAny_execs_cons (thn (h1 pins s σ H { D with nx:=u D } I h) λf s1 q=>?_)
 cases f with
 | next =>
  obtain⟨σ',H',I',q⟩:=q
  exact h2 pins s1 σ' H' D I' q
 | ret v=>exact q
 | brk=>exact q
 | cont=>exact q
theorem GS(h1:PS X st t):PSs X [st] t:=by
 intro pins s σ H D I h
 refine wpAny_execs_cons (thn (h1 pins s σ H D I h) λf s1 q=>?_)
 cases f with
 | next=>exact wpAny_execs_nil q
 | ret v=>exact q
 | brk=>exact q
 | cont=>exact q
theorem Inv.quiet{pins:List (Addr×Obj)}{σ:St}{H:Hp}{s:Shared}(I:Inv X pins σ H s):interactive X.env=false:=by simp[interactive,I.ok.kind]
def Mw(te:TE):TS:=λD σ H=>te σ H λ_ H1=>D.nx σ H1
theorem GU(he:PE X e te)(hs:swapsWith e none pos.line X.env=pure false:=by rfl):PS X (.Expr e pos) (Mw te):=by
 intro pins s σ H D I h
 exact wpAny_Expr_any (thn (he pins s σ H _ I h) λv s1 ⟨x,H1,I1,r1,q1⟩=>⟨σ,H1,I1,q1⟩) I.quiet hs
def O1(te:TE):TS:=λD σ H=>te σ H D.rt
theorem JT(he:PE X e te):PS X (.Return (some e) pos) (O1 te):=by
 intro pins s σ H D I h
 exact wpAny_Return_some (thn (he pins s σ H _ I h) λv s1 ⟨x,H1,I1,r1,q1⟩=>⟨x,σ,H1,I1,r1,q1⟩)
def O2(c:TT)(t u:TS):TS:=λD σ H=>c σ H λb H1=>if b=true then t D σ H1 else u D σ H1
theorem Mx{c:Expr}{a b:List Stmt}{tc:TT}(hc:PT X c tc)(ha:PSs X a t)(hb:PSs X b u):PS X (.If c a b pos) (O2 tc t u):=by
 intro pins s σ H D I h
 refine wpAny_If (thn (hc pins s σ H _ I h) λd s1 ao=>?_)
 obtain⟨H1,I1,q1⟩:=ao
 cases d with
 | true=>exact ha pins s1 σ H1 D I1 q1
 | false=>exact hb pins s1 σ H1 D I1 q1
def JU:TS:=λ_ _ _=>False
theorem Dh:PS X st JU:=λ_ _ _ _ _ _ h=>h.elim
end
noncomputable abbrev TG := V → St → Hp → (St → Hp → Prop) → Prop
noncomputable abbrev TGs := List V → St → Hp → (St → Hp → Prop) → Prop
def PG(X:Cx)(target:Expr)(t:TG):Prop :=
 ∀(pins:List (Addr×Obj)) (s:Shared) (σ:St) (H:Hp) (v:V) (u:Value) (Q:St→Hp→Prop),Inv X pins σ H s→RelV v u→t v σ H Q →
  wpAny (model X.prog X.w) X.A (assign target X.env u) (λ_ s'=>∃σ' H',Inv X pins σ' H' s'∧Q σ' H') X.xe s
def PGs(X:Cx)(ts:List Expr)(t:TGs):Prop :=
 ∀(pins:List (Addr×Obj)) (s:Shared) (σ:St) (H:Hp) (vs:List V) (us:List Value) (Q:St→Hp→Prop),Inv X pins σ H s→Vals vs us→t vs σ H Q →
  wpAny (model X.prog X.w) X.A (assignInOrder ((assignEach ts X.env).map (·.2)) us) (λ_ s'=>∃σ' H',Inv X pins σ' H' s'∧Q σ' H') X.xe s
noncomputable abbrev JV := V → V → V → Hp → (Hp → Prop) → Prop
def My(X:Cx)(t:JV):Prop :=
 ∀(pins:List (Addr×Obj)) (s:Shared) (σ:St) (H:Hp) (o i v:V) (ov iv u:Value) (Q:Hp→Prop),Inv X pins σ H s→RelV o ov→RelV i iv→RelV v u→t o i v H Q →
  wpAny (model X.prog X.w) X.A (setItem ov iv u) (λ_ s'=>∃H',Inv X pins σ H' s'∧Q H') X.xe s
section
variable{X:Cx}{pos:Pos}
def Di(i:Nat):TG:=λv σ H Q=>Q (σ.set i (some v)) H
theorem mv{i:Nat}{x:Str}(hN:X.N.Nodup)(hi:X.N[i]?=some x)(hx:Loc X.env.scope x)(hf:X.fn x=true∨X.env.scope.names.lookup x=some .local:=by first|exact .inl rfl|exact .inr rfl|assumption):PG X (.Name x pos) (Di i):=by
 intro pins s σ H v u Q I r h
 exact wpAny_assign_Name (wR I hN hi hx r (λs' I'=>⟨_,H,I',h⟩) hf)
def O3:TGs:=λvs σ H Q=>vs=[]∧Q σ H
def Mz(t:TG)(u:TGs):TGs:=λvs σ H Q=>∃v r,vs=v::r∧t v σ H λσ' H'=>u r σ' H' Q
theorem Ay:PGs X [] O3:=by
 intro pins s σ H vs us Q I r h
 obtain⟨e,h⟩:=h
 subst e
 cases r
 exact assignInOrder_nil ⟨σ,H,I,h⟩
theorem kX{e:Expr}{es:List Expr}{t:TG}{u:TGs}(h1:PG X e t)(h2:PGs X es u)
  (hs:(assignEach (e::es) X.env).map (·.2)=assign e X.env::(assignEach es X.env).map (·.2):=by rfl):PGs X (e::es) (Mz t u):=by
 intro pins s σ H vs us Q I r h
 obtain⟨v,vr,e1,h⟩:=h
 subst e1
 cases r with
 | cons r rr =>
  rw[hs]
  refine assignInOrder_cons (thn (h1 pins s σ H _ _ _ I r h) λ_ s1 ao=>?_)
  obtain⟨σ1,H1,I1,q1⟩:=ao
  exact h2 pins s1 σ1 H1 _ _ Q I1 rr q1
def O4(K:PySem.W.Frag)(n:Nat)(t:TGs):TG:=λv σ H Q=>∃a xs,v=.ref a∧SqT K H a xs∧xs.length=n∧t xs σ H Q
theorem Dj{es:List Expr}{k:Nat}{t:TGs}{n:Nat}(hc:X.calm=true)(h:PGs X es t)
  (hn:(assignEach es X.env).length=n:=by rfl) (hst:(assignEach es X.env).findIdx? (·.1)=none:=by rfl):PG X (.Tuple es k pos) (O4 X.K n t):=by
 intro pins s σ H v u Q I r hw
 obtain⟨a,xs,e1,hq,hl,hw⟩:=hw
 subst e1
 cases r
 obtain⟨its,rv,ht,hz⟩:=I.tuple hq
 refine assign_Tuple_tuple (I.ok.hd hc) ht (by simp[hn,← hl,rv.length]) hst λh' hx=>?_
 have I1:Inv X pins σ H { s with heap:=h' }:=I.kept (t':=s.toks) λb o e=>hx b o (Nat.ne_of_lt (Heap.lt_size e)) e
 exact h pins _ σ H xs _ Q I1 (by simpa using rv) hw
def O5(to ti:TE)(t:JV):TG:=λv σ H Q=>to σ H λo H1=>ti σ H1 λi H2=>t o i v H2 λH3=>Q σ H3
theorem JW{o i:Expr}{to ti:TE}{t:JV}(ho:PE X o to)(hi:PE X i ti)(hs:My X t)
  (ha:∀v,assign (.Subscript o i pos) X.env v=(do
   let ov ← holding [v] (eval o X.env)
   let iv ← holding [v,ov] (eval i X.env)
   standAt pos
   holding [v,ov,iv] (setItem ov iv v)
   release [v,ov,iv] []):=by intro _;rfl):PG X (.Subscript o i pos) (O5 to ti t):=by
 intro pins s σ H v u Q I r h
 rw[ha]
 refine wpAny_bind (wpAny_holding (thn (ho pins s σ H _ I h) λov s1 ao=>?_))
 obtain⟨x,H1,I1,r1,q1⟩:=ao
 refine wpAny_bind (wpAny_holding (thn (hi pins s1 σ H1 _ I1 q1) λiv s2 dq=>?_))
 obtain⟨y,H2,I2,r2,q2⟩:=dq
 refine wpAny_bind (wpAny_standAt (wpAny_bind (wpAny_holding (thn (hs pins s2 σ H2 x y v ov iv u _ I2 r1 r2 r q2) λ_ s3 wV=>?_))))
 obtain⟨H3,I3,q3⟩:=wV
 exact wpAny_release ⟨σ,H3,I3,q3⟩
def JX(te:TE)(g:TG):TS:=λD σ H=>te σ H λx H1=>g x σ H1 D.nx
theorem Dk{tg e:Expr}{te:TE}{g:TG}(he:PE X e te)(hg:PG X tg g)(hs:swapsWithSole [tg] e pos.line X.env=pure false:=by rfl)(hw:swappedStores [tg] e X.env=pure none:=by rfl)
  (h1:(assignEach [tg] X.env).map (·.2)=[assign tg X.env]:=by rfl):PS X (.Assign [tg] e pos) (JX te g):=by
 intro pins s σ H D I h
 refine wpAny_Assign_stores (thn (he pins s σ H _ I h) λv s1 ao=>?_) hs hw
 obtain⟨x,H1,I1,r1,q1⟩:=ao
 rw[h1]
 exact thn (hg pins s1 σ H1 x v _ I1 r1 q1) λ_ s2 q=>q
theorem JY{i:Nat}{x:Str}{e:Expr}{te:TE}{pos':Pos}(hN:X.N.Nodup)(hi:X.N[i]?=some x)(hx:Loc X.env.scope x)(he:PE X e te)(hs:swapsWith e (some (.Name x pos')) pos.line X.env=pure false:=by rfl)(hf:X.fn x=true∨X.env.scope.names.lookup x=some .local:=by first|exact .inl rfl|exact .inr rfl|assumption) :
  PS X (.Assign [.Name x pos'] e pos) (JX te (Di i)):=by
 intro pins s σ H D I h
 refine wpAny_Assign_Name (thn (he pins s σ H _ I h) λv s1 ao=>?_) hs
 obtain⟨y,H1,I1,r1,q1⟩:=ao
 exact wR I1 hN hi hx r1 (λs2 I2=>⟨_,H1,I2,q1⟩) hf
end
section
variable{X:Cx}{pos:Pos}
def JZ(c:TT)(tb:TS):TS:=λD σ H=>∃W:Nat→St→Hp→Prop,(∃m,W m σ H)∧∀m σ H,W m σ H →
 c σ H λb H1=>if b=true then ∃N:St→Hp→Prop,(∀σ' H',N σ' H'→∃m',m'<m∧W m' σ' H')∧tb { D with nx:=N,ct:=N,bk:=D.nx } σ H1 else D.nx σ H1
theorem Dl{c:Expr}{body:List Stmt}{tc:TT}{tb:TS}(hp:PassesOwn (model X.prog X.w) X.A X.env X.xe)(hc:PT X c tc)(hb:PSs X body tb):PS X (.While c body [] pos) (JZ tc tb):=by
 intro pins s σ H D I h
 obtain⟨W,⟨m0,w0⟩,turn⟩:=h
 refine wpAny_While (codeAny_whileLoop (λn s'=>∃σ' H',Inv X pins σ' H' s'∧W n σ' H') ?_ m0 ⟨σ,H,I,w0⟩)
 rintro n s1 ⟨σ1,H1,I1,w1⟩
 refine wpAny_passesOwn hp (thn (hc pins s1 σ1 H1 _ I1 (turn n σ1 H1 w1)) λb s2 ao=>?_)
 obtain⟨H2,I2,q2⟩:=ao
 cases b with
 | true =>
  obtain⟨N,hN,q2⟩:=q2
  rw[if_pos rfl]
  refine wpAny_passesOwn hp (thn (hb pins s2 σ1 H2 _ I2 q2) λf s3 q3=>?_)
  cases f with
  | next =>
   obtain⟨σ3,H3,I3,n3⟩:=q3
   obtain⟨m',hm,w3⟩:=hN σ3 H3 n3
   exact⟨m',hm,σ3,H3,I3,w3⟩
  | cont =>
   obtain⟨σ3,H3,I3,n3⟩:=q3
   obtain⟨m',hm,w3⟩:=hN σ3 H3 n3
   exact⟨m',hm,σ3,H3,I3,w3⟩
  | brk=>exact q3
  | ret v=>exact q3
 | false =>
  rw[if_neg Bool.false_ne_true]
  exact wpAny_execs_nil ⟨σ1,H2,I2,q2⟩
end
structure It where
 go:Nat→Hp→Prop
 yld:Nat→Hp→V→Hp→Prop
 stop:Nat→Hp→Prop
def kY(X:Cx)(pins:List (Addr×Obj))(H:Hp)(b:Addr):Prop :=
 H b=none∧b≠X.env.locals∧b∉X.fs∧(b∈X.ex∨X.s₀.heap.objs.size≤b)∧(∀x c,X.env.cells.lookup x=some c→c≠b)∧∀p∈X.pn++pins,p.1≠b
theorem Inv.u0{X:Cx}{pins:List (Addr×Obj)}{σ:St}{H H':Hp}{s:Shared}{b:Addr}(I:Inv X pins σ H s)(hb:s.heap.objs.size≤b)(hn:H' b=none):kY X pins H' b:=by
 refine⟨hn,Nat.ne_of_gt (Nat.lt_of_lt_of_le I.lt hb),I.OR hb,.inr (Nat.le_trans I.sz hb),λx c e z=>?_,λp hp z=>?_⟩
 ·obtain⟨v,q⟩:=I.cell x c e
  exact absurd (Nat.lt_of_lt_of_le q.lt (by rw[z];exact hb)) (Nat.lt_irrefl _)
 ·exact absurd (Nat.lt_of_lt_of_le (Heap.lt_size (I.pin p hp).1) (by rw[z];exact hb)) (Nat.lt_irrefl _)
structure Turn(P:Program)(w:World)(K:PySem.W.Frag)(tg:Expr)(J:It)(fp:List Addr)(it:Addr)(tn:Nat→Heap→Prop):Prop where
 mem:it∈fp
 obj:∀i h,tn i h→∀b∈fp,∃o,h.get? b=some o∧∀v,o.data≠.cell v
 keep:∀i h h',tn i h→(∀b∈fp,∀o,h.get? b=some o→h'.get? b=some o)→tn i h'
 item:∀(X:Cx),X.prog=P→X.w=w→X.K=K→X.calm=true→∀(i:Nat) (pins:List (Addr×Obj)) (s:Shared) (σ:St) (H:Hp) (E:Value→Shared→Prop),Inv X pins σ H s→(∀b∈fp,kY X pins H b)→tn i s.heap→J.go i H →
  wpAny (model P w) X.A (pyNext (.ref it)) (λr s1=>∃u,r=some u ∧
   wpAny (model P w) X.A (letOwnedTupleGo tg (.ref it) u) (λ_ s2=>∃x H',Inv X pins σ H' s2∧RelV x u∧J.yld i H x H'∧tn (i+1) s2.heap∧∀b∈fp,H' b=none) E s1) E s
 done:∀(X:Cx),X.prog=P→X.w=w→X.K=K→X.calm=true→∀(i:Nat) (pins:List (Addr×Obj)) (s:Shared) (σ:St) (H:Hp) (E:Value→Shared→Prop),Inv X pins σ H s→(∀b∈fp,kY X pins H b)→tn i s.heap→J.stop i H →
  wpAny (model P w) X.A (pyNext (.ref it)) (λr s1=>r=none∧Inv X pins σ H s1) E s
 self:∀(A:Around) (i:Nat) (s:Shared) (Q:Value→Shared→Prop) (E:Value→Shared→Prop),tn i s.heap→Q (.ref it) s→wpAny (model P w) A (pyIter (.ref it)) Q E s
noncomputable abbrev TI := St → Hp → (It → Hp → Prop) → Prop
def PIE(X:Cx)(pins:List (Addr×Obj))(σ:St)(tg:Expr)(R:It→Hp→Prop)(itv:Value)(s2:Shared):Prop :=
 ∃(it:Addr) (fp:List Addr) (tn:Nat→Heap→Prop) (J:It) (H':Hp),itv=.ref it∧Inv X pins σ H' s2∧Turn X.prog X.w X.K tg J fp it tn∧tn 0 s2.heap∧(∀b∈fp,kY X pins H' b)∧R J H'
def PI(X:Cx)(tg iter:Expr)(wi:TI):Prop :=
 ∀(pins:List (Addr×Obj)) (s:Shared) (σ:St) (H:Hp) (R:It→Hp→Prop),Inv X pins σ H s→wi σ H R →
  wpAny (model X.prog X.w) X.A (eval iter X.env) (λv s1=>wpAny (model X.prog X.w) X.A (pyIter v) (PIE X pins σ tg R) X.xe s1) X.xe s
theorem wW {M : Model} {A : Around} {E : Value → Shared → Prop} {s : Shared} {tg : Expr} {it : Addr} {u : Value} {o : Obj} {n : String} {vs : Array Value} {Q : Unit → Shared → Prop} (ho : s.heap.get? it = some o) (hc : o.cls = .type n) (hd : o.data = .fields vs)
    (hn : ["enumerate", "zip", "dict_itemiterator", "dict_reverseitemiterator", "odict_iterator", "itertools.zip_longest", "itertools.pairwise"].contains n = false) (hQ : Q () s) : wpAny M A (letOwnedTupleGo tg (.ref it) u) Q E s := by
  unfold letOwnedTupleGo
  cases tg <;> first
    | exact wpAny_pure hQ
    | (cases u <;> first
        | exact wpAny_pure hQ
        | (refine wpAny_bind (wpAny_load ho ?_)
           rw [hc, hd]
           show wpAny M A (if (["enumerate", "zip", "dict_itemiterator", "dict_reverseitemiterator", "odict_iterator", "itertools.zip_longest", "itertools.pairwise"].contains n && vs[0]? == some (rawInt _)) = true then _ else _) Q E s
           rw [if_neg (by intro h; rw [hn, Bool.false_and] at h; cases h)]
           exact wpAny_pure hQ))
def Itl(K:PySem.W.Frag)(a:Addr):It :=
 ⟨λi H=>∃xs x,SqL K H a xs∧xs[i]?=some x,λi H x H'=>H'=H∧∀xs,SqL K H a xs→xs[i]?=some x,λi H=>∃xs,SqL K H a xs∧xs.length≤i⟩
def Itt(K:PySem.W.Frag)(a:Addr):It :=
 ⟨λi H=>∃xs x,SqT K H a xs∧xs[i]?=some x,λi H x H'=>H'=H∧∀xs,SqT K H a xs→xs[i]?=some x,λi H=>∃xs,SqT K H a xs∧xs.length≤i⟩
def Itr(lo:Int)(n:Nat):It:=⟨λi _=>i<n,λi H x H'=>H'=H∧x=.int (lo+i),λi _=>n≤i⟩
theorem BI{P:Program}{w:World}{K:PySem.W.Frag}{tg:Expr}(a it:Addr):Turn P w K tg (Itl K a) [it] it (λi h=>h.IsListIter it a i) where
 mem:=by simp
 obj:=λi h st b hb=>by
  have e:b=it:=by simpa using hb
  subst e
  obtain⟨o,e,c,d⟩:=st
  exact⟨o,e,λv z=>by rw[d] at z;cases z⟩
 keep:=λi h h' st k=>st.at λo e=>k it (by simp) o e
 item:=by
  intro X hP hw hK hc i pins s σ H E I hf st hg
  subst hP hw hK
  obtain⟨xs,x,hq,hx⟩:=hg
  obtain⟨its,rv,p,hz⟩:=I.list hq
  obtain⟨u,hu,ru⟩:=rv.get hx
  obtain⟨f0,f1,f2,f3,f4,f5⟩:=hf it (by simp)
  refine wpAny_pyNext_list_item st p.isList (x:=u) (by simpa using hu) λh' st' sb=>?_
  have I1:Inv X pins σ H { s with heap:=h' }:=I.turned (t':=s.toks) (λb o hb e=>(sb.2 b hb).trans e) f0 f1 f3 f4 f5
  obtain⟨o,e,c,d⟩:=id st'
  exact⟨u,rfl,wW (s:={ s with heap:=h' }) e c d (by decide) ⟨x,H,I1,ru,⟨rfl,λys hy=>by rw[I.wU hy hq];exact hx⟩,st',λb hb=>(hf b hb).1⟩⟩
 done:=by
  intro X hP hw hK hc i pins s σ H E I hf st hg
  subst hP hw hK
  obtain⟨xs,hq,hx⟩:=hg
  obtain⟨its,rv,p,hz⟩:=I.list hq
  obtain⟨f0,f1,f2,f3,f4,f5⟩:=hf it (by simp)
  have hl:=rv.length
  exact wpAny_pyNext_list_end (I.ok.hd hc) st p.isList (by simp;lia) λh' eb=>⟨rfl,I.turned (t':=s.toks) (λb o hb e=>eb b o hb e) f0 f1 f3 f4 f5⟩
 self:=λ_ _ _ _ _ st h=>wpAny_pyIter_listiter st h
theorem yr{P:Program}{w:World}{K:PySem.W.Frag}{tg:Expr}(a it:Addr):Turn P w K tg (Itt K a) [it] it (λi h=>h.IsTupleIter it a i) where
 mem:=by simp
 obj:=λi h st b hb=>by
  have e:b=it:=by simpa using hb
  subst e
  obtain⟨o,e,c,d⟩:=st
  exact⟨o,e,λv z=>by rw[d] at z;cases z⟩
 keep:=λi h h' st k=>st.at λo e=>k it (by simp) o e
 item:=by
  intro X hP hw hK hc i pins s σ H E I hf st hg
  subst hP hw hK
  obtain⟨xs,x,hq,hx⟩:=hg
  obtain⟨its,rv,p,hz⟩:=I.tuple hq
  obtain⟨u,hu,ru⟩:=rv.get hx
  obtain⟨f0,f1,f2,f3,f4,f5⟩:=hf it (by simp)
  refine wpAny_pyNext_tuple_item st (show s.heap.IsTuple a its.toArray from p) (x:=u) (by simpa using hu) λh' st' sb=>?_
  have I1:Inv X pins σ H { s with heap:=h' }:=I.turned (t':=s.toks) (λb o hb e=>(sb.2 b hb).trans e) f0 f1 f3 f4 f5
  obtain⟨o,e,c,d⟩:=id st'
  exact⟨u,rfl,wW (s:={ s with heap:=h' }) e c d (by decide) ⟨x,H,I1,ru,⟨rfl,λys hy=>by rw[I.t9 hy hq];exact hx⟩,st',λb hb=>(hf b hb).1⟩⟩
 done:=by
  intro X hP hw hK hc i pins s σ H E I hf st hg
  subst hP hw hK
  obtain⟨xs,hq,hx⟩:=hg
  obtain⟨its,rv,p,hz⟩:=I.tuple hq
  obtain⟨f0,f1,f2,f3,f4,f5⟩:=hf it (by simp)
  have hl:=rv.length
  exact wpAny_pyNext_tuple_end (I.ok.hd hc) st (show s.heap.IsTuple a its.toArray from p) (by simp;lia) λh' eb=>⟨rfl,I.turned (t':=s.toks) (λb o hb e=>eb b o hb e) f0 f1 f3 f4 f5⟩
 self:=λ_ _ _ _ _ st h=>wpAny_pyIter_tupleiter st h
theorem yt{P:Program}{w:World}{K:PySem.W.Frag}{tg:Expr}(it:Addr)(lo:Int)(n:Nat):Turn P w K tg (Itr lo n) [it] it (λi h=>IsRangeIter h it (lo+(i:Nat)*1) ((n:Int)-(i:Nat)) 1) where
 mem:=by simp
 obj:=λi h st b hb=>by
  have e:b=it:=by simpa using hb
  subst e
  exact⟨_,st,λv z=>by
   have z':Data.fields _=Data.cell v:=z
   cases z'⟩
 keep:=λi h h' st k=>k it (by simp) _ st
 item:=by
  intro X hP hw hK hc i pins s σ H E I hf st hg
  subst hP hw hK
  obtain⟨f0,f1,f2,f3,f4,f5⟩:=hf it (by simp)
  have W:=Walks.range (prog:=X.prog) (w:=X.w) (I.ok.hd hc) it lo 1 n
  refine W.item i s _ _ hg st λv h' tk hv st' kk=>?_
  obtain⟨t,rfl⟩:=hv
  have I1:Inv X pins σ H { s with heap:=h',toks:=tk }:=I.turned (λb o hb e=>kk b o (by simpa using hb) e) f0 f1 f3 f4 f5
  refine⟨_,rfl,wW (s:={ s with heap:=h',toks:=tk }) (n:="range_iterator") st' rfl rfl (by decide) ⟨.int (lo+i),H,I1,⟨t,?_⟩,⟨rfl,rfl⟩,st',λb hb=>(hf b hb).1⟩⟩
  rw[Int.mul_one]
 done:=by
  intro X hP hw hK hc i pins s σ H E I hf st hg
  subst hP hw hK
  obtain⟨f0,f1,f2,f3,f4,f5⟩:=hf it (by simp)
  exact wpAny_pyNext_range_end (I.ok.hd hc) st (by have:n≤i:=hg;lia) λh' eb=>⟨rfl,I.turned (t':=s.toks) (λb o hb e=>eb b o hb e) f0 f1 f3 f4 f5⟩
 self:=λ_ _ _ _ _ st h=>wpAny_pyIter_rangeiter st h
section
variable{X:Cx}{tg:Expr}
theorem Dm{pins:List (Addr×Obj)}{σ:St}{H:Hp}{s:Shared}{R:It→Hp→Prop}{E:Value→Shared→Prop}{lo hi:Int}{t u v:Tok}{tk:Nat}(I:Inv X pins σ H s)(h1:-(2 ^ 62)≤lo)(h2:lo<2 ^ 62)(h3:-(2 ^ 62)≤hi)(h4:hi<2 ^ 62)
  (q:R (Itr lo (hi-lo).toNat) H):wpAny (model X.prog X.w) X.A (pyIter (.ref s.heap.objs.size)) (PIE X pins σ tg R) E { s with heap:=s.heap.push { cls:=.type "range",data:=.fields #[.int lo t,.int hi u,.int 1 v] },toks:=tk }:=by
 refine wpAny_pyIter_range (IsRange.new ..) (small_one h1 h2 h3 h4) ?_
 have I1:Inv X pins σ H { s with heap:=s.heap.push { cls:=.type "range",data:=.fields #[.int lo t,.int hi u,.int 1 v] },toks:=tk }:=I.kept λb o e=>Heap.get?_push_of_some _ e
 refine⟨(s.heap.push { cls:=.type "range",data:=.fields #[.int lo t,.int hi u,.int 1 v] }).objs.size,[(s.heap.push { cls:=.type "range",data:=.fields #[.int lo t,.int hi u,.int 1 v] }).objs.size],_,_,H,rfl,
  I1.kept (t':=tk) λb o e=>Heap.get?_push_of_some _ e,yt _ lo (hi-lo).toNat,?_,λb hb=>?_,q⟩
 ·have e1:lo+((0:Nat):Int)*1=lo:=by simp
  have e2:(((hi-lo).toNat:Nat):Int)-((0:Nat):Int)=Builtin.Range.rangeSize lo hi 1:=by rw[rangeSize_one];split<;>lia
  show IsRangeIter _ _ (lo+((0:Nat):Int)*1) ((((hi-lo).toNat:Nat):Int)-((0:Nat):Int)) 1
  rw[e1,e2]
  exact Heap.get?_push_size _ rfl
 ·have e:b=(s.heap.push { cls:=.type "range",data:=.fields #[.int lo t,.int hi u,.int 1 v] }).objs.size:=by simpa using hb
  subst e
  exact I1.u0 (Nat.le_refl _) (I1.hok.fresh (Nat.le_refl _))
def MA(ta:TA):TI:=λσ H R=>ta σ H λvs H1=>∃j:Int,vs=[.int j]∧-(2 ^ 62)≤j∧j<2 ^ 62∧R (Itr 0 j.toNat) H1
theorem BJ{a:Expr}{ta:TA}{p pos:Pos}(hg:Gl X "range")(hm:X.mg "range"=none)(ha:PA X [a] ta)(hs:starEach [a] X.env=[(false,eval a X.env)]:=by rfl):PI X tg (.Call (.Name "range" p) [a] [] pos) (MA ta):=by
 intro pins s σ H R I h
 refine Call_ (oQ I hg hm boot_range (PyProof.Rows.callWith_type1 (thn (ha pos pins s σ H _ I h) λus s1 ao=>?_) hs rfl))
 obtain⟨vs,H1,I1,r1,q1⟩:=ao
 obtain⟨j,e,q1,q2,q⟩:=q1
 subst e
 cases r1 with
 | cons r rr =>
  cases rr
  obtain⟨t,rfl⟩:=r
  exact call_range_1 (Dm I1 (by lia) (by lia) q1 q2 (by simpa using q))
def O6(wi:TI)(g:TG)(tb:TS):TS:=λD σ H=>wi σ H λJ H1=>∃W:Nat→Nat→St→Hp→Prop,(∃m,W 0 m σ H1)∧∀i m σ H,W i m σ H →
 (J.stop i H∧D.nx σ H)∨(J.go i H∧∃N:St→Hp→Prop,(∀σ' H',N σ' H'→∃m',m'<m∧W (i+1) m' σ' H')∧∀x H',J.yld i H x H'→g x σ H' λσ2 H2=>tb { D with nx:=N,ct:=N,bk:=D.nx } σ2 H2)
def qt(fp:List Addr)(h:Heap):List (Addr×Obj):=fp.filterMap λb=>(h.get? b).map λo=>(b,o)
theorem jZ{fp:List Addr}{h:Heap}{b:Addr}{o:Obj}(hb:b∈fp)(e:h.get? b=some o):(b,o)∈qt fp h:=List.mem_filterMap.mpr ⟨b,hb,by rw[e];rfl⟩
theorem BK{fp:List Addr}{h:Heap}{p:Addr×Obj}(hp:p∈qt fp h):p.1∈fp∧h.get? p.1=some p.2:=by
 obtain⟨b,hb,e⟩:=List.mem_filterMap.mp hp
 cases q:h.get? b with
 | none=>rw[q] at e;cases e
 | some o =>
  rw[q] at e
  have e':(b,o)=p:=Option.some.inj e
  subst e'
  exact⟨hb,q⟩
theorem Inv.pinned{pins:List (Addr×Obj)}{σ:St}{H:Hp}{s:Shared}{fp:List Addr}(I:Inv X pins σ H s)(hf:∀b∈fp,kY X pins H b)(ho:∀b∈fp,∃o,s.heap.get? b=some o∧∀v,o.data≠.cell v):Inv X (pins++qt fp s.heap) σ H s :=
 I.Aw λp hp=>(List.mem_append.mp hp).elim (λz=>I.pin p (List.mem_append_right _ z)) λz=>by
  obtain⟨hb,e⟩:=BK z
  obtain⟨f0,f1,f2,_⟩:=hf p.1 hb
  obtain⟨o,e',d⟩:=ho p.1 hb
  rw[e] at e';cases e'
  exact⟨e,f0,f1,f2,d⟩
theorem Inv.nI{pins pl:List (Addr×Obj)}{σ:St}{H:Hp}{s:Shared}(I:Inv X (pins++pl) σ H s):Inv X pins σ H s:=I.Aw λp hp=>I.pin p (List.mem_append_right _ (List.mem_append_left _ hp))
theorem J0{iter:Expr}{body:List Stmt}{wi:TI}{g:TG}{tb:TS}{pos:Pos}(hp:PassesOwn (model X.prog X.w) X.A X.env X.xe)(hc:X.calm=true)(hi:PI X tg iter wi)(hg:PG X tg g)(hb:PSs X body tb)
  (hs:∀x,foldedSetIterable iter X.env x=pure x:=by intro _;rfl):PS X (.For tg iter body [] pos) (O6 wi g tb):=by
 intro pins s σ H D I h
 refine wpAny_For (thn (hi pins s σ H _ I h) λv s1 h1=>thn h1 λitv s2 h2=>?_) hs
 obtain⟨it,fp,tn,J,H2,e,I2,T,st2,f2,W,⟨m0,w0⟩,turn⟩:=h2
 subst e
 have yu:∀{H':Hp},(∀b∈fp,H' b=none)→∀b∈fp,kY X pins H' b:=λhn b hb=>⟨hn b hb,(f2 b hb).2⟩
 refine codeAny_forLoop_any (λn s'=>∃i σ' H',Inv X pins σ' H' s'∧tn i s'.heap∧(∀b∈fp,H' b=none)∧W i n σ' H') ?_ m0 ⟨0,σ,H2,I2,st2,λb hb=>(f2 b hb).1,w0⟩
 rintro n s3 ⟨i,σ3,H3,I3,st3,fr3,w3⟩
 rcases turn i n σ3 H3 w3 with ⟨stop,qn⟩|⟨go,N,hN,step⟩
 ·refine wpAny_passesOwn hp (thn (T.done X rfl rfl rfl hc i pins s3 σ3 H3 X.xe I3 (yu fr3) st3 stop) λr s4 ⟨hr,I4⟩=>?_)
  subst hr
  exact wpAny_execs_nil ⟨σ3,H3,I4,qn⟩
 ·refine wpAny_passesOwn hp (thn (T.item X rfl rfl rfl hc i pins s3 σ3 H3 X.xe I3 (yu fr3) st3 go) λr s4 ⟨u,hr,h4⟩=>?_)
  subst hr
  refine wpAny_passesOwn hp (thn h4 λ_ s5 ao=>?_)
  obtain⟨x,H5,I5,r5,y5,st5,fr5⟩:=ao
  have I5':=I5.pinned (yu fr5) (T.obj _ _ st5)
  refine wpAny_passesOwn hp (thn (hg _ s5 σ3 H5 x u _ I5' r5 (step x H5 y5)) λ_ s6 dq=>?_)
  obtain⟨σ6,H6,I6,q6⟩:=dq
  refine wpAny_passesOwn hp (thn (hb _ s6 σ6 H6 _ I6 q6) λf s7 q7=>?_)
  have again:∀{σ7:St}{H7:Hp},Inv X (pins++qt fp s5.heap) σ7 H7 s7→N σ7 H7→∃m,m<n∧∃i σ' H',Inv X pins σ' H' s7∧tn i s7.heap∧(∀b∈fp,H' b=none)∧W i m σ' H':=λ{σ7 H7} I7 n7=>by
   obtain⟨m',hm,w7⟩:=hN σ7 H7 n7
   refine⟨m',hm,i+1,σ7,H7,I7.nI,T.keep _ _ _ st5 λb hb o e=>(I7.pin (b,o) (List.mem_append_right _ (List.mem_append_right _ (jZ hb e)))).1,λb hb=>?_,w7⟩
   obtain⟨o,e,d⟩:=T.obj _ _ st5 b hb
   exact (I7.pin (b,o) (List.mem_append_right _ (List.mem_append_right _ (jZ hb e)))).2.1
  cases f with
  | next=>obtain⟨σ7,H7,I7,n7⟩:=q7;exact again I7 n7
  | cont=>obtain⟨σ7,H7,I7,n7⟩:=q7;exact again I7 n7
  | brk=>obtain⟨σ7,H7,I7,q7⟩:=q7;exact⟨σ7,H7,I7.nI,q7⟩
  | ret v=>obtain⟨x7,σ7,H7,I7,r7,q7⟩:=q7;exact⟨x7,σ7,H7,I7.nI,r7,q7⟩
end
noncomputable abbrev R2 := V → V → Hp → VK → Prop
def OpR(X:Cx)(f:Value→Value→Sem Value)(r:R2):Prop :=
 ∀(pins:List (Addr×Obj)) (s:Shared) (σ:St) (H:Hp) (x y:V) (v u:Value) (Q:VK),Inv X pins σ H s→RelV x v→RelV y u→r x y H Q →
  wpAny (model X.prog X.w) X.A (f v u) (EP X pins σ Q) X.xe s
def UnR(X:Cx)(f:Value→Sem Value)(r:V→Hp→VK→Prop):Prop :=
 ∀(pins:List (Addr×Obj)) (s:Shared) (σ:St) (H:Hp) (x:V) (v:Value) (Q:VK),Inv X pins σ H s→RelV x v→r x H Q →
  wpAny (model X.prog X.w) X.A (f v) (EP X pins σ Q) X.xe s
def eP(X:Cx)(f:Value)(r:List V→Hp→VK→Prop):Prop :=
 ∀(pins:List (Addr×Obj)) (s:Shared) (σ:St) (H:Hp) (xs:List V) (us:List Value) (Q:VK),Inv X pins σ H s→Vals xs us→r xs H Q →
  wpAny (model X.prog X.w) X.A (call f us) (EP X pins σ Q) X.xe s
def tOp(r:R2)(ta tb:TE):TE:=λσ H Q=>ta σ H λx H1=>tb σ H1 λy H2=>r x y H2 Q
def tUn(r:V→Hp→VK→Prop)(ta:TE):TE:=λσ H Q=>ta σ H λx H1=>r x H1 Q
def rI(C:Int→Int→Prop)(g:Int→Int→V):R2:=λx y H Q=>∃i j,x=.int i∧y=.int j∧C i j∧Q (g i j) H
def rI0(g:Int→Int→V):R2:=λx y H Q=>∃i j,x=.int i∧y=.int j∧Q (g i j) H
def rU(g:Int→V):V→Hp→VK→Prop:=λx H Q=>∃i,x=.int i∧Q (g i) H
section
variable{X:Cx}{a b c:Expr}{ta tb tc:TE}{pos:Pos}
theorem J1(ha:PE X a ta)(hb:PE X b tb){pins:List (Addr×Obj)}{s:Shared}{σ:St}{H:Hp}{R:V→V→Hp→Prop}(I:Inv X pins σ H s)
  (h:ta σ H λx H1=>tb σ H1 λy H2=>R x y H2) {Q:Value→Shared→Prop}{f:Value→Value→Sem Value}
  (hf:∀v u s2 x y H2,Inv X pins σ H2 s2→RelV x v→RelV y u→R x y H2→wpAny (model X.prog X.w) X.A (f v u) Q X.xe s2) :
  wpAny (model X.prog X.w) X.A (eval a X.env) (λv s₁=>wpAny (model X.prog X.w) X.A (eval b X.env) (λu s₂=>wpAny (model X.prog X.w) X.A (f v u) Q X.xe s₂) X.xe s₁) X.xe s:=by
 refine thn (ha pins s σ H _ I h) λv s1 ao=>?_
 obtain⟨x,H1,I1,r1,q1⟩:=ao
 refine thn (hb pins s1 σ H1 _ I1 q1) λu s2 dq=>?_
 obtain⟨y,H2,I2,r2,q2⟩:=dq
 exact hf v u s2 x y H2 I2 r1 r2 q2
theorem Jc{op:Operator}{r:R2}(ho:OpR X (binaryOp op) r)(ha:PE X a ta)(hb:PE X b tb):PE X (.BinOp a op b pos) (tOp r ta tb):=by
 intro pins s σ H Q I h
 exact wpAny_BinOp (J1 ha hb I h λv u s2 x y H2 I2 rx ry q=>ho pins s2 σ H2 x y v u Q I2 rx ry q)
theorem MB{op:UnaryOp}{r:V→Hp→VK→Prop}(ho:UnR X (unaryOp op) r)(ha:PE X a ta):PE X (.UnaryOp op a pos) (tUn r ta):=by
 intro pins s σ H Q I h
 exact UnaryOp_ (thn (ha pins s σ H _ I h) λv s1 ⟨x,H1,I1,r1,q1⟩=>ho pins s1 σ H1 x v Q I1 r1 q1)
theorem opI{f:Value→Value→Sem Value}{C:Int→Int→Prop}{g:Int→Int→Int}
  (rule:∀(i j:Int) (t u:Tok) (s:Shared) (Q:Value→Shared→Prop) (E:Value→Shared→Prop),C i j→Q (.int (g i j) s.toks) { s with toks:=s.toks+1 }→wpAny (model X.prog X.w) X.A (f (.int i t) (.int j u)) Q E s) :
  OpR X f (rI C λi j=>.int (g i j)):=by
 intro pins s σ H x y v u Q I rx ry h
 obtain⟨i,j,rfl,rfl,hc,q⟩:=h
 obtain⟨t,rfl⟩:=rx
 obtain⟨t',rfl⟩:=ry
 exact rule i j t t' s _ _ hc ⟨.int (g i j),H,I.tok _,⟨_,rfl⟩,q⟩
theorem J2{f:Value→Value→Sem Value}{g:Int→Int→Int}
  (rule:∀(i j:Int) (t u:Tok) (s:Shared) (Q:Value→Shared→Prop) (E:Value→Shared→Prop),Q (.int (g i j) s.toks) { s with toks:=s.toks+1 }→wpAny (model X.prog X.w) X.A (f (.int i t) (.int j u)) Q E s) :
  OpR X f (rI0 λi j=>.int (g i j)):=by
 intro pins s σ H x y v u Q I rx ry h
 obtain⟨i,j,rfl,rfl,q⟩:=h
 obtain⟨t,rfl⟩:=rx
 obtain⟨t',rfl⟩:=ry
 exact rule i j t t' s _ _ ⟨.int (g i j),H,I.tok _,⟨_,rfl⟩,q⟩
theorem J3{f:Value→Value→Sem Value}{g:Int→Int→Bool}
  (rule:∀(i j:Int) (t u:Tok) (s:Shared) (Q:Value→Shared→Prop) (E:Value→Shared→Prop),Q (.bool (g i j)) s→wpAny (model X.prog X.w) X.A (f (.int i t) (.int j u)) Q E s) :
  OpR X f (rI0 λi j=>.bl (g i j)):=by
 intro pins s σ H x y v u Q I rx ry h
 obtain⟨i,j,rfl,rfl,q⟩:=h
 obtain⟨t,rfl⟩:=rx
 obtain⟨t',rfl⟩:=ry
 exact rule i j t t' s _ _ ⟨.bl (g i j),H,I,rfl,q⟩
def J4(i j:Int):Prop:=0<j∧j<1073741824
def J5(i j:Int):Prop:=0≤j∧j≤1000000∧i.natAbs<2 ^ 64
def Dn(i j:Int):Prop:=(-(2 ^ 64)<i∧i<2 ^ 64)∨(-(2 ^ 64)<j∧j<2 ^ 64)
theorem Dn.ok{i j:Int}(h:Dn i j):IntMulOk i j:=by
 rcases h with ⟨h1,h2⟩|⟨h1,h2⟩
 ·exact .of_left (intBits_le_64 h1 h2)
 ·exact .of_right (intBits_le_64 h1 h2)
theorem yv(k:Nat):(0:Int)≤2 ^ k:=by
 rw[two_pow_cast]
 exact Int.natCast_nonneg _
theorem J6:OpR X (binaryOp .Add) (rI0 λi j=>.int (i+j)):=J2 λ_ _ _ _ _ _ _ q=>add_int q
theorem J7:OpR X (binaryOp .Sub) (rI0 λi j=>.int (i-j)):=J2 λ_ _ _ _ _ _ _ q=>sub_int q
theorem J8:OpR X (binaryOp .Mult) (rI Dn λi j=>.int (i*j)):=opI λ_ _ _ _ _ _ _ hc q=>mul_int q hc.ok
theorem GV:OpR X (binaryOp .FloorDiv) (rI J4 λi j=>.int (i / j)):=opI λi j _ _ _ _ _ hc q=>by
 have h1:(0:Int)<j:=hc.1
 have h2:j<1073741824:=hc.2
 exact floordiv_int (by lia) (by rw[Int.fdiv_eq_ediv_of_nonneg i (by lia)];exact q) (.inl (PyProof.noPylong_small (by lia)))
theorem J9:OpR X (binaryOp .Mod) (rI (λ_ j=>0<j) λi j=>.int (i%j)):=opI λi j _ _ _ _ _ hc q=>by
 have h1:(0:Int)<j:=hc
 exact mod_int' (by lia) (by rw[Int.fmod_eq_emod_of_nonneg i (by lia)];exact q)
theorem J_:OpR X (binaryOp .LShift) (rI J5 λi j=>.int (i*2 ^ j.toNat)):=opI λ_ _ _ _ _ _ _ hc q=>lshift_int_small hc.1 hc.2.1 hc.2.2 q
theorem Ka:OpR X (binaryOp .RShift) (rI (λ_ j=>0≤j) λi j=>.int (i / 2 ^ j.toNat)):=opI λi j _ _ _ _ _ hc q =>
 rshift_int hc (by rw[Int.fdiv_eq_ediv_of_nonneg i (yv _)];exact q)
theorem Kb:OpR X (binaryOp .BitAnd) (rI0 λi j=>.int (Builtin.bitAnd i j)):=J2 λ_ _ _ _ _ _ _ q=>and_int q
theorem unI{f:Value→Sem Value}{g:Int→Int}
  (rule:∀(i:Int) (t:Tok) (s:Shared) (Q:Value→Shared→Prop) (E:Value→Shared→Prop),Q (.int (g i) s.toks) { s with toks:=s.toks+1 }→wpAny (model X.prog X.w) X.A (f (.int i t)) Q E s) :
  UnR X f (rU λi=>.int (g i)):=by
 intro pins s σ H x v Q I rx h
 obtain⟨i,rfl,q⟩:=h
 obtain⟨t,rfl⟩:=rx
 exact rule i t s _ _ ⟨.int (g i),H,I.tok _,⟨_,rfl⟩,q⟩
theorem Kc:UnR X (unaryOp .USub) (rU λi=>.int (-i)):=unI λ_ _ _ _ _ q=>neg_int q
end
def MC:V→V→Bool
 | .non,.non=>true|.non,.int _=>true|.int _,.non=>true|.non,.bl _=>true|.bl _,.non=>true|.non,.str _=>true|.str _,.non=>true
 | .int _,.int _=>true|.bl _,.bl _=>true|.str _,.str _=>true|.byt _,.byt _=>true
 | .int _,.str _=>true|.str _,.int _=>true|.bl _,.str _=>true|.str _,.bl _=>true
 | _,_=>false
def rEq:R2:=λx y H Q=>MC x y=true∧Q (.bl (decide (x=y))) H
def rNe:R2:=λx y H Q=>MC x y=true∧Q (.bl (!decide (x=y))) H
theorem Az{i j:Int}:decide (V.int i=V.int j)=(i==j):=by
 rw[Bool.eq_iff_iff]
 simp
theorem Dp{i j:Bool}:decide (V.bl i=V.bl j)=(i==j):=by
 rw[Bool.eq_iff_iff]
 simp
theorem qa{i j:Str}:decide (V.str i=V.str j)=(i==j):=by
 rw[Bool.eq_iff_iff]
 simp
theorem AA{i j:Array UInt8}:decide (V.byt i=V.byt j)=(i.toList==j.toList):=by
 rw[Bool.eq_iff_iff]
 cases i
 cases j
 simp
section
variable{X:Cx}{a b c:Expr}{ta tb tc:TE}{pos:Pos}
theorem bH{pins:List (Addr×Obj)}{σ:St}{H:Hp}{s:Shared}{Q:VK}{k k':Bool}(I:Inv X pins σ H s)(q:Q (.bl k) H)(e:k=k'):EP X pins σ Q (.bool k') s:=by
 subst e
 exact⟨.bl k,H,I,rfl,q⟩
theorem Jd:OpR X (compareOp .Eq) rEq:=by
 intro pins s σ H x y v u Q I rx ry h
 obtain⟨hs,q⟩:=h
 cases x with
 | non =>
  cases rx
  cases y with
  | non=>cases ry;exact PySem.EqNone.eq_none_none (bH I q (by simp))
  | bl j=>cases ry;exact PySem.EqNone.eq_none_bool (bH I q (by simp))
  | int j=>obtain⟨t',rfl⟩:=ry;exact PySem.EqNone.eq_none_int (bH I q (by simp))
  | str j=>obtain⟨t',rfl⟩:=ry;exact PySem.EqNone.eq_none_str (bH I q (by simp))
  | _=>exact absurd (show false=true from hs) Bool.false_ne_true
 | bl i =>
  cases rx
  cases y with
  | non=>cases ry;exact PySem.EqNone.eq_bool_none (bH I q (by simp))
  | bl j=>cases ry;exact eq_bool (bH I q Dp)
  | str j=>obtain⟨t',rfl⟩:=ry;exact PySem.EqMixed.eq_bool_str (bH I q (by simp))
  | _=>exact absurd (show false=true from hs) Bool.false_ne_true
 | int i =>
  obtain⟨t,rfl⟩:=rx
  cases y with
  | non=>cases ry;exact PySem.EqNone.eq_int_none (bH I q (by simp))
  | int j=>obtain⟨t',rfl⟩:=ry;exact eq_int (bH I q Az)
  | str j=>obtain⟨t',rfl⟩:=ry;exact PySem.EqMixed.eq_int_str (bH I q (by simp))
  | _=>exact absurd (show false=true from hs) Bool.false_ne_true
 | str i =>
  obtain⟨t,rfl⟩:=rx
  cases y with
  | non=>cases ry;exact PySem.EqNone.eq_str_none (bH I q (by simp))
  | bl j=>cases ry;exact PySem.EqMixed.eq_str_bool (bH I q (by simp))
  | int j=>obtain⟨t',rfl⟩:=ry;exact PySem.EqMixed.eq_str_int (bH I q (by simp))
  | str j=>obtain⟨t',rfl⟩:=ry;exact eq_str (bH I q qa)
  | _=>exact absurd (show false=true from hs) Bool.false_ne_true
 | byt i =>
  obtain⟨t,rfl⟩:=rx
  cases y with
  | byt j=>obtain⟨t',rfl⟩:=ry;exact PySem.W.eq_bytes (bH I q AA)
  | _=>exact absurd (show false=true from hs) Bool.false_ne_true
 | _=>cases y<;>exact absurd (show false=true from hs) Bool.false_ne_true
theorem MD:OpR X (compareOp .NotEq) rNe:=by
 intro pins s σ H x y v u Q I rx ry h
 obtain⟨hs,q⟩:=h
 cases x with
 | non =>
  cases rx
  cases y with
  | non=>cases ry;exact PySem.EqNone.ne_none_none (bH I q (by simp))
  | bl j=>cases ry;exact PySem.EqNone.ne_none_bool (bH I q (by simp))
  | int j=>obtain⟨t',rfl⟩:=ry;exact PySem.EqNone.ne_none_int (bH I q (by simp))
  | str j=>obtain⟨t',rfl⟩:=ry;exact PySem.EqNone.ne_none_str (bH I q (by simp))
  | _=>exact absurd (show false=true from hs) Bool.false_ne_true
 | bl i =>
  cases rx
  cases y with
  | non=>cases ry;exact PySem.EqNone.ne_bool_none (bH I q (by simp))
  | bl j=>cases ry;exact ne_bool (bH I q (congrArg not Dp))
  | str j=>obtain⟨t',rfl⟩:=ry;exact PySem.EqMixed.ne_bool_str (bH I q (by simp))
  | _=>exact absurd (show false=true from hs) Bool.false_ne_true
 | int i =>
  obtain⟨t,rfl⟩:=rx
  cases y with
  | non=>cases ry;exact PySem.EqNone.ne_int_none (bH I q (by simp))
  | int j=>obtain⟨t',rfl⟩:=ry;exact ne_int (bH I q (congrArg not Az))
  | str j=>obtain⟨t',rfl⟩:=ry;exact PySem.EqMixed.ne_int_str (bH I q (by simp))
  | _=>exact absurd (show false=true from hs) Bool.false_ne_true
 | str i =>
  obtain⟨t,rfl⟩:=rx
  cases y with
  | non=>cases ry;exact PySem.EqNone.ne_str_none (bH I q (by simp))
  | bl j=>cases ry;exact PySem.EqMixed.ne_str_bool (bH I q (by simp))
  | int j=>obtain⟨t',rfl⟩:=ry;exact PySem.EqMixed.ne_str_int (bH I q (by simp))
  | str j=>obtain⟨t',rfl⟩:=ry;exact ne_str (bH I q (congrArg not qa))
  | _=>exact absurd (show false=true from hs) Bool.false_ne_true
 | byt i =>
  obtain⟨t,rfl⟩:=rx
  cases y with
  | byt j=>obtain⟨t',rfl⟩:=ry;exact PySem.W.ne_bytes (bH I q (congrArg not AA))
  | _=>exact absurd (show false=true from hs) Bool.false_ne_true
 | _=>cases y<;>exact absurd (show false=true from hs) Bool.false_ne_true
theorem Je:OpR X (compareOp .Lt) (rI0 λi j=>.bl (decide (i<j))):=J3 λ_ _ _ _ _ _ _ q=>lt_int q
theorem ME:OpR X (compareOp .LtE) (rI0 λi j=>.bl (decide (i≤j))):=J3 λ_ _ _ _ _ _ _ q=>le_int q
theorem Jf:OpR X (compareOp .Gt) (rI0 λi j=>.bl (decide (j<i))):=J3 λ_ _ _ _ _ _ _ q=>gt_int q
theorem Ke:OpR X (compareOp .Is) (λx y H Q=>y=.non∧Q (.bl (decide (x=.non))) H):=by
 intro pins s σ H x y v u Q I rx ry h
 obtain⟨rfl,q⟩:=h
 cases ry
 refine is_none_gen (bH I q ?_)
 cases x<;>first
  | (cases rx;rfl)
  | (obtain⟨t,rfl⟩:=rx;rfl)
theorem OpR.or{f:Value→Value→Sem Value}{r r':R2}(h:OpR X f r)(h':OpR X f r'):OpR X f (λx y H Q=>r x y H Q∨r' x y H Q):=by
 intro pins s σ H x y v u Q I rx ry q
 rcases q with q|q
 ·exact h pins s σ H x y v u Q I rx ry q
 ·exact h' pins s σ H x y v u Q I rx ry q
theorem kZ(b:Expr){op:CmpOp}(h:op≠.In:=by decide)(h2:op≠.NotIn:=by decide):behindInMarks op b=false:=by
 have e1:(op==CmpOp.In)=false:=by cases op<;>first|rfl|exact absurd rfl h
 have e2:(op==CmpOp.NotIn)=false:=by cases op<;>first|rfl|exact absurd rfl h2
 cases b<;>simp[behindInMarks,e1,e2]
theorem GW{op:CmpOp}{r:R2}(ho:OpR X (compareOp op) r)(ha:PE X a ta)(hb:PE X b tb)(hm:behindInMarks op b=false):PE X (.Compare a [op] [b] pos) (tOp r ta tb):=by
 intro pins s σ H Q I h
 exact wpAny_Compare1 (J1 ha hb I h λv u s2 x y H2 I2 rx ry q=>ho pins s2 σ H2 x y v u Q I2 rx ry q) hm
def MF(t:TE):TT:=λσ H Q=>t σ H λx H'=>∃k,x=.bl k∧Q k H'
theorem GX{op:CmpOp}{r:R2}(ho:OpR X (compareOp op) r)(ha:PE X a ta)(hb:PE X b tb)(hm:behindInMarks op b=false):PT X (.Compare a [op] [b] pos) (MF (tOp r ta tb)):=by
 intro pins s σ H Q I h
 refine wpAny_isTrue_Compare1 (thn (ha pins s σ H _ I h) λv s1 ⟨x,H1,I1,r1,q1⟩=>thn (hb pins s1 σ H1 _ I1 q1) λu s2 ⟨y,H2,I2,r2,q2⟩ =>
  thn (ho pins s2 σ H2 x y v u _ I2 r1 r2 q2) λc s3 ⟨z,H3,I3,r3,k,e,q3⟩=>?_) hm
 subst e
 cases r3
 exact wpAny_truthy_bool ⟨H3,I3,q3⟩
def Dq(r r':R2)(ta tb tc:TE):TE:=λσ H Q=>ta σ H λx H1=>tb σ H1 λy H2=>r x y H2 λz H3=>∃k,z=.bl k ∧
 (if k=true then tc σ H3 λw' H4=>r' y w' H4 Q else Q (.bl false) H3)
theorem Dr{op op':CmpOp}{r r':R2}(ho:OpR X (compareOp op) r)(ho':OpR X (compareOp op') r')(ha:PE X a ta)(hb:PE X b tb)(hc:PE X c tc)
  (hm:lastMarks [op,op'] [b,c]=false:=by with_unfolding_all rfl):PE X (.Compare a [op,op'] [b,c] pos) (Dq r r' ta tb tc):=by
 intro pins s σ H Q I h
 refine Compare_chain (thn (ha pins s σ H _ I h) λv s1 ⟨x,H1,I1,r1,q1⟩=>chain_link (thn (hb pins s1 σ H1 _ I1 q1) λu s2 ⟨y,H2,I2,r2,q2⟩ =>
  thn (ho pins s2 σ H2 x y v u _ I2 r1 r2 q2) λd s3 ⟨z,H3,I3,r3,k,e,q3⟩=>?_)) hm
 subst e
 cases r3
 refine wpAny_truthy_bool ?_
 cases k with
 | false=>exact ite_ff ⟨.bl false,H3,I3,rfl,q3⟩
 | true=>exact ite_tt (chain_last (thn (hc pins s3 σ H3 _ I3 q3) λw' s4 ⟨z',H4,I4,r4,q4⟩=>ho' pins s4 σ H4 y z' u w' Q I4 r2 r4 q4))
theorem oR:(sizeLine:Nat)<2 ^ 63:=by rw[sizeLine_eq];decide
theorem yw:OpR X (binaryOp .Add) (λx y H Q=>∃i j,x=.str i∧y=.str j∧i.length+j.length≤sizeLine∧Q (.str (i++j)) H):=by
 intro pins s σ H x y v u Q I rx ry h
 obtain⟨i,j,rfl,rfl,hz,q⟩:=h
 obtain⟨t,rfl⟩:=rx
 obtain⟨t',rfl⟩:=ry
 exact add_str (λt' tk=>⟨.str (i++j),H,I.tok _,⟨_,rfl⟩,q⟩) hz
theorem vals1{x:V}{us:List Value}(r:Vals [x] us):∃u,us=[u]∧RelV x u:=by
 cases r with
 | cons r1 r2=>cases r2;exact⟨_,rfl,r1⟩
theorem vals2{x y:V}{us:List Value}(r:Vals [x,y] us):∃u w',us=[u,w']∧RelV x u∧RelV y w':=by
 cases r with
 | cons r1 r2 =>
  cases r2 with
  | cons r3 r4=>cases r4;exact⟨_,_,rfl,r1,r3⟩
theorem BL:eP X (.type "int") (λxs H Q=>(∃i,xs=[.int i]∧Q (.int i) H)∨∃k,xs=[.bl k]∧Q (.int (if k then 1 else 0)) H):=by
 intro pins s σ H xs us Q I r h
 rcases h with ⟨i,rfl,q⟩|⟨k,rfl,q⟩
 ·obtain⟨u,rfl,t,rfl⟩:=vals1 r
  exact call_int_int ⟨.int i,H,I,⟨_,rfl⟩,q⟩
 ·obtain⟨u,rfl,r1⟩:=vals1 r
  cases r1
  exact call_int_bool ⟨.int (if k then 1 else 0),H,I.tok _,⟨_,rfl⟩,q⟩
end
section
variable{prog:Program}{w:World}{A:Around}{E:Value→Shared→Prop}{s:Shared}{K:PySem.W.Frag}{x dx C f:Addr}{mA:Str→Option Value}{name:Str}{v:Value}
end
theorem mI.some_of{v:V}{o:Option Value}(r:mI (some v) o):∃u,o=some u∧RelV v u:=by
 cases o with
 | none=>exact (show False from r).elim
 | some u=>exact⟨u,rfl,r⟩
theorem mI.none_of{o:Option Value}(r:mI none o):o=none:=by
 cases o with
 | none=>rfl
 | some u=>exact (show False from r).elim
section
variable{P:Program}{w:World}{H H':Hp}{h h':Heap}{a C dx:Addr}{fs fs':List (Str×V)}
end
section
variable{X:Cx}{pins:List (Addr×Obj)}{σ:St}{H:Hp}{s:Shared}{a C dx:Addr}{fs:List (Str×V)}{f:Str}{v:V}{A:Around}{E:Value→Shared→Prop}
end
section
variable{X:Cx}{o e value:Expr}{f:Str}{pos pos' gz:Pos}{ta tv:TE}
end
section
variable{X:Cx}{pins:List (Addr×Obj)}{σ:St}{H:Hp}{s:Shared}{A:Around}{E:Value→Shared→Prop}{Q:Value→Shared→Prop}{c:Value}{b:Bool}
end
structure cM(k:Nat)(A:Around):Prop where
 hd:A.handled=none
 dp:A.depth+3*k+5<recursionLimit
 un:A.units+16*k+200<cLine
theorem cM.mono{j k:Nat}{A:Around}(r:cM k A)(h:j≤k):cM j A:=⟨r.hd,by have:=r.dp;lia,by have:=r.un;lia⟩
theorem cM.deeper{k:Nat}{A:Around}(r:cM (k+1) A)(env:Env):cM k (A.deeper env) :=
 ⟨r.hd,by have:=r.dp;show A.depth+1+3*k+5<_;lia,by have:=r.un;show A.units+3+16*k+200<_;lia⟩
theorem cM.in1{k:Nat}{A:Around}(r:cM (k+1) A):cM k A.in1 :=
 ⟨r.hd,by have:=r.dp;show A.depth+3*k+5<_;lia,by have:=r.un;show A.units+1+16*k+200<_;lia⟩
theorem cM.depth{k:Nat}{A:Around}(r:cM k A):A.depth<recursionLimit:=by have:=r.dp;lia
theorem cM.units{k:Nat}{A:Around}(r:cM k A):A.units+64<cLine:=by have:=r.un;lia
def O7:TA:=λ_ H Q=>Q [] H
def MG(ta:TE)(tr:TA):TA:=λσ H Q=>ta σ H λx H1=>tr σ H1 λxs H2=>Q (x::xs) H2
section
variable{X:Cx}{e:Expr}{es:List Expr}{te:TE}{t:TA}{pos:Pos}
theorem Ds:PA X [] O7:=λ_ _ _ _ H Q I h=>Calls.spliced_nil ⟨[],H,I,.nil,h⟩
theorem u3(ha:PE X e te)(hr:PA X es t)(hs:starEach (e::es) X.env=(false,eval e X.env)::starEach es X.env:=by rfl):PA X (e::es) (MG te t):=by
 intro pos pins s σ H Q I h
 rw[hs]
 show wpAny _ _ (spliced ((false,eval e X.env)::backTo pos (starEach es X.env))) _ _ s
 refine Calls.spliced_cons (thn (ha pins s σ H _ I h) λu s1 ao=>?_)
 obtain⟨x,H1,I1,r1,q1⟩:=ao
 exact thn (hr pos pins s1 σ H1 _ I1 q1) λus s2 ⟨xs,H2,I2,r2,q2⟩=>⟨x::xs,H2,I2,.cons r1 r2,q2⟩
def O8(t:TA):TE:=λσ H Q=>t σ H λxs H1=>xs.length≤sizeLine∧∀p,H1 p=none→Q (.ref p) (upd H1 p (.tup xs))
def O9(t:TA):TE:=λσ H Q=>t σ H λxs H1=>xs.length≤sizeLine∧∀p,H1 p=none→Q (.ref p) (upd H1 p (.lst xs))
theorem Dt{x1}(h:PA X es t):PE X (.Tuple es x1 pos) (O8 t):=by
 intro pins s σ H Q I hq
 refine wpAny_Tuple_spliced (thn (h pos pins s σ H _ I hq) λus s1 ⟨xs,H1,I1,r,z,q⟩=>⟨by rw[← r.length];exact z,?_⟩)
 have hf:H1 s1.heap.objs.size=none:=I1.hok.fresh (Nat.le_refl _)
 refine⟨.ref s1.heap.objs.size,upd H1 s1.heap.objs.size (.tup xs),I1.laid (t':=s1.toks) (λb u e=>Heap.get?_push_of_some _ e) (Nat.le_refl _) ?_,rfl,q _ hf⟩
 exact⟨z,us,r,⟨_,Heap.get?_push_size _ rfl,rfl,_,rfl⟩⟩
theorem Du(h:PA X es t):PE X (.List es pos) (O9 t):=by
 intro pins s σ H Q I hq
 refine wpAny_List_spliced (thn (h pos pins s σ H _ I hq) λus s1 ⟨xs,H1,I1,r,z,q⟩=>⟨by rw[← r.length];exact z,?_⟩)
 have hf:H1 s1.heap.objs.size=none:=I1.hok.fresh (Nat.le_refl _)
 refine⟨.ref s1.heap.objs.size,upd H1 s1.heap.objs.size (.lst xs),I1.laid (t':=s1.toks) (λb u e=>Heap.get?_push_of_some _ e) (Nat.le_refl _) ?_,rfl,q _ hf⟩
 exact⟨z,us,0,r,Heap.get?_push_size _ rfl⟩
end
noncomputable abbrev Sp := List V → Hp → VK → XK → Prop
noncomputable abbrev CXT := List Env → Hp → Shared → XK → Value → Shared → Prop
structure yx(P:Program)(w:World)(K:PySem.W.Frag)(mg:Str→Option Value)(base:Heap)(A:Around)(outer:List Env)(s:Shared)(H:Hp):Prop where
 frames:A.frames=some outer
 mod:Mod K mg base
 bs:∀b o,base.get? b=some o→s.heap.get? b=some o∧H b=none
 bsz:base.objs.size≤s.heap.objs.size
 pQ:s.heap.FunFrames base outer
 frf:∀b∈frs outer,H b=none
 hok:HOk P w H s.heap
 bare:AllBare s.gens
def CE(outer:List Env)(P:Program)(w:World)(H:Hp)(s:Shared)(Q:VK)(u:Value)(s':Shared):Prop :=
 ∃v H',s'.os=s.os∧AllBare s'.gens∧Un (frs outer) [] H H' s.heap s'.heap∧HOk P w H' s'.heap∧RelV v u∧Q v H'
def CR(CX:CXT)(outer:List Env)(P:Program)(w:World)(H:Hp)(s:Shared)(Q:VK)(E:XK)(r:Result)(s':Shared):Prop :=
 match r with
 | .ok (.ret u)=>CE outer P w H s Q u s'
 | .ok _=>False
 | .error e=>CX outer H s E e s'
structure aU(P:Program)(w:World)(K:PySem.W.Frag)(mg:Str→Option Value)(base:Heap)(CX:CXT)(k:Nat)(f:Addr)(fd:FuncData)(ps:List Str)(sp:Sp):Prop where
 len:∀vs H Q E,sp vs H Q E→vs.length=ps.length
 run:∀(A:Around) (outer:List Env) (s:Shared) (H:Hp) (args:Args) (us:List Value) (vs:List V) (Q:VK) (E:XK),cM k A→yx P w K mg base A outer s H→BindsTo s fd args (ps.zip us)→Vals vs us→sp vs H Q E →
  codeAny (model P w) A (.call (.ref f) args) (CR CX outer P w H s Q E) s
theorem yx.in1{P:Program}{w:World}{K:PySem.W.Frag}{mg:Str→Option Value}{base:Heap}{A:Around}{outer:List Env}{s:Shared}{H:Hp}(e:yx P w K mg base A outer s H) :
  yx P w K mg base A.in1 outer s H:=⟨e.frames,e.mod,e.bs,e.bsz,e.pQ,e.frf,e.hok,e.bare⟩
section
variable{X:Cx}{pins:List (Addr×Obj)}{σ:St}{H:Hp}{s s':Shared}
theorem Inv.O_(I:Inv X pins σ H s):yx X.prog X.w X.K X.mg X.base X.A X.stack s H :=
 ⟨I.ok.frames,I.ok.mod,I.bs,Nat.le_trans I.ok.bsz I.sz,I.stack,I.Av,I.hok,I.bare⟩
theorem Inv.after{Q:VK}{u:Value}(I:Inv X pins σ H s)(h:CE X.stack X.prog X.w H s Q u s'):EP X pins σ Q u s':=by
 obtain⟨v,H',os,bare,un,hok,r,q⟩:=h
 obtain⟨hh,g,d,t,os'⟩:=s'
 obtain rfl:os'=s.os:=os
 exact⟨v,H',I.call (h':=hh) (g':=g) (d':=d) (t':=t) (ch:=[]) un hok bare (λb z=>absurd z (by simp)),r,q⟩
end
def Jg(sp:Sp)(dvs:List V)(E:XK)(t:TA):TE:=λσ H Q=>t σ H λvs H1=>sp (vs++dvs) H1 Q E
def Binds(K:PySem.W.Frag)(fd:FuncData)(ps:List Str)(ds:List Value):Prop :=
 ∀(s:Shared) (us:List Value),K.In s.heap→(us++ds).length=ps.length→BindsTo s fd ⟨us,[]⟩ (ps.zip (us++ds))
theorem Binds.all{K:PySem.W.Frag}{fd:FuncData}{ps:List Str}(h:∀us:List Value,us.length=ps.length→bindArgs fd ⟨us,[]⟩=pure (ps.zip us)):Binds K fd ps []:=λs us _ hl=>by
 rw[List.append_nil] at hl ⊢
 exact .of_eq (h us hl)
def Passes(CX:CXT)(X:Cx)(E:XK):Prop:=∀(pins:List (Addr×Obj)) (σ:St) (H:Hp) (s:Shared) (e:Value) (s':Shared),Inv X pins σ H s→CX X.stack H s E e s'→X.xe e s'
section
variable{X:Cx}{CX:CXT}{k:Nat}{f C:Addr}{fd:FuncData}{ps:List Str}{sp:Sp}{dvs:List V}{ds:List Value}{E:XK}{x m:Str}{p pos apos:Pos}{e o:Expr}{es:List Expr}{ta:TE}{t:TA}
theorem Kf{pins:List (Addr×Obj)}{σ:St}{H:Hp}{s:Shared}{Q:VK}{us:List Value}{vs:List V}(F:aU X.prog X.w X.K X.mg X.base CX k f fd ps sp)(hr:cM k X.A)(hb:Binds X.K fd ps ds)(hd:Vals dvs ds)(hx:Passes CX X E)
  (I:Inv X pins σ H s) (r:Vals vs us) (h:sp (vs++dvs) H Q E):wpAny (model X.prog X.w) X.A (call (.ref f) us) (EP X pins σ Q) X.xe s:=by
 have r2:Vals (vs++dvs) (us++ds):=r.append hd
 have hl:(us++ds).length=ps.length:=by rw[← r2.length];exact F.len _ _ _ _ h
 refine wpAny_call (codeAny_mono (F.run X.A X.stack s H ⟨us,[]⟩ (us++ds) (vs++dvs) Q E hr I.O_ (hb s us I.kIn hl) r2 h) λr s' hq=>?_)
 cases r with
 | error e=>exact hx pins σ H s e s' I hq
 | ok fl =>
  cases fl with
  | ret u=>exact I.after hq
  | next=>exact False.elim hq
  | brk=>exact False.elim hq
  | cont=>exact False.elim hq
theorem GY(F:aU X.prog X.w X.K X.mg X.base CX k f fd ps sp)(hr:cM k X.A)(hg:Gl X x)(hm:X.mg x=some (.ref f))(hk:PySem.W.keepIn X.K (.ref f)=true)(hb:Binds X.K fd ps ds)(hd:Vals dvs ds)(hx:Passes CX X E)
  (ha:PA X (e::es) t) (hdb:(x==("__debug__":Str))=false:=by decide) (he:starEach (e::es) X.env=(false,eval e X.env)::starEach es X.env:=by rfl) (hpl:(backTo pos (starEach es X.env)).any (·.1)=false:=by rfl) :
  PE X (.Call (.Name x p) (e::es) [] pos) (Jg sp dvs E t):=by
 intro pins s σ H Q I h
 refine wpAny_Call_Name_kw (GO I hg hm ?_ hdb)
 refine PySem.W.callWith_K (h₀:=X.base) I.ok.mod.kin hk (thn (ha pos pins s σ H _ I h) λus s1 ⟨vs,H1,I1,r,q⟩=>⟨I1.kIn,?_⟩) he hpl
 exact Kf F hr hb hd hx I1 r q
end
section
variable{X:Cx}{CX:CXT}{k:Nat}{f C:Addr}{fd:FuncData}{ps ks:List Str}{sp:Sp}{E:XK}{x m:Str}{p pos apos Ub:Pos}{e o:Expr}{es:List Expr}{kws:List Keyword}{te ta:TE}{t tk:TA}{nm:Option Str}
variable{g:List Value→List Value→List Value}{gV:List V→List V→List V}
end
structure aR(N P:List Str)(sc:Scope):Prop where
 kind:sc.kind=.function
 co:sc.isCoroutine=false
 gen:sc.isGenerator=false
 nd:N.Nodup
 pre:N.take P.length=P
 par:∀x∈P,sc.names.lookup x=some .local∨sc.names.lookup x=some .cell
 Kg:∀y∈sc.names,y.2≠.free
theorem t_{kindOf:Str→Option NameKind}{x:Str}:∀{binds:List (Str×Value)}{m:Str→Option Value},(∀v,(x,v)∉binds)→bindL kindOf binds m x=m x
 | [],_,_=>rfl
 | (n,v)::r,m,h=>by
  unfold bindL
  rw[t_ λw hw=>h w (List.mem_cons_of_mem _ hw)]
  split
  ·have:x≠n:=by rintro rfl;exact h v List.mem_cons_self
   simp[this]
  ·rfl
theorem ub{kindOf:Str→Option NameKind}{x:Str}:∀{binds:List (Str×Value)}{m:Str→Option Value},(∀v,(x,v)∉binds)→bindC kindOf binds m x=m x
 | [],_,_=>rfl
 | (n,v)::r,m,h=>by
  unfold bindC
  rw[ub λw hw=>h w (List.mem_cons_of_mem _ hw)]
  split
  ·rfl
  ·have:x≠n:=by rintro rfl;exact h v List.mem_cons_self
   simp[this]
theorem uc{kindOf:Str→Option NameKind}{x:Str}{v:Value}:∀{P:List Str}{vs:List Value}{i:Nat}{m:Str→Option Value},P.Nodup→P[i]?=some x→vs[i]?=some v→kindOf x=some .local →
  bindL kindOf (P.zip vs) m x=some v
 | [],_,_,_,_,h,_,_=>by simp at h
 | _::_,[],_,_,_,_,h,_=>by simp at h
 | p::P,w::vs,0,m,nd,h1,h2,hk=>by
  simp at h1 h2;subst h1;subst h2
  show bindL kindOf ((p,w)::P.zip vs) m p=_
  unfold bindL
  rw[t_ λv hv=>(List.nodup_cons.mp nd).1 (List.of_mem_zip hv).1,if_pos hk]
  simp
 | p::P,w::vs,i+1,m,nd,h1,h2,hk=>by
  show bindL kindOf ((p,w)::P.zip vs) m x=_
  unfold bindL
  exact uc (i:=i) (List.nodup_cons.mp nd).2 (by simpa using h1) (by simpa using h2) hk
theorem ud{kindOf:Str→Option NameKind}{x:Str}{v:Value}:∀{P:List Str}{vs:List Value}{i:Nat}{m:Str→Option Value},P.Nodup→P[i]?=some x→vs[i]?=some v→kindOf x≠some .local →
  bindC kindOf (P.zip vs) m x=some v
 | [],_,_,_,_,h,_,_=>by simp at h
 | _::_,[],_,_,_,_,h,_=>by simp at h
 | p::P,w::vs,0,m,nd,h1,h2,hk=>by
  simp at h1 h2;subst h1;subst h2
  show bindC kindOf ((p,w)::P.zip vs) m p=_
  unfold bindC
  rw[ub λv hv=>(List.nodup_cons.mp nd).1 (List.of_mem_zip hv).1,if_neg hk]
  simp
 | p::P,w::vs,i+1,m,nd,h1,h2,hk=>by
  show bindC kindOf ((p,w)::P.zip vs) m x=_
  unfold bindC
  exact ud (i:=i) (List.nodup_cons.mp nd).2 (by simpa using h1) (by simpa using h2) hk
def start(N:List Str)(vs:List V):St:=vs.map some++List.replicate (N.length-vs.length) none
def yA(CX:CXT)(P:Program)(w:World)(K:PySem.W.Frag)(mg:Str→Option Value)(base:Heap)(N:List Str)(qual:Str)(scope:Scope)(f:Addr)(cd:Value)(A:Around)(outer:List Env)(s:Shared)(H:Hp)(E:XK):Cx where
 prog:=P
 w:=w
 K:=K
 mg:=mg
 base:=base
 A:=A.deeper (envOfC qual scope s.heap.objs.size f cd)
 N:=N
 s₀:=s
 H₀:=H
 env:=envOfC qual scope s.heap.objs.size f cd
 outer:=outer
 stack:=envOfC qual scope s.heap.objs.size f cd::outer
 ex:=[]
 calm:=true
 fn:=λ_=>true
 pn:=[]
 xe:=λe s'=>wpAny (model P w) (A.deeper (envOfC qual scope s.heap.objs.size f cd)) (leaving (envOfC qual scope s.heap.objs.size f cd) e) (λ_ s''=>CX outer H s E e s'') (λe' s''=>CX outer H s E e' s'') s'
theorem wX{sc:Scope}{n:Nat}{x:Str}(h:sc.names.lookup x=some .cell):∃c,(cellsFrom n sc.names []).lookup x=some c:=by
 have q:=PySem.W.cellsFrom_some sc.names n [] (.inl h)
 exact Option.isSome_iff_exists.mp q
theorem BM{CX:CXT}{P:Program}{w:World}{K:PySem.W.Frag}{mg:Str→Option Value}{base:Heap}{N ps:List Str}{qual:Str}{scope:Scope}{f:Addr}{cd:Value}{A:Around}{outer:List Env}{s s1:Shared}{H:Hp}{E:XK}{us:List Value}{vs:List V}
  (S:aR N ps scope) (hd:A.handled=none) (e0:yx P w K mg base A outer s H) (hl:vs.length=ps.length) (r:Vals vs us)
  (x:InCallC s s.heap.objs.size (bindL (envOfC qual scope s.heap.objs.size f cd).kindOf (ps.zip us) λ_=>none) (cellsFrom (s.heap.objs.size+1) scope.names []) (bindC (envOfC qual scope s.heap.objs.size f cd).kindOf (ps.zip us) λ_=>none) s1) :
  Inv (yA CX P w K mg base N qual scope f cd A outer s H E) [] (start N vs) H s1:=by
 have hpl:ps.length≤N.length:=by have:=congrArg List.length S.pre;rw[List.length_take] at this;lia
 obtain⟨h1,tk,rfl,hk⟩:=x.done
 have noA:∀b:Addr,b∉(yA CX P w K mg base N qual scope f cd A outer s H E).ex:=λb z=>absurd (show b∈([]:List Addr) from z) (by simp)
 refine⟨⟨e0.mod,S.kind,rfl,rfl,Nat.le_refl _,λy z c h1 h2=>?_,λy hy=>?_,λy c _ h=>?_,λ_=>hd,Around.frames_deeper e0.frames,.inr ⟨rfl,rfl⟩,λb z=>absurd z (noA b),e0.bs,e0.bsz,λb _ _=>noA b,λb z=>absurd z (noA b),e0.pQ,e0.frf⟩,
  rfl,e0.bare,Un.kept hk,⟨_,x.toInCall.ns,λi y v h1 h2 h3=>?_⟩,λy c h=>⟨_,x.cell y c h⟩,e0.hok.fresh (Nat.le_refl _),λy c h=>?_,λp hp=>absurd (show p∈([]:List (Addr×Obj)) from hp) (by simp),e0.hok.kept hk,?_⟩
 ·exact name_of_addr x.apart (PySem.mem_of_lookup h1) (PySem.mem_of_lookup h2)
 ·have hy:scope.names.lookup y=some .cell∨scope.names.lookup y=some .free:=hy
  rcases hy with hy|hy
  ·exact wX hy
  ·exact absurd rfl (S.Kg _ (PySem.mem_of_lookup hy))
 ·exact Nat.le_of_lt (x.above y c (PySem.mem_of_lookup h))
 ·have hi:i<vs.length:=by
   unfold start at h2
   by_cases hi:i<vs.length
   ·exact hi
   ·rw[List.getElem?_append_right (by simpa using hi)] at h2
    rw[List.getElem?_replicate] at h2
    split at h2<;>cases h2
  have ha:vs[i]?=some v:=by
   unfold start at h2
   rw[List.getElem?_append_left (by simpa using hi),List.getElem?_map] at h2
   cases e:vs[i]? with
   | none=>rw[e] at h2;cases h2
   | some a=>rw[e] at h2;cases h2;rfl
  obtain⟨u,hu,rv⟩:=r.get ha
  have hp:ps[i]?=some y:=by
   rw[← S.pre,List.getElem?_take_of_lt (by lia)];exact h1
  have ndP:ps.Nodup:=by rw[← S.pre];exact S.nd.sublist (List.take_sublist _ _)
  refine⟨u,rv,?_⟩
  rcases S.par y (List.mem_of_getElem? hp) with k|k
  ·exact .inl ⟨k,uc ndP hp hu k⟩
  ·obtain⟨c,e⟩:=wX (n:=s.heap.objs.size+1) k
   refine .inr ⟨.inl k,c,e,?_⟩
   have q:=x.cell y c e
   rw[ud ndP hp hu (by show scope.names.lookup y≠_;rw[k];decide)] at q
   exact q
 ·exact e0.hok.fresh (Nat.le_of_lt (x.above y c (PySem.mem_of_lookup h)))
 ·unfold start
  show _=N.length
  rw[List.length_append,List.length_map,List.length_replicate]
  lia
theorem MH{CX:CXT}{P:Program}{w:World}{K:PySem.W.Frag}{mg:Str→Option Value}{base:Heap}{k:Nat}{f:Addr}{name qual:Str}{params:Arguments}{body:List Stmt}{scope:Scope}{dV kV doc pm cdv ct oc:Value}{an od:Option Addr}
  {osl:Array (Option Value)}{N ps:List Str}{sp:Sp} (lk:K.lookup f=some ⟨oc,od,.func (PySem.W.fnOf name qual params body scope dV kV doc pm an cdv ct),osl⟩) (hcd:PySem.W.codeIn K cdv qual=true) (S:aR N ps scope)
  (len:∀vs H Q E,sp vs H Q E→vs.length=ps.length)
  (Dv:∀(A:Around) (outer:List Env) (s:Shared) (H:Hp) (vs:List V) (Q:VK) (E:XK),cM k (A.deeper (envOfC qual scope s.heap.objs.size f cdv))→sp vs H Q E →
   ∃t,PSs (yA CX P w K mg base N qual scope f cdv A outer s H E) body t∧t { nx:=λ_ H'=>Q .non H',rt:=Q } (start N vs) H) :
  aU P w K mg base CX (k+1) f (PySem.W.fnOf name qual params body scope dV kV doc pm an cdv ct) ps sp:=by
 refine⟨len,λA outer s H args us vs Q E hr e0 hb r hsp=>?_⟩
 have hl:=len _ _ _ _ hsp
 have KX:K.In s.heap:=e0.mod.kin.keeps λb o e=>(e0.bs b o e).1
 have lim:s.heap.NoLimit:=e0.mod.nolimit.keeps λb o e=>(e0.bs b o e).1
 have MI:∀y∈ps.zip us,scope.names.lookup y.1=some .local∨(scope.names.lookup y.1=some .cell∧((cellsFrom (s.heap.objs.size+1) scope.names []).lookup y.1).isSome=true):=λao hy=>by
  obtain⟨n,v⟩:=ao
  rcases S.par n (List.of_mem_zip hy).1 with q|q
  ·exact .inl q
  ·exact .inr ⟨q,PySem.W.cellsFrom_some _ _ _ (.inl q)⟩
 refine codeAny_call_function hr.depth (KX _ _ lk) rfl S.co S.gen rfl (PySem.W.codeRec_of KX hcd) (hb _ _ _ _ ?_)
 refine wpAny_newFunctionEnv_cells S.kind MI λenv he s1 x=>?_
 subst he
 refine⟨lim.keeps x.toInCall.keep,codeAny_func ?_⟩
 obtain⟨t,ht,hq⟩:=Dv A outer s H vs Q E (hr.deeper _) hsp
 have I:Inv (yA CX P w K mg base N qual scope f cdv A outer s H E) [] (start N vs) H s1:=BM S hr.hd e0 hl r x
 refine wpAny_mono (ht [] s1 (start N vs) H _ I hq) (λfl s' hs=>?_) λe s' hs=>hs
 have fin:∀{σ':St}{H':Hp}{v:V}{u:Value},Inv (yA CX P w K mg base N qual scope f cdv A outer s H E) [] σ' H' s'→RelV v u→Q v H'→CE outer P w H s Q u s' :=
  λ{σ' H' v u} J rv q=>⟨v,H',J.os,J.bare,J.base,J.hok,rv,q⟩
 cases fl with
 | ret u =>
  obtain⟨v,σ',H',J,rv,q⟩:=hs
  exact fin J rv q
 | next =>
  obtain⟨σ',H',J,q⟩:=hs
  exact fin (v:=V.non) (u:=Value.none) J rfl q
 | brk =>
  obtain⟨_,_,_,q⟩:=hs
  exact False.elim q
 | cont =>
  obtain⟨_,_,_,q⟩:=hs
  exact False.elim q
section
variable{X:Cx}{x:Str}{p pos:Pos}{e:Expr}{es:List Expr}{t:TA}{id T:String}{r:List V→Hp→VK→Prop}
def tCB(r:List V→Hp→VK→Prop)(t:TA):TE:=λσ H Q=>t σ H λvs H1=>r vs H1 Q
theorem nJ(hc:eP X (.builtin id) r)(hg:Gl X x)(hm:X.mg x=none)(hv:bootBuiltins x=some (.builtin id))(ha:PA X (e::es) t)(hn:x≠"__name__":=by decide)(hdb:(x==("__debug__":Str))=false:=by decide)
  (he:starEach (e::es) X.env=(false,eval e X.env)::starEach es X.env:=by rfl) (hpl:(backTo pos (starEach es X.env)).any (·.1)=false:=by rfl):PE X (.Call (.Name x p) (e::es) [] pos) (tCB r t):=by
 intro pins s σ H Q I h
 refine wpAny_Call_Name_kw (oQ I hg hm hv ?_ hn hdb)
 exact PyProof.Rows.callWith_builtin1 (thn (ha pos pins s σ H _ I h) λus s1 ⟨vs,H1,I1,r1,q1⟩=>hc pins s1 σ H1 vs us Q I1 r1 q1) he hpl
theorem ue(hc:eP X (.type T) r)(hg:Gl X x)(hm:X.mg x=none)(hv:bootBuiltins x=some (.type T))(ha:PA X (e::es) t)(hn:x≠"__name__":=by decide)(hdb:(x==("__debug__":Str))=false:=by decide)
  (he:starEach (e::es) X.env=(false,eval e X.env)::starEach es X.env:=by rfl) (hpl:(backTo pos (starEach es X.env)).any (·.1)=false:=by rfl):PE X (.Call (.Name x p) (e::es) [] pos) (tCB r t):=by
 intro pins s σ H Q I h
 refine wpAny_Call_Name_kw (oQ I hg hm hv ?_ hn hdb)
 exact PyProof.Rows.callWith_type1 (thn (ha pos pins s σ H _ I h) λus s1 ⟨vs,H1,I1,r1,q1⟩=>hc pins s1 σ H1 vs us Q I1 r1 q1) he hpl
end
end L2
namespace HT
open PySem PyProof.Rows
def lexLt:List Int→List Int→Bool
 | [],[]=>false
 | [],_::_=>true
 | _::_,[]=>false
 | x::xs,y::ys=>if x=y then lexLt xs ys else decide (x<y)
theorem yB(x y:Int)(xs ys:List Int):lexLt (x::xs) (y::ys)=if x=y then lexLt xs ys else decide (x<y):=rfl
theorem Dw(A:Around)(s:Shared)(a:Int)(t:Tok)(c:Int)(u:Tok):∃e,SeqAt.EqAt A s (.int a t) (.int c u) e∧(e=true↔a=c) :=
 ⟨(a==c),SeqAt.EqAt.int_int a t c u,by simp⟩
theorem Dx(A:Around)(s:Shared)(a:Int)(t:Tok)(c:Int)(u:Tok)(prog:Program)(w:World)(E:Value→Shared→Prop)(Q:Value→Shared→Prop)(h:Q (.bool (decide (a<c))) s) :
  wpAny (model prog w) A (richCompare .Lt (.int a t) (.int c u)) Q E s :=
 (PyProof.Rows.lt_int h:wpAny (model prog w) A (compareOp .Lt (.int a t) (.int c u)) Q E s)
section
open PySem.SeqAt
open PySem.AutoSeq1 (wpAny_loadPart')
open PySem.MeetsSeq PySem.MeetsSeq2 PySem.MeetsSeq3
end
section
variable{prog:Program}{w:World}{A:Around}{E:Value→Shared→Prop}{s:Shared}
theorem GZ{t b:Addr}{vs ws:List Value}{Q:Value→Shared→Prop}(ht:IsTup s.heap t vs.toArray)(hb:IsTup s.heap b ws.toArray)(hv:vs≠[])
  (h1:ws=[]→Q (.ref t) s) (h2:ws≠[]→Q (.ref s.heap.objs.size) { s with heap:=s.heap.push { cls:=.type "tuple",data:=.seq (vs++ws).toArray } })
  (hsz:vs.length+ws.length≤sizeLine):wpAny (model prog w) A (binaryOp .Add (.ref t) (.ref b)) Q E s:=by
 obtain⟨⟨cls,dd,data,sl⟩,ho,hc,n,hd⟩:=id ht
 obtain⟨⟨Kh,dd2,data2,sl2⟩,ho2,hc2,n2,hd2⟩:=id hb
 simp only at hc hd hc2 hd2
 subst hc hd hc2 hd2
 have e:vs.toArray++ws.toArray=(vs++ws).toArray:=by simp
 by_cases hw:ws=[]
 ·exact concat_meets ⟨_,ho,rfl⟩ ⟨_,ho2,rfl⟩ noFill_tuple_add seq_tuple_add PySem.F.slot_tuple_add PySem.F.entry_tuple_add (PySem.F.args_tuple_add_2 _ _)
   (tuple_addW1 t b vs.toArray ws.toArray n n2 dd dd2 sl sl2 (by simpa using hv) (by simp[hw])) ⟨ho,ho2,h1 hw⟩
 ·refine concat_meets ⟨_,ho,rfl⟩ ⟨_,ho2,rfl⟩ noFill_tuple_add seq_tuple_add PySem.F.slot_tuple_add PySem.F.entry_tuple_add (PySem.F.args_tuple_add_2 _ _)
   (tuple_addW2 t b vs.toArray ws.toArray n n2 dd dd2 sl sl2 (by simpa using hv) (by simpa using hw) (by rw[List.size_toArray,List.size_toArray];exact hsz)) ⟨ho,ho2,?_⟩
  rw[e]
  exact h2 hw
def sIx(n d:Nat):Option Int→Nat
 | none=>d
 | some v=>if v<0 then (v+(n:Int)).toNat else min v.toNat n
theorem Ki(n d:Nat)(hd:d≤n)(o:Option Int):sIx n d o≤n:=by
 cases o with
 | none=>exact hd
 | some v =>
  show (if v<0 then (v+(n:Int)).toNat else min v.toNat n)≤n
  by_cases hv:v<0
  ·rw[if_pos hv];lia
  ·rw[if_neg hv];exact Nat.min_le_right _ _
theorem AB(v:Int)(n d:Nat):(if v<0 then max (v+(n:Int)) 0 else min v (n:Int))=((sIx n d (some v):Nat):Int):=by
 show (if v<0 then max (v+(n:Int)) 0 else min v (n:Int))=(((if v<0 then (v+(n:Int)).toNat else min v.toNat n):Nat):Int)
 by_cases hv:v<0
 ·simp only[if_pos hv];lia
 ·simp only[if_neg hv];lia
theorem yC(lo hi:Option Int)(n:Nat):Builtin.Slice.sliceAdjust lo hi 1 (n:Int)=(((sIx n 0 lo:Nat):Int),((sIx n n hi:Nat):Int)):=by
 have h1:¬ ((1:Int)<0):=by lia
 unfold Builtin.Slice.sliceAdjust
 simp only[h1,if_false]
 refine Prod.ext ?_ ?_
 ·cases lo with
  | none=>rfl
  | some v=>exact AB v n 0
 ·cases hi with
  | none=>rfl
  | some v=>exact AB v n n
theorem yD(i j:Nat):Builtin.Slice.slicePlaces (i:Int) (j:Int) 1=j-i:=by
 unfold Builtin.Slice.slicePlaces
 have h1:(1:Int) > 0:=by lia
 simp only[h1,if_true,Int.ediv_one]
 split<;>lia
theorem qu{v:Value}{o:Option Int}{Q:Option Int→Shared→Prop}(p:IsPart v o)(h:Q o s):wpAny (model prog w) A (Builtin.Slice.slicePartIndex v) Q E s:=by
 cases p with
 | none=>exact slicePart_none h
 | int i t=>exact slicePart_int h
theorem oS{sl:Addr}{vl vu:Value}{lo hi:Option Int}{n:Nat}{Q:Int×Int×Nat→Shared→Prop}(hs:s.heap.IsSliceOf sl vl vu .none)(pl:IsPart vl lo)(pu:IsPart vu hi)
  (h:Q (((sIx n 0 lo:Nat):Int),1,sIx n n hi-sIx n 0 lo) s):wpAny (model prog w) A (Builtin.Slice.sliceApplied (.ref sl) (pure (n:Int))) Q E s:=by
 obtain⟨os,hos,hcs,hds⟩:=id hs
 unfold Builtin.Slice.sliceApplied Builtin.Slice.sliceFields
 refine wpAny_bind (wpAny_bind (wpAny_field hos hds (x:=vl) rfl (wpAny_bind (wpAny_field hos hds (x:=vu) rfl (wpAny_bind (wpAny_field hos hds (x:=.none) rfl (wpAny_pure ?_)))))))
 refine wpAny_bind (slicePart_none ?_)
 show wpAny _ _ (if ((1:Int)==0)=true then _ else _) _ _ s
 rw[if_neg (by decide)]
 refine wpAny_bind (qu pl (wpAny_bind (qu pu (wpAny_bind (wpAny_pure ?_)))))
 show wpAny _ _ (match Builtin.Slice.sliceAdjust lo hi 1 (n:Int) with|(lo,hi)=>pure (lo,(1:Int),Builtin.Slice.slicePlaces lo hi 1)) _ _ s
 rw[yC lo hi n]
 show wpAny _ _ (pure (((sIx n 0 lo:Nat):Int),(1:Int),Builtin.Slice.slicePlaces ((sIx n 0 lo:Nat):Int) ((sIx n n hi:Nat):Int) 1)) _ _ s
 rw[yD]
 exact wpAny_pure h
theorem Dy(xs:Array Value)(i k:Nat):((List.range k).filterMap λ(m:Nat)=>xs[((i:Int)+(m:Int)*1).toNat]?).toArray=((xs.toList.drop i).take k).toArray:=by
 have e:(λ(m:Nat)=>xs[((i:Int)+(m:Int)*1).toNat]?)=λm=>xs[i+m]?:=by
  funext m
  have:((i:Int)+(m:Int)*1).toNat=i+m:=by lia
  rw[this]
 rw[e]
 have:=pick_run xs i k
 rw[List.filterMap_map] at this
 have e2:((λx=>xs[x]?) ∘ λx=>i+x)=λm=>xs[i+m]?:=rfl
 rw[e2] at this
 rw[this]
theorem nK{t sl:Addr}{items:Array Value}{vl vu:Value}{lo hi:Option Int}{Q:Value→Shared→Prop}(ht:IsTup s.heap t items)(hs:s.heap.IsSliceOf sl vl vu .none)(pl:IsPart vl lo)(pu:IsPart vu hi)
  (hw:¬ (sIx items.size 0 lo=0∧sIx items.size items.size hi=items.size))
  (h:Q (.ref s.heap.objs.size) { s with heap:=s.heap.push { cls:=.type "tuple",data:=.seq ((items.toList.drop (sIx items.size 0 lo)).take (sIx items.size items.size hi-sIx items.size 0 lo)).toArray } })
  (hsz:items.size≤sizeLine):wpAny (model prog w) A (getItem (.ref t) (.ref sl)) Q E s:=by
 have AD:sizeOk (.seq ((items.toList.drop (sIx items.size 0 lo)).take (sIx items.size items.size hi-sIx items.size 0 lo)).toArray):=by
  show ((items.toList.drop (sIx items.size 0 lo)).take (sIx items.size items.size hi-sIx items.size 0 lo)).toArray.size≤sizeLine
  rw[List.size_toArray,List.length_take,List.length_drop,Array.length_toList]
  lia
 have hj:sIx items.size items.size hi≤items.size:=Ki _ _ (Nat.le_refl _) hi
 obtain⟨os,hos,hcs,hds⟩:=id hs
 have hTs:s.TypeIs (.ref sl) "slice":=⟨os,hos,hcs⟩
 unfold getItem
 try with_reducible refine wpAny_holding ?_
 first|refine wpAny_bind (wpAny_pure ?_)|skip
 refine wpAny_bind (wpAny_sequenceKey ht.typeIs (by decide) ?_)
 refine wpAny_bind (wpAny_callSpecial?_slot (name:=Str.ofString "__getitem__") ht.typeIs PyProof.Rows.slot_tuple_getitem
  (wpAny_call_entry PyProof.Rows.slot_tuple_getitem ht.typeIs entry_tuple_getitem ?_ (args_tuple_getitem _ _)))
 show wpAny _ _ (Builtin.Tuple.tupleItemsOf (.ref t)>>=_) _ _ s
 refine wpAny_bind (tupleItemsOf_ ht ?_)
 refine wpAny_bind (wpAny_typeOf hTs ?_)
 rw[if_pos (by decide)]
 refine wpAny_bind (oS hs pl pu ?_)
 have hno:¬ ((((sIx items.size 0 lo:Nat):Int)==0 && (1:Int)==1 && (sIx items.size items.size hi-sIx items.size 0 lo)==items.size)=true):=by
  intro q
  rw[Bool.and_eq_true,Bool.and_eq_true] at q
  have q1:((sIx items.size 0 lo:Nat):Int)=0:=eq_of_beq q.1.1
  have q2:sIx items.size items.size hi-sIx items.size 0 lo=items.size:=eq_of_beq q.2
  exact hw ⟨by lia,by lia⟩
 show wpAny _ _ (if (((sIx items.size 0 lo:Nat):Int)==0 && (1:Int)==1 && (sIx items.size items.size hi-sIx items.size 0 lo)==items.size)=true then _ else _) _ _ s
 rw[if_neg hno,Dy]
 first
  | exact wpAny_bind (m:=Builtin.Tuple.tupleExact _) (wpAny_newObj_type (wpAny_pure ⟨_,rfl,wpAny_pure h⟩) AD)
  | exact wpAny_bind (m:=Builtin.Tuple.tupleExact _) (wpAny_newObj_type (wpAny_bind (wpAny_pure (wpAny_pure ⟨_,rfl,wpAny_pure h⟩))) AD)
  | exact wpAny_bind (wpAny_bind (m:=Builtin.Tuple.tupleExact _) (wpAny_newObj_type (wpAny_pure (wpAny_pure ⟨_,rfl,wpAny_pure h⟩)) AD))
  | exact wpAny_bind (wpAny_bind (m:=Builtin.Tuple.tupleExact _) (wpAny_newObj_type (wpAny_pure ⟨_,rfl,wpAny_pure h⟩) AD))
end
end HT
namespace L2
open PySem PySem.Spec PyProof.Rows
noncomputable abbrev TO := St → Hp → (Option Int → Hp → Prop) → Prop
def PO(X:Cx)(e:Option Expr)(t:TO):Prop :=
 ∀(pins:List (Addr×Obj)) (s:Shared) (σ:St) (H:Hp) (Q:Option Int→Hp→Prop),Inv X pins σ H s→t σ H Q →
  wpAny (model X.prog X.w) X.A (evalPart e X.env) (λu s'=>∃o H',Inv X pins σ H' s'∧IsPart u o∧Q o H') X.xe s
def G0:TO:=λ_ H Q=>Q none H
def MJ(t:TE):TO:=λσ H Q=>t σ H λx H1=>∃i,x=.int i∧Q (some i) H1
theorem intsAre_of{ns:List Int}:∀{us:List Value},Vals (ns.map V.int) us→IntsAre us ns:=by
 induction ns with
 | nil=>intro us r;rw[List.map_nil] at r;cases r;exact .nil
 | cons n ns ih =>
  intro us r
  rw[List.map_cons] at r
  cases r with
  | cons r1 r2 =>
   obtain⟨t,e⟩:=r1
   subst e
   exact .cons n t (ih r2)
section
variable{X:Cx}{e:Expr}{te:TE}{lo hi:Option Expr}{tl th:TO}{pos p2:Pos}
theorem G1:PO X none G0:=by
 intro pins s σ H Q I h
 rw[evalPart_none]
 exact wpAny_pure ⟨none,H,I,.none,h⟩
theorem G2(h:PE X e te):PO X (some e) (MJ te):=by
 intro pins s σ H Q I hw
 rw[evalPart_some]
 refine thn (h pins s σ H _ I hw) λu s1 ao=>?_
 obtain⟨x,H1,I1,r1,q1⟩:=ao
 obtain⟨i,rfl,q⟩:=q1
 obtain⟨t,rfl⟩:=r1
 exact⟨some i,H1,I1,.int i t,q⟩
def SlR(X:Cx)(r:V→Option Int→Option Int→Hp→VK→Prop):Prop :=
 ∀(pins:List (Addr×Obj)) (s:Shared) (σ:St) (H:Hp) (x:V) (v vl vu:Value) (lo hi:Option Int) (sl:Addr) (Q:VK),Inv X pins σ H s→RelV x v→s.heap.IsSliceOf sl vl vu .none→IsPart vl lo→IsPart vu hi→r x lo hi H Q →
  ∃T id,typeLookup (.type T) "__getitem__"=pure (some (.builtin id))∧s.TypeIs v T∧wpAny (model X.prog X.w) X.A (getItem v (.ref sl)) (EP X pins σ Q) X.xe s
theorem SlR.or{r r':V→Option Int→Option Int→Hp→VK→Prop}(h:SlR X r)(h':SlR X r'):SlR X (λx lo hi H Q=>r x lo hi H Q∨r' x lo hi H Q):=by
 intro pins s σ H x v vl vu lo hi sl Q I rx hs pl pu q
 rcases q with q|q
 ·exact h pins s σ H x v vl vu lo hi sl Q I rx hs pl pu q
 ·exact h' pins s σ H x v vl vu lo hi sl Q I rx hs pl pu q
def tSl(r:V→Option Int→Option Int→Hp→VK→Prop)(te:TE)(tl th:TO):TE:=λσ H Q=>te σ H λx H1=>tl σ H1 λl H2=>th σ H2 λu H3=>r x l u H3 Q
theorem Dz{r:V→Option Int→Option Int→Hp→VK→Prop}(hr:SlR X r)(he:PE X e te)(hl:PO X lo tl)(hu:PO X hi th):PE X (.Subscript e (.Slice lo hi none p2) pos) (tSl r te tl th):=by
 intro pins s σ H Q I h
 refine Subscript_ (thn (he pins s σ H _ I h) λv s1 ao=>?_)
 obtain⟨x,H1,I1,r1,q1⟩:=ao
 refine wpAny_Slice (thn (hl pins s1 σ H1 _ I1 q1) λvl s2 ⟨l,H2,I2,pl,q2⟩=>thn (hu pins s2 σ H2 _ I2 q2) λvu s3 dq=>?_)
 obtain⟨u,H3,I3,pu,q3⟩:=dq
 rw[evalPart_none]
 refine wpAny_pure ?_
 have I4:Inv X pins σ H3 { s3 with heap:=s3.heap.push { cls:=.type "slice",data:=.fields #[vl,vu,.none] } }:=I3.kept (t':=s3.toks) λb ob q=>Heap.get?_push_of_some _ q
 obtain⟨T,id,hT,ht,hg⟩:=hr pins { s3 with heap:=s3.heap.push { cls:=.type "slice",data:=.fields #[vl,vu,.none] } } σ H3 x v vl vu l u s3.heap.objs.size Q I4 r1 (Heap.IsSliceOf.new ..) pl pu q3
 show wpAny (model X.prog X.w) X.A (subscriptTail e (.Slice lo hi none p2) v (.ref s3.heap.objs.size)) (EP X pins σ Q) X.xe { s3 with heap:=s3.heap.push { cls:=.type "slice",data:=.fields #[vl,vu,.none] } }
 exact tail_any (ops:=[.ref s3.heap.objs.size,v]) ht hT hg (by with_unfolding_all rfl)
def wY(xs:List V)(lo hi:Option Int):List V:=(xs.drop (HT.sIx xs.length 0 lo)).take (HT.sIx xs.length xs.length hi-HT.sIx xs.length 0 lo)
theorem pH(xs:List V)(lo hi:Option Int):(wY xs lo hi).length≤xs.length:=by
 unfold wY
 rw[List.length_take,List.length_drop]
 lia
def Pa(K:PySem.W.Frag):V→Option Int→Option Int→Hp→VK→Prop:=λx lo hi H Q=>∃a xs,x=.ref a∧SqT K H a xs ∧
 ¬ (HT.sIx xs.length 0 lo=0∧HT.sIx xs.length xs.length hi=xs.length)∧∀p,H p=none→Q (.ref p) (upd H p (.tup (wY xs lo hi)))
theorem Kj:SlR X (Pa X.K):=by
 intro pins s σ H x v vl vu lo hi sl Q I rx hs pl pu h
 obtain⟨a,xs,rfl,hx,hw,q⟩:=h
 cases rx
 obtain⟨its,r,ht,hz⟩:=I.tuple hx
 have hlen:its.toArray.size=xs.length:=by rw[List.size_toArray];exact r.length.symm
 refine⟨"tuple",_,PyProof.Rows.slot_tuple_getitem.lookup,ht.typeIs,?_⟩
 refine HT.nK ht hs pl pu (by rw[hlen];exact hw) ?_ (by rw[hlen];exact hz)
 rw[hlen]
 refine⟨.ref s.heap.objs.size,_,I.laid (t':=s.toks) (o:=.tup (wY xs lo hi)) (λb ob q=>Heap.get?_push_of_some _ q) (Nat.le_refl _) ?_,rfl,q _ (I.hok.fresh (Nat.le_refl _))⟩
 exact⟨Nat.le_trans (pH xs lo hi) hz,_,(r.drop (HT.sIx xs.length 0 lo)).take (HT.sIx xs.length xs.length hi-HT.sIx xs.length 0 lo),IsTup.new _ _⟩
def MK(K:PySem.W.Frag):R2:=λx y H Q=>∃a b xs ys,x=.ref a∧y=.ref b∧SqT K H a xs∧SqT K H b ys∧xs≠[]∧xs.length+ys.length≤sizeLine ∧
 (ys=[]→Q (.ref a) H)∧(ys≠[]→∀p,H p=none→Q (.ref p) (upd H p (.tup (xs++ys))))
theorem Vals.qb{xs:List V}{us:List Value}(r:Vals xs us):us=[]↔xs=[]:=by
 cases r with
 | nil=>simp
 | cons _ _=>simp
theorem G3:OpR X (binaryOp .Add) (MK X.K):=by
 intro pins s σ H x y v u Q I rx ry h
 obtain⟨a,b,xs,ys,rfl,rfl,ha,hb,hx,hz,q1,q2⟩:=h
 cases rx
 cases ry
 obtain⟨its,r1,p1,_⟩:=I.tuple ha
 obtain⟨qv,r2,p2,_⟩:=I.tuple hb
 refine HT.GZ p1 p2 (λz=>hx (r1.qb.mp z)) (λz=>⟨.ref a,H,I,rfl,q1 (r2.qb.mp z)⟩) (λz=>?_) (by rw[← r1.length,← r2.length];exact hz)
 refine⟨.ref s.heap.objs.size,_,I.laid (t':=s.toks) (o:=.tup (xs++ys)) (λb ob q=>Heap.get?_push_of_some _ q) (Nat.le_refl _) ?_,rfl,q2 (λw=>z (r2.qb.mpr w)) _ (I.hok.fresh (Nat.le_refl _))⟩
 exact⟨by rw[List.length_append];exact hz,_,r1.append r2,IsTup.new _ _⟩
end
def ixN(n:Nat)(i:Int):Option Nat:=if 0≤i then (if i<n then some i.toNat else none) else if -(n:Int)≤i then some (i+n).toNat else none
def atI{α:Type}(xs:List α)(i:Int):Option α:=(ixN xs.length i).bind λj=>xs[j]?
theorem AE{n:Nat}{i:Int}{j:Nat}(h:ixN n i=some j):seqIndex? i n=some j∧j<n∧-(n:Int)≤i∧i<n:=by
 unfold ixN at h
 by_cases h0:0≤i
 ·rw[if_pos h0] at h
  by_cases h1:i<n
  ·rw[if_pos h1] at h
   have e:i.toNat=j:=Option.some.inj h
   exact⟨by rw[seqIndex_of h0 h1,e],by lia,by lia,h1⟩
  ·rw[if_neg h1] at h;cases h
 ·rw[if_neg h0] at h
  by_cases h1:-(n:Int)≤i
  ·rw[if_pos h1] at h
   have e:(i+n).toNat=j:=Option.some.inj h
   exact⟨by rw[seqIndex_neg (by lia) h1,e],by lia,h1,by lia⟩
  ·rw[if_neg h1] at h;cases h
theorem u4{α:Type}{xs:List α}{i:Int}{v:α}(h:atI xs i=some v):∃j,seqIndex? i xs.length=some j∧xs[j]?=some v∧j<xs.length∧-(xs.length:Int)≤i∧i<xs.length:=by
 unfold atI at h
 cases e:ixN xs.length i with
 | none=>rw[e] at h;cases h
 | some j =>
  rw[e] at h
  obtain⟨h1,h2,h3,h4⟩:=AE e
  exact⟨j,h1,h,h2,h3,h4⟩
def AF(b:Expr):Prop:=∀o i,subscripted b false o i=operate [o,i] (getItem o i)
def IxR(X:Cx)(r:R2):Prop :=
 ∀(value slice:Expr) (pins:List (Addr×Obj)) (s:Shared) (σ:St) (H:Hp) (x y:V) (v u:Value) (Q:VK),Inv X pins σ H s→RelV x v→RelV y u→r x y H Q →
  subscripted slice false v u=operate [v,u] (getItem v u)→wpAny (model X.prog X.w) X.A (subscriptTail value slice v u) (EP X pins σ Q) X.xe s
def MtR(X:Cx)(id:String)(r:V→List V→Hp→VK→Prop):Prop :=
 ∀(pins:List (Addr×Obj)) (s:Shared) (σ:St) (H:Hp) (x:V) (xs:List V) (v:Value) (us:List Value) (Q:VK),Inv X pins σ H s→RelV x v→Vals xs us→r x xs H Q →
  wpAny (model X.prog X.w) X.A (call (.builtin id) (v::us)) (EP X pins σ Q) X.xe s
section
variable{X:Cx}{a b:Expr}{ta tb:TE}{pos:Pos}
theorem IxR.or{r r':R2}(h:IxR X r)(h':IxR X r'):IxR X (λx y H Q=>r x y H Q∨r' x y H Q):=by
 intro value slice pins s σ H x y v u Q I rx ry q hs
 rcases q with q|q
 ·exact h value slice pins s σ H x y v u Q I rx ry q hs
 ·exact h' value slice pins s σ H x y v u Q I rx ry q hs
theorem ML{r:R2}(hr:IxR X r)(ha:PE X a ta)(hb:PE X b tb)(hs:AF b):PE X (.Subscript a b pos) (tOp r ta tb):=by
 intro pins s σ H Q I h
 exact Subscript_ (J1 ha hb I h λv u s2 x y H2 I2 rx ry q=>hr a b pins s2 σ H2 x y v u Q I2 rx ry q (hs _ _))
def MM(K:PySem.W.Frag):R2:=λx y H Q=>∃p xs i v,x=.ref p∧y=.int i∧SqL K H p xs∧atI xs i=some v∧Q v H
def MN(K:PySem.W.Frag):R2:=λx y H Q=>∃p xs i v,x=.ref p∧y=.int i∧SqT K H p xs∧atI xs i=some v∧Q v H
def MO:R2:=λx y H Q=>∃z i c,x=.str z∧y=.int i∧z.length≤sizeLine∧atI z.cps.toList i=some c∧Q (.str ⟨#[c]⟩) H
theorem G4:IxR X (MM X.K):=by
 intro value slice pins s σ H x y v u Q I rx ry h hs
 obtain⟨p,xs,i,z,rfl,rfl,hq,he,q⟩:=h
 cases rx
 obtain⟨t,rfl⟩:=ry
 obtain⟨its,r,pl,hz⟩:=I.list hq
 obtain⟨j,h1,h2,h3,h4,h5⟩:=u4 he
 obtain⟨w,ew,rw'⟩:=r.get h2
 have hl:=r.length
 have hn:=oR
 have fin:EP X pins σ Q w s:=⟨z,H,I,rw',q⟩
 by_cases h0:0≤i
 ·have hj:i.toNat=j:=by
   rw[seqIndex_of h0 h5] at h1
   exact Option.some.inj h1
  exact item_listR pl.isList h0 (by lia) (by rw[hj];simpa using ew) fin hs
 ·have hj:(i+(its.toArray.size:Int)).toNat=j:=by
   rw[seqIndex_neg (by lia) h4] at h1
   rw[List.size_toArray,← hl]
   exact Option.some.inj h1
  exact subscriptTail_builtinR (x:=w) pl.isList.typeIs slot_list_getitem.lookup
   (wpAny_getItem_list_neg (Q:=λr s'=>r=w∧EP X pins σ Q r s') pl.isList (by lia) (by rw[List.size_toArray]<;>lia) (by lia) (by rw[hj];simpa using ew) ⟨rfl,fin⟩) hs
theorem Kk:IxR X (MN X.K):=by
 intro value slice pins s σ H x y v u Q I rx ry h hs
 obtain⟨p,xs,i,z,rfl,rfl,hq,he,q⟩:=h
 cases rx
 obtain⟨t,rfl⟩:=ry
 obtain⟨its,r,pl,hz⟩:=I.tuple hq
 obtain⟨j,h1,h2,h3,h4,h5⟩:=u4 he
 obtain⟨w,ew,rw'⟩:=r.get h2
 have hl:=r.length
 have hn:=oR
 have fin:EP X pins σ Q w s:=⟨z,H,I,rw',q⟩
 exact subscriptTail_builtinR (x:=w) pl.typeIs slot_tuple_getitem.lookup
  (getItem_tuple (j:=j) (Q:=λr s'=>r=w∧EP X pins σ Q r s') pl (by lia) (by lia) (by rw[List.size_toArray,← hl];exact h1) (by simpa using ew) ⟨rfl,fin⟩) hs
theorem Kl:IxR X MO:=by
 intro value slice pins s σ H x y v u Q I rx ry h hs
 obtain⟨z,i,c,rfl,rfl,hz,he,q⟩:=h
 obtain⟨t,rfl⟩:=rx
 obtain⟨t',rfl⟩:=ry
 obtain⟨j,h1,h2,h3,h4,h5⟩:=u4 he
 have hl:z.cps.toList.length=z.length:=by simp[Str.length]
 rw[hl] at h1 h4 h5
 have hn:=oR
 exact tail_any (typeIs_str s z t) slot_str_getitem.lookup (getItem_str (c:=c) (by
  have e1:decide (i< -(2 ^ 63:Int))=false:=decide_eq_false (by lia)
  have e2:decide (i ≥ 2 ^ 63)=false:=decide_eq_false (by lia)
  rw[e1,e2,Bool.or_false]) (by rw[h1];simpa using h2) ⟨.str ⟨#[c]⟩,H,I.tok _,⟨_,rfl⟩,q⟩) hs
def rIx(K:PySem.W.Frag):R2:=λx y H Q=>MM K x y H Q∨MN K x y H Q∨MO x y H Q
theorem Km:IxR X (rIx X.K):=G4.or (Kk.or Kl)
theorem yE(its:List Value)(n j:Nat)(u:Value):Obj.mapSeq (·.setIfInBounds j u) { cls:=.type "list",data:=.seq its.toArray n }={ cls:=.type "list",data:=.seq (its.set j u).toArray n }:=by
 simp[Obj.mapSeq]
theorem Inv.lst{pins:List (Addr×Obj)}{σ:St}{H:Hp}{s:Shared}{p:Addr}{xs:List V}(I:Inv X pins σ H s)(h:H p=some (.lst xs)) :
  ∃(its:List Value) (n:Nat),Vals xs its∧s.heap.get? p=some { cls:=.type "list",data:=.seq its.toArray n }∧xs.length≤sizeLine:=by
 obtain⟨z,its,n,r,e⟩:=I.hok p _ h
 exact⟨its,n,r,e,z⟩
theorem Inv.Kn{pins:List (Addr×Obj)}{σ:St}{H:Hp}{s:Shared}{p:Addr}{xs ys:List V}{its its':List Value}{n n':Nat}{f:Obj→Obj}(I:Inv X pins σ H s)(h:H p=some (.lst xs))
  (ho:s.heap.get? p=some { cls:=.type "list",data:=.seq its.toArray n }) (hf:f { cls:=.type "list",data:=.seq its.toArray n }={ cls:=.type "list",data:=.seq its'.toArray n' }) (r:Vals ys its') (hz:ys.length≤sizeLine) (t:Nat) :
  Inv X pins σ (upd H p (.lst ys)) { s with heap:=s.heap.update p f,toks:=t }:=by
 have e:(s.heap.update p f).get? p=some { cls:=.type "list",data:=.seq its'.toArray n' }:=by
  rw[Heap.get?_update_self f ho (by rw[hf]<;>rfl),hf]
 refine I.write (x:=p) (e:=p) (by rw[h];trivial) (.inl rfl) (λb u hb q=>(Heap.get?_update_other _ _ (Ne.symm hb)).trans q) ⟨_,e⟩ ?_
 exact⟨hz,its',n',r,e⟩
def MP:V→V→V→Hp→(Hp→Prop)→Prop:=λo i v H Q=>∃p xs k j,o=.ref p∧i=.int k∧H p=some (.lst xs)∧ixN xs.length k=some j∧Q (upd H p (.lst (xs.set j v)))
theorem set_list:My X MP:=by
 intro pins s σ H o i v ov iv u Q I ro ri rv h
 obtain⟨p,xs,k,j,rfl,rfl,hp,hj,q⟩:=h
 cases ro
 obtain⟨t,rfl⟩:=ri
 obtain⟨its,n,r,ho,hz⟩:=I.lst hp
 obtain⟨h1,h2,h3,h4⟩:=AE hj
 have hl:=r.length
 have hn:=oR
 have I':Inv X pins σ (upd H p (.lst (xs.set j v))) { s with heap:=s.heap.update p (Obj.mapSeq (·.setIfInBounds j u)) } :=
  I.Kn hp ho (yE its n j u) (r.set rv j) (by rw[List.length_set];exact hz) s.toks
 by_cases h0:0≤k
 ·have hk:k.toNat=j:=by
   rw[seqIndex_of h0 h4] at h1
   exact Option.some.inj h1
  exact PySem.W.ki_setAt ho h0 (by lia) (by rw[List.size_toArray,← hl];exact h4) (by rw[hk];exact⟨_,I',q⟩)
 ·have hk:(k+(its.toArray.size:Int)).toNat=j:=by
   rw[seqIndex_neg (by lia) h3] at h1
   rw[List.size_toArray,← hl]
   exact Option.some.inj h1
  exact PySem.W.ki_setBack ho (by lia) (by rw[List.size_toArray,← hl];exact h3) (by lia) (by rw[hk];exact⟨_,I',q⟩)
theorem u5(lo hi:Option Int)(n:Nat):(sliceBounds lo hi none n).1=((HT.sIx n 0 lo:Nat):Int)∧(sliceBounds lo hi none n).2.1=((HT.sIx n n hi:Nat):Int)∧(sliceBounds lo hi none n).2.2=1:=by
 refine⟨?_,?_,rfl⟩
 ·cases lo with
  | none=>simp[sliceBounds,HT.sIx]
  | some i =>
   simp only[sliceBounds,HT.sIx,Option.getD_none,show (1:Int) > 0 by decide,if_true]
   by_cases h:i<0
   ·simp only[h,if_true]<;>lia
   ·simp only[h,if_false]<;>lia
 ·cases hi with
  | none=>simp[sliceBounds,HT.sIx]
  | some i =>
   simp only[sliceBounds,HT.sIx,Option.getD_none,show (1:Int) > 0 by decide,if_true]
   by_cases h:i<0
   ·simp only[h,if_true]<;>lia
   ·simp only[h,if_false]<;>lia
theorem tw(its:List Value)(lo hi:Option Int):slicePick its.toArray lo hi none=((its.drop (HT.sIx its.length 0 lo)).take (HT.sIx its.length its.length hi-HT.sIx its.length 0 lo)).toArray:=by
 obtain⟨h1,h2,h3⟩:=u5 lo hi its.toArray.size
 unfold slicePick
 rw[h1,h2,h3]
 simp only[sliceRange_one,pick_run,List.size_toArray]<;>rfl
def Pb(K:PySem.W.Frag):V→Option Int→Option Int→Hp→VK→Prop:=λx lo hi H Q=>∃a xs,x=.ref a∧SqL K H a xs∧∀p,H p=none→Q (.ref p) (upd H p (.lst (wY xs lo hi)))
theorem G5:SlR X (Pb X.K):=by
 intro pins s σ H x v vl vu lo hi sl Q I rx hs pl pu h
 obtain⟨a,xs,rfl,hx,q⟩:=h
 cases rx
 obtain⟨its,r,ht,hz⟩:=I.list hx
 have hlen:=r.length
 refine⟨"list",_,slot_list_getitem.lookup,ht.isList.typeIs,?_⟩
 refine wpAny_getItem_list_slice ht.isList hs pl pu .none (by simp) ?_ (by rw[List.size_toArray]<;>lia)
 rw[tw,← hlen]
 refine⟨.ref s.heap.objs.size,_,I.laid (t':=s.toks) (o:=.lst (wY xs lo hi)) (λb ob q=>Heap.get?_push_of_some _ q) (Nat.le_refl _) ?_,rfl,q _ (I.hok.fresh (Nat.le_refl _))⟩
 exact⟨Nat.le_trans (pH xs lo hi) hz,_,0,(r.drop (HT.sIx xs.length 0 lo)).take (HT.sIx xs.length xs.length hi-HT.sIx xs.length 0 lo),Heap.get?_push_size _ rfl⟩
def mO:V→Bool
 | .non=>true
 | .bl _=>true
 | .int _=>true
 | .str _=>true
 | _=>false
def eqV:V→V→Bool
 | .non,.non=>true
 | .bl a,.bl b=>a==b
 | .bl a,.int b=>(if a then 1 else 0)==b
 | .int a,.bl b=>a==(if b then 1 else 0)
 | .int a,.int b=>a==b
 | .str a,.str b=>a==b
 | _,_=>false
theorem Ko{A:Around}{s:Shared}{y x:V}{u v:Value}(ry:RelV y u)(rx:RelV x v)(fy:mO y=true)(fx:mO x=true):SeqAt.EqAt A s u v (eqV y x):=by
 cases y with
 | non =>
  cases ry
  cases x with
  | non=>cases rx;exact SeqAt.EqAt.same _
  | bl b=>cases rx;exact SeqAt.EqAt.none_bool b
  | int b=>obtain⟨t,rfl⟩:=rx;exact SeqAt.EqAt.none_int b t
  | str b=>obtain⟨t,rfl⟩:=rx;exact SeqAt.EqAt.none_str b t
  | _=>exact absurd (show false=true from fx) Bool.false_ne_true
 | bl a =>
  cases ry
  cases x with
  | non=>cases rx;exact SeqAt.EqAt.bool_none a
  | bl b=>cases rx;exact SeqAt.EqAt.bool_bool a b
  | int b=>obtain⟨t,rfl⟩:=rx;exact SeqAt.EqAt.bool_int a b t
  | str b=>obtain⟨t,rfl⟩:=rx;exact SeqAt.EqAt.bool_str a b t
  | _=>exact absurd (show false=true from fx) Bool.false_ne_true
 | int a =>
  obtain⟨t',rfl⟩:=ry
  cases x with
  | non=>cases rx;exact SeqAt.EqAt.int_none a t'
  | bl b=>cases rx;exact SeqAt.EqAt.int_bool a t' b
  | int b=>obtain⟨t,rfl⟩:=rx;exact SeqAt.EqAt.int_int a t' b t
  | str b=>obtain⟨t,rfl⟩:=rx;exact SeqAt.EqAt.int_str a t' b t
  | _=>exact absurd (show false=true from fx) Bool.false_ne_true
 | str a =>
  obtain⟨t',rfl⟩:=ry
  cases x with
  | non=>cases rx;exact SeqAt.EqAt.str_none a t'
  | bl b=>cases rx;exact SeqAt.EqAt.str_bool a t' b
  | int b=>obtain⟨t,rfl⟩:=rx;exact SeqAt.EqAt.str_int a t' b t
  | str b=>obtain⟨t,rfl⟩:=rx;exact SeqAt.EqAt.str_str a t' b t
  | _=>exact absurd (show false=true from fx) Bool.false_ne_true
 | _=>exact absurd (show false=true from fy) Bool.false_ne_true
def eqU(x:V)(u:Value):Bool:=match u with
 | .none=>eqV .non x
 | .bool b=>eqV (.bl b) x
 | .int i _=>eqV (.int i) x
 | .str z _=>eqV (.str z) x
 | _=>false
theorem DA{x y:V}{u:Value}(r:RelV y u)(f:mO y=true):eqU x u=eqV y x:=by
 cases y with
 | non=>cases r;rfl
 | bl b=>cases r;rfl
 | int i=>obtain⟨t,rfl⟩:=r;rfl
 | str z=>obtain⟨t,rfl⟩:=r;rfl
 | _=>exact absurd (show false=true from f) Bool.false_ne_true
theorem nL{x:V}:∀{xs:List V}{us:List Value},Vals xs us→xs.all mO=true→us.any (eqU x)=xs.any λy=>eqV y x
 | _,_,.nil,_=>rfl
 | y::xs,u::us,.cons r t,f=>by
  rw[List.all_cons,Bool.and_eq_true] at f
  rw[List.any_cons,List.any_cons,DA r f.1,nL t f.2]
theorem k_{A:Around}{s:Shared}{x:V}{v:Value}(rx:RelV x v)(fx:mO x=true):∀{xs:List V}{us:List Value},Vals xs us→xs.all mO=true→∀u∈us,SeqAt.EqAt A s u v (eqU x u)
 | _,_,.nil,_=>λu hu=>by cases hu
 | y::xs,u::us,.cons r t,f=>λu' hu=>by
  rw[List.all_cons,Bool.and_eq_true] at f
  rcases List.mem_cons.mp hu with rfl|hu
  ·rw[DA r f.1];exact Ko r rx f.1 fx
  ·exact k_ rx fx t f.2 u' hu
def inV(x:V)(xs:List V):Bool:=xs.any λy=>eqV y x
def rIn(K:PySem.W.Frag)(neg:Bool):R2:=λx y H Q=>∃p xs,y=.ref p∧(SqL K H p xs∨SqT K H p xs)∧mO x=true∧xs.all mO=true∧Q (.bl (if neg then !inV x xs else inV x xs)) H
theorem uf:OpR X (compareOp .In) (rIn X.K false):=by
 intro pins s σ H x y v u Q I rx ry h
 obtain⟨p,xs,rfl,hq,fx,fs,q⟩:=h
 cases ry
 rcases hq with hq|hq
 ·obtain⟨its,r,pl,hz⟩:=I.list hq
  refine SeqAt.in_listAt (eqU x) pl.isList (λw hw=>k_ rx fx r fs w (by simpa using hw)) ⟨.bl _,H,I,rfl,?_⟩
  rw[show its.toArray.any (eqU x)=its.any (eqU x) by simp,nL r fs]
  exact q
 ·obtain⟨its,r,pl,hz⟩:=I.tuple hq
  refine SeqAt.in_tupleAt (eqU x) pl (λw hw=>k_ rx fx r fs w (by simpa using hw)) ⟨.bl _,H,I,rfl,?_⟩
  rw[show its.toArray.any (eqU x)=its.any (eqU x) by simp,nL r fs]
  exact q
theorem u6:OpR X (compareOp .NotIn) (rIn X.K true):=by
 intro pins s σ H x y v u Q I rx ry h
 obtain⟨p,xs,rfl,hq,fx,fs,q⟩:=h
 cases ry
 rcases hq with hq|hq
 ·obtain⟨its,r,pl,hz⟩:=I.list hq
  refine SeqAt.notIn_listAt (eqU x) pl.isList (λw hw=>k_ rx fx r fs w (by simpa using hw)) ⟨.bl _,H,I,rfl,?_⟩
  rw[show its.toArray.any (eqU x)=its.any (eqU x) by simp,nL r fs]
  exact q
 ·obtain⟨its,r,pl,hz⟩:=I.tuple hq
  refine SeqAt.notIn_tupleAt (eqU x) pl (λw hw=>k_ rx fx r fs w (by simpa using hw)) ⟨.bl _,H,I,rfl,?_⟩
  rw[show its.toArray.any (eqU x)=its.any (eqU x) by simp,nL r fs]
  exact q
theorem u7:eP X (.builtin "len") (λxs H Q=>∃p ys,xs=[.ref p]∧(SqL X.K H p ys∨SqT X.K H p ys)∧Q (.int ys.length) H):=by
 intro pins s σ H xs us Q I r h
 obtain⟨p,ys,rfl,hq,q⟩:=h
 obtain⟨u,rfl,rx⟩:=vals1 r
 cases rx
 have hn:=oR
 rcases hq with hq|hq
 ·obtain⟨its,r',pl,hz⟩:=I.list hq
  have hlen:=r'.length
  exact Calls.call_len_list pl.isList (by simp only[List.size_toArray]<;>lia) ⟨.int ys.length,H,I.tok _,⟨s.toks+1,by rw[List.size_toArray,hlen]⟩,q⟩
 ·obtain⟨its,r',pl,hz⟩:=I.tuple hq
  have hlen:=r'.length
  exact len_tuple pl (by simp only[List.size_toArray]<;>lia) ⟨.int ys.length,H,I.tok _,⟨s.toks+1,by rw[List.size_toArray,hlen]⟩,q⟩
theorem u9:eP X (.builtin "len") (λxs H Q=>∃z,xs=[.str z]∧z.length≤sizeLine∧Q (.int z.length) H):=by
 intro pins s σ H xs us Q I r h
 obtain⟨z,rfl,hz,q⟩:=h
 obtain⟨u,rfl,t,rfl⟩:=vals1 r
 have hn:=oR
 exact len_str (by lia) ⟨.int z.length,H,I.tok _,⟨_,rfl⟩,q⟩
theorem eP.or{f:Value}{r r':List V→Hp→VK→Prop}(h:eP X f r)(h':eP X f r'):eP X f (λxs H Q=>r xs H Q∨r' xs H Q):=by
 intro pins s σ H xs us Q I rs q
 rcases q with q|q
 ·exact h pins s σ H xs us Q I rs q
 ·exact h' pins s σ H xs us Q I rs q
theorem u_:eP X (.type "list") (λxs H Q=>∃p ys,xs=[.ref p]∧(SqL X.K H p ys∨SqT X.K H p ys)∧∀l,H l=none→Q (.ref l) (upd H l (.lst ys))):=by
 intro pins s σ H xs us Q I r h
 obtain⟨p,ys,rfl,hq,q⟩:=h
 obtain⟨u,rfl,rx⟩:=vals1 r
 cases rx
 have fin:∀(its:List Value),Vals ys its→ys.length≤sizeLine→∀(h':Heap) (c':Nat),(∀b o',s.heap.get? b=some o'→h'.get? b=some o') →
   h'.get? s.heap.objs.size=some { cls:=.type "list",dict:=none,data:=.seq its.toArray c',slots:=#[] }→EP X pins σ Q (.ref s.heap.objs.size) { s with heap:=h' }:=λits r' hz h' c' kp e =>
  ⟨.ref s.heap.objs.size,_,I.laid (t':=s.toks) kp (Nat.le_refl _) (show cL X.prog X.w _ h' _ (.lst ys) from ⟨hz,its,c',r',e⟩),rfl,q _ (I.hok.fresh (Nat.le_refl _))⟩
 rcases hq with hq|hq
 ·obtain⟨its,r',pl,hz⟩:=I.list hq
  have hlen:=r'.length
  obtain⟨o,ho,hc,n,hd⟩:=pl.isList
  exact call_list_seq p (.inl rfl) ho hc hd (λh' c' kp e=>fin its r' hz h' c' kp e) (by simp only[List.size_toArray]<;>lia)
 ·obtain⟨its,r',pl,hz⟩:=I.tuple hq
  have hlen:=r'.length
  obtain⟨o,ho,hc,n,hd⟩:=pl
  exact call_list_seq p (.inr rfl) ho hc hd (λh' c' kp e=>fin its r' hz h' c' kp e) (by simp only[List.size_toArray]<;>lia)
theorem tE:eP X (.type "tuple") (λxs H Q=>∃p ys,xs=[.ref p]∧((SqL X.K H p ys∧∀l,H l=none→Q (.ref l) (upd H l (.tup ys)))∨(SqT X.K H p ys∧Q (.ref p) H))):=by
 intro pins s σ H xs us Q I r h
 obtain⟨p,ys,rfl,h⟩:=h
 obtain⟨u,rfl,rx⟩:=vals1 r
 cases rx
 rcases h with ⟨hq,q⟩|⟨hq,q⟩
 ·obtain⟨its,r',pl,hz⟩:=I.list hq
  have hlen:=r'.length
  refine call_tuple_list pl.isList (λh' kp=>?_) (by simp only[List.size_toArray]<;>lia)
  have I1:Inv X pins σ H { s with heap:=h' }:=I.kept (t':=s.toks) kp
  have I2:Inv X pins σ (upd H h'.objs.size (.tup ys)) { s with heap:=h'.push { cls:=.type "tuple",data:=.seq its.toArray } } :=
   I1.laid (t':=s.toks) (λb o e=>Heap.get?_push_of_some _ e) (Nat.le_refl _) (show cL X.prog X.w _ _ _ (.tup ys) from ⟨hz,its,r',IsTup.new _ _⟩)
  exact⟨.ref h'.objs.size,_,I2,rfl,q _ (I1.hok.fresh (Nat.le_refl _))⟩
 ·obtain⟨its,r',pl,hz⟩:=I.tuple hq
  exact call_tuple_same pl ⟨.ref p,H,I,rfl,q⟩
def tyV(K:PySem.W.Frag)(T:String)(x:V)(H:Hp):Prop:=match x with
 | .str _=>T="str"
 | .int _=>T="int"
 | .ref p=>(T="list"∧∃xs,SqL K H p xs)∨(T="tuple"∧∃o,K.lookup p=some o∧o.cls=.type "tuple"∧o.dict=none) ∨
   (T="dict"∧((∃kvs,H p=some (.dK kvs))∨∃kvs,H p=some (.dT kvs)))∨(T="set"∧∃S n,H p=some (.set S n))
 | _=>False
theorem Kp{pins:List (Addr×Obj)}{σ:St}{H:Hp}{s:Shared}{T:String}{x:V}{v:Value}(I:Inv X pins σ H s)(r:RelV x v)(ty:tyV X.K T x H) :
  s.TypeIs v T∧∀a,v=.ref a→∃ob,s.heap.get? a=some ob∧ob.dict=none:=by
 cases x with
 | str z =>
  obtain⟨t,rfl⟩:=r
  cases (show T="str" from ty)
  exact⟨typeIs_str s z t,λ_ e=>nomatch e⟩
 | int i =>
  obtain⟨t,rfl⟩:=r
  cases (show T="int" from ty)
  exact⟨typeIs_int s i t,λ_ e=>nomatch e⟩
 | ref p =>
  cases r
  rcases ty with ⟨rfl,xs,hq⟩|⟨rfl,o,hk,hc,hd⟩|⟨rfl,hk⟩|⟨rfl,S,n,hk⟩
  ·obtain⟨its,_,pl,_⟩:=I.list hq
   refine⟨pl.isList.typeIs,λa e=>?_⟩
   cases e
   obtain⟨o,n,e,c,hd,_⟩:=pl
   exact⟨o,e,hd⟩
  ·refine⟨⟨o,I.kIn p o hk,hc⟩,λa e=>?_⟩
   cases e
   exact⟨o,I.kIn _ o hk,hd⟩
  ·have z:∃o,s.heap.get? p=some o∧o.ExactDict:=by
    rcases hk with ⟨kvs,hk⟩|⟨kvs,hk⟩
    ·obtain⟨_,_,_,_,o,_,e,ex,_⟩:=I.hok p _ hk
     exact⟨o,e,ex⟩
    ·obtain⟨_,_,_,_,o,_,_,e,ex,_⟩:=I.hok p _ hk
     exact⟨o,e,ex⟩
   obtain⟨o,e,ex⟩:=z
   refine⟨⟨o,e,ex.1⟩,λa e2=>?_⟩
   cases e2
   exact⟨o,e,ex.2.1⟩
  ·obtain⟨o,_,_,_,e,ex,_⟩:=I.hok p _ hk
   refine⟨⟨o,e,ex.1⟩,λa e2=>?_⟩
   cases e2
   exact⟨o,e,ex.2.1⟩
 | _=>exact False.elim ty
def tBM(K:PySem.W.Frag)(T:String)(r:V→List V→Hp→VK→Prop)(to:TE)(t:TA):TE:=λσ H Q=>to σ H λx H1=>tyV K T x H1∧t σ H1 λxs H2=>r x xs H2 Q
variable{o e:Expr}{es:List Expr}{to:TE}{t:TA}{name:Str}{apos kS:Pos}{T id:String}{r:V→List V→Hp→VK→Prop}
theorem MQ(pa:PlainAttrs T)(slot:Slot T name id)(hty:typeOf (.builtin id)=pure (.type "method_descriptor"))(hm:MtR X id r)(ho:PE X o to)(ha:PA X (e::es) t)
  (qw:attributeBase o name X.env (eval o X.env)=eval o X.env:=by rfl)
  (Kq:((backTo kS (starEach (e::es) X.env)).all (λx=>!x.1) && (backToKw kS (keywordEach [] X.env)).all (λx=>x.1.isSome)
   && decide ((e::es).length+([]:List Keyword).length+(if ([]:List Keyword).isEmpty then 0 else 1)<30))=true:=by rfl)
  (qx:(apos.endLine==kS.line)=true:=by rfl) (hs:starEach (e::es) X.env=(false,eval e X.env)::starEach es X.env:=by rfl) (Kr:(backTo kS (starEach es X.env)).any (·.1)=false:=by rfl) :
  PE X (.Call (.Attribute o name apos) (e::es) [] kS) (tBM X.K T r to t):=by
 intro pins s σ H Q I h
 refine wpAny_Call_method_late qw Kq qx rfl (thn (ho pins s σ H _ I h) λv s1 ao=>?_)
 obtain⟨x,H1,I1,r1,ty,q1⟩:=ao
 obtain⟨h1,h2⟩:=Kp I1 r1 ty
 refine⟨T,id,pa,slot,hty,h1,h2,?_⟩
 have hA:=ha kS pins s1 σ H1 _ I1 q1
 rw[hs] at hA ⊢
 refine Calls.callWith_builtin (by show (false || (backTo kS (starEach es X.env)).any (·.1))=false;rw[Kr]<;>rfl) (Calls.evalArgs_plain ?_)
 exact thn hA λus s2 ⟨vs,H2,I2,r2,q2⟩=>hm pins s2 σ H2 x vs v us Q I2 r1 r2 q2
end
def MtM(X:Cx)(id:String)(r:V→List V→Hp→VK→Prop):Prop :=
 ∀(pins:List (Addr×Obj)) (s:Shared) (σ:St) (H:Hp) (x:V) (xs:List V) (v:Value) (us:List Value) (Q:VK),Inv X pins σ H s→RelV x v→Vals xs us→r x xs H Q →
  wpAny (model X.prog X.w) X.A (call (.builtin id) (v::us)) (EP X pins σ Q) X.xe s
theorem Vals.one:∀{x:V}{us:List Value},Vals [x] us→∃u,us=[u]∧RelV x u
 | _,_,.cons r .nil=>⟨_,rfl,r⟩
theorem Vals.dropLast{xs:List V}{us:List Value}(h:Vals xs us):Vals xs.dropLast us.dropLast:=by
 induction h with
 | nil=>exact .nil
 | cons r t ih =>
  cases t with
  | nil=>exact .nil
  | cons q t'=>exact .cons r ih
theorem Vals.eraseIdx:∀{xs:List V}{us:List Value} (i:Nat),Vals xs us→Vals (xs.eraseIdx i) (us.eraseIdx i)
 | _,_,_,.nil=>.nil
 | _,_,0,.cons _ t=>t
 | _,_,i+1,.cons r t=>.cons r (Vals.eraseIdx i t)
theorem Vals.reverse{xs:List V}{us:List Value}(h:Vals xs us):Vals xs.reverse us.reverse:=by
 induction h with
 | nil=>exact .nil
 | cons r t ih=>rw[List.reverse_cons,List.reverse_cons];exact Vals.append ih (.cons r .nil)
theorem Vals.rep{xs:List V}{us:List Value}(h:Vals xs us):∀k:Nat,Vals (List.replicate k xs).flatten (List.replicate k us).flatten
 | 0=>.nil
 | k+1=>by
  rw[List.replicate_succ,List.replicate_succ,List.flatten_cons,List.flatten_cons]
  exact Vals.append h (Vals.rep h k)
theorem foldl_rep(its:List Value):∀(k:Nat) (acc:List Value),
  List.foldl (λx1 x2=>x1++x2) acc.toArray (List.replicate k its.toArray)=(acc++(List.replicate k its).flatten).toArray
 | 0,acc=>by simp
 | k+1,acc=>by
  have e:acc.toArray++its.toArray=(acc++its).toArray:=by simp
  have e2:(acc++its)++(List.replicate k its).flatten=acc++(List.replicate (k+1) its).flatten:=by
   rw[List.replicate_succ,List.flatten_cons,List.append_assoc]
  rw[← e2,← foldl_rep its k (acc++its),← e,List.replicate_succ,List.foldl_cons]
section
variable{X:Cx}{pins:List (Addr×Obj)}{σ:St}{H:Hp}{s:Shared}{l b:Addr}{xs ys zs:List V}
theorem Inv.Pc{its its':List Value}{n:Nat}{f:Array Value→Array Value}{t':Nat}(I:Inv X pins σ H s)(hH:H l=some (.lst xs))
  (e:s.heap.get? l=some { cls:=.type "list",data:=.seq its.toArray n }) (hf:f its.toArray=its'.toArray) (hv:Vals ys its') (hz:ys.length≤sizeLine) :
  Inv X pins σ (upd H l (.lst ys)) { s with heap:=s.heap.update l (Obj.mapSeq f),toks:=t' }:=by
 have q:=PySem.IsL.update e f
 rw[hf] at q
 refine I.write (x:=l) (e:=l) (by rw[hH];exact trivial) (.inl rfl) (λb' u hb hu=>(Heap.get?_update_other s.heap (Obj.mapSeq f) (Ne.symm hb)).trans hu) ⟨_,q⟩ ?_
 exact⟨hz,its',_,hv,q⟩
theorem Inv.Ks{its:List Value}{t':Nat}(I:Inv X pins σ H s)(hv:Vals ys its)(hz:ys.length≤sizeLine) :
  Inv X pins σ (upd H s.heap.objs.size (.lst ys)) { s with heap:=s.heap.push { cls:=.type "list",data:=.seq its.toArray },toks:=t' } :=
 I.laid (λ_ _ q=>Heap.get?_push_of_some _ q) (Nat.le_refl _) ⟨hz,its,0,hv,Heap.get?_push_size _ rfl⟩
theorem Inv.fresh(I:Inv X pins σ H s):H s.heap.objs.size=none:=I.hok.fresh (Nat.le_refl _)
theorem Inv.MR(I:Inv X pins σ H s)(hH:H l=some (.lst xs)):xs.length≤sizeLine∧∃(its:List Value) (n:Nat),Vals xs its∧xs.length=its.length∧s.heap.get? l=some { cls:=.type "list",data:=.seq its.toArray n }:=by
 obtain⟨z,its,n,r,e⟩:=I.hok l _ hH
 exact⟨z,its,n,r,r.length,e⟩
theorem DB{n:Nat}(h:n≤sizeLine):Builtin.List.listTooLong n=false:=by
 unfold Builtin.List.listTooLong
 exact decide_eq_false (by lia)
end
section
variable{X:Cx}
def AG:V→List V→Hp→VK→Prop:=λx vs H Q=>∃l xs y,x=.ref l∧vs=[y]∧H l=some (.lst xs)∧xs.length<sizeLine∧Q .non (upd H l (.lst (xs++[y])))
theorem ug:MtM X "list.append" AG:=by
 intro pins s σ H x vs v us Q I rx rv h
 obtain⟨l,xs,y,rfl,rfl,hH,hz,q⟩:=h
 cases rx
 obtain⟨u,rfl,ru⟩:=rv.one
 obtain⟨z,its,n,r,hl,e⟩:=I.MR hH
 refine call_meets F.slot_list_append ⟨_,e,rfl⟩ F.entry_list_append (F.args_list_append_2 _ _) (PySem.list_append l its.toArray n u (by rw[List.size_toArray];lia)) ⟨e,?_⟩
 refine⟨.non,_,I.Pc (its':=its++[u]) hH e (by simp) (r.append (.cons ru .nil)) ?_,rfl,q⟩
 rw[List.length_append,List.length_singleton]
 lia
def Pd:R2:=λx y H Q=>∃l k xs,x=.ref l∧y=.int k∧H l=some (.lst xs)∧-(2 ^ 63)≤k∧k<2 ^ 63∧xs.length*k.toNat≤sizeLine ∧
 ∀p,H p=none→Q (.ref p) (upd H p (.lst (List.replicate k.toNat xs).flatten))
theorem len_rep{α:Type}(xs:List α)(k:Nat):(List.replicate k xs).flatten.length=k*xs.length:=by
 induction k with
 | zero=>simp
 | succ k ih=>rw[List.replicate_succ,List.flatten_cons,List.length_append,ih,Nat.succ_mul,Nat.add_comm]
theorem Kt:OpR X (binaryOp .Mult) Pd:=by
 intro pins s σ H x y v u Q I rx ry h
 obtain⟨l,k,xs,rfl,rfl,hH,h1,h2,hz,q⟩:=h
 cases rx
 obtain⟨t,rfl⟩:=ry
 obtain⟨z,its,n,r,hl,e⟩:=I.MR hH
 have hlen:its.toArray.size*k.toNat≤sizeLine:=by rw[List.size_toArray,← hl];exact hz
 have Pe:¬ its.toArray.size*k.toNat > (2 ^ 63-1) / 8:=by
  have:(sizeLine:Nat)≤(2 ^ 63-1) / 8:=by decide
  lia
 have Pf:¬ (!Builtin.List.listFitsIndex k)=true:=by
  rw[fitsIndex_both h1 h2]
  exact Bool.false_ne_true
 have MS:¬ Builtin.List.listTooLong (its.toArray.size*k.toNat)=true:=by
  rw[DB hlen]
  exact Bool.false_ne_true
 have Pg:List.foldl (λx1 x2=>x1++x2) #[] (List.replicate (if its.toArray.isEmpty=true then 0 else k.toNat) its.toArray)=(List.replicate k.toNat its).flatten.toArray:=by
  have f0:∀m:Nat,List.foldl (λx1 x2=>x1++x2) #[] (List.replicate m its.toArray)=(List.replicate m its).flatten.toArray:=λm=>by
   have:=foldl_rep its m []
   rw[List.nil_append] at this
   exact this
  rw[f0]
  cases its with
  | nil=>simp
  | cons a r'=>rw[if_neg (by simp)]
 refine wpAny_binaryOp_repeat_ref (T:="list") (U:="int") (by decide) ⟨_,e,rfl⟩ (λs'=>typeIs_int s' k t) noFill_list_mul F.fills_int_mul F.slot_int_rmul repeat_list F.slot_int_index.lookup
  (call_meets F.slot_int_rmul (typeIs_int s k t) F.entry_int_rmul (F.args_int_rmul_2 _ _) (int___rmul___int_list k t l its.toArray n)
   ⟨e,rfl,⟨_,e,rfl⟩,call_meets F.slot_list_mul ⟨_,e,rfl⟩ F.entry_list_mul (F.args_list_mul_2 _ _) (AutoListH.list___mul___list_int_3 l its.toArray n k t Pf Pe MS) ⟨e,?_⟩⟩)
 rw[Pg]
 exact⟨.ref _,_,I.Ks (t':=s.toks) (r.rep k.toNat) (by rw[len_rep,Nat.mul_comm];exact hz),rfl,q _ I.fresh⟩
end
section
variable{prog:Program}{w:World}{A:Around}{E:Value→Shared→Prop}{s:Shared}
end
section
variable{X:Cx}
end
section
variable{κ:Type}[DecidableEq κ]
def lg(kvs:List (κ×V))(k:κ):Option V:=(kvs.find? λkv=>decide (kv.1=k)).map (·.2)
def putK(kvs:List (κ×V))(k:κ)(v:V):List (κ×V) :=
 if (kvs.any λkv=>decide (kv.1=k))=true then kvs.map (λkv=>if kv.1=k then (kv.1,v) else kv) else kvs++[(k,v)]
theorem lh{p:κ×V}{r:List (κ×V)}{k:κ}(e:p.1=k):lg (p::r) k=some p.2:=by simp[lg,List.find?_cons,e]
theorem lq{p:κ×V}{r:List (κ×V)}{k:κ}(e:¬ p.1=k):lg (p::r) k=lg r k:=by simp[lg,List.find?_cons,e]
theorem wZ(k:κ):∀kvs:List (κ×V),(kvs.any λkv=>decide (kv.1=k))=(lg kvs k).isSome
 | []=>rfl
 | p::r=>by
  rw[List.any_cons]
  by_cases e:p.1=k
  ·simp only[lh e,decide_eq_true e,Bool.true_or,Option.isSome_some]
  ·rw[lq e,decide_eq_false e,Bool.false_or];exact wZ k r
theorem pI(kvs:List (κ×V))(k:κ)(v:V):(putK kvs k v).length≤kvs.length+1:=by
 unfold putK
 split
 ·rw[List.length_map];lia
 ·rw[List.length_append,List.length_cons,List.length_nil];lia
theorem mI.BN{o:Option V}{u:Option Value}(r:mI o u):o.isSome=u.isSome:=by
 cases o with
 | none=>cases u with
  | none=>rfl
  | some _=>exact (show False from r).elim
 | some _=>cases u with
  | none=>exact (show False from r).elim
  | some _=>rfl
theorem mI.getD{o:Option V}{u:Option Value}{d:V}{d':Value}(r:mI o u)(rd:RelV d d'):RelV (o.getD d) (u.getD d'):=by
 cases o with
 | none=>cases u with
  | none=>exact rd
  | some _=>exact (show False from r).elim
 | some _=>cases u with
  | none=>exact (show False from r).elim
  | some _=>exact r
theorem KV.val{kvs:List (κ×V)}{vs:List (κ×Value)}(r:KV kvs vs)(k:κ):mI (lg kvs k) (valueAt vs k):=by
 unfold KV at r
 induction r with
 | nil=>exact True.intro
 | @cons p q ps qs h t ih =>
  obtain⟨h1,h2⟩:=h
  by_cases e:p.1=k
  ·have e':q.1=k:=h1.symm.trans e
   have b:valueAt (q::qs) k=some q.2:=by simp[valueAt,List.find?_cons,e']
   rw[lh e,b];exact h2
  ·have e':¬ q.1=k:=λz=>e (h1.trans z)
   have b:valueAt (q::qs) k=valueAt qs k:=by simp[valueAt,List.find?_cons,e']
   rw[lq e,b];exact ih
theorem KV.any{kvs:List (κ×V)}{vs:List (κ×Value)}(r:KV kvs vs)(k:κ):(kvs.any λkv=>decide (kv.1=k))=vs.any λkv=>decide (kv.1=k):=by
 unfold KV at r
 induction r with
 | nil=>rfl
 | cons h t ih=>rw[List.any_cons,List.any_cons,ih,h.1]
theorem KV.yF{kvs:List (κ×V)}{vs:List (κ×Value)}(r:KV kvs vs)(k:κ){y:V}{u:Value}(ry:RelV y u) :
  KV (kvs.map λkv=>if kv.1=k then (kv.1,y) else kv) (vs.map λkv=>if kv.1=k then (kv.1,u) else kv):=by
 unfold KV at r ⊢
 induction r with
 | nil=>exact .nil
 | @cons p q ps qs h t ih =>
  rw[List.map_cons,List.map_cons]
  refine .cons ?_ ih
  obtain⟨h1,h2⟩:=h
  by_cases e:p.1=k
  ·rw[if_pos e,if_pos (h1.symm.trans e)];exact⟨h1,ry⟩
  ·rw[if_neg e,if_neg (λz=>e (h1.trans z))];exact⟨h1,h2⟩
theorem KV.put{kvs:List (κ×V)}{vs:List (κ×Value)}(r:KV kvs vs)(k:κ){y:V}{u:Value}(ry:RelV y u):KV (putK kvs k y) (stored vs k u):=by
 unfold putK stored
 rw[r.any k]
 by_cases e:(vs.any λkv=>decide (kv.1=k))=true
 ·rw[if_pos e,if_pos e];exact r.yF k ry
 ·rw[if_neg e,if_neg e];exact Paired.snoc r ⟨rfl,ry⟩
theorem KV.length{kvs:List (κ×V)}{vs:List (κ×Value)}(r:KV kvs vs):kvs.length=vs.length:=Paired.length r
end
theorem DC{P:Program}{w:World}{k:Key}{u:Value}(r:RelV (kV k) u):(cm P w).is k u=true:=by
 cases k with
 | inl i=>obtain⟨t,e⟩:=(show ∃t,u=Value.int i t from r);subst e;exact wM P w i t
 | inr x=>obtain⟨t,e⟩:=(show ∃t,u=Value.str x t from r);subst e;exact wN P w x t
theorem uh{P:Program}{w:World}:∀{ks:List Key}{us:List Value},Vals (ks.map kV) us→ItemsAre (cm P w) ks us
 | [],_,r=>by rw[List.map_nil] at r;cases r;exact .nil
 | k::ks,_,r=>by
  rw[List.map_cons] at r
  cases r with
  | cons h t=>exact .cons (DC h) (uh t)
noncomputable abbrev KT (H : Hp) : List (List Key × V) → List (List Key × Addr × Value) → Prop := Paired fun p q => p.1 = q.1 ∧ H q.2.1 = some (.tup (p.1.map kV)) ∧ RelV p.2 q.2.2
theorem KT.val{H:Hp}{kvs:List (List Key×V)}{xs:List (List Key×Addr×Value)}(r:KT H kvs xs)(k:List Key):mI (lg kvs k) ((atKey xs k).map (·.2)):=by
 induction r with
 | nil=>exact True.intro
 | @cons p q ps qs h t ih =>
  obtain⟨h1,_,h2⟩:=h
  by_cases e:p.1=k
  ·have e':q.1=k:=h1.symm.trans e
   have b:atKey (q::qs) k=some q.2:=by simp[atKey,List.find?_cons,e']
   rw[lh e,b];exact h2
  ·have e':¬ q.1=k:=λz=>e (h1.trans z)
   have b:atKey (q::qs) k=atKey qs k:=by simp[atKey,List.find?_cons,e']
   rw[lq e,b];exact ih
theorem KT.yF{H:Hp}{kvs:List (List Key×V)}{xs:List (List Key×Addr×Value)}(r:KT H kvs xs)(k:List Key){y:V}{u:Value}(ry:RelV y u) :
  KT H (kvs.map λkv=>if kv.1=k then (kv.1,y) else kv) (xs.map (putAt k u)):=by
 induction r with
 | nil=>exact .nil
 | @cons p q ps qs h t ih =>
  rw[List.map_cons,List.map_cons]
  refine .cons ?_ ih
  obtain⟨h1,h2,h3⟩:=h
  unfold putAt
  by_cases e:p.1=k
  ·rw[if_pos e,if_pos (h1.symm.trans e)];exact⟨h1,h2,ry⟩
  ·rw[if_neg e,if_neg (λz=>e (h1.trans z))];exact⟨h1,h2,h3⟩
theorem KT.put{H:Hp}{kvs:List (List Key×V)}{xs:List (List Key×Addr×Value)}(r:KT H kvs xs)(k:List Key){b:Addr}{y:V}{u:Value}(hb:H b=some (.tup (k.map kV)))(ry:RelV y u) :
  KT H (putK kvs k y) (storedH xs k b u):=by
 have e:(kvs.any λkv=>decide (kv.1=k))=(atKey xs k).isSome:=by
  rw[wZ,(r.val k).BN,Option.isSome_map]
 unfold putK storedH
 rw[e]
 by_cases q:(atKey xs k).isSome=true
 ·rw[if_pos q,if_pos q];exact r.yF k ry
 ·rw[if_neg q,if_neg q];exact Paired.snoc r ⟨rfl,hb,ry⟩
theorem KT.keeps{H H':Hp}{kvs:List (List Key×V)}{xs:List (List Key×Addr×Value)}(r:KT H kvs xs)(ht:∀b ys,H b=some (.tup ys)→H' b=some (.tup ys)):KT H' kvs xs :=
 Paired.GK r λ_ _ z=>⟨z.1,ht _ _ z.2.1,z.2.2⟩
section
variable{P:Program}{w:World}{H:Hp}{h:Heap}{a:Addr}
theorem DD{u:HO}(ok:HOk P w H h)(e:Rd H a u):cL P w H h a u:=e.ok ok
theorem AH{kvs:List (Key×V)}(ok:HOk P w H h)(e:Rd H a (.dK kvs)):kvs.length≤sizeLine∧(a==sysModules)=false∧∃vs,KV kvs vs∧h.DictOf (cm P w) a vs :=
 let ⟨z,y,vs,r,d⟩:=(show cL P w H h a (.dK kvs) from DD ok e);⟨z,y,vs,r,d.dictOf⟩
theorem pJ{kvs:List (Key×V)}(ok:HOk P w H h)(e:Rd H a (.dK kvs)):kvs.length≤sizeLine∧(a==sysModules)=false∧∃vs,KV kvs vs∧h.DictAt (cm P w) a vs vs.length :=
 show cL P w H h a (.dK kvs) from DD ok e
theorem Jh{kvs:List (Key×V)}(ok:HOk P w H h)(e:H a=some (.dK kvs)):kvs.length≤sizeLine∧(a==sysModules)=false∧∃vs,KV kvs vs∧h.DictOf (cm P w) a vs:=AH ok (.inl e)
theorem yG{ks:List Key}(ok:HOk P w H h)(e:H a=some (.tup (ks.map kV))):(tupleKind (cm P w)).is h ks a:=by
 obtain⟨_,its,r,o,h1,h2,n,h3⟩:=(show cL P w H h a (.tup (ks.map kV)) from ok a _ e)
 exact⟨o,its.toArray,n,h1,h2,h3,by simpa using uh r⟩
theorem DE{kvs:List (List Key×V)}(ok:HOk P w H h)(e:Rd H a (.dT kvs)):kvs.length≤sizeLine∧(a==sysModules)=false ∧
  ∃xs,KT H kvs xs∧h.DictOfH (tupleKind (cm P w)) a xs:=by
 obtain⟨z,y,xs,r,o,es,ep,h1,h2,h3,h4,h5⟩:=(show cL P w H h a (.dT kvs) from DD ok e)
 refine⟨z,y,xs,r,o,es,ep,h1,h2,h3,h4,λx hx=>?_,h5⟩
 have all:∀{l:List (List Key×V)}{m:List (List Key×Addr×Value)},KT H l m→∀x∈m,(tupleKind (cm P w)).is h x.1 x.2.1:=by
  intro l m q
  induction q with
  | nil=>intro x hx;exact nomatch hx
  | @cons p q ps qs hq t ih =>
   intro x hx
   rcases List.mem_cons.mp hx with e|hx
   ·subst e
    exact yG ok (by rw[← hq.1];exact hq.2.1)
   ·exact ih x hx
 exact all r x hx
theorem MT{kvs:List (List Key×V)}(ok:HOk P w H h)(e:H a=some (.dT kvs)):kvs.length≤sizeLine∧(a==sysModules)=false ∧
  ∃xs,KT H kvs xs∧h.DictOfH (tupleKind (cm P w)) a xs:=DE ok (.inl e)
end
def yH(H:Hp)(a:Addr)(y:V)(r:Option V):Prop :=
 (∃kvs k,Rd H a (.dK kvs)∧y=kV k∧r=lg kvs k)∨∃kvs k b,Rd H a (.dT kvs)∧y=.ref b∧H b=some (.tup (k.map kV))∧r=lg kvs k
def w5(H:Hp)(a:Addr)(y v:V)(H':Hp):Prop :=
 (∃kvs k,H a=some (.dK kvs)∧y=kV k∧kvs.length<sizeLine∧H'=upd H a (.dK (putK kvs k v))) ∨
 ∃kvs k b,H a=some (.dT kvs)∧y=.ref b∧H b=some (.tup (k.map kV))∧kvs.length<sizeLine∧H'=upd H a (.dT (putK kvs k v))
theorem yH.k{H:Hp}{a:Addr}{kvs:List (Key×V)}{k:Key}(e:H a=some (.dK kvs)):yH H a (kV k) (lg kvs k):=.inl ⟨kvs,k,.inl e,rfl,rfl⟩
theorem w5.k{H:Hp}{a:Addr}{kvs:List (Key×V)}{k:Key}{v:V}(e:H a=some (.dK kvs))(hl:kvs.length<sizeLine):w5 H a (kV k) v (upd H a (.dK (putK kvs k v))):=.inl ⟨kvs,k,e,rfl,hl,rfl⟩
theorem w5.t{H:Hp}{a b:Addr}{kvs:List (List Key×V)}{k:List Key}{v:V}(e:H a=some (.dT kvs))(eb:H b=some (.tup (k.map kV)))(hl:kvs.length<sizeLine) :
  w5 H a (.ref b) v (upd H a (.dT (putK kvs k v))):=.inr ⟨kvs,k,b,e,rfl,eb,hl,rfl⟩
section
variable{X:Cx}{pins:List (Addr×Obj)}{σ:St}{H:Hp}{s:Shared}{a:Addr}{y v:V}{u r:Value}{o:Option V}{A:Around}{E:Value→Shared→Prop}
theorem Inv.big(I:Inv X pins σ H s):sysModules<s.heap.objs.size:=by
 have h:mainGlobals<s.heap.objs.size:=(I.mod.glob.keeps I.bk).lt
 exact Nat.lt_trans (by decide) h
theorem BO{Q:Value→Shared→Prop}(hu:A.units+1<cLine)(I:Inv X pins σ H s)(g:yH H a y (some v))(ry:RelV y u)(h:∀w' s',Inv X pins σ H s'→RelV v w'→Q w' s') :
  wpAny (model X.prog X.w) A (getItem (.ref a) u) Q E s:=by
 rcases g with ⟨kvs,k,e,ey,l⟩|⟨kvs,k,b,e,ey,eb,l⟩
 ·subst ey
  obtain⟨z,hd,vs,rel,dd⟩:=AH I.hok e
  obtain⟨w',hw,rw'⟩:=mI.some_of (v:=v) (o:=valueAt vs k) (by rw[l];exact rel.val k)
  exact wpAny_getItem_of (DC ry) dd.mapOf hw (h w' _ (I.tok _) rw')
 ·subst ey
  cases (show u=Value.ref b from ry)
  obtain⟨z,hd,xs,rel,dd⟩:=DE I.hok e
  obtain⟨w',hw,rw'⟩:=mI.some_of (v:=v) (o:=(atKey xs k).map (·.2)) (by rw[l];exact rel.val k)
  obtain⟨p,hp,hp2⟩:=Option.map_eq_some_iff.mp hw
  refine wpAny_getItem_heap (tupleKind_room_in1 hu) (yG I.hok eb) dd hp ?_
  rw[hp2]
  exact h w' _ (I.tok _) rw'
theorem AI{h':Heap}{t':Nat}{ob:HO}(I:Inv X pins σ H s)(mu:Mut (H a))(hs:Heap.SameBut a s.heap h')(he:∃q,h'.get? a=some q)(new:cL X.prog X.w (upd H a ob) h' a ob) :
  Inv X pins σ (upd H a ob) { s with heap:=h',toks:=t' } :=
 I.write (x:=a) (e:=a) mu (.inl rfl) (λb q hb z=>(hs.2 b hb).trans z) he new
theorem Ku{P:Program}{w:World}{H':Hp}{h':Heap}{kvs:List (Key×V)}{vs:List (Key×Value)}(z:kvs.length≤sizeLine)(hd:(a==sysModules)=false)(rel:KV kvs vs)(dd:h'.DictAt (cm P w) a vs vs.length) :
  cL P w H' h' a (.dK kvs):=⟨z,hd,vs,rel,dd⟩
theorem yI {P : Program} {w : World} {κ : Type} [DecidableEq κ] {knd : KeyKind P w κ} {A : Around} {E : Value → Shared → Prop} {s : Shared} {d : Addr} {kvs : List (κ × Value)} {k : κ} {key v : Value} {Q : Unit → Shared → Prop} (BP : knd.is k key = true) (hm : s.heap.DictAt knd d kvs kvs.length)
    (hsz : kvs.length ≤ sizeLine) (hQ : ∀ h', h'.DictAt knd d (stored kvs k v) (stored kvs k v).length → Heap.SameBut d s.heap h' → Q () { s with heap := h', toks := s.toks + 1 }) :
    wpAny (model P w) A (dictSet d key v) Q E s := by
  obtain ⟨o, es, ho, hc, hd, hk, hp, hn⟩ := hm
  have hes : es.size ≤ sizeLine := by have e1 := hp.length; have e2 : es.toList.length = es.size := by simp
                                      lia
  unfold dictSet
  try with_reducible refine wpAny_holding ?_
  refine wpAny_bind (knd.pyHash BP ?_)
  unfold dictSetHashed
  try with_reducible refine wpAny_holding ?_
  refine wpAny_bind (wpAny_dictFind_of (s := { s with toks := s.toks + 1 }) BP ho hd hk ?_)
  have BQ : (es.findIdx? fun e => knd.is k e.key) = kvs.findIdx? fun kv => decide (kv.1 = k) := by
    rw [← hp.findIdx k]; obtain ⟨l⟩ := es; simp
  cases hi : es.findIdx? fun e => knd.is k e.key with
  | some i =>
    have hst : stored kvs k v = kvs.map fun kv => if kv.1 = k then (kv.1, v) else kv := by rw [stored, if_pos (any_of_findIdx_some (BQ ▸ hi))]
    have hlen : kvs.length = (stored kvs k v).length := by rw [hst, List.length_map]
    refine wpAny_bind (wpAny_rule (wpAny_bind (wpAny_updateDict (s := { s with toks := s.toks + 1 }) ho hd (wpAny_point (hQ _ ⟨_, _, Heap.get?_update_self _ ho (Obj.isFreed_of_dict (Obj.data_mapDict hd _)),
      hc.mapDict _, (Obj.data_mapDict hd _).trans (congrArg (fun n => Data.dict _ n) hlen), hk.modify _ _, ?_, ?_⟩ (Heap.SameBut.update ..))))))
    · rw [stored, if_pos (any_of_findIdx_some (BQ ▸ hi))]
      have hl : (es.toList.findIdx? fun e => knd.is k e.key) = some i := by rw [← hi]; obtain ⟨l⟩ := es; simp
      have := hp.modify hn hl v
      obtain ⟨l⟩ := es
      simpa using this
    · rw [stored, if_pos (any_of_findIdx_some (BQ ▸ hi)), keys_map_store]; exact hn
  | none =>
    have MU : k ∉ kvs.map (·.1) := not_mem_of_findIdx_none (BQ ▸ hi)
    have Kv : ¬ (kvs.any fun kv => decide (kv.1 = k)) = true := by
      rw [List.any_eq_true]; rintro ⟨kv, hkv, he⟩
      exact MU (List.mem_map.mpr ⟨kv, hkv, of_decide_eq_true he⟩)
    have hst : stored kvs k v = kvs ++ [(k, v)] := by rw [stored, if_neg Kv]
    have hlen : kvs.length + 1 = (stored kvs k v).length := by rw [hst, List.length_append]; rfl
    refine wpAny_bind (wpAny_rule (wpAny_updateDictKeys (hz := hes) (s := { s with toks := s.toks + 1 }) ho hd (hQ _ ⟨_, _, Heap.get?_update_self _ ho (Obj.isFreed_of_dict (Obj.data_mapDictKeys hd _)),
      hc.mapDictKeys _, (Obj.data_mapDictKeys hd _).trans (congrArg (fun n => Data.dict _ n) hlen), hk.push BP _, ?_, ?_⟩ (Heap.SameBut.update ..))))
    · rw [stored, if_neg Kv]
      have := hp.append BP (knd.hash k) v
      obtain ⟨l⟩ := es
      simpa using this
    · rw [stored, if_neg Kv, List.map_append, List.nodup_append]
      refine ⟨hn, by simp, ?_⟩
      intro a ha b hb
      simp only [List.map_cons, List.map_nil, List.mem_singleton] at hb
      subst hb
      exact fun e => MU (e ▸ ha)
theorem yJ{P:Program}{w:World}{κ:Type}[DecidableEq κ]{knd:KeyKind P w κ}{A:Around}{E:Value→Shared→Prop}{s:Shared}{d:Addr}{kvs:List (κ×Value)}{k:κ}{key v:Value}{Q:Unit→Shared→Prop}(BP:knd.is k key=true)(hm:s.heap.DictAt knd d kvs kvs.length)
  (hsz:kvs.length≤sizeLine) (hQ:∀h',h'.DictAt knd d (stored kvs k v) (stored kvs k v).length→Heap.SameBut d s.heap h'→Q () { s with heap:=h',toks:=s.toks+1 }) :
  wpAny (model P w) A (setItem (.ref d) key v) Q E s:=by
 have hT:=hm.dictOf.typeIs
 unfold setItem
 try with_reducible refine wpAny_holding ?_
 refine wpAny_bind (wpAny_sequenceKey hT (by decide) ?_)
 refine wpAny_bind (wpAny_callSpecial?_slot (name:=Str.ofString "__setitem__") hT slot_dict_setitem
  (wpAny_call_entry slot_dict_setitem hT entry_dict_setitem ?_ (args_dict_setitem _ _ _)))
 show wpAny _ _ (Builtin.Dict.notOrdered "__setitem__" ⟨[.ref d,key,v],[]⟩>>=_) _ _ s
 refine wpAny_bind (wpAny_notOrdered_dict hT ?_)
 show wpAny _ _ (dictSet d key v>>=_) _ _ s
 exact wpAny_bind (yI BP hm hsz λh' hm' hs'=>wpAny_pure ⟨.none,rfl,wpAny_pure (hQ h' hm' hs')⟩)
theorem BR{H':Hp}{Q:Unit→Shared→Prop}(hu:A.units+1<cLine)(I:Inv X pins σ H s)(g:w5 H a y v H')(ry:RelV y u)(rv:RelV v r)(h:∀s',Inv X pins σ H' s'→Q () s') :
  wpAny (model X.prog X.w) A (setItem (.ref a) u r) Q E s:=by
 rcases g with ⟨kvs,k,e,ey,l,eH⟩|⟨kvs,k,b,e,ey,eb,l,eH⟩
 ·subst ey eH
  obtain⟨z,hd,vs,rel,dd⟩:=pJ I.hok (.inl e)
  have hz:vs.length≤sizeLine:=by rw[← rel.length];exact z
  have hl:(putK kvs k v).length≤sizeLine:=by have:=pI kvs k v;lia
  refine yJ (DC ry) dd hz λh' dd' hs=>h _ ?_
  have he:∃q,h'.get? a=some q:=let ⟨q,_,hq,_⟩:=dd';⟨q,hq⟩
  exact AI I (by rw[e];exact True.intro) hs he (Ku hl hd (rel.put k rv) dd')
 ·subst ey eH
  cases (show u=Value.ref b from ry)
  obtain⟨z,hd,xs,rel,dd⟩:=MT I.hok e
  have hz:xs.length≤sizeLine:=by rw[← Paired.length rel];exact z
  have hl:(putK kvs k v).length≤sizeLine:=by have:=pI kvs k v;lia
  refine wpAny_setItem_heap (hsz:=hz) (tupleKind_room_in1 hu) (yG I.hok eb) dd λh' dd' hs=>h _ ?_
  obtain⟨q,es,ep,hq,h2,h3,h4,_,h5⟩:=dd'
  refine AI I (by rw[e];exact True.intro) hs ⟨q,hq⟩ ⟨hl,hd,_,(rel.put k eb rv).keeps λc ys ec=>?_,q,es,ep,hq,h2,h3,h4,h5⟩
  rw[aE (Mn ec e (λz=>nomatch z))]
  exact ec
end
section
variable{X:Cx}{pins:List (Addr×Obj)}{σ:St}{H:Hp}{s:Shared}{a:Addr}{kvs:List (Key×V)}{k:Key}{u:Value}{A:Around}{E:Value→Shared→Prop}
theorem MV{Q:Value→Shared→Prop}(I:Inv X pins σ H s)(e:Rd H a (.dK kvs))(h:∀t s',Inv X pins σ H s'→Q (.int kvs.length t) s'):wpAny (model X.prog X.w) A (call (.builtin "len") [.ref a]) Q E s:=by
 obtain⟨z,hd,vs,rel,dd⟩:=AH I.hok e
 refine call_len_dict hd dd (by rw[← rel.length];rw[sizeLine_eq] at z;lia) ?_
 rw[← rel.length]
 exact h _ _ (I.tok _)
end
def G6(i:Expr):Prop:=∀ov iv,subscripted i false ov iv=operate [ov,iv] (getItem ov iv)
theorem G7{prog:Program}{w:World}{A:Around}{E:Value→Shared→Prop}{s:Shared}{env:Env}{value slice:Expr}{pos:Pos}{T id:String}{Q:Value→Shared→Prop}
  (hl:typeLookup (.type T) "__getitem__"=pure (some (.builtin id))) (hs:G6 slice)
  (h:wpAny (model prog w) A (eval value env) (λo s₁=>wpAny (model prog w) A (eval slice env) (λi s₂=>s₂.TypeIs o T∧wpAny (model prog w) A (getItem o i) Q E s₂) E s₁) E s) :
  wpAny (model prog w) A (eval (.Subscript value slice pos) env) Q E s:=by
 refine Subscript_ (wpAny_mono h (λo s₁ h₁=>wpAny_mono h₁ (λi s₂ h₂=>?_) λ_ _ x=>x) λ_ _ x=>x)
 obtain⟨hT,h₂⟩:=h₂
 unfold subscriptTail
 refine wpAny_bind ?_
 rw[getitemInPython_of_ne hT.not_modules]
 refine wpAny_bind (wpAny_specialOf hT hl ?_)
 have fin:wpAny (model prog w) A (subscripted slice false o i) (λr s₃=>wpAny (model prog w) A (letTemporaryGo value o r>>=λ_=>pure r) Q E s₃) E s₂:=by
  rw[hs o i]
  exact wpAny_operating (wpAny_mono h₂ (λr s₃ h₃=>wpAny_bind (wpAny_letTemporaryGo (wpAny_pure h₃))) λ_ _ x=>x)
 first
  | exact wpAny_pure (wpAny_bind fin)
  | exact wpAny_bind (wpAny_pure (wpAny_bind fin))
  | exact wpAny_bind fin
theorem w6{X:Cx}{pins:List (Addr×Obj)}{σ:St}{H:Hp}{s:Shared}{a:Addr}{y:V}{o:Option V}(I:Inv X pins σ H s)(g:yH H a y o):s.TypeIs (.ref a) "dict":=by
 rcases g with ⟨kvs,k,e,_,_⟩|⟨kvs,k,b,e,_,_,_⟩
 ·obtain⟨_,_,vs,_,dd⟩:=AH I.hok e
  exact dd.typeIs
 ·obtain⟨_,_,xs,_,dd⟩:=DE I.hok e
  exact dd.typeIs
def DF(td ty:TE):TE:=λσ H Q=>td σ H λx H1=>ty σ H1 λy H2=>∃a v,x=.ref a∧yH H2 a y (some v)∧Q v H2
def MW(td ty tv:TE):TS:=λD σ H=>tv σ H λv H1=>td σ H1 λx H2=>ty σ H2 λy H3=>∃a H4,x=.ref a∧w5 H3 a y v H4∧D.nx σ H4
section
variable{X:Cx}{o i e value:Expr}{pos pos' gz:Pos}{td ty tv:TE}
theorem AJ(hu:X.A.units+1<cLine)(ho:PE X o td)(hi:PE X i ty)(hs:G6 i):PE X (.Subscript o i pos) (DF td ty):=by
 intro pins s σ H Q I h
 refine G7 PySem.F.slot_dict_getitem.lookup hs (thn (ho pins s σ H _ I h) λu s1 ⟨x,H1,I1,rx,q1⟩=>thn (hi pins s1 σ H1 _ I1 q1) λiv s2 ao=>?_)
 obtain⟨y,H2,I2,ry,a,v,ex,g,q2⟩:=ao
 subst ex
 obtain rfl:u=Value.ref a:=rx
 exact⟨w6 I2 g,BO hu I2 g ry λw' s3 I3 rw'=>⟨v,H2,I3,rw',q2⟩⟩
theorem AK(hu:X.A.units+1<cLine)(ho:PE X o td)(hi:PE X i ty)(hv:PE X value tv)(hs:swapsWith value (some (.Subscript o i pos')) pos.line X.env=pure false) :
  PS X (.Assign [.Subscript o i pos'] value pos) (MW td ty tv):=by
 intro pins s σ H D I h
 refine wpAny_Assign_Subscript (thn (hv pins s σ H _ I h) λr s1 ⟨v,H1,I1,rv,q1⟩=>thn (ho pins s1 σ H1 _ I1 q1) λu s2 ⟨x,H2,I2,rx,q2⟩=>thn (hi pins s2 σ H2 _ I2 q2) λiv s3 ao=>?_) hs
 obtain⟨y,H3,I3,ry,a,H4,ex,g,q3⟩:=ao
 subst ex
 obtain rfl:u=Value.ref a:=rx
 exact BR hu I3 g ry rv λs4 I4=>⟨σ,H4,I4,q3⟩
end
theorem DG{P:Program}{w:World}{H:Hp}(h:Heap)(hb:sysModules<h.objs.size):cL P w H (h.push { cls:=.type "dict",data:=.dict #[] }) h.objs.size (.dK []) :=
 ⟨Nat.zero_le _,beq_eq_false_iff_ne.mpr (Ne.symm (Nat.ne_of_lt hb)),[],.nil,_,#[],Heap.get?_push_size _ rfl,⟨rfl,rfl,rfl⟩,rfl,λe he=>by simp at he,.nil,List.nodup_nil⟩
theorem DH{P:Program}{w:World}{H:Hp}(h:Heap)(hb:sysModules<h.objs.size):cL P w H (h.push { cls:=.type "dict",data:=.dict #[] }) h.objs.size (.dT []) :=
 ⟨Nat.zero_le _,beq_eq_false_iff_ne.mpr (Ne.symm (Nat.ne_of_lt hb)),[],.nil,_,#[],0,Heap.get?_push_size _ rfl,⟨rfl,rfl,rfl⟩,rfl,rfl,List.nodup_nil⟩
def Kw:TE:=λ_ H Q=>∀p,H p=none→Q (.ref p) (upd H p (.dK []))
def Kx:TE:=λ_ H Q=>∀p,H p=none→Q (.ref p) (upd H p (.dT []))
section
variable{X:Cx}{pos:Pos}
theorem DJ:PE X (.Dict [] [] pos) Kw:=λpins s σ H Q I h =>
 wpAny_Dict_empty ⟨.ref s.heap.objs.size,_,I.laid (a:=s.heap.objs.size) (o:=.dK []) (t':=s.toks) (λ_ _ q=>Heap.get?_push_of_some _ q) (Nat.le_refl _) (DG s.heap I.big),rfl,h _ (I.hok.fresh (Nat.le_refl _))⟩
theorem DK:PE X (.Dict [] [] pos) Kx:=λpins s σ H Q I h =>
 wpAny_Dict_empty ⟨.ref s.heap.objs.size,_,I.laid (a:=s.heap.objs.size) (o:=.dT []) (t':=s.toks) (λ_ _ q=>Heap.get?_push_of_some _ q) (Nat.le_refl _) (DH s.heap I.big),rfl,h _ (I.hok.fresh (Nat.le_refl _))⟩
end
section
variable{X:Cx}{pins:List (Addr×Obj)}{σ:St}{H:Hp}{s:Shared}{a:Addr}{y d:V}{u r:Value}{o:Option V}{A:Around}{E:Value→Shared→Prop}
end
section
variable{X:Cx}{o e f:Expr}{apos kS:Pos}{td ty tx:TE}
end
section
variable{X:Cx}{pins:List (Addr×Obj)}{σ:St}{H:Hp}{s:Shared}{a:Addr}{kvs:List (Key×V)}{A:Around}{E:Value→Shared→Prop}
end
section
variable{X:Cx}{pins:List (Addr×Obj)}{σ:St}{H:Hp}{s:Shared}{a:Addr}{y:V}{u:Value}{A:Around}{E:Value→Shared→Prop}
end
end L2
namespace Att
open PySem PySem.W PySem.Calls PyProof.Rows
theorem pR{P:Params}{h:Heap}:∀(ns:List Int) (vs:List Value),WellAll P h vs (ns.map WData.int)→IntsAre vs ns:=by
 intro ns
 induction ns with
 | nil =>
  intro vs w
  rw[List.map_nil] at w
  cases w
  exact .nil
 | cons n ns ih =>
  intro vs w
  rw[List.map_cons] at w
  cases w with
  | cons a b =>
   cases a
   exact .cons _ _ (ih _ b)
theorem BS{l:OpenLaw}{n:Nat}(hn:l.most=some n){P:Params}{h:Heap}{args:List WData}{vals:List Value}
  (G8:l.row.toRowW.claim.pre args=true) (hwl:WellAll P h vals args) :
  ∃a vs ns,vals=[Value.ref a]∧args=[WData.list (ns.map WData.int)]∧h.get? a=some { cls:=.type "list",data:=.seq vs.toArray }∧IntsAre vs ns∧ns.length≤n:=by
 have hsh:WShape.hasAll [] args [.list .int]=true:=(pre_splitW G8).1
 have hc:l.pre.holds [] { args:=args }=true:=(pre_splitW G8).2
 obtain⟨d,r,rfl,h1,h2⟩:=hasAllW_cons hsh
 obtain rfl:=hasAllW_nil h2
 obtain⟨xs,rfl,h3⟩:=hasW_list h1
 obtain⟨ns,rfl⟩:=items_int h3
 have hlen:ns.length≤n:=by
  unfold OpenLaw.pre at hc
  have h4:(WTm.not (.lt (.lit (.int (n:Int))) (.len (.arg 0)))).holds [] { args:=[.list (ns.map .int)] }=true:=by
   have h4:=(holds_andW hc).1
   rw[hn] at h4
   exact h4
  have h5:=condW_of h4 (w_not (w_lt w_lit (w_len_list (w_arg rfl))))
  rw[List.length_map] at h5
  refine Nat.le_of_not_lt λq=>?_
  have q':(n:Int)<((ns.length:Nat):Int):=by lia
  first
   | (rw[decide_eq_true q'] at h5;exact absurd h5 (by decide))
   | (simp at h5;lia)
 cases hwl with
 | cons w1 w2 =>
  cases w2
  cases w1 with
  | list ho Ky=>exact⟨_,_,ns,rfl,rfl,ho,pR ns _ Ky,hlen⟩
theorem BU(l:OpenLaw)(args:List WData):l.row.toRowW.claim.post args (.bool true) args=true :=
 postW_of (r:=l.row.toRowW) (X:=(true==true))
  (show WShape.has [] (.bool true) .bool=true by first|rfl|decide|simp[WShape.has,WShape.arms,WShape.armsAll])
  (show (WTm.eq .res (.lit (.bool true))).value [] { args:=args,res:=some (.bool true),after:=args }=some (.bool (true==true)) from w_eq_bool (w_res rfl) w_lit) rfl
theorem w8{l:OpenLaw}{n:Nat}{q:Program}{loose:List Str}{XP:(Str→Option Value)→Heap→Prop}{YP:World→Heap→Prop}{d:DefRec}
  (hn:l.most=some n) (hdf:d.params.defaults=[])
  (call:∀(w:World) (s₀ s₁:Shared) (mg mb:Str→Option Value) (fa:Addr) (o:Obj) (pm cd doc:Value) (a:Addr) (vs:List Value) (ns:List Int),
   Ground q loose [] XP w s₀ mg mb s₁.heap→YP w s₁.heap →
   s₁.heap.get? fa=some o→o.data=.func (docDef d.name d.params d.body d.scope pm cd doc)→s₁.heap.CodeRec cd d.name→mg d.name=some (.ref fa) →
   s₁.heap.get? a=some { cls:=.type "list",data:=.seq vs.toArray }→IntsAre vs ns→ns.length≤n→s₁.gens=#[] →
   codeAny (model l.prog w) callerA (.call (.ref fa) ⟨[.ref a],[]⟩) (λr s'=>r=.ok (.ret (.bool true))∧OldK s₁.heap s'.heap∧s'.os=s₁.os∧AllBare s'.gens) s₁) :
  WalkO q loose XP YP l.row.toRowW d [] (λf vs=>PySem.call f vs):=by
 intro w s₀ s₁ mg mb G Y fa o pm cd doc dV kV ho hd hcd hD hmg hg args vals as G8 Uc hrd hwl hlo
 obtain rfl:dV=.none:=Dflts.none hD hdf
 obtain rfl:kV=.none:=Dflts.noKw hD
 obtain⟨a,vs,ns,rfl,rfl,Kz,hints,hlen⟩:=BS hn G8 hwl
 refine enter_call (codeAny_mono (call w s₀ s₁ mg mb fa o pm cd doc a vs ns G Y ho (fd_plain hd) hcd hmg Kz hints hlen hg) λr s' hq=>?_)
 obtain⟨rfl,h2,h3,h4⟩:=hq
 exact⟨.inl ⟨.bool true,.bool true,[],rfl,λ_=>rfl,.bool true,BU l _,λ_=>⟨List.Pairwise.nil,λ_ hm=>(nomatch hm)⟩⟩,h2,h3,h4⟩
section
variable{prog:Program}{w:World}{A:Around}{E:Value→Shared→Prop}{s:Shared}{K:Frag}
end
end Att
namespace L2
open PySem PySem.Spec PyProof.Rows
theorem ui:∀{vs:List Value}{ns:List Int},IntsAre vs ns→Vals (ns.map V.int) vs
 | _,_,.nil=>.nil
 | _,_,.cons n t h=>.cons ⟨t,rfl⟩ (ui h)
def G9(H:Hp):Prop:=∀b,H b=none∨∃o xs,H b=some (.frz o (.lst xs))
theorem DL{P:Program}{w:World}{K:PySem.W.Frag}{mg mb:Str→Option Value}{CX:CXT}{k:Nat}{fa a:Addr}{fd:FuncData}{x:Str}{sp:Sp}{s₁:Shared}{vs:List Value}{ns:List Int}
  (KX:K.In s₁.heap) (hns:s₁.heap.Ns mainGlobals mg) (hb:s₁.heap.Ns builtinsNs mb) (hbb:∀x:Str,x≠"__name__"→mb x=bootBuiltins x) (Ph:s₁.heap.NoLimit) (hg:s₁.gens=#[])
  (ha:s₁.heap.get? a=some { cls:=.type "list",data:=.seq vs.toArray }) (hi:IntsAre vs ns) (hl:ns.length≤sizeLine) (hr:cM k callerA)
  (F:∀base:Heap,K.In base→base.Ns mainGlobals mg→aU P w K mg base CX k fa fd [x] sp) (MX:∀(s:Shared) (u:Value),BindsTo s fd ⟨[u],[]⟩ [(x,u)])
  (hsp:∀H:Hp,G9 H→SqL K H a (ns.map V.int)→sp [.ref a] H (λv _=>v=.bl true) λ_ _ _=>False)
  (hCX:∀H e s',CX [] H s₁ (λ_ _ _=>False) e s'→False) :
  codeAny (model P w) callerA (.call (.ref fa) ⟨[.ref a],[]⟩) (λr s'=>r=.ok (.ret (.bool true))∧OldK s₁.heap s'.heap∧s'.os=s₁.os∧AllBare s'.gens) s₁:=by
 have rv:=ui hi
 have Pj:=hi.length
 have core:∀H:Hp,G9 H→SqL K H a (ns.map V.int)→HOk P w H s₁.heap→(∀b,H b≠none→b=a)→(H a≠none→K.lookup a=none) →
   codeAny (model P w) callerA (.call (.ref fa) ⟨[.ref a],[]⟩) (λr s'=>r=.ok (.ret (.bool true))∧OldK s₁.heap s'.heap∧s'.os=s₁.os∧AllBare s'.gens) s₁:=by
  intro H hO hS hok hA hK
  have AL:∀{b:Addr}{o:Obj},s₁.heap.get? b=some o→H b=none→(uX s₁.heap H).get? b=some o:=λe n=>Dd e n
  have noA:∀{b:Addr}{o:Obj}{es:Array DictEntry}{ep:Nat},s₁.heap.get? b=some o→o.data=.dict es ep→H b=none:=λ{b o es ep} e d=>by
   cases q:H b with
   | none=>rfl
   | some u =>
    have e':b=a:=hA b (by rw[q];simp)
    subst e'
    rw[ha] at e;cases e
    have d':Data.seq vs.toArray _=Data.dict es ep:=d
    cases d'
  have nsK:∀{b:Addr}{m:Str→Option Value},s₁.heap.Ns b m→(uX s₁.heap H).Ns b m:=λ{b m} ⟨o,es,ep,e,d,r⟩=>⟨o,es,ep,AL e (noA e d),d,r⟩
  have hKb:K.In (uX s₁.heap H):=λb o e=>AL (KX b o e) (by
   cases q:H b with
   | none=>rfl
   | some u =>
    have e':b=a:=hA b (by rw[q];simp)
    subst e'
    rw[hK (by rw[q];simp)] at e;cases e)
  have hM:Mod K mg (uX s₁.heap H):=⟨hKb,nsK hns,⟨mb,nsK hb,hbb⟩,let ⟨mc,h1,h2⟩:=Ph;⟨mc,nsK h1,h2⟩⟩
  have e0:yx P w K mg (uX s₁.heap H) callerA [] s₁ H:=⟨rfl,hM,λb o e=>GL e,Nat.le_of_eq (BG _ _),trivial,λb hb=>absurd (show b∈([]:List Addr) from hb) (by simp),hok,.of_eq hg⟩
  refine codeAny_mono ((F _ hKb (nsK hns)).run callerA [] s₁ H ⟨[.ref a],[]⟩ [.ref a] [.ref a] _ _ hr e0 (MX s₁ (.ref a)) (.cons rfl .nil) (hsp H hO hS)) λr s' h=>?_
  cases r with
  | error e=>exact (hCX H e s' h).elim
  | ok fl =>
   cases fl with
   | next=>exact False.elim h
   | brk=>exact False.elim h
   | cont=>exact False.elim h
   | ret u =>
    obtain⟨v,H',os,bare,un,Pk,r',q⟩:=h
    have q':v=.bl true:=q
    subst q'
    obtain rfl:u=Value.bool true:=r'
    refine⟨rfl,OldK.of_keep λb o e=>?_,os,bare⟩
    cases q:H b with
    | none=>exact un.keep b o e q (by intro z;exact absurd (show b∈([]:List Addr) from z) (by simp)) (by simp)
    | some u =>
     rcases hO b with z|⟨ob,xs,z⟩
     ·rw[q] at z;cases z
     ·have z2:=un.eQ b ob _ z
      obtain⟨e1,_⟩:=hok b _ z
      obtain⟨e2,_⟩:=Pk b _ z2
      rw[e] at e1;cases e1
      exact e2
 cases hk:K.lookup a with
 | some o =>
  have e:=KX a o hk
  rw[ha] at e
  cases e
  refine core (λ_=>none) (λ_=>.inl rfl) (.inr ⟨_,vs.toArray,_,hk,rfl,rfl,rfl,by rw[List.size_toArray,Pj];exact hl,by simpa using rv⟩) (λb u z=>by have z':(none:Option HO)=some u:=z;cases z') (λb z=>absurd rfl z) λz=>absurd rfl z
 | none =>
  refine core (λb=>if b=a then some (.frz { cls:=.type "list",data:=.seq vs.toArray } (.lst (ns.map V.int))) else none) (λb=>?_) (.inl (.inr ⟨{ cls:=.type "list",data:=.seq vs.toArray },if_pos rfl⟩)) (λb u z=>?_) (λb z=>?_) λ_=>hk
  ·by_cases hb:b=a
   ·exact .inr ⟨_,_,if_pos hb⟩
   ·exact .inl (if_neg hb)
  ·by_cases hb:b=a
   ·have z':=(if_pos hb).symm.trans z
    cases z'
    subst hb
    exact⟨ha,by rw[List.length_map];exact hl,vs,_,rv,ha⟩
   ·have z':=(if_neg hb).symm.trans z
    cases z'
  ·by_cases hb:b=a
   ·exact hb
   ·exact absurd (if_neg hb) z
theorem G_{l:PySem.W.OpenLaw}{n k:Nat}{q:Program}{loose:List Str}{XP:(Str→Option Value)→Heap→Prop}{YP:World→Heap→Prop}{d:DefRec}{K:Params→PySem.W.Frag}{CX:World→CXT}{sp:World→Sp}{x:Str}
  (hn:l.most=some n) (hn2:n≤sizeLine) (hdf:d.params.defaults=[]) (hr:cM k callerA)
  (hY:∀(w:World) (h:Heap),YP w h→(K w.params).In h)
  (F:∀(w:World) (mg:Str→Option Value) (fa:Addr) (h:Heap),(K w.params).In h→h.Ns mainGlobals mg→mg d.name=some (.ref fa) →
   ∃fd:FuncData,(∀(s:Shared) (u:Value),BindsTo s fd ⟨[u],[]⟩ [(x,u)]) ∧
    ∀base:Heap,(K w.params).In base→base.Ns mainGlobals mg→aU l.prog w (K w.params) mg base (CX w) k fa fd [x] (sp w))
  (hsp:∀(w:World) (H:Hp) (a:Addr) (ns:List Int),ns.length≤n→G9 H→SqL (K w.params) H a (ns.map V.int)→sp w [.ref a] H (λv _=>v=.bl true) λ_ _ _=>False)
  (hCX:∀(w:World) (H:Hp) (s:Shared) (e:Value) (s':Shared),CX w [] H s (λ_ _ _=>False) e s'→False) :
  PySem.W.WalkO q loose XP YP l.row.toRowW d [] (λf vs=>PySem.call f vs):=by
 refine Att.w8 hn hdf λw s₀ s₁ mg mb fa o pm cd doc a vs ns G Y ho hd hcd hmg Kz hints hlen hg=>?_
 have KX:=hY w _ Y
 obtain⟨fd,hb,hF⟩:=F w mg fa _ KX G.T.g hmg
 exact DL KX G.T.g G.T.b G.T.builtins G.T.nolimit hg Kz hints (Nat.le_trans hlen hn2) hr hF hb (λH hO hS=>hsp w H a ns hlen hO hS) λH e s'=>hCX w H s₁ e s'
end L2
namespace L2
open PySem PySem.Spec PyProof.Rows
def aO(s:Stmt):Arguments:=match s with
 | .FunctionDef _ a _ _ _ _ _ _ _ _=>a
 | _=>{ posonlyargs:=[],args:=[],vararg:=none,kwonlyargs:=[],kw_defaults:=[],kwarg:=none,defaults:=[] }
def aM(s:Stmt):List Stmt:=match s with
 | .FunctionDef _ _ b _ _ _ _ _ _ _=>b
 | _=>[]
def ai(s:Stmt):Scope:=match s with
 | .FunctionDef _ _ _ _ _ _ sc _ _ _=>sc
 | _=>{ kind:=.function,names:=[],isGenerator:=false,isCoroutine:=false }
noncomputable abbrev CX0 : CXT := fun _ _ _ _ _ _ => False
noncomputable abbrev E0 : XK := fun _ _ _ => False
theorem MY{X:Cx}:Passes CX0 X E0:=λ_ _ _ _ _ _ _ h=>h.elim
structure Fun(K:PySem.W.Frag)(x qual:Str)(st:Stmt)(f:Addr)(fd:FuncData):Prop where
 ex:∃(oc:Value) (od:Option Addr) (kV doc pm:Value) (an:Option Addr) (cdv ct:Value) (osl:Array (Option Value)),
  fd=PySem.W.fnOf x qual (aO st) (aM st) (ai st) .none kV doc pm an cdv ct∧K.lookup f=some ⟨oc,od,.func fd,osl⟩∧PySem.W.codeIn K cdv qual=true
 kp:PySem.W.keepIn K (.ref f)=true
section
variable{P:Program}{w:World}{K:PySem.W.Frag}{mg:Str→Option Value}{base:Heap}
theorem Fun.ok{x qual:Str}{st:Stmt}{f:Addr}{fd:FuncData}{N ps:List Str}{k:Nat}{sp:Sp}(F:Fun K x qual st f fd)(S:aR N ps (ai st))(len:∀vs H Q E,sp vs H Q E→vs.length=ps.length)
  (Dv:∀(cdv:Value) (A:Around) (outer:List Env) (s:Shared) (H:Hp) (vs:List V) (Q:VK) (E:XK),cM k (A.deeper (envOfC qual (ai st) s.heap.objs.size f cdv))→sp vs H Q E →
   ∃t,PSs (yA CX0 P w K mg base N qual (ai st) f cdv A outer s H E).nox (aM st) t∧t { nx:=λ_ H'=>Q .non H',rt:=Q } (start N vs) H):aU P w K mg base CX0 (k+1) f fd ps sp:=by
 obtain⟨oc,od,kV,doc,pm,an,cdv,ct,osl,rfl,lk,hcd⟩:=F.ex
 refine MH lk hcd S len λA outer s H vs Q E hr hsp=>?_
 obtain⟨t,h,q⟩:=Dv cdv A outer s H vs Q E hr hsp
 exact⟨t,h.nox,q⟩
theorem Fun.binds{x qual:Str}{st:Stmt}{f:Addr}{fd:FuncData}{ps:List Str}(F:Fun K x qual st f fd)
  (h:∀(kV doc pm:Value) (an:Option Addr) (cdv ct:Value) (us:List Value),us.length=ps.length→bindArgs (PySem.W.fnOf x qual (aO st) (aM st) (ai st) .none kV doc pm an cdv ct) ⟨us,[]⟩=pure (ps.zip us)):Binds K fd ps []:=by
 obtain⟨oc,od,kV,doc,pm,an,cdv,ct,osl,rfl,lk,hcd⟩:=F.ex
 exact .all (h kV doc pm an cdv ct)
theorem bh{x qual:Str}{st:Stmt}{f:Addr}{oc:Value}{od an:Option Addr}{osl:Array (Option Value)}{kV doc pm cdv ct:Value}(l:K.lookup f=some ⟨oc,od,.func (PySem.W.fnOf x qual (aO st) (aM st) (ai st) .none kV doc pm an cdv ct),osl⟩)
  (c:PySem.W.codeIn K cdv qual=true) (k:PySem.W.keepIn K (.ref f)=true):Fun K x qual st f (PySem.W.fnOf x qual (aO st) (aM st) (ai st) .none kV doc pm an cdv ct):=⟨⟨oc,od,kV,doc,pm,an,cdv,ct,osl,rfl,l,c⟩,k⟩
end
theorem BV{n:Nat}(h:n≤1000):n<sizeLine:=Nat.lt_of_le_of_lt h (by decide)
section
variable{X:Cx}
end
def aT(H H':Hp):Prop:=∀b o,H b=some o→H' b=some o
theorem aT.refl(H:Hp):aT H H:=λ_ _ h=>h
theorem aT.trans{H H1 H2:Hp}(a:aT H H1)(b:aT H1 H2):aT H H2:=λc o h=>b c o (a c o h)
theorem aT.free{H H':Hp}(e:aT H H'){l:Addr}(h:H' l=Option.none):H l=Option.none:=by
 cases q:H l with
 | none=>rfl
 | some o =>
  rw[e l o q] at h
  cases h
theorem aT.seq{K:PySem.W.Frag}{H H':Hp}{a:Addr}{xs:List V}(e:aT H H')(h:SqL K H a xs):SqL K H' a xs:=by
 rcases h with (h|⟨o,h⟩)|h
 ·exact .inl (.inl (e _ _ h))
 ·exact .inl (.inr ⟨o,e _ _ h⟩)
 ·exact .inr h
section
variable{X:Cx}
theorem BW:eP X (.builtin "len") (λxs H Q=>∃a kvs,xs=[V.ref a]∧H a=some (.dK kvs)∧Q (.int kvs.length) H):=by
 intro pins s σ H xs us Q I r h
 obtain⟨a,kvs,rfl,ha,q⟩:=h
 obtain⟨u,rfl,ru⟩:=vals1 r
 cases ru
 exact MV I (.inl ha) λt s' I'=>⟨.int kvs.length,H,I',⟨t,rfl⟩,q⟩
end
section
variable{κ:Type}[DecidableEq κ]
end
def CX1(P:Program)(w:World):CXT:=λouter H s E ev s'=>∃(e t C:Addr) (H':Hp) (B:Heap),ev=.ref e∧s'.os=s.os∧AllBare s'.gens∧Un (frs outer) [] H H' s.heap s'.heap∧HOk P w H' s'.heap∧E (.ref C) none H' ∧
 Heap.FlyingW B outer e (.ref C) (.ref t) s'.heap∧(∀b o,s.heap.get? b=some o→b∉frs outer→∃o',B.get? b=some o')∧∀b o,H' b=some o→∃o',B.get? b=some o'
theorem Un.held{P:Program}{w:World}{l:List Env}{H H':Hp}{h0 h3 h5 B:Heap}{e:Addr}{cls a0:Value}(U:Un (frs l) [] H H' h0 h3)(hok:HOk P w H' h3)(fl:Heap.FlyingW B l e cls a0 h3)(st:B.StaysIn h5)(up:h3.UpToSlots h5)
  (cov:∀b o,h0.get? b=some o→b∉frs l→∃o',B.get? b=some o') (KA:∀b o,H' b=some o→∃o',B.get? b=some o'):Un (frs l) [] H H' h0 h5∧HOk P w H' h5:=by
 have same:∀b o o',h3.get? b=some o→B.get? b=some o'→h5.get? b=some o:=λb o o' q1 q2=>by
  have:=fl.1 b o' q2
  rw[q1] at this
  cases this
  exact st b o q2
 have slot:∀b o,h3.get? b=some o→b∈frs l→∃sl,h5.get? b=some { o with slots:=sl }:=λb o q hb=>by
  obtain⟨_,o',ho',hnr⟩:=fl.2.2.1.mem hb
  rw[q] at ho'
  cases ho'
  exact up b o q hnr
 refine⟨⟨λb o q n nb hx=>?_,λb o q n hb hx=>?_,U.free,λb o q hx=>?_,U.tf,U.eQ,U.tj⟩,λa o q=>?_⟩
 ·obtain⟨o',hB⟩:=cov b o q nb
  exact same b o o' (U.keep b o q n nb hx) hB
 ·obtain⟨sl,e1⟩:=U.slot b o q n hb hx
  obtain⟨sl2,e2⟩:=slot b _ e1 hb
  exact⟨sl2,e2⟩
 ·obtain⟨o2,e2⟩:=U.there b o q hx
  by_cases hb:b∈frs l
  ·obtain⟨sl,e3⟩:=slot b o2 e2 hb
   exact⟨_,e3⟩
  ·obtain⟨o',hB⟩:=cov b o q hb
   exact⟨o2,same b o2 o' e2 hB⟩
 ·refine (hok a o q).wO (λc v hc r=>?_) (λ_ r=>r) λ_ _ r=>r
  have hT:∃o1,H' c=some o1:=by
   rcases hc with rfl|hc
   ·exact⟨_,q⟩
   ·exact⟨_,hc⟩
  obtain⟨o1,h1⟩:=hT
  obtain⟨o',hB⟩:=KA c o1 h1
  exact same c v o' r hB
section
variable{M:Model}{A:Around}{E:Value→Shared→Prop}{h:Heap}{g:Array GenState}{d:Drawn}{t:Nat}{os:OsState}{e C:Addr}{oe:Obj}
 {nm q:Str}{N:Addr}{bs bm:List Value}{Ud:Bool}{sn:List Str}{sub:List Value}{ab:Bool}{col:Option Bool}{dd:Option Addr}{k0 k1 k2 k3 k5:Option Value}{newId:String}
 {nm' q':Str}{N' D:Addr}{bs' bm':List Value}{Ua:Bool}{sn':List Str}{Ue:List Value}{ab':Bool}{Ug:Option Bool}{dd':Option Addr}{k0' k1' k2' k3' k5':Option Value}{Pl:String}
end
structure Cau(X:Cx)(pins:List (Addr×Obj))(σ:L2.St)(H':Hp)(e t C:Addr)(B:Heap)(s:Shared):Prop where
 org:∃H0 s0,Inv X pins σ H0 s0∧s.os=s0.os∧Un (frs X.stack) [] H0 H' s0.heap s.heap∧∀b o,s0.heap.get? b=some o→b∉frs X.stack→∃o',B.get? b=some o'
 bare:AllBare s.gens
 hok:HOk X.prog X.w H' s.heap
 fly:Heap.FlyingW B X.stack e (.ref C) (.ref t) s.heap
 cov:∀b o,H' b=some o→∃o',B.get? b=some o'
section
variable{X:Cx}{pins:List (Addr×Obj)}{σ:L2.St}{H':Hp}{e t C:Addr}{B h':Heap}{s:Shared}
theorem Cau.slots{tk:Nat}(c:Cau X pins σ H' e t C B s)(fl:Heap.FlyingW B X.stack e (.ref C) (.ref t) h')(up:s.heap.UpToSlots h'):Cau X pins σ H' e t C B { s with heap:=h',toks:=tk }:=by
 obtain⟨H0,s0,I,hos,U,cov⟩:=c.org
 obtain⟨U',hk⟩:=U.held c.hok c.fly fl.1 up cov c.cov
 exact⟨⟨H0,s0,I,hos,U',cov⟩,c.bare,hk,fl,c.cov⟩
end
section
variable{X:Cx}{pins:List (Addr×Obj)}{σ:L2.St}{H:Hp}{s:Shared}{ev:Value}
end
section
variable{X:Cx}{pins:List (Addr×Obj)}{σ:L2.St}{H':Hp}{e t C D:Addr}{B:Heap}{s:Shared}{bm:List Value}{x:Str}{np pos:Pos}{name:Option Str}{body:List Stmt}{rest:List ExceptHandler}{Q:Flow→Shared→Prop}{E:Value→Shared→Prop}
end
section
variable{X:Cx}{pins:List (Addr×Obj)}{σ:L2.St}{H':Hp}{e t C:Addr}{B:Heap}{s:Shared}{bm:List Value}{pos:Pos}{name:Option Str}{body:List Stmt}{rest:List ExceptHandler}{Q:Flow→Shared→Prop}{E:Value→Shared→Prop}
end
section
variable{X:Cx}{pins:List (Addr×Obj)}{σ:L2.St}{H:Hp}{s:Shared}
end
def KC(e C:Addr)(h:Heap):Prop:=∃o,h.get? e=some o∧o.cls=.ref C
section
variable{X:Cx}{pins:List (Addr×Obj)}{σ:L2.St}{H':Hp}{e t C:Addr}{B:Heap}{s:Shared}{pos:Pos}{E:Value→Shared→Prop}
end
structure Hel(X:Cx)(pins:List (Addr×Obj))(σ:L2.St)(H':Hp)(e t C:Addr)(B:Heap)(s:Shared):Prop where
 org:∃H0 s0,Inv X pins σ H0 s0∧s.os=s0.os∧Un (frs X.stack) [] H0 H' s0.heap s.heap∧∀b o,s0.heap.get? b=some o→b∉frs X.stack→∃o',B.get? b=some o'
 bare:AllBare s.gens
 hok:HOk X.prog X.w H' s.heap
 held:Heap.HeldW B X.stack e (.ref C) (.ref t) X.env.locals s.heap
 cov:∀b o,H' b=some o→∃o',B.get? b=some o'
theorem Ha{P:Program}{w:World}{l:List Env}{H H':Hp}{h0 h3 h5 B:Heap}(U:Un (frs l) [] H H' h0 h3)(hok:HOk P w H' h3)(st0:B.StaysIn h3)(ff:h3.FunFrames B l)(st:B.StaysIn h5)(up:h3.UpToSlots h5)
  (cov:∀b o,h0.get? b=some o→b∉frs l→∃o',B.get? b=some o') (KA:∀b o,H' b=some o→∃o',B.get? b=some o'):Un (frs l) [] H H' h0 h5∧HOk P w H' h5:=by
 have same:∀b o o',h3.get? b=some o→B.get? b=some o'→h5.get? b=some o:=λb o o' q1 q2=>by
  have:=st0 b o' q2
  rw[q1] at this
  cases this
  exact st b o q2
 have slot:∀b o,h3.get? b=some o→b∈frs l→∃sl,h5.get? b=some { o with slots:=sl }:=λb o q hb=>by
  obtain⟨_,o',ho',hnr⟩:=ff.mem hb
  rw[q] at ho'
  cases ho'
  exact up b o q hnr
 refine⟨⟨λb o q n nb hx=>?_,λb o q n hb hx=>?_,U.free,λb o q hx=>?_,U.tf,U.eQ,U.tj⟩,λa o q=>?_⟩
 ·obtain⟨o',hB⟩:=cov b o q nb
  exact same b o o' (U.keep b o q n nb hx) hB
 ·obtain⟨sl,e1⟩:=U.slot b o q n hb hx
  obtain⟨sl2,e2⟩:=slot b _ e1 hb
  exact⟨sl2,e2⟩
 ·obtain⟨o2,e2⟩:=U.there b o q hx
  by_cases hb:b∈frs l
  ·obtain⟨sl,e3⟩:=slot b o2 e2 hb
   exact⟨_,e3⟩
  ·obtain⟨o',hB⟩:=cov b o q hb
   exact⟨o2,same b o2 o' e2 hB⟩
 ·refine (hok a o q).wO (λc v hc r=>?_) (λ_ r=>r) λ_ _ r=>r
  have hT:∃o1,H' c=some o1:=by
   rcases hc with rfl|hc
   ·exact⟨_,q⟩
   ·exact⟨_,hc⟩
  obtain⟨o1,h1⟩:=hT
  obtain⟨o',hB⟩:=KA c o1 h1
  exact same c v o' r hB
section
variable{X:Cx}{pins:List (Addr×Obj)}{σ:L2.St}{H H':Hp}{e t C:Addr}{B:Heap}{s s3:Shared}{ev:Value}{E:Value→Shared→Prop}
theorem Hel.slots{h':Heap}(c:Hel X pins σ H' e t C B s)(hl:Heap.HeldW B X.stack e (.ref C) (.ref t) X.env.locals h')(up:s.heap.UpToSlots h'):Hel X pins σ H' e t C B { s with heap:=h' }:=by
 obtain⟨H0,s0,I,hos,U,cov⟩:=c.org
 obtain⟨U',hk⟩:=Ha U c.hok c.held.1 c.held.2.2.1 hl.1 up cov c.cov
 exact⟨⟨H0,s0,I,hos,U',cov⟩,c.bare,hk,hl,c.cov⟩
end
end L2
namespace Fw
open PySem
noncomputable abbrev Key := Sum Int Str
inductive T where
 | non|bl (b:Bool)|int (i:Int)|str (x:Str)
 | lst (ts:List T)|tup (ts:List T)|dct (kts:List (Key×T))|exc (c:Str) (t:Option Str)|dtt (fz:Bool) (kts:List (List Int×Bool))
inductive SV where
 | val (t:T)|cel (k:Nat)|box (xs:List (Sum T Nat))
noncomputable abbrev af := List (Bool × T)
noncomputable abbrev Slots := List (Option SV)
inductive R(α:Type) where
 | ok (a:α) (μ:af)|err (c:T) (μ:af)|bad
def R.bind{α β:Type}(x:R α)(f:α→af→R β):R β:=match x with
 | .ok a μ=>f a μ
 | .err c μ=>.err c μ
 | .bad=>.bad
@[simp] theorem R.aZ{α β:Type}(a:α)(μ:af)(f:α→af→R β):(R.ok a μ).bind f=f a μ:=(rfl)
def R.lift{α:Type}(o:Option α)(μ:af):R α:=match o with
 | some a=>.ok a μ
 | none=>.bad
@[simp] theorem R.aV{α:Type}(a:α)(μ:af):R.lift (some a) μ=.ok a μ:=(rfl)
theorem R.aW{α β:Type}{x:R α}{f:α→af→R β}{b:β}{μ:af}(h:x.bind f=.ok b μ):∃a μ1,x=.ok a μ1∧f a μ1=.ok b μ:=by
 cases x with
 | ok a μ1=>exact⟨a,μ1,rfl,h⟩
 | err c μ1=>cases h
 | bad=>cases h
theorem R.mV{α:Type}{o:Option α}{μ μ':af}{a:α}(h:R.lift o μ=.ok a μ'):o=some a∧μ=μ':=by
 cases o with
 | none=>cases h
 | some x=>cases h;exact⟨rfl,rfl⟩
def R.calm{α:Type}:R α→R α
 | .ok a μ=>.ok a μ
 | _=>.bad
@[simp] theorem R.dJ{α:Type}(a:α)(μ:af):(R.ok a μ).calm=.ok a μ:=(rfl)
theorem R.calm_eq{α:Type}{r:R α}{a:α}{μ:af}(h:r.calm=.ok a μ):r=.ok a μ:=by
 cases r with
 | ok b ν=>exact h
 | err c ν=>cases h
 | bad=>cases h
noncomputable abbrev D := Slots → af → R SV
def szL:Nat:=16777216
def rd(μ:af):SV→Option T
 | .val t=>some t
 | .cel k=>(μ[k]?).map (·.2)
 | .box _=>none
@[simp] theorem ju(μ:af)(t:T):rd μ (.val t)=some t:=(rfl)
def vc(x:Sum T Nat)(μ:af):R T:=match x with
 | .inl t=>.ok t μ
 | .inr k=>match μ[k]? with
  | some (_,t)=>.ok t (μ.set k (false,t))
  | none=>.bad
def kN:List (Sum T Nat)→af→R (List T)
 | [],μ=>.ok [] μ
 | x::xs,μ=>(vc x μ).bind λt μ1=>(kN xs μ1).bind λts μ2=>.ok (t::ts) μ2
def frz(sv:SV)(μ:af):R T:=match sv with
 | .val t=>.ok t μ
 | .cel k=>match μ[k]? with
  | some (_,t)=>.ok t (μ.set k (false,t))
  | none=>.bad
 | .box xs=>(kN xs μ).bind λts μ1=>.ok (.tup ts) μ1
@[simp] theorem nM(μ:af)(t:T):frz (.val t) μ=.ok t μ:=(rfl)
def eQ:List SV→af→R (List T)
 | [],μ=>.ok [] μ
 | x::xs,μ=>(frz x μ).bind λt μ1=>(eQ xs μ1).bind λts μ2=>.ok (t::ts) μ2
@[simp] theorem qy(μ:af):eQ [] μ=.ok [] μ:=(rfl)
@[simp] theorem mw(x:SV)(xs:List SV)(μ:af):eQ (x::xs) μ=(frz x μ).bind λt μ1=>(eQ xs μ1).bind λts μ2=>.ok (t::ts) μ2:=(rfl)
theorem Hb(x:Sum T Nat)(μ:af)(c:T)(μ':af):vc x μ≠.err c μ':=by
 cases x with
 | inl t=>intro h;cases h
 | inr k =>
  unfold vc
  cases q:μ[k]? with
  | none=>simp[q]
  | some p=>simp[q]
theorem w_:∀(xs:List (Sum T Nat)) (μ:af) (c:T) (μ':af),kN xs μ≠.err c μ'
 | [],μ,c,μ'=>by intro h;cases h
 | x::xs,μ,c,μ'=>by
  unfold kN
  cases q:vc x μ with
  | err d μ1=>exact absurd q (Hb x μ d μ1)
  | bad=>intro h;cases h
  | ok t μ1 =>
   rw[R.aZ]
   cases q2:kN xs μ1 with
   | err d μ2=>exact absurd q2 (w_ xs μ1 d μ2)
   | bad=>intro h;cases h
   | ok ts μ2=>intro h;cases h
theorem qA(x:SV)(μ:af)(c:T)(μ':af):frz x μ≠.err c μ':=by
 cases x with
 | val t=>intro h;cases h
 | cel k =>
  unfold frz
  cases q:μ[k]? with
  | none=>simp[q]
  | some p=>simp[q]
 | box xs =>
  show (kN xs μ).bind _≠_
  cases q:kN xs μ with
  | err d μ1=>exact absurd q (w_ xs μ d μ1)
  | bad=>intro h;cases h
  | ok t μ1=>intro h;cases h
theorem qc:∀(xs:List SV) (μ:af) (c:T) (μ':af),eQ xs μ≠.err c μ'
 | [],μ,c,μ'=>by intro h;cases h
 | x::xs,μ,c,μ'=>by
  rw[mw]
  cases q:frz x μ with
  | err d μ1=>exact absurd q (qA x μ d μ1)
  | bad=>intro h;cases h
  | ok t μ1 =>
   rw[R.aZ]
   cases q2:eQ xs μ1 with
   | err d μ2=>exact absurd q2 (qc xs μ1 d μ2)
   | bad=>intro h;cases h
   | ok ts μ2=>intro h;cases h
def slot(e:Slots)(i:Nat):Option SV:=match e[i]? with
 | some (some sv)=>some sv
 | _=>none
@[simp] theorem cE(x:SV)(e:Slots):slot (some x::e) 0=some x:=(rfl)
@[simp] theorem BX(e:Slots):slot (none::e) 0=none:=(rfl)
@[simp] theorem cF(x:Option SV)(e:Slots)(i:Nat):slot (x::e) (i+1)=slot e i:=(rfl)
def aa(i:Nat):D:=λe μ=>R.lift (slot e i) μ
@[simp] theorem d7(i:Nat)(e:Slots)(μ:af):aa i e μ=R.lift (slot e i) μ:=(rfl)
def dC(t:T):D:=λ_ μ=>.ok (.val t) μ
@[simp] theorem qB(t:T)(e:Slots)(μ:af):dC t e μ=.ok (.val t) μ:=(rfl)
def ap1(f:T→Option T):Option T→Option SV
 | some t=>(f t).map SV.val
 | none=>none
def ap2(f:T→T→Option T):Option T→Option T→Option SV
 | some t,some u=>(f t u).map SV.val
 | _,_=>none
@[simp] theorem qC(f:T→Option T)(t:T):ap1 f (some t)=(f t).map SV.val:=(rfl)
@[simp] theorem lu(f:T→T→Option T)(t u:T):ap2 f (some t) (some u)=(f t u).map SV.val:=(rfl)
theorem mW{f:T→Option T}{o:Option T}{w:SV}(h:ap1 f o=some w):∃t u,o=some t∧f t=some u∧w=.val u:=by
 cases o with
 | none=>cases h
 | some t =>
  obtain⟨u,h1,rfl⟩:=Option.map_eq_some_iff.mp (show (f t).map SV.val=some w from h)
  exact⟨t,u,rfl,h1,rfl⟩
theorem qD{f:T→T→Option T}{o p:Option T}{w:SV}(h:ap2 f o p=some w):∃t u v,o=some t∧p=some u∧f t u=some v∧w=.val v:=by
 cases o with
 | none=>cases p<;>cases h
 | some t =>
  cases p with
  | none=>cases h
  | some u =>
   obtain⟨v,h1,rfl⟩:=Option.map_eq_some_iff.mp (show (f t u).map SV.val=some w from h)
   exact⟨t,u,v,rfl,rfl,h1,rfl⟩
def dUn(f:T→Option T)(a:D):D:=λe μ=>(a e μ).bind λx μ1=>R.lift (ap1 f (rd μ1 x)) μ1
@[simp] theorem vd(f:T→Option T)(a:D)(e:Slots)(μ:af):dUn f a e μ=(a e μ).bind λx μ1=>R.lift (ap1 f (rd μ1 x)) μ1:=(rfl)
def ag(f:T→T→Option T)(a b:D):D:=λe μ=>(a e μ).bind λx μ1=>(b e μ1).bind λy μ2=>R.lift (ap2 f (rd μ2 x) (rd μ2 y)) μ2
@[simp] theorem nN(f:T→T→Option T)(a b:D)(e:Slots)(μ:af):ag f a b e μ=(a e μ).bind λx μ1=>(b e μ1).bind λy μ2=>R.lift (ap2 f (rd μ2 x) (rd μ2 y)) μ2:=(rfl)
def asB:SV→Option Bool
 | .val (.bl b)=>some b
 | _=>none
@[simp] theorem iM(b:Bool):asB (.val (.bl b))=some b:=(rfl)
def mX(a b:D):D:=λe μ=>(a e μ).bind λx μ1=>(R.lift (asB x) μ1).bind λk μ1=>if k=true then b e μ1 else .ok (.val (.bl false)) μ1
def dOr(a b:D):D:=λe μ=>(a e μ).bind λx μ1=>(R.lift (asB x) μ1).bind λk μ1=>if k=true then .ok (.val (.bl true)) μ1 else b e μ1
def eR(a:D):D:=λe μ=>(a e μ).bind λx μ1=>(R.lift (asB x) μ1).bind λk μ1=>.ok (.val (.bl (!k))) μ1
def DM(c a b:D):D:=λe μ=>(c e μ).bind λx μ1=>(R.lift (asB x) μ1).bind λk μ1=>if k=true then a e μ1 else b e μ1
@[simp] theorem Hd(a b:D)(e:Slots)(μ:af):mX a b e μ=(a e μ).bind λx μ1=>(R.lift (asB x) μ1).bind λk μ1=>if k=true then b e μ1 else .ok (.val (.bl false)) μ1:=(rfl)
@[simp] theorem KD(a b:D)(e:Slots)(μ:af):dOr a b e μ=(a e μ).bind λx μ1=>(R.lift (asB x) μ1).bind λk μ1=>if k=true then .ok (.val (.bl true)) μ1 else b e μ1:=(rfl)
@[simp] theorem He(a:D)(e:Slots)(μ:af):eR a e μ=(a e μ).bind λx μ1=>(R.lift (asB x) μ1).bind λk μ1=>.ok (.val (.bl (!k))) μ1:=(rfl)
@[simp] theorem Hf(c a b:D)(e:Slots)(μ:af):DM c a b e μ=(c e μ).bind λx μ1=>(R.lift (asB x) μ1).bind λk μ1=>if k=true then a e μ1 else b e μ1:=(rfl)
def dQ:List D→Slots→af→R (List SV)
 | [],_,μ=>.ok [] μ
 | d::ds,e,μ=>(d e μ).bind λx μ1=>(dQ ds e μ1).bind λxs μ2=>.ok (x::xs) μ2
@[simp] theorem dY(e:Slots)(μ:af):dQ [] e μ=.ok [] μ:=(rfl)
@[simp] theorem bM(d:D)(ds:List D)(e:Slots)(μ:af):dQ (d::ds) e μ=(d e μ).bind λx μ1=>(dQ ds e μ1).bind λxs μ2=>.ok (x::xs) μ2:=(rfl)
def eU(ds:List D):D:=λe μ=>(dQ ds e μ).bind λxs μ1=>(eQ xs μ1).bind λts μ2=>.ok (.val (.tup ts)) μ2
def eS(ds:List D):D:=λe μ=>(dQ ds e μ).bind λxs μ1=>(eQ xs μ1).bind λts μ2=>.ok (.val (.lst ts)) μ2
@[simp] theorem Hg(ds:List D)(e:Slots)(μ:af):eU ds e μ=(dQ ds e μ).bind λxs μ1=>(eQ xs μ1).bind λts μ2=>.ok (.val (.tup ts)) μ2:=(rfl)
@[simp] theorem ve(ds:List D)(e:Slots)(μ:af):eS ds e μ=(dQ ds e μ).bind λxs μ1=>(eQ xs μ1).bind λts μ2=>.ok (.val (.lst ts)) μ2:=(rfl)
def pS(f:T→T→Option T)(ds:List D)(b:D):D:=λe μ=>(dQ ds e μ).bind λxs μ1=>(eQ xs μ1).bind λts μ2=>(b e μ2).bind λy μ3=>R.lift (ap1 (f (.lst ts)) (rd μ3 y)) μ3
@[simp] theorem OD(f:T→T→Option T)(ds:List D)(b:D)(e:Slots)(μ:af):pS f ds b e μ=(dQ ds e μ).bind λxs μ1=>(eQ xs μ1).bind λts μ2=>(b e μ2).bind λy μ3=>R.lift (ap1 (f (.lst ts)) (rd μ3 y)) μ3:=(rfl)
def boxed:List SV→Option (List (Sum T Nat))
 | []=>some []
 | .val t::xs=>(boxed xs).map λys=>.inl t::ys
 | .cel k::xs=>(boxed xs).map λys=>.inr k::ys
 | .box _::_=>none
def j0(ds:List D):D:=λe μ=>(dQ ds e μ).bind λxs μ1=>(R.lift (boxed xs) μ1).bind λys μ1=>.ok (.box ys) μ1
@[simp] theorem vf(ds:List D)(e:Slots)(μ:af):j0 ds e μ=(dQ ds e μ).bind λxs μ1=>(R.lift (boxed xs) μ1).bind λys μ1=>.ok (.box ys) μ1:=(rfl)
def cell(t:T)(μ:af):R SV:=.ok (.cel μ.length) (μ++[(true,t)])
def bp(d:D):D:=λe μ=>(d e μ).bind λx μ1=>match x with
 | .val t=>cell t μ1
 | .cel k=>.ok (.cel k) μ1
 | .box xs=>.ok (.box xs) μ1
def yK(x:SV)(μ:af):R SV:=match x with
 | .val t=>cell t μ
 | .cel k=>.ok (.cel k) μ
 | .box xs=>.ok (.box xs) μ
@[simp] theorem qE(t:T)(μ:af):yK (.val t) μ=.ok (.cel μ.length) (μ++[(true,t)]):=(rfl)
@[simp] theorem qF(d:D)(e:Slots)(μ:af):bp d e μ=(d e μ).bind yK:=by
 unfold bp yK;rfl
noncomputable abbrev FN := List SV → af → R SV
def au(f:FN)(ds:List D):D:=λe μ=>(dQ ds e μ).bind λxs μ1=>f xs μ1
@[simp] theorem gP(f:FN)(ds:List D)(e:Slots)(μ:af):au f ds e μ=(dQ ds e μ).bind λxs μ1=>f xs μ1:=(rfl)
def cal(f:FN):FN:=λxs μ=>(f xs μ).calm
@[simp] theorem lx(f:FN)(xs:List SV)(μ:af):cal f xs μ=(f xs μ).calm:=(rfl)
def ixN(n:Nat)(i:Int):Option Nat:=if 0≤i then (if i<n then some i.toNat else none) else if -(n:Int)≤i then some (i+n).toNat else none
def atI{α:Type}(xs:List α)(i:Int):Option α:=(ixN xs.length i).bind λj=>xs[j]?
def sIx(n d:Nat):Option Int→Nat
 | none=>d
 | some v=>if v<0 then (v+(n:Int)).toNat else min v.toNat n
def bj:T→T→Option T
 | .int i,.int j=>some (.int (i+j))
 | .str x,.str y=>if x.length+y.length≤szL then some (.str (x++y)) else none
 | .tup xs,.tup ys=>if xs.length+ys.length≤szL then some (.tup (xs++ys)) else none
 | .lst xs,.lst ys=>if xs.length+ys.length≤szL then some (.lst (xs++ys)) else none
 | _,_=>none
theorem xc(xs ys:List T)(h:xs.length+ys.length≤szL):bj (.tup xs) (.tup ys)=some (.tup (xs++ys)):=if_pos h
theorem qG(xs ys:List T)(h:xs.length+ys.length≤szL):bj (.lst xs) (.lst ys)=some (.lst (xs++ys)):=if_pos h
@[simp] theorem xf(i j:Int):bj (.int i) (.int j)=some (.int (i+j)):=(rfl)
def pT:T→T→Option T
 | .lst xs,.int k=>if -(2 ^ 63)≤k∧k<2 ^ 63∧xs.length*k.toNat≤szL then some (.lst (List.replicate k.toNat xs).flatten) else none
 | _,_=>none
def qH:T→T→Option T
 | .int i,.int j=>some (.int (i-j))
 | _,_=>none
@[simp] theorem xg(i j:Int):qH (.int i) (.int j)=some (.int (i-j)):=(rfl)
def KG:T→T→Option T
 | .int i,.int j=>if (-(2 ^ 64)<i∧i<2 ^ 64)∨(-(2 ^ 64)<j∧j<2 ^ 64) then some (.int (i*j)) else none
 | _,_=>none
def aK(t u:T):Option T:=KG t u
theorem KH(i j:Int)(h1:-18446744073709551616<i)(h2:i<18446744073709551616):KG (.int i) (.int j)=some (.int (i*j)):=if_pos (.inl ⟨h1,h2⟩)
theorem KI(i j:Int)(h1:-18446744073709551616<j)(h2:j<18446744073709551616):KG (.int i) (.int j)=some (.int (i*j)):=if_pos (.inr ⟨h1,h2⟩)
@[simp] theorem iy(i j:Int)(h1:-18446744073709551616<i)(h2:i<18446744073709551616):aK (.int i) (.int j)=some (.int (i*j)):=KH i j h1 h2
@[simp] theorem gH(i j:Int)(h1:-18446744073709551616<j)(h2:j<18446744073709551616):aK (.int i) (.int j)=some (.int (i*j)):=KI i j h1 h2
def aP:T→T→Option T
 | .int i,.int j=>if 0<j then some (.int (i%j)) else none
 | _,_=>none
@[simp] theorem eV(i j:Int)(h:0<j):aP (.int i) (.int j)=some (.int (i%j)):=if_pos h
def d_:T→T→Option T
 | .int i,.int j=>if 0<j∧j<1073741824 then some (.int (i / j)) else none
 | _,_=>none
@[simp] theorem xh(i j:Int)(h:0<j)(h2:j<1073741824):d_ (.int i) (.int j)=some (.int (i / j)):=if_pos ⟨h,h2⟩
def qI:T→T→Option T
 | .int i,.int j=>if 0≤j∧j≤64∧-(2 ^ 64)<i∧i<2 ^ 64 then some (.int (i*2 ^ j.toNat)) else none
 | _,_=>none
def mJ:T→T→Option T
 | .int i,.int j=>if 0≤j∧j≤64 then some (.int (i / 2 ^ j.toNat)) else none
 | _,_=>none
def xi:T→Option T
 | .int i=>some (.int (-i))
 | _=>none
@[simp] theorem DN(i:Int):xi (.int i)=some (.int (-i)):=(rfl)
def fLt:T→T→Option T
 | .int i,.int j=>some (.bl (decide (i<j)))
 | _,_=>none
def fLe:T→T→Option T
 | .int i,.int j=>some (.bl (decide (i≤j)))
 | _,_=>none
def fGt:T→T→Option T
 | .int i,.int j=>some (.bl (decide (j<i)))
 | _,_=>none
def fGe:T→T→Option T
 | .int i,.int j=>some (.bl (decide (j≤i)))
 | _,_=>none
@[simp] theorem Hh(i j:Int):fLt (.int i) (.int j)=some (.bl (decide (i<j))):=(rfl)
@[simp] theorem Hi(i j:Int):fLe (.int i) (.int j)=some (.bl (decide (i≤j))):=(rfl)
@[simp] theorem Hj(i j:Int):fGt (.int i) (.int j)=some (.bl (decide (j<i))):=(rfl)
@[simp] theorem Hk(i j:Int):fGe (.int i) (.int j)=some (.bl (decide (j≤i))):=(rfl)
mutual
def eqT:T→T→Bool
 | .non,.non=>true
 | .bl a,.bl b=>a==b
 | .bl a,.int b=>(if a then 1 else 0)==b
 | .int a,.bl b=>a==(if b then 1 else 0)
 | .int a,.int b=>a==b
 | .str a,.str b=>a==b
 | .lst a,.lst b=>jv a b
 | .tup a,.tup b=>jv a b
 | _,_=>false
def jv:List T→List T→Bool
 | [],[]=>true
 | a::as,b::bs=>eqT a b && jv as bs
 | [],_::_=>false
 | _::_,[]=>false
end
mutual
def okT:Nat→T→Bool
 | _,.non=>true
 | _,.bl _=>true
 | _,.int _=>true
 | _,.str x=>x.cps.all (·<1114112)
 | 0,.lst _=>false
 | n+1,.lst ts=>i9 n ts
 | 0,.tup _=>false
 | n+1,.tup ts=>i9 n ts
 | _,.dct _=>false
 | _,.exc _ _=>false
 | _,.dtt _ _=>false
def i9:Nat→List T→Bool
 | _,[]=>true
 | n,t::ts=>okT n t && i9 n ts
end
def fEq(t u:T):Option T:=match t,u with
 | .str a,.str b=>some (.bl (a==b))
 | t,u=>if okT 100 t=true∧okT 100 u=true then some (.bl (eqT t u)) else none
def fNe(t u:T):Option T:=match t,u with
 | .str a,.str b=>some (.bl (!(a==b)))
 | t,u=>if okT 100 t=true∧okT 100 u=true then some (.bl (!eqT t u)) else none
@[simp] theorem vg(n:Nat)(i:Int):okT n (.int i)=true:=by unfold okT;rfl
@[simp] theorem Hl(n:Nat)(ts:List T):okT (n+1) (.lst ts)=i9 n ts:=by rw[okT]
@[simp] theorem qd(n:Nat)(ts:List T):okT (n+1) (.tup ts)=i9 n ts:=by rw[okT]
@[simp] theorem xj(n:Nat):i9 n []=true:=by rw[i9]
@[simp] theorem iH(n:Nat)(t:T)(ts:List T):i9 n (t::ts)=(okT n t && i9 n ts):=by rw[i9]
theorem nO(n:Nat):∀ts:List T,i9 n ts=true↔∀t∈ts,okT n t=true
 | []=>by simp
 | t::ts=>by simp[nO n ts]
@[simp] theorem uj(n:Nat)(ns:List Int):i9 n (ns.map T.int)=true:=by
 rw[nO]
 intro t ht
 obtain⟨i,_,rfl⟩:=List.mem_map.mp ht
 simp
@[simp] theorem AM(i j:Int):eqT (.int i) (.int j)=(i==j):=by rw[eqT]
@[simp] theorem OE(i j:Str):eqT (.str i) (.str j)=(i==j):=by rw[eqT]
@[simp] theorem Pn(i j:Bool):eqT (.bl i) (.bl j)=(i==j):=by rw[eqT]
@[simp] theorem OF:eqT .non .non=true:=by rw[eqT]
@[simp] theorem Hm(i j:List T):eqT (.lst i) (.lst j)=jv i j:=by rw[eqT]
@[simp] theorem Hn(i j:List T):eqT (.tup i) (.tup j)=jv i j:=by rw[eqT]
@[simp] theorem MZ:jv [] []=true:=by rw[jv]
@[simp] theorem L4(a b:T)(as bs:List T):jv (a::as) (b::bs)=(eqT a b && jv as bs):=by rw[jv]
@[simp] theorem OG(b:T)(bs:List T):jv [] (b::bs)=false:=by rw[jv]
@[simp] theorem OH(b:T)(bs:List T):jv (b::bs) []=false:=by rw[jv]
mutual
theorem xk:∀(n:Nat) (t:T),okT n t=true→eqT t t=true
 | n,.non,_=>by simp
 | n,.bl b,_=>by simp
 | n,.int i,_=>by simp
 | n,.str x,_=>by simp
 | 0,.lst ts,h=>by rw[okT] at h;cases h
 | n+1,.lst ts,h=>by simp only[Hm];exact oT n ts (by simpa using h)
 | 0,.tup ts,h=>by rw[okT] at h;cases h
 | n+1,.tup ts,h=>by simp only[Hn];exact oT n ts (by simpa using h)
 | n,.dct _,h=>by unfold okT at h;cases h
 | n,.exc _ _,h=>by unfold okT at h;cases h
 | n,.dtt _ _,h=>by unfold okT at h;cases h
theorem oT:∀(n:Nat) (ts:List T),i9 n ts=true→jv ts ts=true
 | n,[],_=>by simp
 | n,t::ts,h=>by
  simp only[iH,Bool.and_eq_true] at h
  simp[xk n t h.1,oT n ts h.2]
end
theorem oU:∀(xs ys:List Int),jv (xs.map T.int) (ys.map T.int)=(xs==ys)
 | [],[]=>by simp
 | [],y::ys=>by simp
 | x::xs,[]=>by simp
 | x::xs,y::ys=>by simp[oU xs ys]
theorem DO{t u:T}(h1:okT 100 t=true)(h2:okT 100 u=true):fEq t u=some (.bl (eqT t u)):=by
 unfold fEq
 split
 ·simp
 ·rw[if_pos ⟨h1,h2⟩]
theorem yL{t u:T}(h1:okT 100 t=true)(h2:okT 100 u=true):fNe t u=some (.bl (!eqT t u)):=by
 unfold fNe
 split
 ·simp
 ·rw[if_pos ⟨h1,h2⟩]
@[simp] theorem Ho(i j:Int):fEq (.int i) (.int j)=some (.bl (i==j)):=by rw[DO (by simp) (by simp)];simp
@[simp] theorem vh(i j:Int):fNe (.int i) (.int j)=some (.bl (!(i==j))):=by rw[yL (by simp) (by simp)];simp
@[simp] theorem Hq(i j:Str):fEq (.str i) (.str j)=some (.bl (i==j)):=(rfl)
@[simp] theorem Hr(i j:Str):fNe (.str i) (.str j)=some (.bl (!(i==j))):=(rfl)
@[simp] theorem xl(xs ys:List Int):fEq (.lst (xs.map T.int)) (.lst (ys.map T.int))=some (.bl (xs==ys)):=by rw[DO (by simp) (by simp)];simp[oU]
@[simp] theorem qJ(xs ys:List Int):fNe (.lst (xs.map T.int)) (.lst (ys.map T.int))=some (.bl (!(xs==ys))):=by rw[yL (by simp) (by simp)];simp[oU]
def ly:T→Option T
 | .non=>some (.bl true)
 | _=>some (.bl false)
def KJ:T→T→Option T
 | .lst xs,.int i=>atI xs i
 | .tup xs,.int i=>atI xs i
 | .str x,.int i=>if x.length≤szL then (atI x.cps.toList i).map λc=>.str ⟨#[c]⟩ else none
 | _,_=>none
def pick:Sum T Nat→SV
 | .inl t=>.val t
 | .inr k=>.cel k
def gQ(μ:af)(x:SV)(u:T):Option SV:=match x,u with
 | .box xs,.int i=>(atI xs i).map pick
 | .box _,_=>none
 | x,u=>ap1 (λt=>KJ t u) (rd μ x)
def ax(a b:D):D:=λe μ=>(a e μ).bind λx μ1=>(b e μ1).bind λy μ2=>R.lift ((rd μ2 y).bind λu=>gQ μ2 x u) μ2
@[simp] theorem j3(a b:D)(e:Slots)(μ:af):ax a b e μ=(a e μ).bind λx μ1=>(b e μ1).bind λy μ2=>R.lift ((rd μ2 y).bind λu=>gQ μ2 x u) μ2:=(rfl)
@[simp] theorem lA(μ:af)(xs:List T)(i:Int):gQ μ (.val (.lst xs)) (.int i)=(atI xs i).map SV.val:=(rfl)
@[simp] theorem nP(μ:af)(xs:List T)(i:Int):gQ μ (.val (.tup xs)) (.int i)=(atI xs i).map SV.val:=(rfl)
@[simp] theorem DP(μ:af)(xs:List (Sum T Nat))(i:Int):gQ μ (.box xs) (.int i)=(atI xs i).map pick:=(rfl)
@[simp] theorem DQ(μ:af)(k:Nat)(u:T):gQ μ (.cel k) u=ap1 (λt=>KJ t u) (rd μ (.cel k)):=(rfl)
def KL:T→Option T
 | .lst xs=>some (.int xs.length)
 | .tup xs=>some (.int xs.length)
 | .str x=>if x.length≤szL then some (.int x.length) else none
 | .dct kts=>some (.int kts.length)
 | _=>none
def mY(μ:af):SV→Option T
 | .box xs=>some (.int xs.length)
 | x=>(rd μ x).bind KL
def fP(a:D):D:=λe μ=>(a e μ).bind λx μ1=>R.lift ((mY μ1 x).map SV.val) μ1
@[simp] theorem AN(a:D)(e:Slots)(μ:af):fP a e μ=(a e μ).bind λx μ1=>R.lift ((mY μ1 x).map SV.val) μ1:=(rfl)
@[simp] theorem DR(μ:af)(xs:List T):mY μ (.val (.lst xs))=some (.int xs.length):=(rfl)
@[simp] theorem xm(μ:af)(xs:List T):mY μ (.val (.tup xs))=some (.int xs.length):=(rfl)
@[simp] theorem DT(μ:af)(k:Nat):mY μ (.cel k)=(rd μ (.cel k)).bind KL:=(rfl)
inductive Kd where
 | int|bool|str|list|tuple|dict
def isK:Kd→T→Bool
 | .int,.int _=>true
 | .int,.bl _=>true
 | .bool,.bl _=>true
 | .str,.str _=>true
 | .list,.lst _=>true
 | .tuple,.tup _=>true
 | .dict,.dct _=>true
 | .dict,.dtt _ _=>true
 | _,_=>false
def isT(k:Kd):T→Option T
 | .exc _ _=>none
 | .dtt _ _=>none
 | t=>some (.bl (isK k t))
def isS(k:Kd)(μ:af):SV→Option T
 | .box _=>some (.bl (isK k (.tup [])))
 | x=>(rd μ x).bind (isT k)
@[simp] theorem OI(k:Kd)(i:Int):isT k (.int i)=some (.bl (isK k (.int i))):=(rfl)
def dIs(k:Kd)(a:D):D:=λe μ=>(a e μ).bind λx μ1=>R.lift ((isS k μ1 x).map SV.val) μ1
@[simp] theorem qK(k:Kd)(a:D)(e:Slots)(μ:af):dIs k a e μ=(a e μ).bind λx μ1=>R.lift ((isS k μ1 x).map SV.val) μ1:=(rfl)
@[simp] theorem Hs(k:Kd)(μ:af)(t:T):isS k μ (.val t)=isT k t:=(rfl)
@[simp] theorem AO(k:Kd)(μ:af)(j:Nat):isS k μ (.cel j)=(rd μ (.cel j)).bind (isT k):=(rfl)
def b7:T→Option T
 | .lst xs=>some (.tup xs)
 | .tup xs=>some (.tup xs)
 | _=>none
@[simp] theorem j4(xs:List T):b7 (.lst xs)=some (.tup xs):=(rfl)
@[simp] theorem yM(xs:List T):b7 (.tup xs)=some (.tup xs):=(rfl)
def lB:T→Option T
 | .lst xs=>some (.lst xs)
 | .tup xs=>some (.lst xs)
 | _=>none
def vi:Key→T
 | .inl i=>.int i
 | .inr x=>.str x
def xn:T→Option T
 | .dct kts=>some (.lst (kts.map λp=>vi p.1))
 | _=>none
@[simp] theorem BY(xs:List T):lB (.lst xs)=some (.lst xs):=(rfl)
def yN{α:Type}(xs:List α)(lo hi:Option Int):List α:=(xs.drop (sIx xs.length 0 lo)).take (sIx xs.length xs.length hi-sIx xs.length 0 lo)
def lC:T→Option Int
 | .int i=>some i
 | _=>none
@[simp] theorem oV(i:Int):lC (.int i)=some i:=(rfl)
def ed:List T→Option (List Int)
 | []=>some []
 | t::ts=>(lC t).bind λi=>(ed ts).map λis=>i::is
theorem j5(ns:List Int):ed (ns.map T.int)=some ns:=by
 induction ns with
 | nil=>rfl
 | cons n ns ih=>simp[ed,ih]
def qL:T→Option T
 | .lst xs=>(ed xs).map λis=>.int is.sum
 | _=>none
@[simp] theorem BZ(ns:List Int):qL (.lst (ns.map T.int))=some (.int ns.sum):=by simp[qL,j5]
def nQ:List T→Option (List Bool)
 | []=>some []
 | .bl b::ts=>(nQ ts).map λbs=>b::bs
 | _::_=>none
theorem uk(bs:List Bool):nQ (bs.map T.bl)=some bs:=by
 induction bs with
 | nil=>rfl
 | cons n ns ih=>simp[nQ,ih]
def mZ:T→Option T
 | .lst xs=>(nQ xs).map λbs=>.bl (bs.all id)
 | _=>none
def lD:T→Option T
 | .lst xs=>(nQ xs).map λbs=>.bl (bs.any id)
 | _=>none
@[simp] theorem DU(bs:List Bool):mZ (.lst (bs.map T.bl))=some (.bl (bs.all id)):=by simp[mZ,uk]
@[simp] theorem DV(bs:List Bool):lD (.lst (bs.map T.bl))=some (.bl (bs.any id)):=by simp[lD,uk]
def DW:T→Option T
 | .non=>some (.bl false)
 | _=>some (.bl true)
@[simp] theorem L5:ly .non=some (.bl true):=(rfl)
@[simp] theorem B0(i:Int):ly (.int i)=some (.bl false):=(rfl)
@[simp] theorem yO:DW .non=some (.bl false):=(rfl)
@[simp] theorem yP(i:Int):DW (.int i)=some (.bl true):=(rfl)
def qM(f g:T→T→Option T)(a b c:D):D:=λe μ=>(a e μ).bind λx μ1=>(b e μ1).bind λy μ2 =>
 (R.lift (ap2 f (rd μ2 x) (rd μ2 y)) μ2).bind λw μ2=>(R.lift (asB w) μ2).bind λk μ2 =>
 if k=true then (c e μ2).bind λz μ3=>R.lift (ap2 g (rd μ3 y) (rd μ3 z)) μ3 else .ok (.val (.bl false)) μ2
@[simp] theorem L6(f g:T→T→Option T)(a b c:D)(e:Slots)(μ:af):qM f g a b c e μ=(a e μ).bind λx μ1=>(b e μ1).bind λy μ2 =>
 (R.lift (ap2 f (rd μ2 x) (rd μ2 y)) μ2).bind λw μ2=>(R.lift (asB w) μ2).bind λk μ2 =>
 if k=true then (c e μ2).bind λz μ3=>R.lift (ap2 g (rd μ3 y) (rd μ3 z)) μ3 else .ok (.val (.bl false)) μ2:=(rfl)
def KN(t:T)(lo hi:Option Int):Option T:=match t with
 | .lst xs=>some (.lst (yN xs lo hi))
 | .tup xs=>if sIx xs.length 0 lo=0∧sIx xs.length xs.length hi=xs.length then none else some (.tup (yN xs lo hi))
 | _=>none
def yQ(o:Option D)(e:Slots)(μ:af):R (Option Int):=match o with
 | none=>.ok none μ
 | some d=>(d e μ).bind λx μ1=>(R.lift ((rd μ1 x).bind lC) μ1).bind λi μ1=>.ok (some i) μ1
@[simp] theorem um(e:Slots)(μ:af):yQ none e μ=.ok none μ:=(rfl)
@[simp] theorem uo(d:D)(e:Slots)(μ:af):yQ (some d) e μ=(d e μ).bind λx μ1=>(R.lift ((rd μ1 x).bind lC) μ1).bind λi μ1=>.ok (some i) μ1:=(rfl)
def B1(a:D)(lo hi:Option D):D:=λe μ=>(a e μ).bind λx μ1=>(yQ lo e μ1).bind λl μ2=>(yQ hi e μ2).bind λh μ3=>R.lift (ap1 (λt=>KN t l h) (rd μ3 x)) μ3
@[simp] theorem AQ(a:D)(lo hi:Option D)(e:Slots)(μ:af):B1 a lo hi e μ=(a e μ).bind λx μ1=>(yQ lo e μ1).bind λl μ2=>(yQ hi e μ2).bind λh μ3=>R.lift (ap1 (λt=>KN t l h) (rd μ3 x)) μ3:=(rfl)
inductive RS where
 | nx (e:Slots) (μ:af)|rt (x:SV) (μ:af)|bk (e:Slots) (μ:af)|ct (e:Slots) (μ:af)|err (c:T) (e:Slots) (μ:af)|bad
noncomputable abbrev DS := Slots → af → RS
def R.toS{α:Type}(x:R α)(e:Slots)(f:α→af→RS):RS:=match x with
 | .ok a μ=>f a μ
 | .err c μ=>.err c e μ
 | .bad=>.bad
@[simp] theorem R.cp{α:Type}(a:α)(e:Slots)(μ:af)(f:α→af→RS):(R.ok a μ).toS e f=f a μ:=(rfl)
@[simp] theorem R.Ht{α:Type}(c:T)(e:Slots)(μ:af)(f:α→af→RS):(R.err c μ:R α).toS e f=.err c e μ:=(rfl)
def RS.seq(r:RS)(f:Slots→af→RS):RS:=match r with
 | .nx e μ=>f e μ
 | r=>r
@[simp] theorem RS.h_(e:Slots)(μ:af)(f:Slots→af→RS):(RS.nx e μ).seq f=f e μ:=(rfl)
@[simp] theorem RS.KO(x:SV)(μ:af)(f:Slots→af→RS):(RS.rt x μ).seq f=.rt x μ:=(rfl)
def bB:DS:=λe μ=>.nx e μ
def aq(a b:DS):DS:=λe μ=>(a e μ).seq b
def M0(d:D):DS:=λe μ=>(d e μ).toS e λ_ μ1=>.nx e μ1
def ay(i:Nat)(d:D):DS:=λe μ=>(d e μ).toS e λx μ1=>.nx (e.set i (some x)) μ1
def aC(d:D):DS:=λe μ=>(d e μ).toS e λx μ1=>.rt x μ1
def sIf(c:D)(a b:DS):DS:=λe μ=>(c e μ).toS e λx μ1=>(R.lift (asB x) μ1).toS e λk μ1=>if k=true then a e μ1 else b e μ1
def Hu:DS:=λ_ _=>.bad
@[simp] theorem Hv(e:Slots)(μ:af):bB e μ=.nx e μ:=(rfl)
@[simp] theorem gI(a b:DS)(e:Slots)(μ:af):aq a b e μ=(a e μ).seq b:=(rfl)
@[simp] theorem DX(d:D)(e:Slots)(μ:af):M0 d e μ=(d e μ).toS e λ_ μ1=>.nx e μ1:=(rfl)
@[simp] theorem j6(i:Nat)(d:D)(e:Slots)(μ:af):ay i d e μ=(d e μ).toS e λx μ1=>.nx (e.set i (some x)) μ1:=(rfl)
@[simp] theorem vj(d:D)(e:Slots)(μ:af):aC d e μ=(d e μ).toS e λx μ1=>.rt x μ1:=(rfl)
@[simp] theorem yR(c:D)(a b:DS)(e:Slots)(μ:af):sIf c a b e μ=(c e μ).toS e λx μ1=>(R.lift (asB x) μ1).toS e λk μ1=>if k=true then a e μ1 else b e μ1:=(rfl)
def appendAt(x:SV)(t:T)(μ:af):Option af:=match x with
 | .cel k=>match μ[k]? with
  | some (true,.lst ts)=>if ts.length<szL then some (μ.set k (true,.lst (ts++[t]))) else none
  | _=>none
 | _=>none
def nR(x:SV)(μ:af):Option Unit:=match x with
 | .cel k=>match μ[k]? with
  | some (_,.lst _)=>some ()
  | _=>none
 | _=>none
theorem qe{μ:af}{k:Nat}{b:Bool}{ts:List T}(h:μ[k]?=some (b,.lst ts)):nR (.cel k) μ=some ():=by unfold nR;simp only[h]
def bo(o d:D):DS:=λe μ=>(o e μ).toS e λx μ0=>(R.lift (nR x μ0) μ0).toS e λ_ μ0=>(d e μ0).toS e λy μ1=>(frz y μ1).toS e λt μ2=>(R.lift (appendAt x t μ2) μ2).toS e λμ3 _=>.nx e μ3
@[simp] theorem qN(o d:D)(e:Slots)(μ:af):bo o d e μ=(o e μ).toS e λx μ0=>(R.lift (nR x μ0) μ0).toS e λ_ μ0=>(d e μ0).toS e λy μ1=>(frz y μ1).toS e λt μ2=>(R.lift (appendAt x t μ2) μ2).toS e λμ3 _=>.nx e μ3:=(rfl)
def setAt(x:SV)(k:T)(t:T)(μ:af):Option af:=match x,k with
 | .cel c,.int i=>match μ[c]? with
  | some (true,.lst ts)=>(ixN ts.length i).map λj=>μ.set c (true,.lst (ts.set j t))
  | _=>none
 | _,_=>none
def dR(i:Nat)(dk dv:D):DS:=λe μ=>(dv e μ).toS e λy μ1=>(R.lift (slot e i) μ1).toS e λx μ1=>(dk e μ1).toS e λz μ2=>(R.lift (rd μ2 z) μ2).toS e λk μ2 =>
 (frz y μ2).toS e λt μ3=>(R.lift (setAt x k t μ3) μ3).toS e λμ4 _=>.nx e μ4
@[simp] theorem pK(i:Nat)(dk dv:D)(e:Slots)(μ:af):dR i dk dv e μ=(dv e μ).toS e λy μ1=>(R.lift (slot e i) μ1).toS e λx μ1=>(dk e μ1).toS e λz μ2=>(R.lift (rd μ2 z) μ2).toS e λk μ2 =>
 (frz y μ2).toS e λt μ3=>(R.lift (setAt x k t μ3) μ3).toS e λμ4 _=>.nx e μ4:=(rfl)
structure Wk where
 items:List T
 same:af→Prop
noncomputable abbrev DI := Slots → af → R Wk
def bS:T→Option (List T)
 | .lst ts=>some ts
 | .tup ts=>some ts
 | _=>none
@[simp] theorem eK(ts:List T):bS (.lst ts)=some ts:=(rfl)
@[simp] theorem j7(ts:List T):bS (.tup ts)=some ts:=(rfl)
def bX(d:D):DI:=λe μ=>(d e μ).bind λx μ1=>(R.lift ((rd μ1 x).bind bS) μ1).bind λts μ1=>.ok ⟨ts,λμ'=>rd μ' x=rd μ1 x⟩ μ1
@[simp] theorem vk(d:D)(e:Slots)(μ:af):bX d e μ=(d e μ).bind λx μ1=>(R.lift ((rd μ1 x).bind bS) μ1).bind λts μ1=>.ok ⟨ts,λμ'=>rd μ' x=rd μ1 x⟩ μ1:=(rfl)
def bC(lo:Int):Nat→List T
 | 0=>[]
 | n+1=>.int lo::bC (lo+1) n
def d8(j:Int):Bool:=decide (-(2 ^ 62)≤j) && decide (j<2 ^ 62)
@[simp] theorem cN{j:Int}(h0:0≤j)(h1:j≤1000000):d8 j=true:=by
 unfold d8
 rw[decide_eq_true (by lia),decide_eq_true (by lia)];rfl
theorem B2{j:Int}(h:d8 j=true):-(2 ^ 62)≤j∧j<2 ^ 62:=by
 unfold d8 at h
 simp only[Bool.and_eq_true,decide_eq_true_eq] at h
 exact h
def aI(d:D):DI:=λe μ=>(d e μ).bind λx μ1=>(R.lift ((rd μ1 x).bind lC) μ1).bind λj μ1=>if d8 j=true then .ok ⟨bC 0 j.toNat,λ_=>True⟩ μ1 else .bad
def Hw(d d':D):DI:=λe μ=>(d e μ).bind λx μ1=>(d' e μ1).bind λy μ2=>(R.lift ((rd μ2 x).bind lC) μ2).bind λi μ2=>(R.lift ((rd μ2 y).bind lC) μ2).bind λj μ2 =>
 if (d8 i && d8 j)=true then .ok ⟨bC i (j-i).toNat,λ_=>True⟩ μ2 else .bad
@[simp] theorem qO(d:D)(e:Slots)(μ:af):aI d e μ=(d e μ).bind λx μ1=>(R.lift ((rd μ1 x).bind lC) μ1).bind λj μ1=>if d8 j=true then .ok ⟨bC 0 j.toNat,λ_=>True⟩ μ1 else .bad:=(rfl)
@[simp] theorem yS(d d':D)(e:Slots)(μ:af):Hw d d' e μ=(d e μ).bind λx μ1=>(d' e μ1).bind λy μ2=>(R.lift ((rd μ2 x).bind lC) μ2).bind λi μ2=>(R.lift ((rd μ2 y).bind lC) μ2).bind λj μ2 =>
 if (d8 i && d8 j)=true then .ok ⟨bC i (j-i).toNat,λ_=>True⟩ μ2 else .bad:=(rfl)
def jL:List T→List T→List T
 | t::ts,u::us=>.tup [t,u]::jL ts us
 | _,_=>[]
def tG(d d':D):DI:=λe μ=>(d e μ).bind λx μ1=>(d' e μ1).bind λy μ2=>(R.lift ((rd μ2 x).bind bS) μ2).bind λts μ2=>(R.lift ((rd μ2 y).bind bS) μ2).bind λus μ2 =>
 .ok ⟨jL ts us,λμ'=>rd μ' x=rd μ2 x∧rd μ' y=rd μ2 y⟩ μ2
@[simp] theorem Hx(d d':D)(e:Slots)(μ:af):tG d d' e μ=(d e μ).bind λx μ1=>(d' e μ1).bind λy μ2=>(R.lift ((rd μ2 x).bind bS) μ2).bind λts μ2=>(R.lift ((rd μ2 y).bind bS) μ2).bind λus μ2 =>
 .ok ⟨jL ts us,λμ'=>rd μ' x=rd μ2 x∧rd μ' y=rd μ2 y⟩ μ2:=(rfl)
noncomputable abbrev BD := T → Slots → Option Slots
def ar(i:Nat):BD:=λt e=>some (e.set i (some (.val t)))
def ee(is:List Nat):BD:=λt e=>match t with
 | .tup ts=>if ts.length=is.length then some ((is.zip ts).foldl (λe p=>e.set p.1 (some (.val p.2))) e) else none
 | _=>none
@[simp] theorem lE(i:Nat)(t:T)(e:Slots):ar i t e=some (e.set i (some (.val t))):=(rfl)
@[simp] theorem gA(i j:Nat)(t u:T)(e:Slots):ee [i,j] (.tup [t,u]) e=some ((e.set i (some (.val t))).set j (some (.val u))):=(rfl)
open Classical in
def forL(same:af→Prop)(b:BD)(body:DS):List T→Slots→af→RS
 | [],e,μ=>if same μ then .nx e μ else .bad
 | t::ts,e,μ=>if same μ then
   match b t e with
   | none=>.bad
   | some e1=>match body e1 μ with
    | .nx e2 μ2=>forL same b body ts e2 μ2
    | .ct e2 μ2=>forL same b body ts e2 μ2
    | .bk e2 μ2=>.nx e2 μ2
    | r=>r
  else .bad
def cf(it:DI)(b:BD)(body:DS):DS:=λe μ=>(it e μ).toS e λW μ1=>forL W.same b body W.items e μ1
@[simp] theorem mx(it:DI)(b:BD)(body:DS)(e:Slots)(μ:af):cf it b body e μ=(it e μ).toS e λW μ1=>forL W.same b body W.items e μ1:=(rfl)
def cI(c:D)(body:DS):Nat→Slots→af→RS
 | 0,_,_=>.bad
 | n+1,e,μ=>(c e μ).toS e λx μ1=>(R.lift (asB x) μ1).toS e λk μ1=>if k=true then
   match body e μ1 with
   | .nx e2 μ2=>cI c body n e2 μ2
   | .ct e2 μ2=>cI c body n e2 μ2
   | .bk e2 μ2=>.nx e2 μ2
   | r=>r
  else .nx e μ1
open Classical in
def jw(c:D)(body:DS):DS:=λe μ=>if h:∃n,cI c body n e μ≠.bad then cI c body h.choose e μ else .bad
open Classical in
def bN(same:af→Prop)(b:BD)(c:D)(d:D)(e:Slots):List T→af→R (List T)
 | [],μ=>if same μ then .ok [] μ else .bad
 | t::ts,μ=>if same μ then
   match b t e with
   | none=>.bad
   | some e1=>(c e1 μ).calm.bind λx μ1=>(R.lift (asB x) μ1).bind λk μ1 =>
    if k=true then (d e1 μ1).calm.bind λy μ2=>(frz y μ2).bind λu μ3=>(bN same b c d e ts μ3).bind λus μ4=>.ok (u::us) μ4
    else bN same b c d e ts μ1
  else .bad
def ini(mp:List (Option Nat))(e:Slots):Slots:=mp.map λo=>o.bind λj=>slot e j
def aH(it:DI)(mp:List (Option Nat))(b:BD)(c:D)(d:D):D:=λe μ=>(it e μ).bind λW μ1=>(bN W.same b c d (ini mp e) W.items μ1).calm.bind λus μ2 =>
 if W.items.length≤szL then .ok (.val (.lst us)) μ2 else .bad
@[simp] theorem DY(it:DI)(mp:List (Option Nat))(b:BD)(c:D)(d:D)(e:Slots)(μ:af):aH it mp b c d e μ=(it e μ).bind λW μ1=>(bN W.same b c d (ini mp e) W.items μ1).calm.bind λus μ2 =>
 if W.items.length≤szL then .ok (.val (.lst us)) μ2 else .bad:=(rfl)
@[simp] theorem Hy(e:Slots):ini [] e=[]:=(rfl)
@[simp] theorem DZ(mp:List (Option Nat))(e:Slots):ini (none::mp) e=none::ini mp e:=(rfl)
@[simp] theorem D0(j:Nat)(mp:List (Option Nat))(e:Slots):ini (some j::mp) e=slot e j::ini mp e:=(rfl)
def gc(n:Nat)(x:SV)(μ:af):R SV:=match x with
 | .val t=>.ok (.val t) (μ.take n)
 | .cel k=>if k<n then .ok (.cel k) (μ.take n) else match μ[k]? with
  | some c=>.ok (.cel n) (μ.take n++[c])
  | none=>.bad
 | .box _=>.bad
def starts(m:Nat)(xs:List SV):Slots:=xs.map some++List.replicate (m-xs.length) none
def RS.KP(n:Nat):RS→R SV
 | .rt x μ'=>gc n x μ'
 | .nx _ μ'=>gc n (.val .non) μ'
 | .err c _ μ'=>.err c (μ'.take n)
 | _=>.bad
def fnD(m:Nat)(body:DS):FN:=λxs μ=>(body (starts m xs) μ).KP μ.length
def ice(n:Nat)(x:SV)(μ:af):R SV:=(frz x μ).bind λt μ1=>.ok (.val t) (μ1.take n)
def RS.qP(n:Nat):RS→R SV
 | .rt x μ'=>ice n x μ'
 | .nx _ μ'=>ice n (.val .non) μ'
 | .err c _ μ'=>.err c (μ'.take n)
 | _=>.bad
def fnV(m:Nat)(body:DS):FN:=λxs μ=>(body (starts m xs) μ).qP μ.length
def RS.vm:RS→R SV
 | .rt x μ'=>.ok x μ'
 | .nx _ μ'=>.ok (.val .non) μ'
 | .err c _ μ'=>.err c μ'
 | _=>.bad
def fnK(m:Nat)(body:DS):FN:=λxs μ=>(body (starts m xs) μ).vm
@[simp] theorem AR(n:Nat)(x:SV)(μ:af):(RS.rt x μ).qP n=ice n x μ:=(rfl)
@[simp] theorem AS(n:Nat)(x:SV)(μ:af):(RS.rt x μ).KP n=gc n x μ:=(rfl)
@[simp] theorem AU(x:SV)(μ:af):(RS.rt x μ).vm=.ok x μ:=(rfl)
@[simp] theorem fQ(m:Nat)(body:DS)(xs:List SV)(μ:af):fnV m body xs μ=(body (starts m xs) μ).qP μ.length:=(rfl)
@[simp] theorem lF(m:Nat)(body:DS)(xs:List SV)(μ:af):fnD m body xs μ=(body (starts m xs) μ).KP μ.length:=(rfl)
@[simp] theorem lG(m:Nat)(body:DS)(xs:List SV)(μ:af):fnK m body xs μ=(body (starts m xs) μ).vm:=(rfl)
end Fw
namespace Fw
open PySem L2
def ExcAt(K:PySem.W.Frag)(a:Addr)(c:Str)(t:Option Str)(h:Heap):Prop:=∃C,PySem.W.nsIn K mainGlobals c=some (some (.ref C))∧KC a C h
def kvT(kts:List (List Int×Bool)):List (List Key×V):=kts.map λp=>(p.1.map Sum.inl,V.bl p.2)
section
variable(K:PySem.W.Frag)(F:Hp)
mutual
def Rep:T→V→Prop
 | .non,v=>v=.non
 | .bl b,v=>v=.bl b
 | .int i,v=>v=.int i
 | .str x,v=>v=.str x
 | .lst ts,v=>∃a vs,v=.ref a∧SqL K F a vs∧aA ts vs
 | .tup ts,v=>∃a vs,v=.ref a∧SqT K F a vs∧aA ts vs
 | .dct kts,v=>∃a kvs,v=.ref a∧F a=some (.dK kvs)∧bq kts kvs
 | .exc c t,v=>∃a,v=.ref a∧F a=some (.ext (ExcAt K a c t))
 | .dtt fz kts,v=>∃a,v=.ref a∧((fz=false∧F a=some (.dT (kvT kts)))∨(fz=true∧∃o,F a=some (.frz o (.dT (kvT kts)))))
def aA:List T→List V→Prop
 | [],vs=>vs=[]
 | t::ts,vs=>∃v vs',vs=v::vs'∧Rep t v∧aA ts vs'
def bq:List (Key×T)→List (Key×V)→Prop
 | [],kvs=>kvs=[]
 | (k,t)::kts,kvs=>∃v kT,kvs=(k,v)::kT∧Rep t v∧bq kts kT
end
end
theorem aT.jx{K:PySem.W.Frag}{H H':Hp}{a:Addr}{xs:List V}(e:aT H H')(h:SqT K H a xs):SqT K H' a xs:=e _ _ h
section
variable{K:PySem.W.Frag}{F F' H H':Hp}
mutual
theorem Rep.mono(s:aT F F'):∀(t:T) (v:V),Rep K F t v→Rep K F' t v
 | .non,v,h=>by rw[Rep] at h ⊢;exact h
 | .bl b,v,h=>by rw[Rep] at h ⊢;exact h
 | .int i,v,h=>by rw[Rep] at h ⊢;exact h
 | .str x,v,h=>by rw[Rep] at h ⊢;exact h
 | .lst ts,v,h=>by
  rw[Rep] at h ⊢
  obtain⟨a,vs,e,q,r⟩:=h
  exact⟨a,vs,e,s.seq q,aA.mono s ts vs r⟩
 | .tup ts,v,h=>by
  rw[Rep] at h ⊢
  obtain⟨a,vs,e,q,r⟩:=h
  exact⟨a,vs,e,aT.jx s q,aA.mono s ts vs r⟩
 | .dct kts,v,h=>by
  rw[Rep] at h ⊢
  obtain⟨a,vs,e,q,r⟩:=h
  exact⟨a,vs,e,s _ _ q,bq.mono s kts vs r⟩
 | .exc c t,v,h=>by
  rw[Rep] at h ⊢
  obtain⟨a,e,q⟩:=h
  exact⟨a,e,s _ _ q⟩
 | .dtt fz kts,v,h=>by
  rw[Rep] at h ⊢
  obtain⟨a,e,q⟩:=h
  exact⟨a,e,q.elim (λz=>.inl ⟨z.1,s _ _ z.2⟩) λ⟨z,o,y⟩=>.inr ⟨z,o,s _ _ y⟩⟩
theorem aA.mono(s:aT F F'):∀(ts:List T) (vs:List V),aA K F ts vs→aA K F' ts vs
 | [],vs,h=>by rw[aA] at h ⊢;exact h
 | t::ts,vs,h=>by
  rw[aA] at h ⊢
  obtain⟨v,vs',e,q,r⟩:=h
  exact⟨v,vs',e,Rep.mono s t v q,aA.mono s ts vs' r⟩
theorem bq.mono(s:aT F F'):∀(kts:List (Key×T)) (kvs:List (Key×V)),bq K F kts kvs→bq K F' kts kvs
 | [],vs,h=>by rw[bq] at h ⊢;exact h
 | (k,t)::ts,vs,h=>by
  rw[bq] at h ⊢
  obtain⟨v,vs',e,q,r⟩:=h
  exact⟨v,vs',e,Rep.mono s t v q,bq.mono s ts vs' r⟩
end
theorem Rep.j8{i:Int}{v:V}(h:Rep K F (.int i) v):v=.int i:=by rw[Rep] at h;exact h
theorem Rep.gx{i:Bool}{v:V}(h:Rep K F (.bl i) v):v=.bl i:=by rw[Rep] at h;exact h
theorem Rep.m7{i:Str}{v:V}(h:Rep K F (.str i) v):v=.str i:=by rw[Rep] at h;exact h
theorem Rep.j9{v:V}(h:Rep K F .non v):v=.non:=by rw[Rep] at h;exact h
theorem Rep.i_(i:Int):Rep K F (.int i) (.int i):=by rw[Rep]
theorem Rep.bl'(i:Bool):Rep K F (.bl i) (.bl i):=by rw[Rep]
theorem Rep.Hz(i:Str):Rep K F (.str i) (.str i):=by rw[Rep]
theorem Rep.M1:Rep K F .non .non:=by rw[Rep]
theorem aA.length:∀{ts:List T}{vs:List V},aA K F ts vs→ts.length=vs.length
 | [],vs,h=>by rw[aA] at h;subst h;rfl
 | t::ts,vs,h=>by
  rw[aA] at h
  obtain⟨v,vs',rfl,_,r⟩:=h
  rw[List.length_cons,List.length_cons,aA.length r]
theorem aA.get:∀{ts:List T}{vs:List V}{i:Nat}{t:T},aA K F ts vs→ts[i]?=some t→∃v,vs[i]?=some v∧Rep K F t v
 | [],_,_,_,_,e=>by simp at e
 | t::ts,vs,0,t',h,e=>by
  rw[aA] at h
  obtain⟨v,vs',rfl,q,_⟩:=h
  simp at e;subst e
  exact⟨v,rfl,q⟩
 | t::ts,vs,i+1,t',h,e=>by
  rw[aA] at h
  obtain⟨v,vs',rfl,q,r⟩:=h
  obtain⟨v',h1,h2⟩:=aA.get (i:=i) r (by simpa using e)
  exact⟨v',by simpa using h1,h2⟩
theorem aA.append:∀{ts us:List T}{vs ws:List V},aA K F ts vs→aA K F us ws→aA K F (ts++us) (vs++ws)
 | [],us,vs,ws,h,g=>by rw[aA] at h;subst h;exact g
 | t::ts,us,vs,ws,h,g=>by
  rw[aA] at h
  obtain⟨v,vs',rfl,q,r⟩:=h
  rw[List.cons_append,List.cons_append,aA]
  exact⟨v,vs'++ws,rfl,q,r.append g⟩
theorem aA.kU:aA K F [] []:=by rw[aA]
theorem aA.fL{t:T}{v:V}{ts:List T}{vs:List V}(q:Rep K F t v)(r:aA K F ts vs):aA K F (t::ts) (v::vs):=by rw[aA];exact⟨v,vs,rfl,q,r⟩
theorem aA.one{t:T}{v:V}(q:Rep K F t v):aA K F [t] [v]:=.fL q .kU
theorem aA.take:∀{ts:List T}{vs:List V} (n:Nat),aA K F ts vs→aA K F (ts.take n) (vs.take n)
 | _,_,0,_=>by simpa using aA.kU
 | [],vs,n+1,h=>by rw[aA] at h;subst h;simpa using aA.kU
 | t::ts,vs,n+1,h=>by
  rw[aA] at h
  obtain⟨v,vs',rfl,q,r⟩:=h
  exact .fL q (r.take n)
theorem aA.drop:∀{ts:List T}{vs:List V} (n:Nat),aA K F ts vs→aA K F (ts.drop n) (vs.drop n)
 | _,_,0,h=>by simpa using h
 | [],vs,n+1,h=>by rw[aA] at h;subst h;simpa using aA.kU
 | t::ts,vs,n+1,h=>by
  rw[aA] at h
  obtain⟨v,vs',rfl,q,r⟩:=h
  exact r.drop n
theorem aA.set:∀{ts:List T}{vs:List V} (i:Nat) {t:T}{v:V},aA K F ts vs→Rep K F t v→aA K F (ts.set i t) (vs.set i v)
 | [],vs,i,_,_,h,_=>by rw[aA] at h;subst h;simpa using aA.kU
 | t::ts,vs,0,t',v',h,g=>by
  rw[aA] at h
  obtain⟨v,vs',rfl,q,r⟩:=h
  exact .fL g r
 | t::ts,vs,i+1,t',v',h,g=>by
  rw[aA] at h
  obtain⟨v,vs',rfl,q,r⟩:=h
  exact .fL q (r.set i g)
theorem aA.flat{ts:List T}{vs:List V}(h:aA K F ts vs):∀k:Nat,aA K F (List.replicate k ts).flatten (List.replicate k vs).flatten
 | 0=>by simpa using aA.kU
 | k+1=>by
  rw[List.replicate_succ,List.replicate_succ,List.flatten_cons,List.flatten_cons]
  exact h.append (h.flat k)
theorem aA.ints:∀{ts:List T}{vs:List V}{is:List Int},aA K F ts vs→ed ts=some is→vs=is.map V.int
 | [],vs,is,h,e=>by rw[aA] at h;subst h;cases e;rfl
 | t::ts,vs,is,h,e=>by
  rw[aA] at h
  obtain⟨v,vs',rfl,q,r⟩:=h
  unfold ed at e
  cases t with
  | int i =>
   cases e2:ed ts with
   | none=>rw[e2] at e;cases e
   | some js =>
    rw[e2] at e
    cases e
    rw[r.ints e2,q.j8]
    rfl
  | _=>cases e
theorem aA.qf:∀(ns:List Int),aA K F (ns.map T.int) (ns.map V.int)
 | []=>.kU
 | n::ns=>.fL (Rep.i_ n) (aA.qf ns)
def Now(K:PySem.W.Frag)(F H:Hp)(v:V):T→Prop
 | .lst ts=>∃a vs,v=.ref a∧SqL K H a vs∧aA K F ts vs
 | .tup ts=>∃a vs,v=.ref a∧SqT K F a vs∧aA K F ts vs
 | .dct kts=>∃a kvs,v=.ref a∧H a=some (.dK kvs)∧bq K F kts kvs
 | .dtt fz kts=>∃a,v=.ref a∧Rd H a (.dT (kvT kts))
 | t=>Rep K F t v
theorem Now.D1(s:aT F H){t:T}{v:V}(h:Rep K F t v):Now K F H v t:=by
 cases t with
 | lst ts=>rw[Rep] at h;obtain⟨a,vs,e,q,r⟩:=h;exact⟨a,vs,e,s.seq q,r⟩
 | tup ts=>rw[Rep] at h;obtain⟨a,vs,e,q,r⟩:=h;exact⟨a,vs,e,q,r⟩
 | dct ts=>rw[Rep] at h;obtain⟨a,vs,e,q,r⟩:=h;exact⟨a,vs,e,s _ _ q,r⟩
 | dtt fz ts=>rw[Rep] at h;obtain⟨a,e,q⟩:=h;exact⟨a,e,q.elim (λz=>.inl (s _ _ z.2)) λ⟨_,o,y⟩=>.inr ⟨o,s _ _ y⟩⟩
 | _=>exact h
theorem Now.int{i:Int}{v:V}(h:Now K F H v (.int i)):v=.int i:=Rep.j8 (K:=K) (F:=F) h
theorem Now.bl{i:Bool}{v:V}(h:Now K F H v (.bl i)):v=.bl i:=Rep.gx (K:=K) (F:=F) h
theorem Now.str{i:Str}{v:V}(h:Now K F H v (.str i)):v=.str i:=Rep.m7 (K:=K) (F:=F) h
end
def vn(K:PySem.W.Frag)(F:Hp)(α:List Addr)(v:V):Sum T Nat→Prop
 | .inl t=>Rep K F t v
 | .inr k=>∃a,α[k]?=some a∧v=.ref a
def gR(K:PySem.W.Frag)(F:Hp)(α:List Addr)(v:V):SV→Prop
 | .val t=>Rep K F t v
 | .cel k=>∃a,α[k]?=some a∧v=.ref a
 | .box xs=>∃a vs,v=.ref a∧SqT K F a vs∧Paired (vn K F α) vs xs
def iN(K:PySem.W.Frag)(F H:Hp)(a:Addr):T→Prop
 | .lst ts=>∃vs,H a=some (.lst vs)∧aA K F ts vs
 | .dct kts=>∃kvs,H a=some (.dK kvs)∧bq K F kts kvs
 | .dtt fz kts=>fz=false∧H a=some (.dT (kvT kts))
 | _=>False
def Tps(F H:Hp):Prop:=∀b xs,H b=some (.tup xs)→F b=some (.tup xs)
def NT(o:HO):Prop:=∀xs,o≠.tup xs
theorem Tps.upd{F H:Hp}{p:Addr}{o:HO}(h:Tps F H)(n:NT o):Tps F (upd H p o):=λb xs q=>by
 by_cases e:b=p
 ·subst e;rw[aB] at q;cases q;exact absurd rfl (n _)
 ·rw[aE e] at q;exact h _ _ q
theorem Tps.mono{F F' H:Hp}(h:Tps F H)(s:aT F F'):Tps F' H:=λb xs q=>s _ _ (h b xs q)
theorem iN.nt{K:PySem.W.Frag}{F H:Hp}{a:Addr}{t:T}{o:HO}(c:iN K F (upd H a o) a t):NT o:=λxs e=>by
 subst e
 cases t with
 | lst ts=>obtain⟨vs,h1,_⟩:=c;rw[aB] at h1;cases h1
 | dct ts=>obtain⟨vs,h1,_⟩:=c;rw[aB] at h1;cases h1
 | dtt fz ts=>have h1:=c.2;rw[aB] at h1;cases h1
 | _=>exact c.elim
structure du(K:PySem.W.Frag)(F:Hp)(α:List Addr)(μ:af)(H:Hp):Prop where
 ext:aT F H
 len:α.length=μ.length
 nd:α.Nodup
 there:∀(k:Nat) (a:Addr),α[k]?=some a→∃o,H a=some o
 cell:∀(k:Nat) (b:Bool) (t:T) (a:Addr),μ[k]?=some (b,t)→α[k]?=some a→(b=true→F a=none∧iN K F H a t)∧(b=false→Rep K F t (.ref a))
 tps:Tps F H
structure Sim(K:PySem.W.Frag)(F:Hp)(α:List Addr)(e:Slots)(μ:af)(σ:St)(H:Hp):Prop where
 st:du K F α μ H
 sl:∀i x,slot e i=some x→∃v,σ[i]?=some (some v)∧gR K F α v x
 len:e.length=σ.length
section
variable{K:PySem.W.Frag}{F F' F2 H H':Hp}{α α':List Addr}{e:Slots}{μ:af}{σ:St}{v:V}{x:SV}{t:T}
theorem j_{k:Nat}{a:Addr}(p:α <+: α')(h:α[k]?=some a):α'[k]?=some a:=by
 obtain⟨l,rfl⟩:=p
 have hk:k<α.length:=(List.getElem?_eq_some_iff.mp h).1
 rw[List.getElem?_append_left hk];exact h
theorem vn.mono{y:Sum T Nat}(s:aT F F')(p:α <+: α')(h:vn K F α v y):vn K F' α' v y:=by
 cases y with
 | inl t=>exact Rep.mono s t v h
 | inr k=>obtain⟨a,h1,h2⟩:=h;exact⟨a,j_ p h1,h2⟩
theorem gR.mono(s:aT F F')(p:α <+: α')(h:gR K F α v x):gR K F' α' v x:=by
 cases x with
 | val t=>exact Rep.mono s t v h
 | cel k=>obtain⟨a,h1,h2⟩:=h;exact⟨a,j_ p h1,h2⟩
 | box xs=>obtain⟨a,vs,e,q,r⟩:=h;exact⟨a,vs,e,aT.jx s q,Paired.imp' (λ_ _ z=>vn.mono s p z) r⟩
theorem bf(S:du K F α μ H)(h:gR K F α v x)(r:rd μ x=some t):Now K F H v t:=by
 cases x with
 | val u=>cases r;exact Now.D1 S.ext h
 | cel k =>
  obtain⟨a,h1,rfl⟩:=h
  cases q:μ[k]? with
  | none=>simp[rd,q] at r
  | some c =>
   obtain⟨b,u⟩:=c
   simp only[rd,q,Option.map_some] at r
   cases r
   obtain⟨c1,c2⟩:=S.cell k b t a q h1
   cases b with
   | false=>exact Now.D1 S.ext (c2 rfl)
   | true =>
    obtain⟨_,c⟩:=c1 rfl
    cases t with
    | lst ts=>obtain⟨vs,g1,g2⟩:=c;exact⟨a,vs,rfl,SqL.of g1,g2⟩
    | dct ts=>obtain⟨vs,g1,g2⟩:=c;exact⟨a,vs,rfl,g1,g2⟩
    | dtt fz ts=>exact⟨a,rfl,.inl c.2⟩
    | _=>exact c.elim
 | box xs=>cases r
def bL(F H F' H':Hp):Prop:=∀b,(F' b=F b∧H' b=H b)∨(H b=none∧F' b=H' b)
theorem bL.refl:bL F H F H:=λ_=>.inl ⟨rfl,rfl⟩
theorem bL.new{p:Addr}{o:HO}(h:H p=none):bL F H (upd F p o) (upd H p o):=λb=>by
 by_cases e:b=p
 ·subst e;exact .inr ⟨h,by rw[aB,aB]⟩
 ·exact .inl ⟨aE e,aE e⟩
theorem bL.same(g:bL F H F' H')(s:aT F H):aT F F':=λb o h=>by
 rcases g b with ⟨e1,e2⟩|⟨e1,e2⟩
 ·rw[e1];exact h
 ·rw[s b o h] at e1;cases e1
theorem bL.ext(g:bL F H F' H')(s:aT F H):aT F' H':=λb o h=>by
 rcases g b with ⟨e1,e2⟩|⟨e1,e2⟩
 ·rw[e2];rw[e1] at h;exact s b o h
 ·rw[← e2];exact h
theorem iN.grow(g:bL F H F' H')(s:aT F H){a:Addr}(h:iN K F H a t):iN K F' H' a t:=by
 have keep:∀{o:HO},H a=some o→H' a=some o:=λ{o} h=>by
  rcases g a with ⟨e1,e2⟩|⟨e1,e2⟩
  ·rw[e2];exact h
  ·rw[h] at e1;cases e1
 cases t with
 | lst ts=>obtain⟨vs,h1,h2⟩:=h;exact⟨vs,keep h1,aA.mono (g.same s) _ _ h2⟩
 | dct ts=>obtain⟨vs,h1,h2⟩:=h;exact⟨vs,keep h1,bq.mono (g.same s) _ _ h2⟩
 | dtt fz ts=>exact⟨h.1,keep h.2⟩
 | _=>exact h.elim
theorem iN.there{a:Addr}(h:iN K F H a t):∃o,H a=some o:=by
 cases t with
 | lst ts=>obtain⟨vs,h1,h2⟩:=h;exact⟨_,h1⟩
 | dct ts=>obtain⟨vs,h1,h2⟩:=h;exact⟨_,h1⟩
 | dtt fz ts=>exact⟨_,h.2⟩
 | _=>exact h.elim
theorem du.grow(S:du K F α μ H)(g:bL F H F' H'):du K F' α μ H' where
 ext:=g.ext S.ext
 len:=S.len
 nd:=S.nd
 there:=λk a h=>by
  obtain⟨o,ho⟩:=S.there k a h
  rcases g a with ⟨e1,e2⟩|⟨e1,e2⟩
  ·exact⟨o,by rw[e2];exact ho⟩
  ·rw[ho] at e1;cases e1
 cell:=λk b t a h1 h2=>by
  obtain⟨c1,c2⟩:=S.cell k b t a h1 h2
  refine⟨λhb=>?_,λhb=>Rep.mono (g.same S.ext) _ _ (c2 hb)⟩
  obtain⟨d1,d2⟩:=c1 hb
  refine⟨?_,d2.grow g S.ext⟩
  obtain⟨o,ho⟩:=d2.there
  rcases g a with ⟨e1,e2⟩|⟨e1,e2⟩
  ·rw[e1];exact d1
  ·rw[ho] at e1;cases e1
 tps:=λb xs q=>by
  rcases g b with ⟨e1,e2⟩|⟨e1,e2⟩
  ·rw[e1];rw[e2] at q;exact S.tps _ _ q
  ·rw[e2];exact q
theorem Sim.grow(S:Sim K F α e μ σ H)(g:bL F H F' H'):Sim K F' α e μ σ H' where
 st:=S.st.grow g
 sl:=λi x h=>by
  obtain⟨v,h1,h2⟩:=S.sl i x h
  exact⟨v,h1,h2.mono (g.same S.st.ext) (List.prefix_refl _)⟩
 len:=S.len
theorem Sim.of(S:Sim K F α e μ σ H){μ':af}(s:aT F F')(p:α <+: α')(S':du K F' α' μ' H'):Sim K F' α' e μ' σ H' :=
 ⟨S',λi x h=>by
  obtain⟨v,h1,h2⟩:=S.sl i x h
  exact⟨v,h1,h2.mono s p⟩,S.len⟩
theorem nS{k j:Nat}{a:Addr}(n:α.Nodup)(h1:α[k]?=some a)(h2:α[j]?=some a):k=j:=by
 obtain⟨a1,b1⟩:=List.getElem?_eq_some_iff.mp h1
 obtain⟨a2,b2⟩:=List.getElem?_eq_some_iff.mp h2
 exact (List.getElem_inj n).mp (b1.trans b2.symm)
theorem AV{k:Nat}(S:du K F α μ H)(h:∃a,α[k]?=some a∧v=.ref a){μ':af}(r:frz (.cel k) μ=.ok t μ'):∃F',aT F F'∧(∀b,b∉α→F' b=F b)∧du K F' α μ' H∧Rep K F' t v:=by
  obtain⟨a,h1,rfl⟩:=h
  unfold frz at r
  cases q:μ[k]? with
  | none=>simp only[q] at r;cases r
  | some c =>
   obtain⟨b,u⟩:=c
   simp only[q] at r
   cases r
   have hk:k<μ.length:=(List.getElem?_eq_some_iff.mp q).1
   obtain⟨c1,c2⟩:=S.cell k b t a q h1
   have main:∃F',aT F F'∧aT F' H∧Rep K F' t (.ref a)∧∀c,c≠a→F' c=F c:=by
    cases b with
    | false=>exact⟨F,aT.refl F,S.ext,c2 rfl,λ_ _=>rfl⟩
    | true =>
     obtain⟨d1,d2⟩:=c1 rfl
     obtain⟨o,ho⟩:=d2.there
     have s1:aT F (upd F a o):=λc z hz=>by
      rw[aE (λq=>by subst q;rw[d1] at hz;cases hz)];exact hz
     refine⟨upd F a o,s1,λc z hz=>?_,?_,λc hc=>aE hc⟩
     ·by_cases e:c=a
      ·subst e;rw[aB] at hz;cases hz;exact ho
      ·rw[aE e] at hz;exact S.ext c z hz
     ·cases t with
      | lst ts=>obtain⟨vs,g1,g2⟩:=d2;rw[g1] at ho;cases ho;rw[Rep];exact⟨a,vs,rfl,SqL.of aB,aA.mono s1 _ _ g2⟩
      | dct ts=>obtain⟨vs,g1,g2⟩:=d2;rw[g1] at ho;cases ho;rw[Rep];exact⟨a,vs,rfl,aB,bq.mono s1 _ _ g2⟩
      | dtt fz ts=>obtain⟨d4,d3⟩:=d2;rw[d3] at ho;cases ho;rw[Rep];exact⟨a,rfl,.inl ⟨d4,aB⟩⟩
      | _=>exact d2.elim
   obtain⟨F',s1,s2,rp,ne⟩:=main
   refine⟨F',s1,λc hc=>ne c λq=>hc (by rw[q];exact List.mem_of_getElem? h1),⟨s2,by rw[List.length_set];exact S.len,S.nd,S.there,λj b' u' a' g1 g2=>?_,S.tps.mono s1⟩,rp⟩
   by_cases e:j=k
   ·subst e
    rw[List.getElem?_set_self hk] at g1
    cases g1
    rw[h1] at g2;cases g2
    exact⟨λz=>(by cases z),λ_=>rp⟩
   ·rw[List.getElem?_set_ne (Ne.symm e)] at g1
    obtain⟨z1,z2⟩:=S.cell j b' u' a' g1 g2
    have na:a'≠a:=λq=>by subst q;exact e (nS S.nd g2 h1)
    refine⟨λhb=>?_,λhb=>Rep.mono s1 _ _ (z2 hb)⟩
    obtain⟨y1,y2⟩:=z1 hb
    refine⟨by rw[ne _ na];exact y1,?_⟩
    cases u' with
    | lst ts=>obtain⟨vs,w1,w2⟩:=y2;exact⟨vs,w1,aA.mono s1 _ _ w2⟩
    | dct ts=>obtain⟨vs,w1,w2⟩:=y2;exact⟨vs,w1,bq.mono s1 _ _ w2⟩
    | dtt fz ts=>exact y2
    | _=>exact y2.elim
theorem HA(k:Nat)(μ:af):vc (.inr k) μ=frz (.cel k) μ:=by unfold vc frz;rfl
theorem xo:∀{xs:List (Sum T Nat)}{vs:List V}{μ μ':af}{F:Hp}{ts:List T},du K F α μ H→Paired (vn K F α) vs xs→kN xs μ=.ok ts μ'→∃F',aT F F'∧(∀b,b∉α→F' b=F b)∧du K F' α μ' H∧aA K F' ts vs
 | [],vs,μ,μ',F,ts,S,p,r=>by
  cases p
  cases r
  exact⟨F,aT.refl F,λ_ _=>rfl,S,aA.kU⟩
 | x::xs,vs,μ,μ',F,ts,S,p,r=>by
  cases p with
  | @cons v₁ _ vs₁ _ hv p =>
   unfold kN at r
   obtain⟨t,μ1,r1,r⟩:=R.aW r
   obtain⟨ts',μ2,r2,r⟩:=R.aW r
   cases r
   have one:∃F',aT F F'∧(∀b,b∉α→F' b=F b)∧du K F' α μ1 H∧Rep K F' t v₁:=by
    cases x with
    | inl u=>cases r1;exact⟨F,aT.refl F,λ_ _=>rfl,S,hv⟩
    | inr k=>rw[HA] at r1;exact AV S hv r1
   obtain⟨F1,s1,n1,S1,q1⟩:=one
   obtain⟨F2,s2,n2,S2,q2⟩:=xo S1 (Paired.imp' (λ_ _ z=>vn.mono s1 (List.prefix_refl _) z) p) r2
   exact⟨F2,s1.trans s2,λb hb=>(n2 b hb).trans (n1 b hb),S2,.fL (Rep.mono s2 _ _ q1) q2⟩
theorem m8(S:du K F α μ H)(h:gR K F α v x){μ':af}(r:frz x μ=.ok t μ'):∃F',aT F F'∧(∀b,b∉α→F' b=F b)∧du K F' α μ' H∧Rep K F' t v:=by
 cases x with
 | val u=>cases r;exact⟨F,aT.refl F,λ_ _=>rfl,S,h⟩
 | cel k=>exact AV S h r
 | box xs =>
  obtain⟨a,vs,rfl,q,p⟩:=h
  unfold frz at r
  obtain⟨ts,μ1,r1,r⟩:=R.aW r
  cases r
  obtain⟨F1,s1,n1,S1,q1⟩:=xo S p r1
  refine⟨F1,s1,n1,S1,?_⟩
  rw[Rep]
  exact⟨a,vs,rfl,aT.jx s1 q,q1⟩
theorem qg:∀{xs:List SV}{vs:List V}{μ μ':af}{F:Hp}{ts:List T},du K F α μ H→Paired (λv x=>gR K F α v x) vs xs→eQ xs μ=.ok ts μ'→∃F',aT F F'∧(∀b,b∉α→F' b=F b)∧du K F' α μ' H∧aA K F' ts vs
 | [],vs,μ,μ',F,ts,S,p,r=>by
  cases p
  cases r
  exact⟨F,aT.refl F,λ_ _=>rfl,S,aA.kU⟩
 | x::xs,vs,μ,μ',F,ts,S,p,r=>by
  cases p with
  | cons hv p =>
   rw[mw] at r
   obtain⟨t,μ1,r1,r⟩:=R.aW r
   obtain⟨ts',μ2,r2,r⟩:=R.aW r
   cases r
   obtain⟨F1,s1,n1,S1,q1⟩:=m8 S hv r1
   obtain⟨F2,s2,n2,S2,q2⟩:=qg S1 (Paired.imp' (λ_ _ z=>gR.mono s1 (List.prefix_refl _) z) p) r2
   exact⟨F2,s1.trans s2,λb hb=>(n2 b hb).trans (n1 b hb),S2,.fL (Rep.mono s2 _ _ q1) q2⟩
theorem vo(S:du K F α μ H){k:Nat}{a:Addr}{t₀:T}{o:HO}(hk:μ[k]?=some (true,t₀))(ha:α[k]?=some a)(c:iN K F (upd H a o) a t):du K F α (μ.set k (true,t)) (upd H a o):=by
 have hlt:k<μ.length:=(List.getElem?_eq_some_iff.mp hk).1
 have hF:=((S.cell k true t₀ a hk ha).1 rfl).1
 refine⟨λb z hz=>?_,by rw[List.length_set];exact S.len,S.nd,λj b h=>?_,λj b u a' h1 h2=>?_,S.tps.upd c.nt⟩
 ·rw[aE (λq=>by subst q;rw[hF] at hz;cases hz)];exact S.ext b z hz
 ·by_cases e:b=a
  ·subst e;exact⟨o,aB⟩
  ·rw[aE e];exact S.there j b h
 ·by_cases e:j=k
  ·subst e
   rw[List.getElem?_set_self hlt] at h1
   cases h1
   rw[ha] at h2;cases h2
   exact⟨λ_=>⟨hF,c⟩,λz=>(by cases z)⟩
  ·rw[List.getElem?_set_ne (Ne.symm e)] at h1
   have na:a'≠a:=λq=>by subst q;exact e (nS S.nd h2 ha)
   obtain⟨c1,c2⟩:=S.cell j b u a' h1 h2
   refine⟨λhb=>⟨(c1 hb).1,?_⟩,c2⟩
   have d:=(c1 hb).2
   cases u with
   | lst ts=>obtain⟨vs,w1,w2⟩:=d;exact⟨vs,by rw[aE na];exact w1,w2⟩
   | dct ts=>obtain⟨vs,w1,w2⟩:=d;exact⟨vs,by rw[aE na];exact w1,w2⟩
   | dtt fz ts=>exact⟨d.1,(aE na).trans d.2⟩
   | _=>exact d.elim
theorem du.take{β:List Addr}(S:du K F β μ H)(n:Nat):du K F (β.take n) (μ.take n) H:=by
 have cut:∀{γ:Type}{l:List γ}{k:Nat}{z:γ},(l.take n)[k]?=some z→l[k]?=some z:=λ{γ l k z} h=>by
  rw[List.getElem?_take] at h
  split at h
  ·exact h
  ·cases h
 exact⟨S.ext,by rw[List.length_take,List.length_take,S.len],S.nd.sublist (List.take_sublist _ _),λk a h=>S.there k a (cut h),λk b t a h1 h2=>S.cell k b t a (cut h1) (cut h2),S.tps⟩
theorem M3{μ₀:af}{β:List Addr}{r:SV}{μ':af}(hα:α.length=μ₀.length)(p:α <+: β)(S:du K F β μ H)(h:gR K F β v x)(hg:gc μ₀.length x μ=.ok r μ') :
  ∃γ,α <+: γ∧(∀b,b∈γ→b∈β)∧du K F γ μ' H∧gR K F γ v r:=by
 have hn:β.take μ₀.length=α:=by
  rw[← hα]
  obtain⟨l,rfl⟩:=p
  simp
 have hp:α <+: β.take μ₀.length:=by rw[hn];exact List.prefix_refl _
 unfold gc at hg
 cases x with
 | val t =>
  simp only at hg
  cases hg
  exact⟨β.take μ₀.length,hp,λb hb=>List.mem_of_mem_take hb,S.take _,h⟩
 | cel k =>
  obtain⟨a,ha,rfl⟩:=h
  simp only at hg
  by_cases hk:k<μ₀.length
  ·rw[if_pos hk] at hg
   cases hg
   exact⟨β.take μ₀.length,hp,λb hb=>List.mem_of_mem_take hb,S.take _,a,by rw[List.getElem?_take_of_lt hk];exact ha,rfl⟩
  ·rw[if_neg hk] at hg
   cases hc:μ[k]? with
   | none=>rw[hc] at hg;cases hg
   | some c =>
    rw[hc] at hg
    cases hg
    have T:=S.take μ₀.length
    have hl:(β.take μ₀.length).length=μ₀.length:=by rw[hn];exact hα
    have hl2:(μ.take μ₀.length).length=μ₀.length:=by rw[← T.len];exact hl
    have qQ:∀{γ:Type}{l:List γ}{z:γ}{j:Nat}{y:γ},l.length=μ₀.length→(l++[z])[j]?=some y→(j<μ₀.length∧l[j]?=some y)∨(j=μ₀.length∧y=z):=λ{γ l z j y} e h=>by
     by_cases hj:j<l.length
     ·rw[List.getElem?_append_left hj] at h;exact .inl ⟨by lia,h⟩
     ·rw[List.getElem?_append_right (by lia)] at h
      by_cases h0:j-l.length=0
      ·rw[h0] at h;simp at h;exact .inr ⟨by lia,h.symm⟩
      ·rw[List.getElem?_eq_none (by simp;lia)] at h;cases h
    have cut:∀{γ:Type}{l:List γ}{j:Nat}{z:γ},(l.take μ₀.length)[j]?=some z→l[j]?=some z:=λ{γ l j z} h=>by
     rw[List.getElem?_take] at h
     split at h
     ·exact h
     ·cases h
    refine⟨β.take μ₀.length++[a],hp.trans (List.prefix_append _ _),λb hb=>(List.mem_append.mp hb).elim (λz=>List.mem_of_mem_take z) λz=>by simp at z;subst z;exact List.mem_of_getElem? ha,⟨S.ext,by rw[List.length_append,List.length_append,hl,hl2];rfl,?_,λj b g=>?_,λj b u a' g1 g2=>?_,S.tps⟩,a,?_,rfl⟩
    ·rw[List.nodup_append]
     refine⟨T.nd,by simp,λb hb b' hb'=>?_⟩
     simp at hb'
     subst hb'
     intro q
     subst q
     obtain⟨j,hj⟩:=List.mem_iff_getElem?.mp hb
     have hj':j<μ₀.length:=by rw[← hl];exact (List.getElem?_eq_some_iff.mp hj).1
     have:=nS S.nd (cut hj) ha
     lia
    ·rcases qQ hl g with ⟨_,g'⟩|⟨_,rfl⟩
     ·exact T.there j b g'
     ·exact S.there k _ ha
    ·rcases qQ hl g2 with ⟨hj,g'⟩|⟨hj,rfl⟩
     ·rcases qQ hl2 g1 with ⟨_,g1'⟩|⟨hj',_⟩
      ·exact T.cell j b u a' g1' g'
      ·lia
     ·rcases qQ hl2 g1 with ⟨hj',_⟩|⟨_,e⟩
      ·lia
      ·exact S.cell k b u _ (by rw[hc,e]) ha
    ·rw[List.getElem?_append_right (by lia),hl]
     simp
 | box xs=>cases hg
theorem KQ{μ₀:af}{β:List Addr}{r:SV}{μ':af}(hα:α.length=μ₀.length)(p:α <+: β)(S:du K F β μ H)(h:gR K F β v x)(hg:ice μ₀.length x μ=.ok r μ') :
  ∃F',aT F F'∧(∀b,b∉β→F' b=F b)∧du K F' α μ' H∧gR K F' α v r:=by
 unfold ice at hg
 obtain⟨t,μ1,h1,hg⟩:=R.aW hg
 cases hg
 obtain⟨F1,s1,n1,S1,q1⟩:=m8 S h h1
 have hn:β.take μ₀.length=α:=by
  rw[← hα]
  obtain⟨l,rfl⟩:=p
  simp
 have S2:=S1.take μ₀.length
 rw[hn] at S2
 exact⟨F1,s1,n1,S2,q1⟩
end
structure Ex(F:Hp)(α:List Addr)(H F':Hp)(α':List Addr)(H':Hp):Prop where
 same:aT F F'
 pre:α <+: α'
 fr:∀b o,H b=some o→F b=none→b∉α→H' b=some o∧F' b=none∧b∉α'
section
variable{K:PySem.W.Frag}{F F' F1 F2 H H' H1 H2:Hp}{α α' α1 α2:List Addr}{μ μ':af}
theorem Ex.refl:Ex F α H F α H:=⟨aT.refl F,List.prefix_refl _,λ_ _ h1 h2 h3=>⟨h1,h2,h3⟩⟩
theorem Ex.trans(x:Ex F α H F1 α1 H1)(y:Ex F1 α1 H1 F2 α2 H2):Ex F α H F2 α2 H2 :=
 ⟨x.same.trans y.same,x.pre.trans y.pre,λb o h1 h2 h3=>let ⟨g1,g2,g3⟩:=x.fr b o h1 h2 h3;y.fr b o g1 g2 g3⟩
theorem Ex.pL(s:aT F F')(n:∀b,b∉α→F' b=F b):Ex F α H F' α H:=⟨s,List.prefix_refl _,λb o h1 h2 h3=>⟨h1,by rw[n b h3];exact h2,h3⟩⟩
theorem bL.ex(g:bL F H F' H')(s:aT F H):Ex F α H F' α H':=⟨g.same s,List.prefix_refl _,λb o h1 h2 h3=>by
 rcases g b with ⟨e1,e2⟩|⟨e1,e2⟩
 ·exact⟨by rw[e2];exact h1,by rw[e1];exact h2,h3⟩
 ·rw[h1] at e1;cases e1⟩
theorem Ex.was{p:Addr}(x:Ex F α H F1 α1 H1)(S:du K F1 α1 μ H1)(h:H1 p=none):H p=none:=by
 cases q:H p with
 | none=>rfl
 | some o =>
  exfalso
  cases f:F p with
  | some z=>rw[S.ext p z (x.same p z f)] at h;cases h
  | none =>
   by_cases hm:p∈α
   ·obtain⟨k,hk⟩:=List.mem_iff_getElem?.mp hm
    obtain⟨z,hz⟩:=S.there k p (j_ x.pre hk)
    rw[hz] at h;cases h
   ·rw[(x.fr p o q f hm).1] at h;cases h
theorem Ex.lay{p:Addr}{o:HO}(h:H p=none):Ex F α H F α (upd H p o):=⟨aT.refl F,List.prefix_refl _,λb z h1 h2 h3=>⟨by rw[aE (λq=>by subst q;rw[h] at h1;cases h1)];exact h1,h2,h3⟩⟩
theorem Ex.put{k:Nat}{a:Addr}{o:HO}(ha:α[k]?=some a):Ex F α H F α (upd H a o):=⟨aT.refl F,List.prefix_refl _,λb z h1 h2 h3=>⟨by rw[aE (λq=>h3 (by rw[q];exact List.mem_of_getElem? ha))];exact h1,h2,h3⟩⟩
theorem Ex.more{p:Addr}(x:Ex F α H F' α' H')(h:H p=none):Ex F α H F' (α'++[p]) H':=⟨x.same,x.pre.trans (List.prefix_append _ _),λb o h1 h2 h3=>by
 obtain⟨g1,g2,g3⟩:=x.fr b o h1 h2 h3
 refine⟨g1,g2,λhm=>?_⟩
 rcases List.mem_append.mp hm with z|z
 ·exact g3 z
 ·simp at z;subst z;rw[h] at h1;cases h1⟩
theorem Ex.ice{p:Addr}{o:HO}(x:Ex F α H F' α' H')(h:H p=none)(h':F' p=none):Ex F α H (upd F' p o) α' H':=⟨x.same.trans λb z hz=>by
  rw[aE (λq=>by subst q;rw[h'] at hz;cases hz)];exact hz,x.pre,λb z h1 h2 h3=>by
 obtain⟨g1,g2,g3⟩:=x.fr b z h1 h2 h3
 exact⟨g1,by rw[aE (λq=>by subst q;rw[h] at h1;cases h1)];exact g2,g3⟩⟩
end
theorem bq.length{K:PySem.W.Frag}{F:Hp}:∀{ts:List (Key×T)}{vs:List (Key×V)},bq K F ts vs→ts.length=vs.length
 | [],vs,h=>by rw[bq] at h;subst h;rfl
 | (k,t)::ts,vs,h=>by
  rw[bq] at h
  obtain⟨v,vs',rfl,_,r⟩:=h
  rw[List.length_cons,List.length_cons,bq.length r]
def R.wp{α:Type}(r:R α)(Q:α→af→Prop)(E:T→af→Prop):Prop:=match r with
 | .ok a μ=>Q a μ
 | .err c μ=>E c μ
 | .bad=>False
theorem R.wp_bind{α β:Type}{r:R α}{f:α→af→R β}{Q:β→af→Prop}{E:T→af→Prop}(h:(r.bind f).wp Q E):r.wp (λa μ=>(f a μ).wp Q E) E:=by
 cases r<;>exact h
theorem R.wp.mono{α:Type}{r:R α}{Q Q':α→af→Prop}{E E':T→af→Prop}(h:r.wp Q E)(hQ:∀a μ,Q a μ→Q' a μ)(hE:∀c μ,E c μ→E' c μ):r.wp Q' E':=by
 cases r with
 | ok a μ=>exact hQ a μ h
 | err c μ=>exact hE c μ h
 | bad=>exact h
theorem R.bz{α:Type}{o:Option α}{μ:af}{Q:α→af→Prop}{E:T→af→Prop}(h:(R.lift o μ).wp Q E):∃a,o=some a∧Q a μ:=by
 cases o with
 | none=>exact h.elim
 | some a=>exact⟨a,rfl,h⟩
def KR(K:PySem.W.Frag)(F:Hp)(α:List Addr)(H:Hp)(e:Slots)(σ:St)(Q:VK)(x:SV)(μ:af):Prop :=
 ∀v H' F' α',Ex F α H F' α' H'→Sim K F' α' e μ σ H'→gR K F' α' v x→Q v H'
def M4(X:Cx)(pins:List (Addr×Obj))(σ:St)(H:Hp)(c:T)(ev:Value)(s':Shared):Prop :=
 ∃n C,c=.exc n none∧X.mg n=some (.ref C)∧((X.calm=true∧∃s h' e vs,Inv X pins σ H s∧Heap.MadeExcOf s.heap h' e (.ref C) vs∧ev=.ref e∧s'={ s with heap:=h' }) ∨
  (∃H0 s,Inv X pins σ H0 s∧CX1 X.prog X.w X.stack H0 s (λcv _ H'=>cv=.ref C∧H'=H) ev s')∨(X.calm=true∧∃e t B,ev=.ref e∧Hel X pins σ H e t C B s'))
def gy(X:Cx)(F:Hp)(α:List Addr)(H:Hp)(e:Slots)(c:T)(μ:af):Prop :=
 ∀ev s',(∃pins σ' H' F' α',Ex F α H F' α' H'∧Sim X.K F' α' e μ σ' H'∧M4 X pins σ' H' c ev s')→X.xe ev s'
theorem gy.mono{X:Cx}{F F1 H H1:Hp}{α α1:List Addr}{e:Slots}{c:T}{μ:af}(x:Ex F α H F1 α1 H1)(h:gy X F α H e c μ):gy X F1 α1 H1 e c μ :=
 λev s' ⟨pins,σ',H',F',α',y,S,f⟩=>h ev s' ⟨pins,σ',H',F',α',x.trans y,S,f⟩
def tD(X:Cx)(d:D):TE:=λσ H Q=>∃F α e μ,Sim X.K F α e μ σ H∧(d e μ).wp (KR X.K F α H e σ Q) (gy X F α H e)
def tDT(X:Cx)(d:D):TT:=λσ H Q=>∃F α e μ,Sim X.K F α e μ σ H∧(d e μ).wp (λx μ'=>∃b,x=.val (.bl b) ∧
 ∀H' F' α',Ex F α H F' α' H'→Sim X.K F' α' e μ' σ H'→Q b H') (gy X F α H e)
def tDA(X:Cx)(ds:List D):TA:=λσ H Q=>∃F α e μ,Sim X.K F α e μ σ H∧(dQ ds e μ).wp (λxs μ' =>
 ∀vs H' F' α',Ex F α H F' α' H'→Sim X.K F' α' e μ' σ H'→Paired (λv x=>gR X.K F' α' v x) vs xs→Q vs H') (gy X F α H e)
def CE(X:Cx)(e:Expr)(d:D):Prop:=PE X e (tD X d)
def CT(X:Cx)(e:Expr)(d:D):Prop:=PT X e (tDT X d)
def CA(X:Cx)(es:List Expr)(ds:List D):Prop:=PA X es (tDA X ds)
theorem PE.imp{X:Cx}{e:Expr}{t t':TE}(h:PE X e t)(i:∀σ H Q,t' σ H Q→t σ H Q):PE X e t':=λpins s σ H Q I q=>h pins s σ H Q I (i σ H Q q)
theorem PT.imp{X:Cx}{e:Expr}{t t':TT}(h:PT X e t)(i:∀σ H Q,t' σ H Q→t σ H Q):PT X e t':=λpins s σ H Q I q=>h pins s σ H Q I (i σ H Q q)
theorem PA.imp{X:Cx}{e:List Expr}{t t':TA}(h:PA X e t)(i:∀σ H Q,t' σ H Q→t σ H Q):PA X e t':=λpos pins s σ H Q I q=>h pos pins s σ H Q I (i σ H Q q)
theorem PS.imp{X:Cx}{e:Stmt}{t t':TS}(h:PS X e t)(i:∀D σ H,t' D σ H→t D σ H):PS X e t':=λpins s σ H D I q=>h pins s σ H D I (i D σ H q)
theorem PSs.imp{X:Cx}{e:List Stmt}{t t':TS}(h:PSs X e t)(i:∀D σ H,t' D σ H→t D σ H):PSs X e t':=λpins s σ H D I q=>h pins s σ H D I (i D σ H q)
def d9(K:PySem.W.Frag)(r:R2)(f:T→T→Option T):Prop:=∀F H v u t t' w Q,aT F H→Now K F H v t→Now K F H u t'→f t t'=some w →
 (∀v' H' F',bL F H F' H'→Rep K F' w v'→Q v' H')→r v u H Q
def Ji(K:PySem.W.Frag)(r:V→Hp→VK→Prop)(f:T→Option T):Prop:=∀F H v t w Q,aT F H→Now K F H v t→f t=some w →
 (∀v' H' F',bL F H F' H'→Rep K F' w v'→Q v' H')→r v H Q
def qR(K:PySem.W.Frag)(r:List V→Hp→VK→Prop)(f:T→Option T):Prop:=∀F H v t w Q,aT F H→Now K F H v t→f t=some w →
 (∀v' H' F',bL F H F' H'→Rep K F' w v'→Q v' H')→r [v] H Q
def xp(K:PySem.W.Frag)(r:List V→Hp→VK→Prop)(f:T→Option T):Prop:=∀F H v t w Q,aT F H→Now K F H v t→f t=some w →
 (∀p o,H p=none→iN K F (upd H p o) p w→Q (.ref p) (upd H p o))→r [v] H Q
section
variable{X:Cx}{a b c:Expr}{da db dc:D}{pos:Pos}
theorem ae(i:Nat){x:Str}(hN:X.N[i]?=some x:=by rfl)(hv:Vis X.env.scope x:=by first|exact Or.inl rfl|exact Or.inr (Or.inl rfl)|exact Or.inr (Or.inr rfl))(hd:(x==("__debug__":Str))=false:=by decide)
  (hcd:(x==("__classdict__":Str))=false:=by decide):CE X (.Name x pos) (aa i) :=
 PE.imp (uZ hN hv hd hcd) λσ H Q ao=>by
  obtain⟨F,α,e,μ,S,h⟩:=ao
  obtain⟨x,h1,h⟩:=R.bz h
  obtain⟨v,hv,ok⟩:=S.sl i x h1
  exact⟨v,hv,h v H F α Ex.refl S ok⟩
theorem nT{v:V}{t:T}(h:PE X a (tC v))(r:∀F,Rep X.K F t v):CE X a (dC t) :=
 PE.imp h λσ H Q ⟨F,α,e,μ,S,h⟩=>h v H F α Ex.refl S (r F)
theorem ak{i:Int}{j pos}:CE X (.Constant (.int i) j pos) (dC (.int i)):=nT JJ λ_=>Rep.i_ i
theorem kO{i:Bool}{j pos}:CE X (.Constant (.bool i) j pos) (dC (.bl i)):=nT Mq λ_=>Rep.bl' i
theorem kc{i:Str}{j pos}:CE X (.Constant (.str i) j pos) (dC (.str i)):=nT JL λ_=>Rep.Hz i
theorem yT{j pos}:CE X (.Constant .none j pos) (dC .non):=nT JK λ_=>Rep.M1
theorem two{r:R2}{f:T→T→Option T}(hs:d9 X.K r f)(σ:St)(H:Hp)(Q:VK)(h:tD X (ag f da db) σ H Q):tOp r (tD X da) (tD X db) σ H Q:=by
 obtain⟨F,α,e,μ,S,h⟩:=h
 refine⟨F,α,e,μ,S,?_⟩
 refine (R.wp_bind h).mono (λx μ1 h v H1 F1 α1 x1 S1 o1=>⟨F1,α1,e,μ1,S1,?_⟩) λ_ _ h=>h
 refine (R.wp_bind h).mono (λy μ2 h v2 H2 F2 α2 x2 S2 o2=>?_) λ_ _ h=>h.mono x1
 obtain⟨w,h9,post⟩:=R.bz h
 obtain⟨t,u,w',ht,hu,h,rfl⟩:=qD h9
 exact hs F2 H2 v v2 t u w' Q S2.st.ext (bf S2.st (o1.mono x2.same x2.pre) ht) (bf S2.st o2 hu) h λv' H' F' g rp =>
  post v' H' F' α2 (x1.trans (x2.trans (g.ex S2.st.ext))) (S2.grow g) rp
theorem lH{op:Operator}{r:R2}{f:T→T→Option T}(ho:OpR X (binaryOp op) r)(hs:d9 X.K r f)(ha:CE X a da)(hb:CE X b db):CE X (.BinOp a op b pos) (ag f da db) :=
 PE.imp (Jc ho ha hb) (two hs)
theorem yU{op:CmpOp}{r:R2}{f:T→T→Option T}(ho:OpR X (compareOp op) r)(hs:d9 X.K r f)(hm:behindInMarks op b=false)(ha:CE X a da)(hb:CE X b db):CE X (.Compare a [op] [b] pos) (ag f da db) :=
 PE.imp (GW ho ha hb hm) (two hs)
theorem one{r:V→Hp→VK→Prop}{f:T→Option T}(hs:Ji X.K r f)(σ:St)(H:Hp)(Q:VK)(h:tD X (dUn f da) σ H Q):tUn r (tD X da) σ H Q:=by
 obtain⟨F,α,e,μ,S,h⟩:=h
 refine⟨F,α,e,μ,S,?_⟩
 refine (R.wp_bind h).mono (λx μ1 h v H1 F1 α1 x1 S1 o1=>?_) λ_ _ h=>h
 obtain⟨w,h9,post⟩:=R.bz h
 obtain⟨t,w',ht,h,rfl⟩:=mW h9
 exact hs F1 H1 v t w' Q S1.st.ext (bf S1.st o1 ht) h λv' H' F' g rp =>
  post v' H' F' α1 (x1.trans (g.ex S1.st.ext)) (S1.grow g) rp
theorem M5{op:UnaryOp}{r:V→Hp→VK→Prop}{f:T→Option T}(ho:UnR X (unaryOp op) r)(hs:Ji X.K r f)(ha:CE X a da):CE X (.UnaryOp op a pos) (dUn f da):=PE.imp (MB ho ha) (one hs)
theorem aw:CA X [] []:=PA.imp Ds λσ H Q ⟨F,α,e,μ,S,h⟩=>h [] H F α Ex.refl S .nil
theorem ah{es:List Expr}{ds:List D}(ha:CE X a da)(hr:CA X es ds)(hs:starEach (a::es) X.env=(false,eval a X.env)::starEach es X.env:=by rfl):CA X (a::es) (da::ds) :=
 PA.imp (u3 ha hr hs) λσ H Q ao=>by
  obtain⟨F,α,e,μ,S,h⟩:=ao
  rw[bM] at h
  refine⟨F,α,e,μ,S,(R.wp_bind h).mono (λx μ1 h v H1 F1 α1 x1 S1 o1=>⟨F1,α1,e,μ1,S1,?_⟩) λ_ _ h=>h⟩
  refine (R.wp_bind h).mono (λxs μ2 h vs H2 F2 α2 x2 S2 o2=>?_) λ_ _ h=>h.mono x1
  exact h (v::vs) H2 F2 α2 (x1.trans x2) S2 (.cons (o1.mono x2.same x2.pre) o2)
theorem uq:∀{ds:List D}{e:Slots}{μ μ':af}{xs:List SV},dQ ds e μ=.ok xs μ'→xs.length=ds.length
 | [],e,μ,μ',xs,h=>by cases h;rfl
 | d::ds,e,μ,μ',xs,h=>by
  rw[bM] at h
  obtain⟨x,μ1,hx,h⟩:=R.aW h
  obtain⟨ys,μ2,hy,h⟩:=R.aW h
  cases h
  rw[List.length_cons,List.length_cons,uq hy]
theorem fR{ds:List D}{e:Slots}{μ:af}{Q:List SV→af→Prop}{E:T→af→Prop}(h:(dQ ds e μ).wp Q E):(dQ ds e μ).wp (λxs μ'=>xs.length=ds.length∧Q xs μ') E:=by
 cases q:dQ ds e μ with
 | ok xs μ'=>rw[q] at h;exact⟨uq q,h⟩
 | err c μ'=>rw[q] at h;exact h
 | bad=>rw[q] at h;exact h
theorem my{n:Nat}{xs:List SV}{vs:List V}{P:V→SV→Prop}(h:xs.length=n)(o:Paired P vs xs)(hl:n≤1000):vs.length≤sizeLine:=by
 have e1:=o.length
 exact Nat.le_of_lt (BV (by lia))
theorem jy{es:List Expr}{ds:List D}{x1}(h:CA X es ds)(hl:ds.length≤1000:=by decide):CE X (.Tuple es x1 pos) (eU ds) :=
 PE.imp (Dt h) λσ H Q ao=>by
  obtain⟨F,α,e,μ,S,h⟩:=ao
  refine⟨F,α,e,μ,S,(fR (R.wp_bind h)).mono (λxs μ1 dq vs H1 F1 α1 x1 S1 o1=>?_) λ_ _ h=>h⟩
  obtain⟨hn,h⟩:=dq
  have h:=R.wp_bind h
  cases hz:eQ xs μ1 with
  | err c μ2 =>
   exact absurd hz (qc xs μ1 c μ2)
  | bad=>rw[hz] at h;exact h.elim
  | ok ts μ2 =>
   rw[hz] at h
   obtain⟨F2,s2,n2,S2,r2⟩:=qg S1.st o1 hz
   refine⟨my hn o1 hl,λp hp=>?_⟩
   have g:bL F2 H1 (upd F2 p (.tup vs)) (upd H1 p (.tup vs)):=bL.new hp
   refine h _ _ (upd F2 p (.tup vs)) α1 (x1.trans ((Ex.pL s2 n2).trans (g.ex S2.ext))) ((S1.of s2 (List.prefix_refl _) S2).grow g) ?_
   show Rep X.K _ (.tup ts) _
   rw[Rep]
   exact⟨p,vs,rfl,SqT.of aB,aA.mono (g.same S2.ext) _ _ r2⟩
theorem qS{K:PySem.W.Frag}{F:Hp}{α:List Addr}:∀{xs:List SV}{vs:List V}{ys:List (Sum T Nat)},Paired (λv x=>gR K F α v x) vs xs→boxed xs=some ys→Paired (vn K F α) vs ys
 | [],vs,ys,p,h=>by cases p;cases h;exact .nil
 | .val t::xs,vs,ys,p,h=>by
  cases p with
  | cons hv p =>
   obtain⟨zs,h1,rfl⟩:=Option.map_eq_some_iff.mp (show (boxed xs).map _=some ys from h)
   exact .cons hv (qS p h1)
 | .cel t::xs,vs,ys,p,h=>by
  cases p with
  | cons hv p =>
   obtain⟨zs,h1,rfl⟩:=Option.map_eq_some_iff.mp (show (boxed xs).map _=some ys from h)
   exact .cons hv (qS p h1)
 | .box t::xs,vs,ys,p,h=>by cases h
theorem qT{es:List Expr}{ds:List D}{x1}(h:CA X es ds)(hl:ds.length≤1000:=by decide):CE X (.Tuple es x1 pos) (j0 ds) :=
 PE.imp (Dt h) λσ H Q ao=>by
  obtain⟨F,α,e,μ,S,h⟩:=ao
  refine⟨F,α,e,μ,S,(fR (R.wp_bind h)).mono (λxs μ1 dq vs H1 F1 α1 x1 S1 o1=>?_) λ_ _ h=>h⟩
  obtain⟨hn,h⟩:=dq
  obtain⟨ys,hy,h⟩:=R.bz (R.wp_bind h)
  refine⟨my hn o1 hl,λp hp=>?_⟩
  have g:bL F1 H1 (upd F1 p (.tup vs)) (upd H1 p (.tup vs)):=bL.new hp
  refine h _ _ (upd F1 p (.tup vs)) α1 (x1.trans (g.ex S1.st.ext)) (S1.grow g) ?_
  exact⟨p,vs,rfl,SqT.of aB,Paired.imp' (λ_ _ z=>vn.mono (g.same S1.st.ext) (List.prefix_refl _) z) (qS o1 hy)⟩
def tF(X:Cx)(d:D):TE:=λσ H Q=>∃F α e μ,Sim X.K F α e μ σ H∧(d e μ).wp (λx μ'=>∃t,x=.val t ∧
 ∀p H' F' α',Ex F α H F' α' H'→Sim X.K F' α' e μ' σ H'→H p=none→F' p=none→p∉α'→iN X.K F' H' p t→Q (.ref p) H') (gy X F α H e)
def CF(X:Cx)(e:Expr)(d:D):Prop:=PE X e (tF X d)∧∀e μ x μ',d e μ=.ok x μ'→∃t,x=.val t
theorem R.D2{P:SV→af→Prop}{r:R SV}{E:T→af→Prop}(h:r.wp P E):r.wp (λx μ=>r=.ok x μ∧P x μ) E:=by
 cases r with
 | ok a μ=>exact⟨rfl,h⟩
 | err c μ=>exact h
 | bad=>exact h
theorem xq{σ:St}{H:Hp}{Q:VK}(h2:∀e μ x μ',da e μ=.ok x μ'→∃t,x=.val t)(h:tD X da σ H Q):tF X da σ H Q:=by
 obtain⟨F,α,e,μ,S,hd⟩:=h
 refine⟨F,α,e,μ,S,(R.D2 hd).mono (λx μ' ao=>?_) λ_ _ h=>h⟩
 obtain⟨hx,post⟩:=ao
 obtain⟨t,rfl⟩:=h2 e μ x μ' hx
 refine⟨t,rfl,λp H1 F1 α1 x1 S1 h0 hp hn c=>?_⟩
 obtain⟨o,ho⟩:=c.there
 have s2:aT F1 (upd F1 p o):=λb z hz=>by
  rw[aE (λq=>by subst q;rw[hp] at hz;cases hz)];exact hz
 have st:du X.K (upd F1 p o) α1 μ' H1:=by
  refine⟨λb z hz=>?_,S1.st.len,S1.st.nd,S1.st.there,λk b u a' h1 h2=>?_,S1.st.tps.mono s2⟩
  ·by_cases eb:b=p
   ·subst eb;rw[aB] at hz;cases hz;exact ho
   ·rw[aE eb] at hz;exact S1.st.ext b z hz
  ·have na:a'≠p:=λq=>by subst q;exact hn (List.mem_of_getElem? h2)
   obtain⟨c1,c2⟩:=S1.st.cell k b u a' h1 h2
   refine⟨λhb=>⟨by rw[aE na];exact (c1 hb).1,?_⟩,λhb=>Rep.mono s2 _ _ (c2 hb)⟩
   have d2:=(c1 hb).2
   cases u with
   | lst ts=>obtain⟨vs,w1,w2⟩:=d2;exact⟨vs,w1,aA.mono s2 _ _ w2⟩
   | dct ts=>obtain⟨vs,w1,w2⟩:=d2;exact⟨vs,w1,bq.mono s2 _ _ w2⟩
   | dtt fz ts=>exact d2
   | _=>exact d2.elim
 refine post _ _ (upd F1 p o) α1 (x1.ice h0 hp) (S1.of s2 (List.prefix_refl _) st) ?_
 show Rep X.K _ t _
 cases t with
 | lst ts=>obtain⟨vs,w1,w2⟩:=c;rw[w1] at ho;cases ho;rw[Rep];exact⟨p,vs,rfl,SqL.of aB,aA.mono s2 _ _ w2⟩
 | dct ts=>obtain⟨vs,w1,w2⟩:=c;rw[w1] at ho;cases ho;rw[Rep];exact⟨p,vs,rfl,aB,bq.mono s2 _ _ w2⟩
 | dtt fz ts=>obtain⟨d4,d3⟩:=c;rw[d3] at ho;cases ho;rw[Rep];exact⟨p,rfl,.inl ⟨d4,aB⟩⟩
 | _=>exact c.elim
theorem CF.ce(h:CF X a da):CE X a da:=PE.imp h.1 λσ H Q q=>xq h.2 q
theorem B3{σ:St}{H:Hp}{Q:VK}(h2:∀e μ x μ',da e μ=.ok x μ'→∃t,x=.val t)(h:tD X (bp da) σ H Q):tF X da σ H Q:=by
 obtain⟨F,α,e,μ,S,hd⟩:=h
 rw[qF] at hd
 refine⟨F,α,e,μ,S,(R.D2 (R.wp_bind hd)).mono (λx μ1 ao=>?_) λ_ _ h=>h⟩
 obtain⟨hx,post⟩:=ao
 obtain⟨t,rfl⟩:=h2 e μ x μ1 hx
 refine⟨t,rfl,λp H1 F1 α1 x1 S1 h0 hp hn c=>?_⟩
 obtain⟨o,ho⟩:=c.there
 have qQ:∀{k:Nat}{a:Addr},(α1++[p])[k]?=some a→(k<α1.length∧α1[k]?=some a)∨(k=α1.length∧a=p):=λ{k a} h=>by
  by_cases hk:k<α1.length
  ·rw[List.getElem?_append_left hk] at h;exact .inl ⟨hk,h⟩
  ·rw[List.getElem?_append_right (by lia)] at h
   by_cases h0:k-α1.length=0
   ·rw[h0] at h;simp at h;exact .inr ⟨by lia,h.symm⟩
   ·rw[List.getElem?_eq_none (by simp;lia)] at h;cases h
 have st:du X.K F1 (α1++[p]) (μ1++[(true,t)]) H1:=by
  refine⟨S1.st.ext,by simp[S1.st.len],?_,λk a h=>?_,λk b u a h1 h2=>?_,S1.st.tps⟩
  ·rw[List.nodup_append]
   refine⟨S1.st.nd,by simp,λa ha b hb=>?_⟩
   simp at hb
   subst hb
   exact λq=>hn (by rw[← q];exact ha)
  ·rcases qQ h with ⟨_,g⟩|⟨_,rfl⟩
   ·exact S1.st.there k a g
   ·exact⟨o,ho⟩
  ·rcases qQ h2 with ⟨hk,g⟩|⟨hk,rfl⟩
   ·rw[List.getElem?_append_left (by rw[← S1.st.len];exact hk)] at h1
    exact S1.st.cell k b u a h1 g
   ·rw[hk,S1.st.len] at h1
    simp at h1
    obtain⟨rfl,rfl⟩:=h1
    exact⟨λ_=>⟨hp,c⟩,λz=>(by cases z)⟩
 refine post _ _ F1 (α1++[p]) (x1.more h0) (S1.of (aT.refl _) (List.prefix_append _ _) st) ⟨p,?_,rfl⟩
 rw[List.getElem?_append_right (by rw[S1.st.len];exact Nat.le_refl _),S1.st.len]
 simp
theorem CF.cell(h:CF X a da):CE X a (bp da):=PE.imp h.1 λσ H Q q=>B3 h.2 q
theorem cg{K:PySem.W.Frag}{F H:Hp}{α:List Addr}{μ:af}{p:Addr}(S:du K F α μ H)(h:H p=none):p∉α:=λhm=>by
 obtain⟨k,hk⟩:=List.mem_iff_getElem?.mp hm
 obtain⟨o,ho⟩:=S.there k p hk
 rw[h] at ho;cases ho
theorem du.lay{K:PySem.W.Frag}{F H:Hp}{α:List Addr}{μ:af}{p:Addr}{o:HO}(S:du K F α μ H)(h:H p=none)(n:NT o:=by intro _ h;cases h):du K F α μ (upd H p o):=by
 have hup:∀c z,H c=some z→(upd H p o) c=some z:=λc z hz=>by
  rw[aE (λq=>by subst q;rw[h] at hz;cases hz)];exact hz
 refine⟨λa z hz=>hup _ _ (S.ext a z hz),S.len,S.nd,λk a g=>?_,λk b u a h1 h2=>?_,S.tps.upd n⟩
 ·obtain⟨z,hz⟩:=S.there k a g
  exact⟨z,hup _ _ hz⟩
 ·obtain⟨c1,c2⟩:=S.cell k b u a h1 h2
  refine⟨λhb=>⟨(c1 hb).1,?_⟩,c2⟩
  have d2:=(c1 hb).2
  cases u with
  | lst ts=>obtain⟨vs,w1,w2⟩:=d2;exact⟨vs,hup _ _ w1,w2⟩
  | dct ts=>obtain⟨vs,w1,w2⟩:=d2;exact⟨vs,hup _ _ w1,w2⟩
  | dtt fz ts=>exact⟨d2.1,hup _ _ d2.2⟩
  | _=>exact d2.elim
theorem jz{es:List Expr}{ds:List D}(h:CA X es ds)(hl:ds.length≤1000:=by decide):CF X (.List es pos) (eS ds) :=
 ⟨PE.imp (Du h) λσ H Q ao=>by
  obtain⟨F,α,e,μ,S,h⟩:=ao
  refine⟨F,α,e,μ,S,(fR (R.wp_bind h)).mono (λxs μ1 dq vs H1 F1 α1 x1 S1 o1=>?_) λ_ _ h=>h⟩
  obtain⟨hn,h⟩:=dq
  have h:=R.wp_bind h
  cases hz:eQ xs μ1 with
  | err c μ2 =>
   exact absurd hz (qc xs μ1 c μ2)
  | bad=>rw[hz] at h;exact h.elim
  | ok ts μ2 =>
   rw[hz] at h
   obtain⟨t,e1,post⟩:=h
   cases e1
   obtain⟨F2,s2,n2,S2,r2⟩:=qg S1.st o1 hz
   refine⟨my hn o1 hl,λp hp=>?_⟩
   exact post p _ F2 α1 (x1.trans ((Ex.pL s2 n2).trans (Ex.lay hp))) (S1.of s2 (List.prefix_refl _) (S2.lay hp)) (x1.was S1.st hp) (S2.ext.free hp) (cg S2 hp) ⟨vs,aB,r2⟩,
 λe μ x μ' h=>by
  unfold eS at h
  obtain⟨xs,μ1,hx,h⟩:=R.aW h
  obtain⟨ts,μ2,hz,h⟩:=R.aW h
  cases h
  exact⟨_,rfl⟩⟩
theorem AW{f:T→Option T}{e:Slots}{μ μ':af}{x:SV}(h:dUn f da e μ=.ok x μ'):∃t,x=.val t:=by
 unfold dUn at h
 obtain⟨x,μ1,hx,h⟩:=R.aW h
 obtain⟨h9,rfl⟩:=R.mV h
 obtain⟨t,w',ht,h,rfl⟩:=mW h9
 exact⟨_,rfl⟩
theorem ur{σ:St}{H:Hp}{Q:List V→Hp→Prop}(h:tD X da σ H λv H'=>Q [v] H'):tDA X [da] σ H Q:=by
 obtain⟨F,α,e,μ,S,h⟩:=h
 refine⟨F,α,e,μ,S,?_⟩
 rw[bM]
 cases q:da e μ with
 | err c μ1=>rw[q] at h;exact h
 | bad=>rw[q] at h;exact h
 | ok x μ1 =>
  rw[q] at h
  intro vs H1 F1 α1 x1 S1 o1
  cases o1 with
  | cons o1 o2=>cases o2;exact h _ H1 F1 α1 x1 S1 o1
theorem Jj{r:List V→Hp→VK→Prop}{f:T→Option T}(hs:qR X.K r f)(σ:St)(H:Hp)(Q:VK)(h:tD X (dUn f da) σ H Q):tCB r (tDA X [da]) σ H Q :=
 ur (one (r:=λv H Q=>r [v] H Q) hs σ H Q h)
theorem D3{r:List V→Hp→VK→Prop}{f:T→Option T}(hs:xp X.K r f)(σ:St)(H:Hp)(Q:VK)(h:tF X (dUn f da) σ H Q):tCB r (tDA X [da]) σ H Q:=by
 refine ur ?_
 obtain⟨F,α,e,μ,S,h⟩:=h
 refine⟨F,α,e,μ,S,?_⟩
 refine (R.wp_bind h).mono (λx μ1 h v H1 F1 α1 x1 S1 o1=>?_) λ_ _ h=>h
 obtain⟨w,h9,t',e1,post⟩:=R.bz h
 obtain⟨t,w',ht,h,e2⟩:=mW h9
 subst e1
 cases e2
 exact hs F1 H1 _ t _ Q S1.st.ext (bf S1.st o1 ht) h λp o hp c =>
  post p _ F1 α1 (x1.trans (Ex.lay hp)) (S1.of (aT.refl _) (List.prefix_refl _) (S1.st.lay hp c.nt)) (x1.was S1.st hp) (S1.st.ext.free hp) (cg S1.st hp) c
end
theorem yV{x:SV}{k:Bool}(h:asB x=some k):x=.val (.bl k):=by
 cases x with
 | val t=>cases t<;>first|(cases h;rfl)|cases h
 | cel j=>cases h
 | box xs=>cases h
theorem ke{β:Type}{r:R SV}{f:Bool→af→R β}{Q:β→af→Prop}{E:T→af→Prop}(h:(r.bind λy μ1=>(R.lift (asB y) μ1).bind f).wp Q E) :
  r.wp (λx μ=>∃k,x=.val (.bl k)∧(f k μ).wp Q E) E:=(R.wp_bind h).mono (λx μ h=>by
 obtain⟨k,hk,h⟩:=R.bz (R.wp_bind h)
 exact⟨k,yV hk,h⟩) λ_ _ h=>h
def CW(X:Cx)(e:Expr)(d:D):Prop:=PW X e (tDT X d)
theorem PW.imp{X:Cx}{e:Expr}{t t':TT}(h:PW X e t)(i:∀σ H Q,t' σ H Q→t σ H Q):PW X e t':=λwhole pins s σ H Q I q=>h whole pins s σ H Q I (i σ H Q q)
theorem uu{X:Cx}{d:D}{σ:St}{H:Hp}{Q:Bool→Hp→Prop}(h:tDT X d σ H Q):tD X d σ H λx H'=>∃k,x=.bl k∧Q k H':=by
 obtain⟨F,α,e,μ,S,h⟩:=h
 refine⟨F,α,e,μ,S,h.mono (λx μ' ao v H' F' α' y S' o=>?_) λ_ _ h=>h⟩
 obtain⟨b,hb,post⟩:=ao
 subst hb
 exact⟨b,Rep.gx (K:=X.K) (F:=F') o,post H' F' α' y S'⟩
section
variable{X:Cx}{a b c:Expr}{da db dc:D}{pos:Pos}{rest:List Expr}
theorem d5(h:CE X a da)(he:∀whole,isTrue a X.env whole=(do let v ← whole;standAt a.pos;holding [v] (truthy v)):=by intro _;rfl):CT X a da :=
 PT.imp (JM h he) λσ H Q q=>uu q
theorem lI{op:CmpOp}{r:R2}{f:T→T→Option T}(ho:OpR X (compareOp op) r)(hs:d9 X.K r f)(hm:behindInMarks op b=false)(ha:CE X a da)(hb:CE X b db):CT X (.Compare a [op] [b] pos) (ag f da db) :=
 PT.imp (GX ho ha hb hm) λσ H Q q=>two hs σ H _ (uu q)
theorem ia(h:CT X a da):CT X (.UnaryOp .Not a pos) (eR da):=PT.imp (JP h) λσ H Q ao=>by
 obtain⟨F,α,e,μ,S,h⟩:=ao
 refine⟨F,α,e,μ,S,(ke h).mono (λx μ1 ⟨k,hx,b,hb,h⟩=>⟨k,hx,?_⟩) λ_ _ h=>h⟩
 cases hb
 exact h
theorem yW(h:CT X a da):CW X (.BoolOp .And [a] pos) da:=GQ h
theorem gB(h:CT X a da):CW X (.BoolOp .Or [a] pos) da:=JN h
theorem CW.ct(h:CW X a da):CT X a da:=PW.pt h
theorem KS(ha:CT X a da)(hb:CW X (.BoolOp .And (b::rest) pos) db):CW X (.BoolOp .And (a::b::rest) pos) (mX da db) :=
 PW.imp (JO ha hb) λσ H Q ao=>by
  obtain⟨F,α,e,μ,S,h⟩:=ao
  refine⟨F,α,e,μ,S,(ke h).mono (λx μ1 ⟨k,hx,h⟩=>⟨k,hx,λH1 F1 α1 x1 S1=>?_⟩) λ_ _ h=>h⟩
  cases k with
  | true =>
   rw[if_pos rfl] at h ⊢
   exact⟨F1,α1,e,μ1,S1,h.mono (λy μ2 ⟨b,hb,h⟩=>⟨b,hb,λH2 F2 α2 x2 S2=>h H2 F2 α2 (x1.trans x2) S2⟩) λ_ _ h=>h.mono x1⟩
  | false =>
   rw[if_neg Bool.false_ne_true] at h ⊢
   obtain⟨b,hb,h⟩:=h
   cases hb
   exact h H1 F1 α1 x1 S1
theorem nU(ha:CT X a da)(hb:CW X (.BoolOp .Or (b::rest) pos) db):CW X (.BoolOp .Or (a::b::rest) pos) (dOr da db) :=
 PW.imp (Mr ha hb) λσ H Q ao=>by
  obtain⟨F,α,e,μ,S,h⟩:=ao
  refine⟨F,α,e,μ,S,(ke h).mono (λx μ1 ⟨k,hx,h⟩=>⟨k,hx,λH1 F1 α1 x1 S1=>?_⟩) λ_ _ h=>h⟩
  cases k with
  | true =>
   rw[if_pos rfl] at h ⊢
   obtain⟨b,hb,h⟩:=h
   cases hb
   exact h H1 F1 α1 x1 S1
  | false =>
   rw[if_neg Bool.false_ne_true] at h ⊢
   exact⟨F1,α1,e,μ1,S1,h.mono (λy μ2 ⟨b,hb,h⟩=>⟨b,hb,λH2 F2 α2 x2 S2=>h H2 F2 α2 (x1.trans x2) S2⟩) λ_ _ h=>h.mono x1⟩
theorem vp{op}(h:CE X a da):CE X (.BoolOp op [a] pos) da:=JQ h
theorem vq(ha:CE X a da)(hb:CE X (.BoolOp .And (b::rest) pos) db):CE X (.BoolOp .And (a::b::rest) pos) (mX da db) :=
 PE.imp (JR ha hb) λσ H Q ao=>by
  obtain⟨F,α,e,μ,S,h⟩:=ao
  refine⟨F,α,e,μ,S,(ke h).mono (λx μ1 dq v H1 F1 α1 x1 S1 o1=>?_) λ_ _ h=>h⟩
  obtain⟨k,hx,h⟩:=dq
  subst hx
  refine⟨k,Rep.gx (K:=X.K) (F:=F1) o1,?_⟩
  cases k with
  | true =>
   rw[if_pos rfl] at h ⊢
   exact⟨F1,α1,e,μ1,S1,h.mono (λy μ2 h v H2 F2 α2 x2 S2 o2=>h v H2 F2 α2 (x1.trans x2) S2 o2) λ_ _ h=>h.mono x1⟩
  | false =>
   rw[if_neg Bool.false_ne_true] at h ⊢
   exact h _ H1 F1 α1 x1 S1 (Rep.bl' (K:=X.K) (F:=F1) _)
theorem M6(ha:CE X a da)(hb:CE X (.BoolOp .Or (b::rest) pos) db):CE X (.BoolOp .Or (a::b::rest) pos) (dOr da db) :=
 PE.imp (Mu ha hb) λσ H Q ao=>by
  obtain⟨F,α,e,μ,S,h⟩:=ao
  refine⟨F,α,e,μ,S,(ke h).mono (λx μ1 dq v H1 F1 α1 x1 S1 o1=>?_) λ_ _ h=>h⟩
  obtain⟨k,hx,h⟩:=dq
  subst hx
  refine⟨k,Rep.gx (K:=X.K) (F:=F1) o1,?_⟩
  cases k with
  | true =>
   rw[if_pos rfl] at h ⊢
   exact h _ H1 F1 α1 x1 S1 (Rep.bl' (K:=X.K) (F:=F1) _)
  | false =>
   rw[if_neg Bool.false_ne_true] at h ⊢
   exact⟨F1,α1,e,μ1,S1,h.mono (λy μ2 h v H2 F2 α2 x2 S2 o2=>h v H2 F2 α2 (x1.trans x2) S2 o2) λ_ _ h=>h.mono x1⟩
theorem D4(ha:CE X a da):CE X (.UnaryOp .Not a pos) (eR da):=PE.imp (JS ha) λσ H Q ao=>by
 obtain⟨F,α,e,μ,S,h⟩:=ao
 refine⟨F,α,e,μ,S,(ke h).mono (λx μ1 dq v H1 F1 α1 x1 S1 o1=>?_) λ_ _ h=>h⟩
 obtain⟨k,hx,h⟩:=dq
 subst hx
 refine⟨k,Rep.gx (K:=X.K) (F:=F1) o1,?_⟩
 exact h _ H1 F1 α1 x1 S1 (Rep.bl' (K:=X.K) (F:=F1) _)
theorem KU(hc:CT X c dc)(ha:CE X a da)(hb:CE X b db):CE X (.IfExp c a b pos) (DM dc da db) :=
 PE.imp (Df hc ha hb) λσ H Q ao=>by
  obtain⟨F,α,e,μ,S,h⟩:=ao
  refine⟨F,α,e,μ,S,(ke h).mono (λx μ1 ⟨k,hx,h⟩=>⟨k,hx,λH1 F1 α1 x1 S1=>?_⟩) λ_ _ h=>h⟩
  cases k with
  | true =>
   rw[if_pos rfl] at h ⊢
   exact⟨F1,α1,e,μ1,S1,h.mono (λy μ2 h v H2 F2 α2 x2 S2 o2=>h v H2 F2 α2 (x1.trans x2) S2 o2) λ_ _ h=>h.mono x1⟩
  | false =>
   rw[if_neg Bool.false_ne_true] at h ⊢
   exact⟨F1,α1,e,μ1,S1,h.mono (λy μ2 h v H2 F2 α2 x2 S2 o2=>h v H2 F2 α2 (x1.trans x2) S2 o2) λ_ _ h=>h.mono x1⟩
end
def bc(X:Cx)(F:Hp)(α:List Addr)(H:Hp)(D:Ends):RS→Prop
 | .nx e' μ'=>∀σ' H' F' α',Ex F α H F' α' H'→Sim X.K F' α' e' μ' σ' H'→D.nx σ' H'
 | .rt x μ'=>∀v H' F' α',Ex F α H F' α' H'→du X.K F' α' μ' H'→gR X.K F' α' v x→D.rt v H'
 | .bk e' μ'=>∀σ' H' F' α',Ex F α H F' α' H'→Sim X.K F' α' e' μ' σ' H'→D.bk σ' H'
 | .ct e' μ'=>∀σ' H' F' α',Ex F α H F' α' H'→Sim X.K F' α' e' μ' σ' H'→D.ct σ' H'
 | .err c e' μ'=>gy X F α H e' c μ'
 | .bad=>False
theorem bc.mono{X:Cx}{F F' H H':Hp}{α α':List Addr}{D:Ends}{r:RS}(x:Ex F α H F' α' H')(h:bc X F α H D r):bc X F' α' H' D r:=by
 cases r with
 | nx e μ=>exact λσ H F2 α2 x2=>h σ H F2 α2 (x.trans x2)
 | rt y μ=>exact λσ H F2 α2 x2=>h σ H F2 α2 (x.trans x2)
 | bk e μ=>exact λσ H F2 α2 x2=>h σ H F2 α2 (x.trans x2)
 | ct e μ=>exact λσ H F2 α2 x2=>h σ H F2 α2 (x.trans x2)
 | err c e μ=>exact gy.mono x h
 | bad=>exact h
def tDS(X:Cx)(d:DS):TS:=λD σ H=>∃F α e μ,Sim X.K F α e μ σ H∧bc X F α H D (d e μ)
def CS(X:Cx)(st:Stmt)(d:DS):Prop:=PS X st (tDS X d)
def CSs(X:Cx)(st:List Stmt)(d:DS):Prop:=PSs X st (tDS X d)
theorem bc.toS{α':Type}{X:Cx}{F H:Hp}{α:List Addr}{D:Ends}{x:R α'}{e:Slots}{f:α'→af→RS}(h:bc X F α H D (x.toS e f)):x.wp (λa μ=>bc X F α H D (f a μ)) (gy X F α H e):=by
 cases x with
 | ok a μ=>exact h
 | err c μ=>exact h
 | bad=>exact h
theorem bc.lift{α':Type}{X:Cx}{F H:Hp}{α:List Addr}{D:Ends}{o:Option α'}{μ:af}{e:Slots}{f:α'→af→RS}(h:bc X F α H D ((R.lift o μ).toS e f)):∃a,o=some a∧bc X F α H D (f a μ):=R.bz h.toS
theorem bc.asB{X:Cx}{F H:Hp}{α:List Addr}{D:Ends}{x:R SV}{e:Slots}{f:Bool→af→RS}(h:bc X F α H D (x.toS e λy μ1=>(R.lift (Fw.asB y) μ1).toS e f)):x.wp (λy μ1=>∃k,y=.val (.bl k)∧bc X F α H D (f k μ1)) (gy X F α H e) :=
 h.toS.mono (λy μ h=>by
  obtain⟨k,hk,h⟩:=h.lift
  exact⟨k,yV hk,h⟩) λ_ _ h=>h
section
variable{X:Cx}{st:Stmt}{sts:List Stmt}{d d1 d2:DS}{e:Expr}{de:D}{pos:Pos}
theorem bF:CSs X [] bB:=PSs.imp GR λD σ H ⟨F,α,e,μ,S,h⟩=>h σ H F α Ex.refl S
theorem av(h:CS X st d):CSs X [st] d:=GS h
theorem aj(h1:CS X st d1)(h2:CSs X sts d2):CSs X (st::sts) (aq d1 d2):=PSs.imp (Dg h1 h2) λD σ H ao=>by
 obtain⟨F,α,e,μ,S,h⟩:=ao
 refine⟨F,α,e,μ,S,?_⟩
 unfold aq at h
 cases q:d1 e μ with
 | nx e1 μ1 =>
  rw[q] at h
  exact λσ' H' F' α' x S'=>⟨F',α',e1,μ1,S',h.mono x⟩
 | rt x μ1=>rw[q] at h;exact h
 | bk e1 μ1=>rw[q] at h;exact h
 | ct e1 μ1=>rw[q] at h;exact h
 | err c e1 μ1=>rw[q] at h;exact h
 | bad=>rw[q] at h;exact h
theorem aL(he:CE X e de):CS X (.Return (some e) pos) (aC de):=PS.imp (JT he) λD σ H ⟨F,α,e,μ,S,h⟩ =>
 ⟨F,α,e,μ,S,(bc.toS h).mono (λx μ1 h v H1 F1 α1 x1 S1 o1=>h v H1 F1 α1 x1 S1.st o1) λ_ _ h=>h⟩
theorem slot_set{e:Slots}{i j:Nat}{x y:SV}(h:slot (e.set i (some x)) j=some y):(j=i∧y=x)∨slot e j=some y:=by
 unfold slot at h
 by_cases q:i=j
 ·subst q
  by_cases hl:i<e.length
  ·rw[List.getElem?_set_self hl] at h
   cases h
   exact .inl ⟨rfl,rfl⟩
  ·rw[List.getElem?_eq_none (by rw[List.length_set];omega)] at h
   cases h
 ·rw[List.getElem?_set_ne q] at h
  exact .inr h
theorem Sim.set{K:PySem.W.Frag}{F H:Hp}{α:List Addr}{e:Slots}{μ:af}{σ:St}{v:V}{x:SV}{i:Nat}(S:Sim K F α e μ σ H)(o:gR K F α v x):Sim K F α (e.set i (some x)) μ (σ.set i (some v)) H:=by
 refine⟨S.st,λj y h=>?_,by rw[List.length_set,List.length_set,S.len]⟩
 by_cases q:i=j
 ·subst q
  have hl:i<e.length:=by
   unfold slot at h
   by_cases hl:i<e.length
   ·exact hl
   ·rw[List.getElem?_eq_none (by rw[List.length_set];omega)] at h
    cases h
  have hy:y=x:=by
   unfold slot at h
   rw[List.getElem?_set_self hl] at h
   cases h;rfl
  subst hy
  exact⟨v,by rw[List.getElem?_set_self (by rw[← S.len];exact hl)],o⟩
 ·rcases slot_set h with ⟨rfl,_⟩|h
  ·exact absurd rfl q
  ·obtain⟨w,h1,h2⟩:=S.sl j y h
   exact⟨w,by rw[List.getElem?_set_ne q];exact h1,h2⟩
theorem aJ(i:Nat){x:Str}{pos':Pos}(hN:X.N.Nodup)(he:CE X e de)(hi:X.N[i]?=some x:=by rfl)(hx:Loc X.env.scope x:=by first|exact Or.inl rfl|exact Or.inr rfl)(hs:swapsWith e (some (.Name x pos')) pos.line X.env=pure false:=by rfl)
  (hf:X.fn x=true∨X.env.scope.names.lookup x=some .local:=by first|exact .inl rfl|exact .inr rfl|assumption):CS X (.Assign [.Name x pos'] e pos) (ay i de) :=
 PS.imp (JY hN hi hx he hs hf) λD σ H ⟨F,α,e,μ,S,h⟩ =>
  ⟨F,α,e,μ,S,(bc.toS h).mono (λx μ1 h v H1 F1 α1 x1 S1 o1=>h _ H1 F1 α1 x1 (S1.set o1)) λ_ _ h=>h⟩
theorem dw{c:Expr}{as bs:List Stmt}{dc:D}(hc:CT X c dc)(ha:CSs X as d1)(hb:CSs X bs d2):CS X (.If c as bs pos) (sIf dc d1 d2):=PS.imp (Mx hc ha hb) λD σ H ao=>by
 obtain⟨F,α,e,μ,S,h⟩:=ao
 refine⟨F,α,e,μ,S,(bc.asB h).mono (λx μ1 ⟨k,hk,h⟩=>⟨k,hk,λH1 F1 α1 x1 S1=>?_⟩) λ_ _ h=>h⟩
 cases k with
 | true=>exact⟨F1,α1,e,μ1,S1,bc.mono x1 h⟩
 | false=>exact⟨F1,α1,e,μ1,S1,bc.mono x1 h⟩
theorem KW:CS X st Hu:=PS.imp Dh λD σ H ⟨F,α,e,μ,S,h⟩=>h
end
end Fw
namespace Fw
open PySem PySem.Spec PyProof.Rows L2
def KY(K:PySem.W.Frag)(F:Hp)(α:List Addr)(J:It)(W:Wk):Prop:=∀F2 α2 μ2 H2,aT F F2→α <+: α2→du K F2 α2 μ2 H2→W.same μ2 →
 (∀i t,W.items[i]?=some t→J.go i H2∧∀x H3,J.yld i H2 x H3→∃F3,bL F2 H2 F3 H3∧Rep K F3 t x)∧J.stop W.items.length H2
def tDI(X:Cx)(d:DI):TI:=λσ H R=>∃F α e μ,Sim X.K F α e μ σ H∧(d e μ).wp (λW μ' =>
 ∀J H' F' α',Ex F α H F' α' H'→Sim X.K F' α' e μ' σ H'→KY X.K F' α' J W→R J H') (gy X F α H e)
def CI(X:Cx)(tg e:Expr)(d:DI):Prop:=PI X tg e (tDI X d)
theorem PI.imp{X:Cx}{tg e:Expr}{t t':TI}(h:PI X tg e t)(i:∀σ H R,t' σ H R→t σ H R):PI X tg e t':=λpins s σ H R I q=>h pins s σ H R I (i σ H R q)
def M7(K:PySem.W.Frag)(tl:TE):TI:=λσ H R=>tl σ H λx H1=>∃a,x=.ref a∧(((∃xs,SqL K H1 a xs)∧R (Itl K a) H1)∨((∃xs,SqT K H1 a xs)∧R (Itt K a) H1))
section
variable{X:Cx}{tg:Expr}
theorem HB{l:Expr}{tl:TE}(hl:PE X l tl):PI X tg l (M7 X.K tl):=by
 intro pins s σ H R I h
 refine thn (hl pins s σ H _ I h) λv s1 ao=>?_
 obtain⟨x,H1,I1,r1,q1⟩:=ao
 obtain⟨a,e,q⟩:=q1
 subst e
 cases r1
 rcases q with ⟨⟨xs,hq⟩,q⟩|⟨⟨xs,hq⟩,q⟩
 ·obtain⟨its,rv,p,hz⟩:=I1.list hq
  refine wpAny_pyIter_list p.isList ?_
  refine⟨s1.heap.objs.size,[s1.heap.objs.size],_,_,H1,rfl,I1.kept (t':=s1.toks) λb o e=>Heap.get?_push_of_some _ e,BI a _,⟨_,Heap.get?_push_size _ rfl,rfl,rfl⟩,λb hb=>?_,q⟩
  have e:b=s1.heap.objs.size:=by simpa using hb
  subst e
  exact I1.u0 (Nat.le_refl _) (I1.hok.fresh (Nat.le_refl _))
 ·obtain⟨its,rv,p,hz⟩:=I1.tuple hq
  refine wpAny_pyIter_tuple (show s1.heap.IsTuple a its.toArray from p) ?_
  refine⟨s1.heap.objs.size,[s1.heap.objs.size],_,_,H1,rfl,I1.kept (t':=s1.toks) λb o e=>Heap.get?_push_of_some _ e,yr a _,⟨_,Heap.get?_push_size _ rfl,rfl,rfl⟩,λb hb=>?_,q⟩
  have e:b=s1.heap.objs.size:=by simpa using hb
  subst e
  exact I1.u0 (Nat.le_refl _) (I1.hok.fresh (Nat.le_refl _))
theorem dm{a:Expr}{da:D}(h:CE X a da):CI X tg a (bX da):=PI.imp (HB h) λσ H R0 ao=>by
 obtain⟨F,α,e,μ,S,h⟩:=ao
 refine⟨F,α,e,μ,S,(R.wp_bind h).mono (λx μ1 h v H1 F1 α1 x1 S1 o1=>?_) λ_ _ h=>h⟩
 obtain⟨ts,ht,post⟩:=R.bz (R.wp_bind h)
 obtain⟨t,hr,ht⟩:=Option.bind_eq_some_iff.mp ht
 have n1:=bf S1.st o1 hr
 cases t with
 | lst us =>
  cases ht
  obtain⟨a,vs,rfl,hq,hl⟩:=n1
  refine⟨a,rfl,.inl ⟨⟨vs,hq⟩,post _ H1 F1 α1 x1 S1 λF2 α2 μ2 H2 s2 p2 S2 same=>?_⟩⟩
  obtain⟨a',vs',e1,hq2,hl2⟩:=bf S2 (o1.mono s2 p2) ((show rd μ2 x=rd μ1 x from same).trans hr)
  cases e1
  refine⟨λi t hi=>?_,⟨vs',hq2,by rw[← hl2.length];exact Nat.le_refl _⟩⟩
  obtain⟨v,hv,rv⟩:=hl2.get hi
  exact⟨⟨vs',v,hq2,hv⟩,λy H3 dq=>by
   obtain⟨e3,hy⟩:=dq
   subst e3
   have:=hy vs' hq2
   rw[hv] at this;cases this
   exact⟨F2,bL.refl,rv⟩⟩
 | tup us =>
  cases ht
  obtain⟨a,vs,rfl,hq,hl⟩:=n1
  refine⟨a,rfl,.inr ⟨⟨vs,aT.jx S1.st.ext hq⟩,post _ H1 F1 α1 x1 S1 λF2 α2 μ2 H2 s2 p2 S2 same=>?_⟩⟩
  obtain⟨a',vs',e1,hq2,hl2⟩:=bf S2 (o1.mono s2 p2) ((show rd μ2 x=rd μ1 x from same).trans hr)
  have hq2:=aT.jx S2.ext hq2
  cases e1
  refine⟨λi t hi=>?_,⟨vs',hq2,by rw[← hl2.length];exact Nat.le_refl _⟩⟩
  obtain⟨v,hv,rv⟩:=hl2.get hi
  exact⟨⟨vs',v,hq2,hv⟩,λy H3 wV=>by
   obtain⟨e3,hy⟩:=wV
   subst e3
   have:=hy vs' hq2
   rw[hv] at this;cases this
   exact⟨F2,bL.refl,rv⟩⟩
 | _=>cases ht
theorem uv:∀{n:Nat}{lo:Int}{i:Nat}{t:T},(bC lo n)[i]?=some t→i<n∧t=.int (lo+i)
 | 0,lo,i,t,h=>by simp[bC] at h
 | n+1,lo,0,t,h=>by
  simp[bC] at h
  subst h
  exact⟨Nat.succ_pos _,by simp⟩
 | n+1,lo,i+1,t,h=>by
  have h:(bC (lo+1) n)[i]?=some t:=by simpa [bC] using h
  obtain⟨h1,h2⟩:=uv h
  exact⟨Nat.succ_lt_succ h1,by rw[h2];congr 1;omega⟩
theorem nV:∀(n:Nat) (lo:Int),(bC lo n).length=n
 | 0,_=>rfl
 | n+1,lo=>by rw[bC,List.length_cons,nV]
theorem KZ{K:PySem.W.Frag}{F:Hp}{α:List Addr}(lo:Int)(n:Nat):KY K F α (Itr lo n) ⟨bC lo n,λ_=>True⟩:=λF2 α2 μ2 H2 s2 p2 S2 _=>by
 refine⟨λi t hi=>?_,?_⟩
 ·obtain⟨h1,rfl⟩:=uv hi
  exact⟨h1,λx H3 ao=>by obtain⟨e1,e2⟩:=ao;subst e1;subst e2;exact⟨F2,bL.refl,Rep.i_ _⟩⟩
 ·show n≤(bC lo n).length
  rw[nV];exact Nat.le_refl _
theorem xr{t:T}{i:Int}(h:lC t=some i):t=.int i:=by
 cases t<;>first|(cases h;rfl)|cases h
theorem bJ{a:Expr}{da:D}{p pos:Pos}(hm:X.mg "range"=none)(h:CE X a da)(hg:Gl X "range":=by rfl)(hs:starEach [a] X.env=[(false,eval a X.env)]:=by rfl):CI X tg (.Call (.Name "range" p) [a] [] pos) (aI da) :=
 PI.imp (BJ hg hm (ah h aw hs) hs) λσ H R0 ao=>by
  obtain⟨F,α,e,μ,S,h⟩:=ao
  refine ur ⟨F,α,e,μ,S,(R.wp_bind h).mono (λx μ1 h v H1 F1 α1 x1 S1 o1=>?_) λ_ _ h=>h⟩
  obtain⟨j,ht,h⟩:=R.bz (R.wp_bind h)
  obtain⟨t,hr,ht⟩:=Option.bind_eq_some_iff.mp ht
  cases xr ht
  by_cases hb':d8 j=true
  ·rw[if_pos hb'] at h
   have hb:=B2 hb'
   cases (bf S1.st o1 hr).int
   exact⟨j,rfl,hb.1,hb.2,h _ H1 F1 α1 x1 S1 (KZ 0 j.toNat)⟩
  ·rw[if_neg hb'] at h;exact h.elim
theorem M8{da db:D}{σ:L2.St}{H:Hp}{Q:List V→Hp→Prop}(h:∃F α e μ,Sim X.K F α e μ σ H∧(da e μ).wp (λx μ1=>(db e μ1).wp (λy μ2=>∀v u H' F' α',Ex F α H F' α' H'→Sim X.K F' α' e μ2 σ H'→gR X.K F' α' v x→gR X.K F' α' u y→Q [v,u] H') (gy X F α H e)) (gy X F α H e)):tDA X [da,db] σ H Q:=by
 obtain⟨F,α,e,μ,S,h⟩:=h
 refine⟨F,α,e,μ,S,?_⟩
 rw[bM]
 cases q:da e μ with
 | err c μ1=>rw[q] at h;exact h
 | bad=>rw[q] at h;exact h
 | ok x μ1 =>
  rw[q] at h
  rw[R.aZ,bM]
  have h:(db e μ1).wp _ _:=h
  cases q2:db e μ1 with
  | err c μ2=>rw[q2] at h;exact h
  | bad=>rw[q2] at h;exact h
  | ok y μ2 =>
   rw[q2] at h
   intro vs H1 F1 α1 x1 S1 o1
   cases o1 with
   | cons o1 o2 =>
    cases o2 with
    | cons o2 o3=>cases o3;exact h _ _ H1 F1 α1 x1 S1 o1 o2
end
def tBd(K:PySem.W.Frag)(b:BD):TG:=λv σ H Q=>∃F α e μ t e',Sim K F α e μ σ H∧Rep K F t v∧b t e=some e'∧∀σ',Sim K F α e' μ σ' H→Q σ' H
def CB(X:Cx)(tg:Expr)(b:BD):Prop:=PG X tg (tBd X.K b)
theorem PG.imp{X:Cx}{tg:Expr}{t t':TG}(h:PG X tg t)(i:∀v σ H Q,t' v σ H Q→t v σ H Q):PG X tg t':=λpins s σ H v u Q I r q=>h pins s σ H v u Q I r (i v σ H Q q)
section
variable{X:Cx}{pos:Pos}
theorem aQ(i:Nat){x:Str}(hN:X.N.Nodup)(hi:X.N[i]?=some x:=by rfl)(hx:Loc X.env.scope x:=by first|exact Or.inl rfl|exact Or.inr rfl)(hf:X.fn x=true∨X.env.scope.names.lookup x=some .local:=by first|exact .inl rfl|exact .inr rfl|assumption) :
  CB X (.Name x pos) (ar i):=PG.imp (mv hN hi hx hf) λv σ H Q ao=>by
 obtain⟨F,α,e,μ,t,e',S,r,hb,q⟩:=ao
 cases hb
 exact q _ (S.set (x:=.val t) r)
theorem mz(i j:Nat){x y:Str}{px py:Pos}{k:Nat}(hN:X.N.Nodup)(hc:X.calm=true)(hi:X.N[i]?=some x:=by rfl)(hj:X.N[j]?=some y:=by rfl)(hx:Loc X.env.scope x:=by first|exact Or.inl rfl|exact Or.inr rfl)
  (hy:Loc X.env.scope y:=by first|exact Or.inl rfl|exact Or.inr rfl)
  (hf:X.fn x=true∨X.env.scope.names.lookup x=some .local:=by first|exact .inl rfl|exact .inr rfl|assumption) (hf':X.fn y=true∨X.env.scope.names.lookup y=some .local:=by first|exact .inl rfl|exact .inr rfl|assumption)
  : CB X (.Tuple [.Name x px,.Name y py] k pos) (ee [i,j]) :=
 PG.imp (Dj hc (kX (mv hN hi hx hf) (kX (mv hN hj hy hf') Ay))) λv σ H Q ao=>by
  obtain⟨F,α,e,μ,t,e',S,r,hb,q⟩:=ao
  cases t with
  | tup ts =>
   unfold ee at hb
   simp only at hb
   by_cases hl:ts.length=[i,j].length
   ·rw[if_pos hl] at hb
    rw[Rep] at r
    obtain⟨a,vs,rfl,hq,hr⟩:=r
    match ts,vs,hl,hr with
    | [t1,t2],vs,_,hr =>
     rw[aA] at hr
     obtain⟨v1,vs1,rfl,r1,hr⟩:=hr
     rw[aA] at hr
     obtain⟨v2,vs2,rfl,r2,hr⟩:=hr
     rw[aA] at hr
     subst hr
     cases hb
     exact⟨a,_,rfl,aT.jx S.st.ext hq,rfl,v1,[v2],rfl,v2,[],rfl,rfl,q _ ((S.set (x:=.val t1) r1).set (x:=.val t2) r2)⟩
   ·rw[if_neg hl] at hb;cases hb
  | _=>cases hb
end
section
variable{X:Cx}{tg iter c:Expr}{body:List Stmt}{di:DI}{b:BD}{d:DS}{dc:D}{pos:Pos}
theorem fI(hp:PassesOwn (model X.prog X.w) X.A X.env X.xe)(hc:X.calm=true)(hi:CI X tg iter di)(hg:CB X tg b)(hb:CSs X body d)(hs:∀x,foldedSetIterable iter X.env x=pure x:=by intro _;rfl) :
  CS X (.For tg iter body [] pos) (cf di b d):=PS.imp (J0 hp hc hi hg hb hs) λD σ H ao=>by
 obtain⟨F,α,e,μ,S,h⟩:=ao
 refine⟨F,α,e,μ,S,(bc.toS h).mono (λW μ1 h J H1 F1 α1 x1 S1 ok=>?_) λ_ _ h=>h⟩
 refine⟨λi m σ H=>m=W.items.length-i∧i≤W.items.length∧∃F2 α2 e2 μ2,aT F1 F2∧α1 <+: α2∧Sim X.K F2 α2 e2 μ2 σ H∧bc X F2 α2 H D (forL W.same b d (W.items.drop i) e2 μ2),
  ⟨_,rfl,Nat.zero_le _,F1,α1,e,μ1,aT.refl _,List.prefix_refl _,S1,bc.mono x1 h⟩,?_⟩
 rintro i m σ2 H2 ⟨rfl,hi,F2,α2,e2,μ2,s2,p2,S2,h⟩
 by_cases hlt:i<W.items.length
 ·rw[List.drop_eq_getElem_cons hlt] at h
  unfold forL at h
  by_cases hs:W.same μ2
  ·rw[if_pos hs] at h
   obtain⟨g1,g2⟩:=ok F2 α2 μ2 H2 s2 p2 S2.st hs
   obtain⟨go,yl⟩:=g1 i W.items[i] (by simp[hlt])
   cases hb':b W.items[i] e2 with
   | none=>simp only[hb'] at h;exact h.elim
   | some e3 =>
    simp only[hb'] at h
    refine .inr ⟨go,λσ' H'=>∃F4 α4 e4 μ4,aT F1 F4∧α1 <+: α4∧Sim X.K F4 α4 e4 μ4 σ' H'∧bc X F4 α4 H' D (forL W.same b d (W.items.drop (i+1)) e4 μ4),
     λσ' H' q=>⟨W.items.length-(i+1),by omega,rfl,hlt,q⟩,λx H3 y=>?_⟩
    obtain⟨F3,gr,rp⟩:=yl x H3 y
    have x3:Ex F2 α2 H2 F3 α2 H3:=gr.ex S2.st.ext
    refine⟨F3,α2,e2,μ2,W.items[i],e3,S2.grow gr,rp,hb',λσ4 S4=>⟨F3,α2,e3,μ2,S4,?_⟩⟩
    cases q:d e3 μ2 with
    | nx e5 μ5 =>
     simp only[q] at h
     exact λσ' H' F' α' x S'=>⟨F',α',e5,μ5,s2.trans (x3.same.trans x.same),p2.trans x.pre,S',bc.mono (x3.trans x) h⟩
    | ct e5 μ5 =>
     simp only[q] at h
     exact λσ' H' F' α' x S'=>⟨F',α',e5,μ5,s2.trans (x3.same.trans x.same),p2.trans x.pre,S',bc.mono (x3.trans x) h⟩
    | bk e5 μ5 =>
     simp only[q] at h
     exact λσ' H' F' α' x S'=>h σ' H' F' α' (x3.trans x) S'
    | rt x μ5 =>
     simp only[q] at h
     exact λv H' F' α' x S'=>h v H' F' α' (x3.trans x) S'
    | err c e5 μ5=>simp only[q] at h;exact gy.mono x3 h
    | bad=>simp only[q] at h;exact h
  ·rw[if_neg hs] at h;exact h.elim
 ·have e1:i=W.items.length:=by omega
  subst e1
  rw[List.drop_length] at h
  unfold forL at h
  by_cases hs:W.same μ2
  ·rw[if_pos hs] at h
   obtain⟨g1,g2⟩:=ok F2 α2 μ2 H2 s2 p2 S2.st hs
   exact .inl ⟨g2,h σ2 H2 F2 α2 Ex.refl S2⟩
  ·rw[if_neg hs] at h;exact h.elim
theorem xt(hp:PassesOwn (model X.prog X.w) X.A X.env X.xe)(hc:CT X c dc)(hb:CSs X body d):CS X (.While c body [] pos) (jw dc d):=PS.imp (Dl hp hc hb) λD σ H ao=>by
 obtain⟨F,α,e,μ,S,h⟩:=ao
 unfold jw at h
 by_cases hn:∃n,cI dc d n e μ≠.bad
 ·rw[dif_pos hn] at h
  refine⟨λm σ H=>∃F2 α2 e2 μ2,Sim X.K F2 α2 e2 μ2 σ H∧bc X F2 α2 H D (cI dc d m e2 μ2),⟨_,F,α,e,μ,S,h⟩,?_⟩
  rintro m σ H ⟨F2,α2,e2,μ2,S2,h⟩
  cases m with
  | zero=>exact h.elim
  | succ m =>
   unfold cI at h
   refine⟨F2,α2,e2,μ2,S2,(bc.asB h).mono (λx μ3 ⟨k,hx,h⟩=>⟨k,hx,λH3 F3 α3 x3 S3=>?_⟩) λ_ _ h=>h⟩
   cases k with
   | false =>
    rw[if_neg Bool.false_ne_true] at h ⊢
    exact h σ H3 F3 α3 x3 S3
   | true =>
    rw[if_pos rfl] at h ⊢
    refine⟨λσ' H'=>∃F4 α4 e4 μ4,Sim X.K F4 α4 e4 μ4 σ' H'∧bc X F4 α4 H' D (cI dc d m e4 μ4),λσ' H' q=>⟨m,Nat.lt_succ_self m,q⟩,F3,α3,e2,μ3,S3,?_⟩
    cases q:d e2 μ3 with
    | nx e5 μ5 =>
     rw[q] at h
     exact λσ' H' F' α' x S'=>⟨F',α',e5,μ5,S',bc.mono (x3.trans x) h⟩
    | ct e5 μ5 =>
     rw[q] at h
     exact λσ' H' F' α' x S'=>⟨F',α',e5,μ5,S',bc.mono (x3.trans x) h⟩
    | bk e5 μ5 =>
     rw[q] at h
     exact λσ' H' F' α' x S'=>h σ' H' F' α' (x3.trans x) S'
    | rt x μ5 =>
     rw[q] at h
     exact λσ' H' F' α' x S'=>h σ' H' F' α' (x3.trans x) S'
    | err c e5 μ5=>rw[q] at h;exact gy.mono x3 h
    | bad=>rw[q] at h;exact h
 ·rw[dif_neg hn] at h;exact h.elim
end
end Fw
namespace L2
open PySem PySem.Spec PyProof.Rows
theorem vt{prog:Program}{w:World}{A:Around}{R:Result→Shared→Prop}{s:Shared}{elt target iter:Expr}{ifs:List Expr}{scope:Scope}{pos:Pos}{it acc:Value}{env:Env}(I:Nat→Shared→Prop)
  (turn:∀n s,I n s→wpAny (model prog w) A (pyNext it) (λr s₁=>match r with
   | none=>R (.ok .next) s₁
   | some v=>wpAny (model prog w) A (letOwnedTupleGo target it v) (λ_ s₁'=>wpAny (model prog w) A (assign target env v) (λ_ s₂ =>
     wpAny (model prog w) A (forIn ifs true λc r=>if r=true then do let ok ← isTrue c env (eval c env);pure (ForInStep.yield ok) else pure (ForInStep.yield r)) (λok s₃ =>
      if ok=true then wpAny (model prog w) A (eval elt env) (λx s₄ =>
       wpAny (model prog w) A (call (.builtin "list.append") [acc,x]) (λ_ s₅=>∃m,m<n∧I m s₅) (λ_ _=>False) s₄) (λ_ _=>False) s₃
      else ∃m,m<n∧I m s₃) (λ_ _=>False) s₂) (λ_ _=>False) s₁') (λ_ _=>False) s₁) (λ_ _=>False) s)
  (n:Nat) (h:I n s):codeAny (model prog w) A (.compLoop (.ListComp elt [⟨target,iter,ifs,0⟩] scope pos) 0 it acc env) R s:=by
 have no:∀{α:Type}{t:Sem α}{Q:α→Shared→Prop}{E:Value→Shared→Prop}{s:Shared},wpAny (model prog w) A t Q (λ_ _=>False) s→wpAny (model prog w) A t Q E s:=λh=>wpAny_mono h (λ_ _ x=>x) λ_ _ x=>x.elim
 refine codeAny_loop rfl I (λn s hI=>?_) n h
 show wpAny _ A ((compTurn (.ListComp elt [⟨target,iter,ifs,0⟩] scope pos) 0 it acc env).onRaise (λx=>do noteFrame x env;theTreesLotGoes x)) _ _ s
 refine wpAny_noted ?_
 rw[compTurn_list]
 refine wpAny_bind (wpAny_standAt (wpAny_bind (wpAny_mono (no (turn n s hI)) (λr s₁ h₁=>?_) λ_ _ h'=>h')))
 cases r with
 | none=>exact wpAny_pure h₁
 | some v =>
  refine wpAny_bind (wpAny_mono (no h₁) (λ_ s₁' h₁'=>?_) λ_ _ h'=>h')
  refine wpAny_bind (wpAny_mono (no h₁') (λ_ s₂ h₂=>wpAny_bind (wpAny_mono (no h₂) (λok s₃ h₃=>?_) λ_ _ h'=>h')) λ_ _ h'=>h')
  cases ok with
  | false=>exact wpAny_pure ⟨rfl,h₃⟩
  | true =>
   exact wpAny_bind (wpAny_bind (wpAny_mono (no h₃) (λx s₄ h₄=>wpAny_bind (wpAny_mono (no h₄) (λ_ s₅ h₅=>wpAny_pure (wpAny_pure ⟨rfl,h₅⟩)) λ_ _ h'=>h')) λ_ _ h'=>h'))
def cj(X:Cx)(N':List Str)(scope:Scope)(cl:List (Str×Addr))(C:Addr)(s₀:Shared)(H₀:Hp)(ex:List Addr):Cx :=
 { X with N:=N',s₀:=s₀,H₀:=H₀,env:=compEnvC scope cl C X.env,outer:=X.stack,stack:=X.stack,ex:=ex,fn:=λx=>(scope.names.lookup x==some NameKind.cell),pn:=[],xe:=λ_ _=>False }
def mK(X:Cx)(ifs:List Expr)(t:TT):Prop :=
 ∀(pins:List (Addr×Obj)) (s:Shared) (σ:St) (H:Hp) (Q:Bool→Hp→Prop),Inv X pins σ H s→t σ H Q →
  wpAny (model X.prog X.w) X.A (forIn ifs true λc r=>if r=true then do let ok ← isTrue c X.env (eval c X.env);pure (ForInStep.yield ok) else pure (ForInStep.yield r)) (TP X pins σ Q) X.xe s
theorem D5{X:Cx}:mK X [] (λ_ H Q=>Q true H):=λ_ _ _ H _ I h=>wpAny_tests_nil ⟨H,I,h⟩
theorem D6{X:Cx}{c:Expr}{t:TT}(h:PT X c t):mK X [c] t:=λpins s σ H Q I q=>wpAny_tests_one (h pins s σ H Q I q)
def tH(mp:List (Option Nat))(σ:St):St:=mp.map λo=>o.bind λj=>(σ[j]?).bind id
structure fM(X:Cx)(N':List Str)(scope:Scope)(mp:List (Option Nat)):Prop where
 kind:scope.kind=.function
 cells:(scope.names.filter λy=>y.2==NameKind.cell).length≤1
 nd:(scope.names.map (·.1)).Nodup
 loc:∀x∈scope.names,x.2=.local→scope.names.lookup x.1=some .local
 free:∀y∈scope.names,y.2=.free→X.env.kindOf y.1=some .cell∨X.env.kindOf y.1=some .free
 len:mp.length=N'.length
 M9:∀(i j:Nat),mp[i]?=some (some j)→∃x,N'[i]?=some x∧X.N[j]?=some x∧(x,NameKind.free)∈scope.names∧(X.env.scope.names.lookup x=some .cell∨X.env.scope.names.lookup x=some .free)
 seen:∀x,(x,NameKind.free)∈scope.names→(relabel scope X.env).names.lookup x=some .cell∨(relabel scope X.env).names.lookup x=some .free
 back:∀x,(relabel scope X.env).names.lookup x=some .cell∨(relabel scope X.env).names.lookup x=some .free→(x,NameKind.free)∈scope.names∨scope.names.lookup x=some .cell
inductive HC(names:List (Str×NameKind))(n:Nat)(h:Heap)(acc:List (Str×Addr)):Prop where
 | no (h0:∀x,names.lookup x≠some .cell) (h1:cellsFrom n names acc=acc) (h2:pushCells h names=h)
 | one (y:Str) (h0:∀x,names.lookup x=some .cell→x=y) (hy:names.lookup y=some .cell) (h1:cellsFrom n names acc=(y,n)::acc) (h2:pushCells h names=h.push { cls:=.type "cell",data:=.cell none })
theorem xu:∀(names:List (Str×NameKind)) (n:Nat) (h:Heap) (acc:List (Str×Addr)),names.filter (λy=>y.2==NameKind.cell)=[]→(∀x,names.lookup x≠some .cell)∧cellsFrom n names acc=acc∧pushCells h names=h
 | [],n,h,acc,_=>⟨λx=>by simp,rfl,rfl⟩
 | (y,k)::names,n,h,acc,e=>by
  rw[List.filter_cons] at e
  cases hk:(k==NameKind.cell) with
  | true=>rw[if_pos (by exact hk)] at e;cases e
  | false =>
   rw[if_neg (by simp[hk])] at e
   obtain⟨h1,h2,h3⟩:=xu names n h acc e
   refine⟨λx hx=>?_,?_,?_⟩
   ·rw[List.lookup_cons] at hx
    cases hb:x==y with
    | true=>rw[hb] at hx;cases hx;simp at hk
    | false=>rw[hb] at hx;exact h1 x hx
   ·unfold cellsFrom;rw[if_neg (by simp[hk])];exact h2
   ·unfold pushCells;rw[if_neg (by simp[hk])];exact h3
theorem xv:∀(names:List (Str×NameKind)) (n:Nat) (h:Heap) (acc:List (Str×Addr)),(names.filter λy=>y.2==NameKind.cell).length≤1→(names.map (·.1)).Nodup→HC names n h acc
 | [],n,h,acc,_,_=>.no (λx=>by simp) rfl rfl
 | (y,k)::names,n,h,acc,e,nd=>by
  rw[List.filter_cons] at e
  have nd':=List.nodup_cons.mp (by simpa using nd:(y::names.map (·.1)).Nodup)
  cases hk:(k==NameKind.cell) with
  | true =>
   rw[if_pos (by exact hk)] at e
   have e0:names.filter (λy=>y.2==NameKind.cell)=[]:=List.length_eq_zero_iff.mp (by simpa using e)
   obtain⟨h1,h2,h3⟩:=xu names (n+1) (h.push { cls:=.type "cell",data:=.cell none }) ((y,n)::acc) e0
   have ek:k=.cell:=by simpa using hk
   subst ek
   refine .one y (λx hx=>?_) (by simp) ?_ ?_
   ·rw[List.lookup_cons] at hx
    cases hb:x==y with
    | true=>exact eq_of_beq hb
    | false=>rw[hb] at hx;exact absurd hx (h1 x)
   ·unfold cellsFrom;rw[if_pos (by simp)];exact h2
   ·unfold pushCells;rw[if_pos (by simp)];exact h3
  | false =>
   rw[if_neg (by simp[hk])] at e
   have kn:k≠.cell:=by simpa using hk
   have lk:∀x,((y,k)::names).lookup x=some .cell→names.lookup x=some .cell:=λx hx=>by
    rw[List.lookup_cons] at hx
    cases hb:x==y with
    | true=>rw[hb] at hx;cases hx;exact absurd rfl kn
    | false=>rw[hb] at hx;exact hx
   cases xv names n h acc e nd'.2 with
   | no h0 h1 h2 =>
    refine .no (λx hx=>h0 x (lk x hx)) ?_ ?_
    ·unfold cellsFrom;rw[if_neg (by simp[hk])];exact h1
    ·unfold pushCells;rw[if_neg (by simp[hk])];exact h2
   | one z h0 hz h1 h2 =>
    have zne:(z==y)=false:=by
     have:z≠y:=λq=>by
      subst q
      exact nd'.1 (List.mem_map.mpr ⟨_,PySem.mem_of_lookup hz,rfl⟩)
     simpa using this
    refine .one z (λx hx=>h0 x (lk x hx)) (by rw[List.lookup_cons,zne];exact hz) ?_ ?_
    ·unfold cellsFrom;rw[if_neg (by simp[hk])];exact h1
    ·unfold pushCells;rw[if_neg (by simp[hk])];exact h2
theorem xw{M:Model}{A:Around}{E:Value→Shared→Prop}{s:Shared}{scope:Scope}{globals:Addr}{cl:List (Str×Addr)}{qual:Str}{outer:Env}{Q:Env→Shared→Prop}
  (hQ:Q (newEnv scope s.heap.objs.size globals (cellsFrom (s.heap.objs.size+1) scope.names cl) qual none .none (some outer) builtinsNs) { s with heap:=pushCells (s.heap.push { cls:=.type "dict",data:=.dict #[] }) scope.names }) :
  wpAny M A (newFunctionEnv scope globals cl [] qual none .none (some outer)) Q E s:=by
 simp only[newFunctionEnv,Option.isSome_some,if_true]
 refine wpAny_bind (wpAny_alloc ?_)
 refine wpAny_bind (wpAny_layCells _ (λname kind cells=>by cases hkc:kind==NameKind.cell<;>simp[hkc]) _ _ _ _ ?_)
 rw[show ({ s with heap:=s.heap.push { cls:=.type "dict",data:=.dict #[] } }:Shared).heap.objs.size=s.heap.objs.size+1 from Heap.size_push ..]
 simp only[List.forIn_nil]
 exact wpAny_bind (wpAny_pure (wpAny_pure hQ))
theorem kg{env:Env}:∀(names:List (Str×NameKind)) (acc:List (Str×Addr)),(∀y∈names,y.2=.free→∃c,env.cells.lookup y.1=some c) →
  ∃cl:List (Str×Addr),(forIn names acc λx r=>(if (x.2==NameKind.free)=true then do let c ← cellOf env x.1;pure (ForInStep.yield ((x.1,c)::r)) else pure (ForInStep.yield r):Sem (ForInStep (List (Str×Addr)))))=pure cl ∧
   (∀x c,cl.lookup x=some c→acc.lookup x=some c∨env.cells.lookup x=some c)∧(∀x,(x,NameKind.free)∈names∨(acc.lookup x).isSome=true→(cl.lookup x).isSome=true)
 | [],acc,_=>⟨acc,rfl,λx c h=>.inl h,λx h=>by
   rcases h with h|h
   ·simp at h
   ·exact h⟩
 | (n,k)::r,acc,h=>by
  by_cases hk:k=.free
  ·subst hk
   obtain⟨c,hc⟩:=h (n,.free) List.mem_cons_self rfl
   obtain⟨cl,e,h1,h2⟩:=kg r ((n,c)::acc) λy hy=>h y (List.mem_cons_of_mem _ hy)
   refine⟨cl,?_,λx d hx=>?_,λx hx=>h2 x ?_⟩
   ·rw[List.forIn_cons]
    have e1:(NameKind.free==NameKind.free)=true:=by decide
    simp only[e1,if_true]
    have e2:cellOf env n=pure c:=by simp only[cellOf,hc]
    rw[e2]
    exact e
   ·rcases h1 x d hx with g|g
    ·rw[List.lookup_cons] at g
     cases q:x==n with
     | true =>
      rw[q] at g
      cases g
      have:x=n:=by simpa using q
      subst this
      exact .inr hc
     | false=>rw[q] at g;exact .inl g
    ·exact .inr g
   ·rcases hx with hx|hx
    ·rcases List.mem_cons.mp hx with g|g
     ·cases g
      right
      simp[List.lookup_cons]
     ·exact .inl g
    ·right
     rw[List.lookup_cons]
     cases q:x==n with
     | true=>rfl
     | false=>exact hx
  ·obtain⟨cl,e,h1,h2⟩:=kg r acc λy hy=>h y (List.mem_cons_of_mem _ hy)
   refine⟨cl,?_,h1,λx hx=>h2 x ?_⟩
   ·rw[List.forIn_cons]
    have e1:(k==NameKind.free)=false:=by simpa using hk
    simp only[e1,Bool.false_eq_true,if_false]
    exact e
   ·rcases hx with hx|hx
    ·rcases List.mem_cons.mp hx with g|g
     ·cases g
      exact absurd rfl hk
     ·exact .inl g
    ·exact .inr hx
theorem qU{scope:Scope}{env:Env}(h:∀y∈scope.names,y.2=.free→∃c,env.cells.lookup y.1=some c) :
  ∃cl,closureFor scope env=pure cl∧(∀x c,cl.lookup x=some c→env.cells.lookup x=some c)∧(∀x,(x,NameKind.free)∈scope.names→(cl.lookup x).isSome=true):=by
 obtain⟨cl,e,h1,h2⟩:=kg (env:=env) scope.names [] h
 refine⟨cl,?_,λx c hx=>(h1 x c hx).elim (λg=>by simp at g) id,λx hx=>h2 x (.inl hx)⟩
 simp only[closureFor]
 rw[e]
 rfl
section
variable{X:Cx}{elt iter tg:Expr}{ifs:List Expr}{scope:Scope}{pos:Pos}{N':List Str}{g:TG}{tc:TT}{te:TE}{mp:List (Option Nat)}
def AX(J:It)(mp:List (Option Nat))(g:TG)(tc:TT)(te:TE)(σ:St)(H:Hp)(Q:VK):Prop:=∀p,H p=none→∃W:Nat→Nat→St→Hp→Prop,(∃m,W 0 m (tH mp σ) (upd H p (.lst [])))∧∀i m σ H,W i m σ H →
 (J.stop i H∧Q (.ref p) H)∨(J.go i H∧∃N:St→Hp→Prop,(∀σ' H',N σ' H'→∃m',m'<m∧W (i+1) m' σ' H')∧∀x H',J.yld i H x H'→g x σ H' λσ2 H2=>tc σ2 H2 λb H3 =>
  if b=true then te σ2 H3 λy H4=>AG (.ref p) [y] H4 λ_ H5=>N σ2 H5 else N σ2 H3)
theorem D7{mp:List (Option Nat)}{σ:St}{i:Nat}{v:V}(h:(tH mp σ)[i]?=some (some v)):∃j,mp[i]?=some (some j)∧σ[j]?=some (some v):=by
 unfold tH at h
 rw[List.getElem?_map] at h
 cases q:mp[i]? with
 | none=>rw[q] at h;cases h
 | some o =>
  cases o with
  | none=>rw[q] at h;cases h
  | some j =>
   rw[q] at h
   refine⟨j,rfl,?_⟩
   have h:(σ[j]?).bind id=some v:=by simpa using h
   cases z:σ[j]? with
   | none=>rw[z] at h;cases h
   | some y=>rw[z] at h;have h:y=some v:=h;rw[h]
theorem D8{pins:List (Addr×Obj)}{σ:St}{H:Hp}{s₀:Shared}{C:Addr}{h₁:Heap}{t':Nat}{cl:List (Str×Addr)}{fp:List Addr}(hS:fM X N' scope mp)(I:Inv X pins σ H s₀)
  (hcl:∀x c,cl.lookup x=some c→X.env.cells.lookup x=some c∨(scope.names.lookup x=some .cell∧c=C+1∧h₁.IsCell c none∧∀z,scope.names.lookup z=some .cell→z=x)) (hcs:∀x,(x,NameKind.free)∈scope.names→(cl.lookup x).isSome=true∧∀c,cl.lookup x=some c→X.env.cells.lookup x=some c)
  (hcn:∀x,scope.names.lookup x=some .cell→cl.lookup x=some (C+1))
  (hC:C=s₀.heap.objs.size) (keep:∀b o,s₀.heap.get? b=some o→h₁.get? b=some o) (ns:∃m,h₁.Ns C m) (hf:∀b∈fp,kY X pins H b) (hfp:∀b∈fp,b<s₀.heap.objs.size) :
  Inv (cj X N' scope cl C s₀ H fp) [] (tH mp σ) H { s₀ with heap:=h₁,toks:=t' }:=by
 obtain⟨m0,ns⟩:=ns
 have cellK:∀c v,s₀.heap.IsCell c v→h₁.IsCell c v:=λc v ⟨o,ho,hd⟩=>⟨o,keep c o ho,hd⟩
 refine⟨⟨I.ok.mod,hS.kind,I.ok.glob,I.ok.blt,Nat.le_of_eq hC.symm,λx y c h1 h2=>?_,λx hx=>?_,λx c h hx=>?_,I.ok.hd,I.ok.frames,.inl rfl,λb hb=>⟨?_,λx c h=>?_⟩,I.bs,Nat.le_trans I.ok.bsz I.sz,
   λb o e hb=>?_,λb hb hs=>?_,I.stack,I.Av⟩,rfl,I.bare,Un.kept keep,⟨m0,ns,λi x v e1 e2 e3=>?_⟩,λx c h=>?_,?_,λx c h=>?_,λp hp=>absurd hp (by intro z;cases z),I.hok.kept keep,?_⟩
 ·have old:∀z,X.env.cells.lookup z=some c→c<s₀.heap.objs.size:=λz hz=>by
   obtain⟨v,q⟩:=I.cell z c hz
   exact q.lt
  rcases hcl x c h1 with a|⟨a,ca,_,ua⟩
  ·rcases hcl y c h2 with b|⟨b,cb,_⟩
   ·exact I.ok.inj x y c a b
   ·have:=old x a
    rw[cb,hC] at this
    exact absurd this (Nat.not_lt.mpr (Nat.le_succ _))
  ·rcases hcl y c h2 with b|⟨b,cb,_⟩
   ·have:=old y b
    rw[ca,hC] at this
    exact absurd this (Nat.not_lt.mpr (Nat.le_succ _))
   ·exact (ua y b).symm
 ·rcases hS.back x hx with q|q
  ·exact Option.isSome_iff_exists.mp (hcs x q).1
  ·exact⟨_,hcn x q⟩
 ·have q:scope.names.lookup x=some .cell:=by
   have h:(scope.names.lookup x==some NameKind.cell)=true:=h
   simpa using h
  have hx:cl.lookup x=some c:=hx
  rw[hcn x q] at hx
  cases hx
  rw[hC]
  exact Nat.le_succ _
 ·intro z
  have:=hfp b hb
  rw[z] at this
  have h2:C<s₀.heap.objs.size:=this
  rw[hC] at h2
  exact Nat.lt_irrefl _ h2
 ·rcases hcl x c h with a|⟨a,ca,_⟩
  ·exact (hf b hb).2.2.2.2.1 x c a
  ·have:=hfp b hb
   rw[ca,hC]
   exact λq=>absurd (q ▸ this) (Nat.not_lt.mpr (Nat.le_succ _))
 ·rcases (hf b hb).2.2.2.1 with z|z
  ·exact I.ok.BH b o e z
  ·exact absurd (Nat.lt_of_lt_of_le (Heap.lt_size e) (Nat.le_trans I.ok.bsz z)) (Nat.lt_irrefl _)
 ·rcases List.mem_cons.mp (I.uY b hs) with z|z
  ·exact (hf b hb).2.1 z
  ·exact (hf b hb).2.2.1 z
 ·obtain⟨j,hj,hv⟩:=D7 e2
  obtain⟨y,y1,y2,y3,y4⟩:=hS.M9 i j hj
  have hy:y=x:=by
   have:(cj X N' scope cl C s₀ H fp).N[i]?=some y:=y1
   rw[e1] at this
   exact (Option.some.inj this).symm
  subst hy
  obtain⟨m,hn,hl⟩:=I.loc
  obtain⟨u,ru,lk⟩:=hl j y v y2 hv (y4.elim (λz=>.inr (.inl z)) λz=>.inr (.inr z))
  refine⟨u,ru,?_⟩
  rcases lk with ⟨hk,_⟩|⟨hk,c,hc,Ax⟩
  ·exfalso
   have hk:X.env.scope.names.lookup y=some .local:=hk
   rcases y4 with z|z
   ·rw[hk] at z;cases z
   ·rw[hk] at z;cases z
  ·obtain⟨c',hc'⟩:=Option.isSome_iff_exists.mp (hcs y y3).1
   have:c'=c:=by
    have q:=(hcs y y3).2 c' hc'
    rw[hc] at q
    exact (Option.some.inj q).symm
   subst this
   exact .inr ⟨hS.seen y y3,c',hc',cellK _ _ Ax⟩
 ·rcases hcl x c h with a|⟨_,_,a,_⟩
  ·obtain⟨v,hv⟩:=I.cell x c a
   exact⟨v,cellK _ _ hv⟩
  ·exact⟨none,a⟩
 ·show H C=none
  rw[hC]
  exact I.hok.fresh (Nat.le_refl _)
 ·rcases hcl x c h with a|⟨_,a,_⟩
  ·exact I.mN x c a
  ·rw[a,hC];exact I.hok.fresh (Nat.le_succ _)
 ·show (tH mp σ).length=N'.length
  unfold tH
  rw[List.length_map,hS.len]
theorem uw{pins:List (Addr×Obj)}{s₂:Shared}{σ:St}{H₂:Hp}{it:Addr}{fp:List Addr}{tn:Nat→Heap→Prop}{J:It}{cl:List (Str×Addr)}{Q:VK}{RR:Value→Addr→Result→Shared→Prop}{E:Value→Shared→Prop}
  (hS:fM X N' scope mp) (nW:X.calm=true) (hg:∀cl C s₀ H₀ ex,PG (cj X N' scope cl C s₀ H₀ ex) tg g) (hc:∀cl C s₀ H₀ ex,mK (cj X N' scope cl C s₀ H₀ ex) ifs tc) (he:∀cl C s₀ H₀ ex,PE (cj X N' scope cl C s₀ H₀ ex) elt te)
  (hcl:∀x c,cl.lookup x=some c→X.env.cells.lookup x=some c) (hcs:∀x,(x,NameKind.free)∈scope.names→(cl.lookup x).isSome=true)
  (I:Inv X pins σ H₂ s₂) (T:Turn X.prog X.w X.K tg J fp it tn) (st:tn 0 s₂.heap) (hf:∀b∈fp,kY X pins H₂ b) (hq:AX J mp g tc te σ H₂ Q)
  (fin:∀p C s' H',Inv X pins σ H' s'→kY X pins H' C→(∃m,s'.heap.Ns C m)→Q (.ref p) H'→RR (.ref p) C (.ok .next) s') :
  wpAny (model X.prog X.w) X.A (newList []) (λacc s₃=>wpAny (model X.prog X.w) X.A (newFunctionEnv scope X.env.globals cl [] X.env.qual none .none (some X.env)) (λM_ s₄ =>
   codeAny (model X.prog X.w) X.A (.compStart (.ListComp elt [⟨tg,iter,ifs,0⟩] scope pos) 0 (.ref it) acc { M_ with scope:=relabel scope X.env }) (RR acc M_.locals) s₄) E s₃) E s₂:=by
 refine wpAny_newObj_type (xw ?_)
 dsimp only
 have I₃:Inv X pins σ (upd H₂ s₂.heap.objs.size (.lst [])) { s₂ with heap:=s₂.heap.push { cls:=.type "list",dict:=none,data:=.seq ([]:List Value).toArray } } :=
  I.Ks (t':=s₂.toks) (ys:=[]) .nil (Nat.zero_le _)
 generalize hH2:s₂.heap.push { cls:=.type "list",dict:=none,data:=.seq ([]:List Value).toArray }=H2 at I₃ ⊢
 obtain⟨h₁,hh1⟩:∃h₁,h₁=pushCells (H2.push { cls:=.type "dict",data:=.dict #[] }) scope.names:=⟨_,rfl⟩
 rw[← hh1]
 have hns₁:h₁.Ns H2.objs.size (λ_=>none):=by rw[hh1];exact (Heap.Ns.new H2 (.type "dict")).keeps (pushCells_keeps _ _)
 obtain⟨cl',B4⟩:∃cl',cl'=cellsFrom (H2.objs.size+1) scope.names cl:=⟨_,rfl⟩
 rw[← B4]
 have K0:=xv scope.names (H2.objs.size+1) (H2.push { cls:=.type "dict",data:=.dict #[] }) cl hS.cells hS.nd
 have fc:∀x,(x,NameKind.free)∈scope.names→scope.names.lookup x≠some .cell:=λx hx q=>by
  have nd:=hS.nd
  have m2:=PySem.mem_of_lookup q
  have key:∀l:List (Str×NameKind),(l.map (·.1)).Nodup→(x,NameKind.free)∈l→(x,NameKind.cell)∈l→False:=by
   intro l
   induction l with
   | nil=>intro _ h;cases h
   | cons a l ih =>
    intro nd h1 h2
    have nd':=List.nodup_cons.mp (by simpa using nd:(a.1::l.map (·.1)).Nodup)
    rcases List.mem_cons.mp h1 with e1|h1
    ·rcases List.mem_cons.mp h2 with e2|h2
     ·rw[← e1] at e2;cases e2
     ·exact nd'.1 (List.mem_map.mpr ⟨_,h2,by rw[← e1]⟩)
    ·rcases List.mem_cons.mp h2 with e2|h2
     ·exact nd'.1 (List.mem_map.mpr ⟨_,h1,by rw[← e2]⟩)
     ·exact ih nd'.2 h1 h2
  exact key _ nd hx m2
 have Na:∀x c,cl'.lookup x=some c→X.env.cells.lookup x=some c∨(scope.names.lookup x=some .cell∧c=H2.objs.size+1∧h₁.IsCell c none∧∀z,scope.names.lookup z=some .cell→z=x):=λx c h=>by
  cases K0 with
  | no _ e1 _=>rw[B4.trans e1] at h;exact .inl (hcl x c h)
  | one y h0 hy e1 e2 =>
   rw[B4.trans e1,List.lookup_cons] at h
   cases hb:x==y with
   | true =>
    rw[hb] at h
    have hxy:x=y:=eq_of_beq hb
    have h:some (H2.objs.size+1)=some c:=h
    cases h
    subst hxy
    refine .inr ⟨hy,rfl,?_,λz hz=>h0 z hz⟩
    rw[hh1.trans e2,← Heap.size_push H2 { cls:=.type "dict",data:=.dict #[] }]
    exact⟨_,Heap.get?_push_size _ rfl,rfl⟩
   | false=>rw[hb] at h;exact .inl (hcl x c h)
 have Po:∀x,(x,NameKind.free)∈scope.names→(cl'.lookup x).isSome=true∧∀c,cl'.lookup x=some c→X.env.cells.lookup x=some c:=λx hx=>by
  have el:cl'.lookup x=cl.lookup x:=by
   cases K0 with
   | no _ e1 _=>rw[B4.trans e1]
   | one y h0 hy e1 e2 =>
    rw[B4.trans e1,List.lookup_cons]
    cases hb:x==y with
    | true=>exact absurd ((eq_of_beq hb) ▸ hy) (fc x hx)
    | false=>rfl
  rw[el]
  exact⟨hcs x hx,λc hc=>hcl x c hc⟩
 have Pp:∀x,scope.names.lookup x=some .cell→cl'.lookup x=some (H2.objs.size+1):=λx hx=>by
  cases K0 with
  | no h0 _ _=>exact absurd hx (h0 x)
  | one y h0 hy e1 e2 =>
   rw[B4.trans e1,h0 x hx,List.lookup_cons]
   simp
 have fresh:H₂ s₂.heap.objs.size=none:=I.hok.fresh (Nat.le_refl _)
 have fpl:∀b∈fp,b<s₂.heap.objs.size:=λb hb=>by
  obtain⟨o,ho,_⟩:=T.obj _ _ st b hb
  exact Heap.lt_size ho
 have K1:s₂.heap.objs.size≤H2.objs.size:=by rw[← hH2,Heap.size_push];exact Nat.le_succ _
 have Pq:∀b o,s₂.heap.get? b=some o→H2.get? b=some o:=λb o e=>by rw[← hH2];exact Heap.get?_push_of_some _ e
 have old:∀b o,H2.get? b=some o→h₁.get? b=some o:=λb o e=>by rw[hh1];exact pushCells_keeps _ _ _ _ (Heap.get?_push_of_some _ e)
 have hf3:∀b∈fp,kY X pins (upd H₂ s₂.heap.objs.size (.lst [])) b:=λb hb=>⟨by rw[aE (Nat.ne_of_lt (fpl b hb))];exact (hf b hb).1,(hf b hb).2⟩
 have I₄:=D8 (t':=s₂.toks) (N':=N') (C:=H2.objs.size) (h₁:=h₁) hS I₃ Na Po Pp rfl old ⟨_,hns₁⟩ hf3 λb hb=>Nat.lt_of_lt_of_le (fpl b hb) K1
 have st4:tn 0 h₁:=T.keep _ _ _ st λb hb o e=>old b o (Pq b o e)
 obtain⟨W,⟨m0,w0⟩,turn⟩:=hq s₂.heap.objs.size fresh
 generalize hX':cj X N' scope cl' H2.objs.size { s₂ with heap:=H2 } (upd H₂ s₂.heap.objs.size (.lst [])) fp=X' at I₄
 have hg':PG X' tg g:=hX' ▸ hg _ _ _ _ _
 have hc':mK X' ifs tc:=hX' ▸ hc _ _ _ _ _
 have he':PE X' elt te:=hX' ▸ he _ _ _ _ _
 have e1:X'.prog=X.prog:=by rw[← hX'];rfl
 have e2:X'.w=X.w:=by rw[← hX'];rfl
 have e3:X'.K=X.K:=by rw[← hX'];rfl
 have e4:X'.calm=true:=by rw[← hX'];exact nW
 have e5:X'.A=X.A:=by rw[← hX'];rfl
 have e6:X'.env=compEnvC scope cl' H2.objs.size X.env:=by rw[← hX'];rfl
 have e7:X'.xe=λ_ _=>False:=by rw[← hX'];rfl
 have yu:∀{H':Hp},(∀b∈fp,H' b=none)→∀b∈fp,kY X' [] H' b:=λ{H'} hn b hb=>by
  refine⟨hn b hb,?_,?_,?_,λx c h=>?_,λp hp=>?_⟩
  ·rw[e6];exact Nat.ne_of_lt (Nat.lt_of_lt_of_le (fpl b hb) K1)
  ·rw[← hX']
   intro hs
   rcases List.mem_cons.mp (I.uY b hs) with z|z
   ·exact (hf b hb).2.1 z
   ·exact (hf b hb).2.2.1 z
  ·rw[← hX'];exact .inl hb
  ·rw[e6] at h
   rcases Na x c h with a|⟨_,a,_⟩
   ·exact (hf b hb).2.2.2.2.1 x c a
   ·rw[a]
    have q1:=Nat.lt_of_lt_of_le (fpl b hb) K1
    exact λq=>absurd (q ▸ q1) (Nat.not_lt.mpr (Nat.le_succ _))
  ·rw[← hX'] at hp;cases hp
 have loop:∀s₃:Shared,Inv X' [] (tH mp σ) (upd H₂ s₂.heap.objs.size (.lst [])) s₃→tn 0 s₃.heap →
   codeAny (model X.prog X.w) X.A (.compLoop (.ListComp elt [⟨tg,iter,ifs,0⟩] scope pos) 0 (.ref it) (.ref s₂.heap.objs.size) (compEnvC scope cl' H2.objs.size X.env)) (RR (.ref s₂.heap.objs.size) H2.objs.size) s₃:=by
  intro s₃ I₃' st3
  refine vt (λn s'=>∃i σ' H',Inv X' [] σ' H' s'∧tn i s'.heap∧(∀b∈fp,H' b=none)∧W i n σ' H') ?_ m0 ⟨0,_,_,I₃',st3,λb hb=>(hf3 b hb).1,w0⟩
  rintro n s4 ⟨i,σ4,H4,I4,st4,fr4,w4⟩
  rcases turn i n σ4 H4 w4 with ⟨stop,qn⟩|⟨go,N,hN,step⟩
  ·have q:=T.done X' e1 e2 e3 e4 i [] s4 σ4 H4 (λ_ _=>False) I4 (yu fr4) st4 stop
   rw[e5] at q
   refine thn q λr s5 ao=>?_
   obtain⟨hr,I5⟩:=ao
   subst hr
   have I6:Inv X pins σ H4 s5:=by
    subst hX'
    exact I₃.Mp (ch:=fp) I5.os I5.base I5.hok I5.bare λb hb=>⟨(hf3 b hb).2.2.2.1,(hf3 b hb).2.1,(hf3 b hb).2.2.2.2.1,(hf3 b hb).2.2.2.2.2⟩
   have hC:H4 H2.objs.size=none:=by
    have:=I5.free
    rw[e6] at this
    exact this
   have hns:∃m,s5.heap.Ns H2.objs.size m:=by
    obtain⟨m,hm,_⟩:=I5.loc
    rw[e6] at hm
    exact⟨m,hm⟩
   exact fin _ _ s5 H4 I6 (I₃.u0 (Nat.le_refl _) hC) hns qn
  ·have q:=T.item X' e1 e2 e3 e4 i [] s4 σ4 H4 (λ_ _=>False) I4 (yu fr4) st4 go
   rw[e5] at q
   refine thn q λr s5 dq=>?_
   obtain⟨u,hr,h5⟩:=dq
   subst hr
   refine thn h5 λ_ s6 wV=>?_
   obtain⟨x,H6,I6,r6,y6,st6,fr6⟩:=wV
   have I6':=I6.pinned (yu fr6) (T.obj _ _ st6)
   have g6:=hg' _ s6 σ4 H6 x u _ I6' r6 (step x H6 y6)
   rw[e1,e2,e5,e6,e7] at g6
   refine thn g6 λ_ s7 Nb=>?_
   obtain⟨σ7,H7,I7,q7⟩:=Nb
   have c7:=hc' _ s7 σ7 H7 _ I7 q7
   rw[e1,e2,e5,e6,e7] at c7
   refine thn c7 λok s8 Nc=>?_
   obtain⟨H8,I8,q8⟩:=Nc
   have again:∀{s9:Shared}{σ9:St}{H9:Hp},Inv X' ([]++qt fp s6.heap) σ9 H9 s9→N σ9 H9→∃m,m<n∧∃i σ' H',Inv X' [] σ' H' s9∧tn i s9.heap∧(∀b∈fp,H' b=none)∧W i m σ' H':=λ{s9 σ9 H9} I9 n9=>by
    obtain⟨m',hm,w9⟩:=hN σ9 H9 n9
    refine⟨m',hm,i+1,σ9,H9,I9.nI,T.keep _ _ _ st6 λb hb o e=>(I9.pin (b,o) (List.mem_append_right _ (List.mem_append_right _ (jZ hb e)))).1,λb hb=>?_,w9⟩
    obtain⟨o,e,d⟩:=T.obj _ _ st6 b hb
    exact (I9.pin (b,o) (List.mem_append_right _ (List.mem_append_right _ (jZ hb e)))).2.1
   cases ok with
   | false =>
    rw[if_neg Bool.false_ne_true] at q8 ⊢
    exact again I8 q8
   | true =>
    rw[if_pos rfl] at q8 ⊢
    have l8:=he' _ s8 σ7 H8 _ I8 q8
    rw[e1,e2,e5,e6,e7] at l8
    refine thn l8 λy s9 Nd=>?_
    obtain⟨z,H9,I9,r9,q9⟩:=Nd
    have a9:=(ug (X:=X')) _ s9 σ7 H9 (.ref s₂.heap.objs.size) [z] (.ref s₂.heap.objs.size) [y] _ I9 rfl (.cons r9 .nil) q9
    rw[e1,e2,e5,e7] at a9
    refine thn a9 λ_ s10 ⟨_,H10,I10,_,q10⟩=>again I10 q10
 refine codeAny_compStart_list (loop _ I₄ st4) ?_
 exact T.self X.A 0 _ _ _ st4 (loop _ I₄ st4)
theorem HD{wi:TI}(hx:X.xe=λ_ _=>False)(hS:fM X N' scope mp)(nW:X.calm=true)(hi:PI X tg iter wi)(hg:∀cl C s₀ H₀ ex,PG (cj X N' scope cl C s₀ H₀ ex) tg g)(hc:∀cl C s₀ H₀ ex,mK (cj X N' scope cl C s₀ H₀ ex) ifs tc)
  (he:∀cl C s₀ H₀ ex,PE (cj X N' scope cl C s₀ H₀ ex) elt te) (hs:∀x,foldedSetIterable iter X.env x=pure x:=by intro _;rfl) :
  PE X (.ListComp elt [⟨tg,iter,ifs,0⟩] scope pos) (λσ H Q=>wi σ H λJ H1=>AX J mp g tc te σ H1 Q):=by
 intro pins s σ H Q I h
 have hfr:∀y∈scope.names,y.2=.free→∃c,X.env.cells.lookup y.1=some c:=λy hy hk=>I.ok.has y.1 (hS.free y hy hk)
 obtain⟨cl,hcl,h1,h2⟩:=qU hfr
 rw[eval_ListComp]
 refine wpAny_comprehension_free (use:=none) rfl hs hcl hS.kind hS.loc (thn (hi pins s σ H _ I h) λv s1 q1=>thn q1 λitv s2 ao=>?_)
 obtain⟨it,fp,tn,J,H2,e,I2,T,st2,f2,q2⟩:=ao
 subst e
 refine uw (RR:=λacc C=>compPost (model X.prog X.w) X.A X.xe none (EP X pins σ Q) acc C) hS nW hg hc he h1 h2 I2 T st2 f2 q2 λp C s' H' I' fp' ns q'=>?_
 obtain⟨m,hm⟩:=ns
 refine⟨m,hm,λh' sb=>⟨.ref p,H',?_,rfl,q'⟩⟩
 exact I'.turned (t':=s'.toks) (λb o hb e=>(sb.2 b hb).trans e) fp'.1 fp'.2.1 fp'.2.2.2.1 fp'.2.2.2.2.1 fp'.2.2.2.2.2
theorem xx{wi:TI}{i:Nat}{y:Str}{py D9:Pos}(hx:X.xe=λ_ _=>False)(hS:fM X N' scope mp)(nW:X.calm=true)(hi:PI X tg iter wi)(hg:∀cl C s₀ H₀ ex,PG (cj X N' scope cl C s₀ H₀ ex) tg g)
  (hc:∀cl C s₀ H₀ ex,mK (cj X N' scope cl C s₀ H₀ ex) ifs tc) (he:∀cl C s₀ H₀ ex,PE (cj X N' scope cl C s₀ H₀ ex) elt te) (hN:X.N.Nodup) (hiN:X.N[i]?=some y) (hl:Loc X.env.scope y)
  (hsw:swapsWith (.ListComp elt [⟨tg,iter,ifs,0⟩] scope pos) (some (.Name y py)) D9.line X.env=pure true) (hs:∀x,foldedSetIterable iter X.env x=pure x:=by intro _;rfl)
  (hf:X.fn y=true∨X.env.scope.names.lookup y=some .local:=by first|exact .inl rfl|exact .inr rfl|assumption) :
  PS X (.Assign [.Name y py] (.ListComp elt [⟨tg,iter,ifs,0⟩] scope pos) D9) (JX (λσ H Q=>wi σ H λJ H1=>AX J mp g tc te σ H1 Q) (Di i)):=by
 intro pins s σ H D I h
 have hfr:∀y∈scope.names,y.2=.free→∃c,X.env.cells.lookup y.1=some c:=λy hy hk=>I.ok.has y.1 (hS.free y hy hk)
 obtain⟨cl,hcl,h1,h2⟩:=qU hfr
 rw[exec_Assign_Name_used _ _ _ _ hsw]
 refine wpAny_bind (wpAny_standAt (wpAny_bind ?_))
 show wpAny _ X.A (do let _ ← comprehension (.ListComp elt [⟨tg,iter,ifs,0⟩] scope pos) scope X.env _ (newList []) false (eval iter X.env) (some (assign (.Name y py) X.env))) _ _ s
 refine wpAny_bind (wpAny_mono (wpAny_comprehension_free (use:=some (assign (.Name y py) X.env)) (Q:=λ_ s'=>SP X pins D .next s') rfl hs hcl hS.kind hS.loc
  (thn (hi pins s σ H _ I h) λv s1 q1=>thn q1 λitv s2 ⟨it,fp,tn,J,H2,e,I2,T,st2,f2,q2⟩=>?_)) (λ_ s' hq=>wpAny_pure (wpAny_pure hq)) λ_ _ e=>e)
 subst e
 refine uw (RR:=λacc C=>compPost (model X.prog X.w) X.A X.xe (some (assign (.Name y py) X.env)) (λ_ s'=>SP X pins D .next s') acc C) hS nW hg hc he h1 h2 I2 T st2 f2 q2 λp C s' H' I' fp' ns q'=>?_
 obtain⟨m,hm⟩:=ns
 obtain⟨oC,es,ep,hoC,rC⟩:=id hm
 show wpAny _ X.A (assign (.Name y py) X.env (.ref p)) _ _ _
 refine wpAny_assign_Name (t8 I' hN hiN hl (v:=.ref p) rfl (λs'' I'' sb=>?_) hf)
 obtain⟨a,sb,ha⟩:=sb
 have hCa:C≠a:=by
  rcases ha with rfl|ha
  ·exact fp'.2.1
  ·exact λz=>fp'.2.2.2.2.1 y a ha z.symm
 refine⟨m,⟨oC,es,ep,(sb.2 C hCa).trans hoC,rC⟩,λh3 sb3=>⟨_,H',?_,q'⟩⟩
 exact I''.turned (t':=s''.toks) (λb o hb e=>(sb3.2 b hb).trans e) fp'.1 fp'.2.1 fp'.2.2.2.1 fp'.2.2.2.2.1 fp'.2.2.2.2.2
end
end L2
namespace Fw
open PySem PySem.Spec PyProof.Rows L2
section
variable{K:PySem.W.Frag}{F F' F1 F2 H H' H1 H2:Hp}{α α' α1 α2:List Addr}{μ μ':af}{e:Slots}{σ:L2.St}
theorem qV{mp:List (Option Nat)}{i:Nat}{x:SV}(h:slot (ini mp e) i=some x):∃j,mp[i]?=some (some j)∧slot e j=some x:=by
 unfold slot ini at h
 rw[List.getElem?_map] at h
 cases q:mp[i]? with
 | none=>rw[q] at h;cases h
 | some o =>
  cases o with
  | none=>rw[q] at h;cases h
  | some j =>
   rw[q] at h
   refine⟨j,rfl,?_⟩
   simp only[Option.map_some,Option.bind_some] at h
   cases z:slot e j with
   | none=>rw[z] at h;cases h
   | some y=>rw[z] at h;cases h;rfl
theorem Sim.ini(S:Sim K F α e μ σ H)(mp:List (Option Nat)):Sim K F α (Fw.ini mp e) μ (tH mp σ) H:=by
 refine⟨S.st,λi x h=>?_,by unfold Fw.ini tH;rw[List.length_map,List.length_map]⟩
 obtain⟨j,hj,hx⟩:=qV h
 obtain⟨v,hv,ok⟩:=S.sl j x hx
 refine⟨v,?_,ok⟩
 unfold tH
 rw[List.getElem?_map,hj]
 simp[hv]
theorem du.K2{p:Addr}{o:HO}(S:du K F α μ H)(h1:F p=none)(h2:p∉α)(n:NT o:=by intro _ h;cases h):du K F α μ (upd H p o):=by
 have na:∀{k:Nat}{a:Addr},α[k]?=some a→a≠p:=λ{k a} h q=>h2 (by rw[← q];exact List.mem_of_getElem? h)
 refine⟨λa z hz=>?_,S.len,S.nd,λk a g=>?_,λk b u a g1 g2=>?_,S.tps.upd n⟩
 ·rw[aE (λq=>by subst q;rw[h1] at hz;cases hz)];exact S.ext a z hz
 ·rw[aE (na g)];exact S.there k a g
 ·obtain⟨c1,c2⟩:=S.cell k b u a g1 g2
  refine⟨λhb=>⟨(c1 hb).1,?_⟩,c2⟩
  have d2:=(c1 hb).2
  cases u with
  | lst ts=>obtain⟨vs,w1,w2⟩:=d2;exact⟨vs,by rw[aE (na g2)];exact w1,w2⟩
  | dct ts=>obtain⟨vs,w1,w2⟩:=d2;exact⟨vs,by rw[aE (na g2)];exact w1,w2⟩
  | dtt fz ts=>exact⟨d2.1,(aE (na g2)).trans d2.2⟩
  | _=>exact d2.elim
theorem Ex.K2{p:Addr}{o:HO}(x:Ex F α H F' α' H')(h:H p=none):Ex F α H F' α' (upd H' p o):=⟨x.same,x.pre,λb z h1 h2 h3=>by
 obtain⟨g1,g2,g3⟩:=x.fr b z h1 h2 h3
 exact⟨by rw[aE (λq=>by subst q;rw[h] at h1;cases h1)];exact g1,g2,g3⟩⟩
theorem Sim.back{e':Slots}(S:Sim K F α e' μ σ H)(hl:e.length=e'.length)(h:∀j x,slot e j=some x→slot e' j=some x):Sim K F α e μ σ H :=
 ⟨S.st,λi x g=>S.sl i x (h i x g),by rw[hl];exact S.len⟩
end
section
variable{X:Cx}{elt iter tg:Expr}{ifs:List Expr}{scope:Scope}{pos:Pos}{N':List Str}{mp:List (Option Nat)}{di:DI}{b:BD}{dc d:D}
def qW(mp:List (Option Nat))(b:BD):Prop:=∀t e e1,b t (ini mp e)=some e1→(ini mp e).length=e1.length∧∀j x,slot (ini mp e) j=some x→slot e1 j=some x
theorem slot_set_ne{e:Slots}{i j:Nat}{x:SV}(h:i≠j):slot (e.set i (some x)) j=slot e j:=by
 unfold slot
 rw[List.getElem?_set_ne h]
theorem aD{i:Nat}(h:mp[i]?=some none):qW mp (ar i):=λt e e1 hb=>by
 cases hb
 refine⟨by rw[List.length_set],λj x hx=>?_⟩
 obtain⟨k,hk,_⟩:=qV hx
 rw[slot_set_ne (λq=>by subst q;rw[h] at hk;cases hk)];exact hx
theorem ja{i i':Nat}(h:mp[i]?=some none)(h':mp[i']?=some none):qW mp (ee [i,i']):=λt e e1 hb=>by
 cases t with
 | tup ts =>
  unfold ee at hb
  simp only at hb
  by_cases hl:ts.length=[i,i'].length
  ·rw[if_pos hl] at hb
   match ts,hl with
   | [t1,t2],_ =>
    cases hb
    refine⟨by simp,λj x hx=>?_⟩
    obtain⟨k,hk,_⟩:=qV hx
    have n1:i≠j:=λq=>by subst q;rw[h] at hk;cases hk
    have n2:i'≠j:=λq=>by subst q;rw[h'] at hk;cases hk
    simp only[List.zip_cons_cons,List.zip_nil_right,List.foldl_cons,List.foldl_nil]
    rw[slot_set_ne n2,slot_set_ne n1];exact hx
  ·rw[if_neg hl] at hb;cases hb
 | _=>cases hb
theorem bu{X':Cx}:mK X' [] (tDT X' (dC (.bl true))):=λpins s σ H Q I ao=>by
 obtain⟨F,α,e,μ,S,h⟩:=ao
 obtain⟨b,hb,h⟩:=h
 cases hb
 exact D5 pins s σ H Q I (h H F α Ex.refl S)
theorem cG{X':Cx}{c:Expr}(h:CT X' c dc):mK X' [c] (tDT X' dc):=D6 h
def oD(K:PySem.W.Frag)(d:D):TE:=λσ H Q=>∃F α e μ x μ',Sim K F α e μ σ H∧d e μ=.ok x μ'∧KR K F α H e σ Q x μ'
def oDT(K:PySem.W.Frag)(d:D):TT:=λσ H Q=>∃F α e μ b μ',Sim K F α e μ σ H∧d e μ=.ok (.val (.bl b)) μ' ∧
 ∀H' F' α',Ex F α H F' α' H'→Sim K F' α' e μ' σ H'→Q b H'
theorem Jk{X':Cx}{σ:L2.St}{H:Hp}{Q:VK}(h:oD X'.K d σ H Q):tD X' d σ H Q:=by
 obtain⟨F,α,e,μ,x,μ',S,h,p⟩:=h
 exact⟨F,α,e,μ,S,by rw[h];exact p⟩
theorem D_{X':Cx}{σ:L2.St}{H:Hp}{Q:Bool→Hp→Prop}(h:oDT X'.K d σ H Q):tDT X' d σ H Q:=by
 obtain⟨F,α,e,μ,b,μ',S,h,p⟩:=h
 exact⟨F,α,e,μ,S,by rw[h];exact⟨b,rfl,p⟩⟩
inductive CIv(K:PySem.W.Frag)(same:af→Prop)(items:List T)(b:BD)(dc d:D)(e0:Slots)(us:List T)(μ':af)(F1:Hp)(α1:List Addr)(H1:Hp)(p:Addr)(i:Nat)(σ':L2.St)(Hc:Hp):Prop
 | mk (F2:Hp) (α2:List Addr) (μ3:af) (done rest:List T) (vs:List V) (x2:Ex F1 α1 H1 F2 α2 Hc) (S2:Sim K F2 α2 e0 μ3 σ' Hc) (n1:F2 p=none) (n2:p∉α2) (hv:Hc p=some (.lst vs)) (hr:aA K F2 done vs) (hdl:done.length≤i) (hL:bN same b dc d e0 (items.drop i) μ3=.ok rest μ') (hu:us=done++rest)
theorem ux{σ:L2.St}{H:Hp}{Q:VK}(hb:qW mp b)(h:tF X (aH di mp b dc d) σ H Q):tDI X di σ H λJ H1=>AX J mp (tBd X.K b) (oDT X.K dc) (oD X.K d) σ H1 Q:=by
 obtain⟨F,α,e,μ,S,h⟩:=h
 refine⟨F,α,e,μ,S,(R.wp_bind h).mono (λW μ1 h J H1 F1 α1 x1 S1 ok=>?_) λ_ _ h=>h⟩
 cases hL:(bN W.same b dc d (ini mp e) W.items μ1).calm with
 | err c μ'=>cases q:bN W.same b dc d (ini mp e) W.items μ1<;>rw[q] at hL<;>cases hL
 | bad=>rw[hL] at h;exact h.elim
 | ok us μ' =>
 rw[hL] at h
 have hL:=R.calm_eq hL
 rw[R.aZ] at h
 by_cases hz:W.items.length≤szL
 ·rw[if_pos hz] at h
  obtain⟨t,et,post⟩:=h
  cases et
  intro p hp
  refine⟨λi m σ' Hc=>m=W.items.length-i∧i≤W.items.length∧CIv X.K W.same W.items b dc d (ini mp e) us μ' F1 α1 H1 p i σ' Hc,
   ⟨_,rfl,Nat.zero_le _,.mk F1 α1 μ1 [] us [] (Ex.lay hp) ((S1.ini mp).of (aT.refl _) (List.prefix_refl _) (S1.st.lay hp)) (S1.st.ext.free hp) (cg S1.st hp) aB aA.kU (Nat.zero_le _) hL rfl⟩,?_⟩
  rintro i m σ2 H2 ⟨rfl,hi',hC⟩
  obtain⟨F2,α2,μ3,done,rest,vs,x2,S2,n1,n2,hv,hr,hdl,hL,hu⟩:=hC
  by_cases hlt:i<W.items.length
  ·rw[List.drop_eq_getElem_cons hlt] at hL
   unfold bN at hL
   by_cases hs:W.same μ3
   ·rw[if_pos hs] at hL
    obtain⟨g1,g2⟩:=ok F2 α2 μ3 H2 x2.same x2.pre S2.st hs
    obtain⟨go,yl⟩:=g1 i W.items[i] (by simp[hlt])
    cases hb':b W.items[i] (ini mp e) with
    | none=>simp only[hb'] at hL;cases hL
    | some e3 =>
     simp only[hb'] at hL
     obtain⟨y0,μ4,hy,hL⟩:=R.aW hL
     have hy:=R.calm_eq hy
     obtain⟨k,μ5,hk,hK⟩:=R.aW hL
     obtain⟨hk1,hk2⟩:=R.mV hk
     subst hk2
     have ek:=yV hk1
     rw[ek] at hy
     clear hL hk hk1 ek
     obtain⟨hl3,hb3⟩:=hb _ _ _ hb'
     refine .inr ⟨go,CIv X.K W.same W.items b dc d (ini mp e) us μ' F1 α1 H1 p (i+1),λσ' H' q=>⟨W.items.length-(i+1),by lia,rfl,hlt,q⟩,λx H3 yy=>?_⟩
     obtain⟨F3,gr,rp⟩:=yl x H3 yy
     have x3:Ex F2 α2 H2 F3 α2 H3:=gr.ex S2.st.ext
     refine⟨F3,α2,ini mp e,μ3,W.items[i],e3,S2.grow gr,rp,hb',λσ4 S4=>?_⟩
     refine⟨F3,α2,e3,μ3,k,μ4,S4,hy,λH5 F5 α5 x5 S5=>?_⟩
     obtain⟨v3,n3,m3⟩:=x3.fr p _ hv n1 n2
     obtain⟨v5,n5,m5⟩:=x5.fr p _ v3 n3 m3
     cases k with
     | false =>
      rw[if_neg Bool.false_ne_true] at hK ⊢
      exact .mk F5 α5 μ4 done rest vs (x2.trans (x3.trans x5)) (S5.back hl3 hb3) n5 m5 v5 (aA.mono (x3.same.trans x5.same) _ _ hr) (Nat.le_succ_of_le hdl) hK hu
     | true =>
      rw[if_pos rfl] at hK ⊢
      obtain⟨y2,μ6,hd,hK⟩:=R.aW hK
      have hd:=R.calm_eq hd
      obtain⟨u,μ7,hfz,hK⟩:=R.aW hK
      obtain⟨us',μ8,hL2,hK⟩:=R.aW hK
      cases hK
      refine⟨F5,α5,e3,μ4,y2,μ6,S5,hd,λv H6 F6 α6 x6 S6 o6=>?_⟩
      obtain⟨v6,n6,m6⟩:=x6.fr p _ v5 n5 m5
      obtain⟨F7,s7,ne7,S7,r7⟩:=m8 S6.st o6 hfz
      have hvl:vs.length<sizeLine:=by
       have:=hr.length
       have hz':W.items.length≤sizeLine:=hz
       lia
      have n7:F7 p=none:=by rw[ne7 p m6];exact n6
      have x7:Ex F1 α1 H1 F7 α6 H6:=x2.trans (x3.trans (x5.trans (x6.trans (Ex.pL s7 ne7))))
      refine⟨p,vs,v,rfl,rfl,v6,hvl,.mk F7 α6 μ7 (done++[u]) us' (vs++[v]) (x7.K2 hp) ?_ n7 m6 aB ?_ ?_ hL2 ?_⟩
      ·exact ((S6.back hl3 hb3).of s7 (List.prefix_refl _) S7).of (aT.refl _) (List.prefix_refl _) (S7.K2 n7 m6)
      ·exact (aA.mono (x3.same.trans (x5.same.trans (x6.same.trans s7))) _ _ hr).append (aA.one r7)
      ·rw[List.length_append,List.length_singleton];lia
      ·rw[hu,List.append_assoc];rfl
   ·rw[if_neg hs] at hL;cases hL
  ·have e1:i=W.items.length:=by lia
   subst e1
   rw[List.drop_length] at hL
   unfold bN at hL
   by_cases hs:W.same μ3
   ·rw[if_pos hs] at hL
    cases hL
    obtain⟨g1,g2⟩:=ok F2 α2 _ H2 x2.same x2.pre S2.st hs
    refine .inl ⟨g2,post p H2 F2 α2 (x1.trans x2) (S1.of x2.same x2.pre S2.st) (x1.was S1.st hp) n1 n2 ⟨vs,hv,?_⟩⟩
    rw[hu,List.append_nil];exact hr
   ·rw[if_neg hs] at hL;cases hL
 ·rw[if_neg hz] at h;exact h.elim
theorem iI{e:Slots}{μ μ':af}{x:SV}(h:aH di mp b dc d e μ=.ok x μ'):∃t,x=.val t:=by
 unfold aH at h
 obtain⟨W,μ1,hW,h⟩:=R.aW h
 obtain⟨us,μ2,hL,h⟩:=R.aW h
 by_cases hz:W.items.length≤szL
 ·rw[if_pos hz] at h;cases h;exact⟨_,rfl⟩
 ·rw[if_neg hz] at h;cases h
theorem mK.imp{X':Cx}{cs:List Expr}{t t':TT}(h:mK X' cs t)(i:∀σ H Q,t' σ H Q→t σ H Q):mK X' cs t':=λpins s σ H Q I q=>h pins s σ H Q I (i σ H Q q)
theorem bw(hx:X.xe=λ_ _=>False)(hS:fM X N' scope mp)(nW:X.calm=true)(hb:qW mp b)(hi:CI X tg iter di)(hg:∀cl C s₀ H₀ ex,CB (cj X N' scope cl C s₀ H₀ ex) tg b)
  (hc:∀cl C s₀ H₀ ex,mK (cj X N' scope cl C s₀ H₀ ex) ifs (tDT (cj X N' scope cl C s₀ H₀ ex) dc)) (he:∀cl C s₀ H₀ ex,CE (cj X N' scope cl C s₀ H₀ ex) elt d) (hs:∀x,foldedSetIterable iter X.env x=pure x:=by intro _;rfl) :
  CF X (.ListComp elt [⟨tg,iter,ifs,0⟩] scope pos) (aH di mp b dc d) :=
 ⟨PE.imp (HD hx hS nW hi (g:=tBd X.K b) hg (λcl C s₀ H₀ ex=>mK.imp (hc cl C s₀ H₀ ex) λσ H Q q=>D_ (X':=cj X N' scope cl C s₀ H₀ ex) q) (te:=oD X.K d) (λcl C s₀ H₀ ex=>PE.imp (he cl C s₀ H₀ ex) λσ H Q q=>Jk (X':=cj X N' scope cl C s₀ H₀ ex) q) hs) λσ H Q q=>ux hb q,λ_ _ _ _ h=>iI h⟩
theorem gS(i:Nat){y:Str}{py D9:Pos}(hx:X.xe=λ_ _=>False)(hS:fM X N' scope mp)(nW:X.calm=true)(hb:qW mp b)(hi:CI X tg iter di)(hg:∀cl C s₀ H₀ ex,CB (cj X N' scope cl C s₀ H₀ ex) tg b)
  (hc:∀cl C s₀ H₀ ex,mK (cj X N' scope cl C s₀ H₀ ex) ifs (tDT (cj X N' scope cl C s₀ H₀ ex) dc)) (he:∀cl C s₀ H₀ ex,CE (cj X N' scope cl C s₀ H₀ ex) elt d) (hN:X.N.Nodup) (hiN:X.N[i]?=some y:=by rfl) (hl:Loc X.env.scope y:=by first|exact Or.inl rfl|exact Or.inr rfl)
  (hsw:swapsWith (.ListComp elt [⟨tg,iter,ifs,0⟩] scope pos) (some (.Name y py)) D9.line X.env=pure true:=by rfl) (hs:∀x,foldedSetIterable iter X.env x=pure x:=by intro _;rfl)
  (hf:X.fn y=true∨X.env.scope.names.lookup y=some .local:=by first|exact .inl rfl|exact .inr rfl|assumption) :
  PS X (.Assign [.Name y py] (.ListComp elt [⟨tg,iter,ifs,0⟩] scope pos) D9) (λD σ H=>tF X (aH di mp b dc d) σ H λv H1=>D.nx (σ.set i (some v)) H1) :=
 PS.imp (xx hx hS nW hi (g:=tBd X.K b) hg (λcl C s₀ H₀ ex=>mK.imp (hc cl C s₀ H₀ ex) λσ H Q q=>D_ (X':=cj X N' scope cl C s₀ H₀ ex) q) (te:=oD X.K d) (λcl C s₀ H₀ ex=>PE.imp (he cl C s₀ H₀ ex) λσ H Q q=>Jk (X':=cj X N' scope cl C s₀ H₀ ex) q) hN hiN hl hsw hs hf) λD σ H q=>ux hb q
theorem iO{st:Stmt}{i:Nat}{da:D}(h:PS X st (λD σ H=>tF X da σ H λv H1=>D.nx (σ.set i (some v)) H1))(hv:∀e μ x μ',da e μ=.ok x μ'→∃t,x=.val t):CS X st (ay i da) :=
 PS.imp h λD σ H ⟨F,α,e,μ,S,h⟩=>xq hv ⟨F,α,e,μ,S,(bc.toS h).mono (λx μ1 h v H1 F1 α1 x1 S1 o1=>h _ H1 F1 α1 x1 (S1.set o1)) λ_ _ h=>h⟩
end
def spD(K:PySem.W.Frag)(fn:FN)(n:Nat):Sp:=λvs H Q _=>vs.length=n∧∃F α μ xs r μ',du K F α μ H∧Paired (λv x=>gR K F α v x) vs xs∧fn xs μ=.ok r μ' ∧
 ∀v H' F' α',Ex F α H F' α' H'→du K F' α' μ' H'→gR K F' α' v r→Q v H'
section
variable{X:Cx}{f:Addr}{fd:FuncData}{ps:List Str}{x:Str}{p pos:Pos}{e:Expr}{es:List Expr}{ds:List D}{fn:FN}{k:Nat}
theorem B5{σ:L2.St}{H:Hp}{Q:VK}(hl:ds.length=ps.length)(h:tD X (au (cal fn) ds) σ H Q):Jg (spD X.K fn ps.length) [] E0 (tDA X ds) σ H Q:=by
 obtain⟨F,α,e,μ,S,h⟩:=h
 refine⟨F,α,e,μ,S,(fR (R.wp_bind h)).mono (λxs μ1 ao vs H1 F1 α1 x1 S1 o1=>?_) λ_ _ h=>h⟩
 obtain⟨hn,h⟩:=ao
 show spD X.K fn ps.length (vs++[]) H1 Q E0
 rw[List.append_nil]
 have h:((fn xs μ1).calm).wp (KR X.K F α H e σ Q) (gy X F α H e):=h
 cases q:fn xs μ1 with
 | err c μ2=>rw[q] at h;exact h.elim
 | bad=>rw[q] at h;exact h.elim
 | ok r μ2 =>
  rw[q] at h
  exact⟨by rw[o1.length,hn,hl],F1,α1,μ1,xs,r,μ2,S1.st,o1,q,λv H2 F2 α2 x2 S2 o2=>h v H2 F2 α2 (x1.trans x2) (S1.of x2.same x2.pre S2) o2⟩
theorem aG(G:aU X.prog X.w X.K X.mg X.base CX0 k f fd ps (spD X.K fn ps.length))(hr:cM k X.A)(hm:X.mg x=some (.ref f))(hk:PySem.W.keepIn X.K (.ref f)=true)(hb:Binds X.K fd ps [])(ha:CA X (e::es) ds)
  (hl:ds.length=ps.length:=by rfl) (hg:Gl X x:=by rfl) (hdb:(x==("__debug__":Str))=false:=by decide) (he:starEach (e::es) X.env=(false,eval e X.env)::starEach es X.env:=by rfl) (hpl:(backTo pos (starEach es X.env)).any (·.1)=false:=by rfl) :
  CE X (.Call (.Name x p) (e::es) [] pos) (au (cal fn) ds):=PE.imp (GY G hr hg hm hk hb .nil MY ha hdb he hpl) λσ H Q q=>B5 hl q
theorem qh{id:String}{r:List V→Hp→VK→Prop}{g:T→Option T}{d:D}(hc:eP X (.builtin id) r)(hs:qR X.K r g)(hm:X.mg x=none)(hv:bootBuiltins x=some (.builtin id))(ha:CE X e d)(hg:Gl X x:=by rfl)(hn:x≠"__name__":=by decide)
  (hdb:(x==("__debug__":Str))=false:=by decide) (hs1:starEach [e] X.env=(false,eval e X.env)::starEach [] X.env:=by rfl) (hpl:(backTo pos (starEach [] X.env)).any (·.1)=false:=by rfl):CE X (.Call (.Name x p) [e] [] pos) (dUn g d) :=
 PE.imp (nJ hc hg hm hv (ah ha aw hs1) hn hdb hs1 hpl) (Jj hs)
theorem Ea{id:String}{r:List V→Hp→VK→Prop}{g:T→Option T}{d:D}(hc:eP X (.type id) r)(hs:qR X.K r g)(hm:X.mg x=none)(hv:bootBuiltins x=some (.type id))(ha:CE X e d)(hg:Gl X x:=by rfl)(hn:x≠"__name__":=by decide)
  (hdb:(x==("__debug__":Str))=false:=by decide) (hs1:starEach [e] X.env=(false,eval e X.env)::starEach [] X.env:=by rfl) (hpl:(backTo pos (starEach [] X.env)).any (·.1)=false:=by rfl):CE X (.Call (.Name x p) [e] [] pos) (dUn g d) :=
 PE.imp (ue hc hg hm hv (ah ha aw hs1) hn hdb hs1 hpl) (Jj hs)
theorem Eb{id:String}{r:List V→Hp→VK→Prop}{g:T→Option T}{d:D}(hc:eP X (.type id) r)(hs:xp X.K r g)(hm:X.mg x=none)(hv:bootBuiltins x=some (.type id))(ha:CE X e d)(hg:Gl X x:=by rfl)(hn:x≠"__name__":=by decide)
  (hdb:(x==("__debug__":Str))=false:=by decide) (hs1:starEach [e] X.env=(false,eval e X.env)::starEach [] X.env:=by rfl) (hpl:(backTo pos (starEach [] X.env)).any (·.1)=false:=by rfl):CF X (.Call (.Name x p) [e] [] pos) (dUn g d) :=
 ⟨PE.imp (ue hc hg hm hv (ah ha aw hs1) hn hdb hs1 hpl) (D3 hs),λ_ _ _ _ h=>AW h⟩
end
inductive Md where
 | V|D|K
def Md.fn:Md→Nat→DS→FN
 | .V=>fnV
 | .D=>fnD
 | .K=>fnK
section
variable{P:Program}{w:World}{K:PySem.W.Frag}{mg:Str→Option Value}{base:Heap}
theorem B6{F H:Hp}{α:List Addr}{μ:af}{N:List Str}{vs:List V}{xs:List SV}(S:du K F α μ H)(o:Paired (λv x=>gR K F α v x) vs xs):Sim K F α (starts N.length xs) μ (L2.start N vs) H:=by
 unfold starts
 have hl:=o.length
 refine⟨S,λi x h=>?_,by unfold L2.start;simp[hl]⟩
 have get:∀{vs:List V}{xs:List SV}{i:Nat}{x:SV},Paired (λv x=>gR K F α v x) vs xs→xs[i]?=some x→∃v,vs[i]?=some v∧gR K F α v x:=λ{vs}=>by
  intro xs i x o
  induction o generalizing i with
  | nil=>intro e;simp at e
  | cons r _ ih =>
   intro e
   cases i with
   | zero=>simp at e;subst e;exact⟨_,rfl,r⟩
   | succ i =>
    obtain⟨v,h1,h2⟩:=ih (i:=i) (by simpa using e)
    exact⟨v,by simpa using h1,h2⟩
 unfold slot at h
 by_cases hi:i<xs.length
 ·rw[List.getElem?_append_left (by simpa using hi),List.getElem?_map] at h
  cases q:xs[i]? with
  | none=>rw[q] at h;cases h
  | some y =>
   rw[q] at h
   cases h
   obtain⟨v,h1,h2⟩:=get o q
   refine⟨v,?_,h2⟩
   unfold L2.start
   rw[List.getElem?_append_left (by simpa [hl] using hi),List.getElem?_map,h1]
   rfl
 ·rw[List.getElem?_append_right (by simpa using hi),List.getElem?_replicate] at h
  split at h<;>rename_i q
  ·split at q<;>cases q
  ·cases h
theorem bT{x qual:Str}{st:Stmt}{f:Addr}{fd:FuncData}{N ps:List Str}{k:Nat}{d:DS}(md:Md)(F:Fun K x qual st f fd)(S:aR N ps (ai st))
  (hb:∀(cdv:Value) (A:Around) (outer:List Env) (s:Shared) (H:Hp) (E:XK),cM k (A.deeper (envOfC qual (ai st) s.heap.objs.size f cdv))→CSs (yA CX0 P w K mg base N qual (ai st) f cdv A outer s H E).nox (aM st) d) :
  aU P w K mg base CX0 (k+1) f fd ps (spD K (md.fn N.length d) ps.length):=by
 refine F.ok S (λvs H Q E h=>h.1) λcdv A outer s H vs Q E hr h=>⟨_,hb cdv A outer s H E hr,?_⟩
 obtain⟨hl,F0,α,μ,xs,r,μ',S0,o,h,post⟩:=h
 refine⟨F0,α,_,μ,B6 S0 o,?_⟩
 have fin:∀{y:SV}{μ1:af}{v:V}{H1 F1:Hp}{α1:List Addr},(match md with
   | .V=>ice μ.length y μ1
   | .D=>gc μ.length y μ1
   | .K=>.ok y μ1)=.ok r μ'→Ex F0 α H F1 α1 H1→du K F1 α1 μ1 H1→gR K F1 α1 v y→Q v H1:=λ{y μ1 v H1 F1 α1} hg x1 S1 o1=>by
  cases md with
  | V =>
   obtain⟨F2,g1,g2,g3,g4⟩:=KQ S0.len x1.pre S1 o1 hg
   exact post v H1 F2 α ⟨x1.same.trans g1,List.prefix_refl _,λb z h1 h2 h3=>let ⟨a1,a2,a3⟩:=x1.fr b z h1 h2 h3;⟨a1,by rw[g2 b a3];exact a2,h3⟩⟩ g3 g4
  | D =>
   obtain⟨γ,g1,g2,g3,g4⟩:=M3 S0.len x1.pre S1 o1 hg
   exact post v H1 F1 γ ⟨x1.same,g1,λb z h1 h2 h3=>let ⟨a1,a2,a3⟩:=x1.fr b z h1 h2 h3;⟨a1,a2,λhm=>a3 (g2 b hm)⟩⟩ g3 g4
  | K =>
   cases hg
   exact post v H1 F1 α1 x1 S1 o1
 cases q:d (starts N.length xs) μ with
 | rt y μ1=>exact λv H1 F1 α1 x1 S1 o1=>fin (by cases md<;>(simp only[Md.fn,fQ,lF,lG,q] at h;exact h)) x1 S1 o1
 | nx e1 μ1=>exact λσ1 H1 F1 α1 x1 S1=>fin (y:=.val .non) (by cases md<;>(simp only[Md.fn,fQ,lF,lG,q] at h;exact h)) x1 S1.st (Rep.M1 (K:=K) (F:=F1))
 | bk e1 μ1=>cases md<;>(simp only[Md.fn,fQ,lF,lG,q] at h;cases h)
 | ct e1 μ1=>cases md<;>(simp only[Md.fn,fQ,lF,lG,q] at h;cases h)
 | err c e1 μ1=>cases md<;>(simp only[Md.fn,fQ,lF,lG,q] at h;cases h)
 | bad=>cases md<;>(simp only[Md.fn,fQ,lF,lG,q] at h;cases h)
end
end Fw
namespace Fw
open PySem
section
variable{α:Type}{μ:List α}{a b c x:α}{l:List α}
@[simp] theorem iz:(μ++a::l)[μ.length]?=some a:=by simp
@[simp] theorem HE:(μ++a::b::l)[μ.length+1]?=some b:=by simp[List.getElem?_append_right]
@[simp] theorem vv:(μ++a::l).set μ.length x=μ++x::l:=by simp
@[simp] theorem HF:(μ++a::b::l).set (μ.length+1) x=μ++a::x::l:=by simp[List.set_append]
@[simp] theorem AY:(μ++l).take μ.length=μ:=by simp
end
@[simp] theorem m9(μ:af)(k:Nat):rd μ (.cel k)=(μ[k]?).map (·.2):=(rfl)
theorem yX{μ:af}{k:Nat}{b:Bool}{t:T}(h:μ[k]?=some (b,t)):frz (.cel k) μ=.ok t (μ.set k (false,t)):=by
 unfold frz;simp only[h]
@[simp] theorem OJ(μ l:af)(b:Bool)(t:T):frz (.cel μ.length) (μ++(b,t)::l)=.ok t (μ++(false,t)::l):=by
 rw[yX (b:=b) (t:=t) (by simp)];simp
@[simp] theorem OK(μ l:af)(a:Bool×T)(b:Bool)(t:T):frz (.cel (μ.length+1)) (μ++a::(b,t)::l)=.ok t (μ++a::(false,t)::l):=by
 rw[yX (b:=b) (t:=t) (by simp)];simp
@[simp] theorem HG(n:Nat)(t:T)(μ:af):ice n (.val t) μ=.ok (.val t) (μ.take n):=(rfl)
@[simp] theorem OL(μ l:af)(b:Bool)(t:T):ice μ.length (.cel μ.length) (μ++(b,t)::l)=.ok (.val t) μ:=by unfold ice;simp
@[simp] theorem nX(μ l:af)(b:Bool)(ts:List T):nR (.cel μ.length) (μ++(b,.lst ts)::l)=some ():=qe (b:=b) (ts:=ts) (by simp)
@[simp] theorem Nf(μ l:af)(a:Bool×T)(b:Bool)(ts:List T):nR (.cel (μ.length+1)) (μ++a::(b,.lst ts)::l)=some ():=qe (b:=b) (ts:=ts) (by simp)
theorem append_at{μ:af}{k:Nat}{ts:List T}{t:T}(h:μ[k]?=some (true,.lst ts))(hl:ts.length<szL):appendAt (.cel k) t μ=some (μ.set k (true,.lst (ts++[t]))):=by
 unfold appendAt;simp only[h];rw[if_pos hl]
theorem kh(μ l:af)(ts:List T)(t:T)(hl:ts.length<szL):appendAt (.cel μ.length) t (μ++(true,.lst ts)::l)=some (μ++(true,.lst (ts++[t]))::l):=by
 rw[append_at (ts:=ts) (by simp) hl];simp
theorem yY(μ l:af)(a:Bool×T)(ts:List T)(t:T)(hl:ts.length<szL):appendAt (.cel (μ.length+1)) t (μ++a::(true,.lst ts)::l)=some (μ++a::(true,.lst (ts++[t]))::l):=by
 rw[append_at (ts:=ts) (by simp) hl];simp
theorem xy{μ:af}{k:Nat}{ts:List T}{t:T}{i:Int}(h:μ[k]?=some (true,.lst ts))(h0:0≤i)(h1:i<ts.length):setAt (.cel k) (.int i) t μ=some (μ.set k (true,.lst (ts.set i.toNat t))):=by
 unfold setAt;simp only[h];unfold ixN;rw[if_pos h0,if_pos h1];rfl
@[simp] theorem uy(m:Nat)(xs:List SV):starts m xs=xs.map some++List.replicate (m-xs.length) none:=(rfl)
theorem qi{α:Type}{xs:List α}{i:Int}(h0:0≤i):atI xs i=xs[i.toNat]?:=by
 unfold atI ixN
 rw[if_pos h0]
 by_cases h:i<xs.length
 ·rw[if_pos h];rfl
 ·rw[if_neg h]
  exact (List.getElem?_eq_none (by lia)).symm
theorem jb{α β:Type}{xs:List α}{f:α→β}{i:Int}(h0:0≤i)(h1:i<xs.length):atI (xs.map f) i=some (f (xs[i.toNat]'(by lia))):=by
 rw[qi h0,List.getElem?_map,List.getElem?_eq_getElem (by lia)];rfl
@[simp] theorem xA{α:Type}(x:α)(xs:List α):atI (x::xs) 0=some x:=by rw[qi (by lia)];rfl
@[simp] theorem AZ{α:Type}(x y:α)(xs:List α):atI (x::y::xs) 1=some y:=by rw[qi (by lia)];rfl
@[simp] theorem HH{α:Type}(x y z:α)(xs:List α):atI (x::y::z::xs) 2=some z:=by rw[qi (by lia)];rfl
def bV(lo:Int)(n:Nat):List Int:=(List.range n).map λ(k:Nat)=>lo+(k:Int)
theorem eW(lo:Int)(n:Nat):bC lo n=(bV lo n).map T.int:=by
 unfold bV
 induction n generalizing lo with
 | zero=>rfl
 | succ n ih =>
  rw[bC,ih (lo+1),List.range_succ_eq_map]
  simp only[List.map_cons,List.map_map]
  congr 1
  ·simp
  ·apply List.map_congr_left
   intro k _
   simp only[Function.comp]
   congr 1
   lia
@[simp] theorem GI(lo:Int)(n:Nat):(bV lo n).length=n:=by simp[bV]
theorem dn{lo:Int}{n:Nat}{k:Int}:k∈bV lo n↔lo≤k∧k<lo+n:=by
 unfold bV
 rw[List.mem_map]
 constructor
 ·rintro⟨j,hj,rfl⟩
  rw[List.mem_range] at hj
  lia
 ·rintro⟨h1,h2⟩
  exact⟨(k-lo).toNat,by rw[List.mem_range];lia,by lia⟩
theorem yZ{lo:Int}{n i:Nat}{k:Int}(h:(bV lo n)[i]?=some k):i<n∧k=lo+i:=by
 unfold bV at h
 rw[List.getElem?_map] at h
 by_cases hi:i<n
 ·rw[List.getElem?_range hi] at h
  cases h
  exact⟨hi,rfl⟩
 ·rw[List.getElem?_eq_none (by simpa using hi)] at h
  cases h
theorem qX{lo:Int}{n i:Nat}{t:T}(h:(bC lo n)[i]?=some t):i<n∧t=.int (lo+i):=by
 rw[eW,List.getElem?_map] at h
 cases q:(bV lo n)[i]? with
 | none=>rw[q] at h;cases h
 | some k =>
  rw[q] at h
  cases h
  obtain⟨h1,rfl⟩:=yZ q
  exact⟨h1,rfl⟩
theorem mB{lo:Int}{n i:Nat}{t:T}(h:(bC lo n)[i]?=some t):∃k:Int,t=.int k∧i<n∧k=lo+i:=by
 obtain⟨h1,rfl⟩:=qX h
 exact⟨_,rfl,h1,rfl⟩
@[simp] theorem cH(lo:Int)(n:Nat):(bC lo n).length=n:=by rw[eW];simp
theorem qY{α:Type}(g:α→Bool)(xs:List α):mZ (.lst (xs.map λk=>T.bl (g k)))=some (.bl (xs.all g)):=by
 have e:(xs.map λk=>T.bl (g k))=(xs.map g).map T.bl:=by simp
 rw[e,DU];simp[List.all_map]
theorem lJ{α:Type}(g:α→Bool)(xs:List α):lD (.lst (xs.map λk=>T.bl (g k)))=some (.bl (xs.any g)):=by
 have e:(xs.map λk=>T.bl (g k))=(xs.map g).map T.bl:=by simp
 rw[e,DV];simp[List.any_map]
theorem xB{α:Type}(g:α→Int)(xs:List α):qL (.lst (xs.map λk=>T.int (g k)))=some (.int (xs.map g).sum):=by
 have e:(xs.map λk=>T.int (g k))=(xs.map g).map T.int:=by simp
 rw[e,BZ]
def RS.y9(r:RS)(J:Slots→af→Prop)(P:RS→Prop):Prop:=match r with
 | .nx e μ=>J e μ
 | .ct e μ=>J e μ
 | .bk e μ=>P (.nx e μ)
 | r=>P r
@[simp] theorem A0(e:Slots)(μ:af)(J:Slots→af→Prop)(P:RS→Prop):(RS.nx e μ).y9 J P=J e μ:=(rfl)
@[simp] theorem HI(x:SV)(μ:af)(J:Slots→af→Prop)(P:RS→Prop):(RS.rt x μ).y9 J P=P (.rt x μ):=(rfl)
theorem nY{same:af→Prop}{b:BD}{body:DS}(P:RS→Prop)(I:Nat→Slots→af→Prop)(hs:∀i e μ,I i e μ→same μ){ts:List T}
  (step:∀i t e μ,ts[i]?=some t→I i e μ→∃e1,b t e=some e1∧(body e1 μ).y9 (I (i+1)) P) (fin:∀e μ,I ts.length e μ→P (.nx e μ)) {e:Slots}{μ:af} (h:I 0 e μ):P (forL same b body ts e μ):=by
 have all:∀(us:List T) (i:Nat) (e:Slots) (μ:af),ts.drop i=us→I i e μ→i≤ts.length→P (forL same b body us e μ):=by
  intro us
  induction us with
  | nil =>
   intro i e μ hd hI hi
   have hl:ts.length≤i:=by
    have:=congrArg List.length hd
    simp at this
    lia
   have e1:i=ts.length:=by lia
   subst e1
   unfold forL
   rw[if_pos (hs _ _ _ hI)]
   exact fin e μ hI
  | cons t us ih =>
   intro i e μ hd hI hi
   have hlt:i<ts.length:=by
    have:=congrArg List.length hd
    simp at this
    lia
   have hg:ts[i]?=some t:=by
    have:(ts.drop i)[0]?=some t:=by rw[hd];rfl
    rw[List.getElem?_drop] at this
    simpa using this
   have hd':ts.drop (i+1)=us:=by
    rw[← List.tail_drop,hd];rfl
   obtain⟨e1,h1,h2⟩:=step i t e μ hg hI
   unfold forL
   rw[if_pos (hs _ _ _ hI)]
   simp only[h1]
   cases q:body e1 μ with
   | nx e2 μ2=>rw[q] at h2;exact ih (i+1) e2 μ2 hd' h2 hlt
   | ct e2 μ2=>rw[q] at h2;exact ih (i+1) e2 μ2 hd' h2 hlt
   | bk e2 μ2=>rw[q] at h2;exact h2
   | rt x μ2=>rw[q] at h2;exact h2
   | err c e2 μ2=>rw[q] at h2;exact h2
   | bad=>rw[q] at h2;exact h2
 exact all ts 0 e μ rfl h (Nat.zero_le _)
theorem fB{same:af→Prop}{b:BD}{body:DS}(I:Nat→Slots→af→Prop)(hs:∀i e μ,I i e μ→same μ){ts:List T}
  (step:∀i t e μ,ts[i]?=some t→I i e μ→∃e1 e2 μ2,b t e=some e1∧body e1 μ=.nx e2 μ2∧I (i+1) e2 μ2) {e:Slots}{μ:af} (h:I 0 e μ):∃e' μ',forL same b body ts e μ=.nx e' μ'∧I ts.length e' μ' :=
 nY (P:=λr=>∃e' μ',r=.nx e' μ'∧I ts.length e' μ') I hs (λi t e μ ht hI=>by
  obtain⟨e1,e2,μ2,h1,h2,h3⟩:=step i t e μ ht hI
  exact⟨e1,h1,by rw[h2];exact h3⟩) (λe μ hI=>⟨e,μ,rfl,hI⟩) h
theorem fJ{same:af→Prop}{b:BD}{c d:D}{e:Slots}{μ:af}(p:Int→Bool)(g:Int→T)(hs:same μ)(ns:List Int)
  (h:∀n∈ns,∃e1,b (.int n) e=some e1∧c e1 μ=.ok (.val (.bl (p n))) μ∧(p n=true→d e1 μ=.ok (.val (g n)) μ)):bN same b c d e (ns.map T.int) μ=.ok ((ns.filter p).map g) μ:=by
 induction ns with
 | nil=>unfold bN;rw[List.map_nil];simp only;rw[if_pos hs];rfl
 | cons n ns ih =>
  obtain⟨e1,h1,h2,h3⟩:=h n List.mem_cons_self
  have ih:=ih λu hu=>h u (List.mem_cons_of_mem _ hu)
  rw[List.map_cons]
  unfold bN
  rw[if_pos hs]
  simp only[h1,h2,R.dJ,R.aZ,iM,R.aV]
  cases q:p n with
  | true=>rw[if_pos rfl,h3 q];simp[q,ih]
  | false=>rw[if_neg Bool.false_ne_true,ih];simp[q]
theorem iJ{same:af→Prop}{b:BD}{d:D}{e:Slots}{μ:af}(g:Int→T)(hs:same μ)(ns:List Int)
  (h:∀n∈ns,∃e1,b (.int n) e=some e1∧d e1 μ=.ok (.val (g n)) μ):bN same b (dC (.bl true)) d e (ns.map T.int) μ=.ok (ns.map g) μ:=by
 have:=fJ (same:=same) (b:=b) (c:=dC (.bl true)) (d:=d) (e:=e) (μ:=μ) (λ_=>true) g hs ns λn hn=>by
  obtain⟨e1,h1,h2⟩:=h n hn
  exact⟨e1,h1,rfl,λ_=>h2⟩
 rw[this]
 congr 2
 exact List.filter_eq_self.mpr λ_ _=>rfl
theorem iP{α:Type}{same:af→Prop}{b:BD}{c d:D}{e:Slots}{μ:af}(f:α→T)(p:α→Bool)(g:α→T)(hs:same μ)(as:List α)
  (h:∀a∈as,∃e1,b (f a) e=some e1∧c e1 μ=.ok (.val (.bl (p a))) μ∧(p a=true→d e1 μ=.ok (.val (g a)) μ)):bN same b c d e (as.map f) μ=.ok ((as.filter p).map g) μ:=by
 induction as with
 | nil=>unfold bN;rw[List.map_nil];simp only;rw[if_pos hs];rfl
 | cons n ns ih =>
  obtain⟨e1,h1,h2,h3⟩:=h n List.mem_cons_self
  have ih:=ih λu hu=>h u (List.mem_cons_of_mem _ hu)
  rw[List.map_cons]
  unfold bN
  rw[if_pos hs]
  simp only[h1,h2,R.dJ,R.aZ,iM,R.aV]
  cases q:p n with
  | true=>rw[if_pos rfl,h3 q];simp[q,ih]
  | false=>rw[if_neg Bool.false_ne_true,ih];simp[q]
theorem dy{α:Type}{same:af→Prop}{b:BD}{d:D}{e:Slots}{μ:af}(f:α→T)(g:α→T)(hs:same μ)(as:List α)
  (h:∀a∈as,∃e1,b (f a) e=some e1∧d e1 μ=.ok (.val (g a)) μ):bN same b (dC (.bl true)) d e (as.map f) μ=.ok (as.map g) μ:=by
 have:=iP (same:=same) (b:=b) (c:=dC (.bl true)) (d:=d) (e:=e) (μ:=μ) f (λ_=>true) g hs as λn hn=>by
  obtain⟨e1,h1,h2⟩:=h n hn
  exact⟨e1,h1,rfl,λ_=>h2⟩
 rw[this]
 congr 2
 exact List.filter_eq_self.mpr λ_ _=>rfl
theorem oW(xs ys:List Int):jL (xs.map T.int) (ys.map T.int)=(xs.zip ys).map λq=>.tup [.int q.1,.int q.2]:=by
 induction xs generalizing ys with
 | nil=>rfl
 | cons x xs ih =>
  cases ys with
  | nil=>rfl
  | cons y ys=>simp[jL,ih]
theorem qZ(ts us:List T):(jL ts us).length=min ts.length us.length:=by
 induction ts generalizing us with
 | nil=>simp[jL]
 | cons t ts ih =>
  cases us with
  | nil=>simp[jL]
  | cons u us=>simp[jL,ih]
theorem jc{c:D}{body:DS}:∀(n m:Nat) (e:Slots) (μ:af),n≤m→cI c body n e μ≠.bad→cI c body m e μ=cI c body n e μ
 | 0,m,e,μ,_,h=>absurd rfl h
 | n+1,0,e,μ,h,_=>absurd h (by lia)
 | n+1,m+1,e,μ,hnm,h=>by
  unfold cI at h ⊢
  cases q:c e μ with
  | err x μ1=>simp only[R.Ht]
  | bad=>rw[q] at h;exact absurd rfl h
  | ok x μ1 =>
   rw[q] at h
   simp only[R.cp] at h ⊢
   cases q2:asB x with
   | none=>rw[q2] at h;exact absurd rfl h
   | some k =>
    rw[q2] at h
    simp only[R.aV,R.cp] at h ⊢
    cases k with
    | false=>rfl
    | true =>
     rw[if_pos rfl] at h ⊢
     rw[if_pos rfl]
     cases q3:body e μ1 with
     | nx e2 μ2=>rw[q3] at h;simp only at h ⊢;exact jc n m e2 μ2 (by lia) h
     | ct e2 μ2=>rw[q3] at h;simp only at h ⊢;exact jc n m e2 μ2 (by lia) h
     | bk e2 μ2=>rfl
     | rt x μ2=>rfl
     | err x e2 μ2=>rfl
     | bad=>rfl
theorem B7{c:D}{body:DS}{n:Nat}{e:Slots}{μ:af}(h:cI c body n e μ≠.bad):jw c body e μ=cI c body n e μ:=by
 have hn:∃n,cI c body n e μ≠.bad:=⟨n,h⟩
 unfold jw
 rw[dif_pos hn]
 have h2:=hn.choose_spec
 rcases Nat.le_total n hn.choose with z|z
 ·exact jc _ _ _ _ z h
 ·exact (jc _ _ _ _ z h2).symm
theorem q5{c:D}{body:DS}(P:RS→Prop)(hP:¬ P .bad)(I:Nat→Slots→af→Prop)
  (step:∀m e μ,I m e μ→∃k μ1,c e μ=.ok (.val (.bl k)) μ1∧if k=true then (body e μ1).y9 (λe2 μ2=>∃m',m'<m∧I m' e2 μ2) P else P (.nx e μ1)) :
  ∀(m:Nat) (e:Slots) (μ:af),I m e μ→P (jw c body e μ):=by
 have key:∀(m:Nat) (e:Slots) (μ:af),I m e μ→∃n,P (cI c body n e μ):=by
  intro m
  induction m using Nat.strongRecOn with
  | ind m ih =>
   intro e μ hI
   obtain⟨k,μ1,h1,h2⟩:=step m e μ hI
   cases k with
   | false =>
    refine⟨1,?_⟩
    unfold cI
    simp only[h1,R.cp,iM,R.aV,Bool.false_eq_true,if_false]
    exact h2
   | true =>
    rw[if_pos rfl] at h2
    cases q:body e μ1 with
    | nx e2 μ2 =>
     rw[q] at h2
     obtain⟨m',hm,hI'⟩:=h2
     obtain⟨n,hn⟩:=ih m' hm e2 μ2 hI'
     refine⟨n+1,?_⟩
     unfold cI
     simp only[h1,R.cp,iM,R.aV,if_true,q]
     exact hn
    | ct e2 μ2 =>
     rw[q] at h2
     obtain⟨m',hm,hI'⟩:=h2
     obtain⟨n,hn⟩:=ih m' hm e2 μ2 hI'
     refine⟨n+1,?_⟩
     unfold cI
     simp only[h1,R.cp,iM,R.aV,if_true,q]
     exact hn
    | bk e2 μ2 =>
     rw[q] at h2
     refine⟨1,?_⟩
     unfold cI
     simp only[h1,R.cp,iM,R.aV,if_true,q]
     exact h2
    | rt x μ2 =>
     rw[q] at h2
     refine⟨1,?_⟩
     unfold cI
     simp only[h1,R.cp,iM,R.aV,if_true,q]
     exact h2
    | err x e2 μ2 =>
     rw[q] at h2
     refine⟨1,?_⟩
     unfold cI
     simp only[h1,R.cp,iM,R.aV,if_true,q]
     exact h2
    | bad=>rw[q] at h2;exact absurd h2 hP
 intro m e μ hI
 obtain⟨n,hn⟩:=key m e μ hI
 rw[B7 (n:=n) (λz=>hP (z ▸ hn))]
 exact hn
def uz:T→Option Key
 | .int i=>some (.inl i)
 | .str x=>some (.inr x)
 | _=>none
@[simp] theorem B8(i:Int):uz (.int i)=some (.inl i):=(rfl)
def lK(kts:List (Key×T))(k:Key):Option T:=(kts.find? λkv=>decide (kv.1=k)).map (·.2)
def q_(kts:List (Key×T))(k:Key)(t:T):List (Key×T) :=
 if (kts.any λkv=>decide (kv.1=k))=true then kts.map (λkv=>if kv.1=k then (kv.1,t) else kv) else kts++[(k,t)]
def iu:T→T→Option T
 | .dct kts,u=>(uz u).bind λk=>lK kts k
 | _,_=>none
@[simp] theorem uA(kts:List (Key×T))(i:Int):iu (.dct kts) (.int i)=lK kts (.inl i):=(rfl)
def m_(x:SV)(k:T)(t:T)(μ:af):Option af:=match x with
 | .cel c=>match μ[c]? with
  | some (true,.dct kts)=>(uz k).bind λkk=>if kts.length<szL then some (μ.set c (true,.dct (q_ kts kk t))) else none
  | _=>none
 | _=>none
def jM(i:Nat)(dk dv:D):DS:=λe μ=>(dv e μ).toS e λy μ1=>(R.lift (slot e i) μ1).toS e λx μ1=>(dk e μ1).toS e λz μ2=>(R.lift (rd μ2 z) μ2).toS e λk μ2 =>
 (frz y μ2).toS e λt μ3=>(R.lift (m_ x k t μ3) μ3).toS e λμ4 _=>.nx e μ4
@[simp] theorem rf(i:Nat)(dk dv:D)(e:Slots)(μ:af):jM i dk dv e μ=(dv e μ).toS e λy μ1=>(R.lift (slot e i) μ1).toS e λx μ1=>(dk e μ1).toS e λz μ2=>(R.lift (rd μ2 z) μ2).toS e λk μ2 =>
 (frz y μ2).toS e λt μ3=>(R.lift (m_ x k t μ3) μ3).toS e λμ4 _=>.nx e μ4:=(rfl)
theorem oX{μ:af}{c:Nat}{kts:List (Key×T)}{i:Int}{t:T}(h:μ[c]?=some (true,.dct kts))(hl:kts.length<szL):m_ (.cel c) (.int i) t μ=some (μ.set c (true,.dct (q_ kts (.inl i) t))):=by
 unfold m_
 simp only[h,B8,Option.bind_some,hl,if_true]
def fK(kts:List (Key×T)):List T:=kts.map λp=>.tup [vi p.1,p.2]
def asD:T→Option (List (Key×T))
 | .dct kts=>some kts
 | _=>none
@[simp] theorem A1(kts:List (Key×T)):asD (.dct kts)=some kts:=(rfl)
def kj(d:D):DI:=λe μ=>(d e μ).bind λx μ1=>(R.lift ((rd μ1 x).bind asD) μ1).bind λkts μ1=>.ok ⟨fK kts,λμ'=>rd μ' x=rd μ1 x⟩ μ1
@[simp] theorem oY(d:D)(e:Slots)(μ:af):kj d e μ=(d e μ).bind λx μ1=>(R.lift ((rd μ1 x).bind asD) μ1).bind λkts μ1=>.ok ⟨fK kts,λμ'=>rd μ' x=rd μ1 x⟩ μ1:=(rfl)
def iQ(i:Int):List T→List T
 | []=>[]
 | t::ts=>.tup [.int i,t]::iQ (i+1) ts
theorem uB:∀(i:Int) (ts:List T),(iQ i ts).length=ts.length
 | i,[]=>rfl
 | i,t::ts=>by simp[iQ,uB (i+1) ts]
theorem uC:∀{i:Int}{ts:List T}{j:Nat}{t:T},(iQ i ts)[j]?=some t→∃a,ts[j]?=some a∧t=.tup [.int (i+j),a]
 | i,[],j,t,h=>by simp[iQ] at h
 | i,a::ts,0,t,h=>by simp[iQ] at h;exact⟨a,rfl,by simp[← h]⟩
 | i,a::ts,j+1,t,h=>by
  obtain⟨b,h1,h2⟩:=uC (i:=i+1) (ts:=ts) (j:=j) (t:=t) (by simpa [iQ] using h)
  refine⟨b,by simpa using h1,?_⟩
  rw[h2,show i+1+(j:Int)=i+((j+1:Nat):Int) by lia]
theorem Ec(i:Int)(ts:List T)(j:Nat):(iQ i ts)[j]?=(ts[j]?).map λt=>.tup [.int (i+j),t]:=by
 induction ts generalizing i j with
 | nil=>simp[iQ]
 | cons a ts ih =>
  cases j with
  | zero=>simp[iQ]
  | succ j=>simp only[iQ,List.getElem?_cons_succ,ih];congr 1;funext t;rw[show i+1+(j:Int)=i+((j+1:Nat):Int) by lia]
def xC(d:D):DI:=λe μ=>(d e μ).bind λx μ1=>(R.lift ((rd μ1 x).bind bS) μ1).bind λts μ1=>.ok ⟨iQ 0 ts,λμ'=>rd μ' x=rd μ1 x⟩ μ1
@[simp] theorem Ed(d:D)(e:Slots)(μ:af):xC d e μ=(d e μ).bind λx μ1=>(R.lift ((rd μ1 x).bind bS) μ1).bind λts μ1=>.ok ⟨iQ 0 ts,λμ'=>rd μ' x=rd μ1 x⟩ μ1:=(rfl)
def gT:T→Bool
 | .non=>true
 | .bl _=>true
 | .int _=>true
 | .str _=>true
 | _=>false
def inT(t:T)(us:List T):Bool:=us.any λy=>eqT y t
def fIn(t u:T):Option T:=match bS u with
 | some us=>if (gT t && us.all gT)=true then some (.bl (inT t us)) else none
 | none=>none
def nZ(t u:T):Option T:=match bS u with
 | some us=>if (gT t && us.all gT)=true then some (.bl (!inT t us)) else none
 | none=>none
@[simp] theorem eX(ns:List Int):(ns.map T.int).all gT=true:=by simp[gT]
theorem lL(i:Int)(ns:List Int):inT (.int i) (ns.map T.int)=decide (i∈ns):=by
 unfold inT
 rw[Bool.eq_iff_iff,decide_eq_true_iff,List.any_eq_true]
 constructor
 ·rintro⟨t,ht,he⟩
  obtain⟨j,hj,rfl⟩:=List.mem_map.mp ht
  rw[AM,beq_iff_eq] at he
  exact he ▸ hj
 ·intro h
  exact⟨_,List.mem_map.mpr ⟨i,h,rfl⟩,by rw[AM,beq_iff_eq]⟩
@[simp] theorem xD(i:Int)(ns:List Int):fIn (.int i) (.lst (ns.map T.int))=some (.bl (decide (i∈ns))):=by
 unfold fIn
 simp only[eK,eX,Bool.and_true,lL]
 rfl
def Ng:T→T→Option T
 | .int i,.int j=>if 0≤i∧j=1 then some (.int (i%2)) else none
 | _,_=>none
@[simp] theorem B9(i:Int)(h:0≤i):Ng (.int i) (.int 1)=some (.int (i%2)):=if_pos ⟨h,rfl⟩
def vw:T→Option T
 | .int i=>some (.int i)
 | .bl b=>some (.int (if b then 1 else 0))
 | _=>none
@[simp] theorem Ee(i:Int):vw (.int i)=some (.int i):=(rfl)
@[simp] theorem HJ(b:Bool):vw (.bl b)=some (.int (if b then 1 else 0)):=(rfl)
def asV:SV→Option T
 | .val t=>some t
 | _=>none
@[simp] theorem HK(t:T):asV (.val t)=some t:=(rfl)
def xE(is:List Nat)(d:D):DS:=λe μ=>(d e μ).toS e λx μ1=>(R.lift ((asV x).bind λt=>ee is t e) μ1).toS e λe' μ1=>.nx e' μ1
@[simp] theorem HL(is:List Nat)(d:D)(e:Slots)(μ:af):xE is d e μ=(d e μ).toS e λx μ1=>(R.lift ((asV x).bind λt=>ee is t e) μ1).toS e λe' μ1=>.nx e' μ1:=(rfl)
@[simp] theorem Ef(i j k:Nat)(t u v:T)(e:Slots):ee [i,j,k] (.tup [t,u,v]) e=some (((e.set i (some (.val t))).set j (some (.val u))).set k (some (.val v))):=(rfl)
def A2(x:SV)(μ:af):Option af:=match x with
 | .cel k=>match μ[k]? with
  | some (true,.lst _)=>some (μ.set k (true,.lst []))
  | _=>none
 | _=>none
def K3(o:D):DS:=λe μ=>(o e μ).toS e λx μ0=>(R.lift (A2 x μ0) μ0).toS e λμ1 _=>.nx e μ1
@[simp] theorem B_(o:D)(e:Slots)(μ:af):K3 o e μ=(o e μ).toS e λx μ0=>(R.lift (A2 x μ0) μ0).toS e λμ1 _=>.nx e μ1:=(rfl)
def Pr:T→Option T
 | .lst ts=>some (.lst ts.reverse)
 | _=>none
@[simp] theorem Eg(ts:List T):Pr (.lst ts)=some (.lst ts.reverse):=(rfl)
theorem gJ{us:List Value}{n:Nat}(h:us.length=n+1):∃a as,us=a::as:=by
 cases us with
 | nil=>cases h
 | cons a as=>exact⟨a,as,rfl⟩
def ef:T→T→Option T
 | .int i,.int j=>if j=1 then some (.int (i%2)) else none
 | _,_=>none
theorem y_(i:Int):ef (.int i) (.int 1)=some (.int (i%2)):=by unfold ef;exact if_pos rfl
def za(x:Int):List Int→List Int
 | []=>[x]
 | y::r=>if y<x then y::za x r else x::y::r
def rg(ns:List Int):List Int:=ns.foldr za []
theorem oZ(x:Int):∀l,(za x l).Perm (x::l)
 | []=>.refl _
 | y::r=>by
  unfold za;split
  ·exact ((oZ x r).cons y).trans (.swap _ _ _)
  ·exact .refl _
theorem mC:∀ns,(rg ns).Perm ns
 | []=>.refl _
 | x::r=>(oZ x _).trans ((mC r).cons x)
theorem rh(x:Int):∀l:List Int,l.Pairwise (·≤·)→(za x l).Pairwise (·≤·)
 | [],_=>by simp[za]
 | y::r,h=>by
  obtain⟨h1,h2⟩:=List.pairwise_cons.mp h
  unfold za;split
  ·refine List.pairwise_cons.mpr ⟨λz hz=>?_,rh x r h2⟩
   rcases List.mem_cons.mp ((oZ x r).mem_iff.mp hz) with rfl|hz
   ·omega
   ·exact h1 z hz
  ·refine List.pairwise_cons.mpr ⟨λz hz=>?_,h⟩
   rcases List.mem_cons.mp hz with rfl|hz
   ·omega
   ·have:=h1 z hz;omega
theorem nc:∀ns,(rg ns).Pairwise (·≤·)
 | []=>.nil
 | x::r=>rh x _ (nc r)
theorem HM{ns ns':List Int}(hp:ns'.Perm ns)(hs:ns'.Pairwise (·≤·)):ns'=rg ns :=
 List.Perm.eq_of_pairwise (λ_ _ _ _ a b=>Int.le_antisymm a b) hs (nc ns) (hp.trans (mC ns).symm)
end Fw
namespace Fw
open PySem L2 PyProof.Rows
section
variable{P:Program}{w:World}{K:PySem.W.Frag}{mg:Str→Option Value}{base:Heap}
end
section
variable{X:Cx}{f:Addr}{fd:FuncData}{ps:List Str}{x:Str}{p pos:Pos}{e:Expr}{es:List Expr}{ds:List D}{fn:FN}{k:Nat}
end
section
variable{X:Cx}{pins:List (Addr×Obj)}{σ:L2.St}{H:Hp}{s:Shared}
end
end Fw
namespace L2
open PySem PySem.Spec PyProof.Rows
section
variable{prog:Program}{w:World}{A:Around}{E:Value→Shared→Prop}{s:Shared}{e C:Addr}{bm:List Value}{Q:Value→Shared→Prop}{c:Value}
end
end L2
namespace Fw
open PySem L2 PyProof.Rows
section
variable{X:Cx}{n x:Str}{C D:Addr}{np pos tp:Pos}{name:Option Str}{body tl:List Stmt}{b₀:Stmt}{rest:List ExceptHandler}{d:DS}
end
section
variable{X:Cx}{D:Addr}{T:String}{x:Str}{p p2 pos:Pos}{a:Expr}{da:Fw.D}{ns:List Str}
end
end Fw
namespace L2
open PySem PySem.Spec PySem.Calls PySem.W PyProof.Rows Builtin Builtin.ObjectAttr Builtin.Getset_descriptor
section
variable{prog:Program}{w:World}{A:Around}{E:Value→Shared→Prop}{s:Shared}{K:Frag}{x C:Addr}
end
end L2
namespace Fw
open PySem L2 PyProof.Rows
section
variable{X:Cx}{D:Addr}{Tn:String}{x:Str}{p p2 pos:Pos}{a:Expr}{da:Fw.D}{f:Str→Option Bool}
end
end Fw
namespace Fw.H
open PySem Fw
def lM(p:Int):Prop:=p∈([2,3,5,7,11,13,17,19,23,29,31,37,41,43,47,53,59,61,67,71,73,79,83,89,97]:List Int)
theorem lM.pos{p:Int}(h:lM p):2≤p∧p≤97:=by
 have key:∀p∈([2,3,5,7,11,13,17,19,23,29,31,37,41,43,47,53,59,61,67,71,73,79,83,89,97]:List Int),2≤p∧p≤97:=by decide +kernel
 exact key p h
end Fw.H
namespace Fw
open PySem PySem.Spec PyProof.Rows L2
structure Gf(K:PySem.W.Frag)(mg:Str→Option Value)(x:Str)(st:Stmt)(ps:List Str)(f:Addr)(fd:FuncData):Prop where
 F:Fun K x x st f fd
 b:Binds K fd ps []
 m:mg x=some (.ref f)
def iR(scope so:Scope):Scope:={ scope with names:=scope.names.map λ(n,k)=>if (k==.free && so.kind==.function && so.names.lookup n==some .cell) then (n,.cell) else (n,k) }
def vx(N N':List Str)(scope so:Scope)(mp:List (Option Nat)):Prop :=
 scope.kind=.function∧(scope.names.filter λy=>y.2==NameKind.cell).length≤1∧(scope.names.map (·.1)).Nodup∧(∀y∈scope.names,(y.2=.local→scope.names.lookup y.1=some .local)∧(y.2=.free→(so.names.lookup y.1=some .cell∨so.names.lookup y.1=some .free) ∧
  ((iR scope so).names.lookup y.1=some .cell∨(iR scope so).names.lookup y.1=some .free)))∧mp.length=N'.length ∧
 ∀q∈mp.zip N',match q.1 with
  | none=>True
  | some j=>N[j]?=some q.2∧(q.2,NameKind.free)∈scope.names∧(so.names.lookup q.2=some .cell∨so.names.lookup q.2=some .free)
noncomputable instance (N N' : List Str) (scope so : Scope) (mp : List (Option Nat)) : Decidable (vx N N' scope so mp) := by
 unfold vx
 have:∀q:Option Nat×Str,Decidable (match q.1 with
  | none=>True
  | some j=>N[j]?=some q.2∧(q.2,NameKind.free)∈scope.names∧(so.names.lookup q.2=some .cell∨so.names.lookup q.2=some .free)):=λq=>by
  cases q.1<;>infer_instance
 infer_instance
theorem mP{α:Type}{x:Str}{k:α}:∀{l:List (Str×α)},(l.map (·.1)).Nodup→(x,k)∈l→l.lookup x=some k
 | [],_,h=>by cases h
 | (y,k')::l,nd,h=>by
  have nd':=List.nodup_cons.mp (by simpa using nd:(y::l.map (·.1)).Nodup)
  rw[List.lookup_cons]
  rcases List.mem_cons.mp h with e|h
  ·cases e;simp
  ·have:(x==y)=false:=by
    have:x≠y:=λq=>nd'.1 (List.mem_map.mpr ⟨_,h,q⟩)
    simpa using this
   rw[this]
   exact mP nd'.2 h
theorem az{X:Cx}{N':List Str}{scope:Scope}{mp:List (Option Nat)}(so:Scope)(hso:X.env.scope=so)(N:List Str)(hN:X.N=N)(h:vx N N' scope so mp):fM X N' scope mp:=by
 subst hso
 subst hN
 obtain⟨h1,hc1,hnd,h2,h3,h4⟩:=h
 have er:(relabel scope X.env).names=(iR scope X.env.scope).names:=rfl
 refine⟨h1,hc1,hnd,λy hy=>(h2 y hy).1,λy hy hf=>((h2 y hy).2 hf).1,h3,λi j hij=>?_,λx hx=>?_,λx hx=>?_⟩
 ·have hi:i<mp.length:=(List.getElem?_eq_some_iff.mp hij).1
  have hz:(mp.zip N')[i]?=some (some j,N'[i]'(by omega)):=by
   rw[List.getElem?_zip_eq_some]
   exact⟨hij,by simp⟩
  have:=h4 _ (List.mem_of_getElem? hz)
  exact⟨_,by simp,this⟩
 ·rw[er];exact ((h2 _ hx).2 rfl).2
 ·rw[er] at hx
  have mem:∀k,(iR scope X.env.scope).names.lookup x=some k→(k=.cell∨k=.free)→(x,NameKind.free)∈scope.names∨scope.names.lookup x=some .cell:=λk hk hkk=>by
   have hm:=PySem.mem_of_lookup hk
   unfold iR at hm
   obtain⟨⟨n,k'⟩,hm1,hm2⟩:=List.mem_map.mp hm
   by_cases hc:(k'==.free && X.env.scope.kind==.function && X.env.scope.names.lookup n==some .cell)=true
   ·simp only[hc,if_true] at hm2
    cases hm2
    have:k'=.free:=by
     simp only[Bool.and_eq_true,beq_iff_eq] at hc
     exact hc.1.1
    subst this
    exact .inl hm1
   ·simp only[hc,if_false] at hm2
    cases hm2
    rcases hkk with rfl|rfl
    ·exact .inr (mP hnd hm1)
    ·exact .inl hm1
  rcases hx with hx|hx
  ·exact mem _ hx (.inl rfl)
  ·exact mem _ hx (.inr rfl)
theorem fS{X0:Cx}{N' N2:List Str}{scope Eh:Scope}{cl:List (Str×Addr)}{C:Addr}{s₀:Shared}{H₀:Hp}{ex:List Addr}{mp:List (Option Nat)}(so:Scope)(hso:X0.env.scope=so)(h:vx N' N2 Eh (iR scope so) mp) :
  fM (cj X0 N' scope cl C s₀ H₀ ex) N2 Eh mp:=az (iR scope so) (by subst hso;rfl) N' rfl h
theorem K4{K:PySem.W.Frag}{fn:FN}{H:Hp}{a:Addr}{ns:List Int}(K5:∀ns:List Int,ns.length≤63→∃μ',fn [.val (.lst (ns.map T.int))] []=.ok (.val (.bl true)) μ')(hl:ns.length≤63)(hS:SqL K H a (ns.map V.int))(hO:G9 H) :
  spD K fn 1 [.ref a] H (λv _=>v=.bl true) (λ_ _ _=>False):=by
 obtain⟨μ',h⟩:=K5 ns hl
 refine⟨rfl,H,[],[],_,_,μ',⟨aT.refl _,rfl,List.nodup_nil,λk a h=>by simp at h,λk b t a h=>by simp at h,λb xs q=>by rcases hO b with z|⟨_,_,z⟩<;>(rw[z] at q;cases q)⟩,.cons ?_ .nil,h,λv H' F' α' _ _ o=>Rep.gx (K:=K) (F:=F') o⟩
 show Rep K H (.lst (ns.map T.int)) (.ref a)
 rw[Rep]
 exact⟨a,_,rfl,hS,aA.qf ns⟩
section
variable{K:PySem.W.Frag}
theorem Now.ng{F H:Hp}{v:V}{ts:List T}(h:Now K F H v (.lst ts)):∃a vs,v=.ref a∧SqL K H a vs∧aA K F ts vs:=h
theorem Now.pU{F H:Hp}{v:V}{ts:List T}(h:Now K F H v (.tup ts)):∃a vs,v=.ref a∧SqT K F a vs∧aA K F ts vs:=h
theorem kl{r:R2}{f:T→T→Option T}(g:Int→Int→T)(gV:Int→Int→V)(C:Int→Int→Prop)(hr:∀i j H Q,C i j→Q (gV i j) H→r (.int i) (.int j) H Q)
  (hf:∀t u w,f t u=some w→∃i j,t=.int i∧u=.int j∧w=g i j∧C i j) (hg:∀F i j,Rep K F (g i j) (gV i j)):d9 K r f:=by
 intro F H v u t t' w Q s hv hu hw q
 obtain⟨i,j,rfl,rfl,rfl,hc⟩:=hf _ _ _ hw
 cases hv.int
 cases hu.int
 exact hr i j H Q hc (q _ H F bL.refl (hg F i j))
theorem HN:d9 K (rI0 λi j=>.int (i-j)) qH:=kl (λi j=>.int (i-j)) (λi j=>.int (i-j)) (λ_ _=>True) (λi j H Q _ q=>⟨i,j,rfl,rfl,q⟩)
 (λt u w h=>by cases t<;>cases u<;>first|(cases h;exact⟨_,_,rfl,rfl,rfl,trivial⟩)|cases h) λF i j=>Rep.i_ _
theorem HP:d9 K (rI (λ_ j=>0<j) λi j=>.int (i%j)) aP:=kl (λi j=>.int (i%j)) (λi j=>.int (i%j)) (λ_ j=>0<j) (λi j H Q c q=>⟨i,j,rfl,rfl,c,q⟩)
 (λt u w h=>by
  cases t<;>cases u<;>first|cases h|skip
  rename_i i j
  by_cases hj:0<j
  ·have h:(if 0<j then some (T.int (i%j)) else none)=some w:=h
   rw[if_pos hj] at h
   cases h
   exact⟨_,_,rfl,rfl,rfl,hj⟩
  ·have h:(if 0<j then some (T.int (i%j)) else none)=some w:=h
   rw[if_neg hj] at h;cases h) λF i j=>Rep.i_ _
theorem HQ:d9 K (rI J4 λi j=>.int (i / j)) d_:=kl (λi j=>.int (i / j)) (λi j=>.int (i / j)) J4 (λi j H Q c q=>⟨i,j,rfl,rfl,c,q⟩)
 (λt u w h=>by
  cases t<;>cases u<;>first|cases h|skip
  rename_i i j
  have h:(if 0<j∧j<1073741824 then some (T.int (i / j)) else none)=some w:=h
  by_cases hj:0<j∧j<1073741824
  ·rw[if_pos hj] at h
   cases h
   exact⟨_,_,rfl,rfl,rfl,hj⟩
  ·rw[if_neg hj] at h;cases h) λF i j=>Rep.i_ _
theorem HR:d9 K (rI J5 λi j=>.int (i*2 ^ j.toNat)) qI:=kl (λi j=>.int (i*2 ^ j.toNat)) (λi j=>.int (i*2 ^ j.toNat)) J5 (λi j H Q c q=>⟨i,j,rfl,rfl,c,q⟩)
 (λt u w h=>by
  cases t<;>cases u<;>first|cases h|skip
  rename_i i j
  have h:(if 0≤j∧j≤64∧-(2 ^ 64)<i∧i<2 ^ 64 then some (T.int (i*2 ^ j.toNat)) else none)=some w:=h
  by_cases hj:0≤j∧j≤64∧-(2 ^ 64)<i∧i<2 ^ 64
  ·rw[if_pos hj] at h
   cases h
   exact⟨_,_,rfl,rfl,rfl,hj.1,by omega,by omega⟩
  ·rw[if_neg hj] at h;cases h) λF i j=>Rep.i_ _
theorem HS:d9 K (rI (λ_ j=>0≤j) λi j=>.int (i / 2 ^ j.toNat)) mJ:=kl (λi j=>.int (i / 2 ^ j.toNat)) (λi j=>.int (i / 2 ^ j.toNat)) (λ_ j=>0≤j) (λi j H Q c q=>⟨i,j,rfl,rfl,c,q⟩)
 (λt u w h=>by
  cases t<;>cases u<;>first|cases h|skip
  rename_i i j
  have h:(if 0≤j∧j≤64 then some (T.int (i / 2 ^ j.toNat)) else none)=some w:=h
  by_cases hj:0≤j∧j≤64
  ·rw[if_pos hj] at h
   cases h
   exact⟨_,_,rfl,rfl,rfl,hj.1⟩
  ·rw[if_neg hj] at h;cases h) λF i j=>Rep.i_ _
theorem Ei:d9 K (rI0 λi j=>.bl (decide (i<j))) fLt:=kl (λi j=>.bl (decide (i<j))) (λi j=>.bl (decide (i<j))) (λ_ _=>True) (λi j H Q _ q=>⟨i,j,rfl,rfl,q⟩)
 (λt u w h=>by cases t<;>cases u<;>first|(cases h;exact⟨_,_,rfl,rfl,rfl,trivial⟩)|cases h) λF i j=>Rep.bl' _
theorem K6:d9 K (rI0 λi j=>.bl (decide (i≤j))) fLe:=kl (λi j=>.bl (decide (i≤j))) (λi j=>.bl (decide (i≤j))) (λ_ _=>True) (λi j H Q _ q=>⟨i,j,rfl,rfl,q⟩)
 (λt u w h=>by cases t<;>cases u<;>first|(cases h;exact⟨_,_,rfl,rfl,rfl,trivial⟩)|cases h) λF i j=>Rep.bl' _
theorem Ej:d9 K (rI0 λi j=>.bl (decide (j<i))) fGt:=kl (λi j=>.bl (decide (j<i))) (λi j=>.bl (decide (j<i))) (λ_ _=>True) (λi j H Q _ q=>⟨i,j,rfl,rfl,q⟩)
 (λt u w h=>by cases t<;>cases u<;>first|(cases h;exact⟨_,_,rfl,rfl,rfl,trivial⟩)|cases h) λF i j=>Rep.bl' _
end
section
variable{X:Cx}{a b c:Expr}{da db dc:D}{pos p p2:Pos}
theorem Ek(ha:CE X a da)(hb:CE X b db):CE X (.BinOp a .Sub b pos) (ag qH da db):=lH J7 HN ha hb
theorem bx(ha:CE X a da)(hb:CE X b db):CE X (.BinOp a .Mod b pos) (ag aP da db):=lH J9 HP ha hb
theorem ib(ha:CE X a da)(hb:CE X b db):CE X (.BinOp a .FloorDiv b pos) (ag d_ da db):=lH GV HQ ha hb
theorem El(ha:CE X a da)(hb:CE X b db):CE X (.BinOp a .LShift b pos) (ag qI da db):=lH J_ HR ha hb
theorem zb(ha:CE X a da)(hb:CE X b db):CE X (.BinOp a .RShift b pos) (ag mJ da db):=lH Ka HS ha hb
theorem Nh(ha:CE X a da)(hb:CE X b db):CE X (.Compare a [.Gt] [b] pos) (ag fGt da db):=yU Jf Ej (kZ _) ha hb
theorem A3(ha:CE X a da)(hb:CE X b db):CT X (.Compare a [.Lt] [b] pos) (ag fLt da db):=lI Je Ei (kZ _) ha hb
theorem Ni(ha:CE X a da)(hb:CE X b db):CT X (.Compare a [.Gt] [b] pos) (ag fGt da db):=lI Jf Ej (kZ _) ha hb
theorem Em(ha:CE X a da):CE X (.UnaryOp .USub a pos) (dUn xi da):=M5 Kc (by
 intro F H v t w Q s hv hw q
 cases t<;>first|cases hw|skip
 cases hv.int
 exact⟨_,rfl,q _ H F bL.refl (Rep.i_ _)⟩) ha
end
end Fw
namespace L2
open PySem PySem.Spec PyProof.Rows
section
variable{X:Cx}
def En(K:PySem.W.Frag):R2:=λx y H Q=>∃a b xs ys,x=.ref a∧y=.ref b∧SqT K H a xs∧SqT K H b ys∧xs.length+ys.length≤sizeLine ∧
 (xs=[]→Q (.ref b) H)∧(xs≠[]→ys=[]→Q (.ref a) H)∧(xs≠[]→ys≠[]→∀p,H p=none→Q (.ref p) (upd H p (.tup (xs++ys))))
theorem Eo:OpR X (binaryOp .Add) (En X.K):=by
 intro pins s σ H x y v u Q I rx ry h
 obtain⟨a,b,xs,ys,hx0,hy0,ha,hb,hz,q0,q1,q2⟩:=h
 by_cases hx:xs=[]
 ·subst hx0;subst hy0
  cases rx
  cases ry
  obtain⟨its,r1,p1,_⟩:=I.tuple ha
  obtain⟨qv,r2,p2,_⟩:=I.tuple hb
  obtain⟨⟨cls,dd,data,sl⟩,ho,hc,n,hd⟩:=id p1
  obtain⟨⟨Kh,dd2,data2,sl2⟩,ho2,hc2,n2,hd2⟩:=id p2
  simp only at hc hd hc2 hd2
  subst hc hd hc2 hd2
  have e:its=[]:=r1.qb.mpr hx
  exact concat_meets ⟨_,ho,rfl⟩ ⟨_,ho2,rfl⟩ noFill_tuple_add seq_tuple_add PySem.F.slot_tuple_add PySem.F.entry_tuple_add (PySem.F.args_tuple_add_2 _ _)
   (tuple_addW0 a b its.toArray qv.toArray n n2 dd dd2 sl sl2 (by simp[e])) ⟨ho,ho2,.ref b,H,I,rfl,q0 hx⟩
 ·exact G3 pins s σ H x y v u Q I rx ry ⟨a,b,xs,ys,hx0,hy0,ha,hb,hx,hz,q1 hx,q2 hx⟩
def Jl(K:PySem.W.Frag):R2:=λx y H Q=>∃l b xs zs,x=.ref l∧y=.ref b∧SqL K H l xs∧SqL K H b zs∧xs.length+zs.length≤sizeLine∧∀p,H p=none→Q (.ref p) (upd H p (.lst (xs++zs)))
theorem HU:OpR X (binaryOp .Add) (Jl X.K):=by
 intro pins s σ H x y v u Q I rx ry h
 obtain⟨l,b,xs,zs,rfl,rfl,hA,hB,hz,q⟩:=h
 cases rx
 cases ry
 obtain⟨its,r,p1,_⟩:=I.list hA
 obtain⟨qv,r2,p2,_⟩:=I.list hB
 obtain⟨⟨cls,dd,data,sl⟩,ho,hc,n,hd⟩:=id p1.isList
 obtain⟨⟨Kh,dd2,data2,sl2⟩,ho2,hc2,n2,hd2⟩:=id p2.isList
 simp only at hc hd hc2 hd2
 subst hc hd hc2 hd2
 have hl:=r.length
 have hl2:=r2.length
 have e:its.toArray++qv.toArray=(its++qv).toArray:=by simp
 refine concat_meets ⟨_,ho,rfl⟩ ⟨_,ho2,rfl⟩ noFill_list_add seq_list_add PySem.F.slot_list_add PySem.F.entry_list_add (PySem.F.args_list_add_2 _ _)
  (list_addW l b its.toArray qv.toArray n n2 dd dd2 sl sl2 (by rw[List.size_toArray,List.size_toArray];lia)) ⟨ho,ho2,?_⟩
 rw[e]
 exact⟨.ref _,_,I.Ks (t':=s.toks) (r.append r2) (by rw[List.length_append];lia),rfl,q _ I.fresh⟩
end
end L2
namespace Fw
open PySem PySem.Spec PyProof.Rows L2
section
variable{K:PySem.W.Frag}
theorem rj:szL=sizeLine:=rfl
theorem aA.nil_of{F:Hp}{ts:List T}{vs:List V}(h:aA K F ts vs)(e:vs=[]):ts=[]:=by
 have:=h.length
 subst e
 exact List.length_eq_zero_iff.mp (by simpa using this)
theorem vy{F H:Hp}{ts:List T}{vs:List V}{Q:VK}{p:Addr}(s:aT F H)(hp:H p=none)(r:aA K F ts vs)(q:∀v' H' F',bL F H F' H'→Rep K F' (.lst ts) v'→Q v' H'):Q (.ref p) (upd H p (.lst vs)):=by
 have g:bL F H (upd F p (.lst vs)) (upd H p (.lst vs)):=bL.new hp
 refine q _ _ _ g ?_
 rw[Rep]
 exact⟨p,vs,rfl,SqL.of aB,aA.mono (g.same s) _ _ r⟩
theorem vA{F H:Hp}{ts:List T}{vs:List V}{Q:VK}{p:Addr}(s:aT F H)(hp:H p=none)(r:aA K F ts vs)(q:∀v' H' F',bL F H F' H'→Rep K F' (.tup ts) v'→Q v' H'):Q (.ref p) (upd H p (.tup vs)):=by
 have g:bL F H (upd F p (.tup vs)) (upd H p (.tup vs)):=bL.new hp
 refine q _ _ _ g ?_
 rw[Rep]
 exact⟨p,vs,rfl,SqT.of aB,aA.mono (g.same s) _ _ r⟩
theorem vB{F:Hp}{a:Addr}{ts:List T}{vs:List V}(h:SqT K F a vs)(r:aA K F ts vs):Rep K F (.tup ts) (.ref a):=by
 rw[Rep];exact⟨a,vs,rfl,h,r⟩
theorem HV:d9 K (λx y H Q=>(rI0 λi j=>.int (i+j)) x y H Q∨(λx y H Q=>∃i j,x=.str i∧y=.str j∧i.length+j.length≤sizeLine∧Q (.str (i++j)) H) x y H Q∨En K x y H Q∨Jl K x y H Q) bj:=by
 intro F H v u t t' w Q s hv hu hw q
 cases t with
 | int i =>
  cases t' with
  | int j =>
   cases hw
   cases hv.int
   cases hu.int
   exact .inl ⟨i,j,rfl,rfl,q _ H F bL.refl (Rep.i_ _)⟩
  | _=>cases hw
 | str i =>
  cases t' with
  | str j =>
   have hw:(if i.length+j.length≤szL then some (T.str (i++j)) else none)=some w:=hw
   by_cases hz:i.length+j.length≤szL
   ·rw[if_pos hz] at hw
    cases hw
    cases hv.str
    cases hu.str
    exact .inr (.inl ⟨i,j,rfl,rfl,hz,q _ H F bL.refl (Rep.Hz _)⟩)
   ·rw[if_neg hz] at hw;cases hw
  | _=>cases hw
 | tup xs =>
  cases t' with
  | tup ys =>
   have hw:(if xs.length+ys.length≤szL then some (T.tup (xs++ys)) else none)=some w:=hw
   by_cases hz:xs.length+ys.length≤szL
   ·rw[if_pos hz] at hw
    cases hw
    obtain⟨a,vs,rfl,ha,ra⟩:=hv.pU
    obtain⟨b,us,rfl,hb,rb⟩:=hu.pU
    refine .inr (.inr (.inl ⟨a,b,vs,us,rfl,rfl,aT.jx s ha,aT.jx s hb,?_,λe=>?_,λe e2=>?_,λe e2 p hp=>?_⟩))
    ·have:=ra.length;have:=rb.length;rw[rj] at hz;lia
    ·refine q _ H F bL.refl ?_
     rw[ra.nil_of e,List.nil_append]
     exact vB hb rb
    ·refine q _ H F bL.refl ?_
     rw[rb.nil_of e2,List.append_nil]
     exact vB ha ra
    ·exact vA s hp (ra.append rb) q
   ·rw[if_neg hz] at hw;cases hw
  | _=>cases hw
 | lst xs =>
  cases t' with
  | lst ys =>
   have hw:(if xs.length+ys.length≤szL then some (T.lst (xs++ys)) else none)=some w:=hw
   by_cases hz:xs.length+ys.length≤szL
   ·rw[if_pos hz] at hw
    cases hw
    obtain⟨a,vs,rfl,ha,ra⟩:=hv.ng
    obtain⟨b,us,rfl,hb,rb⟩:=hu.ng
    exact .inr (.inr (.inr ⟨a,b,vs,us,rfl,rfl,ha,hb,by have:=ra.length;have:=rb.length;rw[rj] at hz;lia,λp hp=>vy s hp (ra.append rb) q⟩))
   ·rw[if_neg hz] at hw;cases hw
  | _=>cases hw
 | _=>cases hw
end
section
variable{X:Cx}{a b c:Expr}{da db dc:D}{pos p p2:Pos}
theorem dz(ha:CE X a da)(hb:CE X b db):CE X (.BinOp a .Add b pos) (ag bj da db):=lH (J6.or (yw.or (Eo.or HU))) HV ha hb
end
section
variable{K:PySem.W.Frag}
theorem HW:d9 K (rI Dn λi j=>.int (i*j)) aK:=kl (λi j=>.int (i*j)) (λi j=>.int (i*j)) Dn (λi j H Q c q=>⟨i,j,rfl,rfl,c,q⟩)
 (λt u w h=>by
  unfold aK at h
  cases t<;>cases u<;>first|cases h|skip
  rename_i i j
  have h:(if (-(2 ^ 64)<i∧i<2 ^ 64)∨(-(2 ^ 64)<j∧j<2 ^ 64) then some (T.int (i*j)) else none)=some w:=h
  by_cases hj:(-(2 ^ 64)<i∧i<2 ^ 64)∨(-(2 ^ 64)<j∧j<2 ^ 64)
  ·rw[if_pos hj] at h
   cases h
   exact⟨_,_,rfl,rfl,rfl,hj⟩
  ·rw[if_neg hj] at h;cases h) λF i j=>Rep.i_ _
theorem aA.atI{F:Hp}{ts:List T}{vs:List V}{i:Int}{t:T}(h:aA K F ts vs)(e:Fw.atI ts i=some t):∃v,L2.atI vs i=some v∧Rep K F t v:=by
 have hl:=h.length
 unfold Fw.atI at e
 obtain⟨j,h1,h2⟩:=Option.bind_eq_some_iff.mp e
 obtain⟨v,hv,rv⟩:=h.get h2
 refine⟨v,?_,rv⟩
 unfold L2.atI
 have:L2.ixN vs.length i=some j:=by rw[← hl];exact h1
 rw[this]
 exact hv
theorem Paired.atI{α β:Type}{P:α→β→Prop}{xs:List α}{ys:List β}{i:Int}{y:β}(h:Paired P xs ys)(e:Fw.atI ys i=some y):∃x,L2.atI xs i=some x∧P x y:=by
 have hl:=h.length
 unfold Fw.atI at e
 obtain⟨j,h1,h2⟩:=Option.bind_eq_some_iff.mp e
 have get:∀{xs:List α}{ys:List β}{j:Nat}{y:β},Paired P xs ys→ys[j]?=some y→∃x,xs[j]?=some x∧P x y:=by
  intro xs ys j y o
  induction o generalizing j with
  | nil=>intro e;simp at e
  | cons r _ ih =>
   intro e
   cases j with
   | zero=>simp at e;subst e;exact⟨_,rfl,r⟩
   | succ j =>
    obtain⟨v,h1,h2⟩:=ih (j:=j) (by simpa using e)
    exact⟨v,by simpa using h1,h2⟩
 obtain⟨v,hv,rv⟩:=get h h2
 refine⟨v,?_,rv⟩
 unfold L2.atI
 have:L2.ixN xs.length i=some j:=by rw[hl];exact h1
 rw[this]
 exact hv
end
section
variable{X:Cx}{a b c:Expr}{da db dc:D}{pos p p2:Pos}
theorem d6(ha:CE X a da)(hb:CE X b db):CE X (.BinOp a .Mult b pos) (ag aK da db):=lH J8 HW ha hb
theorem aF(ha:CE X a da)(hb:CE X b db)(hp:AF b:=by intro _ _;rfl):CE X (.Subscript a b pos) (ax da db) :=
 PE.imp (ML Km ha hb hp) λσ H Q ao=>by
  obtain⟨F,α,e,μ,S,h⟩:=ao
  refine⟨F,α,e,μ,S,?_⟩
  refine (R.wp_bind h).mono (λx μ1 h v H1 F1 α1 x1 S1 o1=>⟨F1,α1,e,μ1,S1,?_⟩) λ_ _ h=>h
  refine (R.wp_bind h).mono (λy μ2 h v2 H2 F2 α2 x2 S2 o2=>?_) λ_ _ h=>h.mono x1
  obtain⟨w,h9,post⟩:=R.bz h
  obtain⟨u,hu,h⟩:=Option.bind_eq_some_iff.mp h9
  have nu:=bf S2.st o2 hu
  have fin:∀{v'},gR X.K F2 α2 v' w→Q v' H2:=λ{v'} o=>post v' H2 F2 α2 (x1.trans x2) S2 o
  have o1':=o1.mono x2.same x2.pre
  have gen:∀t,rd μ2 x=some t→ap1 (λt=>KJ t u) (some t)=some w→rIx X.K v v2 H2 Q:=λt hr h=>by
   obtain⟨t',w',e1,h,rfl⟩:=mW h
   cases e1
   have nt:=bf S2.st o1' hr
   cases t with
   | lst ts =>
    cases u with
    | int i =>
     cases nu.int
     obtain⟨a,vs,rfl,hq,hl⟩:=nt.ng
     obtain⟨v',g1,g2⟩:=hl.atI h
     exact .inl ⟨a,vs,i,v',rfl,rfl,hq,g1,fin g2⟩
    | _=>cases h
   | tup ts =>
    cases u with
    | int i =>
     cases nu.int
     obtain⟨a,vs,rfl,hq,hl⟩:=nt.pU
     obtain⟨v',g1,g2⟩:=hl.atI h
     exact .inr (.inl ⟨a,vs,i,v',rfl,rfl,aT.jx S2.st.ext hq,g1,fin g2⟩)
    | _=>cases h
   | str z =>
    cases u with
    | int i =>
     cases nu.int
     cases nt.str
     have h:(if z.length≤szL then (Fw.atI z.cps.toList i).map λc=>T.str ⟨#[c]⟩ else none)=some w':=h
     by_cases hz:z.length≤szL
     ·rw[if_pos hz] at h
      obtain⟨ch,g1,rfl⟩:=Option.map_eq_some_iff.mp h
      exact .inr (.inr ⟨z,i,ch,rfl,rfl,hz,g1,fin (Rep.Hz (K:=X.K) (F:=F2) _)⟩)
     ·rw[if_neg hz] at h;cases h
    | _=>cases h
   | _=>cases u<;>cases h
  cases x with
  | val t=>exact gen t rfl (by unfold gQ at h;exact h)
  | cel k =>
   cases q:rd μ2 (.cel k) with
   | none=>unfold gQ at h;simp only at h;rw[q] at h;cases h
   | some t=>exact gen t q (by unfold gQ at h;simp only at h;rw[q] at h;exact h)
  | box xs =>
   cases u with
   | int i =>
    cases nu.int
    obtain⟨y',h1,rfl⟩:=Option.map_eq_some_iff.mp (show (Fw.atI xs i).map pick=some w from h)
    obtain⟨a,vs,rfl,hq,hp⟩:=o1'
    obtain⟨v',g1,g2⟩:=Paired.atI hp h1
    refine .inr (.inl ⟨a,vs,i,v',rfl,rfl,aT.jx S2.st.ext hq,g1,fin ?_⟩)
    cases y' with
    | inl t=>exact g2
    | inr k=>exact g2
   | _=>cases h
theorem iS(hm:X.mg "len"=none)(ha:CE X a da)(hg:Gl X "len":=by rfl)(hs1:starEach [a] X.env=(false,eval a X.env)::starEach [] X.env:=by rfl)(hpl:(backTo pos (starEach [] X.env)).any (·.1)=false:=by rfl) :
  CE X (.Call (.Name "len" p) [a] [] pos) (fP da) :=
 PE.imp (nJ (u7.or (u9.or BW)) hg hm PySem.boot_len (ah ha aw hs1) (by decide) (by decide) hs1 hpl) λσ H Q ao=>by
  obtain⟨F,α,e,μ,S,h⟩:=ao
  refine ur ⟨F,α,e,μ,S,(R.wp_bind h).mono (λx μ1 h v H1 F1 α1 x1 S1 o1=>?_) λ_ _ h=>h⟩
  obtain⟨w,h9,post⟩:=R.bz h
  obtain⟨w',h,rfl⟩:=Option.map_eq_some_iff.mp h9
  have fin:∀{v'},Rep X.K F1 w' v'→Q v' H1:=λ{v'} o=>post v' H1 F1 α1 x1 S1 o
  have gen:∀t,rd μ1 x=some t→KL t=some w'→(∃p ys,[v]=[V.ref p]∧(SqL X.K H1 p ys∨SqT X.K H1 p ys)∧Q (.int ys.length) H1)∨(∃z,[v]=[V.str z]∧z.length≤sizeLine∧Q (.int z.length) H1) ∨
    ∃d kvs,[v]=[V.ref d]∧H1 d=some (.dK kvs)∧Q (.int kvs.length) H1:=λt hr h=>by
   have nt:=bf S1.st o1 hr
   cases t with
   | lst ts =>
    cases h
    obtain⟨a,vs,rfl,hq,hl⟩:=nt.ng
    exact .inl ⟨a,vs,rfl,.inl hq,fin (by rw[hl.length];exact Rep.i_ _)⟩
   | tup ts =>
    cases h
    obtain⟨a,vs,rfl,hq,hl⟩:=nt.pU
    exact .inl ⟨a,vs,rfl,.inr (aT.jx S1.st.ext hq),fin (by rw[hl.length];exact Rep.i_ _)⟩
   | str z =>
    cases nt.str
    have h:(if z.length≤szL then some (T.int z.length) else none)=some w':=h
    by_cases hz:z.length≤szL
    ·rw[if_pos hz] at h
     cases h
     exact .inr (.inl ⟨z,rfl,hz,fin (Rep.i_ _)⟩)
    ·rw[if_neg hz] at h;cases h
   | dct kts =>
    cases h
    obtain⟨a,kvs,rfl,hq,hl⟩:=nt
    exact .inr (.inr ⟨a,kvs,rfl,hq,fin (by rw[hl.length];exact Rep.i_ _)⟩)
   | _=>cases h
  cases x with
  | val t=>exact gen t rfl (by unfold mY at h;exact h)
  | cel k =>
   cases q:rd μ1 (.cel k) with
   | none=>unfold mY at h;simp only at h;rw[q] at h;cases h
   | some t=>exact gen t q (by unfold mY at h;simp only at h;rw[q] at h;exact h)
  | box xs =>
   cases h
   obtain⟨a,vs,rfl,hq,hp⟩:=o1
   exact .inl ⟨a,vs,rfl,.inr (aT.jx S1.st.ext hq),fin (by rw[hp.length];exact Rep.i_ _)⟩
end
end Fw
set_option maxHeartbeats 4000000
namespace Fw
open PySem PySem.Spec PyProof.Rows L2
mutual
def toPy:T→PyData
 | .non=>.none
 | .bl b=>.bool b
 | .int i=>.int i
 | .str x=>.str x
 | .lst ts=>.list (eY ts)
 | .tup ts=>.tuple (eY ts)
 | .dct _=>.dict []
 | .exc _ _=>.dict []
 | .dtt _ _=>.dict []
def eY:List T→List PyData
 | []=>[]
 | t::ts=>toPy t::eY ts
end
mutual
theorem rk:∀(n:Nat) (t:T),okT n t=true→(toPy t).canLay0=true∧(toPy t).depth≤n
 | n,.non,_=>⟨by rw[toPy,PyData.canLay0],by rw[toPy,PyData.depth];exact Nat.zero_le _⟩
 | n,.bl _,_=>⟨by rw[toPy,PyData.canLay0],by rw[toPy,PyData.depth];exact Nat.zero_le _⟩
 | n,.int _,_=>⟨by rw[toPy,PyData.canLay0],by rw[toPy,PyData.depth];exact Nat.zero_le _⟩
 | n,.str x,h=>by
  unfold okT at h
  exact⟨by rw[toPy,PyData.canLay0];exact h,by rw[toPy,PyData.depth];exact Nat.zero_le _⟩
 | 0,.lst ts,h=>by rw[okT] at h;cases h
 | n+1,.lst ts,h=>by
  rw[okT] at h
  obtain⟨h1,h2⟩:=vC n ts h
  exact⟨by rw[toPy,PyData.canLay0];exact h1,by rw[toPy,PyData.depth];lia⟩
 | 0,.tup ts,h=>by rw[okT] at h;cases h
 | n+1,.tup ts,h=>by
  rw[okT] at h
  obtain⟨h1,h2⟩:=vC n ts h
  exact⟨by rw[toPy,PyData.canLay0];exact h1,by rw[toPy,PyData.depth];lia⟩
 | n,.dct _,h=>by unfold okT at h;cases h
 | n,.exc _ _,h=>by unfold okT at h;cases h
 | n,.dtt _ _,h=>by unfold okT at h;cases h
theorem vC:∀(n:Nat) (ts:List T),i9 n ts=true→PyData.canLayAll0 (eY ts)=true∧PyData.depthAll (eY ts)≤n
 | n,[],_=>⟨by rw[eY,PyData.canLayAll0],by rw[eY,PyData.depthAll];exact Nat.zero_le _⟩
 | n,t::ts,h=>by
  rw[i9,Bool.and_eq_true] at h
  obtain⟨h1,h2⟩:=rk n t h.1
  obtain⟨h3,h4⟩:=vC n ts h.2
  exact⟨by rw[eY,PyData.canLayAll0,h1,h3];rfl,by rw[eY,PyData.depthAll];lia⟩
end
mutual
theorem zc:∀(n:Nat) (t u:T),okT n t=true→okT n u=true→PyData.eqv (toPy t) (toPy u)=eqT t u
 | n,.non,u,_,h=>by cases u<;>first|(simp[toPy,eqT,PyData.eqv];done)|(unfold okT at h;cases h)
 | n,.bl a,u,_,h=>by cases u<;>first|(simp[toPy,eqT,PyData.eqv];done)|(unfold okT at h;cases h)
 | n,.int a,u,_,h=>by cases u<;>first|(simp[toPy,eqT,PyData.eqv];done)|(unfold okT at h;cases h)
 | n,.str a,u,_,h=>by cases u<;>first|(simp[toPy,eqT,PyData.eqv];done)|(unfold okT at h;cases h)
 | 0,.lst a,u,h,_=>by rw[okT] at h;cases h
 | n+1,.lst a,u,h1,h=>by
  cases u with
  | lst b=>rw[toPy,toPy,eqT,PyData.eqv];rw[okT] at h1 h;exact vD n a b h1 h
  | dct _=>unfold okT at h;cases h
  | exc _ _=>unfold okT at h;cases h
  | dtt _ _=>unfold okT at h;cases h
  | _=>simp[toPy,eqT,PyData.eqv]
 | 0,.tup a,u,h,_=>by rw[okT] at h;cases h
 | n+1,.tup a,u,h1,h=>by
  cases u with
  | tup b=>rw[toPy,toPy,eqT,PyData.eqv];rw[okT] at h1 h;exact vD n a b h1 h
  | dct _=>unfold okT at h;cases h
  | exc _ _=>unfold okT at h;cases h
  | dtt _ _=>unfold okT at h;cases h
  | _=>simp[toPy,eqT,PyData.eqv]
 | n,.dct _,u,h,_=>by unfold okT at h;cases h
 | n,.exc _ _,u,h,_=>by unfold okT at h;cases h
 | n,.dtt _ _,u,h,_=>by unfold okT at h;cases h
theorem vD:∀(n:Nat) (ts us:List T),i9 n ts=true→i9 n us=true→PyData.eqvAll (eY ts) (eY us)=jv ts us
 | n,[],[],_,_=>by rw[eY,PyData.eqvAll,jv]
 | n,[],u::us,_,_=>by rw[eY,eY,PyData.eqvAll,jv]
 | n,t::ts,[],_,_=>by rw[eY,eY,PyData.eqvAll,jv]
 | n,t::ts,u::us,h1,h2=>by
  rw[i9,Bool.and_eq_true] at h1 h2
  rw[eY,eY,PyData.eqvAll,jv,zc n t u h1.1 h2.1,vD n ts us h1.2 h2.2]
end
section
variable{X:Cx}{pins:List (Addr×Obj)}{σ:L2.St}{H:Hp}{s:Shared}
mutual
theorem lN(I:Inv X pins σ H s):∀(n:Nat) (t:T) (v:V) (u:Value),Rep X.K H t v→RelV v u→okT n t=true→∃as,Reads s.heap u (toPy t) as
 | n,.non,v,u,h,r,_=>by cases h.j9;cases r;rw[toPy];exact⟨_,.none⟩
 | n,.bl b,v,u,h,r,_=>by cases h.gx;cases r;rw[toPy];exact⟨_,.bool b⟩
 | n,.int i,v,u,h,r,_=>by cases h.j8;obtain⟨t,rfl⟩:=r;rw[toPy];exact⟨_,.int i t⟩
 | n,.str i,v,u,h,r,_=>by cases h.m7;obtain⟨t,rfl⟩:=r;rw[toPy];exact⟨_,.str i t⟩
 | 0,.lst ts,v,u,h,r,ok=>by rw[okT] at ok;cases ok
 | n+1,.lst ts,v,u,h,r,ok=>by
  rw[Rep] at h
  rw[okT] at ok
  obtain⟨a,vs,rfl,hq,hl⟩:=h
  cases r
  obtain⟨its,rv,pl,_⟩:=I.list hq
  obtain⟨o,ho,hc,m,hd⟩:=pl.isList
  obtain⟨as,ra⟩:=lO I n ts vs its hl rv ok
  rw[toPy]
  exact⟨_,.list ho hc hd (by simpa using ra)⟩
 | 0,.tup ts,v,u,h,r,ok=>by rw[okT] at ok;cases ok
 | n+1,.tup ts,v,u,h,r,ok=>by
  rw[Rep] at h
  rw[okT] at ok
  obtain⟨a,vs,rfl,hq,hl⟩:=h
  cases r
  obtain⟨its,rv,pl,_⟩:=I.tuple hq
  obtain⟨o,ho,hc,m,hd⟩:=pl
  obtain⟨as,ra⟩:=lO I n ts vs its hl rv ok
  rw[toPy]
  exact⟨_,.tuple ho hc hd (by simpa using ra)⟩
 | n,.dct _,v,u,h,r,ok=>by unfold okT at ok;cases ok
 | n,.exc _ _,v,u,h,r,ok=>by unfold okT at ok;cases ok
 | n,.dtt _ _,v,u,h,r,ok=>by unfold okT at ok;cases ok
theorem lO(I:Inv X pins σ H s):∀(n:Nat) (ts:List T) (vs:List V) (us:List Value),aA X.K H ts vs→Vals vs us→i9 n ts=true→∃as,ReadsAll s.heap us (eY ts) as
 | n,[],vs,us,h,r,_=>by
  rw[aA] at h;subst h;cases r
  rw[eY];exact⟨_,.nil⟩
 | n,t::ts,vs,us,h,r,ok=>by
  rw[aA] at h
  obtain⟨v,vs',rfl,q,hl⟩:=h
  rw[i9,Bool.and_eq_true] at ok
  cases r with
  | cons r1 r2 =>
   obtain⟨as,ra⟩:=lN I n t v _ q r1 ok.1
   obtain⟨bs,rb⟩:=lO I n ts vs' _ hl r2 ok.2
   rw[eY]
   exact⟨_,.cons ra rb⟩
end
end
theorem Now.rep{K:PySem.W.Frag}{F H:Hp}{v:V}{t:T}(s:aT F H)(h:Now K F H v t)(hx:(∀c n,t≠.exc c n)∧∀f k,t≠.dtt f k):Rep K H t v:=by
 cases t with
 | lst ts=>rw[Rep];obtain⟨a,vs,e,q,r⟩:=h;exact⟨a,vs,e,q,aA.mono s _ _ r⟩
 | tup ts=>rw[Rep];obtain⟨a,vs,e,q,r⟩:=h;exact⟨a,vs,e,aT.jx s q,aA.mono s _ _ r⟩
 | dct ts=>rw[Rep];obtain⟨a,vs,e,q,r⟩:=h;exact⟨a,vs,e,q,bq.mono s _ _ r⟩
 | dtt fz ts=>rw[Rep];exact absurd rfl (hx.2 fz ts)
 | exc c n=>exact absurd rfl (hx.1 c n)
 | _=>exact Rep.mono s _ _ h
def HX(K:PySem.W.Frag)(neg:Bool):R2:=λx y H Q=>∃t u,Rep K H t x∧Rep K H u y∧okT 100 t=true∧okT 100 u=true∧Q (.bl (if neg then !eqT t u else eqT t u)) H
section
variable{X:Cx}{a b c:Expr}{da db dc:D}{pos p p2:Pos}{k:Nat}
theorem Ep(hr:cM k X.A):OpR X (compareOp .Eq) (HX X.K false):=by
 intro pins s σ H x y v u Q I rx ry h
 obtain⟨t,t',h1,h2,o1,o2,q⟩:=h
 obtain⟨as,r1⟩:=lN I 100 t x v h1 rx o1
 obtain⟨bs,r2⟩:=lN I 100 t' y u h2 ry o2
 obtain⟨c1,d1⟩:=rk 100 t o1
 obtain⟨c2,d2⟩:=rk 100 t' o2
 refine SeqAt.compareEq_reads r1 r2 c1 c2 (by have:=hr.un;lia) ⟨.bl _,H,I,rfl,?_⟩
 rw[zc 100 t t' o1 o2]
 exact q
theorem K7(hr:cM k X.A):OpR X (compareOp .NotEq) (HX X.K true):=by
 intro pins s σ H x y v u Q I rx ry h
 obtain⟨t,t',h1,h2,o1,o2,q⟩:=h
 obtain⟨as,r1⟩:=lN I 100 t x v h1 rx o1
 obtain⟨bs,r2⟩:=lN I 100 t' y u h2 ry o2
 obtain⟨c1,d1⟩:=rk 100 t o1
 obtain⟨c2,d2⟩:=rk 100 t' o2
 refine SeqAt.compareNe_reads r1 r2 c1 c2 (by have:=hr.un;lia) ⟨.bl _,H,I,rfl,?_⟩
 rw[zc 100 t t' o1 o2]
 exact q
theorem n_{n:Nat}{t:T}(h:okT n t=true):(∀c m,t≠.exc c m)∧∀f k,t≠.dtt f k:=⟨λc m e=>(by subst e;unfold okT at h;cases h),λc m e=>(by subst e;unfold okT at h;cases h)⟩
theorem Er{K:PySem.W.Frag}:d9 K (λx y H Q=>HX K false x y H Q∨rEq x y H Q) fEq:=by
 intro F H v u t t' w Q s hv hu hw q
 by_cases hs:∃a b,t=.str a∧t'=.str b
 ·obtain⟨a,b,rfl,rfl⟩:=hs
  cases hw
  cases hv.str
  cases hu.str
  refine .inr ⟨rfl,?_⟩
  have e:decide (V.str a=V.str b)=(a==b):=qa
  rw[e]
  exact q _ H F bL.refl (Rep.bl' _)
 ·have hw:(if okT 100 t=true∧okT 100 t'=true then some (T.bl (eqT t t')) else none)=some w:=by
   unfold fEq at hw
   split at hw
   ·exact absurd ⟨_,_,rfl,rfl⟩ hs
   ·exact hw
  by_cases ho:okT 100 t=true∧okT 100 t'=true
  ·rw[if_pos ho] at hw
   cases hw
   exact .inl ⟨t,t',hv.rep s (n_ ho.1),hu.rep s (n_ ho.2),ho.1,ho.2,q _ H F bL.refl (Rep.bl' _)⟩
  ·rw[if_neg ho] at hw;cases hw
theorem K8{K:PySem.W.Frag}:d9 K (λx y H Q=>HX K true x y H Q∨rNe x y H Q) fNe:=by
 intro F H v u t t' w Q s hv hu hw q
 by_cases hs:∃a b,t=.str a∧t'=.str b
 ·obtain⟨a,b,rfl,rfl⟩:=hs
  cases hw
  cases hv.str
  cases hu.str
  refine .inr ⟨rfl,?_⟩
  have e:decide (V.str a=V.str b)=(a==b):=qa
  rw[e]
  exact q _ H F bL.refl (Rep.bl' _)
 ·have hw:(if okT 100 t=true∧okT 100 t'=true then some (T.bl (!eqT t t')) else none)=some w:=by
   unfold fNe at hw
   split at hw
   ·exact absurd ⟨_,_,rfl,rfl⟩ hs
   ·exact hw
  by_cases ho:okT 100 t=true∧okT 100 t'=true
  ·rw[if_pos ho] at hw
   cases hw
   exact .inl ⟨t,t',hv.rep s (n_ ho.1),hu.rep s (n_ ho.2),ho.1,ho.2,q _ H F bL.refl (Rep.bl' _)⟩
  ·rw[if_neg ho] at hw;cases hw
theorem rq(hr:cM k X.A)(ha:CE X a da)(hb:CE X b db):CE X (.Compare a [.Eq] [b] pos) (ag fEq da db):=yU ((Ep hr).or Jd) Er (kZ _) ha hb
theorem mQ(hr:cM k X.A)(ha:CE X a da)(hb:CE X b db):CT X (.Compare a [.Eq] [b] pos) (ag fEq da db):=lI ((Ep hr).or Jd) Er (kZ _) ha hb
theorem kP(hr:cM k X.A)(ha:CE X a da)(hb:CE X b db):CT X (.Compare a [.NotEq] [b] pos) (ag fNe da db):=lI ((K7 hr).or MD) K8 (kZ _) ha hb
def TyN(K:PySem.W.Frag)(H:Hp)(v:V)(ty:String):Prop:=match v with
 | .non=>ty="NoneType"
 | .bl _=>ty="bool"
 | .int _=>ty="int"
 | .str _=>ty="str"
 | .ref a=>(ty="list"∧∃xs,SqL K H a xs)∨(ty="tuple"∧∃xs,SqT K H a xs)∨(ty="dict"∧∃kvs,H a=some (.dK kvs))
 | _=>False
theorem Es{cn:String}:eP X (.builtin "isinstance") (λxs H Q=>∃v ty r,xs=[v,.ty cn]∧TyN X.K H v ty∧PySem.W.kitOne X.K (.type ty) (.type cn)=some r∧Q (.bl r) H):=by
 intro pins s σ H xs us Q I r h
 obtain⟨v,ty,b,rfl,hty,e,q⟩:=h
 obtain⟨u1,u2,rfl,r1,r2⟩:=vals2 r
 have r2:u2=Value.type cn:=r2
 subst r2
 have fin:∀tk,EP X pins σ Q (.bool b) { s with toks:=tk }:=λtk=>⟨.bl b,H,I.tok _,rfl,q⟩
 cases v with
 | non=>cases (show u1=Value.none from r1);cases hty;exact PySem.W.kia_one PySem.W.kitx_none I.kIn True.intro e (λz=>nomatch z) fin
 | bl y=>cases (show u1=Value.bool y from r1);cases hty;exact PySem.W.kia_one PySem.W.kitx_bool I.kIn True.intro e (λz=>nomatch z) fin
 | int i=>obtain⟨t,q⟩:=(show ∃t,u1=Value.int i t from r1);cases q;cases hty;exact PySem.W.kia_one PySem.W.kitx_int I.kIn True.intro e (λz=>nomatch z) fin
 | str y=>obtain⟨t,q⟩:=(show ∃t,u1=Value.str y t from r1);cases q;cases hty;exact PySem.W.kia_one PySem.W.kitx_str I.kIn True.intro e (λz=>nomatch z) fin
 | ref a =>
  cases (show u1=Value.ref a from r1)
  rcases hty with ⟨rfl,xs,hq⟩|⟨rfl,xs,hq⟩|⟨rfl,kvs,hq⟩
  ·obtain⟨its,_,pl,_⟩:=I.list hq
   obtain⟨o,ho,hc,_⟩:=pl.isList
   exact PySem.W.kia_one PySem.W.kitx_list I.kIn ⟨o,ho,hc⟩ e (λz=>nomatch z) fin
  ·obtain⟨its,_,pl,_⟩:=I.tuple hq
   obtain⟨o,ho,hc,_⟩:=pl
   exact PySem.W.kia_one PySem.W.kitx_tuple I.kIn ⟨o,ho,hc⟩ e (λz=>nomatch z) fin
  ·obtain⟨_,_,vs,_,pz⟩:=(show cL X.prog X.w H s.heap a (.dK kvs) from I.hok a _ hq)
   obtain⟨o,es,h1,h2,_⟩:=pz
   exact PySem.W.kia_one PySem.W.kitx_dict I.kIn ⟨o,h1,h2.1⟩ e (λz=>nomatch z) fin
 | _=>exact hty.elim
def Kd.name:Kd→String
 | .int=>"int"
 | .bool=>"bool"
 | .str=>"str"
 | .list=>"list"
 | .tuple=>"tuple"
 | .dict=>"dict"
def kdT:T→String
 | .non=>"NoneType"
 | .bl _=>"bool"
 | .int _=>"int"
 | .str _=>"str"
 | .lst _=>"list"
 | .tup _=>"tuple"
 | .dct _=>"dict"
 | .exc _ _=>""
 | .dtt _ _=>"dict"
def Nj(x y:String):Option Bool:=if (Value.type x==Value.type y)=true then some true else if PySem.W.kitMeta y=true then (PySem.fastBuiltinMro x).map (·.contains (Value.type y)) else none
def Et(x y:String):Bool:=x==y || (x=="bool" && y=="int")
theorem Eu:∀x∈["NoneType","bool","int","str","list","tuple","dict"],∀y∈["int","bool","str","list","tuple","dict"],Nj x y=some (Et x y):=by decide +kernel
theorem A4{K:PySem.W.Frag}(kd:Kd)(t:T)(hx:∀c n,t≠.exc c n):PySem.W.kitOne K (.type (kdT t)) (.type kd.name)=some (isK kd t):=by
 have e:PySem.W.kitOne K (.type (kdT t)) (.type kd.name)=Nj (kdT t) kd.name:=rfl
 have h1:kdT t∈["NoneType","bool","int","str","list","tuple","dict"]:=by cases t<;>first|exact absurd rfl (hx _ _)|simp[kdT]
 have h2:kd.name∈["int","bool","str","list","tuple","dict"]:=by cases kd<;>simp[Kd.name]
 have h3:Et (kdT t) kd.name=isK kd t:=by cases kd<;>cases t<;>first|exact absurd rfl (hx _ _)|rfl
 rw[e,Eu _ h1 _ h2,h3]
theorem vE(kd:Kd){cn:Str}(hm:X.mg "isinstance"=none)(hm2:X.mg cn=none)(hv2:bootBuiltins cn=some (.type kd.name))(ha:CE X a da)(hn2:cn≠"__name__")(hd2:(cn==("__debug__":Str))=false)(hg:Gl X "isinstance":=by rfl)(hg2:Gl X cn:=by rfl)
  (hs1:starEach [a,.Name cn p2] X.env=(false,eval a X.env)::starEach [.Name cn p2] X.env:=by rfl) (hs2:starEach [.Name cn p2] X.env=(false,eval (.Name cn p2) X.env)::starEach [] X.env:=by rfl) (hpl:(backTo pos (starEach [.Name cn p2] X.env)).any (·.1)=false:=by rfl) :
  CE X (.Call (.Name "isinstance" p) [a,.Name cn p2] [] pos) (dIs kd da) :=
 PE.imp (nJ Es hg hm (by decide +kernel) (u3 ha (u3 (GP (v:=.ty kd.name) hg2 hm2 hv2 rfl hn2 hd2) Ds hs2) hs1) (by decide) (by decide) hs1 hpl) λσ H Q ao=>by
  obtain⟨F,α,e,μ,S,h⟩:=ao
  refine⟨F,α,e,μ,S,(R.wp_bind h).mono (λx μ1 h v H1 F1 α1 x1 S1 o1=>?_) λ_ _ h=>h⟩
  obtain⟨w,h9,post⟩:=R.bz h
  obtain⟨w',h,rfl⟩:=Option.map_eq_some_iff.mp h9
  have fin:∀{v'},Rep X.K F1 w' v'→Q v' H1:=λ{v'} o=>post v' H1 F1 α1 x1 S1 o
  have gen:∀t,rd μ1 x=some t→isT kd t=some w'→∃v' ty r,[v,V.ty kd.name]=[v',.ty kd.name]∧TyN X.K H1 v' ty∧PySem.W.kitOne X.K (.type ty) (.type kd.name)=some r∧Q (.bl r) H1:=λt hr h=>by
   have nt:=bf S1.st o1 hr
   have hx:∀c n,t≠.exc c n:=λc n z=>by subst z;cases h
   have ew:w'=.bl (isK kd t):=by
    cases t<;>first|exact (Option.some.inj h).symm|cases h
   subst ew
   refine⟨v,kdT t,_,rfl,?_,A4 kd t hx,fin (Rep.bl' _)⟩
   cases t with
   | non=>rw[show v=.non from Rep.j9 (K:=X.K) (F:=F1) nt];rfl
   | bl b=>rw[nt.bl];rfl
   | int b=>rw[nt.int];rfl
   | str b=>rw[nt.str];rfl
   | lst ts=>obtain⟨a,vs,rfl,hq,_⟩:=nt.ng;exact .inl ⟨rfl,vs,hq⟩
   | tup ts=>obtain⟨a,vs,rfl,hq,_⟩:=nt.pU;exact .inr (.inl ⟨rfl,vs,aT.jx S1.st.ext hq⟩)
   | dct ts=>obtain⟨a,vs,rfl,hq,_⟩:=nt;exact .inr (.inr ⟨rfl,vs,hq⟩)
   | exc c n=>exact absurd rfl (hx c n)
   | dtt fz ts=>cases h
  cases x with
  | val t=>exact gen t rfl h
  | cel j =>
   cases q:rd μ1 (.cel j) with
   | none=>rw[AO,q] at h;cases h
   | some t=>exact gen t q (by rw[AO,q] at h;exact h)
  | box xs =>
   cases h
   obtain⟨a,vs,rfl,hq,_⟩:=o1
   exact⟨_,"tuple",_,rfl,.inr (.inl ⟨rfl,vs,aT.jx S1.st.ext hq⟩),A4 kd (.tup []) (λc n z=>by cases z),fin (Rep.bl' _)⟩
theorem Ca(hm:X.mg "isinstance"=none)(hm2:X.mg "int"=none)(ha:CE X a da)(hg:Gl X "isinstance":=by rfl)(hg2:Gl X "int":=by rfl)
  (hs1:starEach [a,.Name "int" p2] X.env=(false,eval a X.env)::starEach [.Name "int" p2] X.env:=by rfl) (hs2:starEach [.Name "int" p2] X.env=(false,eval (.Name "int" p2) X.env)::starEach [] X.env:=by rfl) (hpl:(backTo pos (starEach [.Name "int" p2] X.env)).any (·.1)=false:=by rfl) :
  CE X (.Call (.Name "isinstance" p) [a,.Name "int" p2] [] pos) (dIs .int da):=vE .int hm hm2 (by decide +kernel) ha (by decide +kernel) (by decide +kernel) hg hg2 hs1 hs2 hpl
theorem rz(hm:X.mg "isinstance"=none)(hm2:X.mg "bool"=none)(ha:CE X a da)(hg:Gl X "isinstance":=by rfl)(hg2:Gl X "bool":=by rfl)
  (hs1:starEach [a,.Name "bool" p2] X.env=(false,eval a X.env)::starEach [.Name "bool" p2] X.env:=by rfl) (hs2:starEach [.Name "bool" p2] X.env=(false,eval (.Name "bool" p2) X.env)::starEach [] X.env:=by rfl) (hpl:(backTo pos (starEach [.Name "bool" p2] X.env)).any (·.1)=false:=by rfl) :
  CE X (.Call (.Name "isinstance" p) [a,.Name "bool" p2] [] pos) (dIs .bool da):=vE .bool hm hm2 (by decide +kernel) ha (by decide +kernel) (by decide +kernel) hg hg2 hs1 hs2 hpl
theorem rA(hm:X.mg "isinstance"=none)(hm2:X.mg "list"=none)(ha:CE X a da)(hg:Gl X "isinstance":=by rfl)(hg2:Gl X "list":=by rfl)
  (hs1:starEach [a,.Name "list" p2] X.env=(false,eval a X.env)::starEach [.Name "list" p2] X.env:=by rfl) (hs2:starEach [.Name "list" p2] X.env=(false,eval (.Name "list" p2) X.env)::starEach [] X.env:=by rfl) (hpl:(backTo pos (starEach [.Name "list" p2] X.env)).any (·.1)=false:=by rfl) :
  CE X (.Call (.Name "isinstance" p) [a,.Name "list" p2] [] pos) (dIs .list da):=vE .list hm hm2 (by decide +kernel) ha (by decide +kernel) (by decide +kernel) hg hg2 hs1 hs2 hpl
theorem lP(hm:X.mg "isinstance"=none)(hm2:X.mg "tuple"=none)(ha:CE X a da)(hg:Gl X "isinstance":=by rfl)(hg2:Gl X "tuple":=by rfl)
  (hs1:starEach [a,.Name "tuple" p2] X.env=(false,eval a X.env)::starEach [.Name "tuple" p2] X.env:=by rfl) (hs2:starEach [.Name "tuple" p2] X.env=(false,eval (.Name "tuple" p2) X.env)::starEach [] X.env:=by rfl) (hpl:(backTo pos (starEach [.Name "tuple" p2] X.env)).any (·.1)=false:=by rfl) :
  CE X (.Call (.Name "isinstance" p) [a,.Name "tuple" p2] [] pos) (dIs .tuple da):=vE .tuple hm hm2 (by decide +kernel) ha (by decide +kernel) (by decide +kernel) hg hg2 hs1 hs2 hpl
end
theorem rB:∀{ts:List T}{bs:List Bool},nQ ts=some bs→ts=bs.map T.bl
 | [],bs,h=>by cases h;rfl
 | t::ts,bs,h=>by
  cases t with
  | bl b =>
   obtain⟨cs,h1,rfl⟩:=Option.map_eq_some_iff.mp (show (nQ ts).map (λbs=>b::bs)=some bs from h)
   rw[rB h1];rfl
  | _=>cases h
theorem uD:∀{ts:List T}{bs:List Int},ed ts=some bs→ts=bs.map T.int
 | [],bs,h=>by cases h;rfl
 | t::ts,bs,h=>by
  cases t with
  | int b =>
   obtain⟨cs,h1,rfl⟩:=Option.map_eq_some_iff.mp (show (ed ts).map (λbs=>b::bs)=some bs from h)
   rw[uD h1];rfl
  | _=>cases h
theorem aA.bls{K:PySem.W.Frag}{F:Hp}:∀{bs:List Bool}{vs:List V},aA K F (bs.map T.bl) vs→vs=bs.map V.bl
 | [],vs,h=>by rw[List.map_nil,aA] at h;exact h
 | b::bs,vs,h=>by
  rw[List.map_cons,aA] at h
  obtain⟨v,vs',rfl,q,r⟩:=h
  rw[r.bls,q.gx];rfl
theorem aA.Jm{K:PySem.W.Frag}{F:Hp}:∀{bs:List Int}{vs:List V},aA K F (bs.map T.int) vs→vs=bs.map V.int
 | [],vs,h=>by rw[List.map_nil,aA] at h;exact h
 | b::bs,vs,h=>by
  rw[List.map_cons,aA] at h
  obtain⟨v,vs',rfl,q,r⟩:=h
  rw[r.Jm,q.j8];rfl
theorem rD:∀{bs:List Bool}{us:List Value},Vals (bs.map V.bl) us→us=bs.map Value.bool
 | [],us,h=>by cases h;rfl
 | b::bs,us,h=>by
  rw[List.map_cons] at h
  cases h with
  | cons r h=>rw[rD h,show _=Value.bool b from r];rfl
section
variable{X:Cx}{a b c:Expr}{da db dc:D}{pos p p2:Pos}{k:Nat}
theorem uE{prog:Program}{w:World}{A:Around}{E:Value→Shared→Prop}{s:Shared}{l:Addr}{its:Array Value}{Q:Value→Shared→Prop}(hl:s.heap.IsList l its)
  (h:∀s₂:Shared,s₂={ s with heap:=s.heap.push { cls:=.type "list_iterator",data:=.fields #[.ref l,.int 0 0] } }→(s₂.heap.IsListIter s.heap.objs.size l 0∧s₂.heap.IsList l its)→l≠s.heap.objs.size→Q (.ref s.heap.objs.size) s₂) :
  wpAny (model prog w) A (pyIter (.ref l)) Q E s:=by
 have hlt:l<s.heap.objs.size:=by obtain⟨_,e,_⟩:=hl;exact Heap.lt_size e
 exact wpAny_pyIter_list hl (h _ rfl ⟨⟨_,Heap.get?_push_size _ rfl,rfl,rfl⟩,hl.push _⟩ (Nat.ne_of_lt hlt))
theorem range_all(bs:List Bool):(List.range bs.length).all (λi=>bs.getD i true)=bs.all id:=by
 rw[Bool.eq_iff_iff,List.all_eq_true,List.all_eq_true]
 constructor
 ·intro h x hx
  obtain⟨i,hi⟩:=List.mem_iff_getElem?.mp hx
  have hl:i<bs.length:=(List.getElem?_eq_some_iff.mp hi).1
  have:=h i (List.mem_range.mpr hl)
  rw[List.getD_eq_getElem?_getD,hi] at this
  exact this
 ·intro h i hi
  have hl:i<bs.length:=List.mem_range.mp hi
  rw[List.getD_eq_getElem?_getD,List.getElem?_eq_getElem hl]
  exact h _ (List.getElem_mem hl)
theorem range_any(bs:List Bool):(List.range bs.length).any (λi=>bs.getD i true)=bs.any id:=by
 rw[Bool.eq_iff_iff,List.any_eq_true,List.any_eq_true]
 constructor
 ·rintro⟨i,hi,h⟩
  have hl:i<bs.length:=List.mem_range.mp hi
  rw[List.getD_eq_getElem?_getD,List.getElem?_eq_getElem hl] at h
  exact⟨_,List.getElem_mem hl,h⟩
 ·rintro⟨x,hx,h⟩
  obtain⟨i,hi⟩:=List.mem_iff_getElem?.mp hx
  have hl:i<bs.length:=(List.getElem?_eq_some_iff.mp hi).1
  refine⟨i,List.mem_range.mpr hl,?_⟩
  rw[List.getD_eq_getElem?_getD,hi]
  exact h
theorem uF{prog:Program}{w:World}{A:Around}(bs:List Bool):TruthOf prog w A (λi v=>((bs.map Value.bool).toArray)[i]?=some v) (λi=>bs.getD i true):=by
 intro i v s Q E hP hQ
 have hP:(bs.map Value.bool)[i]?=some v:=by simpa using hP
 rw[List.getElem?_map] at hP
 cases q:bs[i]? with
 | none=>rw[q] at hP;cases hP
 | some y =>
  rw[q] at hP
  cases hP
  have hQ:Q (bs.getD i true) s:=hQ
  rw[List.getD_eq_getElem?_getD,q] at hQ
  exact wpAny_truthy_bool hQ
theorem Cb(hr:cM k X.A):eP X (.builtin "all") (λxs H Q=>∃(p:Addr) (bs:List Bool),xs=[.ref p]∧SqL X.K H p (bs.map V.bl)∧Q (.bl (bs.all id)) H):=by
 intro pins s σ H xs us Q I r h
 obtain⟨p,bs,rfl,hq,q⟩:=h
 obtain⟨u,rfl,ru⟩:=vals1 r
 cases ru
 obtain⟨its,rv,pl,hz⟩:=I.list hq
 cases rD rv
 refine call_all_walk (uE pl.isList λs₂ e st hne=>?_)
 subst e
 refine⟨_,_,_,_,_,_,_,rfl,Walks.list (A:=X.A.in1) hr.hd _ p hne _,st,uF bs,λh' tk hk=>?_⟩
 rw[List.size_toArray,List.length_map,range_all]
 exact⟨.bl _,H,I.kept (t':=tk) (old_kept hk),rfl,q⟩
theorem Cc(hr:cM k X.A):eP X (.builtin "any") (λxs H Q=>∃(p:Addr) (bs:List Bool),xs=[.ref p]∧SqL X.K H p (bs.map V.bl)∧Q (.bl (bs.any id)) H):=by
 intro pins s σ H xs us Q I r h
 obtain⟨p,bs,rfl,hq,q⟩:=h
 obtain⟨u,rfl,ru⟩:=vals1 r
 cases ru
 obtain⟨its,rv,pl,hz⟩:=I.list hq
 cases rD rv
 refine call_any_walk (uE pl.isList λs₂ e st hne=>?_)
 subst e
 refine⟨_,_,_,_,_,_,_,rfl,Walks.list (A:=X.A.in1) hr.hd _ p hne _,st,uF bs,λh' tk hk=>?_⟩
 rw[List.size_toArray,List.length_map,range_any]
 exact⟨.bl _,H,I.kept (t':=tk) (old_kept hk),rfl,q⟩
theorem Cd(hr:cM k X.A):eP X (.builtin "sum") (λxs H Q=>∃(p:Addr) (ns:List Int),xs=[.ref p]∧SqL X.K H p (ns.map V.int)∧Q (.int ns.sum) H):=by
 intro pins s σ H xs us Q I r h
 obtain⟨p,ns,rfl,hq,q⟩:=h
 obtain⟨u,rfl,ru⟩:=vals1 r
 cases ru
 obtain⟨its,rv,pl,hz⟩:=I.list hq
 have hi:IntsAre its ns:=intsAre_of rv
 have Ky:AllInts its.toArray:=hi.allInts
 obtain⟨xs,hxs⟩:=Ky.items
 rw[hxs] at pl
 refine sum_intListG hr.hd pl.isList λh' tk t' hk=>⟨.int ns.sum,H,I.kept (t':=tk) hk,⟨t',?_⟩,q⟩
 rw[preSum_eq,List.take_of_length_le (by simp)]
 have e1:=hi.numsOf
 have e2:its=(intItems xs).toList:=by rw[← hxs]
 rw[e2,nums_intItems] at e1
 rw[e1]
theorem rE(hr:cM k X.A)(hm:X.mg "all"=none)(ha:CE X a da)(hg:Gl X "all":=by rfl)(hs1:starEach [a] X.env=(false,eval a X.env)::starEach [] X.env:=by rfl)(hpl:(backTo pos (starEach [] X.env)).any (·.1)=false:=by rfl) :
  CE X (.Call (.Name "all" p) [a] [] pos) (dUn mZ da):=qh (Cb hr) (by
 intro F H v t w Q s hv hw q
 cases t with
 | lst ts =>
  obtain⟨bs,h1,rfl⟩:=Option.map_eq_some_iff.mp (show (nQ ts).map _=some w from hw)
  obtain⟨a,vs,rfl,hq,hl⟩:=hv.ng
  rw[rB h1] at hl
  rw[hl.bls] at hq
  exact⟨a,bs,rfl,hq,q _ H F bL.refl (Rep.bl' _)⟩
 | _=>cases hw) hm (by decide +kernel) ha hg (by decide) (by decide) hs1 hpl
theorem o5(hr:cM k X.A)(hm:X.mg "any"=none)(ha:CE X a da)(hg:Gl X "any":=by rfl)(hs1:starEach [a] X.env=(false,eval a X.env)::starEach [] X.env:=by rfl)(hpl:(backTo pos (starEach [] X.env)).any (·.1)=false:=by rfl) :
  CE X (.Call (.Name "any" p) [a] [] pos) (dUn lD da):=qh (Cc hr) (by
 intro F H v t w Q s hv hw q
 cases t with
 | lst ts =>
  obtain⟨bs,h1,rfl⟩:=Option.map_eq_some_iff.mp (show (nQ ts).map _=some w from hw)
  obtain⟨a,vs,rfl,hq,hl⟩:=hv.ng
  rw[rB h1] at hl
  rw[hl.bls] at hq
  exact⟨a,bs,rfl,hq,q _ H F bL.refl (Rep.bl' _)⟩
 | _=>cases hw) hm (by decide +kernel) ha hg (by decide) (by decide) hs1 hpl
theorem Ew(hr:cM k X.A)(hm:X.mg "sum"=none)(ha:CE X a da)(hg:Gl X "sum":=by rfl)(hs1:starEach [a] X.env=(false,eval a X.env)::starEach [] X.env:=by rfl)(hpl:(backTo pos (starEach [] X.env)).any (·.1)=false:=by rfl) :
  CE X (.Call (.Name "sum" p) [a] [] pos) (dUn qL da):=qh (Cd hr) (by
 intro F H v t w Q s hv hw q
 cases t with
 | lst ts =>
  obtain⟨bs,h1,rfl⟩:=Option.map_eq_some_iff.mp (show (ed ts).map _=some w from hw)
  obtain⟨a,vs,rfl,hq,hl⟩:=hv.ng
  rw[uD h1] at hl
  rw[hl.Jm] at hq
  exact⟨a,bs,rfl,hq,q _ H F bL.refl (Rep.i_ _)⟩
 | _=>cases hw) hm (by decide +kernel) ha hg (by decide) (by decide) hs1 hpl
theorem fT(hm:X.mg "tuple"=none)(ha:CE X a da)(hg:Gl X "tuple":=by rfl)(hs1:starEach [a] X.env=(false,eval a X.env)::starEach [] X.env:=by rfl)(hpl:(backTo pos (starEach [] X.env)).any (·.1)=false:=by rfl) :
  CE X (.Call (.Name "tuple" p) [a] [] pos) (dUn b7 da):=Ea tE (by
 intro F H v t w Q s hv hw q
 cases t with
 | lst ts =>
  cases hw
  obtain⟨a,vs,rfl,hq,hl⟩:=hv.ng
  exact⟨a,vs,rfl,.inl ⟨hq,λl hp=>vA s hp hl q⟩⟩
 | tup ts =>
  cases hw
  obtain⟨a,vs,rfl,hq,hl⟩:=hv.pU
  exact⟨a,vs,rfl,.inr ⟨aT.jx s hq,q _ H F bL.refl (vB hq hl)⟩⟩
 | _=>cases hw) hm (by decide +kernel) ha hg (by decide) (by decide) hs1 hpl
theorem A5(hm:X.mg "list"=none)(ha:CE X a da)(hg:Gl X "list":=by rfl)(hs1:starEach [a] X.env=(false,eval a X.env)::starEach [] X.env:=by rfl)(hpl:(backTo pos (starEach [] X.env)).any (·.1)=false:=by rfl) :
  CF X (.Call (.Name "list" p) [a] [] pos) (dUn lB da):=Eb u_ (by
 intro F H v t w Q s hv hw q
 cases t with
 | lst ts =>
  cases hw
  obtain⟨a,vs,rfl,hq,hl⟩:=hv.ng
  exact⟨a,vs,rfl,.inl hq,λl hp=>q l _ hp ⟨vs,aB,hl⟩⟩
 | tup ts =>
  cases hw
  obtain⟨a,vs,rfl,hq,hl⟩:=hv.pU
  exact⟨a,vs,rfl,.inr (aT.jx s hq),λl hp=>q l _ hp ⟨vs,aB,hl⟩⟩
 | _=>cases hw) hm (by decide +kernel) ha hg (by decide) (by decide) hs1 hpl
theorem Ey:CF X (.Dict [] [] pos) (dC (.dct [])):=by
 refine⟨PE.imp DJ λσ H Q ⟨F,α,e,μ,S,h⟩=>?_,λe μ x μ' h=>?_⟩
 ·obtain⟨t,et,post⟩:=h
  cases et
  intro d hd
  exact post d _ F α (Ex.lay hd) (S.of (aT.refl _) (List.prefix_refl _) (S.st.lay hd)) hd (S.st.ext.free hd) (cg S.st hd) ⟨[],aB,by rw[bq]⟩
 ·cases h;exact⟨_,rfl⟩
theorem Ez{es:List Expr}{ds:List D}(h:CA X es ds)(hb:CE X b db)(hl:ds.length≤1000:=by decide):CF X (.BinOp (.List es p) .Mult b pos) (pS pT ds db):=by
 refine⟨PE.imp (Jc Kt (Du h) hb) λσ H Q ⟨F,α,e,μ,S,h⟩=>?_,λe μ x μ' h=>?_⟩
 ·refine⟨F,α,e,μ,S,(fR (R.wp_bind h)).mono (λxs μ1 ⟨hn,h⟩ vs H1 F1 α1 x1 S1 o1=>?_) λ_ _ h=>h⟩
  have h:=R.wp_bind h
  cases hz:eQ xs μ1 with
  | err c μ2=>exact absurd hz (qc xs μ1 c μ2)
  | bad=>rw[hz] at h;exact h.elim
  | ok ts μ2 =>
   rw[hz] at h
   obtain⟨F2,s2,n2,S2,r2⟩:=qg S1.st o1 hz
   refine⟨my hn o1 hl,λl hp=>?_⟩
   have x2:Ex F α H F2 α1 (upd H1 l (.lst vs)):=x1.trans ((Ex.pL s2 n2).trans (Ex.lay hp))
   refine⟨F2,α1,e,μ2,S1.of s2 (List.prefix_refl _) (S2.lay hp),(R.wp_bind h).mono (λy μ3 h v3 H3 F3 α3 x3 S3 o3=>?_) λ_ _ h=>h.mono x2⟩
   obtain⟨w,h9,t',e1,post⟩:=R.bz h
   obtain⟨t,w',ht,h,e2⟩:=mW h9
   subst e1
   cases e2
   cases t with
   | int i =>
    cases (bf S3.st o3 ht).int
    have h:(if -(2 ^ 63)≤i∧i<2 ^ 63∧ts.length*i.toNat≤szL then some (T.lst (List.replicate i.toNat ts).flatten) else none)=some t':=h
    by_cases hc:-(2 ^ 63)≤i∧i<2 ^ 63∧ts.length*i.toNat≤szL
    ·rw[if_pos hc] at h
     cases h
     obtain⟨g1,g2,g3⟩:=x3.fr l _ aB (S2.ext.free hp) (cg S2 hp)
     refine⟨l,i,vs,rfl,rfl,g1,hc.1,hc.2.1,by rw[← r2.length];exact hc.2.2,λp' hp'=>?_⟩
     exact post p' _ F3 α3 ((x2.trans x3).trans (Ex.lay hp')) (S3.of (aT.refl _) (List.prefix_refl _) (S3.st.lay hp')) ((x2.trans x3).was S3.st hp') (S3.st.ext.free hp') (cg S3.st hp')
      ⟨_,aB,(aA.mono x3.same _ _ r2).flat i.toNat⟩
    ·rw[if_neg hc] at h;cases h
   | _=>cases h
 ·unfold pS at h
  obtain⟨xs,μ1,hx,h⟩:=R.aW h
  obtain⟨ts,μ2,hz,h⟩:=R.aW h
  obtain⟨y,μ3,hy,h⟩:=R.aW h
  obtain⟨h9,rfl⟩:=R.mV h
  obtain⟨t,w',ht,h,rfl⟩:=mW h9
  exact⟨_,rfl⟩
theorem eL{o e1:Expr}{do_ de:D}{apos kS:Pos}(ho:CE X o do_)(he:CE X e1 de)(qw:attributeBase o "append" X.env (eval o X.env)=eval o X.env:=by rfl)
  (Kq:((backTo kS (starEach [e1] X.env)).all (λx=>!x.1) && (backToKw kS (keywordEach [] X.env)).all (λx=>x.1.isSome) && decide (([e1]:List Expr).length+([]:List Keyword).length+(if ([]:List Keyword).isEmpty then 0 else 1)<30))=true:=by rfl)
  (qx:(apos.endLine==kS.line)=true:=by rfl) (hs1:starEach [e1] X.env=(false,eval e1 X.env)::starEach [] X.env:=by rfl) (hpl:(backTo kS (starEach [] X.env)).any (·.1)=false:=by rfl)
  (hs:swapsWith (.Call (.Attribute o "append" apos) [e1] [] kS) none pos.line X.env=pure false:=by rfl) :
  CS X (.Expr (.Call (.Attribute o "append" apos) [e1] [] kS) pos) (bo do_ de) :=
 PS.imp (GU (MQ PySem.F.plainAttrs_list PySem.F.slot_list_append PySem.F.type_list_append ug ho (ah he aw hs1) qw Kq qx hs1 hpl) hs) λD σ H ao=>by
  obtain⟨F,α,e,μ,S,h⟩:=ao
  refine⟨F,α,e,μ,S,(bc.toS h).mono (λx μ1 h v H1 F1 α1 x1 S1 o1=>?_) λ_ _ h=>h⟩
  obtain⟨_,hl,h⟩:=h.lift
  cases x with
  | cel j =>
   obtain⟨ad,ha,rfl⟩:=o1
   have hc:∃bb ts,μ1[j]?=some (bb,.lst ts):=by
    unfold nR at hl
    simp only at hl
    split at hl
    ·exact⟨_,_,by assumption⟩
    ·cases hl
   obtain⟨bb,ts,hj⟩:=hc
   have n1:=bf S1.st (x:=.cel j) (t:=.lst ts) ⟨ad,ha,rfl⟩ (by rw[m9,hj];rfl)
   obtain⟨a',vs,e1,hq,_⟩:=n1.ng
   cases e1
   refine⟨.inl ⟨rfl,vs,hq⟩,ur ⟨F1,α1,e,μ1,S1,(bc.toS h).mono (λy μ2 h v2 H2 F2 α2 x2 S2 o2=>?_) λ_ _ h=>h.mono x1⟩⟩
   have h:=h.toS
   cases hz:frz y μ2 with
   | err c μ3=>exact absurd hz (qA y μ2 c μ3)
   | bad=>rw[hz] at h;exact h.elim
   | ok t μ3 =>
    rw[hz] at h
    obtain⟨μ4,ha4,h⟩:=bc.lift h
    obtain⟨F3,s3,n3,S3,r3⟩:=m8 S2.st o2 hz
    unfold appendAt at ha4
    simp only at ha4
    have hc:∃us,μ3[j]?=some (true,.lst us)∧us.length<szL∧μ4=μ3.set j (true,.lst (us++[t])):=by
     split at ha4
     ·rename_i us hjs
      by_cases hu:us.length<szL
      ·rw[if_pos hu] at ha4
       cases ha4
       exact⟨us,hjs,hu,rfl⟩
      ·rw[if_neg hu] at ha4;cases ha4
     ·cases ha4
    obtain⟨us,hj3,hu,rfl⟩:=hc
    have ha3:α2[j]?=some ad:=j_ x2.pre ha
    obtain⟨_,ws,hw,rw'⟩:=(S3.cell j true _ ad hj3 ha3).1 rfl
    have el:=rw'.length
    refine⟨ad,ws,v2,rfl,rfl,hw,by rw[rj] at hu;omega,?_⟩
    have x3:Ex F α H F3 α2 H2:=x1.trans (x2.trans (Ex.pL s3 n3))
    exact h σ _ F3 α2 (x3.trans (Ex.put ha3)) ((S2.of s3 (List.prefix_refl _) S3).of (aT.refl _) (List.prefix_refl _) (vo S3 hj3 ha3 ⟨_,aB,rw'.append (aA.one r3)⟩))
  | val t=>cases hl
  | box xs=>cases hl
end
end Fw
namespace Fw
open PySem L2 PyProof.Rows
theorem aA.erase{K:PySem.W.Frag}{F:Hp}{ts:List T}{vs:List V}(h:aA K F ts vs)(i:Nat):aA K F (ts.eraseIdx i) (vs.eraseIdx i):=by
 rw[List.eraseIdx_eq_take_drop_succ,List.eraseIdx_eq_take_drop_succ]
 exact (h.take i).append (h.drop (i+1))
section
variable{X:Cx}
end
end Fw
namespace L2
open PySem PySem.Spec PyProof.Rows
def KIt(k:Bool)(h:Heap)(i l:Addr)(n:Nat):Prop:=match k with
 | true=>h.IsListIter i l n
 | false=>h.IsTupleIter i l n
def KSq(k:Bool)(h:Heap)(l:Addr)(xs:Array Value):Prop:=match k with
 | true=>h.IsList l xs
 | false=>h.IsTuple l xs
theorem KIt.at{k:Bool}{h h':Heap}{i l:Addr}{n:Nat}(x:KIt k h i l n)(e:∀o,h.get? i=some o→h'.get? i=some o):KIt k h' i l n:=by
 cases k with
 | true=>exact Heap.IsListIter.at x e
 | false=>exact Heap.IsTupleIter.at x e
theorem KSq.at{k:Bool}{h h':Heap}{l:Addr}{xs:Array Value}(x:KSq k h l xs)(e:∀o,h.get? l=some o→h'.get? l=some o):KSq k h' l xs:=by
 cases k with
 | true=>exact Heap.IsList.at x e
 | false=>exact Heap.IsTuple.at x e
theorem KIt.ob{k:Bool}{h:Heap}{i l:Addr}{n:Nat}(x:KIt k h i l n):∃o,h.get? i=some o∧o.data=.fields #[.ref l,.int n 0]:=by
 cases k with
 | true=>obtain⟨o,a,_,b⟩:=x;exact⟨o,a,b⟩
 | false=>obtain⟨o,a,_,b⟩:=x;exact⟨o,a,b⟩
section
variable{prog:Program}{w:World}{A:Around}{E:Value→Shared→Prop}{s:Shared}
theorem zd{it t:Addr}{i:Nat}{items:Array Value}{x:Value}{Q:Value→Shared→Prop}(hit:s.heap.IsTupleIter it t i)(ht:s.heap.IsTuple t items)(hx:items[i]?=some x)
  (hQ:∀h',h'.IsTupleIter it t (i+1)→Heap.SameBut it s.heap h'→Q x { s with heap:=h' }):wpAny (model prog w) A (Builtin.SmallTypes.nextOf (.ref it)) Q E s:=by
 obtain⟨⟨o,ho,hc,hd⟩,⟨ol,hol,_,nl,hdl⟩⟩:=And.intro (id hit) ht
 unfold Builtin.SmallTypes.nextOf
 refine wpAny_bind (wpAny_callSpecial?_slot (name:=Str.ofString "__next__") hit.typeIs F.slot_tuple_iterator_next (wpAny_call_entry F.slot_tuple_iterator_next hit.typeIs F.entry_tuple_iterator_next ?_ (F.args_tuple_iterator_next_1 _)))
 show wpAny _ _ (field (.ref it) 0>>=_) _ _ s;refine wpAny_bind (wpAny_field ho hd (x:=.ref t) rfl ?_)
 show wpAny _ _ (if (Value.ref t==Value.none)=true then _ else _) _ _ s;rw[if_neg (show ¬ ((Value.ref t==Value.none)=true) from Bool.false_ne_true)]
 show wpAny _ _ (field (.ref it) 1>>=_) _ _ s;refine wpAny_bind (wpAny_field ho hd (x:=.int i 0) rfl ?_)
 show wpAny _ _ (seqItems? (.ref t)>>=_) _ _ s;refine wpAny_bind (wpAny_seqItems hol hdl ?_)
 simp only[Int.toNat_natCast,hx];refine wpAny_bind (wpAny_setField ho hd (by simp) (wpAny_pure ⟨x,rfl,wpAny_pure (hQ _ ?_ (Heap.SameBut.update ..))⟩))
 exact⟨_,Heap.get?_update_self _ ho (Obj.isFreed_of_fields (Obj.data_mapFields hd _)),(Obj.cls_mapFields ..).trans hc,by rw[Obj.data_mapFields hd];simp[rawInt]⟩
theorem Ce{it t:Addr}{i:Nat}{items:Array Value}{Q:Value→Shared→Prop}(hh:A.handled=none)(hit:s.heap.IsTupleIter it t i)(ht:s.heap.IsTuple t items)(hx:items[i]?=none)
  (hE:∀h' e,Heap.ExtBut it s.heap h'→(∃o,h'.get? e=some o∧o.cls=.type "StopIteration")→E (.ref e) { s with heap:=h' }):wpAny (model prog w) A (Builtin.SmallTypes.nextOf (.ref it)) Q E s:=by
 obtain⟨⟨o,ho,hc,hd⟩,⟨ol,hol,_,nl,hdl⟩⟩:=And.intro (id hit) ht
 unfold Builtin.SmallTypes.nextOf
 refine wpAny_bind (wpAny_callSpecial?_slot (name:=Str.ofString "__next__") hit.typeIs F.slot_tuple_iterator_next (wpAny_call_entry F.slot_tuple_iterator_next hit.typeIs F.entry_tuple_iterator_next ?_ (F.args_tuple_iterator_next_1 _)))
 show wpAny _ _ (field (.ref it) 0>>=_) _ _ s;refine wpAny_bind (wpAny_field ho hd (x:=.ref t) rfl ?_)
 show wpAny _ _ (if (Value.ref t==Value.none)=true then _ else _) _ _ s;rw[if_neg (show ¬ ((Value.ref t==Value.none)=true) from Bool.false_ne_true)]
 show wpAny _ _ (field (.ref it) 1>>=_) _ _ s;refine wpAny_bind (wpAny_field ho hd (x:=.int i 0) rfl ?_)
 show wpAny _ _ (seqItems? (.ref t)>>=_) _ _ s;refine wpAny_bind (wpAny_seqItems hol hdl ?_)
 simp only[Int.toNat_natCast,hx];refine wpAny_bind (wpAny_rule (wpAny_bind (wpAny_setField ho hd (by simp) ?_)))
 show wpAny _ _ (newExc (.type "StopIteration") []>>=_) _ _ _;refine wpAny_bind ?_
 simp only[newExc,newTuple];refine wpAny_bind (wpAny_newObj_type ?_ (by size_fits))
 refine wpAny_bind (m:=firstArgMember _ _) (wpAny_of_eq (a:=Value.none) (by first|rfl|(simp only[firstArgMember];rfl)) ?_);refine wpAny_newObj_type ?_ (by size_fits)
 simp only[raiseNew];refine wpAny_bind (wpAny_handled ?_);first|rw[show A.in1.handled=none from hh]|rw[hh]
 refine wpAny_bind (wpAny_pure (wpAny_throw ?_));exact hE _ _ (((Heap.SameBut.update ..).extBut.push _).push _) ⟨_,Heap.get?_push_size _ rfl,rfl⟩
theorem km{k:Bool}{it t:Addr}{i:Nat}{items:Array Value}{x:Value}{Q:Value→Shared→Prop}(hit:KIt k s.heap it t i)(ht:KSq k s.heap t items)(hx:items[i]?=some x)
  (hQ:∀h',KIt k h' it t (i+1)→Heap.SameBut it s.heap h'→Q x { s with heap:=h' }):wpAny (model prog w) A (Builtin.SmallTypes.nextOf (.ref it)) Q E s:=by
 cases k with
 | true=>exact wpAny_nextOf_list_item hit ht hx hQ
 | false=>exact zd hit ht hx hQ
theorem o7{k:Bool}{it t:Addr}{i:Nat}{items:Array Value}{Q:Value→Shared→Prop}(hh:A.handled=none)(hit:KIt k s.heap it t i)(ht:KSq k s.heap t items)(hx:items[i]?=none)
  (hE:∀h' e,Heap.ExtBut it s.heap h'→(∃o,h'.get? e=some o∧o.cls=.type "StopIteration")→E (.ref e) { s with heap:=h' }):wpAny (model prog w) A (Builtin.SmallTypes.nextOf (.ref it)) Q E s:=by
 cases k with
 | true=>exact wpAny_nextOf_list_end hh hit ht hx hE
 | false=>exact Ce hh hit ht hx hE
theorem Cf{k1 k2:Bool}{z TI TO i1 i2 l1 l2:Addr}{n1 n2:Nat}{xs ys:Array Value}{x y a b:Value}{Q:Value→Shared→Prop}(D:ZipApart z TI TO i1 i2 l1 l2)
  (hz:IsZip s.heap z TI TO .none) (hTI:IsPair s.heap TI (.ref i1) (.ref i2)) (hTO:IsPair s.heap TO a b) (h1:KIt k1 s.heap i1 l1 n1) (h2:KIt k2 s.heap i2 l2 n2) (hl1:KSq k1 s.heap l1 xs) (hl2:KSq k2 s.heap l2 ys) (hx:xs[n1]?=some x) (hy:ys[n2]?=some y)
  (hQ:∀h',IsZip h' z TI TO (rawInt s.heap.objs.size)→IsPair h' TO x y→KIt k1 h' i1 l1 (n1+1)→KIt k2 h' i2 l2 (n2+1)→IsPair h' s.heap.objs.size x y→h'.objs.size=s.heap.objs.size+1 →
   (∀c o,c≠z→c≠TO→c≠i1→c≠i2→s.heap.get? c=some o→h'.get? c=some o)→Q (.ref s.heap.objs.size) { s with heap:=h' }) :
  wpAny (model prog w) A (Builtin.«zip.__next__» ⟨[.ref z],[]⟩) (λfin s'=>∃v,fin=.done (.ret v)∧Q v s') E s:=by
 show wpAny _ _ (field (.ref z) 2>>=_) _ _ _;refine wpAny_bind (wpAny_field hz rfl (x:=.bool false) rfl ?_)
 show wpAny _ _ (field (.ref z) 3>>=_) _ _ _;refine wpAny_bind (wpAny_field hz rfl (x:=.ref TI) rfl ?_)
 refine wpAny_bind (wpAny_seqItems hTI rfl ?_);show wpAny _ _ (Builtin.SmallTypes.ownedTupleIsFree (.ref z)>>=_) _ _ _;refine wpAny_bind ?_
 unfold Builtin.SmallTypes.ownedTupleIsFree;refine wpAny_bind (wpAny_field hz rfl (x:=.none) rfl (wpAny_pure ?_))
 simp only[if_true];refine wpAny_bind (wpAny_rule ?_);refine wpAny_bind (wpAny_field hz rfl (x:=.ref TO) rfl ?_)
 refine wpAny_bind (wpAny_setField_rec hz (by simp) λg₁ hz₁ hs₁=>?_);replace hz₁:IsZip g₁ z TI TO .ellipsis:=hz₁
 refine wpAny_bind ?_;simp only[List.zipIdx_cons,List.zipIdx_nil,List.forIn_cons,List.forIn_nil];refine wpAny_bind (wpAny_bind (wpAny_onRaise ?_))
 show wpAny _ _ (Builtin.SmallTypes.nextOf (.ref i1)>>=_) _ _ _
 refine wpAny_bind (km (h1.at λo e=>hs₁.extBut _ _ D.i1z e) (hl1.at λo e=>hs₁.extBut _ _ D.l1z e) hx λg₂ h1₂ hs₂=>wpAny_pure ?_)
 have hTO₂:IsPair g₂ TO a b:=hs₂.extBut _ _ D.TOi1 (hs₁.extBut _ _ D.TOz hTO)
 refine wpAny_bind (wpAny_seqItems hTO₂ rfl ?_);refine wpAny_bind (wpAny_updateSeq_pair hTO₂ λg₃ hTO₃ hs₃=>?_)
 replace hTO₃:IsPair g₃ TO x b:=hTO₃;refine wpAny_bind (wpAny_letGo (wpAny_pure ?_));refine wpAny_bind (wpAny_bind (wpAny_onRaise ?_))
 show wpAny _ _ (Builtin.SmallTypes.nextOf (.ref i2)>>=_) _ _ _
 refine wpAny_bind (km (h2.at λo e=>hs₃.extBut _ _ D.TOi2.symm (hs₂.extBut _ _ D.i12.symm (hs₁.extBut _ _ D.i2z e))) (hl2.at λo e=>hs₃.extBut _ _ D.l2TO (hs₂.extBut _ _ D.l2i1 (hs₁.extBut _ _ D.l2z e))) hy λg₄ h2₄ hs₄=>wpAny_pure ?_)
 have hTO₄:IsPair g₄ TO x b:=hs₄.extBut _ _ D.TOi2 hTO₃
 refine wpAny_bind (wpAny_seqItems hTO₄ rfl ?_);refine wpAny_bind (wpAny_updateSeq_pair hTO₄ λg₅ hTO₅ hs₅=>?_)
 replace hTO₅:IsPair g₅ TO x y:=hTO₅;refine wpAny_bind (wpAny_letGo (wpAny_pure (wpAny_pure ?_)))
 refine wpAny_bind (wpAny_seqItems hTO₅ rfl ?_);refine wpAny_bind (wpAny_newTuple ?_)
 have hsz:g₅.objs.size=s.heap.objs.size:=by rw[hs₅.1,hs₄.1,hs₃.1,hs₂.1,hs₁.1]
 have hz₅:IsZip g₅ z TI TO .ellipsis:=hs₅.extBut _ _ D.TOz.symm (hs₄.extBut _ _ D.i2z.symm (hs₃.extBut _ _ D.TOz.symm (hs₂.extBut _ _ D.i1z.symm hz₁)))
 have hk₅:∀c o,c≠z→c≠TO→c≠i1→c≠i2→s.heap.get? c=some o→g₅.get? c=some o:=λc o c1 c2 c3 c4 e=>hs₅.extBut _ _ c2 (hs₄.extBut _ _ c4 (hs₃.extBut _ _ c2 (hs₂.extBut _ _ c3 (hs₁.extBut _ _ c1 e))))
 have h1₅:KIt k1 g₅ i1 l1 (n1+1):=h1₂.at λo e=>hs₅.extBut _ _ D.TOi1.symm (hs₄.extBut _ _ D.i12 (hs₃.extBut _ _ D.TOi1.symm e))
 have h2₅:KIt k2 g₅ i2 l2 (n2+1):=h2₄.at λo e=>hs₅.extBut _ _ D.TOi2.symm e
 have Nk:z<g₅.objs.size:=Heap.lt_size hz₅
 show wpAny _ _ (Builtin.SmallTypes.ownedTupleHandOut (.ref z) (.ref g₅.objs.size)>>=_) _ _ _;refine wpAny_bind ?_
 unfold Builtin.SmallTypes.ownedTupleHandOut
 have hz₆:IsZip (g₅.push { cls:=.type "tuple",data:=.seq #[x,y] }) z TI TO .ellipsis:=Heap.get?_push_of_some _ hz₅
 refine wpAny_bind (wpAny_setField_rec hz₆ (by simp) λg₇ hz₇ hs₇=>?_);replace hz₇:IsZip g₇ z TI TO (rawInt g₅.objs.size):=hz₇
 refine wpAny_setField_rec hz₇ (by simp) λg₈ hz₈ hs₈=>?_
 replace hz₈:IsZip g₈ z TI TO (rawInt g₅.objs.size):=hz₈
 have up:∀c o,c≠z→g₅.get? c=some o→g₈.get? c=some o:=λc o c1 e=>hs₈.extBut _ _ c1 (hs₇.extBut _ _ c1 (Heap.get?_push_of_some _ e))
 have hT₈:IsPair g₈ g₅.objs.size x y:=hs₈.extBut _ _ (Nat.ne_of_gt Nk) (hs₇.extBut _ _ (Nat.ne_of_gt Nk) (Heap.get?_push_size _ rfl))
 have hz8:g₈.objs.size=g₅.objs.size+1:=by rw[hs₈.1,hs₇.1,Heap.size_push]
 rw[hsz] at hz₈ hT₈ hz8
 refine wpAny_pure ⟨_,rfl,?_⟩
 show Q (.ref g₅.objs.size) _
 rw[hsz]
 exact hQ g₈ hz₈ (up _ _ D.TOz hTO₅) (h1₅.at λo e=>up _ o D.i1z e) (h2₅.at λo e=>up _ o D.i2z e) hT₈ hz8 λc o c1 c2 c3 c4 e=>up c o c1 (hk₅ c o c1 c2 c3 c4 e)
theorem EA{k1 k2:Bool}{z TI TO i1 i2 l1 l2:Addr}{n1 n2:Nat}{xs ys:Array Value}{a b:Value}{Q:Fin→Shared→Prop}(hh:A.handled=none)(D:ZipApart z TI TO i1 i2 l1 l2)
  (hz:IsZip s.heap z TI TO .none) (hTI:IsPair s.heap TI (.ref i1) (.ref i2)) (hTO:IsPair s.heap TO a b) (h1:KIt k1 s.heap i1 l1 n1) (h2:KIt k2 s.heap i2 l2 n2) (hl1:KSq k1 s.heap l1 xs) (hl2:KSq k2 s.heap l2 ys) (qQ:xs[n1]?=none∨ys[n2]?=none)
  (hE:∀h' e,(∀c o,c≠z→c≠TO→c≠i1→c≠i2→s.heap.get? c=some o→h'.get? c=some o)→(∃o,h'.get? e=some o∧o.cls=.type "StopIteration")→E (.ref e) { s with heap:=h' }) :
  wpAny (model prog w) A (Builtin.«zip.__next__» ⟨[.ref z],[]⟩) Q E s:=by
 show wpAny _ _ (field (.ref z) 2>>=_) _ _ _;refine wpAny_bind (wpAny_field hz rfl (x:=.bool false) rfl ?_)
 show wpAny _ _ (field (.ref z) 3>>=_) _ _ _;refine wpAny_bind (wpAny_field hz rfl (x:=.ref TI) rfl ?_)
 refine wpAny_bind (wpAny_seqItems hTI rfl ?_);show wpAny _ _ (Builtin.SmallTypes.ownedTupleIsFree (.ref z)>>=_) _ _ _;refine wpAny_bind ?_
 unfold Builtin.SmallTypes.ownedTupleIsFree;refine wpAny_bind (wpAny_field hz rfl (x:=.none) rfl (wpAny_pure ?_))
 simp only[if_true];refine wpAny_bind (wpAny_rule ?_);refine wpAny_bind (wpAny_field hz rfl (x:=.ref TO) rfl ?_)
 refine wpAny_bind (wpAny_setField_rec hz (by simp) λg₁ hz₁ hs₁=>?_);replace hz₁:IsZip g₁ z TI TO .ellipsis:=hz₁
 refine wpAny_bind ?_;simp only[List.zipIdx_cons,List.zipIdx_nil,List.forIn_cons,List.forIn_nil];refine wpAny_bind (wpAny_bind (wpAny_onRaise ?_))
 show wpAny _ _ (Builtin.SmallTypes.nextOf (.ref i1)>>=_) _ _ _
 have h1':=h1.at λo e=>hs₁.extBut _ _ D.i1z e
 have Nl:=hl1.at λo e=>hs₁.extBut _ _ D.l1z e
 cases hx:xs[n1]? with
 | none =>
  refine wpAny_bind (o7 hh h1' Nl hx λg₂ e hs₂ he=>?_)
  obtain⟨oe,hoe,hce⟩:=he
  have hz₂:IsZip g₂ z TI TO .ellipsis:=hs₂ _ _ D.i1z.symm hz₁
  have hez:e≠z:=λq=>by subst q;rw[hz₂] at hoe;cases hoe;simp at hce
  exact wpAny_setField_rec hz₂ (by simp) λg₃ _ hs₃=>hE g₃ e (λc o c1 _ c3 _ q=>hs₃.extBut _ _ c1 (hs₂ _ _ c3 (hs₁.extBut _ _ c1 q))) ⟨oe,hs₃.extBut _ _ hez hoe,hce⟩
 | some x =>
  have hy:ys[n2]?=none:=by
   rcases qQ with h|h
   ·rw[hx] at h;cases h
   ·exact h
  refine wpAny_bind (km h1' Nl hx λg₂ h1₂ hs₂=>wpAny_pure ?_)
  have hTO₂:IsPair g₂ TO a b:=hs₂.extBut _ _ D.TOi1 (hs₁.extBut _ _ D.TOz hTO)
  refine wpAny_bind (wpAny_seqItems hTO₂ rfl ?_);refine wpAny_bind (wpAny_updateSeq_pair hTO₂ λg₃ hTO₃ hs₃=>?_)
  refine wpAny_bind (wpAny_letGo (wpAny_pure ?_));refine wpAny_bind (wpAny_bind (wpAny_onRaise ?_))
  show wpAny _ _ (Builtin.SmallTypes.nextOf (.ref i2)>>=_) _ _ _
  refine wpAny_bind (o7 hh (h2.at λo e=>hs₃.extBut _ _ D.TOi2.symm (hs₂.extBut _ _ D.i12.symm (hs₁.extBut _ _ D.i2z e))) (hl2.at λo e=>hs₃.extBut _ _ D.l2TO (hs₂.extBut _ _ D.l2i1 (hs₁.extBut _ _ D.l2z e))) hy λg₄ e hs₄ he=>?_)
  obtain⟨oe,hoe,hce⟩:=he
  have hz₄:IsZip g₄ z TI TO .ellipsis:=hs₄ _ _ D.i2z.symm (hs₃.extBut _ _ D.TOz.symm (hs₂.extBut _ _ D.i1z.symm hz₁))
  have hez:e≠z:=λq=>by subst q;rw[hz₄] at hoe;cases hoe;simp at hce
  exact wpAny_setField_rec hz₄ (by simp) λg₅ _ hs₅=>hE g₅ e (λc o c1 c2 c3 c4 q=>hs₅.extBut _ _ c1 (hs₄ _ _ c4 (hs₃.extBut _ _ c2 (hs₂.extBut _ _ c3 (hs₁.extBut _ _ c1 q))))) ⟨oe,hs₅.extBut _ _ hez hoe,hce⟩
theorem vF{k1 k2:Bool}{z TI TO i1 i2 l1 l2:Addr}{n1 n2:Nat}{xs ys:Array Value}{x y a b:Value}{Q:Option Value→Shared→Prop}(D:ZipApart z TI TO i1 i2 l1 l2)
  (hz:IsZip s.heap z TI TO .none) (hTI:IsPair s.heap TI (.ref i1) (.ref i2)) (hTO:IsPair s.heap TO a b) (h1:KIt k1 s.heap i1 l1 n1) (h2:KIt k2 s.heap i2 l2 n2) (hl1:KSq k1 s.heap l1 xs) (hl2:KSq k2 s.heap l2 ys) (hx:xs[n1]?=some x) (hy:ys[n2]?=some y)
  (hQ:∀h',IsZip h' z TI TO (rawInt s.heap.objs.size)→IsPair h' TO x y→KIt k1 h' i1 l1 (n1+1)→KIt k2 h' i2 l2 (n2+1)→IsPair h' s.heap.objs.size x y→h'.objs.size=s.heap.objs.size+1 →
   (∀c o,c≠z→c≠TO→c≠i1→c≠i2→s.heap.get? c=some o→h'.get? c=some o)→Q (some (.ref s.heap.objs.size)) { s with heap:=h' }):wpAny (model prog w) A (pyNext (.ref z)) Q E s:=by
 have hT:s.TypeIs (.ref z) "zip":=⟨_,hz,rfl⟩
 unfold pyNext
 exact wpAny_bind (wpAny_attempt (wpAny_callSpecial?_slot (name:=Str.ofString "__next__") hT F.slot_zip_next (wpAny_call_entry F.slot_zip_next hT F.entry_zip_next
  (Cf D hz hTI hTO h1 h2 hl1 hl2 hx hy λh' a1 a2 a3 a4 a5 a6 a7=>wpAny_pure (hQ h' a1 a2 a3 a4 a5 a6 a7)) (F.args_zip_next_1 _))))
theorem xF{k1 k2:Bool}{z TI TO i1 i2 l1 l2:Addr}{n1 n2:Nat}{xs ys:Array Value}{a b:Value}{Q:Option Value→Shared→Prop}(hh:A.handled=none)(D:ZipApart z TI TO i1 i2 l1 l2)
  (hz:IsZip s.heap z TI TO .none) (hTI:IsPair s.heap TI (.ref i1) (.ref i2)) (hTO:IsPair s.heap TO a b) (h1:KIt k1 s.heap i1 l1 n1) (h2:KIt k2 s.heap i2 l2 n2) (hl1:KSq k1 s.heap l1 xs) (hl2:KSq k2 s.heap l2 ys) (qQ:xs[n1]?=none∨ys[n2]?=none)
  (hQ:∀h',(∀c o,c≠z→c≠TO→c≠i1→c≠i2→s.heap.get? c=some o→h'.get? c=some o)→Q none { s with heap:=h' }):wpAny (model prog w) A (pyNext (.ref z)) Q E s:=by
 have hT:s.TypeIs (.ref z) "zip":=⟨_,hz,rfl⟩
 unfold pyNext
 refine wpAny_bind (wpAny_attempt (wpAny_callSpecial?_slot (name:=Str.ofString "__next__") hT F.slot_zip_next (wpAny_call_entry F.slot_zip_next hT F.entry_zip_next (EA hh D hz hTI hTO h1 h2 hl1 hl2 qQ λh' e hk he=>?_) (F.args_zip_next_1 _))))
 obtain⟨o,ho,hc⟩:=he
 refine wpAny_bind (wpAny_isInstance (T:="StopIteration") (b:=true) ⟨o,ho,hc⟩ isSubtype_stop ?_);exact wpAny_pure (hQ _ hk)
end
def iw(k:Bool)(l:Addr):Obj:={ cls:=.type (if k then "list_iterator" else "tuple_iterator"),data:=.fields #[.ref l,.int 0 0] }
noncomputable abbrev zH2 (k1 k2 : Bool) (h : Heap) (l1 l2 : Addr) : Heap := (h.push (iw k1 l1)).push (iw k2 l2)
noncomputable abbrev zH4 (k1 k2 : Bool) (h : Heap) (l1 l2 : Addr) : Heap := ((zH2 k1 k2 h l1 l2).push { cls := .type "tuple", data := .seq #[.ref h.objs.size, .ref (h.push (iw k1 l1)).objs.size] }).push { cls := .type "tuple", data := .seq #[.none, .none] }
noncomputable abbrev zH5 (k1 k2 : Bool) (h : Heap) (l1 l2 : Addr) : Heap := (zH4 k1 k2 h l1 l2).push { cls := .type "zip", data := .fields #[.none, .bool false, .bool false, .ref (zH2 k1 k2 h l1 l2).objs.size, .ref ((zH2 k1 k2 h l1 l2).push { cls := .type "tuple", data := .seq #[.ref h.objs.size, .ref (h.push (iw k1 l1)).objs.size] }).objs.size] }
set_option maxHeartbeats 4000000 in
theorem HY(k1 k2:Bool)(l1 l2:Addr)(xs ys:Array Value) :
  Meets (Builtin.«zip.__new__» ⟨[.type "zip",.ref l1,.ref l2],[]⟩) (λ_ R s=>KSq k1 s.heap l1 xs∧KSq k2 s.heap l2 ys∧R (.ok (.ret (.ref (zH4 k1 k2 s.heap l1 l2).objs.size))) { s with heap:=zH5 k1 k2 s.heap l1 l2 }) :=
 .of_wp λprog w A R s h=>by
  obtain⟨hp,g,d,tk,os⟩:=s;obtain⟨hl1,hl2,h⟩:=h
  have Pt:=sub_zip
  cases k1 with
  | true =>
   have hL1:Heap.IsList (Shared.heap ⟨hp,g,d,tk,os⟩) l1 xs:=hl1
   cases k2 with
   | true =>
    have hL2:Heap.IsList (Shared.heap ⟨hp.push { cls:=.type "list_iterator",data:=.fields #[.ref l1,.int 0 0] },g,d,tk,os⟩) l2 ys:=Heap.IsList.push hl2 _
    wp_walk using wpAny_pyIter_list hL1,wpAny_pyIter_list hL2
    exact⟨_,rfl,h⟩
   | false =>
    have hL2:Heap.IsTuple (Shared.heap ⟨hp.push { cls:=.type "list_iterator",data:=.fields #[.ref l1,.int 0 0] },g,d,tk,os⟩) l2 ys:=Heap.IsTuple.push hl2 _
    wp_walk using wpAny_pyIter_list hL1,wpAny_pyIter_tuple hL2
    exact⟨_,rfl,h⟩
  | false =>
   have hL1:Heap.IsTuple (Shared.heap ⟨hp,g,d,tk,os⟩) l1 xs:=hl1
   cases k2 with
   | true =>
    have hL2:Heap.IsList (Shared.heap ⟨hp.push { cls:=.type "tuple_iterator",data:=.fields #[.ref l1,.int 0 0] },g,d,tk,os⟩) l2 ys:=Heap.IsList.push hl2 _
    wp_walk using wpAny_pyIter_tuple hL1,wpAny_pyIter_list hL2
    exact⟨_,rfl,h⟩
   | false =>
    have hL2:Heap.IsTuple (Shared.heap ⟨hp.push { cls:=.type "tuple_iterator",data:=.fields #[.ref l1,.int 0 0] },g,d,tk,os⟩) l2 ys:=Heap.IsTuple.push hl2 _
    wp_walk using wpAny_pyIter_tuple hL1,wpAny_pyIter_tuple hL2
    exact⟨_,rfl,h⟩
theorem KIt.new{k:Bool}{h:Heap}{i l:Addr}(e:h.get? i=some (iw k l)):KIt k h i l 0:=by
 cases k with
 | true=>exact⟨_,e,rfl,rfl⟩
 | false=>exact⟨_,e,rfl,rfl⟩
section
variable{prog:Program}{w:World}{A:Around}{E:Value→Shared→Prop}{s:Shared}
theorem Cg{k1 k2:Bool}{l1 l2:Addr}{xs ys:Array Value}{Q:Value→Shared→Prop}(hl1:KSq k1 s.heap l1 xs)(hl2:KSq k2 s.heap l2 ys)
  (h:∀h',IsZip h' (s.heap.objs.size+4) (s.heap.objs.size+2) (s.heap.objs.size+3) .none→IsPair h' (s.heap.objs.size+2) (.ref s.heap.objs.size) (.ref (s.heap.objs.size+1))→IsPair h' (s.heap.objs.size+3) .none .none →
   KIt k1 h' s.heap.objs.size l1 0→KIt k2 h' (s.heap.objs.size+1) l2 0→h'.objs.size=s.heap.objs.size+5→(∀c o,s.heap.get? c=some o→h'.get? c=some o)→Q (.ref (s.heap.objs.size+4)) { s with heap:=h' }) :
  wpAny (model prog w) A (call (.type "zip") [.ref l1,.ref l2]) Q E s:=by
 refine callType_new F.called_zip (by decide) (F.typeCall_zip_2 _ _) (F.newCall_zip_2 _ _) (λobj=>F.args_object_init_3 obj _ _) F.entry_zip_new (HY k1 k2 l1 l2 xs ys) ⟨hl1,hl2,?_⟩
 have z1:(s.heap.push (iw k1 l1)).objs.size=s.heap.objs.size+1:=Heap.size_push ..
 have z2:(zH2 k1 k2 s.heap l1 l2).objs.size=s.heap.objs.size+2:=by rw[Heap.size_push,z1]
 have z3:((zH2 k1 k2 s.heap l1 l2).push { cls:=.type "tuple",data:=.seq #[.ref s.heap.objs.size,.ref (s.heap.push (iw k1 l1)).objs.size] }).objs.size=s.heap.objs.size+3:=by rw[Heap.size_push,z2]
 have z4:(zH4 k1 k2 s.heap l1 l2).objs.size=s.heap.objs.size+4:=by rw[Heap.size_push,z3]
 have z5:(zH5 k1 k2 s.heap l1 l2).objs.size=s.heap.objs.size+5:=by rw[Heap.size_push,z4]
 have g5:(zH5 k1 k2 s.heap l1 l2).get? (zH4 k1 k2 s.heap l1 l2).objs.size=some _:=Heap.get?_push_size _ rfl
 have g4:(zH5 k1 k2 s.heap l1 l2).get? ((zH2 k1 k2 s.heap l1 l2).push { cls:=.type "tuple",data:=.seq #[.ref s.heap.objs.size,.ref (s.heap.push (iw k1 l1)).objs.size] }).objs.size=some _:=Heap.get?_push_of_some _ (Heap.get?_push_size _ rfl)
 have g3:(zH5 k1 k2 s.heap l1 l2).get? (zH2 k1 k2 s.heap l1 l2).objs.size=some _:=Heap.get?_push_of_some _ (Heap.get?_push_of_some _ (Heap.get?_push_size _ rfl))
 have g2:(zH5 k1 k2 s.heap l1 l2).get? (s.heap.push (iw k1 l1)).objs.size=some (iw k2 l2):=Heap.get?_push_of_some _ (Heap.get?_push_of_some _ (Heap.get?_push_of_some _ (Heap.get?_push_size _ rfl)))
 have g1:(zH5 k1 k2 s.heap l1 l2).get? s.heap.objs.size=some (iw k1 l1):=Heap.get?_push_of_some _ (Heap.get?_push_of_some _ (Heap.get?_push_of_some _ (Heap.get?_push_of_some _ (Heap.get?_push_size _ rfl))))
 show _∧_
 rw[z2,z3,z4] at g5;rw[z1,z2] at g3;rw[z3] at g4;rw[z1] at g2;rw[z4]
 exact⟨⟨_,g5,rfl⟩,h _ g5 g3 g4 (KIt.new g1) (KIt.new g2) z5 λc o q =>
  Heap.get?_push_of_some _ (Heap.get?_push_of_some _ (Heap.get?_push_of_some _ (Heap.get?_push_of_some _ (Heap.get?_push_of_some _ q))))⟩
end
def jA(K:PySem.W.Frag)(k:Bool)(H:Hp)(a:Addr)(xs:List V):Prop:=match k with
 | true=>SqL K H a xs
 | false=>SqT K H a xs
theorem Inv.ksq{X:Cx}{pins:List (Addr×Obj)}{σ:L2.St}{H:Hp}{s:Shared}{k:Bool}{a:Addr}{xs:List V}(I:Inv X pins σ H s)(h:jA X.K k H a xs):∃its:List Value,Vals xs its∧KSq k s.heap a its.toArray∧xs.length≤sizeLine:=by
 cases k with
 | true=>obtain⟨its,r,p,z⟩:=I.list h;exact⟨its,r,p.isList,z⟩
 | false=>obtain⟨its,r,p,z⟩:=I.tuple h;exact⟨its,r,p,z⟩
theorem Inv.vG{X:Cx}{pins:List (Addr×Obj)}{σ:L2.St}{H:Hp}{s:Shared}{k:Bool}{a:Addr}{xs ys:List V}(I:Inv X pins σ H s)(h:jA X.K k H a xs)(h':jA X.K k H a ys):xs=ys:=by
 cases k with
 | true=>exact I.wU h h'
 | false=>exact I.t9 h h'
def Itz(K:PySem.W.Frag)(k1 k2:Bool)(a b:Addr):It :=
 ⟨λi H=>∃xs ys x y,jA K k1 H a xs∧jA K k2 H b ys∧xs[i]?=some x∧ys[i]?=some y,
  λi H v H'=>∃p x y,v=.ref p∧H p=none∧H'=upd H p (.tup [x,y])∧(∀xs,jA K k1 H a xs→xs[i]?=some x)∧∀ys,jA K k2 H b ys→ys[i]?=some y,
  λi H=>∃xs ys,jA K k1 H a xs∧jA K k2 H b ys∧(xs.length≤i∨ys.length≤i)⟩
theorem iT{X:Cx}{pins:List (Addr×Obj)}{σ:L2.St}{H:Hp}{s:Shared}{k:Bool}{a c:Addr}{xs:List V}(I:Inv X pins σ H s)(h:jA X.K k H a xs)(hf:kY X pins H c):a≠c:=λe=>by
 subst e
 have key:∀o,X.K.lookup a=some o→False:=λo hk=>by
  have hb:=I.ok.mod.kin a o hk
  rcases hf.2.2.2.1 with z|z
  ·exact I.ok.BH a o hb z
  ·exact absurd (Nat.lt_of_lt_of_le (Heap.lt_size hb) (Nat.le_trans I.ok.bsz z)) (Nat.lt_irrefl _)
 cases k with
 | true =>
  rcases h with (h|⟨o,h⟩)|⟨o,its,n,hk,_⟩
  ·rw[hf.1] at h;cases h
  ·rw[hf.1] at h;cases h
  ·exact key o hk
 | false =>
  have h:H a=some (.tup xs):=h
  rw[hf.1] at h;cases h
section
variable{X:Cx}{pins:List (Addr×Obj)}{σ:L2.St}{H:Hp}{s:Shared}{h':Heap}{ch:List Addr}
theorem A6{b:Addr}{u o:HO}{H':Hp}{tr:Addr}(I:Inv X pins σ H s)(k:∀b o,b∉ch→s.heap.get? b=some o→h'.get? b=some o)(hf:∀b∈ch,kY X pins H b)(e:H b=some u)
  (ho:∀c,H c=some (.own b)→H' c=some (.own b)) (ht:∀c xs,H c=some (.tup xs)→H' c=some (.tup xs)):cL X.prog X.w H' h' b u:=by
 refine (I.hok b u e).wO (λc v hc q=>k c v (λz=>?_) q) ho ht
 have hn:=(hf c z).1
 rcases hc with rfl|hc
 ·rw[hn] at e;cases e
 ·rw[hn] at hc;cases hc
theorem Inv.vH{t':Nat}(I:Inv X pins σ H s)(k:∀b o,b∉ch→s.heap.get? b=some o→h'.get? b=some o)(hf:∀b∈ch,kY X pins H b):Inv X pins σ H { s with heap:=h',toks:=t' }:=by
 refine I.step (g':=s.gens) (d':=s.drawn) (ch:=ch) (λb hb=>⟨(hf b hb).2.2.2.1,(hf b hb).2.1,(hf b hb).2.2.2.2.1,(hf b hb).2.2.2.2.2⟩) (λb o _ _ hc e _=>k b o hc e) (λb o _ _ hc e _=>⟨o.slots,k b o hc e⟩) (λ_ _ _ _ n=>n)
  (λb o hc e=>⟨o,k b o hc e⟩) (λ_ _ e=>e) (λ_ _ _ e=>e) (λb ps e=>⟨#[],by rw[e];simp⟩) (λm hm=>?_) (λb u e=>A6 (o:=u) (tr:=b) I k hf e (λ_ q=>q) λ_ _ q=>q) I.bare
 obtain⟨o,es,ep,ho,r⟩:=hm
 exact⟨o,es,ep,k _ o (λz=>(hf _ z).2.1 rfl) ho,r⟩
theorem Inv.vI{o:HO}(I:Inv X pins σ H s)(k:∀b o,b∉ch→s.heap.get? b=some o→h'.get? b=some o)(hf:∀b∈ch,kY X pins H b)(new:cL X.prog X.w (upd H s.heap.objs.size o) h' s.heap.objs.size o) :
  Inv X pins σ (upd H s.heap.objs.size o) { s with heap:=h' }:=by
 have hn:H s.heap.objs.size=none:=I.hok.fresh (Nat.le_refl _)
 have ne:∀{b:Addr}{ob:Obj},s.heap.get? b=some ob→b≠s.heap.objs.size:=λe=>Nat.ne_of_lt (Heap.lt_size e)
 refine I.step (g':=s.gens) (d':=s.drawn) (t':=s.toks) (ch:=ch) (λb hb=>⟨(hf b hb).2.2.2.1,(hf b hb).2.1,(hf b hb).2.2.2.2.1,(hf b hb).2.2.2.2.2⟩) (λb o _ _ hc e _=>k b o hc e) (λb o _ _ hc e _=>⟨o.slots,k b o hc e⟩) (λb ob _ e n=>by rw[aE (ne e)];exact n)
  (λb o hc e=>⟨o,k b o hc e⟩) (λb xs q=>by rw[aE (dj q hn)];exact q) (λb u xs q=>by rw[aE (dj q hn)];exact q) (λb ps q=>⟨#[],by rw[aE (dj q hn),q];simp⟩) (λm hm=>?_) (λb u e=>?_) I.bare
 ·obtain⟨o,es,ep,ho,r⟩:=hm
  exact⟨o,es,ep,k _ o (λz=>(hf _ z).2.1 rfl) ho,r⟩
 ·by_cases hb:b=s.heap.objs.size
  ·subst hb;rw[aB] at e;cases e;exact new
  ·rw[aE hb] at e
   exact A6 (o:=u) (tr:=b) I k hf e (λc q=>by rw[aE (dj q hn)];exact q) λc xs q=>by rw[aE (dj q hn)];exact q
end
structure ZSt(k1 k2:Bool)(z TI TO i1 i2 l1 l2:Addr)(i:Nat)(h:Heap):Prop where
 z:IsZip h z TI TO .none
 ti:IsPair h TI (.ref i1) (.ref i2)
 to:∃a b,IsPair h TO a b
 one:KIt k1 h i1 l1 i
 two:KIt k2 h i2 l2 i
theorem Nm{P:Addr→Prop}{a b c d e:Addr}(h1:P a)(h2:P b)(h3:P c)(h4:P d)(h5:P e):∀x∈[a,b,c,d,e],P x:=by
 simp[h1,h2,h3,h4,h5]
theorem Jn{a b c d e x:Addr}(h:x∈[a,c,d,e]):x∈[a,b,c,d,e]:=by
 simp at h ⊢
 rcases h with h|h|h|h<;>simp[h]
theorem Np{a b c d x:Addr}(h:x∉[a,b,c,d]):x≠a∧x≠b∧x≠c∧x≠d:=by
 simpa using h
theorem EB {P : Program} {w : World} {K : PySem.W.Frag} {elts : List Expr} {x1 : Nat} {pos : Pos} {k1 k2 : Bool} {z TI TO i1 i2 l1 l2 : Addr} (d1 : TI ≠ TO) (d2 : i1 ≠ i2) :
    Turn P w K (.Tuple elts x1 pos) (Itz K k1 k2 l1 l2) [z, TI, TO, i1, i2] z (ZSt k1 k2 z TI TO i1 i2 l1 l2) := by
  have ap : ∀ {X : Cx} {pins : List (Addr × Obj)} {σ : L2.St} {H : Hp} {s : Shared} {i : Nat} {xs ys : List V}, X.K = K → Inv X pins σ H s → (∀ b ∈ [z, TI, TO, i1, i2], kY X pins H b) → ZSt k1 k2 z TI TO i1 i2 l1 l2 i s.heap → jA K k1 H l1 xs → jA K k2 H l2 ys → ZipApart z TI TO i1 i2 l1 l2 := by
    intro X pins σ H s i xs ys hK I hf st h1 h2
    subst hK
    obtain ⟨a, b, hto⟩ := st.to
    obtain ⟨o1, e1, q1⟩ := st.one.ob
    obtain ⟨o2, e2, q2⟩ := st.two.ob
    have neP : ∀ {c d : Addr} {o : Obj} {u v : Value} {vs : Array Value}, IsPair s.heap c u v → s.heap.get? d = some o → o.data = .fields vs → c ≠ d := fun {c d o u v vs} hp ho hd e => by
      subst e
      have hp : s.heap.get? c = some { cls := .type "tuple", data := .seq #[u, v] } := hp
      rw [hp] at ho; cases ho; cases hd
    have neZ : ∀ {d : Addr} {l : Addr} {o : Obj} {n : Nat}, s.heap.get? d = some o → o.data = .fields #[.ref l, .int n 0] → d ≠ z := fun {d l o n} ho hd e => by
      subst e
      have hz : s.heap.get? d = some _ := st.z
      rw [hz] at ho; cases ho
      have : (#[Value.none, .bool false, .bool false, .ref TI, .ref TO] : Array Value) = #[.ref l, .int n 0] := by injection hd
      exact absurd (congrArg Array.size this) (by simp)
    have w : ∀ c ∈ [z, TI, TO, i1, i2], l1 ≠ c ∧ l2 ≠ c := fun c hc => ⟨iT I h1 (hf c hc), iT I h2 (hf c hc)⟩
    exact { TIz := neP st.ti st.z rfl, TOz := neP hto st.z rfl, i1z := neZ e1 q1, i2z := neZ e2 q2, TITO := d1, TIi1 := neP st.ti e1 q1, TIi2 := neP st.ti e2 q2, TOi1 := neP hto e1 q1, TOi2 := neP hto e2 q2, i12 := d2,
            l1z := (w z (.head _)).1, l1TO := (w TO (.tail _ (.tail _ (.head _)))).1, l1i1 := (w i1 (.tail _ (.tail _ (.tail _ (.head _))))).1, l1i2 := (w i2 (.tail _ (.tail _ (.tail _ (.tail _ (.head _)))))).1, l2z := (w z (.head _)).2, l2TO := (w TO (.tail _ (.tail _ (.head _)))).2, l2i1 := (w i1 (.tail _ (.tail _ (.tail _ (.head _))))).2, l2i2 := (w i2 (.tail _ (.tail _ (.tail _ (.tail _ (.head _)))))).2 }
  refine ⟨by simp, fun i h st => ?_, fun i h h' st k => ?_, ?_, ?_, fun A i s Q E st hq => wpAny_pyIter_zip st.z hq⟩
  · obtain ⟨a, b', hto⟩ := st.to
    obtain ⟨o1, e1, q1⟩ := st.one.ob
    obtain ⟨o2, e2, q2⟩ := st.two.ob
    exact Nm ⟨_, st.z, fun v e => by cases e⟩ ⟨_, st.ti, fun v e => by cases e⟩ ⟨_, hto, fun v e => by cases e⟩ ⟨_, e1, fun v e => by rw [q1] at e; cases e⟩ ⟨_, e2, fun v e => by rw [q2] at e; cases e⟩
  · obtain ⟨a, b', hto⟩ := st.to
    exact ⟨k z (.head _) _ st.z, k TI (.tail _ (.head _)) _ st.ti, ⟨a, b', k TO (.tail _ (.tail _ (.head _))) _ hto⟩, st.one.at fun o e => k i1 (.tail _ (.tail _ (.tail _ (.head _)))) o e, st.two.at fun o e => k i2 (.tail _ (.tail _ (.tail _ (.tail _ (.head _))))) o e⟩
  · intro X hP hw hK hc i pins s σ H E I hf st hg
    obtain ⟨xs, ys, x, y, h1, h2, hx, hy⟩ := hg
    have D := ap hK I hf st h1 h2
    subst hP hw hK
    obtain ⟨tI, r1, s1, z1⟩ := I.ksq h1
    obtain ⟨qv, r2, s2, z2⟩ := I.ksq h2
    obtain ⟨u, hu, ru⟩ := r1.get hx
    obtain ⟨v, hv, rv⟩ := r2.get hy
    obtain ⟨a, b', hto⟩ := st.to
    refine vF D st.z st.ti hto st.one st.two s1 s2 (x := u) (y := v) (by simpa using hu) (by simpa using hv) fun h' g1 g2 g3 g4 g5 g6 g7 => ⟨_, rfl, ?_⟩
    refine wpAny_letOwnedTupleGo_zip g1 fun h'' q1 q2 => ?_
    have lt : ∀ {c : Addr} {o : Obj}, s.heap.get? c = some o → c ≠ s.heap.objs.size := fun e => Nat.ne_of_lt (Heap.lt_size e)
    have hTz : s.heap.objs.size ≠ z := (lt st.z).symm
    obtain ⟨o1, e1, _⟩ := st.one.ob
    obtain ⟨o2, e2, _⟩ := st.two.ob
    have new : IsPair h'' s.heap.objs.size u v := q2.extBut _ _ hTz g5
    refine ⟨.ref s.heap.objs.size, upd H s.heap.objs.size (.tup [x, y]), ?_, rfl, ⟨s.heap.objs.size, x, y, rfl, I.hok.fresh (Nat.le_refl _), rfl, fun ws hw => by rw [I.vG hw h1]; exact hx, fun ws hw => by rw [I.vG hw h2]; exact hy⟩, ?_, fun c hcm => ?_⟩
    · refine I.vI (ch := [z, TO, i1, i2]) (fun c o hcn e => ?_) (fun c hcm => hf c (Jn hcm)) ?_
      · have hcn := Np hcn
        exact q2.extBut _ _ hcn.1 (g7 c o hcn.1 hcn.2.1 hcn.2.2.1 hcn.2.2.2 e)
      · exact ⟨by show 2 ≤ sizeLine; decide, [u, v], .cons ru (.cons rv .nil), ⟨_, new, rfl, 0, rfl⟩⟩
    · exact ⟨q1, q2.extBut _ _ D.TIz (g7 TI _ D.TIz D.TITO D.TIi1 D.TIi2 st.ti), ⟨_, _, q2.extBut _ _ D.TOz g2⟩, g3.at fun o e => q2.extBut _ _ D.i1z e, g4.at fun o e => q2.extBut _ _ D.i2z e⟩
    · rw [aE]
      · exact (hf c hcm).1
      · exact Nm (P := fun c => c ≠ s.heap.objs.size) (lt st.z) (lt st.ti) (lt hto) (lt e1) (lt e2) c hcm
  · intro X hP hw hK hc i pins s σ H E I hf st hg
    obtain ⟨xs, ys, h1, h2, hle⟩ := hg
    have D := ap hK I hf st h1 h2
    subst hP hw hK
    obtain ⟨tI, r1, s1, z1⟩ := I.ksq h1
    obtain ⟨qv, r2, s2, z2⟩ := I.ksq h2
    obtain ⟨a, b', hto⟩ := st.to
    have l1' := r1.length
    have l2' := r2.length
    refine xF (I.ok.hd hc) D st.z st.ti hto st.one st.two s1 s2 (by
      rcases hle with q | q
      · exact .inl (by simp; lia)
      · exact .inr (by simp; lia)) fun h' g7 => ⟨rfl, I.vH (t' := s.toks) (ch := [z, TO, i1, i2]) (fun c o hcn e => ?_) fun c hcm => hf c (Jn hcm)⟩
    have hcn := Np hcn
    exact g7 c o hcn.1 hcn.2.1 hcn.2.2.1 hcn.2.2.2 e
def Nq(K:PySem.W.Frag)(t:TA):TI:=λσ H R=>t σ H λvs H1=>∃a b k1 k2 xs ys,vs=[.ref a,.ref b]∧jA K k1 H1 a xs∧jA K k2 H1 b ys∧R (Itz K k1 k2 a b) H1
theorem K9{X:Cx}{elts:List Expr}{x1:Nat}{gz p pos:Pos}{a b:Expr}{t:TA}(hg:Gl X "zip")(hm:X.mg "zip"=none)(ha:PA X [a,b] t)(he:starEach [a,b] X.env=(false,eval a X.env)::starEach [b] X.env)(hpl:(backTo pos (starEach [b] X.env)).any (·.1)=false) :
  PI X (.Tuple elts x1 gz) (.Call (.Name "zip" p) [a,b] [] pos) (Nq X.K t):=by
 intro pins s σ H R I h
 refine wpAny_Call_Name_kw (oQ I hg hm PyProof.Rows.boot_zip ?_ (by decide) (by decide))
 refine PyProof.Rows.callWith_type1 (thn (ha pos pins s σ H _ I h) λus s1 ao=>?_) he hpl
 obtain⟨vs,H1,I1,r1,q1⟩:=ao
 obtain⟨c,d,k1,k2,xs,ys,rfl,h1,h2,q⟩:=q1
 obtain⟨u1,u2,rfl,ru1,ru2⟩:=vals2 r1
 cases ru1
 cases ru2
 obtain⟨tI,_,s1',_⟩:=I1.ksq h1
 obtain⟨qv,_,s2',_⟩:=I1.ksq h2
 refine Cg s1' s2' λh' g1 g2 g3 g4 g5 g6 g7=>wpAny_pyIter_zip g1 ?_
 have I2:Inv X pins σ H1 { s1 with heap:=h' }:=I1.kept (t':=s1.toks) g7
 refine⟨_,_,_,_,H1,rfl,I2,EB (k1:=k1) (k2:=k2) (TI:=s1.heap.objs.size+2) (TO:=s1.heap.objs.size+3) (i1:=s1.heap.objs.size) (i2:=s1.heap.objs.size+1) (l1:=c) (l2:=d) (λe=>by have e:s1.heap.objs.size+2=s1.heap.objs.size+3:=e;lia) (λe=>by have e:s1.heap.objs.size=s1.heap.objs.size+1:=e;lia),⟨g1,g2,⟨_,_,g3⟩,g4,g5⟩,λe he=>?_,q⟩
 have:s1.heap.objs.size≤e:=by
  simp only[List.mem_cons,List.not_mem_nil,or_false] at he
  rcases he with rfl|rfl|rfl|rfl|rfl
  ·exact Nat.le_add_right _ _
  ·exact Nat.le_add_right _ _
  ·exact Nat.le_add_right _ _
  ·exact Nat.le_refl _
  ·exact Nat.le_add_right _ _
 exact I1.u0 this (I1.hok.fresh this)
end L2
namespace Fw
open PySem PySem.Spec PyProof.Rows L2
theorem xG:∀{ts us:List T}{i:Nat}{t:T},(jL ts us)[i]?=some t→∃a b,ts[i]?=some a∧us[i]?=some b∧t=.tup [a,b]
 | [],us,i,t,h=>by simp[jL] at h
 | a::ts,[],i,t,h=>by simp[jL] at h
 | a::ts,b::us,0,t,h=>by simp[jL] at h;exact⟨a,b,rfl,rfl,h.symm⟩
 | a::ts,b::us,i+1,t,h=>by
  obtain⟨c,d,h1,h2,h3⟩:=xG (ts:=ts) (us:=us) (i:=i) (t:=t) (by simpa [jL] using h)
  exact⟨c,d,by simpa using h1,by simpa using h2,h3⟩
theorem jd{K:PySem.W.Frag}{F H:Hp}{v:V}{t:T}{ts:List T}(s:aT F H)(h:Now K F H v t)(e:bS t=some ts):∃a vs k,v=.ref a∧jA K k H a vs∧aA K F ts vs∧(k=true↔∃l,t=.lst l):=by
 cases t with
 | lst us=>cases e;obtain⟨a,vs,rfl,q,r⟩:=h.ng;exact⟨a,vs,true,rfl,q,r,by simp⟩
 | tup us=>cases e;obtain⟨a,vs,rfl,q,r⟩:=h.pU;exact⟨a,vs,false,rfl,aT.jx s q,r,by simp⟩
 | _=>cases e
theorem ze{X:Cx}{elts:List Expr}{x1:Nat}{gz p pos:Pos}{a b:Expr}{da db:D}(hm:X.mg "zip"=none)(ha:CE X a da)(hb:CE X b db)(hg:Gl X "zip":=by rfl)(hs:starEach [a,b] X.env=(false,eval a X.env)::starEach [b] X.env:=by rfl)(hs2:starEach [b] X.env=(false,eval b X.env)::starEach [] X.env:=by rfl)(hpl:(backTo pos (starEach [b] X.env)).any (·.1)=false:=by rfl) :
  CI X (.Tuple elts x1 gz) (.Call (.Name "zip" p) [a,b] [] pos) (tG da db) :=
 PI.imp (K9 hg hm (ah ha (ah hb aw hs2) hs) hs hpl) λσ H R0 ao=>by
  obtain⟨F,α,e,μ,S,h⟩:=ao
  refine M8 ⟨F,α,e,μ,S,(R.wp_bind h).mono (λx μ1 h=>(R.wp_bind h).mono (λy μ2 h v u H1 F1 α1 x1 S1 o1 o2=>?_) λ_ _ h=>h) λ_ _ h=>h⟩
  obtain⟨ts,ht,h⟩:=R.bz (R.wp_bind h)
  obtain⟨us,hu,post⟩:=R.bz (R.wp_bind h)
  obtain⟨t,hr,ht⟩:=Option.bind_eq_some_iff.mp ht
  obtain⟨t2,hr2,hu⟩:=Option.bind_eq_some_iff.mp hu
  obtain⟨a1,vs1,k1,rfl,q1,r1,m1⟩:=jd S1.st.ext (bf S1.st o1 hr) ht
  obtain⟨a2,vs2,k2,rfl,q2,r2,m2⟩:=jd S1.st.ext (bf S1.st o2 hr2) hu
  refine⟨a1,a2,k1,k2,vs1,vs2,rfl,q1,q2,post _ H1 F1 α1 x1 S1 λF2 α2 μ3 H2 s2 p2 S2 same=>?_⟩
  obtain⟨e1,e2⟩:=(show rd μ3 x=rd μ2 x∧rd μ3 y=rd μ2 y from same)
  obtain⟨b1,ws1,j1,g1,n1,l1,m1'⟩:=jd S2.ext (bf S2 (o1.mono s2 p2) (e1.trans hr)) ht
  obtain⟨b2,ws2,j2,g2,n2,l2,m2'⟩:=jd S2.ext (bf S2 (o2.mono s2 p2) (e2.trans hr2)) hu
  cases g1
  cases g2
  have ej1:j1=k1:=by rw[Bool.eq_iff_iff,m1,m1']
  have ej2:j2=k2:=by rw[Bool.eq_iff_iff,m2,m2']
  subst ej1
  subst ej2
  refine⟨λi t hi=>?_,?_⟩
  ·obtain⟨c,d,hc,hd,rfl⟩:=xG hi
   obtain⟨v1,hv1,rv1⟩:=l1.get hc
   obtain⟨v2,hv2,rv2⟩:=l2.get hd
   refine⟨⟨ws1,ws2,v1,v2,n1,n2,hv1,hv2⟩,?_⟩
   rintro z H3 ⟨q,z1,z2,rfl,hq,rfl,f1,f2⟩
   have w1:=f1 ws1 n1
   have w2:=f2 ws2 n2
   rw[hv1] at w1
   rw[hv2] at w2
   cases w1
   cases w2
   have g:bL F2 H2 (upd F2 q (.tup [v1,v2])) (upd H2 q (.tup [v1,v2])):=bL.new hq
   refine⟨_,g,?_⟩
   rw[Rep]
   exact⟨q,_,rfl,SqT.of aB,aA.mono (g.same S2.ext) _ _ (.fL rv1 (.fL rv2 .kU))⟩
  ·refine⟨ws1,ws2,n1,n2,?_⟩
   have:=l1.length
   have:=l2.length
   show ws1.length≤(jL ts us).length∨ws2.length≤(jL ts us).length
   rw[qZ]
   lia
def tDO(X:Cx)(o:Option D):TO:=λσ H Q=>∃F α e μ,Sim X.K F α e μ σ H∧(yQ o e μ).wp (λi μ'=>∀H' F' α',Ex F α H F' α' H'→Sim X.K F' α' e μ' σ H'→Q i H') (gy X F α H e)
def CO(X:Cx)(e:Option Expr)(o:Option D):Prop:=PO X e (tDO X o)
theorem PO.imp{X:Cx}{e:Option Expr}{t t':TO}(h:PO X e t)(i:∀σ H Q,t' σ H Q→t σ H Q):PO X e t':=λpins s σ H Q I q=>h pins s σ H Q I (i σ H Q q)
section
variable{X:Cx}{a b:Expr}{da db:D}{pos p2:Pos}
theorem HZ:CO X none none:=PO.imp G1 λσ H Q ⟨F,α,e,μ,S,h⟩=>h H F α Ex.refl S
theorem H_(h:CE X a da):CO X (some a) (some da):=PO.imp (G2 h) λσ H Q ao=>by
 obtain⟨F,α,e,μ,S,h⟩:=ao
 refine⟨F,α,e,μ,S,(R.wp_bind h).mono (λx μ1 h v H1 F1 α1 x1 S1 o1=>?_) λ_ _ h=>h⟩
 obtain⟨i,hi,h⟩:=R.bz (R.wp_bind h)
 obtain⟨t,hr,ht⟩:=Option.bind_eq_some_iff.mp hi
 cases xr ht
 cases (bf S1.st o1 hr).int
 exact⟨i,rfl,h H1 F1 α1 x1 S1⟩
theorem aA.cut{K:PySem.W.Frag}{F:Hp}{ts:List T}{vs:List V}(h:aA K F ts vs)(lo hi:Option Int):aA K F (yN ts lo hi) (wY vs lo hi):=by
 have e:∀d o,Fw.sIx ts.length d o=HT.sIx vs.length d o:=λd o=>by rw[h.length];cases o<;>rfl
 unfold yN wY
 rw[e,e,h.length]
 exact (h.drop _).take _
theorem K_{lo hi:Option Expr}{dl dh:Option D}(ha:CE X a da)(hl:CO X lo dl)(hh:CO X hi dh):CE X (.Subscript a (.Slice lo hi none p2) pos) (B1 da dl dh) :=
 PE.imp (Dz (G5.or Kj) ha hl hh) λσ H Q ao=>by
  obtain⟨F,α,e,μ,S,h⟩:=ao
  refine⟨F,α,e,μ,S,(R.wp_bind h).mono (λx μ1 h v H1 F1 α1 x1 S1 o1=>⟨F1,α1,e,μ1,S1,?_⟩) λ_ _ h=>h⟩
  refine (R.wp_bind h).mono (λl μ2 h H2 F2 α2 x2 S2=>⟨F2,α2,e,μ2,S2,?_⟩) λ_ _ h=>h.mono x1
  refine (R.wp_bind h).mono (λr μ3 h H3 F3 α3 x3 S3=>?_) λ_ _ h=>h.mono (x1.trans x2)
  obtain⟨w,h9,post⟩:=R.bz h
  obtain⟨t,w',ht,h,rfl⟩:=mW h9
  have nt:=bf S3.st (o1.mono (x2.trans x3).same (x2.trans x3).pre) ht
  have fin:∀v' H' F',bL F3 H3 F' H'→Rep X.K F' w' v'→Q v' H':=λv' H' F' g rp=>post v' H' F' α3 (x1.trans (x2.trans (x3.trans (g.ex S3.st.ext)))) (S3.grow g) rp
  cases t with
  | lst ts =>
   cases h
   obtain⟨c,vs,rfl,hq,hl⟩:=nt.ng
   exact .inl ⟨c,vs,rfl,hq,λq hq'=>vy S3.st.ext hq' (hl.cut l r) fin⟩
  | tup ts =>
   have h:(if Fw.sIx ts.length 0 l=0∧Fw.sIx ts.length ts.length r=ts.length then none else some (T.tup (yN ts l r)))=some w':=h
   by_cases hc:Fw.sIx ts.length 0 l=0∧Fw.sIx ts.length ts.length r=ts.length
   ·rw[if_pos hc] at h;cases h
   ·rw[if_neg hc] at h
    cases h
    obtain⟨c,vs,rfl,hq,hl⟩:=nt.pU
    refine .inr ⟨c,vs,rfl,aT.jx S3.st.ext hq,?_,λq hq'=>vA S3.st.ext hq' (hl.cut l r) fin⟩
    have e:∀d o,HT.sIx vs.length d o=Fw.sIx ts.length d o:=λd o=>by rw[hl.length];cases o<;>rfl
    rw[e,e,← hl.length]
    exact hc
  | _=>cases h
end
section
variable{X:Cx}{a b c:Expr}{da db dc:D}{pos p p2:Pos}
theorem rF(i:Nat){y:Str}{py gz:Pos}{ik ev:Expr}{dk dv:D}(hk:CE X ik dk)(hv:CE X ev dv)(hN:X.N[i]?=some y:=by rfl)
  (hvs:Vis X.env.scope y:=by first|exact Or.inl rfl|exact Or.inr (Or.inl rfl)|exact Or.inr (Or.inr rfl)) (hd:(y==("__debug__":Str))=false:=by decide) (hcd:(y==("__classdict__":Str))=false:=by decide)
  (ha:∀v,assign (.Subscript (.Name y py) ik gz) X.env v=(do
   let ov ← holding [v] (eval (.Name y py) X.env)
   let iv ← holding [v,ov] (eval ik X.env)
   standAt gz
   holding [v,ov,iv] (setItem ov iv v)
   release [v,ov,iv] []):=by intro _;rfl)
  (hs:swapsWithSole [.Subscript (.Name y py) ik gz] ev pos.line X.env=pure false:=by rfl) (hw:swappedStores [.Subscript (.Name y py) ik gz] ev X.env=pure none:=by rfl)
  (h1:(assignEach [.Subscript (.Name y py) ik gz] X.env).map (·.2)=[assign (.Subscript (.Name y py) ik gz) X.env]:=by rfl) :
  CS X (.Assign [.Subscript (.Name y py) ik gz] ev pos) (dR i dk dv) :=
 PS.imp (Dk hv (JW (uZ hN hvs hd hcd) hk set_list ha) hs hw h1) λD σ H ao=>by
  obtain⟨F,α,e,μ,S,h⟩:=ao
  refine⟨F,α,e,μ,S,(bc.toS h).mono (λy μ1 h v H1 F1 α1 x1 S1 o1=>?_) λ_ _ h=>h⟩
  obtain⟨x,hx,h⟩:=bc.lift h
  obtain⟨ov,hov,oo⟩:=S1.sl i x hx
  refine⟨ov,hov,F1,α1,e,μ1,S1,(bc.toS h).mono (λz μ2 h v2 H2 F2 α2 x2 S2 o2=>?_) λ_ _ h=>h.mono x1⟩
  obtain⟨k,hk,h⟩:=bc.lift h
  have h:=h.toS
  have nk:=bf S2.st o2 hk
  cases hz:frz y μ2 with
  | err c μ3=>exact absurd hz (qA y μ2 c μ3)
  | bad=>rw[hz] at h;exact h.elim
  | ok t μ3 =>
   rw[hz] at h
   obtain⟨μ4,ha4,h⟩:=bc.lift h
   obtain⟨F3,s3,n3,S3,r3⟩:=m8 S2.st (o1.mono x2.same x2.pre) hz
   cases x with
   | cel j =>
    obtain⟨ad,had,rfl⟩:=oo
    cases k with
    | int ki =>
     cases nk.int
     unfold setAt at ha4
     simp only at ha4
     have hc:∃us jj,μ3[j]?=some (true,.lst us)∧Fw.ixN us.length ki=some jj∧μ4=μ3.set j (true,.lst (us.set jj t)):=by
      split at ha4
      ·rename_i us hjs
       obtain⟨jj,e1,e2⟩:=Option.map_eq_some_iff.mp ha4
       exact⟨us,jj,hjs,e1,e2.symm⟩
      ·cases ha4
     obtain⟨us,jj,hj3,hjj,rfl⟩:=hc
     have ha3:α2[j]?=some ad:=j_ x2.pre had
     obtain⟨_,ws,hw,rw'⟩:=(S3.cell j true _ ad hj3 ha3).1 rfl
     have el:=rw'.length
     refine⟨ad,ws,ki,jj,rfl,rfl,hw,by rw[← el];exact hjj,?_⟩
     have x3:Ex F α H F3 α2 H2:=x1.trans (x2.trans (Ex.pL s3 n3))
     exact h σ _ F3 α2 (x3.trans (Ex.put ha3)) ((S2.of s3 (List.prefix_refl _) S3).of (aT.refl _) (List.prefix_refl _) (vo S3 hj3 ha3 ⟨_,aB,rw'.set jj r3⟩))
    | _=>unfold setAt at ha4;cases ha4
   | val t=>cases k<;>(unfold setAt at ha4;cases ha4)
   | box xs=>cases k<;>(unfold setAt at ha4;cases ha4)
theorem zf{r r':R2}{f g:T→T→Option T}(hs:d9 X.K r f)(hs':d9 X.K r' g)(hf:∀t u w,f t u=some w→∃k,w=.bl k)(σ:L2.St)(H:Hp)(Q:VK)(h:tD X (qM f g da db dc) σ H Q):Dq r r' (tD X da) (tD X db) (tD X dc) σ H Q:=by
 obtain⟨F,α,e,μ,S,h⟩:=h
 refine⟨F,α,e,μ,S,?_⟩
 refine (R.wp_bind h).mono (λx μ1 h v H1 F1 α1 x1 S1 o1=>⟨F1,α1,e,μ1,S1,?_⟩) λ_ _ h=>h
 refine (R.wp_bind h).mono (λy μ2 h v2 H2 F2 α2 x2 S2 o2=>?_) λ_ _ h=>h.mono x1
 obtain⟨w,h9,h⟩:=R.bz (R.wp_bind h)
 obtain⟨t,u,w',ht,hu,hfw,rfl⟩:=qD h9
 obtain⟨k,rfl⟩:=hf t u w' hfw
 obtain⟨k',e1,h⟩:=R.bz (R.wp_bind h)
 cases e1
 refine hs F2 H2 v v2 t u _ _ S2.st.ext (bf S2.st (o1.mono x2.same x2.pre) ht) (bf S2.st o2 hu) hfw λv' H' F' g1 rp=>?_
 have ev:v'=.bl k:=Rep.gx rp
 subst ev
 have x3:Ex F α H F' α2 H':=x1.trans (x2.trans (g1.ex S2.st.ext))
 have S3:=S2.grow g1
 refine⟨k,rfl,?_⟩
 cases k with
 | false =>
  rw[if_neg (by decide)] at h ⊢
  exact h _ H' F' α2 x3 S3 (Rep.bl' (K:=X.K) (F:=F') false)
 | true =>
  rw[if_pos rfl] at h ⊢
  refine⟨F',α2,e,μ2,S3,(R.wp_bind h).mono (λz μ3 h v3 H3 F3 α3 x4 S4 o4=>?_) λ_ _ h=>h.mono x3⟩
  obtain⟨w,h9,post⟩:=R.bz h
  obtain⟨t2,u2,w2,ht2,hu2,hgw,rfl⟩:=qD h9
  exact hs' F3 H3 v2 v3 t2 u2 w2 Q S4.st.ext (bf S4.st ((o2.mono (g1.same S2.st.ext) (List.prefix_refl _)).mono x4.same x4.pre) ht2) (bf S4.st o4 hu2) hgw λv' H' F' g rp =>
   post v' H' F' α3 (x3.trans (x4.trans (g.ex S4.st.ext))) (S4.grow g) rp
theorem La(t u w:T)(h:fLe t u=some w):∃k,w=.bl k:=by
 cases t<;>cases u<;>first|(cases h;exact⟨_,rfl⟩)|cases h
theorem rG(ha:CE X a da)(hb:CE X b db)(hc:CE X c dc)(hm:lastMarks [.LtE,.Lt] [b,c]=false:=by with_unfolding_all rfl):CE X (.Compare a [.LtE,.Lt] [b,c] pos) (qM fLe fLt da db dc) :=
 PE.imp (Dr ME Je ha hb hc hm) (zf K6 Ei La)
theorem Ia{K:PySem.W.Frag}{F H:Hp}{v:V}{t:T}(h:Now K F H v t):decide (v=.non)=(match t with|.non=>true|_=>false):=by
 cases t with
 | non=>have e:v=.non:=Rep.j9 (K:=K) (F:=F) h;subst e;rfl
 | bl b=>have e:=h.bl;subst e;rfl
 | int b=>have e:=h.int;subst e;rfl
 | str b=>have e:=h.str;subst e;rfl
 | lst ts=>obtain⟨a,vs,rfl,_⟩:=h.ng;rfl
 | tup ts=>obtain⟨a,vs,rfl,_⟩:=h.pU;rfl
 | dct ts=>obtain⟨a,vs,rfl,_⟩:=h;rfl
 | exc c n=>have h:Rep K F (.exc c n) v:=h;rw[Rep] at h;obtain⟨a,rfl,_⟩:=h;rfl
 | dtt fz ts=>obtain⟨a,rfl,_⟩:=h;rfl
def Nr:T→T→Option T:=λt u=>match u with
 | .non=>ly t
 | _=>none
theorem Ib{K:PySem.W.Frag}:d9 K (λx y H Q=>y=.non∧Q (.bl (decide (x=.non))) H) Nr:=by
 intro F H v u t t' w Q s hv hu hw q
 cases t' with
 | non =>
  refine⟨Rep.j9 (K:=K) (F:=F) hu,?_⟩
  rw[Ia hv]
  refine q _ H F bL.refl ?_
  cases t<;>(cases hw;exact Rep.bl' _)
 | _=>cases hw
theorem Ic:ag Nr da (dC .non)=dUn ly da:=by
 funext e μ
 rw[nN,vd]
 cases da e μ with
 | ok x μ1=>rw[R.aZ,R.aZ,qB,R.aZ];cases rd μ1 x<;>rfl
 | err c μ1=>rfl
 | bad=>rfl
theorem EC{j}(ha:CE X a da):CT X (.Compare a [.Is] [.Constant .none j p] pos) (dUn ly da):=Ic ▸ lI Ke Ib (kZ _) ha yT
end
section
variable{K:PySem.W.Frag}{F:Hp}
theorem bq.kU:bq K F [] []:=by rw[bq]
theorem bq.fL{k:Key}{t:T}{v:V}{kts:List (Key×T)}{kvs:List (Key×V)}(q:Rep K F t v)(r:bq K F kts kvs):bq K F ((k,t)::kts) ((k,v)::kvs):=by rw[bq];exact⟨v,kvs,rfl,q,r⟩
theorem ED{p:Key×T}{r:List (Key×T)}{k:Key}(e:p.1=k):lK (p::r) k=some p.2:=by simp[lK,List.find?_cons,e]
theorem EE{p:Key×T}{r:List (Key×T)}{k:Key}(e:¬ p.1=k):lK (p::r) k=lK r k:=by simp[lK,List.find?_cons,e]
theorem bq.val:∀{kts:List (Key×T)}{kvs:List (Key×V)} (k:Key),bq K F kts kvs→(lK kts k=none∧lg kvs k=none)∨∃t v,lK kts k=some t∧lg kvs k=some v∧Rep K F t v
 | [],kvs,k,h=>by rw[bq] at h;subst h;exact .inl ⟨rfl,rfl⟩
 | (k0,t)::kts,kvs,k,h=>by
  rw[bq] at h
  obtain⟨v,kT,rfl,q,r⟩:=h
  by_cases e:k0=k
  ·exact .inr ⟨t,v,ED (p:=(k0,t)) e,lh (p:=(k0,v)) e,q⟩
  ·rw[EE (p:=(k0,t)) e,lq (p:=(k0,v)) e]
   exact bq.val k r
theorem bq.any:∀{kts:List (Key×T)}{kvs:List (Key×V)} (k:Key),bq K F kts kvs→(kts.any λkv=>decide (kv.1=k))=(kvs.any λkv=>decide (kv.1=k))
 | [],kvs,k,h=>by rw[bq] at h;subst h;rfl
 | (k0,t)::kts,kvs,k,h=>by
  rw[bq] at h
  obtain⟨v,kT,rfl,q,r⟩:=h
  rw[List.any_cons,List.any_cons,bq.any k r]
theorem bq.yF{t':T}{v':V}(q':Rep K F t' v')(k:Key):∀{kts:List (Key×T)}{kvs:List (Key×V)},bq K F kts kvs→bq K F (kts.map λkv=>if kv.1=k then (kv.1,t') else kv) (kvs.map λkv=>if kv.1=k then (kv.1,v') else kv)
 | [],kvs,h=>by rw[bq] at h;subst h;exact .kU
 | (k0,t)::kts,kvs,h=>by
  rw[bq] at h
  obtain⟨v,kT,rfl,q,r⟩:=h
  rw[List.map_cons,List.map_cons]
  by_cases e:k0=k
  ·simp only[e,if_true]
   exact .fL q' (bq.yF q' k r)
  ·simp only[e,if_false]
   exact .fL q (bq.yF q' k r)
theorem bq.append:∀{kts uts:List (Key×T)}{kvs uvs:List (Key×V)},bq K F kts kvs→bq K F uts uvs→bq K F (kts++uts) (kvs++uvs)
 | [],uts,kvs,uvs,h,g=>by rw[bq] at h;subst h;exact g
 | (k0,t)::kts,uts,kvs,uvs,h,g=>by
  rw[bq] at h
  obtain⟨v,kT,rfl,q,r⟩:=h
  exact .fL q (r.append g)
theorem bq.put{kts:List (Key×T)}{kvs:List (Key×V)}{t:T}{v:V}(h:bq K F kts kvs)(k:Key)(q:Rep K F t v):bq K F (q_ kts k t) (putK kvs k v):=by
 unfold q_ putK
 rw[h.any k]
 by_cases e:(kvs.any λkv=>decide (kv.1=k))=true
 ·rw[if_pos e,if_pos e];exact bq.yF q k h
 ·rw[if_neg e,if_neg e];exact h.append (.fL q .kU)
theorem A7{H:Hp}{v:V}{t:T}{k:Key}(h:Now K F H v t)(e:uz t=some k):v=kV k:=by
 cases t with
 | int i=>cases e;exact h.int
 | str x=>cases e;exact h.str
 | _=>cases e
end
section
variable{X:Cx}{a b c:Expr}{da db dc:D}{pos p p2:Pos}{k:Nat}
theorem oa(hr:cM k X.A):X.A.units+1<cLine:=by have:=hr.units;omega
theorem Ci(σ:L2.St)(H:Hp)(Q:VK)(h:tD X (ag iu da db) σ H Q):DF (tD X da) (tD X db) σ H Q:=by
 obtain⟨F,α,e,μ,S,h⟩:=h
 refine⟨F,α,e,μ,S,?_⟩
 refine (R.wp_bind h).mono (λx μ1 h v H1 F1 α1 x1 S1 o1=>⟨F1,α1,e,μ1,S1,?_⟩) λ_ _ h=>h
 refine (R.wp_bind h).mono (λy μ2 h v2 H2 F2 α2 x2 S2 o2=>?_) λ_ _ h=>h.mono x1
 obtain⟨w,h9,post⟩:=R.bz h
 obtain⟨t,u,w',ht,hu,h,rfl⟩:=qD h9
 have n1:=bf S2.st (o1.mono x2.same x2.pre) ht
 have n2:=bf S2.st o2 hu
 cases t with
 | dct kts =>
  obtain⟨kk,hk,h⟩:=Option.bind_eq_some_iff.mp (show (uz u).bind (λk=>lK kts k)=some w' from h)
  obtain⟨ad,kvs,rfl,hq,rd⟩:=n1
  have ek:=A7 n2 hk
  subst ek
  rcases rd.val kk with ⟨g1,_⟩|⟨t,v,g1,g2,g3⟩
  ·rw[g1] at h;cases h
  ·rw[g1] at h
   cases h
   exact⟨ad,v,rfl,by rw[← g2];exact yH.k hq,post v H2 F2 α2 (x1.trans x2) S2 g3⟩
 | _=>cases u<;>cases h
theorem vJ(hr:cM k X.A)(ha:CE X a da)(hb:CE X b db)(hs:G6 b:=by intro _ _;rfl):CE X (.Subscript a b pos) (ag iu da db):=PE.imp (AJ (oa hr) ha hb hs) Ci
theorem vK(hr:cM k X.A)(i:Nat){y:Str}{py gz:Pos}{ik ev:Expr}{dk dv:D}(hk:CE X ik dk)(hv:CE X ev dv)(hN:X.N[i]?=some y:=by rfl)
  (hvs:Vis X.env.scope y:=by first|exact Or.inl rfl|exact Or.inr (Or.inl rfl)|exact Or.inr (Or.inr rfl)) (hd:(y==("__debug__":Str))=false:=by decide) (hcd:(y==("__classdict__":Str))=false:=by decide)
  (hs:swapsWith ev (some (.Subscript (.Name y py) ik gz)) pos.line X.env=pure false:=by rfl) :
  CS X (.Assign [.Subscript (.Name y py) ik gz] ev pos) (jM i dk dv) :=
 PS.imp (AK (oa hr) (uZ hN hvs hd hcd) hk hv hs) λD σ H ao=>by
  obtain⟨F,α,e,μ,S,h⟩:=ao
  refine⟨F,α,e,μ,S,(bc.toS h).mono (λy μ1 h v H1 F1 α1 x1 S1 o1=>?_) λ_ _ h=>h⟩
  obtain⟨x,hx,h⟩:=bc.lift h
  obtain⟨ov,hov,oo⟩:=S1.sl i x hx
  refine⟨ov,hov,F1,α1,e,μ1,S1,(bc.toS h).mono (λz μ2 h v2 H2 F2 α2 x2 S2 o2=>?_) λ_ _ h=>h.mono x1⟩
  obtain⟨k,hk,h⟩:=bc.lift h
  have h:=h.toS
  have nk:=bf S2.st o2 hk
  cases hz:frz y μ2 with
  | err c μ3=>exact absurd hz (qA y μ2 c μ3)
  | bad=>rw[hz] at h;exact h.elim
  | ok t μ3 =>
   rw[hz] at h
   obtain⟨μ4,ha4,h⟩:=bc.lift h
   obtain⟨F3,s3,n3,S3,r3⟩:=m8 S2.st (o1.mono x2.same x2.pre) hz
   cases x with
   | cel j =>
    obtain⟨ad,had,rfl⟩:=oo
    unfold m_ at ha4
    simp only at ha4
    have hc:∃kts kk,μ3[j]?=some (true,.dct kts)∧uz k=some kk∧kts.length<szL∧μ4=μ3.set j (true,.dct (q_ kts kk t)):=by
     split at ha4
     ·rename_i us hjs
      obtain⟨kk,e1,e2⟩:=Option.bind_eq_some_iff.mp ha4
      by_cases hl:us.length<szL
      ·rw[if_pos hl] at e2
       cases e2
       exact⟨us,kk,hjs,e1,hl,rfl⟩
      ·rw[if_neg hl] at e2;cases e2
     ·cases ha4
    obtain⟨kts,kk,hj3,hkk,hl,rfl⟩:=hc
    have ha3:α2[j]?=some ad:=j_ x2.pre had
    obtain⟨_,kvs,hw,rw'⟩:=(S3.cell j true _ ad hj3 ha3).1 rfl
    have el:=rw'.length
    have ek:=A7 nk hkk
    subst ek
    refine⟨ad,_,rfl,w5.k hw (by rw[rj] at hl;omega),?_⟩
    have x3:Ex F α H F3 α2 H2:=x1.trans (x2.trans (Ex.pL s3 n3))
    exact h σ _ F3 α2 (x3.trans (Ex.put ha3)) ((S2.of s3 (List.prefix_refl _) S3).of (aT.refl _) (List.prefix_refl _) (vo S3 hj3 ha3 ⟨_,aB,rw'.put kk r3⟩))
   | val t=>unfold m_ at ha4;cases ha4
   | box xs=>unfold m_ at ha4;cases ha4
end
end Fw
namespace L2
open PySem PySem.Spec PyProof.Rows
theorem EF{P:Program}{w:World}{k:Key}{u:Value}(h:(cm P w).is k u=true):RelV (kV k) u:=by
 rcases cA (show qr k u=true from h) with ⟨i,t,rfl,rfl⟩|⟨x,t,rfl,rfl⟩
 ·exact⟨t,rfl⟩
 ·exact⟨t,rfl⟩
theorem KV.get{kvs:List (Key×V)}{vs:List (Key×Value)}(r:KV kvs vs){i:Nat}{p:Key×V}(h:kvs[i]?=some p):∃u,vs[i]?=some (p.1,u)∧RelV p.2 u:=by
 unfold KV at r
 induction r generalizing i with
 | nil=>simp at h
 | @cons a b as bs h1 t ih =>
  cases i with
  | zero =>
   simp at h
   subst h
   refine⟨b.2,?_,h1.2⟩
   rw[h1.1]
   rfl
  | succ i=>simpa using ih (by simpa using h)
def Itd(d:Addr)(n:Nat):It :=
 ⟨λi H=>∃kvs p,H d=some (.dK kvs)∧kvs.length=n∧kvs[i]?=some p,
  λi H v H'=>∃q p,v=.ref q∧H q=none∧H'=upd H q (.tup [kV p.1,p.2])∧∀kvs,H d=some (.dK kvs)→kvs[i]?=some p,
  λi H=>∃kvs,H d=some (.dK kvs)∧kvs.length=n∧n≤i⟩
theorem zg{P:Program}{w:World}{K:PySem.W.Frag}{elts:List Expr}{x1:Nat}{pos:Pos}{it d:Addr}{n:Nat} :
  Turn P w K (.Tuple elts x1 pos) (Itd d n) [it] it (λi h=>∃ok ov,IsItemIter h it d i n n ok ov):=by
 refine⟨by simp,λi h ⟨ok,ov,st⟩ b hb=>?_,λi h h' ⟨ok,ov,st⟩ k=>⟨ok,ov,k it (by simp) _ st⟩,?_,?_,λA i s Q E ⟨ok,ov,st⟩ hq=>?_⟩
 ·simp at hb;subst hb
  exact⟨_,st,λv e=>by cases e⟩
 ·intro X hP hw hK hc i pins s σ H E I hf st hg
  obtain⟨kvs,p,hd,hn,hp⟩:=hg
  obtain⟨ok,ov,st⟩:=st
  subst hP hw hK
  obtain⟨z,hS,vs,rel,dd⟩:=pJ I.hok (.inl hd)
  have hl:=rel.length
  obtain⟨u,hu,ru⟩:=rel.get hp
  have en:n=vs.length:=by lia
  rw[en] at st
  refine wpAny_pyNext_items_item st dd hu λkey h' hk Lb ht hz Nt=>⟨_,rfl,wpAny_letOwnedTupleGo_items Lb λh'' hit hs=>?_⟩
  have hne:it≠s.heap.objs.size:=Nat.ne_of_lt (Heap.lt_size st)
  have ht2:h''.get? s.heap.objs.size=some { cls:=.type "tuple",data:=.seq #[key,u] }:=hs.extBut _ _ hne.symm ht
  refine⟨.ref s.heap.objs.size,upd H s.heap.objs.size (.tup [kV p.1,p.2]),?_,rfl,⟨s.heap.objs.size,p,rfl,I.hok.fresh (Nat.le_refl _),rfl,λws hw=>by rw[hd] at hw;cases hw;exact hp⟩,⟨_,_,by rw[en];exact hit⟩,λc hcm=>?_⟩
  ·refine I.vI (ch:=[it]) (λc o hcn e=>?_) (λc hcm=>hf c hcm) ?_
   ·simp at hcn
    exact hs.extBut _ _ hcn (Nt c o hcn e)
   ·exact⟨by show 2≤sizeLine;decide,[key,u],.cons (EF hk) (.cons ru .nil),⟨_,ht2,rfl,0,rfl⟩⟩
  ·simp at hcm
   subst hcm
   rw[aE hne]
   exact (hf c (by simp)).1
 ·intro X hP hw hK hc i pins s σ H E I hf st hg
  obtain⟨kvs,hd,hn,hle⟩:=hg
  obtain⟨ok,ov,st⟩:=st
  subst hP hw hK
  obtain⟨z,hS,vs,rel,dd⟩:=pJ I.hok (.inl hd)
  have hl:=rel.length
  have en:n=vs.length:=by lia
  rw[en] at st
  refine wpAny_pyNext_items_end (I.ok.hd hc) st dd (List.getElem?_eq_none (by lia)) λh' hx=>⟨rfl,I.vH (t':=s.toks) (ch:=[it]) (λc o hcn e=>?_) λc hcm=>hf c hcm⟩
  simp at hcn
  exact hx c o hcn e
 ·exact PySem.W.kcp_self st hq
def Ie(tl:TE):TI:=λσ H R=>tl σ H λx H1=>∃d kvs,x=.ref d∧H1 d=some (.dK kvs)∧R (Itd d kvs.length) H1
theorem EG{X:Cx}{elts:List Expr}{x1:Nat}{gz apos pos:Pos}{o:Expr}{tl:TE}(ho:PE X o tl)(qw:attributeBase o "items" X.env (eval o X.env)=eval o X.env)(qx:(apos.endLine==pos.line)=true) :
  PI X (.Tuple elts x1 gz) (.Call (.Attribute o "items" apos) [] [] pos) (Ie tl):=by
 intro pins s σ H R I h
 refine wpAny_Call_method (T:="dict") (id:="dict.items") qw rfl qx PySem.F.plainAttrs_dict PySem.F.slot_dict_items PySem.F.type_dict_items (thn (ho pins s σ H _ I h) λv s1 ao=>?_)
 obtain⟨x,H1,I1,r1,q1⟩:=ao
 obtain⟨d,kvs,rfl,hd,q⟩:=q1
 cases r1
 obtain⟨z,hS,vs,rel,dd⟩:=pJ I1.hok (.inl hd)
 have hl:=rel.length
 refine⟨dd.dictOf.typeIs,dd.dictOf.mapOf.noDict,?_⟩
 show wpAny _ _ (callWith pos (.builtin "dict.items") [.ref d] [] []) _ _ s1
 refine method_meetsIn PySem.F.slot_dict_items PySem.F.entry_dict_items rfl (PySem.evalArgs_none ⟨rfl,dd.dictOf.typeIs,PySem.F.args_dict_items_1 _,_,meets_dict_items (cm X.prog X.w) d hS,⟨vs,dd.dictOf⟩,?_⟩)
 refine wpAny_pyIter_items (d:=d) (kvs:=vs) (ep:=vs.length) ⟨_,Heap.get?_push_size _ rfl,rfl,rfl⟩ (dd.push _) ?_
 have I2:Inv X pins σ H1 { s1 with heap:=(s1.heap.push { cls:=.type "dict_items",data:=.fields #[.ref d] }).push { cls:=.type "dict_itemiterator",data:=.fields #[.none,.bool false,.ref d,.int 0 0,.int vs.length 0,.int vs.length 0,.none,.none] } } :=
  I1.kept (t':=s1.toks) λb o e=>Heap.get?_push_of_some _ (Heap.get?_push_of_some _ e)
 refine⟨_,[_],_,Itd d kvs.length,H1,rfl,I2,zg,⟨.none,.none,by rw[hl];exact Heap.get?_push_size _ rfl⟩,λb hb=>?_,q⟩
 have e:s1.heap.objs.size≤b:=by
  simp at hb
  subst hb
  exact Nat.le_succ _
 exact I1.u0 e (I1.hok.fresh e)
theorem Cj{P:Program}{w:World}{kvs:List (Key×V)}{vs:List (Key×Value)}(r:KV kvs vs){acc:List Value}(hl:acc.length=vs.length)(h:∀(i:Nat) (v:Value),acc[i]?=some v→∃(k:Key) (x:Value),vs[i]?=some (k,x)∧(cm P w).is k v=true):Vals (kvs.map λp=>kV p.1) acc:=by
 unfold KV at r
 induction r generalizing acc with
 | nil=>cases acc with
  | nil=>exact .nil
  | cons a l=>simp at hl
 | @cons p q ps qs h1 t ih =>
  cases acc with
  | nil=>simp at hl
  | cons a l =>
   obtain⟨k,x,e,hk⟩:=h 0 a rfl
   simp at e
   refine .cons ?_ (ih (by simpa using hl) λi v e=>by simpa using h (i+1) v (by simpa using e))
   have:p.1=k:=by rw[h1.1,e]
   show RelV (kV p.1) a
   rw[this]
   exact EF hk
theorem zh{X:Cx}(hc:X.calm=true):eP X (.type "list") (λxs H Q=>∃d kvs,xs=[.ref d]∧H d=some (.dK kvs)∧∀l,H l=none→Q (.ref l) (upd H l (.lst (kvs.map λp=>kV p.1)))):=by
 intro pins s σ H xs us Q I r h
 obtain⟨d,kvs,rfl,hd,q⟩:=h
 obtain⟨u,rfl,ru⟩:=vals1 r
 cases ru
 obtain⟨z,hS,vs,rel,dd⟩:=pJ I.hok (.inl hd)
 have hl:=rel.length
 refine PySem.W.kdl_call (PySem.W.kdl_dict (knd:=cm X.prog X.w) (kvs:=vs) (ep:=vs.length) hS) (I.ok.hd hc) dd (by lia) λh' tk Nu c' hk hD Nv=>?_
 have hv:Vals (kvs.map λp=>kV p.1) Nu.toList:=Cj rel (by rw[Array.length_toList];exact Nv.1) λj v e=>Nv.2 j v (by rw[← Array.getElem?_toList];exact e)
 exact⟨.ref s.heap.objs.size,_,I.laid (a:=s.heap.objs.size) (o:=.lst (kvs.map λp=>kV p.1)) (h':=h') (t':=tk) hk (Nat.le_refl _) ⟨by rw[List.length_map];exact z,Nu.toList,c',hv,hD⟩,rfl,q _ I.fresh⟩
end L2
namespace Fw
open PySem PySem.Spec PyProof.Rows L2
section
variable{K:PySem.W.Frag}{F:Hp}
theorem vL(k:Key):Rep K F (vi k) (kV k):=by
 cases k with
 | inl i=>exact Rep.i_ i
 | inr x=>exact Rep.Hz x
theorem bq.get:∀{kts:List (Key×T)}{kvs:List (Key×V)}{i:Nat}{p:Key×T},bq K F kts kvs→kts[i]?=some p→∃v,kvs[i]?=some (p.1,v)∧Rep K F p.2 v
 | [],_,_,_,_,e=>by simp at e
 | (k,t)::kts,kvs,0,p,h,e=>by
  rw[bq] at h
  obtain⟨v,kT,rfl,q,_⟩:=h
  simp at e;subst e
  exact⟨v,rfl,q⟩
 | (k,t)::kts,kvs,i+1,p,h,e=>by
  rw[bq] at h
  obtain⟨v,kT,rfl,q,r⟩:=h
  obtain⟨v',h1,h2⟩:=bq.get (i:=i) r (by simpa using e)
  exact⟨v',by simpa using h1,h2⟩
theorem bq.keys:∀{kts:List (Key×T)}{kvs:List (Key×V)},bq K F kts kvs→aA K F (kts.map λp=>vi p.1) (kvs.map λp=>kV p.1)
 | [],kvs,h=>by rw[bq] at h;subst h;exact .kU
 | (k,t)::kts,kvs,h=>by
  rw[bq] at h
  obtain⟨v,kT,rfl,q,r⟩:=h
  exact .fL (vL k) r.keys
end
section
variable{X:Cx}{a b:Expr}{da db:D}{pos p:Pos}
theorem xH{elts:List Expr}{x1:Nat}{gz apos kS:Pos}(ha:CE X a da)(qw:attributeBase a "items" X.env (eval a X.env)=eval a X.env:=by rfl)(qx:(apos.endLine==kS.line)=true:=by rfl) :
  CI X (.Tuple elts x1 gz) (.Call (.Attribute a "items" apos) [] [] kS) (kj da) :=
 PI.imp (EG ha qw qx) λσ H R0 ao=>by
  obtain⟨F,α,e,μ,S,h⟩:=ao
  refine⟨F,α,e,μ,S,(R.wp_bind h).mono (λx μ1 h v H1 F1 α1 x1 S1 o1=>?_) λ_ _ h=>h⟩
  obtain⟨kts,ht,post⟩:=R.bz (R.wp_bind h)
  obtain⟨t,hr,ht⟩:=Option.bind_eq_some_iff.mp ht
  have n1:=bf S1.st o1 hr
  cases t with
  | dct us =>
   cases ht
   obtain⟨d,kvs,rfl,hq,hl⟩:=n1
   have hlen:=hl.length
   refine⟨d,kvs,rfl,hq,post _ H1 F1 α1 x1 S1 λF2 α2 μ2 H2 s2 p2 S2 same=>?_⟩
   obtain⟨d',kT,e1,hq2,hl2⟩:=bf S2 (o1.mono s2 p2) ((show rd μ2 x=rd μ1 x from same).trans hr)
   cases e1
   have EH:=hl2.length
   refine⟨λi t hi=>?_,⟨kT,hq2,by lia,?_⟩⟩
   ·unfold fK at hi
    rw[List.getElem?_map] at hi
    obtain⟨p,hp,rfl⟩:=Option.map_eq_some_iff.mp hi
    obtain⟨v,hv,rv⟩:=hl2.get hp
    refine⟨⟨kT,(p.1,v),hq2,by lia,hv⟩,?_⟩
    rintro z H3 ⟨q,p',rfl,hq',rfl,f⟩
    have w1:=f kT hq2
    rw[hv] at w1
    cases w1
    have g:bL F2 H2 (upd F2 q (.tup [kV p.1,v])) (upd H2 q (.tup [kV p.1,v])):=bL.new hq'
    refine⟨_,g,?_⟩
    rw[Rep]
    exact⟨q,_,rfl,SqT.of aB,.fL (vL p.1) (.fL (Rep.mono (g.same S2.ext) _ _ rv) .kU)⟩
   ·show kvs.length≤(fK kts).length
    unfold fK
    rw[List.length_map]
    lia
  | _=>cases ht
theorem EI(hm:X.mg "list"=none)(ha:CE X a da)(hc:X.calm=true:=by rfl)(hg:Gl X "list":=by rfl)(hs1:starEach [a] X.env=(false,eval a X.env)::starEach [] X.env:=by rfl)(hpl:(backTo pos (starEach [] X.env)).any (·.1)=false:=by rfl) :
  CF X (.Call (.Name "list" p) [a] [] pos) (dUn xn da):=Eb (zh hc) (by
 intro F H v t w Q s hv hw q
 cases t with
 | dct ts =>
  cases hw
  obtain⟨a,vs,rfl,hq,hl⟩:=hv
  exact⟨a,vs,rfl,hq,λl hp=>q l _ hp ⟨_,aB,hl.keys⟩⟩
 | _=>cases hw) hm (by decide +kernel) ha hg (by decide) (by decide) hs1 hpl
end
section
variable{X:Cx}{a b:Expr}{da db:D}{pos p:Pos}{k:Nat}
end
end Fw
namespace L2
open PySem PySem.Spec PyProof.Rows
open AutoSeq1 (wpAny_loadPart')
theorem EJ{prog:Program}{w:World}{A:Around}{k:Bool}(hh:A.handled=none)(it l:Addr)(hne:l≠it)(items:Array Value) :
  Draws prog w A it [it,l] items.size (λi v=>items[i]?=some v) (λi h=>KIt k h it l i∧KSq k h l items) where
 live:=λ_ _ st=>by obtain⟨o,ho,_⟩:=st.1.ob;exact⟨o,ho⟩
 frame:=λ_ _ _ st hk=>⟨st.1.at λo e=>hk it (by simp) o e,st.2.at λo e=>hk l (by simp) o e⟩
 item:=λi s Q E hi st hQ=>km st.1 st.2 (x:=items[i]) (by simp[hi]) λh' Ig hs'=>hQ _ h' s.toks (by simp[hi]) ⟨Ig,st.2.at λo e=>hs'.extBut _ _ hne e⟩ hs'
 done:=λs Q E st hE=>o7 hh st.1 st.2 (by simp) hE
noncomputable abbrev eH (k : Bool) (h : Heap) (l : Addr) : Heap := (h.push (iw k l)).push { cls := .type "enumerate", data := .fields #[.none, .bool false, .ref h.objs.size, rawInt 0, .none, .none] }
set_option maxHeartbeats 4000000 in
theorem Ck(l:Addr)(items:Array Value)(n:Nat)(dct:Option Addr)(sl:Array (Option Value)) :
  Meets (Builtin.«enumerate.__new__» ⟨[.type "enumerate",.ref l],[]⟩) (λ_ R s=>s.heap.get? l=some { cls:=.type "tuple",dict:=dct,data:=.seq items n,slots:=sl } ∧
   R (.ok (.ret (.ref (s.heap.push (iw false l)).objs.size))) { s with heap:=eH false s.heap l }) :=
 .of_wp λprog w A R s h=>by
  obtain⟨hp,g,d,tk,os⟩:=s
  obtain⟨hl,h⟩:=h
  have Pt:=sub_enumerate
  have hT:Heap.IsTuple (Shared.heap ⟨hp,g,d,tk,os⟩) l items:=⟨_,hl,rfl,n,rfl⟩
  wp_walk using wpAny_loadPart' hl
  refine wpAny_stack_any λst=>wpAny_pure ?_
  split
  ·rename_i c _ _ _ _ _
   cases (c==Value.type "enumerate")
   ·(wp_walk using wpAny_loadPart' hl,wpAny_pyIter_tuple hT);exact⟨_,rfl,h⟩
   ·(wp_walk using wpAny_loadPart' hl,wpAny_pyIter_tuple hT);exact⟨_,rfl,h⟩
  ·(wp_walk using wpAny_loadPart' hl,wpAny_pyIter_tuple hT);exact⟨_,rfl,h⟩
section
variable{prog:Program}{w:World}{A:Around}{E:Value→Shared→Prop}{s:Shared}
theorem zi{k:Bool}{l:Addr}{xs:Array Value}{Q:Value→Shared→Prop}(hl:KSq k s.heap l xs)
  (h:∀h',IsEnum h' (s.heap.objs.size+1) s.heap.objs.size 0 .none→KIt k h' s.heap.objs.size l 0→h'.objs.size=s.heap.objs.size+2→(∀c o,s.heap.get? c=some o→h'.get? c=some o)→Q (.ref (s.heap.objs.size+1)) { s with heap:=h' }) :
  wpAny (model prog w) A (call (.type "enumerate") [.ref l]) Q E s:=by
 cases k with
 | true=>exact call_enumerate_list hl h
 | false =>
  obtain⟨⟨c,dct,dt,sl⟩,hg,hc,n,hd⟩:=hl
  simp only at hc hd
  subst hc hd
  refine callType_new F.called_enumerate (by decide) (F.typeCall_enumerate_1 _) (F.newCall_enumerate_1 _) (λobj=>F.args_object_init_2 obj _) F.entry_enumerate_new (Ck l xs n dct sl) ⟨hg,?_⟩
  have z1:(s.heap.push (iw false l)).objs.size=s.heap.objs.size+1:=Heap.size_push ..
  have g2:(eH false s.heap l).get? (s.heap.push (iw false l)).objs.size=some _:=Heap.get?_push_size _ rfl
  have g1:(eH false s.heap l).get? s.heap.objs.size=some (iw false l):=Heap.get?_push_of_some _ (Heap.get?_push_size _ rfl)
  show _∧_
  rw[z1] at g2
  rw[z1]
  exact⟨⟨_,g2,rfl⟩,h _ g2 (KIt.new g1) (by rw[Heap.size_push,z1]) λc o q=>Heap.get?_push_of_some _ (Heap.get?_push_of_some _ q)⟩
end
def Ite(K:PySem.W.Frag)(k:Bool)(a:Addr):It :=
 ⟨λi H=>∃xs x,jA K k H a xs∧xs[i]?=some x,
  λi H v H'=>∃p x,v=.ref p∧H p=none∧H'=upd H p (.tup [.int (i:Int),x])∧∀xs,jA K k H a xs→xs[i]?=some x,
  λi H=>∃xs,jA K k H a xs∧xs.length=i⟩
structure ESt(k:Bool)(z i1 l1:Addr)(i:Nat)(h:Heap):Prop where
 z:∃old,IsEnum h z i1 (i:Int) old
 one:KIt k h i1 l1 i
theorem Cm{P:Program}{w:World}{K:PySem.W.Frag}{elts:List Expr}{x1:Nat}{pos:Pos}{k:Bool}{z i1 l1:Addr}(d:z≠i1) :
  Turn P w K (.Tuple elts x1 pos) (Ite K k l1) [z,i1] z (ESt k z i1 l1):=by
 refine⟨by simp,λi h st b hb=>?_,λi h h' st k'=>?_,?_,?_,λA i s Q E st hq=>?_⟩
 ·obtain⟨old,hz⟩:=st.z
  obtain⟨o1,e1,q1⟩:=st.one.ob
  simp only[List.mem_cons,List.not_mem_nil,or_false] at hb
  rcases hb with rfl|rfl
  ·exact⟨_,hz,λv e=>by cases e⟩
  ·exact⟨_,e1,λv e=>by rw[q1] at e;cases e⟩
 ·obtain⟨old,hz⟩:=st.z
  exact⟨⟨old,k' z (by simp) _ hz⟩,st.one.at λo e=>k' i1 (by simp) o e⟩
 ·intro X hP hw hK hc i pins s σ H E I hf st hg
  obtain⟨xs,x,h1,hx⟩:=hg
  subst hP hw hK
  obtain⟨tI,r1,s1,z1⟩:=I.ksq h1
  obtain⟨u,hu,ru⟩:=r1.get hx
  obtain⟨old,hz⟩:=st.z
  have hli:l1≠i1:=iT I h1 (hf i1 (by simp))
  have hlz:l1≠z:=iT I h1 (hf z (by simp))
  obtain⟨o1,e1,_⟩:=st.one.ob
  have hlt:i<tI.toArray.size:=by
   have:=(List.getElem?_eq_some_iff.mp hu).1
   simpa using this
  have hne:z∉[i1,l1]:=by
   simp only[List.mem_cons,List.not_mem_nil,or_false,not_or]
   exact⟨d,λe=>hlz e.symm⟩
  refine wpAny_pyNext_enum_itemD (EJ (k:=k) (A:=X.A.in1) (I.ok.hd hc) i1 l1 hli tI.toArray) hz ⟨st.one,s1⟩ hlt d hne λy h' tk hy g1 g2 g3 g4 g5=>⟨_,rfl,?_⟩
  have ey:y=u:=by
   have hy:tI[i]?=some y:=by simpa using hy
   rw[hu] at hy
   exact (Option.some.inj hy).symm
  subst ey
  refine wpAny_letOwnedTupleGo_enum g1 λh'' q1 q2=>?_
  have lt:∀{c:Addr}{o:Obj},s.heap.get? c=some o→c≠s.heap.objs.size:=λe=>Nat.ne_of_lt (Heap.lt_size e)
  have hTz:s.heap.objs.size≠z:=(lt hz).symm
  have new:h''.get? s.heap.objs.size=some { cls:=.type "tuple",data:=.seq #[.int i tk,y] }:=q2.extBut _ _ hTz g3
  refine⟨.ref s.heap.objs.size,upd H s.heap.objs.size (.tup [.int (i:Int),x]),?_,rfl,⟨s.heap.objs.size,x,rfl,I.hok.fresh (Nat.le_refl _),rfl,λws hw=>by rw[I.vG hw h1];exact hx⟩,?_,λc hcm=>?_⟩
  ·refine (I.vI (ch:=[z,i1]) (h':=h'') (λc o hcn e=>?_) (λc hcm=>hf c hcm) ?_).tok _
   ·simp at hcn
    exact q2.extBut _ _ hcn.1 (g5 c o hcn.1 hcn.2 e)
   ·exact⟨by show 2≤sizeLine;decide,[.int i tk,y],.cons ⟨tk,rfl⟩ (.cons ru .nil),⟨_,new,rfl,0,rfl⟩⟩
  ·exact⟨⟨_,by simpa using q1⟩,g2.1.at λo e=>q2.extBut _ _ d.symm e⟩
  ·rw[aE]
   ·exact (hf c hcm).1
   ·simp only[List.mem_cons,List.not_mem_nil,or_false] at hcm
    rcases hcm with rfl|rfl
    ·exact lt hz
    ·exact lt e1
 ·intro X hP hw hK hc i pins s σ H E I hf st hg
  obtain⟨xs,h1,hle⟩:=hg
  subst hP hw hK
  obtain⟨tI,r1,s1,z1⟩:=I.ksq h1
  obtain⟨old,hz⟩:=st.z
  have hli:l1≠i1:=iT I h1 (hf i1 (by simp))
  have l1':=r1.length
  have en:tI.toArray.size=i:=by simp;lia
  refine wpAny_pyNext_enum_endD (EJ (k:=k) (A:=X.A.in1) (I.ok.hd hc) i1 l1 hli tI.toArray) hz ⟨by rw[en];exact st.one,s1⟩ λh' g7=>⟨rfl,I.vH (t':=s.toks) (ch:=[z,i1]) (λc o hcn e=>?_) λc hcm=>hf c hcm⟩
  simp at hcn
  exact g7 c o hcn.2 e
 ·obtain⟨old,hz⟩:=st.z
  exact wpAny_pyIter_enum hz hq
def Lc(K:PySem.W.Frag)(t:TA):TI:=λσ H R=>t σ H λvs H1=>∃a k xs,vs=[.ref a]∧jA K k H1 a xs∧R (Ite K k a) H1
theorem Ih{X:Cx}{elts:List Expr}{x1:Nat}{gz p pos:Pos}{a:Expr}{t:TA}(hg:Gl X "enumerate")(hm:X.mg "enumerate"=none)(ha:PA X [a] t)(he:starEach [a] X.env=(false,eval a X.env)::starEach [] X.env)(hpl:(backTo pos (starEach [] X.env)).any (·.1)=false) :
  PI X (.Tuple elts x1 gz) (.Call (.Name "enumerate" p) [a] [] pos) (Lc X.K t):=by
 intro pins s σ H R I h
 refine wpAny_Call_Name_kw (oQ I hg hm PyProof.Rows.boot_enumerate ?_ (by decide) (by decide))
 refine PyProof.Rows.callWith_type1 (thn (ha pos pins s σ H _ I h) λus s1 ao=>?_) he hpl
 obtain⟨vs,H1,I1,r1,q1⟩:=ao
 obtain⟨c,k,xs,rfl,h1,q⟩:=q1
 obtain⟨u1,rfl,ru1⟩:=vals1 r1
 cases ru1
 obtain⟨tI,_,s1',_⟩:=I1.ksq h1
 refine zi s1' λh' g1 g2 g6 g7=>wpAny_pyIter_enum g1 ?_
 have I2:Inv X pins σ H1 { s1 with heap:=h' }:=I1.kept (t':=s1.toks) g7
 refine⟨_,_,_,_,H1,rfl,I2,Cm (k:=k) (i1:=s1.heap.objs.size) (l1:=c) (λe=>by have e:s1.heap.objs.size+1=s1.heap.objs.size:=e;lia),⟨⟨_,g1⟩,g2⟩,λe he=>?_,q⟩
 have:s1.heap.objs.size≤e:=by
  simp only[List.mem_cons,List.not_mem_nil,or_false] at he
  rcases he with rfl|rfl
  ·exact Nat.le_add_right _ _
  ·exact Nat.le_refl _
 exact I1.u0 this (I1.hok.fresh this)
end L2
namespace Fw
open PySem PySem.Spec PyProof.Rows L2
theorem Ii{X:Cx}{elts:List Expr}{x1:Nat}{gz p pos:Pos}{a:Expr}{da:D}(hm:X.mg "enumerate"=none)(ha:CE X a da)(hg:Gl X "enumerate":=by rfl)(hs:starEach [a] X.env=(false,eval a X.env)::starEach [] X.env:=by rfl)(hpl:(backTo pos (starEach [] X.env)).any (·.1)=false:=by rfl) :
  CI X (.Tuple elts x1 gz) (.Call (.Name "enumerate" p) [a] [] pos) (xC da) :=
 PI.imp (Ih hg hm (ah ha aw hs) hs hpl) λσ H R0 ao=>by
  obtain⟨F,α,e,μ,S,h⟩:=ao
  refine ur ⟨F,α,e,μ,S,(R.wp_bind h).mono (λx μ1 h v H1 F1 α1 x1 S1 o1=>?_) λ_ _ h=>h⟩
  obtain⟨ts,ht,post⟩:=R.bz (R.wp_bind h)
  obtain⟨t,hr,ht⟩:=Option.bind_eq_some_iff.mp ht
  obtain⟨a1,vs1,k1,rfl,q1,r1,m1⟩:=jd S1.st.ext (bf S1.st o1 hr) ht
  refine⟨a1,k1,vs1,rfl,q1,post _ H1 F1 α1 x1 S1 λF2 α2 μ3 H2 s2 p2 S2 same=>?_⟩
  have e1:rd μ3 x=rd μ1 x:=same
  obtain⟨b1,ws1,j1,g1,n1,l1,m1'⟩:=jd S2.ext (bf S2 (o1.mono s2 p2) (e1.trans hr)) ht
  cases g1
  have ej1:j1=k1:=by rw[Bool.eq_iff_iff,m1,m1']
  subst ej1
  refine⟨λi t hi=>?_,?_⟩
  ·obtain⟨c,hc,rfl⟩:=uC hi
   obtain⟨v1,hv1,rv1⟩:=l1.get hc
   refine⟨⟨ws1,v1,n1,hv1⟩,?_⟩
   rintro z H3 ⟨q,z1,rfl,hq,rfl,f1⟩
   have w1:=f1 ws1 n1
   rw[hv1] at w1
   cases w1
   have g:bL F2 H2 (upd F2 q (.tup [.int (i:Int),v1])) (upd H2 q (.tup [.int (i:Int),v1])):=bL.new hq
   refine⟨_,g,?_⟩
   rw[Rep]
   rw[Int.zero_add]
   exact⟨q,_,rfl,SqT.of aB,aA.mono (g.same S2.ext) _ _ (.fL (Rep.i_ _) (.fL rv1 .kU))⟩
  ·refine⟨ws1,n1,?_⟩
   have:=l1.length
   show ws1.length=(iQ 0 ts).length
   rw[uB]
   lia
end Fw
namespace L2
open PySem PySem.Spec PyProof.Rows
end L2
namespace Fw
open PySem PySem.Spec PyProof.Rows L2
section
variable{K:PySem.W.Frag}
theorem rH{F:Hp}{t:T}{v:V}(h:Rep K F t v)(f:gT t=true):mO v=true∧∀{t':T}{v':V},Rep K F t' v'→gT t'=true→eqV v v'=eqT t t':=by
 cases t with
 | non=>cases h.j9;exact⟨rfl,λ{t' v'} h' f'=>by
   cases t' with
   | non=>cases h'.j9;simp[eqV,eqT]
   | bl b=>cases h'.gx;simp[eqV,eqT]
   | int b=>cases h'.j8;simp[eqV,eqT]
   | str b=>cases h'.m7;simp[eqV,eqT]
   | _=>cases f'⟩
 | bl c=>cases h.gx;exact⟨rfl,λ{t' v'} h' f'=>by
   cases t' with
   | non=>cases h'.j9;simp[eqV,eqT]
   | bl b=>cases h'.gx;simp[eqV,eqT]
   | int b=>cases h'.j8;simp[eqV,eqT]
   | str b=>cases h'.m7;simp[eqV,eqT]
   | _=>cases f'⟩
 | int c=>cases h.j8;exact⟨rfl,λ{t' v'} h' f'=>by
   cases t' with
   | non=>cases h'.j9;simp[eqV,eqT]
   | bl b=>cases h'.gx;simp[eqV,eqT]
   | int b=>cases h'.j8;simp[eqV,eqT]
   | str b=>cases h'.m7;simp[eqV,eqT]
   | _=>cases f'⟩
 | str c=>cases h.m7;exact⟨rfl,λ{t' v'} h' f'=>by
   cases t' with
   | non=>cases h'.j9;simp[eqV,eqT]
   | bl b=>cases h'.gx;simp[eqV,eqT]
   | int b=>cases h'.j8;simp[eqV,eqT]
   | str b=>cases h'.m7;simp[eqV,eqT]
   | _=>cases f'⟩
 | _=>cases f
theorem o8{F:Hp}{t:T}{v:V}(h:Rep K F t v)(f:gT t=true):∀{us:List T}{vs:List V},aA K F us vs→us.all gT=true→vs.all mO=true∧inV v vs=inT t us
 | [],vs,r,_=>by rw[aA] at r;subst r;exact⟨rfl,rfl⟩
 | u::us,vs,r,hf=>by
  rw[aA] at r
  obtain⟨v1,vs1,rfl,r1,r2⟩:=r
  rw[List.all_cons,Bool.and_eq_true] at hf
  obtain⟨a,b⟩:=o8 h f r2 hf.2
  obtain⟨c,d⟩:=rH r1 hf.1
  refine⟨by rw[List.all_cons,c,a];rfl,?_⟩
  unfold inV inT at b ⊢
  rw[List.any_cons,List.any_cons,b,d h f]
theorem Now.flat{F H:Hp}{v:V}{t:T}(h:Now K F H v t)(f:gT t=true):Rep K F t v:=by
 cases t with
 | non=>exact h
 | bl b=>exact h
 | int b=>exact h
 | str b=>exact h
 | _=>cases f
theorem EK:d9 K (rIn K false) fIn:=by
 intro F H v u t t' w Q s hv hu hw q
 unfold fIn at hw
 cases e:bS t' with
 | none=>rw[e] at hw;cases hw
 | some us =>
  rw[e] at hw
  simp only at hw
  by_cases hf:(gT t && us.all gT)=true
  ·rw[if_pos hf] at hw
   cases hw
   rw[Bool.and_eq_true] at hf
   obtain⟨a,vs,k,rfl,hq,hl,_⟩:=jd s hu e
   obtain⟨f1,f2⟩:=o8 (hv.flat hf.1) hf.1 hl hf.2
   have fx:=(rH (hv.flat hf.1) hf.1).1
   refine⟨a,vs,rfl,?_,fx,f1,?_⟩
   ·cases k with
    | true=>exact .inl hq
    | false=>exact .inr hq
   ·rw[f2];exact q _ H F bL.refl (Rep.bl' _)
  ·rw[if_neg hf] at hw;cases hw
theorem Ij:d9 K (rIn K true) nZ:=by
 intro F H v u t t' w Q s hv hu hw q
 unfold nZ at hw
 cases e:bS t' with
 | none=>rw[e] at hw;cases hw
 | some us =>
  rw[e] at hw
  simp only at hw
  by_cases hf:(gT t && us.all gT)=true
  ·rw[if_pos hf] at hw
   cases hw
   rw[Bool.and_eq_true] at hf
   obtain⟨a,vs,k,rfl,hq,hl,_⟩:=jd s hu e
   obtain⟨f1,f2⟩:=o8 (hv.flat hf.1) hf.1 hl hf.2
   have fx:=(rH (hv.flat hf.1) hf.1).1
   refine⟨a,vs,rfl,?_,fx,f1,?_⟩
   ·cases k with
    | true=>exact .inl hq
    | false=>exact .inr hq
   ·rw[f2];exact q _ H F bL.refl (Rep.bl' _)
  ·rw[if_neg hf] at hw;cases hw
theorem EL(i:Int)(h:0≤i):Builtin.bitAnd i 1=i%2:=by
 obtain⟨n,rfl⟩:=Int.eq_ofNat_of_zero_le h
 unfold Builtin.bitAnd
 simp[Nat.and_one_is_mod]
end
section
variable{X:Cx}{a b c:Expr}{da db dc:D}{pos p p2:Pos}{k:Nat}
theorem A8(hr:cM k X.A)(ha:CE X a da)(hb:CE X b db)(hm:behindInMarks .In b=false:=by with_unfolding_all rfl):CE X (.Compare a [.In] [b] pos) (ag fIn da db):=yU uf EK hm ha hb
theorem Jo(hr:cM k X.A)(ha:CE X a da)(hb:CE X b db)(hm:behindInMarks .In b=false:=by with_unfolding_all rfl):CT X (.Compare a [.In] [b] pos) (ag fIn da db):=lI uf EK hm ha hb
theorem zj(hr:cM k X.A)(ha:CE X a da)(hb:CE X b db)(hm:behindInMarks .NotIn b=false:=by with_unfolding_all rfl):CT X (.Compare a [.NotIn] [b] pos) (ag nZ da db):=lI u6 Ij hm ha hb
theorem A9(hm:X.mg "int"=none)(ha:CE X a da)(hg:Gl X "int":=by rfl)(hs1:starEach [a] X.env=(false,eval a X.env)::starEach [] X.env:=by rfl)(hpl:(backTo pos (starEach [] X.env)).any (·.1)=false:=by rfl) :
  CE X (.Call (.Name "int" p) [a] [] pos) (dUn vw da):=Ea BL (by
 intro F H v t w Q s hv hw q
 cases t with
 | int i=>cases hw;cases hv.int;exact .inl ⟨i,rfl,q _ H F bL.refl (Rep.i_ _)⟩
 | bl i=>cases hw;cases Rep.gx (K:=X.K) (F:=F) hv;exact .inr ⟨i,rfl,q _ H F bL.refl (Rep.i_ _)⟩
 | _=>cases hw) hm (by decide +kernel) ha hg (by decide) (by decide) hs1 hpl
theorem EM(i j l:Nat){x y z:Str}{px py pz:Pos}{k:Nat}(hN:X.N.Nodup)(hc:X.calm=true)(hi:X.N[i]?=some x:=by rfl)(hj:X.N[j]?=some y:=by rfl)(hl:X.N[l]?=some z:=by rfl)(hx:Loc X.env.scope x:=by first|exact Or.inl rfl|exact Or.inr rfl)
  (hy:Loc X.env.scope y:=by first|exact Or.inl rfl|exact Or.inr rfl) (hz:Loc X.env.scope z:=by first|exact Or.inl rfl|exact Or.inr rfl)
  (hf:X.fn x=true∨X.env.scope.names.lookup x=some .local:=by first|exact .inl rfl|exact .inr rfl|assumption) (hf':X.fn y=true∨X.env.scope.names.lookup y=some .local:=by first|exact .inl rfl|exact .inr rfl|assumption)
  (Pu:X.fn z=true∨X.env.scope.names.lookup z=some .local:=by first|exact .inl rfl|exact .inr rfl|assumption)
  : CB X (.Tuple [.Name x px,.Name y py,.Name z pz] k pos) (ee [i,j,l]) :=
 PG.imp (Dj hc (kX (mv hN hi hx hf) (kX (mv hN hj hy hf') (kX (mv hN hl hz Pu) Ay)))) λv σ H Q ao=>by
  obtain⟨F,α,e,μ,t,e',S,r,hb,q⟩:=ao
  cases t with
  | tup ts =>
   unfold ee at hb
   simp only at hb
   by_cases hl:ts.length=[i,j,l].length
   ·rw[if_pos hl] at hb
    rw[Rep] at r
    obtain⟨a,vs,rfl,hq,hr⟩:=r
    match ts,vs,hl,hr with
    | [t1,t2,t3],vs,_,hr =>
     rw[aA] at hr
     obtain⟨v1,vs1,rfl,r1,hr⟩:=hr
     rw[aA] at hr
     obtain⟨v2,vs2,rfl,r2,hr⟩:=hr
     rw[aA] at hr
     obtain⟨v3,vs3,rfl,r3,hr⟩:=hr
     rw[aA] at hr
     subst hr
     cases hb
     exact⟨a,_,rfl,aT.jx S.st.ext hq,rfl,v1,[v2,v3],rfl,v2,[v3],rfl,v3,[],rfl,rfl,q _ (((S.set (x:=.val t1) r1).set (x:=.val t2) r2).set (x:=.val t3) r3)⟩
   ·rw[if_neg hl] at hb;cases hb
  | _=>cases hb
theorem EN{tg:Expr}{is:List Nat}(hg:CB X tg (ee is))(he:CE X a da)(hs:swapsWithSole [tg] a pos.line X.env=pure false:=by rfl)(hw:swappedStores [tg] a X.env=pure none:=by rfl)
  (h1:(assignEach [tg] X.env).map (·.2)=[assign tg X.env]:=by rfl):CS X (.Assign [tg] a pos) (xE is da) :=
 PS.imp (Dk he hg hs hw h1) λD σ H ⟨F,α,e,μ,S,h⟩ =>
  ⟨F,α,e,μ,S,(bc.toS h).mono (λx μ1 h v H1 F1 α1 x1 S1 o1=>by
   obtain⟨e',hb,hp⟩:=bc.lift h
   obtain⟨t,ht,hb⟩:=Option.bind_eq_some_iff.mp hb
   cases x with
   | val t'=>cases ht;exact⟨F1,α1,e,μ1,t,e',S1,o1,hb,λσ' S'=>hp σ' H1 F1 α1 x1 S'⟩
   | cel _=>cases ht
   | box _=>cases ht) λ_ _ h=>h⟩
end
end Fw
namespace L2
open PySem PySem.Spec PyProof.Rows
end L2
namespace Fw
open PySem PySem.Spec PyProof.Rows L2
section
variable{X:Cx}{a b c:Expr}{da db dc:D}{pos p p2 pu pc:Pos}{k:Nat}
end
section
variable{X:Cx}{a b c:Expr}{da db dc:D}{pos p p2 pu pc:Pos}{k:Nat}
end
section
variable{X:Cx}{pos:Pos}
end
section
variable{X:Cx}{pos p:Pos}{k:Nat}{a:Expr}{da:D}
end
section
variable{X:Cx}{a b:Expr}{da db:D}{pos p:Pos}{k:Nat}
end
section
variable{X:Cx}{a b:Expr}{da db:D}{pos:Pos}
end
theorem Cn(i:Int):Builtin.bitAnd i 1=i%2:=by
 by_cases h:0≤i
 ·exact EL i h
 ·unfold Builtin.bitAnd
  rw[decide_eq_false h,decide_eq_true (show (0:Int)≤1 by omega)]
  show (1:Int)-(((1:Int).toNat &&& (Builtin.bitNot i).toNat:Nat):Int)=_
  rw[show (1:Int).toNat=1 from rfl,Nat.and_comm,Nat.and_one_is_mod]
  unfold Builtin.bitNot
  omega
theorem Co{K:PySem.W.Frag}:d9 K (rI0 λi j=>.int (Builtin.bitAnd i j)) ef:=by
 intro F H v u t t' w Q s hv hu hw q
 cases t<;>cases t'<;>first|cases hw|skip
 rename_i i j
 have hw:(if j=1 then some (T.int (i%2)) else none)=some w:=hw
 by_cases hc:j=1
 ·rw[if_pos hc] at hw
  cases hw
  subst hc
  cases hv.int
  cases hu.int
  refine⟨i,1,rfl,rfl,?_⟩
  show Q (V.int (Builtin.bitAnd i 1)) H
  rw[Cn i]
  exact q _ H F bL.refl (Rep.i_ _)
 ·rw[if_neg hc] at hw;cases hw
theorem rJ{X:Cx}{a b:Expr}{da db:D}{pos:Pos}(ha:CE X a da)(hb:CE X b db):CE X (.BinOp a .BitAnd b pos) (ag ef da db):=lH Kb Co ha hb
section
variable{X:Cx}{body:List Stmt}{es:List Expr}{ds:List D}{d:DS}{pos np lp:Pos}
end
end Fw
namespace L2
open PySem PySem.Spec PyProof.Rows
section
variable{prog:Program}{w:World}{A:Around}{E:Value→Shared→Prop}{s:Shared}
end
section
variable{prog:Program}{w:World}{A:Around}{E:Value→Shared→Prop}{s:Shared}
end
end L2
namespace Fw
open PySem PySem.Spec PyProof.Rows L2
end Fw
namespace L2
open PySem PySem.Spec PyProof.Rows
open AutoSeq1 (wpAny_loadPart')
section
variable{prog:Program}{w:World}{A:Around}{E:Value→Shared→Prop}{s:Shared}
end
end L2
namespace HT
open PySem PySem.Spec PyProof.Rows L2
section
variable{prog:Program}{w:World}{A:Around}{E:Value→Shared→Prop}{s:Shared}
end
end HT
namespace L2
open PySem PySem.Spec PyProof.Rows
end L2
namespace Fw
open PySem PySem.Spec PyProof.Rows L2
end Fw
namespace Fw
open PySem L2 PyProof.Rows
section
variable{X:Cx}{pins:List (Addr×Obj)}{σ:L2.St}{H:Hp}{s:Shared}
end
section
variable{X:Cx}{a:Expr}{da:D}{p pos:Pos}{b:Bool}
end
section
variable{X:Cx}{E:Value→Shared→Prop}{pins:List (Addr×Obj)}{σ:L2.St}{H:Hp}{s:Shared}
end
end Fw
namespace L2
open PySem PySem.Spec PyProof.Rows Fw
section
variable{X:Cx}
theorem og:∀{us:List Value}{ns:List Int},IntsAre us ns→Vals (ns.map V.int) us
 | _,_,.nil=>.nil
 | _,_,.cons _ _ h=>.cons ⟨_,rfl⟩ (og h)
end
end L2
namespace Fw
open PySem PySem.Spec PyProof.Rows L2
section
variable{X:Cx}{a:Expr}{da:D}{p pos:Pos}
end
section
variable{X:Cx}{pins:List (Addr×Obj)}{σ:L2.St}{H:Hp}{s:Shared}{k:Nat}
end
section
variable{X:Cx}{a b:Expr}{da db:D}{pos:Pos}{k:Nat}
end
end Fw
namespace L2
open PySem PySem.Spec PyProof.Rows
end L2
namespace Fw
open PySem PySem.Spec PyProof.Rows L2
end Fw
namespace L2
open PySem PySem.Spec PyProof.Rows
section
variable{prog:Program}{w:World}{A:Around}{E:Value→Shared→Prop}{s:Shared}
noncomputable abbrev Le (h : Heap) (z TI TO a : Addr) (f : Bool) : Prop := h.get? z = some { cls := .type "zip", dict := none, data := .fields #[rawInt a, .bool f, .bool false, .ref TI, .ref TO], slots := #[] }
structure ZOA(z TI i1 i2 l1 l2:Addr):Prop where
 TIz:TI≠z
 i1z:i1≠z
 i2z:i2≠z
 i12:i1≠i2
 l1z:l1≠z
 l1i1:l1≠i1
 l2z:l2≠z
 l2i1:l2≠i1
end
section
variable{X:Cx}{pins:List (Addr×Obj)}{σ:L2.St}{H:Hp}{s:Shared}
structure ZO(k1 k2:Bool)(z TI TO i1 i2 l1 l2:Addr)(i:Nat)(H:Hp)(h:Heap):Prop where
 zz:IsZip h z TI TO .none∨∃a f ws,H a=some (.tup ws)∧Le h z TI TO a f
 ti:IsPair h TI (.ref i1) (.ref i2)
 to:∃a b,IsPair h TO a b
 one:KIt k1 h i1 l1 i
 two:KIt k2 h i2 l2 i
theorem ZO.keep{k1 k2:Bool}{z TI TO i1 i2 l1 l2:Addr}{i:Nat}{h h':Heap}(st:ZO k1 k2 z TI TO i1 i2 l1 l2 i H h)(k:∀b∈[z,TI,TO,i1,i2],∀o,h.get? b=some o→h'.get? b=some o):ZO k1 k2 z TI TO i1 i2 l1 l2 i H h':=by
 obtain⟨a,b,hto⟩:=st.to
 refine⟨?_,k TI (.tail _ (.head _)) _ st.ti,⟨a,b,k TO (.tail _ (.tail _ (.head _))) _ hto⟩,st.one.at λo e=>k i1 (.tail _ (.tail _ (.tail _ (.head _)))) o e,st.two.at λo e=>k i2 (.tail _ (.tail _ (.tail _ (.tail _ (.head _))))) o e⟩
 rcases st.zz with hz|⟨c,f,ws,hc,hz⟩
 ·exact .inl (k z (.head _) _ hz)
 ·exact .inr ⟨c,f,ws,hc,k z (.head _) _ hz⟩
theorem ZO.apart{k1 k2:Bool}{z TI TO i1 i2 l1 l2:Addr}{i:Nat}{xs ys:List V}(d1:TI≠TO)(d2:i1≠i2)(I:Inv X pins σ H s)(hf:∀b∈[z,TI,TO,i1,i2],kY X pins H b)(st:ZO k1 k2 z TI TO i1 i2 l1 l2 i H s.heap)(h1:jA X.K k1 H l1 xs)(h2:jA X.K k2 H l2 ys) :
  ZipApart z TI TO i1 i2 l1 l2∧ZOA z TI i1 i2 l1 l2:=by
 obtain⟨a,b,hto⟩:=st.to
 obtain⟨o1,e1,q1⟩:=st.one.ob
 obtain⟨o2,e2,q2⟩:=st.two.ob
 obtain⟨oz,vz,ez,qz,sz⟩:∃(oz:Obj) (vz:Array Value),s.heap.get? z=some oz∧oz.data=.fields vz∧vz.size=5:=by
  rcases st.zz with hz|⟨c,f,ws,hc,hz⟩
  ·exact⟨_,_,hz,rfl,rfl⟩
  ·exact⟨_,_,hz,rfl,rfl⟩
 have neP:∀{c d:Addr}{o:Obj}{u v:Value}{vs:Array Value},IsPair s.heap c u v→s.heap.get? d=some o→o.data=.fields vs→c≠d:=λ{c d o u v vs} hp ho hd e=>by
  subst e
  have hp:s.heap.get? c=some { cls:=.type "tuple",data:=.seq #[u,v] }:=hp
  rw[hp] at ho;cases ho;cases hd
 have neZ:∀{d:Addr}{l:Addr}{o:Obj}{n:Nat},s.heap.get? d=some o→o.data=.fields #[.ref l,.int n 0]→d≠z:=λ{d l o n} ho hd e=>by
  subst e
  rw[ez] at ho;cases ho
  rw[qz] at hd
  have:vz=#[.ref l,.int n 0]:=by injection hd
  rw[this] at sz
  exact absurd sz (by simp)
 have w:∀c∈[z,TI,TO,i1,i2],l1≠c∧l2≠c:=λc hc=>⟨iT I h1 (hf c hc),iT I h2 (hf c hc)⟩
 have D:ZipApart z TI TO i1 i2 l1 l2:={ TIz:=neP st.ti ez qz,TOz:=neP hto ez qz,i1z:=neZ e1 q1,i2z:=neZ e2 q2,TITO:=d1,TIi1:=neP st.ti e1 q1,TIi2:=neP st.ti e2 q2,TOi1:=neP hto e1 q1,TOi2:=neP hto e2 q2,i12:=d2,l1z:=(w z (.head _)).1,l1TO:=(w TO (.tail _ (.tail _ (.head _)))).1,l1i1:=(w i1 (.tail _ (.tail _ (.tail _ (.head _))))).1,l1i2:=(w i2 (.tail _ (.tail _ (.tail _ (.tail _ (.head _)))))).1,l2z:=(w z (.head _)).2,l2TO:=(w TO (.tail _ (.tail _ (.head _)))).2,l2i1:=(w i1 (.tail _ (.tail _ (.tail _ (.head _))))).2,l2i2:=(w i2 (.tail _ (.tail _ (.tail _ (.tail _ (.head _)))))).2 }
 exact⟨D,⟨D.TIz,D.i1z,D.i2z,D.i12,D.l1z,D.l1i1,D.l2z,D.l2i1⟩⟩
end
end L2
namespace Fw
open PySem PySem.Spec PyProof.Rows L2
end Fw
namespace L2
open PySem PySem.Spec PyProof.Rows
end L2
namespace Fw
open PySem PySem.Spec PyProof.Rows L2
end Fw
namespace L2
open PySem PySem.Spec PyProof.Rows
def Ik(h:Heap)(d:Addr)(es:Array DictEntry)(ep:Nat):Prop:=∃o,h.get? d=some o∧o.ExactDict∧o.data=.dict es ep
section
variable{prog:Program}{w:World}{A:Around}{E:Value→Shared→Prop}{s:Shared}{d it:Addr}{es:Array DictEntry}{ep i:Nat}
theorem EO{Q:Value→Shared→Prop}(hd:(d==sysModules)=false)(hm:Ik s.heap d es ep)
  (hQ:Q (.ref s.heap.objs.size) { s with heap:=s.heap.push { cls:=.type "dict_keyiterator",data:=.fields #[.ref d,.int 0 0,.int es.size 0,.int ep 0] } }) :
  wpAny (model prog w) A (pyIter (.ref d)) Q E s:=by
 obtain⟨o,ho,hx,Nw⟩:=hm
 have hT:s.TypeIs (.ref d) "dict":=⟨o,ho,hx.1⟩
 refine wpAny_pyIter_slot hT PySem.F.slot_dict_iter (wpAny_call_entry PySem.F.slot_dict_iter hT PySem.F.entry_dict_iter ?_ (PySem.F.args_dict_iter_1 _))
 unfold Builtin.«dict.__iter__»
 refine wpAny_bind ?_
 unfold Builtin.Dict.dictSlotNone
 refine wpAny_bind (wpAny_notOrdered_dict hT ?_)
 refine wpAny_pure (?_:wpAny _ _ (Builtin.Dict.showsAll d>>=_) _ _ s)
 unfold Builtin.Dict.showsAll
 rw[if_neg (by rw[hd];exact Bool.false_ne_true)]
 refine wpAny_bind (wpAny_pure (wpAny_bind (wpAny_dictEntries ho Nw (wpAny_bind (wpAny_dictEpoch ho Nw ?_)))))
 refine wpAny_bind (wpAny_newObj_type (wpAny_pure ⟨_,rfl,"dict_keyiterator",_,⟨_,Heap.get?_push_size _ rfl,rfl⟩,PySem.F.slot_dict_keyiterator_next.lookup,?_⟩))
 simpa [rawInt] using hQ
theorem ER{Q:Option Value→Shared→Prop}(hit:s.heap.IsKeyIter it d i es.size ep)(hm:Ik s.heap d es ep)(hlt:i<es.size)
  (hQ:∀h',h'.IsKeyIter it d (i+1) es.size ep→Heap.SameBut it s.heap h'→Q (some es[i].key) { s with heap:=h' }) :
  wpAny (model prog w) A (pyNext (.ref it)) Q E s:=by
 obtain⟨o,ho,hc,hd⟩:=id hit
 obtain⟨od,hod,hcd,hdd⟩:=hm
 unfold pyNext
 refine wpAny_bind (wpAny_attempt (wpAny_callSpecial?_slot (name:=Str.ofString "__next__") hit.typeIs PySem.F.slot_dict_keyiterator_next
  (wpAny_call_entry PySem.F.slot_dict_keyiterator_next hit.typeIs PySem.F.entry_dict_keyiterator_next ?_ (PySem.F.args_dict_keyiterator_next_1 _))))
 refine wpAny_bind (wpAny_pure (wpAny_bind (wpAny_bind ?_)))
 first|refine wpAny_bind (wpAny_typeNameOfWhole_keyiter hit.typeIs (wpAny_pure ?_))|refine wpAny_bind (wpAny_typeNameOf_keyiter hit.typeIs (wpAny_pure ?_))
 refine wpAny_bind (wpAny_fieldsOf ho hd ?_)
 simp only[show Builtin.Dict_items.ownsTuple "dict_keyiterator"=false by decide,Bool.false_eq_true,if_false]
 show wpAny _ _ (if (Value.ref d==Value.none)=true then _ else _) _ _ s
 rw[if_neg (show ¬ ((Value.ref d==Value.none)=true) from Bool.false_ne_true)]
 refine wpAny_bind (wpAny_pure (wpAny_bind (wpAny_dictEntries hod hdd ?_)))
 rw[if_neg (by simp)]
 refine wpAny_bind (wpAny_pure (wpAny_bind (wpAny_dictEpoch hod hdd ?_)))
 rw[if_neg (by simp)]
 refine wpAny_pure ?_
 simp only[show ¬ ((i:Int)<0) from by omega,if_false,Int.toNat_natCast,Array.getElem?_eq_getElem hlt]
 refine wpAny_bind ?_
 first|refine wpAny_bind (wpAny_typeNameOfWhole_keyiter hit.typeIs (wpAny_pure ?_))|refine wpAny_bind (wpAny_typeNameOf_keyiter hit.typeIs (wpAny_pure ?_))
 refine wpAny_bind (wpAny_isOneOf_keyiter hit.typeIs ?_)
 show wpAny _ _ (setField (.ref it) 1 (rawInt ((i:Int)+1))>>=_) _ _ s
 refine wpAny_bind (wpAny_setField ho hd (by simp) ?_)
 have Ig:(s.heap.update it (Obj.mapFields (·.setIfInBounds 1 (rawInt ((i:Int)+1))))).IsKeyIter it d (i+1) es.size ep :=
  ⟨_,Heap.get?_update_self _ ho (Obj.isFreed_of_fields (Obj.data_mapFields hd _)),(Obj.cls_mapFields ..).trans hc,by rw[Obj.data_mapFields hd];simp[rawInt]⟩
 refine wpAny_bind (wpAny_holding ?_)
 refine wpAny_bind (wpAny_isOneOf_keyiter (s:={ s with heap:=s.heap.update it (Obj.mapFields (·.setIfInBounds 1 (rawInt ((i:Int)+1)))) }) Ig.typeIs ?_)
 show wpAny _ _ (pure es[i].key) _ _ _
 exact wpAny_pure (wpAny_pure ⟨_,rfl,wpAny_pure (hQ _ Ig (Heap.SameBut.update ..))⟩)
theorem Il{Q:Option Value→Shared→Prop}(hh:A.handled=none)(hit:s.heap.IsKeyIter it d i es.size ep)(hm:Ik s.heap d es ep)(hge:es.size≤i)
  (hQ:∀h',Heap.ExtBut it s.heap h'→Q none { s with heap:=h' }):wpAny (model prog w) A (pyNext (.ref it)) Q E s:=by
 obtain⟨o,ho,hc,hd⟩:=id hit
 obtain⟨od,hod,hcd,hdd⟩:=hm
 unfold pyNext
 refine wpAny_bind (wpAny_attempt (wpAny_callSpecial?_slot (name:=Str.ofString "__next__") hit.typeIs PySem.F.slot_dict_keyiterator_next
  (wpAny_call_entry PySem.F.slot_dict_keyiterator_next hit.typeIs PySem.F.entry_dict_keyiterator_next ?_ (PySem.F.args_dict_keyiterator_next_1 _))))
 refine wpAny_bind (wpAny_pure (wpAny_bind (wpAny_bind ?_)))
 first|refine wpAny_bind (wpAny_typeNameOfWhole_keyiter hit.typeIs (wpAny_pure ?_))|refine wpAny_bind (wpAny_typeNameOf_keyiter hit.typeIs (wpAny_pure ?_))
 refine wpAny_bind (wpAny_fieldsOf ho hd ?_)
 simp only[show Builtin.Dict_items.ownsTuple "dict_keyiterator"=false by decide,Bool.false_eq_true,if_false]
 show wpAny _ _ (if (Value.ref d==Value.none)=true then _ else _) _ _ s
 rw[if_neg (show ¬ ((Value.ref d==Value.none)=true) from Bool.false_ne_true)]
 refine wpAny_bind (wpAny_pure (wpAny_bind (wpAny_dictEntries hod hdd ?_)))
 rw[if_neg (by simp)]
 refine wpAny_bind (wpAny_pure (wpAny_bind (wpAny_dictEpoch hod hdd ?_)))
 rw[if_neg (by simp)]
 refine wpAny_pure ?_
 simp only[show ¬ ((i:Int)<0) from by omega,if_false,Int.toNat_natCast,Array.getElem?_eq_none hge]
 refine wpAny_bind ?_
 first|refine wpAny_bind (wpAny_typeNameOfWhole_keyiter hit.typeIs (wpAny_pure ?_))|refine wpAny_bind (wpAny_typeNameOf_keyiter hit.typeIs (wpAny_pure ?_))
 show wpAny _ _ (setField (.ref it) 0 .none>>=_) _ _ s
 refine wpAny_bind (wpAny_setField ho hd (by simp) ?_)
 show wpAny _ _ (newExc (.type "StopIteration") []>>=_) _ _ _
 refine wpAny_bind ?_
 simp only[newExc,newTuple]
 refine wpAny_bind (wpAny_newObj_type ?_ (by size_fits))
 refine wpAny_bind (m:=firstArgMember _ _) (wpAny_of_eq (a:=Value.none) (by first|rfl|(simp only[firstArgMember];rfl)) ?_)
 refine wpAny_newObj_type ?_ (by size_fits)
 simp only[raiseNew]
 refine wpAny_bind (wpAny_handled ?_)
 rw[show A.in1.handled=none from hh]
 refine wpAny_bind (wpAny_pure (wpAny_throw ?_))
 refine wpAny_bind (wpAny_isInstance (T:="StopIteration") (b:=true) ⟨_,Heap.get?_push_size _ rfl,rfl⟩ isSubtype_stop ?_)
 exact wpAny_pure (hQ _ (((Heap.SameBut.update ..).extBut.push _).push _))
end
theorem zk{α β:Type}{R:α→β→Prop}:∀{as:List α}{bs:List β}{i:Nat}{a:α},Paired R as bs→as[i]?=some a→∃b,bs[i]?=some b∧R a b:=by
 intro as bs i a r
 induction r generalizing i with
 | nil=>intro h;simp at h
 | cons x t ih =>
  intro h
  cases i with
  | zero=>simp at h;subst h;exact⟨_,rfl,x⟩
  | succ i=>simpa using ih (i:=i) (by simpa using h)
theorem Lf{P:Program}{w:World}{H:Hp}{h:Heap}{d:Addr}{o:HO}{kvs:List (List Key×V)}(hd:H d=some (.dT kvs))(x:cL P w H h d (.dT kvs)):cL P w (upd H d o) h d (.dT kvs):=by
 obtain⟨z,y,xs,r,q⟩:=x
 refine⟨z,y,xs,?_,q⟩
 refine Paired.imp' (λa b g=>⟨g.1,?_,g.2.2⟩) r
 rw[aE λe=>by rw[e,hd] at g;cases g.2.1]
 exact g.2.1
section
variable{X:Cx}{pins:List (Addr×Obj)}{σ:List (Option V)}{H:Hp}{s:Shared}{d:Addr}{kvs:List (List Key×V)}
theorem Inv.Px(I:Inv X pins σ H s)(hd:H d=some (.dT kvs)):∃o,s.heap.get? d=some o∧Inv X pins σ (upd H d (.frz o (.dT kvs))) s:=by
 have x:=I.hok d _ hd
 obtain⟨z,y,xs,r,o,es,ep,h1,h2⟩:=id x
 refine⟨o,h1,?_⟩
 have:=I.write (x:=d) (e:=d) (o:=.frz o (.dT kvs)) (h':=s.heap) (t':=s.toks) (by rw[hd];trivial) (.inl rfl) (λb u _ e=>e) ⟨o,h1⟩ ⟨h1,Lf hd x⟩
 exact this
def Itk(d:Addr)(o:Obj)(kvs:List (List Key×V)):It :=
 ⟨λi H=>H d=some (.frz o (.dT kvs))∧∃p,kvs[i]?=some p,
  λi H v H'=>H'=H∧∃b p,v=.ref b∧kvs[i]?=some p∧H b=some (.tup (p.1.map kV)),
  λi H=>H d=some (.frz o (.dT kvs))∧kvs.length≤i⟩
theorem ES{P:Program}{w:World}{h:Heap}{o:Obj}{es:Array DictEntry}{ep:Nat}(ok:HOk P w H h)(hd:H d=some (.frz o (.dT kvs)))(he:o.data=.dict es ep) :
  Ik h d es ep∧es.size=kvs.length∧∀i p,kvs[i]?=some p→∃(hi:i<es.size) (b:Addr),es[i].key=.ref b∧H b=some (.tup (p.1.map kV)):=by
 obtain⟨h1,_,_,xs,r,o',es',ep',g1,g2,g3,g4,_⟩:=ok d _ hd
 rw[h1] at g1;cases g1
 rw[he] at g3;cases g3
 have hl:=r.length
 have hz:es.size=xs.length:=by
  have:=congrArg List.length g4
  simpa using this
 refine⟨⟨o,h1,g2,he⟩,by omega,λi p hp=>?_⟩
 have hi:i<kvs.length:=(List.getElem?_eq_some_iff.mp hp).1
 obtain⟨q,hq,rel⟩:∃q,xs[i]?=some q∧p.1=q.1∧H q.2.1=some (.tup (p.1.map kV))∧RelV p.2 q.2.2:=by
  exact zk r hp
 have hi2:i<es.size:=by omega
 refine⟨hi2,q.2.1,?_,rel.2.1⟩
 have e1:es.toList[i]?=some es[i]:=by simp[hi2]
 rw[g4,List.getElem?_map,hq] at e1
 have e2:=Option.some.inj e1
 rw[← e2]
 rfl
end
theorem Cp{P:Program}{w:World}{K:PySem.W.Frag}{tg:Expr}{d it:Addr}{o:Obj}{kvs:List (List Key×V)}{es:Array DictEntry}{ep:Nat}(he:o.data=.dict es ep) :
  Turn P w K tg (Itk d o kvs) [it] it (λi h=>h.IsKeyIter it d i es.size ep) where
 mem:=by simp
 obj:=λi h st b hb=>by
  have e:b=it:=by simpa using hb
  subst e
  obtain⟨o,e,c,d⟩:=st
  exact⟨o,e,λv z=>by rw[d] at z;cases z⟩
 keep:=λi h h' st k=>st.at λo e=>k it (by simp) o e
 item:=by
  intro X hP hw hK hc i pins s σ H E I hf st hg
  subst hP hw hK
  obtain⟨hd,p,hp⟩:=hg
  obtain⟨de,_,ks⟩:=ES I.hok hd he
  obtain⟨hi,b,hk,hb⟩:=ks i p hp
  obtain⟨f0,f1,f2,f3,f4,f5⟩:=hf it (by simp)
  refine ER st de hi λh' st' sb=>?_
  have I1:Inv X pins σ H { s with heap:=h' }:=I.turned (t':=s.toks) (λb o hb e=>(sb.2 b hb).trans e) f0 f1 f3 f4 f5
  obtain⟨o',e,c,d'⟩:=id st'
  rw[hk]
  exact⟨.ref b,rfl,wW (s:={ s with heap:=h' }) e c d' (by decide) ⟨.ref b,H,I1,rfl,⟨rfl,b,p,rfl,hp,hb⟩,st',λb hb=>(hf b hb).1⟩⟩
 done:=by
  intro X hP hw hK hc i pins s σ H E I hf st hg
  subst hP hw hK
  obtain⟨hd,hle⟩:=hg
  obtain⟨de,hz,_⟩:=ES I.hok hd he
  obtain⟨f0,f1,f2,f3,f4,f5⟩:=hf it (by simp)
  exact Il (I.ok.hd hc) st de (by omega) λh' eb=>⟨rfl,I.turned (t':=s.toks) (λb o hb e=>eb b o hb e) f0 f1 f3 f4 f5⟩
 self:=λ_ _ _ _ _ st h=>wpAny_pyIter_keyiter st h
def Lg(tl:TE):TI:=λσ H R=>tl σ H λx H1=>∃d kvs,x=.ref d∧((H1 d=some (.dT kvs)∧∀o,R (Itk d o kvs) (upd H1 d (.frz o (.dT kvs))))∨∃o,H1 d=some (.frz o (.dT kvs))∧R (Itk d o kvs) H1)
theorem Im{X:Cx}{tg l:Expr}{tl:TE}(hl:PE X l tl):PI X tg l (Lg tl):=by
 intro pins s σ H R I h
 refine thn (hl pins s σ H _ I h) λv s1 ao=>?_
 obtain⟨x,H1,I1,r1,q1⟩:=ao
 obtain⟨d,kvs,e,q⟩:=q1
 subst e
 cases r1
 have main:∀(H2:Hp) (o:Obj),Inv X pins σ H2 s1→H2 d=some (.frz o (.dT kvs))→R (Itk d o kvs) H2→wpAny (model X.prog X.w) X.A (pyIter (.ref d)) (PIE X pins σ tg R) X.xe s1:=λH2 o I2 hd q=>by
  obtain⟨_,_,hS,xs,r,o',es,ep,g1,g2,g3,g4,_⟩:=I2.hok d _ hd
  have h1:=(I2.hok d _ hd).1
  rw[h1] at g1;cases g1
  refine EO hS ⟨o,h1,g2,g3⟩ ?_
  refine⟨s1.heap.objs.size,[s1.heap.objs.size],_,_,H2,rfl,I2.kept (t':=s1.toks) λb o e=>Heap.get?_push_of_some _ e,Cp (d:=d) (kvs:=kvs) g3,⟨_,Heap.get?_push_size _ rfl,rfl,rfl⟩,λb hb=>?_,q⟩
  have e:b=s1.heap.objs.size:=by simpa using hb
  subst e
  exact I2.u0 (Nat.le_refl _) (I2.hok.fresh (Nat.le_refl _))
 rcases q with ⟨hd,q⟩|⟨o,hd,q⟩
 ·obtain⟨o,_,I2⟩:=I1.Px hd
  exact main _ o I2 aB (q o)
 ·exact main _ o I1 hd q
end L2
namespace Fw
open PySem
def pM(kts:List (List Int×Bool))(k:List Int):Option Bool:=(kts.find? λkv=>decide (kv.1=k)).map (·.2)
def rK(kts:List (List Int×Bool))(k:List Int)(b:Bool):List (List Int×Bool) :=
 if (kts.any λkv=>decide (kv.1=k))=true then kts.map (λkv=>if kv.1=k then (kv.1,b) else kv) else kts++[(k,b)]
def xI:T→Option (List Int)
 | .tup ts=>ed ts
 | _=>none
def je:T→T→Option T
 | .dtt _ kts,u=>(xI u).bind λk=>(pM kts k).map T.bl
 | _,_=>none
def nh(x:SV)(k:T)(t:T)(μ:af):Option af:=match x with
 | .cel c=>match μ[c]? with
  | some (true,.dtt false kts)=>match t with
   | .bl b=>(xI k).bind λkk=>if kts.length<szL then some (μ.set c (true,.dtt false (rK kts kk b))) else none
   | _=>none
  | _=>none
 | _=>none
def uG(i:Nat)(dk dv:D):DS:=λe μ=>(dv e μ).toS e λy μ1=>(R.lift (slot e i) μ1).toS e λx μ1=>(dk e μ1).toS e λz μ2=>(R.lift (rd μ2 z) μ2).toS e λk μ2 =>
 (frz y μ2).toS e λt μ3=>(R.lift (nh x k t μ3) μ3).toS e λμ4 _=>.nx e μ4
theorem ET(i:Nat)(dk dv:D)(e:Slots)(μ:af):uG i dk dv e μ=(dv e μ).toS e λy μ1=>(R.lift (slot e i) μ1).toS e λx μ1=>(dk e μ1).toS e λz μ2=>(R.lift (rd μ2 z) μ2).toS e λk μ2 =>
 (frz y μ2).toS e λt μ3=>(R.lift (nh x k t μ3) μ3).toS e λμ4 _=>.nx e μ4:=(rfl)
def xJ(kts:List (List Int×Bool)):List T:=kts.map λp=>.tup (p.1.map T.int)
def keysAt(x:SV)(μ:af):Option (List (List Int×Bool)×af):=match x with
 | .cel c=>match μ[c]? with
  | some (true,.dtt false kts)=>some (kts,μ.set c (false,.dtt true kts))
  | some (false,.dtt true kts)=>some (kts,μ)
  | _=>none
 | _=>none
def lQ(d:D):DI:=λe μ=>(d e μ).bind λx μ1=>(R.lift (keysAt x μ1) μ1).bind λp _=>.ok ⟨xJ p.1,λ_=>True⟩ p.2
theorem uH(d:D)(e:Slots)(μ:af):lQ d e μ=(d e μ).bind λx μ1=>(R.lift (keysAt x μ1) μ1).bind λp _=>.ok ⟨xJ p.1,λ_=>True⟩ p.2:=(rfl)
end Fw
namespace Fw
open PySem PySem.Spec PyProof.Rows L2
theorem vM:∀(a b:List Int),(a.map (Sum.inl:Int→Key)=b.map Sum.inl)↔a=b:=λa b =>
 ⟨λh=>(List.map_inj_right (λx y z=>by cases z;rfl)).mp h,λh=>by rw[h]⟩
theorem A_:∀(kts:List (List Int×Bool)) (k:List Int),lg (kvT kts) (k.map Sum.inl)=(pM kts k).map V.bl
 | [],k=>rfl
 | (k0,b)::kts,k=>by
  have ih:=A_ kts k
  by_cases e:k0=k
  ·subst e
   rw[show kvT ((k0,b)::kts)=(k0.map Sum.inl,V.bl b)::kvT kts from rfl,lh (p:=(k0.map Sum.inl,V.bl b)) rfl]
   simp[pM,List.find?_cons]
  ·have e2:¬ (k0.map (Sum.inl:Int→Key))=k.map Sum.inl:=λz=>e ((vM _ _).mp z)
   rw[show kvT ((k0,b)::kts)=(k0.map Sum.inl,V.bl b)::kvT kts from rfl,lq (p:=(k0.map Sum.inl,V.bl b)) e2,ih]
   simp[pM,List.find?_cons,e]
theorem Io(kts:List (List Int×Bool))(k:List Int)(b:Bool):putK (kvT kts) (k.map Sum.inl) (V.bl b)=kvT (rK kts k b):=by
 have ha:((kvT kts).any λkv=>decide (kv.1=k.map Sum.inl))=(kts.any λkv=>decide (kv.1=k)):=by
  unfold kvT
  rw[List.any_map]
  congr 1
  funext p
  exact decide_eq_decide.mpr (vM _ _)
 unfold putK rK
 rw[ha]
 by_cases e:(kts.any λkv=>decide (kv.1=k))=true
 ·rw[if_pos e,if_pos e]
  unfold kvT
  rw[List.map_map,List.map_map]
  refine List.map_congr_left λp _=>?_
  by_cases q:p.1=k
  ·subst q;simp
  ·have q2:¬ (p.1.map (Sum.inl:Int→Key))=k.map Sum.inl:=λz=>q ((vM _ _).mp z)
   simp[q,q2]
 ·rw[if_neg e,if_neg e]
  unfold kvT
  rw[List.map_append]
  rfl
theorem Ba(kts:List (List Int×Bool)):(kvT kts).length=kts.length:=List.length_map _
theorem Bb{K:PySem.W.Frag}{F H:Hp}{v:V}{t:T}{k:List Int}(s:aT F H)(h:Now K F H v t)(e:xI t=some k):∃b,v=.ref b∧H b=some (.tup ((k.map (Sum.inl:Int→Key)).map kV)):=by
 cases t with
 | tup ts =>
  obtain⟨b,vs,rfl,q,r⟩:=h.pU
  refine⟨b,rfl,?_⟩
  have e2:=r.ints e
  subst e2
  rw[List.map_map]
  exact s _ _ q
 | _=>cases e
section
variable{X:Cx}{a b c:Expr}{da db dc:D}{pos p p2:Pos}{k:Nat}
theorem Cq(σ:L2.St)(H:Hp)(Q:VK)(h:tD X (ag je da db) σ H Q):DF (tD X da) (tD X db) σ H Q:=by
 obtain⟨F,α,e,μ,S,h⟩:=h
 refine⟨F,α,e,μ,S,?_⟩
 refine (R.wp_bind h).mono (λx μ1 h v H1 F1 α1 x1 S1 o1=>⟨F1,α1,e,μ1,S1,?_⟩) λ_ _ h=>h
 refine (R.wp_bind h).mono (λy μ2 h v2 H2 F2 α2 x2 S2 o2=>?_) λ_ _ h=>h.mono x1
 obtain⟨w,h9,post⟩:=R.bz h
 obtain⟨t,u,w',ht,hu,h,rfl⟩:=qD h9
 have n1:=bf S2.st (o1.mono x2.same x2.pre) ht
 have n2:=bf S2.st o2 hu
 cases t with
 | dtt fz kts =>
  obtain⟨kk,hk,h⟩:=Option.bind_eq_some_iff.mp (show (xI u).bind (λk=>(pM kts k).map T.bl)=some w' from h)
  obtain⟨ad,rfl,hq⟩:=n1
  obtain⟨bd,rfl,hb⟩:=Bb S2.st.ext n2 hk
  obtain⟨bv,h1,rfl⟩:=Option.map_eq_some_iff.mp h
  have hg:yH H2 ad (.ref bd) (lg (kvT kts) (kk.map Sum.inl)):=.inr ⟨_,_,bd,hq,rfl,hb,rfl⟩
  rw[A_,h1] at hg
  exact⟨ad,.bl bv,rfl,hg,post _ H2 F2 α2 (x1.trans x2) S2 (Rep.bl' (K:=X.K) (F:=F2) bv)⟩
 | _=>cases u<;>cases h
theorem qj(hr:cM k X.A)(ha:CE X a da)(hb:CE X b db)(hs:G6 b:=by intro _ _;rfl):CE X (.Subscript a b pos) (ag je da db):=PE.imp (AJ (oa hr) ha hb hs) Cq
theorem Lh:CF X (.Dict [] [] pos) (dC (.dtt false [])):=by
 refine⟨PE.imp DK λσ H Q ⟨F,α,e,μ,S,h⟩=>?_,λe μ x μ' h=>?_⟩
 ·obtain⟨t,et,post⟩:=h
  cases et
  intro d hd
  exact post d _ F α (Ex.lay hd) (S.of (aT.refl _) (List.prefix_refl _) (S.st.lay hd)) hd (S.st.ext.free hd) (cg S.st hd) ⟨rfl,aB⟩
 ·cases h;exact⟨_,rfl⟩
theorem Ip(hr:cM k X.A)(i:Nat){y:Str}{py gz:Pos}{ik ev:Expr}{dk dv:D}(hk:CE X ik dk)(hv:CE X ev dv)(hN:X.N[i]?=some y:=by rfl)
  (hvs:Vis X.env.scope y:=by first|exact Or.inl rfl|exact Or.inr (Or.inl rfl)|exact Or.inr (Or.inr rfl)) (hd:(y==("__debug__":Str))=false:=by decide) (hcd:(y==("__classdict__":Str))=false:=by decide)
  (hs:swapsWith ev (some (.Subscript (.Name y py) ik gz)) pos.line X.env=pure false:=by rfl) :
  CS X (.Assign [.Subscript (.Name y py) ik gz] ev pos) (uG i dk dv) :=
 PS.imp (AK (oa hr) (uZ hN hvs hd hcd) hk hv hs) λD σ H ao=>by
  obtain⟨F,α,e,μ,S,h⟩:=ao
  refine⟨F,α,e,μ,S,(bc.toS h).mono (λy μ1 h v H1 F1 α1 x1 S1 o1=>?_) λ_ _ h=>h⟩
  obtain⟨x,hx,h⟩:=bc.lift h
  obtain⟨ov,hov,oo⟩:=S1.sl i x hx
  refine⟨ov,hov,F1,α1,e,μ1,S1,(bc.toS h).mono (λz μ2 h v2 H2 F2 α2 x2 S2 o2=>?_) λ_ _ h=>h.mono x1⟩
  obtain⟨k,hk,h⟩:=bc.lift h
  have h:=h.toS
  have nk:=bf S2.st o2 hk
  cases hz:frz y μ2 with
  | err c μ3=>exact absurd hz (qA y μ2 c μ3)
  | bad=>rw[hz] at h;exact h.elim
  | ok t μ3 =>
   rw[hz] at h
   obtain⟨μ4,ha4,h⟩:=bc.lift h
   obtain⟨F3,s3,n3,S3,r3⟩:=m8 S2.st (o1.mono x2.same x2.pre) hz
   cases x with
   | cel j =>
    obtain⟨ad,had,rfl⟩:=oo
    unfold nh at ha4
    simp only at ha4
    have hc:∃kts kk bb,μ3[j]?=some (true,.dtt false kts)∧t=.bl bb∧xI k=some kk∧kts.length<szL∧μ4=μ3.set j (true,.dtt false (rK kts kk bb)):=by
     split at ha4
     ·rename_i us hjs
      split at ha4
      ·rename_i bb
       obtain⟨kk,e1,e2⟩:=Option.bind_eq_some_iff.mp ha4
       by_cases hl:us.length<szL
       ·rw[if_pos hl] at e2
        cases e2
        exact⟨us,kk,bb,hjs,rfl,e1,hl,rfl⟩
       ·rw[if_neg hl] at e2;cases e2
      ·cases ha4
     ·cases ha4
    obtain⟨kts,kk,bb,hj3,rfl,hkk,hl,rfl⟩:=hc
    have ha3:α2[j]?=some ad:=j_ x2.pre had
    have hw:H2 ad=some (.dT (kvT kts)):=((S3.cell j true _ ad hj3 ha3).1 rfl).2.2
    obtain⟨bd,rfl,hb⟩:=Bb S2.st.ext nk hkk
    have ev:v=.bl bb:=Rep.gx (K:=X.K) (F:=F3) r3
    subst ev
    have hp:=w5.t (v:=V.bl bb) hw hb (by rw[Ba];rw[rj] at hl;omega)
    rw[Io] at hp
    refine⟨ad,_,rfl,hp,?_⟩
    have x3:Ex F α H F3 α2 H2:=x1.trans (x2.trans (Ex.pL s3 n3))
    exact h σ _ F3 α2 (x3.trans (Ex.put ha3)) ((S2.of s3 (List.prefix_refl _) S3).of (aT.refl _) (List.prefix_refl _) (vo S3 hj3 ha3 ⟨rfl,aB⟩))
   | val t=>unfold nh at ha4;cases ha4
   | box xs=>unfold nh at ha4;cases ha4
theorem EU{K:PySem.W.Frag}{F:Hp}{α:List Addr}{d:Addr}{o:Obj}{kts:List (List Int×Bool)}(hF:F d=some (.frz o (.dT (kvT kts)))):KY K F α (Itk d o (kvT kts)) ⟨xJ kts,λ_=>True⟩:=by
 intro F2 α2 μ2 H2 s2 p2 S2 _
 have hd:=S2.ext _ _ (s2 _ _ hF)
 have gt:∀i p,(kvT kts)[i]?=some p→∃q:List Int×Bool,kts[i]?=some q∧p=(q.1.map Sum.inl,V.bl q.2):=λi p h=>by
  unfold kvT at h
  rw[List.getElem?_map] at h
  obtain⟨q,h1,h2⟩:=Option.map_eq_some_iff.mp h
  exact⟨q,h1,h2.symm⟩
 refine⟨λi t ht=>?_,hd,?_⟩
 ·have ht:(kts.map λp=>T.tup (p.1.map T.int))[i]?=some t:=ht
  rw[List.getElem?_map] at ht
  obtain⟨q,hq,rfl⟩:=Option.map_eq_some_iff.mp ht
  refine⟨⟨hd,(q.1.map Sum.inl,V.bl q.2),by unfold kvT;rw[List.getElem?_map,hq];rfl⟩,λx H3 y=>?_⟩
  obtain⟨rfl,b,p,rfl,hp,hb⟩:=y
  obtain⟨q',hq',rfl⟩:=gt i p hp
  rw[hq] at hq';cases hq'
  refine⟨F2,bL.refl,?_⟩
  rw[Rep]
  refine⟨b,q.1.map V.int,rfl,?_,aA.qf _⟩
  have hb:H3 b=some (.tup ((q.1.map (Sum.inl:Int→Key)).map kV)):=hb
  rw[List.map_map] at hb
  exact S2.tps _ _ hb
 ·show (kvT kts).length≤(kts.map λp=>T.tup (p.1.map T.int)).length
  rw[Ba,List.length_map]
  exact Nat.le_refl _
theorem xK{tg:Expr}(ha:CE X a da):CI X tg a (lQ da):=PI.imp (Im ha) λσ H G ao=>by
 obtain⟨F,α,e,μ,S,h⟩:=ao
 refine⟨F,α,e,μ,S,(R.wp_bind h).mono (λx μ1 h v H1 F1 α1 x1 S1 o1=>?_) λ_ _ h=>h⟩
 obtain⟨⟨kts,μ2⟩,hk,post⟩:=R.bz (R.wp_bind h)
 cases x with
 | cel c =>
  obtain⟨d,hd,rfl⟩:=o1
  unfold keysAt at hk
  simp only at hk
  split at hk
  ·rename_i us hj
   cases hk
   obtain⟨f0,_,hw⟩:=(S1.st.cell c true _ d hj hd).1 rfl
   refine⟨d,kvT kts,rfl,.inl ⟨hw,λo=>?_⟩⟩
   have s2:aT F1 (upd F1 d (.frz o (.dT (kvT kts)))):=λb z hz=>by
    rw[aE (λq=>by subst q;rw[f0] at hz;cases hz)];exact hz
   have hc:c<μ1.length:=(List.getElem?_eq_some_iff.mp hj).1
   have ex:Ex F1 α1 H1 (upd F1 d (.frz o (.dT (kvT kts)))) α1 (upd H1 d (.frz o (.dT (kvT kts)))):=⟨s2,List.prefix_refl _,λb z h1 h2 h3=>by
    have nb:b≠d:=λq=>h3 (by rw[q];exact List.mem_of_getElem? hd)
    exact⟨by rw[aE nb];exact h1,by rw[aE nb];exact h2,h3⟩⟩
   have st:du X.K (upd F1 d (.frz o (.dT (kvT kts)))) α1 (μ1.set c (false,.dtt true kts)) (upd H1 d (.frz o (.dT (kvT kts)))):=by
    refine⟨λb z hz=>?_,by rw[List.length_set];exact S1.st.len,S1.st.nd,λk b hb=>?_,λk b u a' h1 h2=>?_,λb xs q=>?_⟩
    ·by_cases eb:b=d
     ·subst eb;rw[aB] at hz ⊢;exact hz
     ·rw[aE eb] at hz ⊢;exact S1.st.ext _ _ hz
    ·by_cases eb:b=d
     ·subst eb;exact⟨_,aB⟩
     ·rw[aE eb];exact S1.st.there k b hb
    ·by_cases ek:k=c
     ·subst ek
      rw[List.getElem?_set_self hc] at h1
      cases h1
      rw[hd] at h2;cases h2
      refine⟨λz=>(by cases z),λ_=>?_⟩
      rw[Rep]
      exact⟨_,rfl,.inr ⟨rfl,o,aB⟩⟩
     ·rw[List.getElem?_set_ne (Ne.symm ek)] at h1
      have na:a'≠d:=λq=>by subst q;exact ek (nS S1.st.nd h2 hd)
      obtain⟨c1,c2⟩:=S1.st.cell k b u a' h1 h2
      refine⟨λhb=>⟨by rw[aE na];exact (c1 hb).1,?_⟩,λhb=>Rep.mono s2 _ _ (c2 hb)⟩
      have d2:=(c1 hb).2
      cases u with
      | lst ts=>obtain⟨vs,w1,w2⟩:=d2;exact⟨vs,by rw[aE na];exact w1,aA.mono s2 _ _ w2⟩
      | dct ts=>obtain⟨vs,w1,w2⟩:=d2;exact⟨vs,by rw[aE na];exact w1,bq.mono s2 _ _ w2⟩
      | dtt fz ts=>exact⟨d2.1,(aE na).trans d2.2⟩
      | _=>exact d2.elim
    ·by_cases eb:b=d
     ·subst eb;rw[aB] at q;cases q
     ·rw[aE eb] at q ⊢;exact S1.st.tps _ _ q
   exact post _ _ _ α1 (x1.trans ex) (S1.of s2 (List.prefix_refl _) st) (EU aB)
  ·rename_i us hj
   cases hk
   have rp:=(S1.st.cell c false _ d hj hd).2 rfl
   rw[Rep] at rp
   obtain⟨d',e',q⟩:=rp
   cases e'
   rcases q with ⟨z,_⟩|⟨_,o,q⟩
   ·cases z
   ·exact⟨d,kvT kts,rfl,.inr ⟨o,S1.st.ext _ _ q,post _ _ F1 α1 x1 S1 (EU q)⟩⟩
  ·cases hk
 | val t=>cases hk
 | box xs=>cases hk
end
end Fw
namespace HT
open PySem PyProof.Rows
section
open PySem.SeqAt
open PySem.AutoSeq1 (wpAny_loadPart')
open PySem.MeetsSeq PySem.MeetsSeq2 PySem.MeetsSeq3
theorem jB{items:Array Value}{ns:List Int}{i:Nat}(h:IntsAre (items.toList.drop i) ns)(hi:items.size≤i):ns=[]:=by
 rw[List.drop_eq_nil_of_le (by simpa using hi)] at h
 cases h;rfl
theorem iU{items:Array Value}{ns:List Int}{i:Nat}(h:IntsAre (items.toList.drop i) ns)(hi:i<items.size) :
  ∃a t ns',ns=a::ns'∧items[i]?=some (.int a t)∧IntsAre (items.toList.drop (i+1)) ns':=by
 rw[List.drop_eq_getElem_cons (by simpa using hi)] at h
 generalize hv:items.toList[i]'(by simpa using hi)=v at h
 cases h with
 | cons a t h =>
  refine⟨a,t,_,rfl,?_,h⟩
  rw[Array.getElem?_eq_getElem hi,← hv]
  simp
theorem Iq(l b:Addr)(items cJ:Array Value)(n n2:Nat)(dd dd2:Option Addr)(sl sl2:Array (Option Value))(k:Nat) :
  ∀(i:Nat) (ns ms:List Int),items.size-i=k→i≤items.size→i≤cJ.size→IntsAre (items.toList.drop i) ns→IntsAre (cJ.toList.drop i) ms→Meets (Builtin.«list.__eq__.loop» ⟨[.ref l,.ref b,rawInt i,rawInt 0],[]⟩)
   (λA R s=>s.heap.get? l=some { cls:=.type "list",dict:=dd,data:=.seq items n,slots:=sl }∧s.heap.get? b=some { cls:=.type "list",dict:=dd2,data:=.seq cJ n2,slots:=sl2 } ∧
    R (.ok (.ret (.bool (lexLt ns ms)))) s):=by
 induction k with
 | zero =>
  intro i ns ms hk hle Py hi hj prog w A R s h
  obtain⟨hp,g,d,tk,os⟩:=s;obtain⟨hl,hb,h⟩:=h
  wp_walk using wpAny_loadPart' hl,wpAny_loadPart' hb
  have hi1:items[((i:Nat):Int).toNat]?=none:=by simp;omega
  have e:=jB hi (by omega)
  subst e
  by_cases h2:i<cJ.size
  ·obtain⟨c,u,ms',rfl,q,_⟩:=iU hj h2
   have hi2:cJ[((i:Nat):Int).toNat]?=some (.int c u):=by simpa using q
   rw[hi1,hi2]
   wp_walk using wpAny_loadPart' hl,wpAny_loadPart' hb
   show R (.ok (.ret (.bool (decide (items.size<cJ.size))))) _
   rw[decide_eq_true (by omega)]
   exact h
  ·have hi2:cJ[((i:Nat):Int).toNat]?=none:=by simp;omega
   have e:=jB hj (by omega)
   subst e
   rw[hi1,hi2]
   wp_walk using wpAny_loadPart' hl,wpAny_loadPart' hb
   show R (.ok (.ret (.bool (decide (items.size<cJ.size))))) _
   rw[decide_eq_false (by omega)]
   exact h
 | succ k ih =>
  intro i ns ms hk hle Py hi hj prog w A R s h
  obtain⟨hp,g,d,tk,os⟩:=s;obtain⟨hl,hb,h⟩:=h
  wp_walk using wpAny_loadPart' hl,wpAny_loadPart' hb
  obtain⟨a,t,ns',rfl,q1,r1⟩:=iU hi (by omega)
  have hi1:items[((i:Nat):Int).toNat]?=some (.int a t):=by simpa using q1
  by_cases h2:i<cJ.size
  ·obtain⟨c,u,ms',rfl,q2,r2⟩:=iU hj h2
   have hi2:cJ[((i:Nat):Int).toNat]?=some (.int c u):=by simpa using q2
   have hc:((i:Int)+1)=((i+1:Nat):Int):=by push_cast;rfl
   rw[yB] at h
   rw[hi1,hi2]
   obtain⟨e,he,Nx⟩:=Dw A.in1 ⟨hp,g,d,tk,os⟩ a t c u
   refine wpAny_bind (he prog w _ _ ?_)
   cases e with
   | true =>
    rw[if_pos (Nx.mp rfl)] at h
    wp_walk
    rw[hc]
    exact⟨plainId_quiet plain_eq_loop _,codeAny_builtin entry_eq_loop (by
     rw[Around.under_plainId plain_eq_loop _]
     exact ih (i+1) ns' ms' (by omega) (by omega) (by omega) r1 r2 prog w A R _ ⟨hl,hb,h⟩)⟩
   | false =>
    rw[if_neg (λq=>absurd (Nx.mpr q) Bool.false_ne_true)] at h
    wp_walk using wpAny_loadPart' hl,wpAny_loadPart' hb
    rw[hi1,hi2]
    have hri:=Dx A.in1 ⟨hp,g,d,tk,os⟩ a t c u prog w
    wp_walk using hri
    simpa using h
  ·have hi2:cJ[((i:Nat):Int).toNat]?=none:=by simp;omega
   have e:=jB hj (by omega)
   subst e
   rw[hi1,hi2]
   wp_walk using wpAny_loadPart' hl,wpAny_loadPart' hb
   show R (.ok (.ret (.bool (decide (items.size<cJ.size))))) _
   rw[decide_eq_false (by omega)]
   exact h
theorem vN(l b:Addr)(items cJ:Array Value)(n n2:Nat)(dd dd2:Option Addr)(sl sl2:Array (Option Value))(ns ms:List Int)(hi:IntsAre items.toList ns)(hj:IntsAre cJ.toList ms) :
  Meets (Builtin.«list.__lt__» ⟨[.ref l,.ref b],[]⟩)
   (λA R s=>s.heap.get? l=some { cls:=.type "list",dict:=dd,data:=.seq items n,slots:=sl }∧s.heap.get? b=some { cls:=.type "list",dict:=dd2,data:=.seq cJ n2,slots:=sl2 } ∧
    R (.ok (.ret (.bool (lexLt ns ms)))) s):=by
 intro prog w A R s h
 obtain⟨hp,g,d,tk,os⟩:=s;obtain⟨hl,hb,h⟩:=h
 have f3:=AutoSeq1.sub_list_list
 wp_walk using wpAny_loadPart' hl,wpAny_loadPart' hb
 exact⟨plainId_quiet plain_eq_loop _,codeAny_builtin entry_eq_loop (by
  rw[Around.under_plainId plain_eq_loop _]
  exact Iq l b items cJ n n2 dd dd2 sl sl2 _ 0 ns ms rfl (Nat.zero_le _) (Nat.zero_le _) (by simpa using hi) (by simpa using hj) prog w A R _ ⟨hl,hb,h⟩)⟩
end
section
variable{prog:Program}{w:World}{A:Around}{E:Value→Shared→Prop}{s:Shared}
theorem zl{l b:Addr}{items cJ:Array Value}{ns ms:List Int}{Q:Bool→Shared→Prop}(hl:s.heap.IsList l items)(hb:s.heap.IsList b cJ)(hi:IntsAre items.toList ns)(hj:IntsAre cJ.toList ms)
  (hu:A.units<cLine) (h:Q (lexLt ns ms) s):wpAny (model prog w) A (oneLt' true (.ref l) (.ref b)) Q E s:=by
 obtain⟨⟨cls,dd,data,sl⟩,ho,hc,n,hd⟩:=id hl
 obtain⟨⟨Kh,dd2,data2,sl2⟩,ho2,hc2,n2,hd2⟩:=id hb
 simp only at hc hd hc2 hd2
 subst hc hd hc2 hd2
 rw[oneLt'_eq]
 simp only[if_true]
 refine wpAny_bind (wpAny_cRoomFor hu ?_)
 refine wpAny_bind (wpAny_callSpecialIfBound?_slot ⟨_,ho,rfl⟩ PySem.F.slot_list_lt (call_meets PySem.F.slot_list_lt ⟨_,ho,rfl⟩ PySem.F.entry_list_lt (PySem.F.args_list_lt_2 _ _) (vN l b items cJ n n2 dd dd2 sl sl2 ns ms hi hj) ⟨ho,ho2,?_⟩))
 exact wpAny_truthy_bool h
end
end HT
namespace HT
open PySem PySem.W PySem.Calls PyProof.Rows
def uI{α:Type}(lt:Nat→Nat→Bool):KasT α→α
 | .ret a=>a
 | .ask i j k=>uI lt (k (lt i j))
def Al{α:Type}(n:Nat)(R:α→Prop):KasT α→Prop
 | .ret a=>R a
 | .ask i j k=>i<n∧j<n∧∀b,Al n R (k b)
theorem Al.bind{α β:Type}{n:Nat}{R:α→Prop}{R':β→Prop}{f:α→KasT β}:∀{t:KasT α},Al n R t→(∀a,R a→Al n R' (f a))→Al n R' (t.bind f)
 | .ret a,h,hf=>hf a h
 | .ask i j k,h,hf=>⟨h.1,h.2.1,λb=>Al.bind (h.2.2 b) hf⟩
theorem Al.ev{α:Type}{n:Nat}{R:α→Prop}(lt:Nat→Nat→Bool):∀{t:KasT α},Al n R t→R (uI lt t)
 | .ret _,h=>h
 | .ask i j k,h=>by
  have:=Al.ev lt (t:=k (lt i j)) (h.2.2 (lt i j))
  exact this
theorem Al.wp{α:Type}{n:Nat}{R:α→Prop}{cmp:Nat→Nat→(Bool→Shared→Prop)→Shared→Prop}{lt:Nat→Nat→Bool}{Q:α→Shared→Prop}{s:Shared}(hc:∀i j C,i<n→j<n→C (lt i j) s→cmp i j C s):∀{t:KasT α},Al n R t→Q (uI lt t) s→t.kasWp cmp Q s
 | .ret _,_,q=>q
 | .ask i j k,h,q=>hc i j _ h.1 h.2.1 (Al.wp (t:=k (lt i j)) hc (h.2.2 (lt i j)) q)
section
variable{n:Nat}{p:Array Nat}
noncomputable abbrev Pm (n : Nat) (p : Array Nat) : Prop := p.Perm (List.toArray (List.range n))
theorem Pm.gd(hn:0<n)(hp:Pm n p)(i:Nat):p.getD i 0<n:=by
 unfold Array.getD
 by_cases h:i<p.size
 ·rw[dif_pos h]
  have:p[i]∈(List.toArray (List.range n)):=hp.mem_iff.mp (Array.getElem_mem h)
  simpa using this
 ·rw[dif_neg h];exact hn
theorem Pm.rev(hp:Pm n p)(i j:Nat):Pm n (kas_rev p i j):=(mirror_perm _ _ _ _).trans hp
theorem zm(hn:0<n)(hp:Pm n p):∀f m,Al n (λ_=>True) (kas_asc p f m)
 | 0,_=>trivial
 | f+1,m=>⟨hp.gd hn _,hp.gd hn _,λb=>by
  cases b with
  | true=>exact trivial
  | false=>exact zm hn hp f (m+1)⟩
theorem qk(hn:0<n):∀f (p:Array Nat) m q,Pm n p→Al n (λr:Array Nat×Nat×Nat=>Pm n r.1) (kas_desc f p m q)
 | 0,_,_,_,hp=>hp
 | f+1,p,m,q,hp=>⟨hp.gd hn _,hp.gd hn _,λb=>by
  cases b with
  | true =>
   show Al n _ (if q > 0 then _ else _)
   by_cases h:q > 0
   ·rw[if_pos h];exact qk hn f _ _ _ (hp.rev _ _)
   ·rw[if_neg h];exact qk hn f _ _ _ hp
  | false=>exact⟨hp.gd hn _,hp.gd hn _,λd=>by
    cases d with
    | true=>exact hp
    | false=>exact qk hn f _ _ _ hp⟩⟩
theorem Bc(hn:0<n)(m r:Nat)(hp:Pm n p):Al n (λr:Nat×Array Nat=>Pm n r.2) (kas_tail3 m r p) :=
 Al.bind (zm hn (hp.rev _ _) _ _) λ_ _=>hp.rev _ _
theorem Bd(hn:0<n)(m r:Nat)(hp:Pm n p):Al n (λr:Nat×Array Nat=>Pm n r.2) (kas_descPart m r p) :=
 Al.bind (qk hn _ _ _ _ hp) λa ha=>by
  by_cases h:a.2.2 > 0
  ·rw[if_pos h];exact Bc hn _ _ (ha.rev _ _)
  ·rw[if_neg h];exact Bc hn _ _ ha
theorem EV(hn:0<n)(r:Nat)(hp:Pm n p):Al n (λr:Nat×Array Nat=>Pm n r.2) (kas_count r p) :=
 Al.bind (zm hn hp _ _) λm _=>by
  by_cases h:(m==r)=true
  ·rw[if_pos h];exact hp
  ·rw[if_neg h]
   by_cases h1:m > 1
   ·rw[if_pos h1]
    exact⟨hp.gd hn _,hp.gd hn _,λb=>by
     cases b with
     | true=>exact hp
     | false=>exact Bd hn _ _ (hp.rev _ _)⟩
   ·rw[if_neg h1];exact Bd hn _ _ hp
theorem rL(hn:0<n)(hp:Pm n p)(k:Nat):∀f l r,Al n (λ_=>True) (kas_place p k f l r)
 | 0,_,_=>trivial
 | f+1,l,r=>by
  unfold kas_place
  by_cases h:l ≥ r
  ·rw[if_pos h];exact trivial
  ·rw[if_neg h]
   exact⟨hp.gd hn _,hp.gd hn _,λb=>by
    cases b with
    | true=>exact rL hn hp k f _ _
    | false=>exact rL hn hp k f _ _⟩
theorem EW(hn:0<n):∀f (p:Array Nat) k,Pm n p→Al n (λq=>Pm n q) (kas_bin f p k)
 | 0,_,_,hp=>hp
 | f+1,p,k,hp=>Al.bind (rL hn hp k _ _ _) λl _=>EW hn f _ _ ((bubble_perm _ _ _).trans hp)
theorem Be(hn:0<n):Al n (λq=>Pm n q) (kas_sort n) :=
 Al.bind (EV hn n (Array.Perm.refl _)) λr hr=>by
  by_cases h:r.1<n
  ·rw[if_pos h];exact EW hn _ _ _ hr
  ·rw[if_neg h];exact hr
end
def tJ(n:Nat)(lt:Nat→Nat→Bool):List Nat:=if n<2 then List.range n else (uI lt (kas_sort n)).toList
theorem gC(n:Nat)(lt:Nat→Nat→Bool):(tJ n lt).Perm (List.range n):=by
 unfold tJ
 by_cases h:n<2
 ·rw[if_pos h]
 ·rw[if_neg h]
  have:=(Be (n:=n) (by omega)).ev lt
  exact Array.perm_iff_toList_perm.mp this
section
variable{prog:Program}{w:World}{A:Around}{E:Value→Shared→Prop}{s:Shared}
def o9(vs:List Value)(lt:Nat→Nat→Bool):List Value:=(tJ vs.length lt).map λi=>vs.getD i .none
theorem EX{vs:List Value}{lt:Nat→Nat→Bool}(h:vs.length<2):o9 vs lt=vs:=by
 unfold o9 tJ
 rw[if_pos h]
 match vs,h with
 | [],_=>rfl
 | [v],_=>rfl
theorem pV{a:Addr}{vs:List Value}{n:Nat}{P:PySem.Fin→Shared→Prop}(lt:Nat→Nat→Bool)(ho:s.heap.get? a=some (seqObj "list" vs.toArray n))(h64:vs.length<64)
  (hT:∀h':Heap,(∀b o,b≠a→s.heap.get? b=some o→h'.get? b=some o)→∀v∈vs,Looks (model prog w) h' (typeOf v) (.type "list"))
  (hc:∀h':Heap,(∀b o,b≠a→s.heap.get? b=some o→h'.get? b=some o)→∀i j C,i<vs.length→j<vs.length→C (lt i j) { s with heap:=h' }→wpAny (model prog w) A (keyLt' oneType' (vs.getD i .none) (vs.getD j .none)) C (λ_ _=>False) { s with heap:=h' })
  (h:P (.done (.ret .none)) { s with heap:=sortedHeap s.heap a vs (o9 vs lt).toArray }) :
  wpAny (model prog w) A (Builtin.«list.sort» ⟨[.ref a],[]⟩) P E s:=by
 rw[list_sort_plain]
 have ha:a<s.heap.objs.size:=Heap.lt_size ho
 refine wpAny_bind (listItems_at ho rfl ?_)
 refine wpAny_bind (listUpdate_at ho rfl ?_)
 obtain⟨e1,ho1⟩:∃e1,(s.heap.update a (Obj.mapSeq λ_=>#[])).get? a=some (seqObj "list" #[] e1):=⟨_,get?_update_seq ho (λ_=>#[])⟩
 refine wpAny_bind (seqEpoch_at ho1 rfl ?_)
 refine wpAny_bind (wpAny_newTuple ?_)
 refine wpAny_bind (wpAny_newList ?_)
 refine wpAny_holding ?_
 have ho6:(((s.heap.update a (Obj.mapSeq λ_=>#[])).push (seqObj "tuple" vs.toArray 0)).push (seqObj "list" #[] 0)).get? a=some (seqObj "list" #[] e1):=by
  rw[Heap.get?_push_ne _ _ _ (by rw[size_push',Heap.size_update];exact Nat.ne_of_lt (Nat.lt_succ_of_lt ha)),Heap.get?_push_ne _ _ _ (by rw[Heap.size_update];exact Nat.ne_of_lt ha)]
  exact ho1
 have kp:∀b o,b≠a→s.heap.get? b=some o→(((s.heap.update a (Obj.mapSeq λ_=>#[])).push (seqObj "tuple" vs.toArray 0)).push (seqObj "list" #[] 0)).get? b=some o:=λb o hb e=>by
  refine Heap.get?_push_of_some _ (Heap.get?_push_of_some _ ?_)
  rw[Heap.get?_update_ne _ _ _ _ hb]
  exact e
 show wpAny (model prog w) A _ P E { s with heap:=((s.heap.update a (Obj.mapSeq λ_=>#[])).push (seqObj "tuple" vs.toArray 0)).push (seqObj "list" #[] 0) }
 dsimp only
 have hsz:vs.toArray.size=vs.length:=by simp
 by_cases h2:vs.toArray.size<2
 ·rw[if_pos h2,if_pos h2]
  refine wpAny_bind (wpAny_pure ?_)
  rw[StateT.run_pure]
  refine wpAny_bind (wpAny_pure ?_)
  dsimp only
  refine wpAny_bind (seqEpoch_at ho6 rfl ?_)
  refine wpAny_bind (listUpdate_at ho6 rfl ?_ (hsz2:=by rw[Array.size_map];show (pairsOf vs).size≤_;rw[pairsOf_size,sizeLine_eq];omega))
  simp only[bne_self_eq_false,Bool.false_eq_true,if_false]
  refine wpAny_pure ?_
  rw[EX (by rw[← hsz];exact h2)] at h
  have e:(arrOf (SortSt.mk' general' (vs.toArray.zip vs.toArray) #[] 7 none)).map (·.2)=vs.toArray:=by
   show (vs.toArray.zip vs.toArray).map (·.2)=vs.toArray
   apply Array.toList_inj.mp
   simp[List.map_snd_zip]
  rw[e]
  exact h
 ·rw[if_neg h2,if_neg h2]
  have h2':2≤vs.length:=by omega
  refine wpAny_bind (kas_kind (T:=.type "list") h2' (hT _ kp) (by decide) (by decide) ?_)
  have hal:=Be (n:=vs.length) (by omega)
  have ask:(kas_sort vs.length).kasWp (kas_ask prog w A oneType' vs) (λp s'=>p=uI lt (kas_sort vs.length)∧s'={ s with heap:=((s.heap.update a (Obj.mapSeq λ_=>#[])).push (seqObj "tuple" vs.toArray 0)).push (seqObj "list" #[] 0) }) { s with heap:=((s.heap.update a (Obj.mapSeq λ_=>#[])).push (seqObj "tuple" vs.toArray 0)).push (seqObj "list" #[] 0) } :=
   Al.wp (lt:=lt) (λi j C hi hj q=>hc _ kp i j C hi hj q) hal ⟨rfl,rfl⟩
  rw[kas_ask_eq] at ask
  have est:SortSt.mk' oneType' (vs.toArray.zip vs.toArray) #[] 7 none=kas_st oneType' (pairsOf vs) (List.toArray (List.range vs.length)):=by
   have e:=kas_range (pairsOf vs)
   rw[pairsOf_size] at e
   show SortSt.mk' oneType' (pairsOf vs) #[] 7 none=SortSt.mk' oneType' ((List.toArray (List.range vs.length)).map (kas_item (pairsOf vs))) #[] 7 none
   rw[e]
  have run:=kas_runs (E:=E) (Q:=λ_ st' s'=>∃p:Array Nat,p.size=vs.length∧arrOf st'=p.map (kas_item (pairsOf vs))∧failedOf st'=none∧p=uI lt (kas_sort vs.length)∧s'={ s with heap:=((s.heap.update a (Obj.mapSeq λ_=>#[])).push (seqObj "tuple" vs.toArray 0)).push (seqObj "list" #[] 0) })
   h2' h64 (λp' st' s' a1 a2 a3 a4=>⟨p',a1,a2,a3,a4⟩) ask
  rw[← est] at run
  refine wpAny_bind (wpAny_mono run ?_ λ_ _ e=>e)
  rintro⟨⟨⟩,st'⟩ s' ⟨p,hp,har,hf,hpe,rfl⟩
  dsimp only
  have Lb:(arrOf st').map (·.2)=(o9 vs lt).toArray:=by
   apply Array.toList_inj.mp
   rw[har,Array.map_map,Array.toList_map]
   unfold o9 tJ
   rw[if_neg (by omega),hpe]
   exact List.map_congr_left λi _=>by show (kas_item (pairsOf vs) i).2=_;rw[kas_item_eq]
  have hsz2:(o9 vs lt).length=vs.length:=by unfold o9;rw[List.length_map,(gC _ _).length_eq,List.length_range]
  refine wpAny_bind (seqEpoch_at ho6 rfl ?_)
  rw[Lb]
  refine wpAny_bind (listUpdate_at ho6 rfl ?_ (hsz2:=by rw[List.size_toArray,hsz2,sizeLine_eq];omega))
  rw[hf]
  simp only[bne_self_eq_false,Bool.false_eq_true,if_false]
  exact wpAny_pure h
end
end HT
namespace Fw
open PySem
def pN:List T→Option (List (List Int))
 | []=>some []
 | .lst us::ts=>(ed us).bind λns=>(pN ts).map (ns::·)
 | _::_=>none
def ltN(nss:List (List Int))(i j:Nat):Bool:=HT.lexLt (nss.getD i []) (nss.getD j [])
def o_{α:Type}(xs:List α)(d:α)(nss:List (List Int)):List α:=(HT.tJ xs.length (ltN nss)).map λi=>xs.getD i d
def gU:T→Option T
 | .lst ts=>(pN ts).bind λnss=>if ts.length<64 then some (.lst (o_ ts .non nss)) else none
 | _=>none
def oh:T→Option T
 | .tup ts=>(ed ts).bind λns=>if ns.length<64 then some (.lst ((rg ns).map T.int)) else none
 | _=>none
end Fw
namespace HT
open PySem PySem.W PySem.Calls PyProof.Rows
section
variable{prog:Program}{w:World}{A:Around}{E:Value→Shared→Prop}{s:Shared}
theorem vO{l:Addr}{vs:List Value}{Q:Value→Shared→Prop}(lt:Nat→Nat→Bool)(hl:s.heap.IsList l vs.toArray)(h64:vs.length<64)
  (hT:∀h':Heap,(∀b o,s.heap.get? b=some o→h'.get? b=some o)→∀v∈vs,Looks (model prog w) h' (typeOf v) (.type "list"))
  (hc:∀h':Heap,(∀b o,s.heap.get? b=some o→h'.get? b=some o)→∀i j C,i<vs.length→j<vs.length→C (lt i j) { s with heap:=h' }→wpAny (model prog w) A.in1.in1 (keyLt' oneType' (vs.getD i .none) (vs.getD j .none)) C (λ_ _=>False) { s with heap:=h' })
  (h:Q (.ref (s.heap.objs.size+1)) { s with heap:=sortedAll s.heap vs (o9 vs lt).toArray }) :
  wpAny (model prog w) A (call (.builtin "sorted") [.ref l]) Q E s:=by
 refine Calls.call_function_entry kind_sorted plain_sorted entry_sorted (args_sorted1 _) ?_
 unfold Builtin.«sorted»
 refine wpAny_bind (m:=checkCount "sorted" 1 1 _) (wpAny_pure ?_)
 refine wpAny_bind (collect_list hl ?_)
 refine wpAny_bind (wpAny_newList ?_)
 have hsz:((s.heap.push (seqObj "list" #[] 0)).update s.heap.objs.size (Obj.mapSeq (·++vs.toArray))).objs.size=s.heap.objs.size+1:=by
  rw[Heap.size_update,size_push']
 have hoL:(((s.heap.push (seqObj "list" #[] 0)).update s.heap.objs.size (Obj.mapSeq (·++vs.toArray))).push (seqObj "list" vs.toArray 0)).get? (s.heap.objs.size+1)=some (seqObj "list" vs.toArray 0):=by
  rw[← hsz];exact Heap.get?_push_size _ rfl
 have keep:∀b o,s.heap.get? b=some o→b≠s.heap.objs.size+1∧(((s.heap.push (seqObj "list" #[] 0)).update s.heap.objs.size (Obj.mapSeq (·++vs.toArray))).push (seqObj "list" vs.toArray 0)).get? b=some o:=λb o q=>by
  have hlt:b<s.heap.objs.size:=Heap.lt_size q
  refine⟨Nat.ne_of_lt (Nat.lt_succ_of_lt hlt),?_⟩
  rw[Heap.get?_push_ne _ _ _ (by rw[hsz];exact Nat.ne_of_lt (Nat.lt_succ_of_lt hlt)),Heap.get?_update_ne _ _ _ _ (Nat.ne_of_lt hlt),Heap.get?_push_ne _ _ _ (Nat.ne_of_lt hlt)]
  exact q
 show wpAny _ _ _ _ _ { s with heap:=((s.heap.push (seqObj "list" #[] 0)).update s.heap.objs.size (Obj.mapSeq (·++vs.toArray))).push (seqObj "list" vs.toArray 0) }
 rw[hsz]
 refine wpAny_bind (wpAny_holding (wpAny_call_entry slot_list_sort ⟨_,hoL,rfl⟩ entry_list_sort (pV (s:={ s with heap:=((s.heap.push (seqObj "list" #[] 0)).update s.heap.objs.size (Obj.mapSeq (·++vs.toArray))).push (seqObj "list" vs.toArray 0) }) lt hoL h64 (λh' kp=>hT h' λb o q=>kp b o (keep b o q).1 (keep b o q).2) (λh' kp i j C hi hj q=>hc h' (λb o e=>kp b o (keep b o e).1 (keep b o e).2) i j C hi hj q) ⟨_,rfl,?_⟩) (args_list_sort _)))
 exact wpAny_pure ⟨_,rfl,h⟩
end
end HT
namespace L2
open PySem PySem.Spec PyProof.Rows Fw
section
variable{X:Cx}
def LsI(K:PySem.W.Frag)(H:Hp):List V→List (List Int)→Prop
 | [],[]=>True
 | v::vs,ns::nss=>(∃a,v=.ref a∧SqL K H a (ns.map V.int))∧LsI K H vs nss
 | _,_=>False
theorem LsI.len{K:PySem.W.Frag}{H:Hp}:∀{vs:List V}{nss:List (List Int)},LsI K H vs nss→vs.length=nss.length
 | [],[],_=>rfl
 | _::_,_::_,h=>by rw[List.length_cons,List.length_cons,LsI.len h.2]
theorem LsI.at{K:PySem.W.Frag}{H:Hp}:∀{vs:List V}{nss:List (List Int)} (i:Nat),LsI K H vs nss→i<vs.length→∃a,vs[i]?=some (.ref a)∧SqL K H a ((nss.getD i []).map V.int)
 | _::_,_::_,0,h,_=>by obtain⟨a,rfl,q⟩:=h.1;exact⟨a,rfl,q⟩
 | _::_,_::_,i+1,h,hi=>by
  obtain⟨a,h1,h2⟩:=LsI.at i h.2 (by simpa using hi)
  exact⟨a,h1,h2⟩
theorem EY{xs:List V}{us:List Value}(r:Vals xs us)(ps:List Nat)(hp:∀i∈ps,i<xs.length):Vals (ps.map λi=>xs.getD i .non) (ps.map λi=>us.getD i .none):=by
 induction ps with
 | nil=>exact .nil
 | cons i ps ih =>
  refine .cons ?_ (ih λj hj=>hp j (.tail _ hj))
  have hi:=hp i (.head _)
  have hu:i<us.length:=by rw[← r.length];exact hi
  obtain⟨u,h1,h2⟩:=r.get (List.getElem?_eq_getElem hi)
  show RelV (xs.getD i .non) (us.getD i .none)
  rw[List.getD_eq_getElem?_getD,List.getElem?_eq_getElem hi,Option.getD_some,List.getD_eq_getElem?_getD,h1,Option.getD_some]
  exact h2
theorem Bf{n:Nat}{lt:Nat→Nat→Bool}:∀i∈HT.tJ n lt,i<n:=λi hi=>List.mem_range.mp ((HT.gC n lt).mem_iff.mp hi)
theorem vP(hu:X.A.units+2<cLine):eP X (.builtin "sorted") (λxs H Q=>∃(p:Addr) (vs:List V) (nss:List (List Int)),xs=[.ref p]∧SqL X.K H p vs∧LsI X.K H vs nss∧vs.length<64∧∀q,H q=none→Q (.ref q) (upd H q (.lst (o_ vs .non nss)))):=by
 intro pins s σ H xs us Q I r h
 obtain⟨p,vs,nss,rfl,hq,hI,hlt,q⟩:=h
 obtain⟨u,rfl,ru⟩:=vals1 r
 cases ru
 obtain⟨its,rv,pl,hz⟩:=I.list hq
 have hl:=rv.length
 have hat:∀i,i<its.length→∃a items,its.getD i .none=.ref a∧s.heap.IsList a items∧IntsAre items.toList (nss.getD i []):=λi hi=>by
  obtain⟨a,h1,h2⟩:=hI.at i (by omega)
  obtain⟨u,h3,h4⟩:=rv.get h1
  cases h4
  obtain⟨qv,rv2,pl2,_⟩:=I.list h2
  refine⟨a,qv.toArray,?_,pl2.isList,by simpa using intsAre_of rv2⟩
  rw[List.getD_eq_getElem?_getD,h3];rfl
 have EZ:∀(h':Heap) (a:Addr) (items:Array Value),(∀b o,s.heap.get? b=some o→h'.get? b=some o)→s.heap.IsList a items→h'.IsList a items:=λh' a items kp ⟨o,e,z⟩=>⟨o,kp _ _ e,z⟩
 refine HT.vO (ltN nss) pl.isList (by omega) (λh' kp v hv=>?_) (λh' kp i j C hi hj hC=>?_) ?_
 ·obtain⟨i,hi,rfl⟩:=List.getElem_of_mem hv
  obtain⟨a,items,e1,e2,e3⟩:=hat i hi
  rw[List.getD_eq_getElem?_getD,List.getElem?_eq_getElem hi,Option.getD_some] at e1
  rw[e1]
  obtain⟨o,ho,hc,_⟩:=EZ h' a items kp e2
  rw[← hc]
  exact (PySem.W.Looks.ld ho).andThen .now
 ·obtain⟨a,items,e1,e2,e3⟩:=hat i hi
  obtain⟨b,cJ,f1,f2,f3⟩:=hat j hj
  rw[e1,f1,keyLt'_oneType]
  exact HT.zl (s:={ s with heap:=h' }) (EZ h' a items kp e2) (EZ h' b cJ kp f2) e3 f3 (by show X.A.units+1+1<cLine;omega) hC
 have hv:=EY rv (HT.tJ its.length (ltN nss)) (λi hi=>by have:=Bf i hi;omega)
 have keep:∀b o,s.heap.get? b=some o→(sortedAll s.heap its (HT.o9 its (ltN nss)).toArray).get? b=some o:=λb o e=>by
  have hb:=Heap.lt_size e
  have n1:s.heap.objs.size≠b:=Nat.ne_of_gt hb
  have n2:s.heap.objs.size+1≠b:=Nat.ne_of_gt (Nat.lt_succ_of_lt hb)
  unfold sortedAll sortedHeap
  rw[Heap.get?_update_other _ _ n2]
  refine Heap.get?_push_of_some _ (Heap.get?_push_of_some _ ?_)
  rw[Heap.get?_update_other _ _ n2]
  refine Heap.get?_push_of_some _ ?_
  rw[Heap.get?_update_other _ _ n1]
  exact Heap.get?_push_of_some _ e
 have hsz:((s.heap.push (seqObj "list" #[] 0)).update s.heap.objs.size (Obj.mapSeq (·++its.toArray))).objs.size=s.heap.objs.size+1:=by
  rw[Heap.size_update,Heap.size_push]
 have new:∃c,(sortedAll s.heap its (HT.o9 its (ltN nss)).toArray).get? (s.heap.objs.size+1)=some { cls:=.type "list",data:=.seq (HT.o9 its (ltN nss)).toArray c }:=by
  have h1:(((s.heap.push (seqObj "list" #[] 0)).update s.heap.objs.size (Obj.mapSeq (·++its.toArray))).push (seqObj "list" its.toArray 0)).get? (s.heap.objs.size+1)=some (seqObj "list" its.toArray 0):=by
   rw[← hsz];exact Heap.get?_push_size _ rfl
  have h2:=Heap.get?_update_self (Obj.mapSeq λ_=>(#[]:Array Value)) h1 rfl
  have h3:=Heap.get?_push_of_some (seqObj "list" #[] 0) (Heap.get?_push_of_some (seqObj "tuple" its.toArray 0) h2)
  have h4:=Heap.get?_update_self (Obj.mapSeq λ_=>(HT.o9 its (ltN nss)).toArray) h3 rfl
  exact⟨_,h4⟩
 obtain⟨c,hc⟩:=new
 have hle:s.heap.objs.size≤s.heap.objs.size+1:=Nat.le_succ _
 have es:o_ vs .non nss=(HT.tJ its.length (ltN nss)).map λi=>vs.getD i .non:=by unfold o_;rw[hl]
 refine⟨.ref (s.heap.objs.size+1),_,I.laid (a:=s.heap.objs.size+1) (o:=.lst (o_ vs .non nss)) (t':=s.toks) keep hle ⟨?_,(HT.o9 its (ltN nss)),c,?_,hc⟩,rfl,q _ (I.hok.fresh hle)⟩
 ·rw[es,List.length_map,(HT.gC _ _).length_eq,List.length_range,← hl];exact hz
 ·rw[es];exact hv
end
end L2
namespace Fw
open PySem PySem.Spec PyProof.Rows L2
section
variable{K:PySem.W.Frag}{F H:Hp}
theorem E1(s:aT F H):∀{ts:List T}{vs:List V}{nss:List (List Int)},aA K F ts vs→pN ts=some nss→LsI K H vs nss
 | [],vs,nss,r,h=>by
  rw[aA] at r
  subst r
  cases h
  exact trivial
 | t::ts,vs,nss,r,h=>by
  rw[aA] at r
  obtain⟨v,vs',rfl,r1,r2⟩:=r
  cases t with
  | lst us =>
   obtain⟨ns,h1,h2⟩:=Option.bind_eq_some_iff.mp (show (ed us).bind (λns=>(pN ts).map (ns::·))=some nss from h)
   obtain⟨Uh,h3,rfl⟩:=Option.map_eq_some_iff.mp h2
   rw[Rep] at r1
   obtain⟨a,ws,rfl,q,rw_⟩:=r1
   have e:=rw_.ints h1
   subst e
   exact⟨⟨a,rfl,aT.seq s q⟩,E1 s r2 h3⟩
  | _=>cases h
theorem Bg{ts:List T}{vs:List V}(r:aA K F ts vs):∀(ps:List Nat),(∀i∈ps,i<ts.length)→aA K F (ps.map λi=>ts.getD i .non) (ps.map λi=>vs.getD i .non)
 | [],_=>aA.kU
 | i::ps,hp=>by
  have hi:=hp i (.head _)
  obtain⟨v,h1,h2⟩:=r.get (List.getElem?_eq_getElem hi)
  refine aA.fL ?_ (Bg r ps λj hj=>hp j (.tail _ hj))
  show Rep K F (ts.getD i .non) (vs.getD i .non)
  rw[List.getD_eq_getElem?_getD,List.getElem?_eq_getElem hi,Option.getD_some,List.getD_eq_getElem?_getD,h1,Option.getD_some]
  exact h2
end
section
variable{X:Cx}{a:Expr}{da:D}{p pos:Pos}{k:Nat}
theorem rM(hr:cM k X.A)(hm:X.mg "sorted"=none)(ha:CE X a da)(hg:Gl X "sorted":=by rfl)(hs1:starEach [a] X.env=(false,eval a X.env)::starEach [] X.env:=by rfl)(hpl:(backTo pos (starEach [] X.env)).any (·.1)=false:=by rfl) :
  CF X (.Call (.Name "sorted" p) [a] [] pos) (dUn gU da) :=
 ⟨PE.imp (nJ (vP (by have:=hr.units;omega)) hg hm (by decide +kernel) (ah ha aw hs1) (by decide) (by decide) hs1 hpl) (D3 (by
 intro F H v t w Q s hv hw q
 cases t with
 | lst ts =>
  obtain⟨nss,h1,h2⟩:=Option.bind_eq_some_iff.mp (show ((pN ts).bind λnss=>if ts.length<64 then some (T.lst (o_ ts .non nss)) else none)=some w from hw)
  obtain⟨a,vs,rfl,hq,hl⟩:=hv.ng
  have ll:=hl.length
  by_cases hlt:ts.length<64
  ·rw[if_pos hlt] at h2
   cases h2
   refine⟨a,vs,nss,rfl,hq,E1 s hl h1,by omega,λp hp=>?_⟩
   have e:o_ vs .non nss=(HT.tJ ts.length (ltN nss)).map λi=>vs.getD i .non:=by unfold o_;rw[ll]
   rw[e]
   exact q p _ hp ⟨_,aB,Bg hl _ λi hi=>Bf i hi⟩
  ·rw[if_neg hlt] at h2;cases h2
 | _=>cases hw)),λ_ _ _ _ h=>AW h⟩
end
end Fw
namespace Fw
open PySem
end Fw
namespace Fw
open PySem PySem.Spec PyProof.Rows L2
section
variable{K:PySem.W.Frag}{F H:Hp}{α:List Addr}{μ:af}
end
section
variable{X:Cx}{a b:Expr}{da db:D}{pos:Pos}{k:Nat}
end
section
variable{X:Cx}{body:List Stmt}{it:Expr}{dv:D}{d:DS}{pos np:Pos}
end
end Fw
namespace HT
open PySem PySem.Calls PyProof.Rows
section
variable{prog:Program}{w:World}{A:Around}{E:Value→Shared→Prop}{s:Shared}
theorem xM{l:Addr}{vs:List Value}{Q:List Value→Shared→Prop}(hl:IsTup s.heap l vs.toArray)
  (h:Q vs { s with heap:=(s.heap.push (seqObj "list" #[] 0)).update s.heap.objs.size (Obj.mapSeq (·++vs.toArray)) }) (hsz:vs.length≤sizeLine:=by size_fits) :
  wpAny (model prog w) A (collect (.ref l)) Q E s:=by
 obtain⟨o,ho,hc,n,hd⟩:=id hl
 unfold collect
 refine wpAny_bind (wpAny_runValue (codeAny_builtin entry_proto_collect' ?_))
 show wpAny _ _ (do again (.builtin "list.__iadd__" ⟨[← newList [],.ref l],[]⟩)) _ _ s
 refine wpAny_bind (wpAny_newList (wpAny_pure ⟨Code.quiet_builtin _ (by decide +kernel),codeAny_builtin entry_list_iadd' ?_⟩))
 show wpAny _ _ (Builtin.List.listExtendWith (.ref s.heap.objs.size) (.ref l) (.ref s.heap.objs.size)) _ _ { s with heap:=s.heap.push (seqObj "list" #[] 0) }
 unfold Builtin.List.listExtendWith
 have ho':(s.heap.push (seqObj "list" #[] 0)).get? l=some o:=Heap.get?_push_of_some _ ho
 refine wpAny_bind (wpAny_typeOf (T:="tuple") ⟨o,ho',hc⟩ ?_)
 have ht:(Value.type "tuple"==Value.type "tuple")=true:=by rfl
 rw[if_pos (by rw[ht];simp)]
 refine wpAny_bind (listItems_at ho' hd ?_)
 refine wpAny_bind (listItems_at (xs:=#[]) (n:=0) (Heap.get?_push_size _ rfl) rfl ?_)
 rw[if_neg (by simp)]
 refine wpAny_bind (listUpdate_at (xs:=#[]) (n:=0) (Heap.get?_push_size _ rfl) rfl ?_ (Nat.zero_le _) (by show (#[]++vs.toArray).size≤sizeLine+1;simp only[Array.size_append,List.size_toArray,List.length_nil];omega))
 refine wpAny_pure ?_
 show wpAny (model prog w) A (do
   let o ← load s.heap.objs.size
   match o.data with
   | .seq xs _=>pure xs.toList
   | _=>unsupported "internal:collect") Q E { s with heap:=(s.heap.push (seqObj "list" #[] 0)).update s.heap.objs.size (Obj.mapSeq (·++vs.toArray)) }
 refine wpAny_bind (wpAny_load (get?_update_seq (Heap.get?_push_size _ rfl) _) ?_)
 show wpAny _ _ (pure ((#[]:Array Value)++vs.toArray).toList) Q E _
 rw[show ((#[]:Array Value)++vs.toArray).toList=vs by simp]
 exact wpAny_pure h
theorem zo{l:Addr}{vs:List Value}{ns:List Int}{Q:Value→Shared→Prop}(hl:IsTup s.heap l vs.toArray)(hI:IntsAre vs ns)(h64:vs.length<64)
  (h:∀(out:Array Value) (ns':List Int),IntsAre out.toList ns'→ns'.Perm ns→ns'.Pairwise (·≤·)→Q (.ref (s.heap.objs.size+1)) { s with heap:=sortedAll s.heap vs out }) :
  wpAny (model prog w) A (call (.builtin "sorted") [.ref l]) Q E s:=by
 refine Calls.call_function_entry kind_sorted plain_sorted entry_sorted (args_sorted1 _) ?_
 unfold Builtin.«sorted»
 refine wpAny_bind (m:=checkCount "sorted" 1 1 _) (wpAny_pure ?_)
 refine wpAny_bind (xM hl ?_)
 refine wpAny_bind (wpAny_newList ?_)
 have hsz:((s.heap.push (seqObj "list" #[] 0)).update s.heap.objs.size (Obj.mapSeq (·++vs.toArray))).objs.size=s.heap.objs.size+1:=by
  rw[Heap.size_update,size_push']
 have hoL:(((s.heap.push (seqObj "list" #[] 0)).update s.heap.objs.size (Obj.mapSeq (·++vs.toArray))).push (seqObj "list" vs.toArray 0)).get? (s.heap.objs.size+1)=some (seqObj "list" vs.toArray 0):=by
  rw[← hsz];exact Heap.get?_push_size _ rfl
 show wpAny _ _ _ _ _ { s with heap:=((s.heap.push (seqObj "list" #[] 0)).update s.heap.objs.size (Obj.mapSeq (·++vs.toArray))).push (seqObj "list" vs.toArray 0) }
 rw[hsz]
 refine wpAny_bind (wpAny_holding (wpAny_call_entry slot_list_sort ⟨_,hoL,rfl⟩ entry_list_sort (list_sort_tree hoL hI h64 λout ns' a1 a2 a3=>⟨_,rfl,?_⟩) (args_list_sort _)))
 exact wpAny_pure ⟨_,rfl,h out ns' a1 a2 a3⟩
end
end HT
namespace L2
open PySem PySem.Spec PyProof.Rows Fw
section
variable{X:Cx}
theorem vQ:eP X (.builtin "sorted") (λxs H Q=>∃(p:Addr) (ns:List Int),xs=[.ref p]∧SqT X.K H p (ns.map V.int)∧ns.length<64∧∀q,H q=none→Q (.ref q) (upd H q (.lst ((rg ns).map V.int)))):=by
 intro pins s σ H xs us Q I r h
 obtain⟨p,ns,rfl,hq,hlt,q⟩:=h
 obtain⟨u,rfl,ru⟩:=vals1 r
 cases ru
 obtain⟨its,rv,pl,hz⟩:=I.tuple hq
 have hi:IntsAre its ns:=intsAre_of rv
 have hl:=rv.length
 rw[List.length_map] at hl hz
 refine HT.zo pl hi (by omega) λout ns' a1 a2 a3=>?_
 have e:ns'=rg ns:=HM a2 a3
 subst e
 have hv:=og a1
 have hsz:((s.heap.push (seqObj "list" #[] 0)).update s.heap.objs.size (Obj.mapSeq (·++its.toArray))).objs.size=s.heap.objs.size+1:=by
  rw[Heap.size_update,Heap.size_push]
 have keep:∀b o,s.heap.get? b=some o→(sortedAll s.heap its out).get? b=some o:=λb o e=>by
  have hb:=Heap.lt_size e
  have n1:s.heap.objs.size≠b:=Nat.ne_of_gt hb
  have n2:s.heap.objs.size+1≠b:=Nat.ne_of_gt (Nat.lt_succ_of_lt hb)
  unfold sortedAll sortedHeap
  rw[Heap.get?_update_other _ _ n2]
  refine Heap.get?_push_of_some _ (Heap.get?_push_of_some _ ?_)
  rw[Heap.get?_update_other _ _ n2]
  refine Heap.get?_push_of_some _ ?_
  rw[Heap.get?_update_other _ _ n1]
  exact Heap.get?_push_of_some _ e
 have new:∃c,(sortedAll s.heap its out).get? (s.heap.objs.size+1)=some { cls:=.type "list",data:=.seq out c }:=by
  have h1:(((s.heap.push (seqObj "list" #[] 0)).update s.heap.objs.size (Obj.mapSeq (·++its.toArray))).push (seqObj "list" its.toArray 0)).get? (s.heap.objs.size+1)=some (seqObj "list" its.toArray 0):=by
   rw[← hsz];exact Heap.get?_push_size _ rfl
  have h2:=Heap.get?_update_self (Obj.mapSeq λ_=>(#[]:Array Value)) h1 rfl
  have h3:=Heap.get?_push_of_some (seqObj "list" #[] 0) (Heap.get?_push_of_some (seqObj "tuple" its.toArray 0) h2)
  have h4:=Heap.get?_update_self (Obj.mapSeq λ_=>out) h3 rfl
  exact⟨_,h4⟩
 obtain⟨c,hc⟩:=new
 have hle:s.heap.objs.size≤s.heap.objs.size+1:=Nat.le_succ _
 refine⟨.ref (s.heap.objs.size+1),_,I.laid (a:=s.heap.objs.size+1) (o:=.lst ((rg ns).map V.int)) (t':=s.toks) keep hle ⟨?_,out.toList,c,hv,?_⟩,rfl,q _ (I.hok.fresh hle)⟩
 ·rw[List.length_map,(mC ns).length_eq];exact hz
 ·simpa using hc
end
end L2
namespace Fw
open PySem PySem.Spec PyProof.Rows L2
section
variable{X:Cx}{a:Expr}{da:D}{p pos:Pos}
theorem zp(hm:X.mg "sorted"=none)(ha:CE X a da)(hg:Gl X "sorted":=by rfl)(hs1:starEach [a] X.env=(false,eval a X.env)::starEach [] X.env:=by rfl)(hpl:(backTo pos (starEach [] X.env)).any (·.1)=false:=by rfl) :
  CE X (.Call (.Name "sorted" p) [a] [] pos) (dUn oh da):=qh vQ (by
 intro F H v t w Q s hv hw q
 cases t with
 | tup ts =>
  obtain⟨ns,h1,h2⟩:=Option.bind_eq_some_iff.mp (show ((ed ts).bind λns=>if ns.length<64 then some (T.lst ((rg ns).map T.int)) else none)=some w from hw)
  obtain⟨a,vs,rfl,hq,hl⟩:=hv.pU
  have e:=hl.ints h1
  subst e
  by_cases hlt:ns.length<64
  ·rw[if_pos hlt] at h2
   cases h2
   exact⟨a,ns,rfl,aT.jx s hq,hlt,λp hp=>vy s hp (aA.qf _) q⟩
  ·rw[if_neg hlt] at h2;cases h2
 | _=>cases hw) hm (by decide +kernel) ha hg (by decide) (by decide) hs1 hpl
end
end Fw
namespace Fw
open PySem
def rN(kts:List (Key×T)):List T:=kts.map λp=>vi p.1
def rO(d:D):DI:=λe μ=>(d e μ).bind λx μ1=>(R.lift ((rd μ1 x).bind asD) μ1).bind λkts μ1=>.ok ⟨rN kts,λμ'=>rd μ' x=rd μ1 x⟩ μ1
theorem Cr(d:D)(e:Slots)(μ:af):rO d e μ=(d e μ).bind λx μ1=>(R.lift ((rd μ1 x).bind asD) μ1).bind λkts μ1=>.ok ⟨rN kts,λμ'=>rd μ' x=rd μ1 x⟩ μ1:=(rfl)
def Li:T→Option Bool
 | .bl b=>some b
 | _=>none
def hitsD(b:List (Key×T)):List (Key×T)→Option Bool
 | []=>some true
 | (k,t)::r=>(Li t).bind λx=>match lK b k with
  | none=>some false
  | some u=>(Li u).bind λy=>(hitsD b r).map λc=>(x==y) && c
def xN:T→T→Option T
 | .dct a,.dct b=>(hitsD b a).map λc=>.bl (!(a.length==b.length && c))
 | _,_=>none
end Fw
namespace L2
open PySem PySem.Spec PyProof.Rows
def Lj(d:Addr)(n:Nat):It :=
 ⟨λi H=>∃kvs p,H d=some (.dK kvs)∧kvs.length=n∧kvs[i]?=some p,
  λi H v H'=>H'=H∧∃p,v=kV p.1∧∀kvs,H d=some (.dK kvs)→kvs[i]?=some p,
  λi H=>∃kvs,H d=some (.dK kvs)∧kvs.length=n∧n≤i⟩
theorem zq{P:Program}{w:World}{K:PySem.W.Frag}{tg:Expr}{it d:Addr}{n:Nat}:Turn P w K tg (Lj d n) [it] it (λi h=>h.IsKeyIter it d i n n) where
 mem:=by simp
 obj:=λi h st b hb=>by
  have e:b=it:=by simpa using hb
  subst e
  obtain⟨o,e,c,d⟩:=st
  exact⟨o,e,λv z=>by rw[d] at z;cases z⟩
 keep:=λi h h' st k=>st.at λo e=>k it (by simp) o e
 item:=by
  intro X hP hw hK hc i pins s σ H E I hf st hg
  subst hP hw hK
  obtain⟨kvs,p,hd,hn,hp⟩:=hg
  obtain⟨z,hS,vs,rel,dd⟩:=pJ I.hok (.inl hd)
  have hl:=rel.length
  obtain⟨u,hu,ru⟩:=rel.get hp
  have en:n=vs.length:=by omega
  subst en
  obtain⟨f0,f1,f2,f3,f4,f5⟩:=hf it (by simp)
  refine wpAny_pyNext_dict_item st dd hu λkey h' hk st' sb=>?_
  have I1:Inv X pins σ H { s with heap:=h' }:=I.turned (t':=s.toks) (λb o hb e=>(sb.2 b hb).trans e) f0 f1 f3 f4 f5
  obtain⟨o',e,c,d'⟩:=id st'
  exact⟨key,rfl,wW (s:={ s with heap:=h' }) e c d' (by decide) ⟨kV p.1,H,I1,EF hk,⟨rfl,p,rfl,λws hw=>by rw[hd] at hw;cases hw;exact hp⟩,st',λb hb=>(hf b hb).1⟩⟩
 done:=by
  intro X hP hw hK hc i pins s σ H E I hf st hg
  subst hP hw hK
  obtain⟨kvs,hd,hn,hle⟩:=hg
  obtain⟨z,hS,vs,rel,dd⟩:=pJ I.hok (.inl hd)
  have hl:=rel.length
  have en:n=vs.length:=by omega
  subst en
  obtain⟨f0,f1,f2,f3,f4,f5⟩:=hf it (by simp)
  exact wpAny_pyNext_dict_end (I.ok.hd hc) st dd (List.getElem?_eq_none (by omega)) λh' eb=>⟨rfl,I.turned (t':=s.toks) (λb o hb e=>eb b o hb e) f0 f1 f3 f4 f5⟩
 self:=λ_ _ _ _ _ st h=>wpAny_pyIter_keyiter st h
def Ir(tl:TE):TI:=λσ H R=>tl σ H λx H1=>∃d kvs,x=.ref d∧H1 d=some (.dK kvs)∧R (Lj d kvs.length) H1
theorem E2{X:Cx}{tg l:Expr}{tl:TE}(hl:PE X l tl):PI X tg l (Ir tl):=by
 intro pins s σ H R I h
 refine thn (hl pins s σ H _ I h) λv s1 ao=>?_
 obtain⟨x,H1,I1,r1,q1⟩:=ao
 obtain⟨d,kvs,e,hd,q⟩:=q1
 subst e
 cases r1
 obtain⟨z,hS,vs,rel,dd⟩:=pJ I1.hok (.inl hd)
 have hl:=rel.length
 refine wpAny_pyIter_dict hS dd ?_
 refine⟨s1.heap.objs.size,[s1.heap.objs.size],_,Lj d kvs.length,H1,rfl,I1.kept (t':=s1.toks) λb o e=>Heap.get?_push_of_some _ e,zq,⟨_,Heap.get?_push_size _ rfl,rfl,by rw[hl];rfl⟩,λb hb=>?_,q⟩
 have e:b=s1.heap.objs.size:=by simpa using hb
 subst e
 exact I1.u0 (Nat.le_refl _) (I1.hok.fresh (Nat.le_refl _))
end L2
namespace Fw
open PySem PySem.Spec PyProof.Rows L2
section
variable{X:Cx}{a b:Expr}{da db:D}{pos:Pos}{k:Nat}
theorem E3{tg:Expr}(ha:CE X a da):CI X tg a (rO da) :=
 PI.imp (E2 ha) λσ H R0 ao=>by
  obtain⟨F,α,e,μ,S,h⟩:=ao
  refine⟨F,α,e,μ,S,(R.wp_bind h).mono (λx μ1 h v H1 F1 α1 x1 S1 o1=>?_) λ_ _ h=>h⟩
  obtain⟨kts,ht,post⟩:=R.bz (R.wp_bind h)
  obtain⟨t,hr,ht⟩:=Option.bind_eq_some_iff.mp ht
  have n1:=bf S1.st o1 hr
  cases t with
  | dct us =>
   cases ht
   obtain⟨d,kvs,rfl,hq,hl⟩:=n1
   have hlen:=hl.length
   refine⟨d,kvs,rfl,hq,post _ H1 F1 α1 x1 S1 λF2 α2 μ2 H2 s2 p2 S2 same=>?_⟩
   obtain⟨d',kT,e1,hq2,hl2⟩:=bf S2 (o1.mono s2 p2) ((show rd μ2 x=rd μ1 x from same).trans hr)
   cases e1
   have EH:=hl2.length
   refine⟨λi t hi=>?_,⟨kT,hq2,by omega,?_⟩⟩
   ·unfold rN at hi
    rw[List.getElem?_map] at hi
    obtain⟨p,hp,rfl⟩:=Option.map_eq_some_iff.mp hi
    obtain⟨v,hv,rv⟩:=hl2.get hp
    refine⟨⟨kT,(p.1,v),hq2,by omega,hv⟩,?_⟩
    rintro z H3 ⟨rfl,p',rfl,f⟩
    have w1:=f kT hq2
    rw[hv] at w1
    cases w1
    exact⟨F2,bL.refl,vL p.1⟩
   ·show kvs.length≤(rN kts).length
    unfold rN
    rw[List.length_map]
    omega
  | _=>cases ht
end
inductive pO(kb:List (Key×V)):List (Key×V)→Bool→Prop
 | nil:pO kb [] true
 | miss {k:Key}{v:V}{r:List (Key×V)}:lg kb k=none→pO kb ((k,v)::r) false
 | hit {k:Key}{x y:Bool}{r:List (Key×V)}{c:Bool}:lg kb k=some (.bl y)→pO kb r c→pO kb ((k,.bl x)::r) ((x==y) && c)
theorem pO.keq{A:Around}{s:Shared}{kb:List (Key×V)}{kb':List (Key×Value)}(rb:KV kb kb'){ka:List (Key×V)}{c:Bool}(h:pO kb ka c):∀{ka':List (Key×Value)},KV ka ka'→PySem.W.KeqHits A s kb' ka' c:=by
 induction h with
 | nil=>intro ka' r;cases r;exact .nil
 | @miss k v r hn =>
  intro ka' q
  cases q with
  | @cons _ p _ _ h1 t =>
   obtain⟨k',v'⟩:=p
   obtain⟨e,_⟩:=h1
   have e:k=k':=e
   subst e
   exact .miss (mI.none_of (by rw[← hn];exact rb.val k))
 | @hit k x y r c hy _ ih =>
  intro ka' q
  cases q with
  | @cons _ p _ _ h1 t =>
   obtain⟨k',v'⟩:=p
   obtain⟨e,rv⟩:=h1
   have e:k=k':=e
   subst e
   have rv:RelV (.bl x) v':=rv
   cases rv
   obtain⟨w',hw,rw'⟩:=mI.some_of (v:=V.bl y) (o:=valueAt kb' k) (by rw[← hy];exact rb.val k)
   cases rw'
   exact .hit hw (SeqAt.EqAt.bool_bool x y) (ih t)
def Jp:R2:=λx y H Q=>∃a b ka kb,x=.ref a∧y=.ref b∧H a=some (.dK ka)∧H b=some (.dK kb)∧∃c,pO kb ka c∧Q (.bl (!(ka.length==kb.length && c))) H
section
variable{X:Cx}{a b:Expr}{da db:D}{pos:Pos}{k:Nat}
theorem Iu(hr:cM k X.A):OpR X (compareOp .NotEq) Jp:=by
 intro pins s σ H x y v u Q I rx ry h
 obtain⟨a,b,ka,kb,rfl,rfl,h1,h2,c,hc,q⟩:=h
 cases rx
 cases ry
 obtain⟨_,sa,va,ra,da⟩:=Jh I.hok h1
 obtain⟨_,sb,vb,rb,db⟩:=Jh I.hok h2
 refine PySem.W.keq_ne (knd:=cm X.prog X.w) sa sb da db (by have:=hr.un;omega) (λ_=>hc.keq rb ra) ⟨.bl _,H,I,rfl,?_⟩
 rw[← ra.length,← rb.length]
 exact q
theorem Bh{K:PySem.W.Frag}{F:Hp}{b:List (Key×T)}{kb:List (Key×V)}(rb:bq K F b kb):∀{a:List (Key×T)}{ka:List (Key×V)}{c:Bool},bq K F a ka→hitsD b a=some c→pO kb ka c
 | [],ka,c,r,h=>by rw[bq] at r;subst r;cases h;exact .nil
 | (k,t)::a,ka,c,r,h=>by
  rw[bq] at r
  obtain⟨v,kT,rfl,q,r⟩:=r
  unfold hitsD at h
  cases t with
  | bl x =>
   cases q.gx
   have h:(match lK b k with|none=>some false|some u=>(Li u).bind λy=>(hitsD b a).map λc=>(x==y) && c)=some c:=h
   rcases rb.val k with ⟨e1,e2⟩|⟨u,v,e1,e2,e3⟩
   ·rw[e1] at h
    cases h
    exact .miss e2
   ·rw[e1] at h
    cases u with
    | bl y =>
     cases e3.gx
     have h:(hitsD b a).map (λc=>(x==y) && c)=some c:=h
     obtain⟨c',h1,rfl⟩:=Option.map_eq_some_iff.mp h
     exact .hit e2 (Bh rb r h1)
    | _=>cases h
  | _=>cases h
theorem E4{K:PySem.W.Frag}:d9 K Jp xN:=by
 intro F H v u t t' w Q s hv hu hw q
 cases t with
 | dct a =>
  cases t' with
  | dct b =>
   obtain⟨c,h1,rfl⟩:=Option.map_eq_some_iff.mp (show (hitsD b a).map _=some w from hw)
   obtain⟨x,ka,rfl,e1,r1⟩:=hv
   obtain⟨y,kb,rfl,e2,r2⟩:=hu
   refine⟨x,y,ka,kb,rfl,rfl,e1,e2,c,Bh r2 r1 h1,?_⟩
   rw[← r1.length,← r2.length]
   exact q _ H F bL.refl (Rep.bl' _)
  | _=>cases hw
 | _=>cases hw
theorem Iv(hr:cM k X.A)(ha:CE X a da)(hb:CE X b db):CT X (.Compare a [.NotEq] [b] pos) (ag xN da db):=lI (Iu hr) E4 (kZ _) ha hb
end
end Fw
namespace Fw.k82
open PySem Fw
def ko:DS :=
 (aq (ay 3 (ag aP (aa 2) (aa 0)))
 (aq (sIf (ag fEq (aa 3) (dC (.int 0))) Hu bB)
 (aq (ay 4 (ag aP (aa 1) (aa 0)))
 (aq (jw (ag fNe (aa 3) (dC (.int 1))) (aq (ay 4 (ag aP (ag aK (dUn xi (aa 4)) (ag d_ (aa 0) (aa 3))) (aa 0)))
 (ay 3 (ag aP (aa 0) (aa 3)))))
 (aC (aa 4))))))
def jf:FN:=fnV 5 ko
def iA:DS :=
 (aC (aH (bX (aa 2)) [none,some 0,some 1] (ar 0) (dC (.bl true)) (ag aP (ag aK (aa 2) (aa 0)) (aa 1))))
def gW:FN:=fnV 3 iA
def fC:DS :=
 (aq (ay 4 (ax (aa 1) (aa 3)))
 (aq (sIf (ag fEq (aa 4) (dC (.int 0))) (aC (aa 1)) bB)
 (aC (aH (tG (aa 1) (aa 2)) [none,none,some 0,some 4] (ee [0,1]) (dC (.bl true)) (ag aP (ag qH (aa 0) (ag aK (aa 3) (aa 1))) (aa 2))))))
def iV:FN:=fnV 5 fC
def bY:DS :=
 (aq (cf (aI (aa 1)) (ar 2) (sIf (ag fNe (ax (aa 0) (aa 2)) (dC (.int 0))) (aC (aa 2)) bB))
 (aC (dC (.non))))
def eg:FN:=fnV 3 bY
def kq:DS :=
 (aq (ay 3 (bp (dC (.dct []))))
 (aq (ay 4 (bp (eS [])))
 (aq (cf (bX (aa 1)) (ar 5) (aq (ay 6 (aa 5))
 (aq (cf (kj (aa 3)) (ee [7,8]) (ay 6 (au (cal iV) [(aa 0),(aa 6),(aa 8),(aa 7)])))
 (aq (ay 9 (au (cal eg) [(aa 6),(aa 2)]))
 (sIf (dUn ly (aa 9)) (bo (aa 4) (aa 6)) (aq (ay 10 (au (cal gW) [(aa 0),(au (cal jf) [(aa 0),(dC (.int 1)),(ax (aa 6) (aa 9))]),(aa 6)]))
 (aq (cf (bX (dUn xn (aa 3))) (ar 7) (jM 3 (aa 7) (au (cal iV) [(aa 0),(ag iu (aa 3) (aa 7)),(aa 10),(aa 9)])))
 (jM 3 (aa 9) (aa 10)))))))))
 (aC (eU [(aa 3),(aa 4)])))))
def lR:FN:=fnV 11 kq
def cq:DS :=
 (aC (aH (bX (aa 1)) [none,some 0,some 2] (ar 0) (dC (.bl true)) (ag aP (ax (aa 0) (aa 2)) (aa 1))))
def eZ:FN:=fnV 3 cq
def lS:DS :=
 (aq (ay 2 (bp (pS pT [(dC (.int 0))] (aa 0))))
 (aq (dR 2 (aa 1) (dC (.int 1)))
 (aC (aa 2))))
def oi:FN:=fnV 3 lS
def kr:DS :=
 (aq (ay 4 (fP (aa 2)))
 (aq (ay 5 (bp (eS [])))
 (aq (cf (aI (aa 1)) (ar 6) (bo (aa 5) (ag bj (ag bj (au (cal eZ) [(aa 0),(aa 2),(aa 6)]) (eS [(ag aP (ax (aa 3) (aa 6)) (aa 0))])) (au (cal oi) [(aa 1),(aa 6)]))))
 (aq (ay 7 (au (cal lR) [(aa 0),(aa 5),(aa 4)]))
 (aq (cf (bX (ax (aa 7) (dC (.int 1)))) (ar 8) (sIf (ag fNe (ax (aa 8) (aa 4)) (dC (.int 0))) (aC (j0 [(dC (.str "turn")),(dUn b7 (au (cal gW) [(aa 0),(au (cal jf) [(aa 0),(dC (.int 1)),(ax (aa 8) (aa 4))]),(B1 (aa 8) (some (ag bj (aa 4) (dC (.int 1)))) none)]))])) bB))
 (aq (ay 9 (bp (pS pT [(dC (.int 0))] (aa 4))))
 (aq (cf (kj (ax (aa 7) (dC (.int 0)))) (ee [6,10]) (dR 9 (aa 6) (ax (aa 10) (aa 4))))
 (aC (j0 [(dC (.str "sum")),(aa 9)])))))))))
def jg:FN:=fnK 11 kr
def pb:DS :=
 (aC (aH (xC (ax (aa 0) (dC (.int 2)))) [none,none,some 1] (ee [0,1]) (ag fIn (ax (aa 1) (dC (.int 0))) (aa 2)) (aa 0)))
def bW:FN:=fnV 2 pb
def gD:DS :=
 (aC (aH (bX (aa 1)) [none,some 0] (ar 0) (dC (.bl true)) (ax (ax (ax (aa 1) (dC (.int 2))) (aa 0)) (dC (.int 1)))))
def cO:FN:=fnV 2 gD
def dZ:DS :=
 (aC (dUn b7 (aH (aI (aa 0)) [none] (ar 0) (dC (.bl true)) (DM (ag fEq (aa 0) (dC (.int 0))) (dC (.int 1)) (dC (.int 0))))))
def bO:FN:=fnV 1 dZ
def fN:DS :=
 (aq (ay 2 (au (cal jg) [(ax (aa 0) (dC (.int 0))),(ax (aa 0) (dC (.int 1))),(au (cal cO) [(aa 0),(aa 1)]),(au (cal bO) [(ax (aa 0) (dC (.int 1)))])]))
 (aq (sIf (ag fEq (ax (aa 2) (dC (.int 0))) (dC (.str "sum"))) (aC (j0 [(dC (.str "open")),(ax (aa 2) (dC (.int 1)))])) bB)
 (aC (j0 [(dC (.str "shut")),(ax (aa 2) (dC (.int 1)))]))))
def bP:FN:=fnK 3 fN
def fD:DS :=
 (aC (au (cal bP) [(aa 0),(au (cal bW) [(aa 0),(aa 1)])]))
def ck:FN:=fnV 2 fD
def jh:DS :=
 (aC (ag fEq (ax (au (cal ck) [(aa 0),(aa 1)]) (dC (.int 0))) (dC (.str "open"))))
def bQ:FN:=fnV 2 jh
def iB:DS :=
 (aq (ay 1 (eS [(eU [])]))
 (aq (cf (aI (aa 0)) (ar 2) (ay 1 (ag bj (aa 1) (aH (bX (aa 1)) [none,some 2] (ar 0) (dC (.bl true)) (ag bj (aa 0) (eU [(aa 1)]))))))
 (aC (aa 1))))
def bD:FN:=fnV 3 iB
def mD:DS :=
 (aC (dUn b7 (aH (bX (aa 0)) [none,some 1] (ar 0) (ag fNe (aa 0) (aa 1)) (aa 0))))
def eh:FN:=fnV 2 mD
def fE:DS :=
 (aC (dUn b7 (dUn oh (ag bj (aa 0) (eU [(aa 1)])))))
def bK:FN:=fnV 2 fE
def ku:DS :=
 (aC (mX (ag je (aa 0) (aa 1)) (eR (dUn lD (aH (bX (aa 1)) [none,some 0,some 1] (ar 0) (dC (.bl true)) (ag je (aa 1) (au (cal eh) [(aa 2),(aa 0)])))))))
def b8:FN:=fnV 2 ku
def gK:DS :=
 (aq (sIf (ag je (aa 0) (aa 2)) (aC (dC (.bl false))) bB)
 (aC (dUn mZ (aH (aI (aa 1)) [none,some 0,some 2] (ar 0) (ag nZ (aa 0) (aa 2)) (ag je (aa 1) (au (cal bK) [(aa 2),(aa 0)]))))))
def br:FN:=fnV 3 gK
def dB:DS :=
 (aq (ay 2 (bp (dC (.dtt false []))))
 (aq (cf (bX (au (cal bD) [(aa 1)])) (ar 3) (uG 2 (aa 3) (au (cal bQ) [(aa 0),(aa 3)])))
 (aq (ay 4 (aH (lQ (aa 2)) [none,some 2] (ar 0) (au (cal b8) [(aa 1),(aa 0)]) (dUn lB (aa 0))))
 (aq (ay 5 (aH (lQ (aa 2)) [none,some 2,some 1] (ar 0) (au (cal br) [(aa 1),(aa 2),(aa 0)]) (dUn lB (aa 0))))
 (aC (j0 [(bp (dUn gU (aa 4))),(bp (dUn gU (aa 5)))]))))))
def bG:FN:=fnV 6 dB
def pd:DS :=
 (aq (ay 2 (ax (au (cal bG) [(aa 0),(aa 1)]) (dC (.int 0))))
 (aC (bp (aH (aI (aa 1)) [none,some 2] (ar 0) (eR (dUn lD (aH (bX (aa 1)) [none,some 0] (ar 0) (dC (.bl true)) (ag fIn (aa 1) (aa 0))))) (aa 0)))))
def mE:FN:=fnD 3 pd
def ji:FN:=fnV 3 pd
def uJ:DS :=
 (aq (ay 2 (au (cal ji) [(aa 0),(aa 1)]))
 (aC (eU [(ax (aa 0) (dC (.int 0))),(ax (aa 0) (dC (.int 1))),(dUn b7 (aH (bX (ax (aa 0) (dC (.int 2)))) [none,some 2] (ar 0) (ag nZ (ax (aa 0) (dC (.int 0))) (aa 1)) (aa 0)))])))
def gE:FN:=fnV 3 uJ
def xO:DS :=
 (aq (sIf (ag fLt (aa 1) (fP (aa 0))) (aC (ax (aa 0) (aa 1))) bB)
 (aq (ay 2 (ag bj (ag aK (aa 1) (dC (.int 48271))) (dC (.int 977))))
 (aq (sIf (ag fGt (fP (aa 0)) (dC (.int 0))) (ay 2 (ag bj (aa 2) (ag aK (ag aP (ax (aa 0) (ag aP (ag aK (aa 1) (dC (.int 3))) (fP (aa 0)))) (dC (.int 2147483647))) (dC (.int 40692))))) bB)
 (aC (ag aP (ag aK (ag aP (ag aK (aa 2) (aa 2)) (dC (.int 2147483629))) (dC (.int 69621))) (dC (.int 2147483587)))))))
def bg:FN:=fnV 3 xO
def vR:DS :=
 (aq (ay 2 (ag aP (ag aK (ag bj (ag aP (aa 0) (dC (.int 2147483647))) (dC (.int 1))) (ag bj (dC (.int 48271)) (ag aK (aa 1) (aa 1)))) (dC (.int 2147483629))))
 (aC (ag aP (ag aK (ag aP (ag aK (aa 2) (ag bj (aa 2) (ag aK (dC (.int 977)) (aa 1)))) (dC (.int 2147483587))) (dC (.int 40692))) (dC (.int 2147483399)))))
def jC:FN:=fnV 3 vR
def rP:DS :=
 (aq (ay 4 (bp (eS [])))
 (aq (cf (aI (aa 2)) (ar 5) (sIf (aa 3) (aq (bo (aa 4) (ag aP (aa 0) (aa 1)))
 (ay 0 (ag d_ (aa 0) (aa 1)))) (bo (aa 4) (ag aP (ag d_ (au (cal jC) [(aa 0),(aa 5)]) (dC (.int 7))) (aa 1)))))
 (aC (aa 4))))
def ic:FN:=fnD 6 rP
def vS:DS :=
 (aq (ay 3 (au (cal bg) [(aa 0),(aa 1)]))
 (aq (ay 4 (ag fEq (ag aP (aa 3) (dC (.int 2))) (dC (.int 0))))
 (aq (ay 5 (ag bj (dC (.int 1)) (ag aP (ag d_ (aa 3) (dC (.int 2))) (dC (.int 4)))))
 (aq (ay 6 (ag aP (ag d_ (aa 3) (dC (.int 8))) (dC (.int 7))))
 (aq (ay 7 (ag bj (dC (.int 1)) (ag aP (ag d_ (aa 3) (dC (.int 56))) (dC (.int 5)))))
 (aq (sIf (ag fEq (ag aP (ag d_ (aa 3) (dC (.int 280))) (dC (.int 8))) (dC (.int 5))) (aq (ay 5 (ag bj (aa 5) (dC (.int 2))))
 (ay 6 (ag bj (aa 6) (dC (.int 5))))) bB)
 (aq (ay 8 (bp (eS [])))
 (aq (cf (aI (aa 6)) (ar 9) (aq (ay 3 (au (cal bg) [(aa 0),(ag bj (ag bj (aa 1) (dC (.int 1))) (aa 9))]))
 (aq (ay 10 (au (cal ic) [(ag d_ (aa 3) (dC (.int 100))),(aa 2),(aa 5),(aa 4)]))
 (aq (sIf (ag fEq (ag aP (ag d_ (aa 3) (dC (.int 10))) (dC (.int 5))) (dC (.int 1))) (aq (ay 11 (ag aP (ag d_ (aa 3) (dC (.int 100))) (aa 2)))
 (aq (ay 10 (bp (eS [(dC (.int 1))])))
 (jw (ag fLt (fP (aa 10)) (aa 5)) (bo (aa 10) (ag aP (ag aK (ax (aa 10) (dUn xi (dC (.int 1)))) (aa 11)) (aa 2)))))) bB)
 (bo (aa 8) (eU [(ag aP (aa 3) (aa 7)),(dUn b7 (aa 10))]))))))
 (aC (eU [(aa 2),(aa 5),(dUn b7 (aa 8))]))))))))))
def e8:FN:=fnV 12 vS
def E5:DS :=
 (aC (ax (eS [(dC (.int 2)),(dC (.int 3)),(dC (.int 5)),(dC (.int 7)),(dC (.int 11)),(dC (.int 13)),(dC (.int 2)),(dC (.int 97))]) (ag aP (aa 0) (dC (.int 8)))))
def jN:FN:=fnV 1 E5
def xP:DS :=
 (aC (aH (aI (fP (ax (aa 0) (dC (.int 2))))) [none,some 1,some 0] (ar 0) (ag fIn (ax (ax (ax (aa 2) (dC (.int 2))) (aa 0)) (dC (.int 0))) (aa 1)) (aa 0)))
def kx:FN:=fnV 2 xP
def vT:DS :=
 (aC (mX (dIs .int (aa 0)) (mX (eR (dIs .bool (aa 0))) (qM fLe fLt (dC (.int 0)) (aa 0) (aa 1)))))
def e9:FN:=fnV 2 vT
def rQ:DS :=
 (aq (xE [3,4,5] (aa 0))
 (aq (sIf (dOr (eR (dIs .list (aa 2))) (ag fNe (fP (aa 2)) (fP (aa 1)))) (aC (dC (.bl false))) bB)
 (aq (sIf (eR (dUn mZ (aH (bX (aa 2)) [none,some 3] (ar 0) (dC (.bl true)) (au (cal e9) [(aa 0),(aa 1)])))) (aC (dC (.bl false))) bB)
 (aq (cf (aI (aa 4)) (ar 6) (aq (ay 7 (dUn qL (aH (tG (aa 1) (aa 2)) [none,none,some 6,some 5] (ee [0,1]) (dC (.bl true)) (ag aK (aa 1) (ax (ax (ax (aa 3) (aa 0)) (dC (.int 1))) (aa 2))))))
 (sIf (ag fNe (ag aP (aa 7) (aa 3)) (dUn vw (ag fEq (aa 6) (dC (.int 0))))) (aC (dC (.bl false))) bB)))
 (aC (dC (.bl true)))))))
def ie:FN:=fnV 8 rQ
def rR:DS :=
 (aq (xE [3,4,5] (aa 0))
 (aq (sIf (dOr (eR (dIs .tuple (aa 2))) (dOr (ag fNe (fP (aa 2)) (aa 4)) (eR (dUn mZ (aH (bX (aa 2)) [none,some 3] (ar 0) (dC (.bl true)) (au (cal e9) [(aa 0),(aa 1)])))))) (aC (dC (.bl false))) bB)
 (aq (sIf (ag fNe (ax (aa 2) (dC (.int 0))) (dC (.int 1))) (aC (dC (.bl false))) bB)
 (aC (dUn mZ (aH (bX (aa 1)) [none,some 3,some 2,some 5] (ar 0) (dC (.bl true)) (ag fEq (ag aP (dUn qL (aH (tG (ax (ax (aa 3) (aa 0)) (dC (.int 1))) (aa 2)) [none,none] (ee [0,1]) (dC (.bl true)) (ag aK (aa 0) (aa 1)))) (aa 1)) (dC (.int 0)))))))))
def ig:FN:=fnV 6 rR
def oj:DS :=
 (aq (sIf (dOr (eR (dIs .tuple (aa 2))) (ag fNe (fP (aa 2)) (dC (.int 2)))) (aC (dC (.bl false))) bB)
 (aq (ay 3 (au (cal kx) [(aa 0),(aa 1)]))
 (aq (sIf (ag fEq (ax (aa 2) (dC (.int 0))) (dC (.str "open"))) (aC (au (cal ie) [(aa 0),(aa 3),(ax (aa 2) (dC (.int 1)))])) bB)
 (aC (mX (ag fEq (ax (aa 2) (dC (.int 0))) (dC (.str "shut"))) (au (cal ig) [(aa 0),(aa 3),(ax (aa 2) (dC (.int 1)))]))))))
def bI:FN:=fnV 4 oj
def mR:DS :=
 (aq (ay 2 (bp (eS [])))
 (aq (cf (aI (fP (ax (aa 0) (dC (.int 2))))) (ar 3) (sIf (dOr (ag fLt (aa 1) (dC (.int 6))) (ag fLt (aa 3) (dC (.int 6)))) (bo (aa 2) (eU [(ag aP (ag bj (ax (ax (ax (aa 0) (dC (.int 2))) (aa 3)) (dC (.int 0))) (ag aK (ag aK (dC (.int 3)) (aa 3)) (dUn vw (ag fGt (aa 1) (dC (.int 5)))))) (aa 1)),(ax (ax (ax (aa 0) (dC (.int 2))) (aa 3)) (dC (.int 1)))])) bB))
 (aC (eU [(ax (aa 0) (dC (.int 0))),(ax (aa 0) (dC (.int 1))),(dUn b7 (aa 2))]))))
def lT:DS:=(ay 2 (bp (eS [])))
def lU:DS:=(cf (aI (fP (ax (aa 0) (dC (.int 2))))) (ar 3) (sIf (dOr (ag fLt (aa 1) (dC (.int 6))) (ag fLt (aa 3) (dC (.int 6)))) (bo (aa 2) (eU [(ag aP (ag bj (ax (ax (ax (aa 0) (dC (.int 2))) (aa 3)) (dC (.int 0))) (ag aK (ag aK (dC (.int 3)) (aa 3)) (dUn vw (ag fGt (aa 1) (dC (.int 5)))))) (aa 1)),(ax (ax (ax (aa 0) (dC (.int 2))) (aa 3)) (dC (.int 1)))])) bB))
def lV:DS:=(aC (eU [(ax (aa 0) (dC (.int 0))),(ax (aa 0) (dC (.int 1))),(dUn b7 (aa 2))]))
def lW:DS:=lV
def lX:DS:=aq lU lW
def pP:DS:=aq lT lX
theorem xQ:mR=pP:=rfl
theorem rS(e:Slots)(μ:af):pP e μ=(lT e μ).seq lX:=rfl
theorem rT(e:Slots)(μ:af):lX e μ=(lU e μ).seq lW:=rfl
theorem rV(e:Slots)(μ:af):lW e μ=lV e μ:=rfl
def dA:FN:=fnV 4 mR
def om:DS :=
 (aq (ay 2 (bp (dC (.dct []))))
 (aq (cf (aI (ag qI (dC (.int 1)) (aa 1))) (ar 3) (aq (ay 4 (aH (aI (aa 1)) [none,some 3] (ar 0) (ag fEq (ag ef (ag mJ (aa 1) (aa 0)) (dC (.int 1))) (dC (.int 1))) (aa 0)))
 (aq (ay 5 (au (cal ck) [(aa 0),(aa 4)]))
 (aq (sIf (eR (au (cal bI) [(aa 0),(aa 4),(aa 5)])) (aC (dC (.non))) bB)
 (jM 2 (aa 3) (ag fEq (ax (aa 5) (dC (.int 0))) (dC (.str "open"))))))))
 (aC (aa 2))))
def ni:DS:=(ay 2 (bp (dC (.dct []))))
def nj:DS:=(cf (aI (ag qI (dC (.int 1)) (aa 1))) (ar 3) (aq (ay 4 (aH (aI (aa 1)) [none,some 3] (ar 0) (ag fEq (ag ef (ag mJ (aa 1) (aa 0)) (dC (.int 1))) (dC (.int 1))) (aa 0)))
 (aq (ay 5 (au (cal ck) [(aa 0),(aa 4)]))
 (aq (sIf (eR (au (cal bI) [(aa 0),(aa 4),(aa 5)])) (aC (dC (.non))) bB)
 (jM 2 (aa 3) (ag fEq (ax (aa 5) (dC (.int 0))) (dC (.str "open"))))))))
def nq:DS:=(aC (aa 2))
def nr:DS:=nq
def nv:DS:=aq nj nr
def rW:DS:=aq ni nv
theorem zr:om=rW:=rfl
theorem tK(e:Slots)(μ:af):rW e μ=(ni e μ).seq nv:=rfl
theorem tL(e:Slots)(μ:af):nv e μ=(nj e μ).seq nr:=rfl
theorem tM(e:Slots)(μ:af):nr e μ=nq e μ:=rfl
def cB:FN:=fnV 6 om
def oq:DS :=
 (aq (ay 2 (bp (eS [])))
 (aq (cf (rO (aa 0)) (ar 3) (aq (ay 4 (aH (aI (aa 1)) [none,some 3] (ar 0) (ag fEq (ag ef (ag mJ (aa 1) (aa 0)) (dC (.int 1))) (dC (.int 1))) (ag qH (aa 1) (ag qI (dC (.int 1)) (aa 0)))))
 (sIf (mX (ag iu (aa 0) (aa 3)) (eR (dUn lD (aH (bX (aa 4)) [none,some 0] (ar 0) (dC (.bl true)) (ag iu (aa 1) (aa 0)))))) (bo (aa 2) (aa 3)) bB)))
 (aC (aa 2))))
def ny:DS:=(ay 2 (bp (eS [])))
def nz:DS:=(cf (rO (aa 0)) (ar 3) (aq (ay 4 (aH (aI (aa 1)) [none,some 3] (ar 0) (ag fEq (ag ef (ag mJ (aa 1) (aa 0)) (dC (.int 1))) (dC (.int 1))) (ag qH (aa 1) (ag qI (dC (.int 1)) (aa 0)))))
 (sIf (mX (ag iu (aa 0) (aa 3)) (eR (dUn lD (aH (bX (aa 4)) [none,some 0] (ar 0) (dC (.bl true)) (ag iu (aa 1) (aa 0)))))) (bo (aa 2) (aa 3)) bB)))
def nA:DS:=(aC (aa 2))
def nB:DS:=nA
def nC:DS:=aq nz nB
def rX:DS:=aq ny nC
theorem zt:oq=rX:=rfl
theorem tN(e:Slots)(μ:af):rX e μ=(ny e μ).seq nC:=rfl
theorem tO(e:Slots)(μ:af):nC e μ=(nz e μ).seq nB:=rfl
theorem tP(e:Slots)(μ:af):nB e μ=nA e μ:=rfl
def d0:FN:=fnV 5 oq
def E6:DS :=
 (aq (ay 1 (au (cal jN) [(au (cal bg) [(aa 0),(dC (.int 0))])]))
 (aq (ay 2 (ag bj (dC (.int 1)) (ag aP (au (cal bg) [(aa 0),(dC (.int 1))]) (dC (.int 5)))))
 (aq (sIf (ag fEq (ag aP (ag d_ (au (cal bg) [(aa 0),(dC (.int 1))]) (dC (.int 5))) (dC (.int 8))) (dC (.int 5))) (ay 2 (ag bj (dC (.int 6)) (ag aP (ag d_ (au (cal bg) [(aa 0),(dC (.int 1))]) (dC (.int 40))) (dC (.int 3))))) bB)
 (aq (ay 3 (au (cal dA) [(au (cal e8) [(aa 0),(dC (.int 10)),(aa 1)]),(aa 2)]))
 (aq (ay 4 (au (cal cB) [(aa 3),(aa 2)]))
 (aq (sIf (dUn ly (aa 4)) (aC (dC (.bl false))) bB)
 (aq (ay 5 (au (cal d0) [(aa 4),(aa 2)]))
 (aq (ay 6 (aH (aI (aa 2)) [none,some 5] (ar 0) (eR (dUn lD (aH (bX (aa 1)) [none,some 0] (ar 0) (dC (.bl true)) (ag fEq (ag ef (ag mJ (aa 0) (aa 1)) (dC (.int 1))) (dC (.int 1)))))) (aa 0)))
 (aq (ay 7 (au (cal mE) [(aa 3),(aa 2)]))
 (aq (sIf (dOr (eR (dIs .list (aa 7))) (dOr (ag fNe (aa 7) (aa 6)) (dUn lD (aH (bX (aa 7)) [none] (ar 0) (dC (.bl true)) (dIs .bool (aa 0)))))) (aC (dC (.bl false))) bB)
 (aq (bo (aa 7) (dC (.int 9)))
 (aq (ay 8 (au (cal gE) [(aa 3),(aa 2)]))
 (aq (ay 9 (aH (bX (ax (aa 3) (dC (.int 2)))) [none,some 6] (ar 0) (ag nZ (ax (aa 0) (dC (.int 0))) (aa 1)) (aa 0)))
 (aq (sIf (dOr (ag fNe (aa 8) (eU [(aa 1),(ax (aa 3) (dC (.int 1))),(dUn b7 (aa 9))])) (eR (dIs .tuple (ax (aa 8) (dC (.int 2)))))) (aC (dC (.bl false))) bB)
 (aq (sIf (dOr (ag xN (au (cal cB) [(aa 8),(aa 2)]) (aa 4)) (ag fNe (au (cal ji) [(aa 3),(aa 2)]) (aa 6))) (aC (dC (.bl false))) bB)
 (aq (ay 10 (aH (bX (ax (aa 3) (dC (.int 2)))) [none] (ar 0) (dC (.bl true)) (ax (aa 0) (dC (.int 0)))))
 (aC (dUn mZ (aH (aI (aa 2)) [none,some 6,some 10] (ar 0) (dC (.bl true)) (dOr (ag fIn (aa 0) (aa 1)) (ag fIn (aa 0) (aa 2))))))))))))))))))))))
def zu:DS:=(ay 1 (au (cal jN) [(au (cal bg) [(aa 0),(dC (.int 0))])]))
def zv:DS:=(ay 2 (ag bj (dC (.int 1)) (ag aP (au (cal bg) [(aa 0),(dC (.int 1))]) (dC (.int 5)))))
def zw:DS:=(sIf (ag fEq (ag aP (ag d_ (au (cal bg) [(aa 0),(dC (.int 1))]) (dC (.int 5))) (dC (.int 8))) (dC (.int 5))) (ay 2 (ag bj (dC (.int 6)) (ag aP (ag d_ (au (cal bg) [(aa 0),(dC (.int 1))]) (dC (.int 40))) (dC (.int 3))))) bB)
def zx:DS:=(ay 3 (au (cal dA) [(au (cal e8) [(aa 0),(dC (.int 10)),(aa 1)]),(aa 2)]))
def zy:DS:=(ay 4 (au (cal cB) [(aa 3),(aa 2)]))
def zA:DS:=(sIf (dUn ly (aa 4)) (aC (dC (.bl false))) bB)
def zB:DS:=(ay 5 (au (cal d0) [(aa 4),(aa 2)]))
def zC:DS:=(ay 6 (aH (aI (aa 2)) [none,some 5] (ar 0) (eR (dUn lD (aH (bX (aa 1)) [none,some 0] (ar 0) (dC (.bl true)) (ag fEq (ag ef (ag mJ (aa 0) (aa 1)) (dC (.int 1))) (dC (.int 1)))))) (aa 0)))
def zD:DS:=(ay 7 (au (cal mE) [(aa 3),(aa 2)]))
def zE:DS:=(sIf (dOr (eR (dIs .list (aa 7))) (dOr (ag fNe (aa 7) (aa 6)) (dUn lD (aH (bX (aa 7)) [none] (ar 0) (dC (.bl true)) (dIs .bool (aa 0)))))) (aC (dC (.bl false))) bB)
def vU:DS:=(bo (aa 7) (dC (.int 9)))
def vV:DS:=(ay 8 (au (cal gE) [(aa 3),(aa 2)]))
def vW:DS:=(ay 9 (aH (bX (ax (aa 3) (dC (.int 2)))) [none,some 6] (ar 0) (ag nZ (ax (aa 0) (dC (.int 0))) (aa 1)) (aa 0)))
def vX:DS:=(sIf (dOr (ag fNe (aa 8) (eU [(aa 1),(ax (aa 3) (dC (.int 1))),(dUn b7 (aa 9))])) (eR (dIs .tuple (ax (aa 8) (dC (.int 2)))))) (aC (dC (.bl false))) bB)
def vY:DS:=(sIf (dOr (ag xN (au (cal cB) [(aa 8),(aa 2)]) (aa 4)) (ag fNe (au (cal ji) [(aa 3),(aa 2)]) (aa 6))) (aC (dC (.bl false))) bB)
def vZ:DS:=(ay 10 (aH (bX (ax (aa 3) (dC (.int 2)))) [none] (ar 0) (dC (.bl true)) (ax (aa 0) (dC (.int 0)))))
def v7:DS:=(aC (dUn mZ (aH (aI (aa 2)) [none,some 6,some 10] (ar 0) (dC (.bl true)) (dOr (ag fIn (aa 0) (aa 1)) (ag fIn (aa 0) (aa 2))))))
def v8:DS:=v7
def v9:DS:=aq vZ v8
def v_:DS:=aq vY v9
def wa:DS:=aq vX v_
def wb:DS:=aq vW wa
def wc:DS:=aq vV wb
def wd:DS:=aq vU wc
def zF:DS:=aq zE wd
def zG:DS:=aq zD zF
def zH:DS:=aq zC zG
def zI:DS:=aq zB zH
def zJ:DS:=aq zA zI
def we:DS:=aq zy zJ
def wg:DS:=aq zx we
def zK:DS:=aq zw wg
def zL:DS:=aq zv zK
def E7:DS:=aq zu zL
theorem Lk:E6=E7:=rfl
theorem Cs(e:Slots)(μ:af):E7 e μ=(zu e μ).seq zL:=rfl
theorem Ct(e:Slots)(μ:af):zL e μ=(zv e μ).seq zK:=rfl
theorem Cu(e:Slots)(μ:af):zK e μ=(zw e μ).seq wg:=rfl
theorem Cv(e:Slots)(μ:af):wg e μ=(zx e μ).seq we:=rfl
theorem Cw(e:Slots)(μ:af):we e μ=(zy e μ).seq zJ:=rfl
theorem Cy(e:Slots)(μ:af):zJ e μ=(zA e μ).seq zI:=rfl
theorem Cz(e:Slots)(μ:af):zI e μ=(zB e μ).seq zH:=rfl
theorem CC(e:Slots)(μ:af):zH e μ=(zC e μ).seq zG:=rfl
theorem CD(e:Slots)(μ:af):zG e μ=(zD e μ).seq zF:=rfl
theorem CG(e:Slots)(μ:af):zF e μ=(zE e μ).seq wd:=rfl
theorem zM(e:Slots)(μ:af):wd e μ=(vU e μ).seq wc:=rfl
theorem zN(e:Slots)(μ:af):wc e μ=(vV e μ).seq wb:=rfl
theorem zO(e:Slots)(μ:af):wb e μ=(vW e μ).seq wa:=rfl
theorem zP(e:Slots)(μ:af):wa e μ=(vX e μ).seq v_:=rfl
theorem zQ(e:Slots)(μ:af):v_ e μ=(vY e μ).seq v9:=rfl
theorem zR(e:Slots)(μ:af):v9 e μ=(vZ e μ).seq v8:=rfl
theorem zS(e:Slots)(μ:af):v8 e μ=v7 e μ:=rfl
def pe:FN:=fnV 11 E6
end Fw.k82
section
set_option maxHeartbeats 4000000
namespace Fw.k82
open PySem L2 Fw
seal Fw.CE Fw.CT Fw.CA Fw.CS Fw.CSs Fw.CI Fw.CB Fw.CF Fw.CW Fw.CO L2.mK
def top(i:Nat):Stmt:=PySem.Challenge.pw_fewopen_k82_idle_hands.main.body.getD i (.Pass ⟨0,0,0,0⟩)
noncomputable abbrev ky : Stmt := top 4
noncomputable abbrev gL : Stmt := top 6
noncomputable abbrev iC : Stmt := top 7
noncomputable abbrev cC : Stmt := top 8
noncomputable abbrev jk : Stmt := top 9
noncomputable abbrev cu : Stmt := top 10
noncomputable abbrev lY : Stmt := top 11
noncomputable abbrev lZ : Stmt := top 12
noncomputable abbrev eM : Stmt := top 14
noncomputable abbrev dM : Stmt := top 16
noncomputable abbrev bZ : Stmt := top 17
noncomputable abbrev dD : Stmt := top 18
noncomputable abbrev iD : Stmt := top 19
noncomputable abbrev dE : Stmt := top 21
noncomputable abbrev cw : Stmt := top 22
noncomputable abbrev eN : Stmt := top 23
noncomputable abbrev bR : Stmt := top 24
noncomputable abbrev dN : Stmt := top 25
noncomputable abbrev b4 : Stmt := top 26
noncomputable abbrev b9 : Stmt := top 27
noncomputable abbrev fU : Stmt := top 29
noncomputable abbrev eO : Stmt := top 30
noncomputable abbrev cP : Stmt := top 32
noncomputable abbrev cQ : Stmt := top 33
noncomputable abbrev b_ : Stmt := top 34
noncomputable abbrev cR : Stmt := top 35
noncomputable abbrev gX : Stmt := top 36
noncomputable abbrev cS : Stmt := top 38
noncomputable abbrev cx : Stmt := top 40
noncomputable abbrev bE : Stmt := top 41
noncomputable abbrev bt : Stmt := top 42
noncomputable abbrev bA : Stmt := top 43
noncomputable abbrev cD : Stmt := top 44
noncomputable abbrev cy : Stmt := top 45
noncomputable abbrev b6 : Stmt := top 46
noncomputable abbrev ix : Stmt := top 47
structure Tx(K:PySem.W.Frag)(mg:Str→Option Value):Prop where
 xR:mg "all"=none
 uK:mg "any"=none
 E8:mg "bool"=none
 xS:mg "enumerate"=none
 E9:mg "int"=none
 cT:mg "isinstance"=none
 l_:mg "len"=none
 rY:mg "list"=none
 cU:mg "range"=none
 rZ:mg "sorted"=none
 Jq:mg "sum"=none
 fF:mg "tuple"=none
 E_:mg "zip"=none
noncomputable abbrev n0 : List Str := ["entry", "p", "number"]
noncomputable abbrev n1 : List Str := ["p", "number", "row"]
noncomputable abbrev n2 : List Str := ["entry", "other", "p", "number"]
noncomputable abbrev n3 : List Str := ["p", "row", "lead", "place", "number"]
noncomputable abbrev n4 : List Str := ["line", "p", "place"]
noncomputable abbrev n5 : List Str := ["p", "lines", "place"]
noncomputable abbrev n6 : List Str := ["number", "row", "hands"]
noncomputable abbrev n7 : List Str := ["table", "hands"]
noncomputable abbrev n8 : List Str := ["number", "table"]
noncomputable abbrev n9 : List Str := ["table", "numbers"]
noncomputable abbrev n10 : List Str := ["place"]
noncomputable abbrev n11 : List Str := ["wide"]
noncomputable abbrev n12 : List Str := ["hands", "hand"]
noncomputable abbrev n13 : List Str := ["many", "found", "hand"]
noncomputable abbrev n14 : List Str := ["other", "hand"]
noncomputable abbrev n15 : List Str := ["hand", "opening", "hands"]
noncomputable abbrev n16 : List Str := ["opening", "hands"]
noncomputable abbrev n17 : List Str := ["opening", "many", "hands"]
noncomputable abbrev n18 : List Str := ["hands", "opening"]
noncomputable abbrev n19 : List Str := ["table", "many", "opening", "hands", "least", "greatest"]
noncomputable abbrev n20 : List Str := ["hands", "opening", "many"]
noncomputable abbrev n21 : List Str := ["hand", "least"]
noncomputable abbrev n22 : List Str := ["table", "many", "least"]
noncomputable abbrev n23 : List Str := ["row", "left_out"]
noncomputable abbrev n24 : List Str := ["table", "many", "left_out"]
noncomputable abbrev n25 : List Str := ["_law_k", "_law_hands_here", "_law_table_here"]
noncomputable abbrev n26 : List Str := ["_law_table_here", "_law_hands_here"]
noncomputable abbrev n27 : List Str := ["_law_number", "_law_p_here"]
noncomputable abbrev n28 : List Str := ["_law_table_here", "_law_numbers_here", "_law_multipliers", "_law_p_here", "_law_wide", "_law_rows_here", "_law_place", "_law_total"]
noncomputable abbrev n29 : List Str := ["_law_k", "_law_times", "_law_place", "_law_rows_here"]
noncomputable abbrev n30 : List Str := ["_law_table_here", "_law_numbers_here", "_law_turn", "_law_p_here", "_law_wide", "_law_rows_here"]
noncomputable abbrev n31 : List Str := ["_law_a", "_law_b"]
noncomputable abbrev n32 : List Str := ["_law_k", "_law_p_here", "_law_turn", "_law_rows_here"]
noncomputable abbrev n33 : List Str := ["_law_hand", "_law_number"]
noncomputable abbrev n34 : List Str := ["_law_table_here", "_law_many", "_law_found", "_law_number", "_law_hands_here", "_law_answer"]
noncomputable abbrev n35 : List Str := ["_law_words_here", "_law_many", "_law_found", "_law_number", "_law_lesser"]
noncomputable abbrev n36 : List Str := ["_law_one", "_law_words_here"]
noncomputable abbrev n37 : List Str := ["_law_one", "_law_hand"]
noncomputable abbrev n38 : List Str := ["_law_hand", "_law_some"]
noncomputable abbrev n39 : List Str := ["_law_script", "_law_p_here", "_law_many", "_law_table_here", "_law_words_here", "_law_some", "_law_due", "_law_found", "_law_smaller", "_law_kept", "_law_there"]
noncomputable abbrev n40 : List Str := ["_law_hand"]
noncomputable abbrev n41 : List Str := ["_law_row", "_law_due"]
noncomputable abbrev n42 : List Str := ["_law_row"]
noncomputable abbrev n43 : List Str := ["_law_hand", "_law_due", "_law_there"]
noncomputable abbrev n44 : List Str := ["p", "one", "other", "rest", "told"]
noncomputable abbrev n45 : List Str := ["p", "one", "other"]
noncomputable abbrev n46 : List Str := ["p", "row", "lead", "place"]
noncomputable abbrev n47 : List Str := ["row", "many", "place"]
noncomputable abbrev n48 : List Str := ["row", "many"]
noncomputable abbrev n49 : List Str := ["p", "rows", "many", "leads", "noughts", "row", "rest", "place", "lead", "found", "fresh"]
noncomputable abbrev n50 : List Str := ["p", "rows", "many"]
noncomputable abbrev n51 : List Str := ["width", "place", "row"]
noncomputable abbrev n52 : List Str := ["width", "place"]
noncomputable abbrev n53 : List Str := ["p", "width", "lines", "wished", "many", "rows", "place", "parted", "row", "multipliers", "lead"]
noncomputable abbrev n54 : List Str := ["p", "width", "lines", "wished"]
noncomputable abbrev n55 : List Str := ["table", "numbers", "found"]
noncomputable abbrev n56 : List Str := ["many"]
noncomputable abbrev n57 : List Str := ["table", "many"]
noncomputable abbrev n58 : List Str := ["_law_script", "_law_k", "_law_number"]
noncomputable abbrev n59 : List Str := ["_law_script", "_law_k"]
noncomputable abbrev n60 : List Str := ["_law_cell_here", "_law_k", "_law_number"]
noncomputable abbrev n61 : List Str := ["_law_cell_here", "_law_k"]
noncomputable abbrev n62 : List Str := ["_law_cell_here", "_law_p_here", "_law_count", "_law_by_digits", "_law_found", "_law_k"]
noncomputable abbrev n63 : List Str := ["_law_cell_here", "_law_p_here", "_law_count", "_law_by_digits"]
noncomputable abbrev n64 : List Str := ["_law_script", "_law_at", "_law_p_here", "_law_cell_here", "_law_by_digits", "_law_wide", "_law_count", "_law_many", "_law_rows_here", "_law_k", "_law_line", "_law_x"]
noncomputable abbrev n65 : List Str := ["_law_script", "_law_at", "_law_p_here"]
noncomputable abbrev n66 : List Str := ["_law_cell_here"]
noncomputable abbrev n67 : List Str := ["_law_table_here", "_law_numbers_here", "_law_multipliers"]
noncomputable abbrev n68 : List Str := ["_law_table_here", "_law_numbers_here", "_law_turn"]
noncomputable abbrev n69 : List Str := ["_law_table_here", "_law_hands_here", "_law_found", "_law_numbers_here"]
noncomputable abbrev n70 : List Str := ["_law_table_here", "_law_hands_here", "_law_found"]
noncomputable abbrev n71 : List Str := ["_law_table_here", "_law_many", "_law_rows_here", "_law_k"]
noncomputable abbrev n72 : List Str := ["_law_table_here", "_law_many"]
noncomputable abbrev n73 : List Str := ["_law_words_here", "_law_many"]
noncomputable abbrev n74 : List Str := ["_law_script"]
section
variable{P:Program}{w:World}{K:PySem.W.Frag}{mg:Str→Option Value}{base:Heap}
theorem ot:aR n44 n45 (ai ky):=⟨rfl,rfl,rfl,by decide +kernel,rfl,by decide +kernel,by decide +kernel⟩
theorem Fb{me:Addr}{mf:FuncData}(T:Tx K mg)(kA:Gf K mg "over" ky n45 me mf) :
  aU P w K mg base CX0 1 me mf n45 (spD K jf 3) :=
 bT .V kA.F ot λcdv A outer s H E hr=>(aj (aJ 3 ot.nd (bx (ae 2) (ae 0)))
 (aj (dw (mQ hr (ae 3) ak) (av KW) bF)
 (aj (aJ 4 ot.nd (bx (ae 1) (ae 0)))
 (aj (xt PassesOwn.never (kP hr (ae 3) ak) (aj (aJ 4 ot.nd (bx (d6 (Em (ae 4)) (ib (ae 0) (ae 3))) (ae 0)))
 (av (aJ 3 ot.nd (bx (ae 0) (ae 3))))))
 (av (aL (ae 4)))))))
theorem Fc:aR n1 n1 (ai gL):=⟨rfl,rfl,rfl,by decide +kernel,rfl,by decide +kernel,by decide +kernel⟩
theorem CH{jl:Addr}{jm:FuncData}(T:Tx K mg)(iE:Gf K mg "times" gL n1 jl jm) :
  aU P w K mg base CX0 1 jl jm n1 (spD K gW 3) :=
 bT .V iE.F Fc λcdv A outer s H E hr=>(av (aL (CF.ce (bw (N':=n0) rfl (az (ai gL) rfl n1 rfl (by decide +kernel)) rfl (aD rfl) (dm (ae 2)) (λ_ _ _ _ _=>(aQ 0 (show n0.Nodup by decide +kernel))) (λ_ _ _ _ _=>bu) (λ_ _ _ _ _=>(bx (d6 (ae 2) (ae 0)) (ae 1)))))))
theorem xT:aR n3 n46 (ai iC):=⟨rfl,rfl,rfl,by decide +kernel,rfl,by decide +kernel,by decide +kernel⟩
theorem CJ{ou:Addr}{ox:FuncData}(T:Tx K mg)(jn:Gf K mg "freed" iC n46 ou ox) :
  aU P w K mg base CX0 1 ou ox n46 (spD K iV 4) :=
 bT .V jn.F xT λcdv A outer s H E hr=>(aj (aJ 4 xT.nd (aF (ae 1) (ae 3)))
 (aj (dw (mQ hr (ae 4) ak) (av (aL (ae 1))) bF)
 (av (aL (CF.ce (bw (N':=n2) rfl (az (ai iC) rfl n3 rfl (by decide +kernel)) rfl (ja rfl rfl) (ze T.E_ (ae 1) (ae 2)) (λ_ _ _ _ _=>(mz 0 1 (show n2.Nodup by decide +kernel) rfl)) (λ_ _ _ _ _=>bu) (λ_ _ _ _ _=>(bx (Ek (ae 0) (d6 (ae 3) (ae 1))) (ae 2)))))))))
theorem mh:aR n47 n48 (ai cC):=⟨rfl,rfl,rfl,by decide +kernel,rfl,by decide +kernel,by decide +kernel⟩
theorem pW{e_:Addr}{fb:FuncData}(T:Tx K mg)(fe:Gf K mg "first_place" cC n48 e_ fb) :
  aU P w K mg base CX0 1 e_ fb n48 (spD K eg 2) :=
 bT .V fe.F mh λcdv A outer s H E hr=>(aj (fI PassesOwn.never rfl (bJ T.cU (ae 1)) (aQ 2 mh.nd) (av (dw (kP hr (aF (ae 0) (ae 2)) ak) (av (aL (ae 2))) bF)))
 (av (aL yT)))
theorem fg:aR n49 n50 (ai jk):=⟨rfl,rfl,rfl,by decide +kernel,rfl,by decide +kernel,by decide +kernel⟩
theorem CK{oy:Addr}{oA:FuncData}(T:Tx K mg)(oB:Gf K mg "eased" jk n50 oy oA)
  {ou:Addr}{ox:FuncData} (jn:Gf K mg "freed" iC n46 ou ox)
  (xU:aU P w K mg base CX0 1 ou ox n46 (spD K iV 4))
  {e_:Addr}{fb:FuncData} (fe:Gf K mg "first_place" cC n48 e_ fb)
  (r8:aU P w K mg base CX0 1 e_ fb n48 (spD K eg 2))
  {me:Addr}{mf:FuncData} (kA:Gf K mg "over" ky n45 me mf)
  (wj:aU P w K mg base CX0 1 me mf n45 (spD K jf 3))
  {jl:Addr}{jm:FuncData} (iE:Gf K mg "times" gL n1 jl jm)
  (r_:aU P w K mg base CX0 1 jl jm n1 (spD K gW 3)) :
  aU P w K mg base CX0 2 oy oA n50 (spD K lR 3) :=
 bT .V oB.F fg λcdv A outer s H E hr=>(aj (aJ 3 fg.nd (CF.cell Ey))
 (aj (aJ 4 fg.nd (CF.cell (jz aw)))
 (aj (fI PassesOwn.never rfl (dm (ae 1)) (aQ 5 fg.nd) (aj (aJ 6 fg.nd (ae 5))
 (aj (fI PassesOwn.never rfl (xH (ae 3)) (mz 7 8 fg.nd rfl) (av (aJ 6 fg.nd (aG xU (hr.mono (by decide)) jn.m jn.F.kp jn.b (ah (ae 0) (ah (ae 6) (ah (ae 8) (ah (ae 7) aw))))))))
 (aj (aJ 9 fg.nd (aG r8 (hr.mono (by decide)) fe.m fe.F.kp fe.b (ah (ae 6) (ah (ae 2) aw))))
 (av (dw (EC (ae 9)) (av (eL (ae 4) (ae 6))) (aj (aJ 10 fg.nd (aG r_ (hr.mono (by decide)) iE.m iE.F.kp iE.b (ah (ae 0) (ah (aG wj (hr.mono (by decide)) kA.m kA.F.kp kA.b (ah (ae 0) (ah ak (ah (aF (ae 6) (ae 9)) aw)))) (ah (ae 6) aw)))))
 (aj (fI PassesOwn.never rfl (dm (CF.ce (EI T.rY (ae 3)))) (aQ 7 fg.nd) (av (vK hr 3 (ae 7) (aG xU (hr.mono (by decide)) jn.m jn.F.kp jn.b (ah (ae 0) (ah (vJ hr (ae 3) (ae 7)) (ah (ae 10) (ah (ae 9) aw))))))))
 (av (vK hr 3 (ae 9) (ae 10)))))))))))
 (av (aL (jy (ah (ae 3) (ah (ae 4) aw))))))))
theorem tQ:aR n5 n5 (ai cu):=⟨rfl,rfl,rfl,by decide +kernel,rfl,by decide +kernel,by decide +kernel⟩
theorem sd{fV:Addr}{fW:FuncData}(T:Tx K mg)(fX:Gf K mg "numbers_at" cu n5 fV fW) :
  aU P w K mg base CX0 1 fV fW n5 (spD K eZ 3) :=
 bT .V fX.F tQ λcdv A outer s H E hr=>(av (aL (CF.ce (bw (N':=n4) rfl (az (ai cu) rfl n5 rfl (by decide +kernel)) rfl (aD rfl) (dm (ae 1)) (λ_ _ _ _ _=>(aQ 0 (show n4.Nodup by decide +kernel))) (λ_ _ _ _ _=>bu) (λ_ _ _ _ _=>(bx (aF (ae 0) (ae 2)) (ae 1)))))))
theorem Bi:aR n51 n52 (ai lY):=⟨rfl,rfl,rfl,by decide +kernel,rfl,by decide +kernel,by decide +kernel⟩
theorem Fd{se:Addr}{sf:FuncData}(T:Tx K mg)(sg:Gf K mg "unit" lY n52 se sf) :
  aU P w K mg base CX0 1 se sf n52 (spD K oi 2) :=
 bT .V sg.F Bi λcdv A outer s H E hr=>(aj (aJ 2 Bi.nd (CF.cell (Ez (ah ak aw) (ae 0))))
 (aj (rF 2 (ae 1) ak)
 (av (aL (ae 2)))))
theorem jo:aR n53 n54 (ai lZ):=⟨rfl,rfl,rfl,by decide +kernel,rfl,by decide +kernel,by decide +kernel⟩
theorem Fe{si:Addr}{sj:FuncData}(T:Tx K mg)(sk:Gf K mg "held" lZ n54 si sj)
  {fV:Addr}{fW:FuncData} (fX:Gf K mg "numbers_at" cu n5 fV fW)
  (tR:aU P w K mg base CX0 1 fV fW n5 (spD K eZ 3))
  {se:Addr}{sf:FuncData} (sg:Gf K mg "unit" lY n52 se sf)
  (Iw:aU P w K mg base CX0 1 se sf n52 (spD K oi 2))
  {oy:Addr}{oA:FuncData} (oB:Gf K mg "eased" jk n50 oy oA)
  (Ff:aU P w K mg base CX0 2 oy oA n50 (spD K lR 3))
  {me:Addr}{mf:FuncData} (kA:Gf K mg "over" ky n45 me mf)
  (wj:aU P w K mg base CX0 1 me mf n45 (spD K jf 3))
  {jl:Addr}{jm:FuncData} (iE:Gf K mg "times" gL n1 jl jm)
  (r_:aU P w K mg base CX0 1 jl jm n1 (spD K gW 3)) :
  aU P w K mg base CX0 3 si sj n54 (spD K jg 4) :=
 bT .K sk.F jo λcdv A outer s H E hr=>(aj (aJ 4 jo.nd (iS T.l_ (ae 2)))
 (aj (aJ 5 jo.nd (CF.cell (jz aw)))
 (aj (fI PassesOwn.never rfl (bJ T.cU (ae 1)) (aQ 6 jo.nd) (av (eL (ae 5) (dz (dz (aG tR (hr.mono (by decide)) fX.m fX.F.kp fX.b (ah (ae 0) (ah (ae 2) (ah (ae 6) aw)))) (CF.ce (jz (ah (bx (aF (ae 3) (ae 6)) (ae 0)) aw)))) (aG Iw (hr.mono (by decide)) sg.m sg.F.kp sg.b (ah (ae 1) (ah (ae 6) aw)))))))
 (aj (aJ 7 jo.nd (aG Ff (hr.mono (by decide)) oB.m oB.F.kp oB.b (ah (ae 0) (ah (ae 5) (ah (ae 4) aw)))))
 (aj (fI PassesOwn.never rfl (dm (aF (ae 7) ak)) (aQ 8 jo.nd) (av (dw (kP hr (aF (ae 8) (ae 4)) ak) (av (aL (qT (ah kc (ah (fT T.fF (aG r_ (hr.mono (by decide)) iE.m iE.F.kp iE.b (ah (ae 0) (ah (aG wj (hr.mono (by decide)) kA.m kA.F.kp kA.b (ah (ae 0) (ah ak (ah (aF (ae 8) (ae 4)) aw)))) (ah (K_ (ae 8) (H_ (dz (ae 4) ak)) HZ) aw))))) aw))))) bF)))
 (aj (aJ 9 jo.nd (CF.cell (Ez (ah ak aw) (ae 4))))
 (aj (fI PassesOwn.never rfl (xH (aF (ae 7) ak)) (mz 6 10 jo.nd rfl) (av (rF 9 (ae 6) (aF (ae 10) (ae 4)))))
 (av (aL (qT (ah kc (ah (ae 9) aw))))))))))))
theorem zT:aR n7 n7 (ai eM):=⟨rfl,rfl,rfl,by decide +kernel,rfl,by decide +kernel,by decide +kernel⟩
theorem xV{jO:Addr}{jP:FuncData}(T:Tx K mg)(jQ:Gf K mg "rows_of" eM n7 jO jP) :
  aU P w K mg base CX0 1 jO jP n7 (spD K bW 2) :=
 bT .V jQ.F zT λcdv A outer s H E hr=>(av (aL (CF.ce (bw (N':=n6) rfl (az (ai eM) rfl n7 rfl (by decide +kernel)) rfl (ja rfl rfl) (Ii T.xS (aF (ae 0) ak)) (λ_ _ _ _ _=>(mz 0 1 (show n6.Nodup by decide +kernel) rfl)) (λ_ _ _ _ _=>(cG (Jo hr (aF (ae 1) ak) (ae 2)))) (λ_ _ _ _ _=>(ae 0))))))
theorem xW:aR n9 n9 (ai dM):=⟨rfl,rfl,rfl,by decide +kernel,rfl,by decide +kernel,by decide +kernel⟩
theorem wm{iW:Addr}{iX:FuncData}(T:Tx K mg)(iY:Gf K mg "lines_at" dM n9 iW iX) :
  aU P w K mg base CX0 1 iW iX n9 (spD K cO 2) :=
 bT .V iY.F xW λcdv A outer s H E hr=>(av (aL (CF.ce (bw (N':=n8) rfl (az (ai dM) rfl n9 rfl (by decide +kernel)) rfl (aD rfl) (dm (ae 1)) (λ_ _ _ _ _=>(aQ 0 (show n8.Nodup by decide +kernel))) (λ_ _ _ _ _=>bu) (λ_ _ _ _ _=>(aF (aF (aF (ae 1) ak) (ae 0)) ak))))))
theorem sm:aR n11 n11 (ai bZ):=⟨rfl,rfl,rfl,by decide +kernel,rfl,by decide +kernel,by decide +kernel⟩
theorem pX{fh:Addr}{fj:FuncData}(T:Tx K mg)(fk:Gf K mg "hidden_line" bZ n11 fh fj) :
  aU P w K mg base CX0 1 fh fj n11 (spD K bO 1) :=
 bT .V fk.F sm λcdv A outer s H E hr=>(av (aL (fT T.fF (CF.ce (bw (N':=n10) rfl (az (ai bZ) rfl n11 rfl (by decide +kernel)) rfl (aD rfl) (bJ T.cU (ae 0)) (λ_ _ _ _ _=>(aQ 0 (show n10.Nodup by decide +kernel))) (λ_ _ _ _ _=>bu) (λ_ _ _ _ _=>(KU (mQ hr (ae 0) ak) ak ak)))))))
theorem oE:aR n55 n9 (ai dD):=⟨rfl,rfl,rfl,by decide +kernel,rfl,by decide +kernel,by decide +kernel⟩
theorem tS{gY:Addr}{gZ:FuncData}(T:Tx K mg)(g_:Gf K mg "opened_by" dD n9 gY gZ)
  {iW:Addr}{iX:FuncData} (iY:Gf K mg "lines_at" dM n9 iW iX)
  (xX:aU P w K mg base CX0 1 iW iX n9 (spD K cO 2))
  {fh:Addr}{fj:FuncData} (fk:Gf K mg "hidden_line" bZ n11 fh fj)
  (su:aU P w K mg base CX0 1 fh fj n11 (spD K bO 1))
  {si:Addr}{sj:FuncData} (sk:Gf K mg "held" lZ n54 si sj)
  (Iy:aU P w K mg base CX0 3 si sj n54 (spD K jg 4)) :
  aU P w K mg base CX0 4 gY gZ n9 (spD K bP 2) :=
 bT .K g_.F oE λcdv A outer s H E hr=>(aj (aJ 2 oE.nd (aG Iy (hr.mono (by decide)) sk.m sk.F.kp sk.b (ah (aF (ae 0) ak) (ah (aF (ae 0) ak) (ah (aG xX (hr.mono (by decide)) iY.m iY.F.kp iY.b (ah (ae 0) (ah (ae 1) aw))) (ah (aG su (hr.mono (by decide)) fk.m fk.F.kp fk.b (ah (aF (ae 0) ak) aw)) aw))))))
 (aj (dw (mQ hr (aF (ae 2) ak) kc) (av (aL (qT (ah kc (ah (aF (ae 2) ak) aw))))) bF)
 (av (aL (qT (ah kc (ah (aF (ae 2) ak) aw)))))))
theorem Fg:aR n7 n7 (ai iD):=⟨rfl,rfl,rfl,by decide +kernel,rfl,by decide +kernel,by decide +kernel⟩
theorem CL{jq:Addr}{jr:FuncData}(T:Tx K mg)(iF:Gf K mg "opens" iD n7 jq jr)
  {jO:Addr}{jP:FuncData} (jQ:Gf K mg "rows_of" eM n7 jO jP)
  (zU:aU P w K mg base CX0 1 jO jP n7 (spD K bW 2))
  {gY:Addr}{gZ:FuncData} (g_:Gf K mg "opened_by" dD n9 gY gZ)
  (wo:aU P w K mg base CX0 4 gY gZ n9 (spD K bP 2)) :
  aU P w K mg base CX0 5 jq jr n7 (spD K ck 2) :=
 bT .V iF.F Fg λcdv A outer s H E hr=>(av (aL (aG wo (hr.mono (by decide)) g_.m g_.F.kp g_.b (ah (ae 0) (ah (aG zU (hr.mono (by decide)) jQ.m jQ.F.kp jQ.b (ah (ae 0) (ah (ae 1) aw))) aw)))))
theorem wq:aR n7 n7 (ai dE):=⟨rfl,rfl,rfl,by decide +kernel,rfl,by decide +kernel,by decide +kernel⟩
theorem tT{hG:Addr}{hU:FuncData}(T:Tx K mg)(hV:Gf K mg "is_opened" dE n7 hG hU)
  {jq:Addr}{jr:FuncData} (iF:Gf K mg "opens" iD n7 jq jr)
  (sx:aU P w K mg base CX0 5 jq jr n7 (spD K ck 2)) :
  aU P w K mg base CX0 6 hG hU n7 (spD K bQ 2) :=
 bT .V hV.F wq λcdv A outer s H E hr=>(av (aL (rq hr (aF (aG sx (hr.mono (by decide)) iF.m iF.F.kp iF.b (ah (ae 0) (ah (ae 1) aw))) ak) kc)))
theorem gM:aR n13 n56 (ai cw):=⟨rfl,rfl,rfl,by decide +kernel,rfl,by decide +kernel,by decide +kernel⟩
theorem sy{fY:Addr}{fZ:FuncData}(T:Tx K mg)(f_:Gf K mg "sets_below" cw n56 fY fZ) :
  aU P w K mg base CX0 1 fY fZ n56 (spD K bD 1) :=
 bT .V f_.F gM λcdv A outer s H E hr=>(aj (aJ 1 gM.nd (CF.ce (jz (ah (jy aw) aw))))
 (aj (fI PassesOwn.never rfl (bJ T.cU (ae 0)) (aQ 2 gM.nd) (av (aJ 1 gM.nd (dz (ae 1) (CF.ce (bw (N':=n12) rfl (az (ai cw) rfl n13 rfl (by decide +kernel)) rfl (aD rfl) (dm (ae 1)) (λ_ _ _ _ _=>(aQ 0 (show n12.Nodup by decide +kernel))) (λ_ _ _ _ _=>bu) (λ_ _ _ _ _=>(dz (ae 0) (jy (ah (ae 1) aw))))))))))
 (av (aL (ae 1)))))
theorem zV:aR n12 n12 (ai eN):=⟨rfl,rfl,rfl,by decide +kernel,rfl,by decide +kernel,by decide +kernel⟩
theorem xY{jR:Addr}{jS:FuncData}(T:Tx K mg)(jT:Gf K mg "without" eN n12 jR jS) :
  aU P w K mg base CX0 1 jR jS n12 (spD K eh 2) :=
 bT .V jT.F zV λcdv A outer s H E hr=>(av (aL (fT T.fF (CF.ce (bw (N':=n14) rfl (az (ai eN) rfl n12 rfl (by decide +kernel)) rfl (aD rfl) (dm (ae 0)) (λ_ _ _ _ _=>(aQ 0 (show n14.Nodup by decide +kernel))) (λ_ _ _ _ _=>(cG (kP hr (ae 0) (ae 1)))) (λ_ _ _ _ _=>(ae 0)))))))
theorem pf:aR n12 n12 (ai bR):=⟨rfl,rfl,rfl,by decide +kernel,rfl,by decide +kernel,by decide +kernel⟩
theorem oF{dS:Addr}{dU:FuncData}(T:Tx K mg)(dW:Gf K mg "with_one_more" bR n12 dS dU) :
  aU P w K mg base CX0 1 dS dU n12 (spD K bK 2) :=
 bT .V dW.F pf λcdv A outer s H E hr=>(av (aL (fT T.fF (zp T.rZ (dz (ae 0) (jy (ah (ae 1) aw)))))))
theorem xZ:aR n16 n16 (ai dN):=⟨rfl,rfl,rfl,by decide +kernel,rfl,by decide +kernel,by decide +kernel⟩
theorem wt{iZ:Addr}{i4:FuncData}(T:Tx K mg)(i5:Gf K mg "is_least" dN n16 iZ i4)
  {jR:Addr}{jS:FuncData} (jT:Gf K mg "without" eN n12 jR jS)
  (zW:aU P w K mg base CX0 1 jR jS n12 (spD K eh 2)) :
  aU P w K mg base CX0 2 iZ i4 n16 (spD K b8 2) :=
 bT .V i5.F xZ λcdv A outer s H E hr=>(av (aL (vq (qj hr (ae 0) (ae 1)) (vp (D4 (o5 hr T.uK (CF.ce (bw (N':=n15) rfl (az (ai dN) rfl n16 rfl (by decide +kernel)) rfl (aD rfl) (dm (ae 1)) (λ_ _ _ _ _=>(aQ 0 (show n15.Nodup by decide +kernel))) (λ_ _ _ _ _=>bu) (λ_ _ _ _ _=>(qj hr (ae 1) (aG zW (hr.mono (by decide)) jT.m jT.F.kp jT.b (ah (ae 2) (ah (ae 0) aw)))))))))))))
theorem sA:aR n17 n17 (ai b4):=⟨rfl,rfl,rfl,by decide +kernel,rfl,by decide +kernel,by decide +kernel⟩
theorem pY{fm:Addr}{fo:FuncData}(T:Tx K mg)(fq:Gf K mg "is_greatest" b4 n17 fm fo)
  {dS:Addr}{dU:FuncData} (dW:Gf K mg "with_one_more" bR n12 dS dU)
  (pg:aU P w K mg base CX0 1 dS dU n12 (spD K bK 2)) :
  aU P w K mg base CX0 2 fm fo n17 (spD K br 3) :=
 bT .V fq.F sA λcdv A outer s H E hr=>(aj (dw (d5 (qj hr (ae 0) (ae 2))) (av (aL kO)) bF)
 (av (aL (rE hr T.xR (CF.ce (bw (N':=n15) rfl (az (ai b4) rfl n17 rfl (by decide +kernel)) rfl (aD rfl) (bJ T.cU (ae 1)) (λ_ _ _ _ _=>(aQ 0 (show n15.Nodup by decide +kernel))) (λ_ _ _ _ _=>(cG (zj hr (ae 0) (ae 2)))) (λ_ _ _ _ _=>(qj hr (ae 1) (aG pg (hr.mono (by decide)) dW.m dW.F.kp dW.b (ah (ae 2) (ah (ae 0) aw)))))))))))
theorem gf:aR n19 n57 (ai b9):=⟨rfl,rfl,rfl,by decide +kernel,rfl,by decide +kernel,by decide +kernel⟩
theorem tU{dF:Addr}{dG:FuncData}(T:Tx K mg)(cV:Gf K mg "open_sets" b9 n57 dF dG)
  {fY:Addr}{fZ:FuncData} (f_:Gf K mg "sets_below" cw n56 fY fZ)
  (tV:aU P w K mg base CX0 1 fY fZ n56 (spD K bD 1))
  {hG:Addr}{hU:FuncData} (hV:Gf K mg "is_opened" dE n7 hG hU)
  (wu:aU P w K mg base CX0 6 hG hU n7 (spD K bQ 2))
  {iZ:Addr}{i4:FuncData} (i5:Gf K mg "is_least" dN n16 iZ i4)
  (x_:aU P w K mg base CX0 2 iZ i4 n16 (spD K b8 2))
  {fm:Addr}{fo:FuncData} (fq:Gf K mg "is_greatest" b4 n17 fm fo)
  (sC:aU P w K mg base CX0 2 fm fo n17 (spD K br 3)) :
  aU P w K mg base CX0 7 dF dG n57 (spD K bG 2) :=
 bT .V cV.F gf λcdv A outer s H E hr=>(aj (aJ 2 gf.nd (CF.cell Lh))
 (aj (fI PassesOwn.never rfl (dm (aG tV (hr.mono (by decide)) f_.m f_.F.kp f_.b (ah (ae 1) aw))) (aQ 3 gf.nd) (av (Ip hr 2 (ae 3) (aG wu (hr.mono (by decide)) hV.m hV.F.kp hV.b (ah (ae 0) (ah (ae 3) aw))))))
 (aj (iO (gS 4 (N':=n18) rfl (az (ai b9) rfl n19 rfl (by decide +kernel)) rfl (aD rfl) (xK (ae 2)) (λ_ _ _ _ _=>(aQ 0 (show n18.Nodup by decide +kernel))) (λ_ _ _ _ _=>(cG (d5 (aG x_ (hr.mono (by decide)) i5.m i5.F.kp i5.b (ah (ae 1) (ah (ae 0) aw)))))) (λ_ _ _ _ _=>(CF.ce (A5 T.rY (ae 0)))) gf.nd) λ_ _ _ _ h=>iI h)
 (aj (iO (gS 5 (N':=n20) rfl (az (ai b9) rfl n19 rfl (by decide +kernel)) rfl (aD rfl) (xK (ae 2)) (λ_ _ _ _ _=>(aQ 0 (show n20.Nodup by decide +kernel))) (λ_ _ _ _ _=>(cG (d5 (aG sC (hr.mono (by decide)) fq.m fq.F.kp fq.b (ah (ae 1) (ah (ae 2) (ah (ae 0) aw))))))) (λ_ _ _ _ _=>(CF.ce (A5 T.rY (ae 0)))) gf.nd) λ_ _ _ _ h=>iI h)
 (av (aL (qT (ah (CF.cell (rM hr T.rZ (ae 4))) (ah (CF.cell (rM hr T.rZ (ae 5))) aw)))))))))
theorem ql:aR n22 n57 (ai fU):=⟨rfl,rfl,rfl,by decide +kernel,rfl,by decide +kernel,by decide +kernel⟩
theorem Fh{ij:Addr}{ip:FuncData}(T:Tx K mg)(gg:Gf K mg "idle" fU n57 ij ip)
  {dF:Addr}{dG:FuncData} (cV:Gf K mg "open_sets" b9 n57 dF dG)
  (kB:aU P w K mg base CX0 7 dF dG n57 (spD K bG 2)) :
  aU P w K mg base CX0 8 ij ip n57 (spD K mE 2) :=
 bT .D gg.F ql λcdv A outer s H E hr=>(aj (aJ 2 ql.nd (aF (aG kB (hr.mono (by decide)) cV.m cV.F.kp cV.b (ah (ae 0) (ah (ae 1) aw))) ak))
 (av (aL (CF.cell (bw (N':=n21) rfl (az (ai fU) rfl n22 rfl (by decide +kernel)) rfl (aD rfl) (bJ T.cU (ae 1)) (λ_ _ _ _ _=>(aQ 0 (show n21.Nodup by decide +kernel))) (λ_ _ _ _ _=>(cG (ia (d5 (o5 hr T.uK (CF.ce (bw (N':=n12) rfl (fS (ai fU) rfl (by decide +kernel)) rfl (aD rfl) (dm (ae 1)) (λ_ _ _ _ _=>(aQ 0 (show n12.Nodup by decide +kernel))) (λ_ _ _ _ _=>bu) (λ_ _ _ _ _=>(A8 hr (ae 1) (ae 0)))))))))) (λ_ _ _ _ _=>(ae 0)))))))
theorem Fi{ij:Addr}{ip:FuncData}(T:Tx K mg)(gg:Gf K mg "idle" fU n57 ij ip)
  {dF:Addr}{dG:FuncData} (cV:Gf K mg "open_sets" b9 n57 dF dG)
  (kB:aU P w K mg base CX0 7 dF dG n57 (spD K bG 2)) :
  aU P w K mg base CX0 8 ij ip n57 (spD K ji 2) :=
 bT .V gg.F ql λcdv A outer s H E hr=>(aj (aJ 2 ql.nd (aF (aG kB (hr.mono (by decide)) cV.m cV.F.kp cV.b (ah (ae 0) (ah (ae 1) aw))) ak))
 (av (aL (CF.cell (bw (N':=n21) rfl (az (ai fU) rfl n22 rfl (by decide +kernel)) rfl (aD rfl) (bJ T.cU (ae 1)) (λ_ _ _ _ _=>(aQ 0 (show n21.Nodup by decide +kernel))) (λ_ _ _ _ _=>(cG (ia (d5 (o5 hr T.uK (CF.ce (bw (N':=n12) rfl (fS (ai fU) rfl (by decide +kernel)) rfl (aD rfl) (dm (ae 1)) (λ_ _ _ _ _=>(aQ 0 (show n12.Nodup by decide +kernel))) (λ_ _ _ _ _=>bu) (λ_ _ _ _ _=>(A8 hr (ae 1) (ae 0)))))))))) (λ_ _ _ _ _=>(ae 0)))))))
theorem sD:aR n24 n57 (ai eO):=⟨rfl,rfl,rfl,by decide +kernel,rfl,by decide +kernel,by decide +kernel⟩
theorem ya{jU:Addr}{jV:FuncData}(T:Tx K mg)(jW:Gf K mg "trimmed" eO n57 jU jV)
  {ij:Addr}{ip:FuncData} (gg:Gf K mg "idle" fU n57 ij ip)
  (wx:aU P w K mg base CX0 8 ij ip n57 (spD K ji 2)) :
  aU P w K mg base CX0 9 jU jV n57 (spD K gE 2) :=
 bT .V jW.F sD λcdv A outer s H E hr=>(aj (aJ 2 sD.nd (aG wx (hr.mono (by decide)) gg.m gg.F.kp gg.b (ah (ae 0) (ah (ae 1) aw))))
 (av (aL (jy (ah (aF (ae 0) ak) (ah (aF (ae 0) ak) (ah (fT T.fF (CF.ce (bw (N':=n23) rfl (az (ai eO) rfl n24 rfl (by decide +kernel)) rfl (aD rfl) (dm (aF (ae 0) ak)) (λ_ _ _ _ _=>(aQ 0 (show n23.Nodup by decide +kernel))) (λ_ _ _ _ _=>(cG (zj hr (aF (ae 0) ak) (ae 1)))) (λ_ _ _ _ _=>(ae 0))))) aw)))))))
theorem kC:aR n58 n59 (ai cP):=⟨rfl,rfl,rfl,by decide +kernel,rfl,by decide +kernel,by decide +kernel⟩
theorem tW{dH:Addr}{dI:FuncData}(T:Tx K mg)(aS:Gf K mg "_law_cell" cP n59 dH dI) :
  aU P w K mg base CX0 1 dH dI n59 (spD K bg 2) :=
 bT .V aS.F kC λcdv A outer s H E hr=>(aj (dw (A3 (ae 1) (iS T.l_ (ae 0))) (av (aL (aF (ae 0) (ae 1)))) bF)
 (aj (aJ 2 kC.nd (dz (d6 (ae 1) ak) ak))
 (aj (dw (Ni (iS T.l_ (ae 0)) ak) (av (aJ 2 kC.nd (dz (ae 2) (d6 (bx (aF (ae 0) (bx (d6 (ae 1) ak) (iS T.l_ (ae 0)))) ak) ak)))) bF)
 (av (aL (bx (d6 (bx (d6 (ae 2) (ae 2)) ak) ak) ak))))))
theorem mS:aR n60 n61 (ai cQ):=⟨rfl,rfl,rfl,by decide +kernel,rfl,by decide +kernel,by decide +kernel⟩
theorem sE{gh:Addr}{gi:FuncData}(T:Tx K mg)(gj:Gf K mg "_law_mixed" cQ n61 gh gi) :
  aU P w K mg base CX0 1 gh gi n61 (spD K jC 2) :=
 bT .V gj.F mS λcdv A outer s H E hr=>(aj (aJ 2 mS.nd (bx (d6 (dz (bx (ae 0) ak) ak) (dz ak (d6 (ae 1) (ae 1)))) ak))
 (av (aL (bx (d6 (bx (d6 (ae 2) (dz (ae 2) (d6 ak (ae 1)))) ak) ak) ak))))
theorem fG:aR n62 n63 (ai b_):=⟨rfl,rfl,rfl,by decide +kernel,rfl,by decide +kernel,by decide +kernel⟩
theorem ph{eo:Addr}{eA:FuncData}(T:Tx K mg)(eB:Gf K mg "_law_numbers" b_ n63 eo eA)
  {gh:Addr}{gi:FuncData} (gj:Gf K mg "_law_mixed" cQ n61 gh gi)
  (tX:aU P w K mg base CX0 1 gh gi n61 (spD K jC 2)) :
  aU P w K mg base CX0 2 eo eA n63 (spD K ic 4) :=
 bT .D eB.F fG λcdv A outer s H E hr=>(aj (aJ 4 fG.nd (CF.cell (jz aw)))
 (aj (fI PassesOwn.never rfl (bJ T.cU (ae 2)) (aQ 5 fG.nd) (av (dw (d5 (ae 3)) (aj (eL (ae 4) (bx (ae 0) (ae 1)))
 (av (aJ 0 fG.nd (ib (ae 0) (ae 1))))) (av (eL (ae 4) (bx (ib (aG tX (hr.mono (by decide)) gj.m gj.F.kp gj.b (ah (ae 0) (ah (ae 5) aw))) ak) (ae 1)))))))
 (av (aL (ae 4)))))
theorem aY:aR n64 n65 (ai cR):=⟨rfl,rfl,rfl,by decide +kernel,rfl,by decide +kernel,by decide +kernel⟩
theorem sF{gk:Addr}{gm:FuncData}(T:Tx K mg)(gn:Gf K mg "_law_table" cR n65 gk gm)
  {dH:Addr}{dI:FuncData} (aS:Gf K mg "_law_cell" cP n59 dH dI)
  (dO:aU P w K mg base CX0 1 dH dI n59 (spD K bg 2))
  {eo:Addr}{eA:FuncData} (eB:Gf K mg "_law_numbers" b_ n63 eo eA)
  (pZ:aU P w K mg base CX0 2 eo eA n63 (spD K ic 4)) :
  aU P w K mg base CX0 3 gk gm n65 (spD K e8 3) :=
 bT .V gn.F aY λcdv A outer s H E hr=>(aj (aJ 3 aY.nd (aG dO (hr.mono (by decide)) aS.m aS.F.kp aS.b (ah (ae 0) (ah (ae 1) aw))))
 (aj (aJ 4 aY.nd (rq hr (bx (ae 3) ak) ak))
 (aj (aJ 5 aY.nd (dz ak (bx (ib (ae 3) ak) ak)))
 (aj (aJ 6 aY.nd (bx (ib (ae 3) ak) ak))
 (aj (aJ 7 aY.nd (dz ak (bx (ib (ae 3) ak) ak)))
 (aj (dw (mQ hr (bx (ib (ae 3) ak) ak) ak) (aj (aJ 5 aY.nd (dz (ae 5) ak))
 (av (aJ 6 aY.nd (dz (ae 6) ak)))) bF)
 (aj (aJ 8 aY.nd (CF.cell (jz aw)))
 (aj (fI PassesOwn.never rfl (bJ T.cU (ae 6)) (aQ 9 aY.nd) (aj (aJ 3 aY.nd (aG dO (hr.mono (by decide)) aS.m aS.F.kp aS.b (ah (ae 0) (ah (dz (dz (ae 1) ak) (ae 9)) aw))))
 (aj (aJ 10 aY.nd (aG pZ (hr.mono (by decide)) eB.m eB.F.kp eB.b (ah (ib (ae 3) ak) (ah (ae 2) (ah (ae 5) (ah (ae 4) aw))))))
 (aj (dw (mQ hr (bx (ib (ae 3) ak) ak) ak) (aj (aJ 11 aY.nd (bx (ib (ae 3) ak) (ae 2)))
 (aj (aJ 10 aY.nd (CF.cell (jz (ah ak aw))))
 (av (xt PassesOwn.never (A3 (iS T.l_ (ae 10)) (ae 5)) (av (eL (ae 10) (bx (d6 (aF (ae 10) (Em ak)) (ae 11)) (ae 2)))))))) bF)
 (av (eL (ae 8) (jy (ah (bx (ae 3) (ae 7)) (ah (fT T.fF (ae 10)) aw)))))))))
 (av (aL (jy (ah (ae 2) (ah (ae 5) (ah (fT T.fF (ae 8)) aw))))))))))))))
theorem CM:aR n66 n66 (ai gX):=⟨rfl,rfl,rfl,by decide +kernel,rfl,by decide +kernel,by decide +kernel⟩
theorem zX{mi:Addr}{mj:FuncData}(T:Tx K mg)(ml:Gf K mg "_law_p" gX n66 mi mj) :
  aU P w K mg base CX0 1 mi mj n66 (spD K jN 1) :=
 bT .V ml.F CM λcdv A outer s H E hr=>(av (aL (aF (CF.ce (jz (ah ak (ah ak (ah ak (ah ak (ah ak (ah ak (ah ak (ah ak aw)))))))))) (bx (ae 0) ak))))
theorem wy:aR n26 n26 (ai cS):=⟨rfl,rfl,rfl,by decide +kernel,rfl,by decide +kernel,by decide +kernel⟩
theorem tY{hX:Addr}{hZ:FuncData}(T:Tx K mg)(h7:Gf K mg "_law_rows" cS n26 hX hZ) :
  aU P w K mg base CX0 1 hX hZ n26 (spD K kx 2) :=
 bT .V h7.F wy λcdv A outer s H E hr=>(av (aL (CF.ce (bw (N':=n25) rfl (az (ai cS) rfl n26 rfl (by decide +kernel)) rfl (aD rfl) (bJ T.cU (iS T.l_ (aF (ae 0) ak))) (λ_ _ _ _ _=>(aQ 0 (show n25.Nodup by decide +kernel))) (λ_ _ _ _ _=>(cG (Jo hr (aF (aF (aF (ae 2) ak) (ae 0)) ak) (ae 1)))) (λ_ _ _ _ _=>(ae 0))))))
theorem tZ:aR n27 n27 (ai cx):=⟨rfl,rfl,rfl,by decide +kernel,rfl,by decide +kernel,by decide +kernel⟩
theorem sG{cW:Addr}{cX:FuncData}(T:Tx K mg)(cz:Gf K mg "_law_whole" cx n27 cW cX) :
  aU P w K mg base CX0 1 cW cX n27 (spD K e9 2) :=
 bT .V cz.F tZ λcdv A outer s H E hr=>(av (aL (vq (Ca T.cT T.E9 (ae 0)) (vq (D4 (rz T.cT T.E8 (ae 0))) (vp (rG ak (ae 0) (ae 1)))))))
theorem fH:aR n28 n67 (ai bE):=⟨rfl,rfl,rfl,by decide +kernel,rfl,by decide +kernel,by decide +kernel⟩
theorem pj{eC:Addr}{eD:FuncData}(T:Tx K mg)(eE:Gf K mg "_law_opening" bE n67 eC eD)
  {cW:Addr}{cX:FuncData} (cz:Gf K mg "_law_whole" cx n27 cW cX)
  (jD:aU P w K mg base CX0 1 cW cX n27 (spD K e9 2)) :
  aU P w K mg base CX0 2 eC eD n67 (spD K ie 3) :=
 bT .V eE.F fH λcdv A outer s H E hr=>(aj (EN (EM 3 4 5 fH.nd rfl) (ae 0))
 (aj (dw (CW.ct (nU (ia (d5 (rA T.cT T.rY (ae 2)))) (gB (kP hr (iS T.l_ (ae 2)) (iS T.l_ (ae 1)))))) (av (aL kO)) bF)
 (aj (dw (ia (d5 (rE hr T.xR (CF.ce (bw (N':=n27) rfl (az (ai bE) rfl n28 rfl (by decide +kernel)) rfl (aD rfl) (dm (ae 2)) (λ_ _ _ _ _=>(aQ 0 (show n27.Nodup by decide +kernel))) (λ_ _ _ _ _=>bu) (λ_ _ _ _ _=>(aG jD (hr.mono (by decide)) cz.m cz.F.kp cz.b (ah (ae 0) (ah (ae 1) aw))))))))) (av (aL kO)) bF)
 (aj (fI PassesOwn.never rfl (bJ T.cU (ae 4)) (aQ 6 fH.nd) (aj (aJ 7 fH.nd (Ew hr T.Jq (CF.ce (bw (N':=n29) rfl (az (ai bE) rfl n28 rfl (by decide +kernel)) rfl (ja rfl rfl) (ze T.E_ (ae 1) (ae 2)) (λ_ _ _ _ _=>(mz 0 1 (show n29.Nodup by decide +kernel) rfl)) (λ_ _ _ _ _=>bu) (λ_ _ _ _ _=>(d6 (ae 1) (aF (aF (aF (ae 3) (ae 0)) ak) (ae 2))))))))
 (av (dw (kP hr (bx (ae 7) (ae 3)) (A9 T.E9 (rq hr (ae 6) ak))) (av (aL kO)) bF))))
 (av (aL kO))))))
theorem kQ:aR n30 n68 (ai bt):=⟨rfl,rfl,rfl,by decide +kernel,rfl,by decide +kernel,by decide +kernel⟩
theorem pk{eF:Addr}{eG:FuncData}(T:Tx K mg)(eI:Gf K mg "_law_turning" bt n68 eF eG)
  {cW:Addr}{cX:FuncData} (cz:Gf K mg "_law_whole" cx n27 cW cX)
  (jD:aU P w K mg base CX0 1 cW cX n27 (spD K e9 2)) :
  aU P w K mg base CX0 2 eF eG n68 (spD K ig 3) :=
 bT .V eI.F kQ λcdv A outer s H E hr=>(aj (EN (EM 3 4 5 kQ.nd rfl) (ae 0))
 (aj (dw (CW.ct (nU (ia (d5 (lP T.cT T.fF (ae 2)))) (nU (kP hr (iS T.l_ (ae 2)) (ae 4)) (gB (ia (d5 (rE hr T.xR (CF.ce (bw (N':=n27) rfl (az (ai bt) rfl n30 rfl (by decide +kernel)) rfl (aD rfl) (dm (ae 2)) (λ_ _ _ _ _=>(aQ 0 (show n27.Nodup by decide +kernel))) (λ_ _ _ _ _=>bu) (λ_ _ _ _ _=>(aG jD (hr.mono (by decide)) cz.m cz.F.kp cz.b (ah (ae 0) (ah (ae 1) aw))))))))))))) (av (aL kO)) bF)
 (aj (dw (kP hr (aF (ae 2) ak) ak) (av (aL kO)) bF)
 (av (aL (rE hr T.xR (CF.ce (bw (N':=n32) rfl (az (ai bt) rfl n30 rfl (by decide +kernel)) rfl (aD rfl) (dm (ae 1)) (λ_ _ _ _ _=>(aQ 0 (show n32.Nodup by decide +kernel))) (λ_ _ _ _ _=>bu) (λ_ _ _ _ _=>(rq hr (bx (Ew hr T.Jq (CF.ce (bw (N':=n31) rfl (fS (ai bt) rfl (by decide +kernel)) rfl (ja rfl rfl) (ze T.E_ (aF (aF (ae 3) (ae 0)) ak) (ae 2)) (λ_ _ _ _ _=>(mz 0 1 (show n31.Nodup by decide +kernel) rfl)) (λ_ _ _ _ _=>bu) (λ_ _ _ _ _=>(d6 (ae 0) (ae 1)))))) (ae 1)) ak))))))))))
theorem i6:aR n69 n70 (ai bA):=⟨rfl,rfl,rfl,by decide +kernel,rfl,by decide +kernel,by decide +kernel⟩
theorem mL{cY:Addr}{cZ:FuncData}(T:Tx K mg)(c_:Gf K mg "_law_is_opening" bA n70 cY cZ)
  {hX:Addr}{hZ:FuncData} (h7:Gf K mg "_law_rows" cS n26 hX hZ)
  (wz:aU P w K mg base CX0 1 hX hZ n26 (spD K kx 2))
  {eC:Addr}{eD:FuncData} (eE:Gf K mg "_law_opening" bE n67 eC eD)
  (p0:aU P w K mg base CX0 2 eC eD n67 (spD K ie 3))
  {eF:Addr}{eG:FuncData} (eI:Gf K mg "_law_turning" bt n68 eF eG)
  (p4:aU P w K mg base CX0 2 eF eG n68 (spD K ig 3)) :
  aU P w K mg base CX0 3 cY cZ n70 (spD K bI 3) :=
 bT .V c_.F i6 λcdv A outer s H E hr=>(aj (dw (CW.ct (nU (ia (d5 (lP T.cT T.fF (ae 2)))) (gB (kP hr (iS T.l_ (ae 2)) ak)))) (av (aL kO)) bF)
 (aj (aJ 3 i6.nd (aG wz (hr.mono (by decide)) h7.m h7.F.kp h7.b (ah (ae 0) (ah (ae 1) aw))))
 (aj (dw (mQ hr (aF (ae 2) ak) kc) (av (aL (aG p0 (hr.mono (by decide)) eE.m eE.F.kp eE.b (ah (ae 0) (ah (ae 3) (ah (aF (ae 2) ak) aw)))))) bF)
 (av (aL (vq (rq hr (aF (ae 2) ak) kc) (vp (aG p4 (hr.mono (by decide)) eI.m eI.F.kp eI.b (ah (ae 0) (ah (ae 3) (ah (aF (ae 2) ak) aw)))))))))))
theorem i7:aR n71 n72 (ai cD):=⟨rfl,rfl,rfl,by decide +kernel,rfl,by decide +kernel,by decide +kernel⟩
theorem p5{fu:Addr}{fv:FuncData}(T:Tx K mg)(fw:Gf K mg "_law_spread" cD n72 fu fv) :
  aU P w K mg base CX0 1 fu fv n72 (spD K dA 2) :=
 bT .V fw.F i7 λcdv A outer s H E hr=>(aj (aJ 2 i7.nd (CF.cell (jz aw)))
 (aj (fI PassesOwn.never rfl (bJ T.cU (iS T.l_ (aF (ae 0) ak))) (aQ 3 i7.nd) (av (dw (CW.ct (nU (A3 (ae 1) ak) (gB (A3 (ae 3) ak)))) (av (eL (ae 2) (jy (ah (bx (dz (aF (aF (aF (ae 0) ak) (ae 3)) ak) (d6 (d6 ak (ae 3)) (A9 T.E9 (Nh (ae 1) ak)))) (ae 1)) (ah (aF (aF (aF (ae 0) ak) (ae 3)) ak) aw))))) bF)))
 (av (aL (jy (ah (aF (ae 0) ak) (ah (aF (ae 0) ak) (ah (fT T.fF (ae 2)) aw))))))))
theorem fA:aR n34 n72 (ai cy):=⟨rfl,rfl,rfl,by decide +kernel,rfl,by decide +kernel,by decide +kernel⟩
theorem sH{gp:Addr}{gq:FuncData}(T:Tx K mg)(df:Gf K mg "_law_words" cy n72 gp gq)
  {jq:Addr}{jr:FuncData} (iF:Gf K mg "opens" iD n7 jq jr)
  (sx:aU P w K mg base CX0 5 jq jr n7 (spD K ck 2))
  {cY:Addr}{cZ:FuncData} (c_:Gf K mg "_law_is_opening" bA n70 cY cZ)
  (nD:aU P w K mg base CX0 3 cY cZ n70 (spD K bI 3)) :
  aU P w K mg base CX0 6 gp gq n72 (spD K cB 2) :=
 bT .V df.F fA λcdv A outer s H E hr=>(aj (aJ 2 fA.nd (CF.cell Ey))
 (aj (fI PassesOwn.never rfl (bJ T.cU (El ak (ae 1))) (aQ 3 fA.nd) (aj (iO (gS 4 (N':=n33) rfl (az (ai cy) rfl n34 rfl (by decide +kernel)) rfl (aD rfl) (bJ T.cU (ae 1)) (λ_ _ _ _ _=>(aQ 0 (show n33.Nodup by decide +kernel))) (λ_ _ _ _ _=>(cG (mQ hr (rJ (zb (ae 1) (ae 0)) ak) ak))) (λ_ _ _ _ _=>(ae 0)) fA.nd) λ_ _ _ _ h=>iI h)
 (aj (aJ 5 fA.nd (aG sx (hr.mono (by decide)) iF.m iF.F.kp iF.b (ah (ae 0) (ah (ae 4) aw))))
 (aj (dw (ia (d5 (aG nD (hr.mono (by decide)) c_.m c_.F.kp c_.b (ah (ae 0) (ah (ae 4) (ah (ae 5) aw)))))) (av (aL yT)) bF)
 (av (vK hr 2 (ae 3) (rq hr (aF (ae 5) ak) kc)))))))
 (av (aL (ae 2)))))
theorem gN:aR n35 n73 (ai b6):=⟨rfl,rfl,rfl,by decide +kernel,rfl,by decide +kernel,by decide +kernel⟩
theorem sI{gu:Addr}{gv:FuncData}(T:Tx K mg)(gw:Gf K mg "_law_least" b6 n73 gu gv) :
  aU P w K mg base CX0 1 gu gv n73 (spD K d0 2) :=
 bT .V gw.F gN λcdv A outer s H E hr=>(aj (aJ 2 gN.nd (CF.cell (jz aw)))
 (aj (fI PassesOwn.never rfl (E3 (ae 0)) (aQ 3 gN.nd) (aj (iO (gS 4 (N':=n33) rfl (az (ai b6) rfl n35 rfl (by decide +kernel)) rfl (aD rfl) (bJ T.cU (ae 1)) (λ_ _ _ _ _=>(aQ 0 (show n33.Nodup by decide +kernel))) (λ_ _ _ _ _=>(cG (mQ hr (rJ (zb (ae 1) (ae 0)) ak) ak))) (λ_ _ _ _ _=>(Ek (ae 1) (El ak (ae 0)))) gN.nd) λ_ _ _ _ h=>iI h)
 (av (dw (CW.ct (KS (d5 (vJ hr (ae 0) (ae 3))) (yW (ia (d5 (o5 hr T.uK (CF.ce (bw (N':=n36) rfl (az (ai b6) rfl n35 rfl (by decide +kernel)) rfl (aD rfl) (dm (ae 4)) (λ_ _ _ _ _=>(aQ 0 (show n36.Nodup by decide +kernel))) (λ_ _ _ _ _=>bu) (λ_ _ _ _ _=>(vJ hr (ae 1) (ae 0))))))))))) (av (eL (ae 2) (ae 3))) bF))))
 (av (aL (ae 2)))))
theorem iq:aR n39 n74 (ai ix):=⟨rfl,rfl,rfl,by decide +kernel,rfl,by decide +kernel,by decide +kernel⟩
theorem Iz{Jr:Addr}{Jt:FuncData}(T:Tx K mg)(Ny:Gf K mg "law" ix n74 Jr Jt)
  {dH:Addr}{dI:FuncData} (aS:Gf K mg "_law_cell" cP n59 dH dI)
  (dO:aU P w K mg base CX0 1 dH dI n59 (spD K bg 2))
  {mi:Addr}{mj:FuncData} (ml:Gf K mg "_law_p" gX n66 mi mj)
  (CN:aU P w K mg base CX0 1 mi mj n66 (spD K jN 1))
  {gk:Addr}{gm:FuncData} (gn:Gf K mg "_law_table" cR n65 gk gm)
  (t4:aU P w K mg base CX0 3 gk gm n65 (spD K e8 3))
  {fu:Addr}{fv:FuncData} (fw:Gf K mg "_law_spread" cD n72 fu fv)
  (sJ:aU P w K mg base CX0 1 fu fv n72 (spD K dA 2))
  {gp:Addr}{gq:FuncData} (df:Gf K mg "_law_words" cy n72 gp gq)
  (mT:aU P w K mg base CX0 6 gp gq n72 (spD K cB 2))
  {gu:Addr}{gv:FuncData} (gw:Gf K mg "_law_least" b6 n73 gu gv)
  (t5:aU P w K mg base CX0 1 gu gv n73 (spD K d0 2))
  {ij:Addr}{ip:FuncData} (gg:Gf K mg "idle" fU n57 ij ip)
  (IA:aU P w K mg base CX0 8 ij ip n57 (spD K mE 2))
  {jU:Addr}{jV:FuncData} (jW:Gf K mg "trimmed" eO n57 jU jV)
  (zY:aU P w K mg base CX0 9 jU jV n57 (spD K gE 2))
  (wx:aU P w K mg base CX0 8 ij ip n57 (spD K ji 2)) :
  aU P w K mg base CX0 10 Jr Jt n74 (spD K pe 1) :=
 bT .V Ny.F iq λcdv A outer s H E hr=>(aj (aJ 1 iq.nd (aG CN (hr.mono (by decide)) ml.m ml.F.kp ml.b (ah (aG dO (hr.mono (by decide)) aS.m aS.F.kp aS.b (ah (ae 0) (ah ak aw))) aw)))
 (aj (aJ 2 iq.nd (dz ak (bx (aG dO (hr.mono (by decide)) aS.m aS.F.kp aS.b (ah (ae 0) (ah ak aw))) ak)))
 (aj (dw (mQ hr (bx (ib (aG dO (hr.mono (by decide)) aS.m aS.F.kp aS.b (ah (ae 0) (ah ak aw))) ak) ak) ak) (av (aJ 2 iq.nd (dz ak (bx (ib (aG dO (hr.mono (by decide)) aS.m aS.F.kp aS.b (ah (ae 0) (ah ak aw))) ak) ak)))) bF)
 (aj (aJ 3 iq.nd (aG sJ (hr.mono (by decide)) fw.m fw.F.kp fw.b (ah (aG t4 (hr.mono (by decide)) gn.m gn.F.kp gn.b (ah (ae 0) (ah ak (ah (ae 1) aw)))) (ah (ae 2) aw))))
 (aj (aJ 4 iq.nd (aG mT (hr.mono (by decide)) df.m df.F.kp df.b (ah (ae 3) (ah (ae 2) aw))))
 (aj (dw (EC (ae 4)) (av (aL kO)) bF)
 (aj (aJ 5 iq.nd (aG t5 (hr.mono (by decide)) gw.m gw.F.kp gw.b (ah (ae 4) (ah (ae 2) aw))))
 (aj (aJ 6 iq.nd (CF.ce (bw (N':=n38) rfl (az (ai ix) rfl n39 rfl (by decide +kernel)) rfl (aD rfl) (bJ T.cU (ae 2)) (λ_ _ _ _ _=>(aQ 0 (show n38.Nodup by decide +kernel))) (λ_ _ _ _ _=>(cG (ia (d5 (o5 hr T.uK (CF.ce (bw (N':=n37) rfl (fS (ai ix) rfl (by decide +kernel)) rfl (aD rfl) (dm (ae 1)) (λ_ _ _ _ _=>(aQ 0 (show n37.Nodup by decide +kernel))) (λ_ _ _ _ _=>bu) (λ_ _ _ _ _=>(rq hr (rJ (zb (ae 0) (ae 1)) ak) ak))))))))) (λ_ _ _ _ _=>(ae 0)))))
 (aj (aJ 7 iq.nd (aG IA (hr.mono (by decide)) gg.m gg.F.kp gg.b (ah (ae 3) (ah (ae 2) aw))))
 (aj (dw (CW.ct (nU (ia (d5 (rA T.cT T.rY (ae 7)))) (nU (kP hr (ae 7) (ae 6)) (gB (d5 (o5 hr T.uK (CF.ce (bw (N':=n40) rfl (az (ai ix) rfl n39 rfl (by decide +kernel)) rfl (aD rfl) (dm (ae 7)) (λ_ _ _ _ _=>(aQ 0 (show n40.Nodup by decide +kernel))) (λ_ _ _ _ _=>bu) (λ_ _ _ _ _=>(rz T.cT T.E8 (ae 0))))))))))) (av (aL kO)) bF)
 (aj (eL (ae 7) ak)
 (aj (aJ 8 iq.nd (aG zY (hr.mono (by decide)) jW.m jW.F.kp jW.b (ah (ae 3) (ah (ae 2) aw))))
 (aj (iO (gS 9 (N':=n41) rfl (az (ai ix) rfl n39 rfl (by decide +kernel)) rfl (aD rfl) (dm (aF (ae 3) ak)) (λ_ _ _ _ _=>(aQ 0 (show n41.Nodup by decide +kernel))) (λ_ _ _ _ _=>(cG (zj hr (aF (ae 0) ak) (ae 1)))) (λ_ _ _ _ _=>(ae 0)) iq.nd) λ_ _ _ _ h=>iI h)
 (aj (dw (CW.ct (nU (kP hr (ae 8) (jy (ah (ae 1) (ah (aF (ae 3) ak) (ah (fT T.fF (ae 9)) aw))))) (gB (ia (d5 (lP T.cT T.fF (aF (ae 8) ak))))))) (av (aL kO)) bF)
 (aj (dw (CW.ct (nU (Iv hr (aG mT (hr.mono (by decide)) df.m df.F.kp df.b (ah (ae 8) (ah (ae 2) aw))) (ae 4)) (gB (kP hr (aG wx (hr.mono (by decide)) gg.m gg.F.kp gg.b (ah (ae 3) (ah (ae 2) aw))) (ae 6))))) (av (aL kO)) bF)
 (aj (aJ 10 iq.nd (CF.ce (bw (N':=n42) rfl (az (ai ix) rfl n39 rfl (by decide +kernel)) rfl (aD rfl) (dm (aF (ae 3) ak)) (λ_ _ _ _ _=>(aQ 0 (show n42.Nodup by decide +kernel))) (λ_ _ _ _ _=>bu) (λ_ _ _ _ _=>(aF (ae 0) ak)))))
 (av (aL (rE hr T.xR (CF.ce (bw (N':=n43) rfl (az (ai ix) rfl n39 rfl (by decide +kernel)) rfl (aD rfl) (bJ T.cU (ae 2)) (λ_ _ _ _ _=>(aQ 0 (show n43.Nodup by decide +kernel))) (λ_ _ _ _ _=>bu) (λ_ _ _ _ _=>(M6 (A8 hr (ae 0) (ae 1)) (vp (A8 hr (ae 0) (ae 2))))))))))))))))))))))))))
theorem us1{us:List Value}(h:us.length=1):∃a0,us=[a0]:=by
 obtain⟨a0,us,rfl⟩:=gJ h;rw[List.length_cons] at h;replace h:=Nat.succ.inj h;cases List.eq_nil_of_length_eq_zero h;exact⟨_,rfl⟩
theorem us2{us:List Value}(h:us.length=2):∃a0 a1,us=[a0,a1]:=by
 obtain⟨a0,us,rfl⟩:=gJ h;rw[List.length_cons] at h;replace h:=Nat.succ.inj h;obtain⟨a1,us,rfl⟩:=gJ h;rw[List.length_cons] at h;replace h:=Nat.succ.inj h;cases List.eq_nil_of_length_eq_zero h;exact⟨_,_,rfl⟩
theorem us3{us:List Value}(h:us.length=3):∃a0 a1 a2,us=[a0,a1,a2]:=by
 obtain⟨a0,us,rfl⟩:=gJ h;rw[List.length_cons] at h;replace h:=Nat.succ.inj h;obtain⟨a1,us,rfl⟩:=gJ h;rw[List.length_cons] at h;replace h:=Nat.succ.inj h;obtain⟨a2,us,rfl⟩:=gJ h;rw[List.length_cons] at h;replace h:=Nat.succ.inj h;cases List.eq_nil_of_length_eq_zero h;exact⟨_,_,_,rfl⟩
theorem us4{us:List Value}(h:us.length=4):∃a0 a1 a2 a3,us=[a0,a1,a2,a3]:=by
 obtain⟨a0,us,rfl⟩:=gJ h;rw[List.length_cons] at h;replace h:=Nat.succ.inj h;obtain⟨a1,us,rfl⟩:=gJ h;rw[List.length_cons] at h;replace h:=Nat.succ.inj h;obtain⟨a2,us,rfl⟩:=gJ h;rw[List.length_cons] at h;replace h:=Nat.succ.inj h;obtain⟨a3,us,rfl⟩:=gJ h;rw[List.length_cons] at h;replace h:=Nat.succ.inj h;cases List.eq_nil_of_length_eq_zero h;exact⟨_,_,_,_,rfl⟩
theorem all_mk{l:PySem.W.OpenLaw}{w:World}{K:PySem.W.Frag}{h:Heap}{mg:Str→Option Value}{fa:Addr}(X:K.In h)(G:h.Ns mainGlobals mg)(hfa:mg "law"=some (.ref fa))
  {f0 f1 f2 f3 f4 f5 f6 f7 f8 f9 f10 f11 f12 f13 f14 f15 f16 f17 f18 f19 f20 f21 f22 f23 f24 f25 f26 f27 f28 f29 f30 f31 f32 f33 f34 f35:Addr}{od0 an0 od1 an1 od2 an2 od3 an3 od4 an4 od5 an5 od6 an6 od7 an7 od8 an8 od9 an9 Pz PB PD PF PH PJ PK PL PM PN PQ PR PU PV PX PY PZ P0 P1 P2 P4 P5 P6 P7 P8 P9 P_ Qa Qb Qc Qd Qe Qf Qg Qh Qi Qj Qk Ql Qm Qn Qo Qp Qq Qr Qs Qt Qu Qv Qw Qx Nz:Option Addr}{sl0 sl1 sl2 sl3 sl4 sl5 sl6 sl7 sl8 sl9 Qy Qz QA QB QC QD QE QF QG QH QI QJ QK QL QM QN QO QP QQ QR QS QT QU QV QW QX:Array (Option Value)}{oc0 kV0 dc0 pm0 cd0 ct0 oc1 kV1 dc1 pm1 cd1 ct1 oc2 kV2 dc2 pm2 cd2 ct2 oc3 kV3 dc3 pm3 cd3 ct3 oc4 kV4 dc4 pm4 cd4 ct4 oc5 kV5 dc5 pm5 cd5 ct5 oc6 kV6 dc6 pm6 cd6 ct6 oc7 kV7 dc7 pm7 cd7 ct7 oc8 kV8 dc8 pm8 cd8 ct8 oc9 kV9 dc9 pm9 cd9 ct9 QY QZ Q0 Q1 NA Q2 Q3 Q4 Q5 Q6 NB Q7 Q8 Q9 Q_ Ra NC Rb Rc Rf Rg Rh ND Ri Rj Rk Rl Rm NF Rn Ro Rp Rq Rr NG Rt Ru Rv Rx Ry NH Rz RA RB RC RD NI RE RF RG RH RI NJ RJ RK RL RM RN NK RO RP RQ RT RU NL RV RW RX RY RZ NM R1 R3 R4 R5 R6 NN R7 R8 R9 R_ Sa NO Sb Sd Se Sf Sg NP Sh Si Sj Sk Sl NQ Sm Sn So Sr Ss NR Su Sv Sw Sx Sy NS Sz SA SD SE SF NU SG SH SI SJ SK NV SM SN SO SQ SR NW SS SU SW SX SY NX S8 S9 S_ Ta Tb NY Tc Td Te Tf Tg NZ Th Ti Tj To Tp N0 Tq Tr N1 N3 N4 Ll N5:Value}
  (a0:PySem.W.nsIn K mainGlobals "over"=some (some (.ref f0))) (l0:K.lookup f0=some ⟨oc0,od0,.func (PySem.W.fnOf "over" "over" (aO ky) (aM ky) (ai ky) .none kV0 dc0 pm0 an0 cd0 ct0),sl0⟩) (c0:PySem.W.codeIn K cd0 "over"=true) (k0:PySem.W.keepIn K (.ref f0)=true)
  (a1:PySem.W.nsIn K mainGlobals "times"=some (some (.ref f1))) (l1:K.lookup f1=some ⟨oc1,od1,.func (PySem.W.fnOf "times" "times" (aO gL) (aM gL) (ai gL) .none kV1 dc1 pm1 an1 cd1 ct1),sl1⟩) (c1:PySem.W.codeIn K cd1 "times"=true) (k1:PySem.W.keepIn K (.ref f1)=true)
  (a2:PySem.W.nsIn K mainGlobals "freed"=some (some (.ref f2))) (l2:K.lookup f2=some ⟨oc2,od2,.func (PySem.W.fnOf "freed" "freed" (aO iC) (aM iC) (ai iC) .none kV2 dc2 pm2 an2 cd2 ct2),sl2⟩) (c2:PySem.W.codeIn K cd2 "freed"=true) (k2:PySem.W.keepIn K (.ref f2)=true)
  (a3:PySem.W.nsIn K mainGlobals "first_place"=some (some (.ref f3))) (l3:K.lookup f3=some ⟨oc3,od3,.func (PySem.W.fnOf "first_place" "first_place" (aO cC) (aM cC) (ai cC) .none kV3 dc3 pm3 an3 cd3 ct3),sl3⟩) (c3:PySem.W.codeIn K cd3 "first_place"=true) (k3:PySem.W.keepIn K (.ref f3)=true)
  (a4:PySem.W.nsIn K mainGlobals "eased"=some (some (.ref f4))) (l4:K.lookup f4=some ⟨oc4,od4,.func (PySem.W.fnOf "eased" "eased" (aO jk) (aM jk) (ai jk) .none kV4 dc4 pm4 an4 cd4 ct4),sl4⟩) (c4:PySem.W.codeIn K cd4 "eased"=true) (k4:PySem.W.keepIn K (.ref f4)=true)
  (a5:PySem.W.nsIn K mainGlobals "numbers_at"=some (some (.ref f5))) (l5:K.lookup f5=some ⟨oc5,od5,.func (PySem.W.fnOf "numbers_at" "numbers_at" (aO cu) (aM cu) (ai cu) .none kV5 dc5 pm5 an5 cd5 ct5),sl5⟩) (c5:PySem.W.codeIn K cd5 "numbers_at"=true) (k5:PySem.W.keepIn K (.ref f5)=true)
  (a6:PySem.W.nsIn K mainGlobals "unit"=some (some (.ref f6))) (l6:K.lookup f6=some ⟨oc6,od6,.func (PySem.W.fnOf "unit" "unit" (aO lY) (aM lY) (ai lY) .none kV6 dc6 pm6 an6 cd6 ct6),sl6⟩) (c6:PySem.W.codeIn K cd6 "unit"=true) (k6:PySem.W.keepIn K (.ref f6)=true)
  (a7:PySem.W.nsIn K mainGlobals "held"=some (some (.ref f7))) (l7:K.lookup f7=some ⟨oc7,od7,.func (PySem.W.fnOf "held" "held" (aO lZ) (aM lZ) (ai lZ) .none kV7 dc7 pm7 an7 cd7 ct7),sl7⟩) (c7:PySem.W.codeIn K cd7 "held"=true) (k7:PySem.W.keepIn K (.ref f7)=true)
  (a8:PySem.W.nsIn K mainGlobals "rows_of"=some (some (.ref f8))) (l8:K.lookup f8=some ⟨oc8,od8,.func (PySem.W.fnOf "rows_of" "rows_of" (aO eM) (aM eM) (ai eM) .none kV8 dc8 pm8 an8 cd8 ct8),sl8⟩) (c8:PySem.W.codeIn K cd8 "rows_of"=true) (k8:PySem.W.keepIn K (.ref f8)=true)
  (a9:PySem.W.nsIn K mainGlobals "lines_at"=some (some (.ref f9))) (l9:K.lookup f9=some ⟨oc9,od9,.func (PySem.W.fnOf "lines_at" "lines_at" (aO dM) (aM dM) (ai dM) .none kV9 dc9 pm9 an9 cd9 ct9),sl9⟩) (c9:PySem.W.codeIn K cd9 "lines_at"=true) (k9:PySem.W.keepIn K (.ref f9)=true)
  (a10:PySem.W.nsIn K mainGlobals "hidden_line"=some (some (.ref f10))) (l10:K.lookup f10=some ⟨QY,Pz,.func (PySem.W.fnOf "hidden_line" "hidden_line" (aO bZ) (aM bZ) (ai bZ) .none QZ Q0 Q1 PB NA Q2),Qy⟩) (c10:PySem.W.codeIn K NA "hidden_line"=true) (k10:PySem.W.keepIn K (.ref f10)=true)
  (a11:PySem.W.nsIn K mainGlobals "opened_by"=some (some (.ref f11))) (l11:K.lookup f11=some ⟨Q3,PD,.func (PySem.W.fnOf "opened_by" "opened_by" (aO dD) (aM dD) (ai dD) .none Q4 Q5 Q6 PF NB Q7),Qz⟩) (c11:PySem.W.codeIn K NB "opened_by"=true) (k11:PySem.W.keepIn K (.ref f11)=true)
  (a12:PySem.W.nsIn K mainGlobals "opens"=some (some (.ref f12))) (l12:K.lookup f12=some ⟨Q8,PH,.func (PySem.W.fnOf "opens" "opens" (aO iD) (aM iD) (ai iD) .none Q9 Q_ Ra PJ NC Rb),QA⟩) (c12:PySem.W.codeIn K NC "opens"=true) (k12:PySem.W.keepIn K (.ref f12)=true)
  (a13:PySem.W.nsIn K mainGlobals "is_opened"=some (some (.ref f13))) (l13:K.lookup f13=some ⟨Rc,PK,.func (PySem.W.fnOf "is_opened" "is_opened" (aO dE) (aM dE) (ai dE) .none Rf Rg Rh PL ND Ri),QB⟩) (c13:PySem.W.codeIn K ND "is_opened"=true) (k13:PySem.W.keepIn K (.ref f13)=true)
  (a14:PySem.W.nsIn K mainGlobals "sets_below"=some (some (.ref f14))) (l14:K.lookup f14=some ⟨Rj,PM,.func (PySem.W.fnOf "sets_below" "sets_below" (aO cw) (aM cw) (ai cw) .none Rk Rl Rm PN NF Rn),QC⟩) (c14:PySem.W.codeIn K NF "sets_below"=true) (k14:PySem.W.keepIn K (.ref f14)=true)
  (a15:PySem.W.nsIn K mainGlobals "without"=some (some (.ref f15))) (l15:K.lookup f15=some ⟨Ro,PQ,.func (PySem.W.fnOf "without" "without" (aO eN) (aM eN) (ai eN) .none Rp Rq Rr PR NG Rt),QD⟩) (c15:PySem.W.codeIn K NG "without"=true) (k15:PySem.W.keepIn K (.ref f15)=true)
  (a16:PySem.W.nsIn K mainGlobals "with_one_more"=some (some (.ref f16))) (l16:K.lookup f16=some ⟨Ru,PU,.func (PySem.W.fnOf "with_one_more" "with_one_more" (aO bR) (aM bR) (ai bR) .none Rv Rx Ry PV NH Rz),QE⟩) (c16:PySem.W.codeIn K NH "with_one_more"=true) (k16:PySem.W.keepIn K (.ref f16)=true)
  (a17:PySem.W.nsIn K mainGlobals "is_least"=some (some (.ref f17))) (l17:K.lookup f17=some ⟨RA,PX,.func (PySem.W.fnOf "is_least" "is_least" (aO dN) (aM dN) (ai dN) .none RB RC RD PY NI RE),QF⟩) (c17:PySem.W.codeIn K NI "is_least"=true) (k17:PySem.W.keepIn K (.ref f17)=true)
  (a18:PySem.W.nsIn K mainGlobals "is_greatest"=some (some (.ref f18))) (l18:K.lookup f18=some ⟨RF,PZ,.func (PySem.W.fnOf "is_greatest" "is_greatest" (aO b4) (aM b4) (ai b4) .none RG RH RI P0 NJ RJ),QG⟩) (c18:PySem.W.codeIn K NJ "is_greatest"=true) (k18:PySem.W.keepIn K (.ref f18)=true)
  (a19:PySem.W.nsIn K mainGlobals "open_sets"=some (some (.ref f19))) (l19:K.lookup f19=some ⟨RK,P1,.func (PySem.W.fnOf "open_sets" "open_sets" (aO b9) (aM b9) (ai b9) .none RL RM RN P2 NK RO),QH⟩) (c19:PySem.W.codeIn K NK "open_sets"=true) (k19:PySem.W.keepIn K (.ref f19)=true)
  (a20:PySem.W.nsIn K mainGlobals "idle"=some (some (.ref f20))) (l20:K.lookup f20=some ⟨RP,P4,.func (PySem.W.fnOf "idle" "idle" (aO fU) (aM fU) (ai fU) .none RQ RT RU P5 NL RV),QI⟩) (c20:PySem.W.codeIn K NL "idle"=true) (k20:PySem.W.keepIn K (.ref f20)=true)
  (a21:PySem.W.nsIn K mainGlobals "trimmed"=some (some (.ref f21))) (l21:K.lookup f21=some ⟨RW,P6,.func (PySem.W.fnOf "trimmed" "trimmed" (aO eO) (aM eO) (ai eO) .none RX RY RZ P7 NM R1),QJ⟩) (c21:PySem.W.codeIn K NM "trimmed"=true) (k21:PySem.W.keepIn K (.ref f21)=true)
  (a22:PySem.W.nsIn K mainGlobals "_law_cell"=some (some (.ref f22))) (l22:K.lookup f22=some ⟨R3,P8,.func (PySem.W.fnOf "_law_cell" "_law_cell" (aO cP) (aM cP) (ai cP) .none R4 R5 R6 P9 NN R7),QK⟩) (c22:PySem.W.codeIn K NN "_law_cell"=true) (k22:PySem.W.keepIn K (.ref f22)=true)
  (a23:PySem.W.nsIn K mainGlobals "_law_mixed"=some (some (.ref f23))) (l23:K.lookup f23=some ⟨R8,P_,.func (PySem.W.fnOf "_law_mixed" "_law_mixed" (aO cQ) (aM cQ) (ai cQ) .none R9 R_ Sa Qa NO Sb),QL⟩) (c23:PySem.W.codeIn K NO "_law_mixed"=true) (k23:PySem.W.keepIn K (.ref f23)=true)
  (a24:PySem.W.nsIn K mainGlobals "_law_numbers"=some (some (.ref f24))) (l24:K.lookup f24=some ⟨Sd,Qb,.func (PySem.W.fnOf "_law_numbers" "_law_numbers" (aO b_) (aM b_) (ai b_) .none Se Sf Sg Qc NP Sh),QM⟩) (c24:PySem.W.codeIn K NP "_law_numbers"=true) (k24:PySem.W.keepIn K (.ref f24)=true)
  (a25:PySem.W.nsIn K mainGlobals "_law_table"=some (some (.ref f25))) (l25:K.lookup f25=some ⟨Si,Qd,.func (PySem.W.fnOf "_law_table" "_law_table" (aO cR) (aM cR) (ai cR) .none Sj Sk Sl Qe NQ Sm),QN⟩) (c25:PySem.W.codeIn K NQ "_law_table"=true) (k25:PySem.W.keepIn K (.ref f25)=true)
  (a26:PySem.W.nsIn K mainGlobals "_law_p"=some (some (.ref f26))) (l26:K.lookup f26=some ⟨Sn,Qf,.func (PySem.W.fnOf "_law_p" "_law_p" (aO gX) (aM gX) (ai gX) .none So Sr Ss Qg NR Su),QO⟩) (c26:PySem.W.codeIn K NR "_law_p"=true) (k26:PySem.W.keepIn K (.ref f26)=true)
  (a27:PySem.W.nsIn K mainGlobals "_law_rows"=some (some (.ref f27))) (l27:K.lookup f27=some ⟨Sv,Qh,.func (PySem.W.fnOf "_law_rows" "_law_rows" (aO cS) (aM cS) (ai cS) .none Sw Sx Sy Qi NS Sz),QP⟩) (c27:PySem.W.codeIn K NS "_law_rows"=true) (k27:PySem.W.keepIn K (.ref f27)=true)
  (a28:PySem.W.nsIn K mainGlobals "_law_whole"=some (some (.ref f28))) (l28:K.lookup f28=some ⟨SA,Qj,.func (PySem.W.fnOf "_law_whole" "_law_whole" (aO cx) (aM cx) (ai cx) .none SD SE SF Qk NU SG),QQ⟩) (c28:PySem.W.codeIn K NU "_law_whole"=true) (k28:PySem.W.keepIn K (.ref f28)=true)
  (a29:PySem.W.nsIn K mainGlobals "_law_opening"=some (some (.ref f29))) (l29:K.lookup f29=some ⟨SH,Ql,.func (PySem.W.fnOf "_law_opening" "_law_opening" (aO bE) (aM bE) (ai bE) .none SI SJ SK Qm NV SM),QR⟩) (c29:PySem.W.codeIn K NV "_law_opening"=true) (k29:PySem.W.keepIn K (.ref f29)=true)
  (a30:PySem.W.nsIn K mainGlobals "_law_turning"=some (some (.ref f30))) (l30:K.lookup f30=some ⟨SN,Qn,.func (PySem.W.fnOf "_law_turning" "_law_turning" (aO bt) (aM bt) (ai bt) .none SO SQ SR Qo NW SS),QS⟩) (c30:PySem.W.codeIn K NW "_law_turning"=true) (k30:PySem.W.keepIn K (.ref f30)=true)
  (a31:PySem.W.nsIn K mainGlobals "_law_is_opening"=some (some (.ref f31))) (l31:K.lookup f31=some ⟨SU,Qp,.func (PySem.W.fnOf "_law_is_opening" "_law_is_opening" (aO bA) (aM bA) (ai bA) .none SW SX SY Qq NX S8),QT⟩) (c31:PySem.W.codeIn K NX "_law_is_opening"=true) (k31:PySem.W.keepIn K (.ref f31)=true)
  (a32:PySem.W.nsIn K mainGlobals "_law_spread"=some (some (.ref f32))) (l32:K.lookup f32=some ⟨S9,Qr,.func (PySem.W.fnOf "_law_spread" "_law_spread" (aO cD) (aM cD) (ai cD) .none S_ Ta Tb Qs NY Tc),QU⟩) (c32:PySem.W.codeIn K NY "_law_spread"=true) (k32:PySem.W.keepIn K (.ref f32)=true)
  (a33:PySem.W.nsIn K mainGlobals "_law_words"=some (some (.ref f33))) (l33:K.lookup f33=some ⟨Td,Qt,.func (PySem.W.fnOf "_law_words" "_law_words" (aO cy) (aM cy) (ai cy) .none Te Tf Tg Qu NZ Th),QV⟩) (c33:PySem.W.codeIn K NZ "_law_words"=true) (k33:PySem.W.keepIn K (.ref f33)=true)
  (a34:PySem.W.nsIn K mainGlobals "_law_least"=some (some (.ref f34))) (l34:K.lookup f34=some ⟨Ti,Qv,.func (PySem.W.fnOf "_law_least" "_law_least" (aO b6) (aM b6) (ai b6) .none Tj To Tp Qw N0 Tq),QW⟩) (c34:PySem.W.codeIn K N0 "_law_least"=true) (k34:PySem.W.keepIn K (.ref f34)=true)
  (a35:PySem.W.nsIn K mainGlobals "law"=some (some (.ref f35))) (l35:K.lookup f35=some ⟨Tr,Qx,.func (PySem.W.fnOf "law" "law" (aO ix) (aM ix) (ai ix) .none N1 N3 N4 Nz Ll N5),QX⟩) (c35:PySem.W.codeIn K Ll "law"=true) (k35:PySem.W.keepIn K (.ref f35)=true)
  (z0:PySem.W.nsIn K mainGlobals "all"=some none)
  (z1:PySem.W.nsIn K mainGlobals "any"=some none)
  (z2:PySem.W.nsIn K mainGlobals "bool"=some none)
  (z3:PySem.W.nsIn K mainGlobals "enumerate"=some none)
  (z4:PySem.W.nsIn K mainGlobals "int"=some none)
  (z5:PySem.W.nsIn K mainGlobals "isinstance"=some none)
  (z6:PySem.W.nsIn K mainGlobals "len"=some none)
  (z7:PySem.W.nsIn K mainGlobals "list"=some none)
  (z8:PySem.W.nsIn K mainGlobals "range"=some none)
  (z9:PySem.W.nsIn K mainGlobals "sorted"=some none)
  (z10:PySem.W.nsIn K mainGlobals "sum"=some none)
  (z11:PySem.W.nsIn K mainGlobals "tuple"=some none)
  (z12:PySem.W.nsIn K mainGlobals "zip"=some none)
  : ∃fd:FuncData,(∀(s:Shared) (v:Value),BindsTo s fd ⟨[v],[]⟩ [("_law_script",v)])∧∀base:Heap,K.In base→base.Ns mainGlobals mg→aU l.prog w K mg base CX0 10 fa fd ["_law_script"] (spD K pe 1):=by
 have e:=hfa.symm.trans (PySem.W.mg_of X G a35)
 cases e
 have T:Tx K mg:=⟨PySem.W.mg_none_of X G z0,PySem.W.mg_none_of X G z1,PySem.W.mg_none_of X G z2,PySem.W.mg_none_of X G z3,PySem.W.mg_none_of X G z4,PySem.W.mg_none_of X G z5,PySem.W.mg_none_of X G z6,PySem.W.mg_none_of X G z7,PySem.W.mg_none_of X G z8,PySem.W.mg_none_of X G z9,PySem.W.mg_none_of X G z10,PySem.W.mg_none_of X G z11,PySem.W.mg_none_of X G z12⟩
 have F0:=bh (st:=ky) l0 c0 k0
 have g0:Gf K mg "over" ky ["p","one","other"] _ _:=⟨F0,F0.binds (ps:=["p","one","other"]) λ_ _ _ _ _ _ us hl=>by obtain⟨_,_,_,rfl⟩:=us3 hl;rfl,PySem.W.mg_of X G a0⟩
 have F1:=bh (st:=gL) l1 c1 k1
 have g1:Gf K mg "times" gL ["p","number","row"] _ _:=⟨F1,F1.binds (ps:=["p","number","row"]) λ_ _ _ _ _ _ us hl=>by obtain⟨_,_,_,rfl⟩:=us3 hl;rfl,PySem.W.mg_of X G a1⟩
 have F2:=bh (st:=iC) l2 c2 k2
 have g2:Gf K mg "freed" iC ["p","row","lead","place"] _ _:=⟨F2,F2.binds (ps:=["p","row","lead","place"]) λ_ _ _ _ _ _ us hl=>by obtain⟨_,_,_,_,rfl⟩:=us4 hl;rfl,PySem.W.mg_of X G a2⟩
 have F3:=bh (st:=cC) l3 c3 k3
 have g3:Gf K mg "first_place" cC ["row","many"] _ _:=⟨F3,F3.binds (ps:=["row","many"]) λ_ _ _ _ _ _ us hl=>by obtain⟨_,_,rfl⟩:=us2 hl;rfl,PySem.W.mg_of X G a3⟩
 have F4:=bh (st:=jk) l4 c4 k4
 have g4:Gf K mg "eased" jk ["p","rows","many"] _ _:=⟨F4,F4.binds (ps:=["p","rows","many"]) λ_ _ _ _ _ _ us hl=>by obtain⟨_,_,_,rfl⟩:=us3 hl;rfl,PySem.W.mg_of X G a4⟩
 have F5:=bh (st:=cu) l5 c5 k5
 have g5:Gf K mg "numbers_at" cu ["p","lines","place"] _ _:=⟨F5,F5.binds (ps:=["p","lines","place"]) λ_ _ _ _ _ _ us hl=>by obtain⟨_,_,_,rfl⟩:=us3 hl;rfl,PySem.W.mg_of X G a5⟩
 have F6:=bh (st:=lY) l6 c6 k6
 have g6:Gf K mg "unit" lY ["width","place"] _ _:=⟨F6,F6.binds (ps:=["width","place"]) λ_ _ _ _ _ _ us hl=>by obtain⟨_,_,rfl⟩:=us2 hl;rfl,PySem.W.mg_of X G a6⟩
 have F7:=bh (st:=lZ) l7 c7 k7
 have g7:Gf K mg "held" lZ ["p","width","lines","wished"] _ _:=⟨F7,F7.binds (ps:=["p","width","lines","wished"]) λ_ _ _ _ _ _ us hl=>by obtain⟨_,_,_,_,rfl⟩:=us4 hl;rfl,PySem.W.mg_of X G a7⟩
 have F8:=bh (st:=eM) l8 c8 k8
 have g8:Gf K mg "rows_of" eM ["table","hands"] _ _:=⟨F8,F8.binds (ps:=["table","hands"]) λ_ _ _ _ _ _ us hl=>by obtain⟨_,_,rfl⟩:=us2 hl;rfl,PySem.W.mg_of X G a8⟩
 have F9:=bh (st:=dM) l9 c9 k9
 have g9:Gf K mg "lines_at" dM ["table","numbers"] _ _:=⟨F9,F9.binds (ps:=["table","numbers"]) λ_ _ _ _ _ _ us hl=>by obtain⟨_,_,rfl⟩:=us2 hl;rfl,PySem.W.mg_of X G a9⟩
 have F10:=bh (st:=bZ) l10 c10 k10
 have g10:Gf K mg "hidden_line" bZ ["wide"] _ _:=⟨F10,F10.binds (ps:=["wide"]) λ_ _ _ _ _ _ us hl=>by obtain⟨_,rfl⟩:=us1 hl;rfl,PySem.W.mg_of X G a10⟩
 have F11:=bh (st:=dD) l11 c11 k11
 have g11:Gf K mg "opened_by" dD ["table","numbers"] _ _:=⟨F11,F11.binds (ps:=["table","numbers"]) λ_ _ _ _ _ _ us hl=>by obtain⟨_,_,rfl⟩:=us2 hl;rfl,PySem.W.mg_of X G a11⟩
 have F12:=bh (st:=iD) l12 c12 k12
 have g12:Gf K mg "opens" iD ["table","hands"] _ _:=⟨F12,F12.binds (ps:=["table","hands"]) λ_ _ _ _ _ _ us hl=>by obtain⟨_,_,rfl⟩:=us2 hl;rfl,PySem.W.mg_of X G a12⟩
 have F13:=bh (st:=dE) l13 c13 k13
 have g13:Gf K mg "is_opened" dE ["table","hands"] _ _:=⟨F13,F13.binds (ps:=["table","hands"]) λ_ _ _ _ _ _ us hl=>by obtain⟨_,_,rfl⟩:=us2 hl;rfl,PySem.W.mg_of X G a13⟩
 have F14:=bh (st:=cw) l14 c14 k14
 have g14:Gf K mg "sets_below" cw ["many"] _ _:=⟨F14,F14.binds (ps:=["many"]) λ_ _ _ _ _ _ us hl=>by obtain⟨_,rfl⟩:=us1 hl;rfl,PySem.W.mg_of X G a14⟩
 have F15:=bh (st:=eN) l15 c15 k15
 have g15:Gf K mg "without" eN ["hands","hand"] _ _:=⟨F15,F15.binds (ps:=["hands","hand"]) λ_ _ _ _ _ _ us hl=>by obtain⟨_,_,rfl⟩:=us2 hl;rfl,PySem.W.mg_of X G a15⟩
 have F16:=bh (st:=bR) l16 c16 k16
 have g16:Gf K mg "with_one_more" bR ["hands","hand"] _ _:=⟨F16,F16.binds (ps:=["hands","hand"]) λ_ _ _ _ _ _ us hl=>by obtain⟨_,_,rfl⟩:=us2 hl;rfl,PySem.W.mg_of X G a16⟩
 have F17:=bh (st:=dN) l17 c17 k17
 have g17:Gf K mg "is_least" dN ["opening","hands"] _ _:=⟨F17,F17.binds (ps:=["opening","hands"]) λ_ _ _ _ _ _ us hl=>by obtain⟨_,_,rfl⟩:=us2 hl;rfl,PySem.W.mg_of X G a17⟩
 have F18:=bh (st:=b4) l18 c18 k18
 have g18:Gf K mg "is_greatest" b4 ["opening","many","hands"] _ _:=⟨F18,F18.binds (ps:=["opening","many","hands"]) λ_ _ _ _ _ _ us hl=>by obtain⟨_,_,_,rfl⟩:=us3 hl;rfl,PySem.W.mg_of X G a18⟩
 have F19:=bh (st:=b9) l19 c19 k19
 have g19:Gf K mg "open_sets" b9 ["table","many"] _ _:=⟨F19,F19.binds (ps:=["table","many"]) λ_ _ _ _ _ _ us hl=>by obtain⟨_,_,rfl⟩:=us2 hl;rfl,PySem.W.mg_of X G a19⟩
 have F20:=bh (st:=fU) l20 c20 k20
 have g20:Gf K mg "idle" fU ["table","many"] _ _:=⟨F20,F20.binds (ps:=["table","many"]) λ_ _ _ _ _ _ us hl=>by obtain⟨_,_,rfl⟩:=us2 hl;rfl,PySem.W.mg_of X G a20⟩
 have F21:=bh (st:=eO) l21 c21 k21
 have g21:Gf K mg "trimmed" eO ["table","many"] _ _:=⟨F21,F21.binds (ps:=["table","many"]) λ_ _ _ _ _ _ us hl=>by obtain⟨_,_,rfl⟩:=us2 hl;rfl,PySem.W.mg_of X G a21⟩
 have F22:=bh (st:=cP) l22 c22 k22
 have g22:Gf K mg "_law_cell" cP ["_law_script","_law_k"] _ _:=⟨F22,F22.binds (ps:=["_law_script","_law_k"]) λ_ _ _ _ _ _ us hl=>by obtain⟨_,_,rfl⟩:=us2 hl;rfl,PySem.W.mg_of X G a22⟩
 have F23:=bh (st:=cQ) l23 c23 k23
 have g23:Gf K mg "_law_mixed" cQ ["_law_cell_here","_law_k"] _ _:=⟨F23,F23.binds (ps:=["_law_cell_here","_law_k"]) λ_ _ _ _ _ _ us hl=>by obtain⟨_,_,rfl⟩:=us2 hl;rfl,PySem.W.mg_of X G a23⟩
 have F24:=bh (st:=b_) l24 c24 k24
 have g24:Gf K mg "_law_numbers" b_ ["_law_cell_here","_law_p_here","_law_count","_law_by_digits"] _ _:=⟨F24,F24.binds (ps:=["_law_cell_here","_law_p_here","_law_count","_law_by_digits"]) λ_ _ _ _ _ _ us hl=>by obtain⟨_,_,_,_,rfl⟩:=us4 hl;rfl,PySem.W.mg_of X G a24⟩
 have F25:=bh (st:=cR) l25 c25 k25
 have g25:Gf K mg "_law_table" cR ["_law_script","_law_at","_law_p_here"] _ _:=⟨F25,F25.binds (ps:=["_law_script","_law_at","_law_p_here"]) λ_ _ _ _ _ _ us hl=>by obtain⟨_,_,_,rfl⟩:=us3 hl;rfl,PySem.W.mg_of X G a25⟩
 have F26:=bh (st:=gX) l26 c26 k26
 have g26:Gf K mg "_law_p" gX ["_law_cell_here"] _ _:=⟨F26,F26.binds (ps:=["_law_cell_here"]) λ_ _ _ _ _ _ us hl=>by obtain⟨_,rfl⟩:=us1 hl;rfl,PySem.W.mg_of X G a26⟩
 have F27:=bh (st:=cS) l27 c27 k27
 have g27:Gf K mg "_law_rows" cS ["_law_table_here","_law_hands_here"] _ _:=⟨F27,F27.binds (ps:=["_law_table_here","_law_hands_here"]) λ_ _ _ _ _ _ us hl=>by obtain⟨_,_,rfl⟩:=us2 hl;rfl,PySem.W.mg_of X G a27⟩
 have F28:=bh (st:=cx) l28 c28 k28
 have g28:Gf K mg "_law_whole" cx ["_law_number","_law_p_here"] _ _:=⟨F28,F28.binds (ps:=["_law_number","_law_p_here"]) λ_ _ _ _ _ _ us hl=>by obtain⟨_,_,rfl⟩:=us2 hl;rfl,PySem.W.mg_of X G a28⟩
 have F29:=bh (st:=bE) l29 c29 k29
 have g29:Gf K mg "_law_opening" bE ["_law_table_here","_law_numbers_here","_law_multipliers"] _ _:=⟨F29,F29.binds (ps:=["_law_table_here","_law_numbers_here","_law_multipliers"]) λ_ _ _ _ _ _ us hl=>by obtain⟨_,_,_,rfl⟩:=us3 hl;rfl,PySem.W.mg_of X G a29⟩
 have F30:=bh (st:=bt) l30 c30 k30
 have g30:Gf K mg "_law_turning" bt ["_law_table_here","_law_numbers_here","_law_turn"] _ _:=⟨F30,F30.binds (ps:=["_law_table_here","_law_numbers_here","_law_turn"]) λ_ _ _ _ _ _ us hl=>by obtain⟨_,_,_,rfl⟩:=us3 hl;rfl,PySem.W.mg_of X G a30⟩
 have F31:=bh (st:=bA) l31 c31 k31
 have g31:Gf K mg "_law_is_opening" bA ["_law_table_here","_law_hands_here","_law_found"] _ _:=⟨F31,F31.binds (ps:=["_law_table_here","_law_hands_here","_law_found"]) λ_ _ _ _ _ _ us hl=>by obtain⟨_,_,_,rfl⟩:=us3 hl;rfl,PySem.W.mg_of X G a31⟩
 have F32:=bh (st:=cD) l32 c32 k32
 have g32:Gf K mg "_law_spread" cD ["_law_table_here","_law_many"] _ _:=⟨F32,F32.binds (ps:=["_law_table_here","_law_many"]) λ_ _ _ _ _ _ us hl=>by obtain⟨_,_,rfl⟩:=us2 hl;rfl,PySem.W.mg_of X G a32⟩
 have F33:=bh (st:=cy) l33 c33 k33
 have g33:Gf K mg "_law_words" cy ["_law_table_here","_law_many"] _ _:=⟨F33,F33.binds (ps:=["_law_table_here","_law_many"]) λ_ _ _ _ _ _ us hl=>by obtain⟨_,_,rfl⟩:=us2 hl;rfl,PySem.W.mg_of X G a33⟩
 have F34:=bh (st:=b6) l34 c34 k34
 have g34:Gf K mg "_law_least" b6 ["_law_words_here","_law_many"] _ _:=⟨F34,F34.binds (ps:=["_law_words_here","_law_many"]) λ_ _ _ _ _ _ us hl=>by obtain⟨_,_,rfl⟩:=us2 hl;rfl,PySem.W.mg_of X G a34⟩
 have F35:=bh (st:=ix) l35 c35 k35
 have g35:Gf K mg "law" ix ["_law_script"] _ _:=⟨F35,F35.binds (ps:=["_law_script"]) λ_ _ _ _ _ _ us hl=>by obtain⟨_,rfl⟩:=us1 hl;rfl,PySem.W.mg_of X G a35⟩
 refine⟨PySem.W.fnOf "law" "law" (aO ix) (aM ix) (ai ix) .none N1 N3 N4 Nz Ll N5,λs v=>.of_eq rfl,λbase _ _=>?_⟩
 have oV0:=Fb (P:=l.prog) (w:=w) (base:=base) T g0
 have oV1:=CH (P:=l.prog) (w:=w) (base:=base) T g1
 have oV2:=CJ (P:=l.prog) (w:=w) (base:=base) T g2
 have oV3:=pW (P:=l.prog) (w:=w) (base:=base) T g3
 have oV4:=CK (P:=l.prog) (w:=w) (base:=base) T g4 g2 oV2 g3 oV3 g0 oV0 g1 oV1
 have oV5:=sd (P:=l.prog) (w:=w) (base:=base) T g5
 have oV6:=Fd (P:=l.prog) (w:=w) (base:=base) T g6
 have oK7:=Fe (P:=l.prog) (w:=w) (base:=base) T g7 g5 oV5 g6 oV6 g4 oV4 g0 oV0 g1 oV1
 have oV8:=xV (P:=l.prog) (w:=w) (base:=base) T g8
 have oV9:=wm (P:=l.prog) (w:=w) (base:=base) T g9
 have Ts:=pX (P:=l.prog) (w:=w) (base:=base) T g10
 have Tt:=tS (P:=l.prog) (w:=w) (base:=base) T g11 g9 oV9 g10 Ts g7 oK7
 have N6:=CL (P:=l.prog) (w:=w) (base:=base) T g12 g8 oV8 g11 Tt
 have Tu:=tT (P:=l.prog) (w:=w) (base:=base) T g13 g12 N6
 have Tv:=sy (P:=l.prog) (w:=w) (base:=base) T g14
 have Tw:=xY (P:=l.prog) (w:=w) (base:=base) T g15
 have Tz:=oF (P:=l.prog) (w:=w) (base:=base) T g16
 have TB:=wt (P:=l.prog) (w:=w) (base:=base) T g17 g15 Tw
 have TC:=pY (P:=l.prog) (w:=w) (base:=base) T g18 g16 Tz
 have N7:=tU (P:=l.prog) (w:=w) (base:=base) T g19 g14 Tv g13 Tu g17 TB g18 TC
 have TF:=Fh (P:=l.prog) (w:=w) (base:=base) T g20 g19 N7
 have N8:=Fi (P:=l.prog) (w:=w) (base:=base) T g20 g19 N7
 have TH:=ya (P:=l.prog) (w:=w) (base:=base) T g21 g20 N8
 have N9:=tW (P:=l.prog) (w:=w) (base:=base) T g22
 have TJ:=sE (P:=l.prog) (w:=w) (base:=base) T g23
 have TK:=ph (P:=l.prog) (w:=w) (base:=base) T g24 g23 TJ
 have TL:=sF (P:=l.prog) (w:=w) (base:=base) T g25 g22 N9 g24 TK
 have TM:=zX (P:=l.prog) (w:=w) (base:=base) T g26
 have TN:=tY (P:=l.prog) (w:=w) (base:=base) T g27
 have N_:=sG (P:=l.prog) (w:=w) (base:=base) T g28
 have TQ:=pj (P:=l.prog) (w:=w) (base:=base) T g29 g28 N_
 have TR:=pk (P:=l.prog) (w:=w) (base:=base) T g30 g28 N_
 have TU:=mL (P:=l.prog) (w:=w) (base:=base) T g31 g27 TN g29 TQ g30 TR
 have TV:=p5 (P:=l.prog) (w:=w) (base:=base) T g32
 have TX:=sH (P:=l.prog) (w:=w) (base:=base) T g33 g12 N6 g31 TU
 have TY:=sI (P:=l.prog) (w:=w) (base:=base) T g34
 have TZ:=Iz (P:=l.prog) (w:=w) (base:=base) T g35 g22 N9 g26 TM g25 TL g32 TV g33 TX g34 TY g20 TF g21 TH N8
 exact TZ
end
theorem walk{l:PySem.W.OpenLaw}{q:Program}{loose:List Str}{XP:(Str→Option Value)→Heap→Prop}{YP:World→Heap→Prop}{d:DefRec}{K:Params→PySem.W.Frag}(hn:l.most=some 63)(hdf:d.params.defaults=[])
  (K5:∀ns:List Int,ns.length≤63→∃μ',pe [.val (.lst (ns.map T.int))] []=.ok (.val (.bl true)) μ')
  (hY:∀(w:World) (h:Heap),YP w h→(K w.params).In h)
  (F:∀(w:World) (mg:Str→Option Value) (fa:Addr) (h:Heap),(K w.params).In h→h.Ns mainGlobals mg→mg d.name=some (.ref fa) →
   ∃fd:FuncData,(∀(s:Shared) (u:Value),BindsTo s fd ⟨[u],[]⟩ [("_law_script",u)])∧∀base:Heap,(K w.params).In base→base.Ns mainGlobals mg→aU l.prog w (K w.params) mg base CX0 10 fa fd ["_law_script"] (spD (K w.params) pe 1)) :
  PySem.W.WalkO q loose XP YP l.row.toRowW d [] (λf vs=>PySem.call f vs) :=
 L2.G_ (n:=63) (k:=10) (x:="_law_script") (CX:=λ_=>CX0) (sp:=λw=>spD (K w.params) pe 1) hn (by decide) hdf ⟨rfl,by decide,by decide⟩ hY F (λw H a ns hl hO hS=>K4 K5 hl hS hO) λ_ _ _ _ _ z=>z
end Fw.k82
end
namespace Fw.Sets
def subs:Nat→List (List Int)
 | 0=>[[]]
 | n+1=>subs n++(subs n).map λs=>s++[(n:Int)]
theorem sL:∀n,(subs n).length=2 ^ n
 | 0=>rfl
 | n+1=>by unfold subs;rw[List.length_append,List.length_map,sL n,Nat.pow_succ];omega
theorem oG:∀n,∀s∈subs n,s.Pairwise (·<·)∧∀x∈s,0≤x∧x<(n:Int)
 | 0,s,h=>by
  rw[subs,List.mem_singleton] at h
  subst h
  exact⟨.nil,λ_ h=>(nomatch h)⟩
 | n+1,s,h=>by
  rw[subs] at h
  rcases List.mem_append.mp h with h|h
  ·obtain⟨h1,h2⟩:=oG n s h
   exact⟨h1,λx hx=>⟨(h2 x hx).1,by have:=(h2 x hx).2;omega⟩⟩
  ·obtain⟨t,ht,rfl⟩:=List.mem_map.mp h
   obtain⟨h1,h2⟩:=oG n t ht
   refine⟨List.pairwise_append.mpr ⟨h1,List.pairwise_singleton _ _,λa ha b hb=>?_⟩,λx hx=>?_⟩
   ·rw[List.mem_singleton] at hb;subst hb;exact (h2 a ha).2
   ·rcases List.mem_append.mp hx with hx|hx
    ·exact⟨(h2 x hx).1,by have:=(h2 x hx).2;omega⟩
    ·rw[List.mem_singleton] at hx;subst hx;exact⟨by omega,by omega⟩
theorem sM:∀(n:Nat) (s:List Int),s.Pairwise (·<·)→(∀x∈s,0≤x∧x<(n:Int))→s∈subs n
 | 0,s,_,h=>by
  cases s with
  | nil=>exact List.mem_singleton.mpr rfl
  | cons x s=>have:=h x (.head _);omega
 | n+1,s,hs,h=>by
  rw[subs]
  by_cases hn:(n:Int)∈s
  ·refine List.mem_append.mpr (.inr (List.mem_map.mpr ?_))
   obtain⟨t,ht⟩:∃t,s=t++[(n:Int)]:=by
    have hne:s≠[]:=λe=>by rw[e] at hn;cases hn
    refine⟨s.dropLast,?_⟩
    have e1:=List.dropLast_concat_getLast hne
    have hl:=h _ (List.getLast_mem hne)
    have e2:s.getLast hne=(n:Int):=by
     rw[← e1] at hn hs
     rcases List.mem_append.mp hn with q|q
     ·have:=(List.pairwise_append.mp hs).2.2 _ q _ (List.mem_singleton.mpr rfl)
      omega
     ·exact (List.mem_singleton.mp q).symm
    rw[← e2,e1]
   refine⟨t,?_,ht.symm⟩
   rw[ht] at hs h
   obtain⟨p1,_,p3⟩:=List.pairwise_append.mp hs
   exact sM n t p1 λx hx=>⟨(h x (List.mem_append_left _ hx)).1,p3 x hx _ (List.mem_singleton.mpr rfl)⟩
  ·refine List.mem_append.mpr (.inl (sM n s hs λx hx=>⟨(h x hx).1,?_⟩))
   have:=(h x hx).2
   have:x≠n:=λe=>hn (e ▸ hx)
   omega
theorem aN{n:Nat}{s:List Int}:s∈subs n↔s.Pairwise (·<·)∧∀x∈s,0≤x∧x<(n:Int):=⟨oG n s,λh=>sM n s h.1 h.2⟩
theorem dP:∀n,(subs n).Nodup
 | 0=>by rw[subs];exact List.pairwise_singleton _ _
 | n+1=>by
  rw[subs]
  refine List.nodup_append.mpr ⟨dP n,?_,λa ha b hb e=>?_⟩
  ·refine List.Pairwise.map _ (λa b (h:a≠b) e=>h ?_) (dP n)
   exact List.append_cancel_right e
  ·subst e
   obtain⟨t,ht,rfl⟩:=List.mem_map.mp hb
   have:=(oG n _ ha).2 (n:Int) (List.mem_append_right _ (List.mem_singleton.mpr rfl))
   omega
def less(s:List Int)(h:Int):List Int:=s.filter λx=>decide (x≠h)
theorem sN{n:Nat}{s:List Int}(hs:s∈subs n)(h:Int):less s h∈subs n:=by
 obtain⟨h1,h2⟩:=aN.mp hs
 exact aN.mpr ⟨h1.filter _,λx hx=>h2 x (List.mem_filter.mp hx).1⟩
theorem Fj{s:List Int}{h:Int}(hm:h∈s):(less s h).length<s.length:=by
 unfold less
 refine List.length_filter_lt_length_iff_exists.mpr ⟨h,hm,by simp⟩
section
variable(O:List Int→Bool)
def kR(n:Nat)(s:List Int):Prop:=s∈subs n∧O s=true∧∀h∈s,O (less s h)=false
theorem Fl{n:Nat}:∀(k:Nat) (s:List Int),s.length=k→s∈subs n→O s=true→∃t,kR O n t∧∀x∈t,x∈s:=by
 intro k
 induction k using Nat.strongRecOn with
 | ind k ih =>
  intro s hk hs ho
  by_cases hq:∀h∈s,O (less s h)=false
  ·exact⟨s,⟨hs,ho,hq⟩,λ_ h=>h⟩
  ·obtain⟨h,hm,hf⟩:∃h,h∈s∧O (less s h)=true:=by
    refine Classical.byContradiction λno=>hq λh hm=>?_
    cases e:O (less s h) with
    | true=>exact absurd ⟨h,hm,e⟩ no
    | false=>rfl
   obtain⟨t,h1,h2⟩:=ih _ (by rw[← hk];exact Fj hm) (less s h) rfl (sN hs h) hf
   exact⟨t,h1,λx hx=>(List.mem_filter.mp (h2 x hx)).1⟩
end
theorem few{n:Nat}(hn:n≤6)(h1:0<n)(P:List Int→Bool)(h:P []=true→P [0]=true→False):((subs n).filter P).length<64:=by
 have hl:=sL n
 have hp:2 ^ n≤64:=Nat.le_trans (Nat.pow_le_pow_right (by decide) hn) (by decide)
 by_cases ha:∀s∈subs n,P s=true
 ·exact (h (ha [] (aN.mpr ⟨.nil,λ_ h=>(nomatch h)⟩)) (ha [0] (aN.mpr ⟨List.pairwise_singleton _ _,λx hx=>by rw[List.mem_singleton] at hx;omega⟩))).elim
 ·obtain⟨s,hs,hf⟩:∃s,s∈subs n∧¬ P s=true:=by
   refine Classical.byContradiction λno=>ha λs hs=>Classical.byContradiction λq=>no ⟨s,hs,q⟩
  have:((subs n).filter P).length<(subs n).length:=List.length_filter_lt_length_iff_exists.mpr ⟨s,hs,hf⟩
  omega
end Fw.Sets
namespace Fw.Sets
open Fw
theorem sub_len{n:Nat}:∀{s:List Int},s∈subs n→s.length≤n:=by
 induction n with
 | zero=>intro s h;rw[subs,List.mem_singleton] at h;subst h;exact Nat.le_refl _
 | succ n ih =>
  intro s h
  rw[subs] at h
  rcases List.mem_append.mp h with h|h
  ·have:=ih h;omega
  ·obtain⟨t,ht,rfl⟩:=List.mem_map.mp h
   have:=ih ht
   rw[List.length_append]
   show t.length+1≤n+1
   omega
def more(s:List Int)(h:Int):List Int:=rg (s++[h])
theorem uL(s:List Int)(h:Int):(more s h).Perm (s++[h]):=mC _
theorem jX{s:List Int}{h x:Int}:x∈more s h↔x∈s∨x=h:=by
 rw[(uL s h).mem_iff,List.mem_append,List.mem_singleton]
theorem strict:∀{l:List Int},l.Pairwise (·≤·)→l.Nodup→l.Pairwise (·<·)
 | [],_,_=>.nil
 | a::l,h1,h2=>by
  obtain⟨p1,p2⟩:=List.pairwise_cons.mp h1
  obtain⟨q1,q2⟩:=List.pairwise_cons.mp h2
  refine List.pairwise_cons.mpr ⟨λb hb=>?_,strict p2 q2⟩
  have:=p1 b hb
  have:=q1 b hb
  omega
theorem Fm{n:Nat}{s:List Int}(hs:s∈subs n){h:Int}(h0:0≤h∧h<(n:Int))(hm:h∉s):more s h∈subs n:=by
 obtain⟨h1,h2⟩:=aN.mp hs
 refine aN.mpr ⟨strict (nc _) ((uL s h).nodup_iff.mpr ?_),λx hx=>?_⟩
 ·refine List.nodup_append.mpr ⟨h1.imp λq=>by omega,List.pairwise_singleton _ _,λa ha b hb e=>?_⟩
  rw[List.mem_singleton] at hb
  subst hb e
  exact hm ha
 ·rcases jX.mp hx with q|rfl
  ·exact h2 x q
  ·exact h0
section
variable(O:List Int→Bool)
def dX(n:Nat)(s:List Int):Prop:=s∈subs n∧O s=false∧∀h:Int,0≤h∧h<(n:Int)→h∉s→O (more s h)=true
end
end Fw.Sets
namespace Fw
open PySem Fw Fw.H
theorem L7(a b:DS)(e:Slots)(μ:af):aq a b e μ=(a e μ).seq b:=rfl
theorem L8(i:Nat)(d:D)(e:Slots)(μ:af):ay i d e μ=(d e μ).toS e λx μ1=>.nx (e.set i (some x)) μ1:=rfl
theorem L9(d:D)(e:Slots)(μ:af):aC d e μ=(d e μ).toS e λx μ1=>.rt x μ1:=rfl
theorem Oa(c:D)(a b:DS)(e:Slots)(μ:af):sIf c a b e μ=(c e μ).toS e λx μ1=>(R.lift (asB x) μ1).toS e λk μ1=>if k=true then a e μ1 else b e μ1:=rfl
theorem L_(e:Slots)(μ:af):bB e μ=.nx e μ:=rfl
theorem Ob(f:T→Option T)(a:D)(e:Slots)(μ:af):dUn f a e μ=(a e μ).bind λx μ1=>R.lift (ap1 f (rd μ1 x)) μ1:=rfl
theorem Ma(f:T→T→Option T)(a b:D)(e:Slots)(μ:af):ag f a b e μ=(a e μ).bind λx μ1=>(b e μ1).bind λy μ2=>R.lift (ap2 f (rd μ2 x) (rd μ2 y)) μ2:=rfl
theorem Mb(i:Nat)(e:Slots)(μ:af):aa i e μ=R.lift (slot e i) μ:=rfl
theorem OM(t:T)(e:Slots)(μ:af):dC t e μ=.ok (.val t) μ:=rfl
theorem Lm(f:FN)(ds:List D)(e:Slots)(μ:af):au f ds e μ=(dQ ds e μ).bind λxs μ1=>f xs μ1:=rfl
theorem IB(d:D)(ds:List D)(e:Slots)(μ:af):dQ (d::ds) e μ=(d e μ).bind λx μ1=>(dQ ds e μ1).bind λxs μ2=>.ok (x::xs) μ2:=rfl
theorem Ju(e:Slots)(μ:af):dQ [] e μ=.ok [] μ:=rfl
theorem Mc(ds:List D)(e:Slots)(μ:af):eU ds e μ=(dQ ds e μ).bind λxs μ1=>(eQ xs μ1).bind λts μ2=>.ok (.val (.tup ts)) μ2:=rfl
theorem Me(ds:List D)(e:Slots)(μ:af):eS ds e μ=(dQ ds e μ).bind λxs μ1=>(eQ xs μ1).bind λts μ2=>.ok (.val (.lst ts)) μ2:=rfl
theorem Mf(a b:D)(e:Slots)(μ:af):ax a b e μ=(a e μ).bind λx μ1=>(b e μ1).bind λy μ2=>R.lift ((rd μ2 y).bind λu=>gQ μ2 x u) μ2:=rfl
theorem Mg(a:D)(e:Slots)(μ:af):fP a e μ=(a e μ).bind λx μ1=>R.lift ((mY μ1 x).map SV.val) μ1:=rfl
theorem Oc(f:FN)(xs:List SV)(μ:af):cal f xs μ=(f xs μ).calm:=rfl
theorem Jv(x:Option SV)(e:Slots)(i:Nat):slot (x::e) (i+1)=slot e i:=rfl
theorem Jw(x:SV)(e:Slots):slot (some x::e) 0=some x:=rfl
theorem Ln{α:Type}(a:α)(e:Slots)(μ:af)(f:α→af→RS):(R.ok a μ).toS e f=f a μ:=rfl
theorem Od(μ:af)(t:T):rd μ (.val t)=some t:=rfl
theorem Lo(f:T→Option T)(t:T):ap1 f (some t)=(f t).map SV.val:=rfl
theorem Lp(f:T→T→Option T)(t u:T):ap2 f (some t) (some u)=(f t u).map SV.val:=rfl
theorem Oe(b:Bool):asB (.val (.bl b))=some b:=rfl
theorem Mh(μ:af)(t:T):frz (.val t) μ=.ok t μ:=rfl
theorem Lq(μ:af):eQ [] μ=.ok [] μ:=rfl
theorem Jx(x:SV)(xs:List SV)(μ:af):eQ (x::xs) μ=(frz x μ).bind λt μ1=>(eQ xs μ1).bind λts μ2=>.ok (t::ts) μ2:=rfl
theorem Jy(e:Slots)(μ:af)(f:Slots→af→RS):(RS.nx e μ).seq f=f e μ:=rfl
theorem GJ{α:Type}(a:α)(μ:af):R.lift (some a) μ=.ok a μ:=rfl
theorem Jz{α β:Type}(a:α)(μ:af)(f:α→af→R β):(R.ok a μ).bind f=f a μ:=rfl
theorem JA{α:Type}(a:α)(μ:af):(R.ok a μ).calm=.ok a μ:=rfl
theorem Mi(a b:D)(e:Slots)(μ:af):mX a b e μ=(a e μ).bind λx μ1=>(R.lift (asB x) μ1).bind λk μ1=>if k=true then b e μ1 else .ok (.val (.bl false)) μ1:=rfl
theorem Of(a b:D)(e:Slots)(μ:af):dOr a b e μ=(a e μ).bind λx μ1=>(R.lift (asB x) μ1).bind λk μ1=>if k=true then .ok (.val (.bl true)) μ1 else b e μ1:=rfl
theorem Mj(a:D)(e:Slots)(μ:af):eR a e μ=(a e μ).bind λx μ1=>(R.lift (asB x) μ1).bind λk μ1=>.ok (.val (.bl (!k))) μ1:=rfl
theorem Mk(d:D)(e:Slots)(μ:af):bX d e μ=(d e μ).bind λx μ1=>(R.lift ((rd μ1 x).bind bS) μ1).bind λts μ1=>.ok ⟨ts,λμ'=>rd μ' x=rd μ1 x⟩ μ1:=rfl
theorem Ml(it:DI)(b:BD)(body:DS)(e:Slots)(μ:af):cf it b body e μ=(it e μ).toS e λW μ1=>forL W.same b body W.items e μ1:=rfl
theorem Mm(e:Slots):ini [] e=[]:=rfl
theorem Lr(mp:List (Option Nat))(e:Slots):ini (none::mp) e=none::ini mp e:=rfl
theorem Ls(j:Nat)(mp:List (Option Nat))(e:Slots):ini (some j::mp) e=slot e j::ini mp e:=rfl
theorem Lu(i:Nat)(t:T)(e:Slots):ar i t e=some (e.set i (some (.val t))):=rfl
end Fw
local macro_rules
 | `(tactic| simp_all! only [$ls,*]) => do
  let mut xs:Array (Lean.TSyntax `Lean.Parser.Tactic.simpLemma):=#[]
  for n in "L7 L8 L9 Oa L_ Ob Ma Mb OM Lm IB Ju Mc Me Mf Mg Oc Jv Jw Ln Od Lo Lp Oe Mh Lq Jx Jy GJ Jz JA Mi Of Mj Mk Ml Mm Lr Ls Lu".splitOn " " do xs := xs.push (← `(Lean.Parser.Tactic.simpLemma| $(Lean.mkIdent (`Fw ++ n.toName)):term))
  `(tactic| try dsimp only [$(xs),*, Nat.reduceAdd, Nat.reduceSub, List.set_cons_succ, List.set_cons_zero, $ls,*])
namespace Fw.E
open PySem Fw Fw.H
structure Rw(p:Int)(L:Nat)(r:List Int):Prop where
 len:r.length=L
 lo:∀x∈r,0≤x
 hi:∀x∈r,x<p
def g(r:List Int)(k:Nat):Int:=r.getD k 0
theorem jE(x:Int)(r:List Int):g (x::r) 0=x:=by simp[g]
theorem eT(x:Int)(r:List Int)(k:Nat):g (x::r) (k+1)=g r k:=by simp[g]
theorem zZ(r:List Int)(k:Nat)(h:k<r.length):g r k=r[k]:=by simp[g,h]
theorem Rw.g0{p:Int}{L:Nat}{r:List Int}(h:Rw p L r)(hp:0<p)(k:Nat):0≤g r k∧g r k<p:=by
 by_cases hk:k<r.length
 ·rw[zZ r k hk];exact⟨h.lo _ (List.getElem_mem hk),h.hi _ (List.getElem_mem hk)⟩
 ·have:g r k=0:=by simp[g,Nat.le_of_not_lt hk]
  lia
def dot:List Int→List Int→Int
 | x::xs,y::ys=>x*y+dot xs ys
 | _,_=>0
@[simp] theorem ON(ys:List Int):dot [] ys=0:=by cases ys<;>rfl
@[simp] theorem Fn(ys:List Int):dot ys []=0:=by cases ys<;>rfl
@[simp] theorem bU(x y:Int)(xs ys:List Int):dot (x::xs) (y::ys)=x*y+dot xs ys:=rfl
theorem Fo(xs ys:List Int):dot xs ys=dot ys xs:=by
 induction xs generalizing ys with
 | nil=>cases ys<;>rfl
 | cons x xs ih=>cases ys with
  | nil=>rfl
  | cons y ys=>simp[ih,Int.mul_comm]
theorem z_(c1 c2 r1 r2:List Int)(h:c1.length=r1.length):dot (c1++c2) (r1++r2)=dot c1 r1+dot c2 r2:=by
 induction c1 generalizing r1 with
 | nil=>cases r1 with
  | nil=>simp
  | cons x r1=>simp at h
 | cons x c1 ih=>cases r1 with
  | nil=>simp at h
  | cons y r1=>simp[ih r1 (by simpa using h)];lia
theorem md(x p:Int):∃t,x%p=x-p*t:=⟨x / p,Int.emod_def x p⟩
def sub(p n:Int)(row lead:List Int):List Int:=(row.zip lead).map λq=>(q.1-n*q.2)%p
theorem Bj(p n:Int):∀(row lead c:List Int),row.length=lead.length→∃t,dot c (sub p n row lead)=dot c row-n*dot c lead+p*t
 | [],lead,c,h=>by cases lead with
  | nil=>exact⟨0,by simp[sub]⟩
  | cons x l=>simp at h
 | e::row,[],c,h=>by simp at h
 | e::row,o::lead,[],h=>⟨0,by simp[sub]⟩
 | e::row,o::lead,c0::c,h=>by
  obtain⟨s,hs⟩:=Bj p n row lead c (by simpa using h)
  obtain⟨t,ht⟩:=md (e-n*o) p
  refine⟨s-c0*t,?_⟩
  have e1:sub p n (e::row) (o::lead)=(e-n*o)%p::sub p n row lead:=rfl
  rw[e1,bU,bU,bU,hs,ht]
  grind
theorem JB(p n:Int):∀(row lead:List Int) (k:Nat),row.length=lead.length→g (sub p n row lead) k=(g row k-n*g lead k)%p
 | [],lead,k,h=>by cases lead with
  | nil=>simp[sub,g]
  | cons x l=>simp at h
 | e::row,[],k,h=>by simp at h
 | e::row,o::lead,0,h=>by simp[sub,g]
 | e::row,o::lead,k+1,h=>by
  have e1:sub p n (e::row) (o::lead)=(e-n*o)%p::sub p n row lead:=rfl
  rw[e1,eT,eT,eT]
  exact JB p n row lead k (by simpa using h)
theorem Lv{p:Int}{L:Nat}{row lead:List Int}(hp:0<p)(n:Int)(h1:row.length=L)(h2:lead.length=L):Rw p L (sub p n row lead):=by
 refine⟨by simp[sub,h1,h2],λx hx=>?_,λx hx=>?_⟩
 ·obtain⟨q,_,rfl⟩:=List.mem_map.mp hx
  exact Int.emod_nonneg _ (by lia)
 ·obtain⟨q,_,rfl⟩:=List.mem_map.mp hx
  exact Int.emod_lt_of_pos _ hp
def fr(p:Int)(row lead:List Int)(q:Nat):List Int:=if g row q=0 then row else sub p (g row q) row lead
theorem Fp{p:Int}{L:Nat}{row lead:List Int}(hp:0<p)(q:Nat)(h1:Rw p L row)(h2:Rw p L lead):Rw p L (fr p row lead q):=by
 unfold fr
 split
 ·exact h1
 ·exact Lv hp _ h1.len h2.len
theorem Og{p:Int}{L:Nat}{row lead:List Int}(hp:0<p)(q k:Nat)(h1:Rw p L row)(h2:Rw p L lead):g (fr p row lead q) k=(g row k-g row q*g lead k)%p:=by
 unfold fr
 split
 ·rename_i h
  have:=h1.g0 hp k
  rw[h]
  simp
  rw[Int.emod_eq_of_lt this.1 this.2]
 ·exact JB p _ row lead k (by rw[h1.len,h2.len])
def Z(p:Int)(c r:List Int):Prop:=p ∣ dot c r
theorem Oh{p:Int}{L:Nat}{row lead c:List Int}(q:Nat)(h1:Rw p L row)(h2:Rw p L lead)(hz:Z p c lead):Z p c (fr p row lead q)↔Z p c row:=by
 unfold fr
 split
 ·exact Iff.rfl
 ·obtain⟨t,ht⟩:=Bj p (g row q) row lead c (by rw[h1.len,h2.len])
  obtain⟨s,hs⟩:=hz
  unfold Z
  rw[ht,hs]
  constructor
  ·rintro⟨u,hu⟩;exact⟨u+g row q*s-t,by grind⟩
  ·rintro⟨u,hu⟩;exact⟨u-g row q*s+t,by grind⟩
def tm(p n:Int)(row:List Int):List Int:=row.map λe=>n*e%p
theorem wA(p n:Int):∀(row c:List Int),∃t,dot c (tm p n row)=n*dot c row+p*t
 | [],c=>⟨0,by simp[tm]⟩
 | e::row,[]=>⟨0,by simp[tm]⟩
 | e::row,c0::c=>by
  obtain⟨s,hs⟩:=wA p n row c
  obtain⟨t,ht⟩:=md (n*e) p
  refine⟨s-c0*t,?_⟩
  have e1:tm p n (e::row)=n*e%p::tm p n row:=rfl
  rw[e1,bU,bU,hs,ht]
  grind
theorem Oi(p n:Int)(row:List Int)(k:Nat):g (tm p n row) k=n*g row k%p:=by
 induction row generalizing k with
 | nil=>simp[tm,g]
 | cons e row ih =>
  have e1:tm p n (e::row)=n*e%p::tm p n row:=rfl
  cases k with
  | zero=>rw[e1,jE,jE]
  | succ k=>rw[e1,eT,eT];exact ih k
theorem Fq{p:Int}{L:Nat}{row:List Int}(hp:0<p)(n:Int)(h:row.length=L):Rw p L (tm p n row):=by
 refine⟨by simp[tm,h],λx hx=>?_,λx hx=>?_⟩
 ·obtain⟨q,_,rfl⟩:=List.mem_map.mp hx
  exact Int.emod_nonneg _ (by lia)
 ·obtain⟨q,_,rfl⟩:=List.mem_map.mp hx
  exact Int.emod_lt_of_pos _ hp
def Inv(p n a:Int):Prop:=n*a%p=1%p
theorem T1{p n a:Int}(row c:List Int)(hi:Inv p n a):Z p c (tm p n row)↔Z p c row:=by
 obtain⟨t,ht⟩:=wA p n row c
 unfold Z
 rw[ht]
 constructor
 ·rintro⟨u,hu⟩
  obtain⟨m1,e1⟩:=md (n*a) p
  obtain⟨m2,e2⟩:=md 1 p
  have e3:n*a-p*m1=1-p*m2:=by rw[← e1,← e2];exact hi
  exact⟨a*(u-t)+(m2-m1)*dot c row,by grind⟩
 ·rintro⟨u,hu⟩;exact⟨n*u+t,by grind⟩
theorem Oj{p:Int}(h:lM p)(r:Int)(h1:1<r)(h2:r<p):p%r≠0:=by
 have hb:=h.pos
 have key:∀p∈([2,3,5,7,11,13,17,19,23,29,31,37,41,43,47,53,59,61,67,71,73,79,83,89,97]:List Int),∀r:Nat,r<97→1<r→(r:Int)<p→p%(r:Int)≠0:=by decide +kernel
 have:=key p h r.toNat (by lia) (by lia) (by lia)
 rwa [show (r.toNat:Int)=r by lia] at this
noncomputable abbrev Ld := Nat × List Int
def frees(p:Int)(ls:List Ld)(row:List Int):List Int:=ls.foldl (λr q=>fr p r q.2 q.1) row
structure mM(p:Int)(L m:Nat)(ls:List Ld)(ns:List (List Int))(rows:List (List Int)):Prop where
 nd:(ls.map (·.1)).Nodup
 key:∀q∈ls,q.1<m
 rl:∀q∈ls,Rw p L q.2
 rn:∀r∈ns,Rw p L r
 one:∀q∈ls,g q.2 q.1=1
 off:∀q∈ls,∀q'∈ls,q'.1≠q.1→g q.2 q'.1=0
 no:∀r∈ns,∀j,j<m→g r j=0
 eq:∀c,(∀r∈rows,Z p c r)↔((∀q∈ls,Z p c q.2)∧∀r∈ns,Z p c r)
theorem mM.start(p:Int)(L m:Nat):mM p L m [] [] []:=⟨by simp,by simp,by simp,by simp,by simp,by simp,by simp,by simp⟩
theorem yb{p:Int}{L:Nat}{ls:List Ld}(hp:1<p)(rl:∀q∈ls,Rw p L q.2)(one:∀q∈ls,g q.2 q.1=1)(off:∀q∈ls,∀q'∈ls,q'.1≠q.1→g q.2 q'.1=0) :
  ∀(l D:List Ld) (row:List Int),(∀q∈l,q∈ls)→(∀q∈D,q∈ls)→Rw p L row→(∀q∈D,g row q.1=0) →
   Rw p L (frees p l row)∧(∀q∈D++l,g (frees p l row) q.1=0)∧∀c,(∀q∈l,Z p c q.2)→(Z p c (frees p l row)↔Z p c row)
 | [],D,row,_,_,hr,hd=>⟨hr,λq hq=>hd q (by simpa using hq),λc _=>Iff.rfl⟩
 | a::l,D,row,hl,hD,hr,hd=>by
  have ha:a∈ls:=hl a (by simp)
  have r1:=Fp (by lia) a.1 hr (rl a ha)
  have hg:∀k,g (fr p row a.2 a.1) k=(g row k-g row a.1*g a.2 k)%p:=λk=>Og (by lia) a.1 k hr (rl a ha)
  have h1:g (fr p row a.2 a.1) a.1=0:=by rw[hg,one a ha];simp
  obtain⟨i1,i2,i3⟩:=yb hp rl one off l (D++[a]) (fr p row a.2 a.1) (λq hq=>hl q (by simp[hq])) (λq hq=>by
   rcases List.mem_append.mp hq with h|h
   ·exact hD q h
   ·simp at h;subst h;exact ha) r1 (λq hq=>by
   rcases List.mem_append.mp hq with h|h
   ·by_cases e:q.1=a.1
    ·rw[e];exact h1
    ·rw[hg,hd q h,off a ha q (hD q h) e];simp
   ·simp at h;subst h;exact h1)
  refine⟨i1,λq hq=>i2 q (by simpa using hq),λc hc=>?_⟩
  exact (i3 c λq hq=>hc q (by simp[hq])).trans (Oh a.1 hr (rl a ha) (hc a (by simp)))
theorem mM.rest{p:Int}{L m:Nat}{ls:List Ld}{ns rows:List (List Int)}{row:List Int}(hp:1<p)(E:mM p L m ls ns rows)(hr:Rw p L row) :
  Rw p L (frees p ls row)∧(∀q∈ls,g (frees p ls row) q.1=0)∧∀c,(∀q∈ls,Z p c q.2)→(Z p c (frees p ls row)↔Z p c row):=by
 obtain⟨h1,h2,h3⟩:=yb hp E.rl E.one E.off ls [] row (λq h=>h) (by simp) hr (by simp)
 exact⟨h1,by simpa using h2,h3⟩
theorem mM.Lw{p:Int}{L m:Nat}{ls:List Ld}{ns rows:List (List Int)}{row:List Int}(hp:1<p)(E:mM p L m ls ns rows)(hr:Rw p L row)(h0:∀j,j<m→g (frees p ls row) j=0) :
  mM p L m ls (ns++[frees p ls row]) (rows++[row]):=by
 obtain⟨h1,h2,h3⟩:=E.rest hp hr
 refine⟨E.nd,E.key,E.rl,λr h=>?_,E.one,E.off,λr h j hj=>?_,λc=>?_⟩
 ·rcases List.mem_append.mp h with h|h
  ·exact E.rn r h
  ·simp at h;subst h;exact h1
 ·rcases List.mem_append.mp h with h|h
  ·exact E.no r h j hj
  ·simp at h;subst h;exact h0 j hj
 ·constructor
  ·intro h
   have a:=(E.eq c).mp λr hr=>h r (by simp[hr])
   refine⟨a.1,λr hr=>?_⟩
   rcases List.mem_append.mp hr with hr|hr
   ·exact a.2 r hr
   ·simp at hr;subst hr;exact (h3 c a.1).mpr (h row (by simp))
  ·rintro⟨a,b⟩ r hr
   rcases List.mem_append.mp hr with hr|hr
   ·exact (E.eq c).mpr ⟨a,λr h=>b r (by simp[h])⟩ r hr
   ·simp at hr;subst hr;exact (h3 c a).mp (b _ (by simp))
def led(p:Int)(ls:List Ld)(fresh:List Int)(f:Nat):List Ld:=ls.map λq=>(q.1,fr p q.2 fresh f)
theorem mM.lead{p:Int}{L m:Nat}{ls:List Ld}{ns rows:List (List Int)}{row:List Int}{n:Int}{f:Nat}(hp:1<p)(E:mM p L m ls ns rows)(hr:Rw p L row)(hf:f<m)(h0:g (frees p ls row) f≠0)(hi:Inv p n (g (frees p ls row) f)) :
  mM p L m (led p ls (tm p n (frees p ls row)) f++[(f,tm p n (frees p ls row))]) ns (rows++[row]):=by
 obtain⟨h1,h2,h3⟩:=E.rest hp hr
 have k1:Rw p L (tm p n (frees p ls row)):=Fq (by lia) n h1.len
 have kz:∀c,Z p c (tm p n (frees p ls row))↔Z p c (frees p ls row):=λc=>T1 _ c hi
 have kf:g (tm p n (frees p ls row)) f=1:=by
  rw[Oi]
  have:n*g (frees p ls row) f%p=1%p:=hi
  rw[this]
  exact Int.emod_eq_of_lt (by lia) hp
 have k0:∀q∈ls,g (tm p n (frees p ls row)) q.1=0:=λq hq=>by rw[Oi,h2 q hq];simp
 generalize tm p n (frees p ls row)=u at k1 kz kf k0
 have fne:∀q∈ls,q.1≠f:=λq hq e=>h0 (by rw[← e];exact h2 q hq)
 have hg:∀q∈ls,∀k,g (fr p q.2 u f) k=(g q.2 k-g q.2 f*g u k)%p:=λq hq k=>Og (by lia) f k (E.rl q hq) k1
 have mem:∀q,q∈led p ls u f++[(f,u)]→(∃q0∈ls,q=(q0.1,fr p q0.2 u f))∨q=(f,u):=λq hq=>by
  rcases List.mem_append.mp hq with h|h
  ·obtain⟨q0,h1,h2⟩:=List.mem_map.mp h
   exact .inl ⟨q0,h1,h2.symm⟩
  ·simp at h;exact .inr h
 have up:∀q0∈ls,(q0.1,fr p q0.2 u f)∈led p ls u f++[(f,u)]:=λq0 h=>List.mem_append_left _ (List.mem_map.mpr ⟨q0,h,rfl⟩)
 refine⟨?_,λq hq=>?_,λq hq=>?_,E.rn,λq hq=>?_,λq hq q' hq' hne=>?_,E.no,λc=>?_⟩
 ·have e1:(led p ls u f++[(f,u)]).map (·.1)=ls.map (·.1)++[f]:=by simp[led]
  rw[e1,List.nodup_append]
  refine⟨E.nd,by simp,λa ha b hb=>?_⟩
  simp at hb
  obtain⟨q,hq,rfl⟩:=List.mem_map.mp ha
  rw[hb]
  exact fne q hq
 ·rcases mem q hq with ⟨q0,h,rfl⟩|rfl
  ·exact E.key q0 h
  ·exact hf
 ·rcases mem q hq with ⟨q0,h,rfl⟩|rfl
  ·exact Fp (by lia) f (E.rl q0 h) k1
  ·exact k1
 ·rcases mem q hq with ⟨q0,h,rfl⟩|rfl
  ·show g (fr p q0.2 u f) q0.1=1
   rw[hg q0 h,E.one q0 h,k0 q0 h]
   simp
   exact Int.emod_eq_of_lt (by lia) hp
  ·exact kf
 ·rcases mem q hq with ⟨q0,h,rfl⟩|rfl
  ·show g (fr p q0.2 u f) q'.1=0
   rcases mem q' hq' with ⟨q1,h',rfl⟩|rfl
   ·have hne:q1.1≠q0.1:=hne
    show g (fr p q0.2 u f) q1.1=0
    rw[hg q0 h,E.off q0 h q1 h' hne,k0 q1 h']
    simp
   ·show g (fr p q0.2 u f) f=0
    rw[hg q0 h,kf]
    simp
  ·rcases mem q' hq' with ⟨q1,h',rfl⟩|rfl
   ·exact k0 q1 h'
   ·exact absurd rfl hne
 ·have key:∀q0∈ls,Z p c u→(Z p c (fr p q0.2 u f)↔Z p c q0.2):=λq0 h hz=>Oh f (E.rl q0 h) k1 hz
  constructor
  ·intro h
   have a:=(E.eq c).mp λr hr=>h r (by simp[hr])
   have hz:Z p c u:=(kz c).mpr ((h3 c a.1).mpr (h row (by simp)))
   refine⟨λq hq=>?_,a.2⟩
   rcases mem q hq with ⟨q0,h',rfl⟩|rfl
   ·exact (key q0 h' hz).mpr (a.1 q0 h')
   ·exact hz
  ·rintro⟨a,b⟩ r hr
   have hz:Z p c u:=a (f,u) (by simp)
   have al:∀q∈ls,Z p c q.2:=λq hq=>(key q hq hz).mp (a _ (up q hq))
   rcases List.mem_append.mp hr with hr|hr
   ·exact (E.eq c).mpr ⟨al,b⟩ r hr
   ·simp at hr;subst hr
    exact (h3 c al).mp ((kz c).mp hz)
def ko:DS :=
 (aq (ay 3 (ag aP (aa 2) (aa 0)))
 (aq (sIf (ag fEq (aa 3) (dC (.int 0))) Hu bB)
 (aq (ay 4 (ag aP (aa 1) (aa 0)))
 (aq (jw (ag fNe (aa 3) (dC (.int 1))) (aq (ay 4 (ag aP (ag aK (dUn xi (aa 4)) (ag d_ (aa 0) (aa 3))) (aa 0)))
 (ay 3 (ag aP (aa 0) (aa 3)))))
 (aC (aa 4))))))
def iA:DS :=
 (aC (aH (bX (aa 2)) [none,some 0,some 1] (ar 0) (dC (.bl true)) (ag aP (ag aK (aa 2) (aa 0)) (aa 1))))
def fC:DS :=
 (aq (ay 4 (ax (aa 1) (aa 3)))
 (aq (sIf (ag fEq (aa 4) (dC (.int 0))) (aC (aa 1)) bB)
 (aC (aH (tG (aa 1) (aa 2)) [none,none,some 0,some 4] (ee [0,1]) (dC (.bl true)) (ag aP (ag qH (aa 0) (ag aK (aa 3) (aa 1))) (aa 2))))))
def bY:DS :=
 (aq (cf (aI (aa 1)) (ar 2) (sIf (ag fNe (ax (aa 0) (aa 2)) (dC (.int 0))) (aC (aa 2)) bB))
 (aC (dC (.non))))
def kq:DS :=
 (aq (ay 3 (bp (dC (.dct []))))
 (aq (ay 4 (bp (eS [])))
 (aq (cf (bX (aa 1)) (ar 5) (aq (ay 6 (aa 5))
 (aq (cf (kj (aa 3)) (ee [7,8]) (ay 6 (au (cal (fnV 5 fC)) [(aa 0),(aa 6),(aa 8),(aa 7)])))
 (aq (ay 9 (au (cal (fnV 3 bY)) [(aa 6),(aa 2)]))
 (sIf (dUn ly (aa 9)) (bo (aa 4) (aa 6)) (aq (ay 10 (au (cal (fnV 3 iA)) [(aa 0),(au (cal (fnV 5 ko)) [(aa 0),(dC (.int 1)),(ax (aa 6) (aa 9))]),(aa 6)]))
 (aq (cf (bX (dUn xn (aa 3))) (ar 7) (jM 3 (aa 7) (au (cal (fnV 5 fC)) [(aa 0),(ag iu (aa 3) (aa 7)),(aa 10),(aa 9)])))
 (jM 3 (aa 9) (aa 10)))))))))
 (aC (eU [(aa 3),(aa 4)])))))
noncomputable abbrev li (r : List Int) : T := .lst (r.map T.int)
theorem wB{p:Int}(hP:lM p)(one other:Int)(μ:af)(h0:other%p≠0) :
  ∃y,fnV 5 ko [.val (.int p),.val (.int one),.val (.int other)] μ=.ok (.val (.int y)) μ∧0≤y∧y<p∧(y*other-one)%p=0:=by
 have hb:=hP.pos
 have hp0:0<p:=Int.lt_of_lt_of_le (by decide) hb.1
 unfold ko
 have hp:0<p:=by lia
 have z:(other%p==0)=false:=by simpa using h0
 (try simp_all! only[]);simp[hp,z]
 have r0:=Int.emod_nonneg other (Int.ne_of_gt hp0)
 have r1:=Int.emod_lt_of_pos other hp
 refine q5 (P:=λr=>∃y,RS.qP μ.length (r.seq (aC (aa 4)))=R.ok (SV.val (T.int y)) μ∧0≤y∧y<p∧(y*other-one)%p=0) ?_
  (λn e μ'=>μ'=μ∧∃rest told:Int,e=[some (.val (.int p)),some (.val (.int one)),some (.val (.int other)),some (.val (.int rest)),some (.val (.int told))]∧rest.toNat=n∧1≤rest∧rest<p∧0≤told∧told<p∧∃t,told*other=one*rest+p*t) ?_ (other%p).toNat _ _ ?_
 ·rintro⟨y,h,_⟩;cases h
 ·rintro m e μ' ⟨rfl,rest,told,rfl,hm,q1,q2,q3,q4,t,ht⟩
  by_cases e1:rest=1
  ·subst e1
   refine⟨false,μ',by simp,?_⟩
   rw[if_neg (by simp)]
   refine⟨told,by simp,q3,q4,?_⟩
   rw[ht]
   simp
   exact Int.emod_eq_zero_of_dvd ⟨t,by lia⟩
  ·refine⟨true,μ',by simp[e1],?_⟩
   rw[if_pos rfl]
   have d1:0≤p / rest:=Int.ediv_nonneg (by lia) (by lia)
   have d2:p / rest≤p:=Int.ediv_le_self _ (by lia)
   have hm2:aK (.int (-told)) (.int (p / rest))=some (.int (-told*(p / rest))):=iy _ _ (by lia) (by lia)
   have hr:0<rest:=by lia
   have hr2:rest<1073741824:=by lia
   (try simp_all! only[]);simp[hp,hr,hr2,hm2]
   have m0:=Int.emod_nonneg p (show rest≠0 by lia)
   have m1:=Int.emod_lt_of_pos p hr
   have m2:=Oj hP rest (by lia) q2
   have t0:=Int.emod_nonneg (-told*(p / rest)) (Int.ne_of_gt hp0)
   have t1:=Int.emod_lt_of_pos (-told*(p / rest)) hp
   refine⟨(p%rest).toNat,by lia,p%rest,-told*(p / rest)%p,⟨rfl,rfl⟩,rfl,by lia,by lia,t0,t1,?_⟩
   obtain⟨u,hu⟩:=md (-told*(p / rest)) p
   have e3:p%rest=p-rest*(p / rest):=Int.emod_def p rest
   rw[hu,e3]
   refine⟨-(u*other)-(p / rest)*t-one,?_⟩
   generalize p / rest=d
   grind
 ·have b0:=Int.emod_nonneg one (Int.ne_of_gt hp0)
  have b1:=Int.emod_lt_of_pos one hp
  refine⟨rfl,_,_,rfl,rfl,by lia,r1,b0,b1,?_⟩
  obtain⟨u,hu⟩:=md one p
  obtain⟨v,hv⟩:=md other p
  exact⟨one*v-u*other,by rw[hu,hv];grind⟩
theorem yc{p:Int}{L:Nat}(hp:0<p)(hp2:p<1000000)(n:Int)(r:List Int)(μ:af)(h:Rw p L r)(hl:L≤1000) :
  fnV 3 iA [.val (.int p),.val (.int n),.val (li r)] μ=.ok (.val (li (tm p n r))) μ:=by
 unfold iA
 simp
 rw[dy _ (λe:Int=>.int (n*e%p)) (by simp)]
 ·rw[R.dJ,R.aZ,if_pos (by have:=h.len;simp[szL];lia)]
  (try simp_all! only[]);simp[tm,Function.comp_def]
 ·intro e he
  have h1:=h.lo e he
  have h2:=h.hi e he
  refine⟨_,rfl,?_⟩
  have:aK (.int n) (.int e)=some (.int (n*e)):=gH _ _ (by lia) (by lia)
  (try simp_all! only[]);simp[this,hp]
theorem atg{r:List Int}{k:Int}(h0:0≤k)(h1:k<r.length):atI (r.map T.int) k=some (.int (g r k.toNat)):=by
 rw[jb h0 h1,zZ r k.toNat (by lia)]
theorem yd{p:Int}{L:Nat}(hp:0<p)(hp2:p<1000000)(q:Nat)(row lead:List Int)(μ:af)(h1:Rw p L row)(h2:Rw p L lead)(hl:L≤1000)(hq:q<L) :
  fnV 5 fC [.val (.int p),.val (li row),.val (li lead),.val (.int q)] μ=.ok (.val (li (fr p row lead q))) μ:=by
 unfold fC
 have ha:atI (row.map T.int) (q:Int)=some (.int (g row q)):=atg (by lia) (by have:=h1.len;lia)
 simp[ha]
 by_cases e:g row q=0
 ·simp[e,fr]
 ·have e':(g row q==0)=false:=by simpa using e
  simp[e,e']
  rw[oW,dy _ (λz:Int×Int=>.int ((z.1-g row q*z.2)%p)) (by simp)]
  ·rw[R.dJ,R.aZ,if_pos (by have:=h1.len;simp[szL];lia)]
   (try simp_all! only[]);simp[fr,e,sub,Function.comp_def]
  ·rintro⟨x,y⟩ hz
   have b:=h1.g0 hp q
   refine⟨_,rfl,?_⟩
   have:aK (.int (g row q)) (.int y)=some (.int (g row q*y)):=iy _ _ (by lia) (by lia)
   simp[this,hp]
theorem Fs{p:Int}{L m:Nat}(r:List Int)(μ:af)(h:Rw p L r)(hm:m≤L)(hl:L≤1000) :
  (fnV 3 bY [.val (li r),.val (.int m)] μ=.ok (.val .non) μ∧∀j,j<m→g r j=0) ∨
  ∃f:Nat,fnV 3 bY [.val (li r),.val (.int m)] μ=.ok (.val (.int f)) μ∧f<m∧g r f≠0:=by
 unfold bY
 simp (disch:=lia)
 refine nY (P:=λx=>(RS.qP μ.length (x.seq (aC (dC .non)))=R.ok (SV.val .non) μ∧∀j,j<m→g r j=0)∨∃f:Nat,RS.qP μ.length (x.seq (aC (dC .non)))=R.ok (SV.val (.int f)) μ∧f<m∧g r f≠0)
  (λi e μ'=>μ'=μ∧(∀j,j<i→g r j=0)∧∃x,e=[some (.val (li r)),some (.val (.int m)),x]) (λ_ _ _ _=>trivial) ?_ ?_ ⟨rfl,by simp,none,rfl⟩
 ·rintro i t e μ' ht ⟨rfl,hz,x,rfl⟩
  obtain⟨hi,rfl⟩:=qX ht
  refine⟨_,rfl,?_⟩
  have hi':i<m:=by lia
  have ha:atI (r.map T.int) ((0:Int)+i)=some (.int (g r i)):=by
   have:=atg (r:=r) (k:=(0:Int)+i) (by lia) (by have:=h.len;lia)
   rwa [show ((0:Int)+i).toNat=i by lia] at this
  simp at ha
  (try simp_all! only[]);simp[ha]
  by_cases e:g r i=0
  ·(try simp_all! only[]);simp[e]
   intro j hj
   by_cases ej:j=i
   ·rw[ej];exact e
   ·exact hz j (by lia)
  ·have e':(g r i==0)=false:=by simpa using e
   (try simp_all! only[]);simp[e,e']
   exact⟨i,rfl,hi',e⟩
 ·rintro e μ' ⟨rfl,hz,x,rfl⟩
  left
  refine⟨by simp,?_⟩
  rw[cH] at hz
  intro j hj
  exact hz j (by lia)
def dk(ls:List Ld):List (Key×T):=ls.map λq=>((.inl (q.1:Int):Key),li q.2)
theorem pq(a b:List Ld):dk (a++b)=dk a++dk b:=by simp[dk]
theorem Ft(a:List Ld):(dk a).length=a.length:=by simp[dk]
theorem uM{ls:List Ld}{i:Nat}{t:T}(h:(fK (dk ls))[i]?=some t):∃q,ls[i]?=some q∧i<ls.length∧t=.tup [.int (q.1:Int),li q.2]:=by
 unfold fK dk at h
 rw[List.map_map,List.getElem?_map] at h
 obtain⟨q,h1,rfl⟩:=Option.map_eq_some_iff.mp h
 exact⟨q,h1,(List.getElem?_eq_some_iff.mp h1).1,rfl⟩
theorem Aa(p:Int)(ls:List Ld)(row:List Int)(i:Nat)(q:Ld)(h:ls[i]?=some q):frees p (ls.take (i+1)) row=fr p (frees p (ls.take i) row) q.2 q.1:=by
 unfold frees
 rw[List.take_add_one,h]
 simp
theorem ye{p:Int}{L:Nat}(hp:0<p):∀(ls:List Ld) (row:List Int),(∀q∈ls,Rw p L q.2)→Rw p L row→Rw p L (frees p ls row)
 | [],row,_,h=>h
 | q::ls,row,hq,h=>ye hp ls _ (λq' h'=>hq q' (by simp[h'])) (Fp hp q.1 h (hq q (by simp)))
theorem IC{ls:List Ld}{q:Ld}(hn:(ls.map (·.1)).Nodup)(h:q∈ls):lK (dk ls) (.inl (q.1:Int))=some (li q.2):=by
 induction ls with
 | nil=>simp at h
 | cons a ls ih =>
  have hn':(a.1::ls.map (·.1)).Nodup:=hn
  obtain⟨h1,h2⟩:=List.nodup_cons.mp hn'
  have e:dk (a::ls)=((.inl (a.1:Int):Key),li a.2)::dk ls:=rfl
  rw[e]
  unfold lK
  rw[List.find?_cons]
  by_cases ea:a.1=q.1
  ·have:q=a:=by
    rcases List.mem_cons.mp h with h|h
    ·exact h
    ·exact absurd (List.mem_map.mpr ⟨q,h,ea.symm⟩) h1
   subst this
   simp
  ·have hne:¬ ((Sum.inl (a.1:Int):Key)=.inl (q.1:Int)):=λz=>ea (by have:=Sum.inl.inj z;lia)
   have:q∈ls:=by
    rcases List.mem_cons.mp h with h|h
    ·subst h;exact absurd rfl ea
    ·exact h
   simp only[hne,decide_false]
   exact ih h2 this
theorem Fu(ls:List Ld)(f:Nat):((dk ls).any λkv=>decide (kv.1=(.inl (f:Int):Key)))=ls.any λq=>decide (q.1=f):=by
 unfold dk
 rw[List.any_map]
 congr 1
 funext q
 show decide ((Sum.inl (q.1:Int):Key)=.inl (f:Int))=decide (q.1=f)
 by_cases e:q.1=f
 ·simp[e]
 ·have:¬ ((Sum.inl (q.1:Int):Key)=.inl (f:Int)):=λz=>e (by have:=Sum.inl.inj z;lia)
  simp[e,this]
theorem Fv{ls:List Ld}{f:Nat}(r:List Int)(h:∀q∈ls,q.1≠f):q_ (dk ls) (.inl (f:Int)) (li r)=dk (ls++[(f,r)]):=by
 unfold q_
 rw[Fu,if_neg,pq]
 ·rfl
 ·intro hc
  obtain⟨q,hq,e⟩:=List.any_eq_true.mp hc
  exact h q hq (of_decide_eq_true e)
theorem Fx{a b:List Ld}{q:Ld}(r:List Int)(hn:((a++q::b).map (·.1)).Nodup):q_ (dk (a++q::b)) (.inl (q.1:Int)) (li r)=dk (a++(q.1,r)::b):=by
 unfold q_
 rw[Fu,if_pos (List.any_eq_true.mpr ⟨q,by simp,by simp⟩)]
 have ne:∀x∈a++b,¬ ((Sum.inl (x.1:Int):Key)=.inl (q.1:Int)):=λx hx z=>by
  have e:x.1=q.1:=by have:=Sum.inl.inj z;lia
  rw[List.map_append,List.nodup_append] at hn
  obtain⟨_,n2,n3⟩:=hn
  rcases List.mem_append.mp hx with h|h
  ·exact n3 x.1 (List.mem_map.mpr ⟨x,h,rfl⟩) q.1 (by simp) e
  ·have n2':(q.1::b.map (·.1)).Nodup:=n2
   exact (List.nodup_cons.mp n2').1 (List.mem_map.mpr ⟨x,h,e⟩)
 have same:∀l:List Ld,(∀x∈l,x∈a++b)→(dk l).map (λkv=>if kv.1=(.inl (q.1:Int):Key) then (kv.1,li r) else kv)=dk l:=λl hl=>by
  unfold dk
  rw[List.map_map]
  refine List.map_congr_left λx hx=>?_
  show (if (Sum.inl (x.1:Int):Key)=.inl (q.1:Int) then _ else _)=_
  rw[if_neg (ne x (hl x hx))]
 rw[pq,List.map_append,same a (λx h=>by simp[h]),pq]
 congr 1
 show (if (Sum.inl (q.1:Int):Key)=.inl (q.1:Int) then _ else _)::(dk b).map _=_
 rw[if_pos rfl,same b (λx h=>by simp[h])]
 rfl
section
variable{p:Int}{L m:Nat}
theorem Lx(hP:lM p)(hl:L≤1000)(hmL:m≤L){ls:List Ld}{row:List Int}(hk:∀q∈ls,q.1<m)(rl:∀q∈ls,Rw p L q.2)(hr:Rw p L row)(same:af→Prop)(μ:af)(hs:same μ)(x1 x2 x3 x4 x5 x7 x8 x9 x10:Option SV) :
  ∃y7 y8,forL same (ee [7,8]) (ay 6 (au (cal (fnV 5 fC)) [(aa 0),(aa 6),(aa 8),(aa 7)])) (fK (dk ls)) [some (.val (.int p)),x1,x2,x3,x4,x5,some (.val (li row)),x7,x8,x9,x10] μ =
   .nx [some (.val (.int p)),x1,x2,x3,x4,x5,some (.val (li (frees p ls row))),y7,y8,x9,x10] μ:=by
 have hb:=hP.pos
 have hp0:0<p:=Int.lt_of_lt_of_le (by decide) hb.1
 obtain⟨e',μ',h1,y7,y8,h2,h3⟩:=fB (same:=same) (b:=ee [7,8]) (body:=ay 6 (au (cal (fnV 5 fC)) [(aa 0),(aa 6),(aa 8),(aa 7)])) (ts:=fK (dk ls))
  (e:=[some (.val (.int p)),x1,x2,x3,x4,x5,some (.val (li row)),x7,x8,x9,x10]) (μ:=μ)
  (λi e μ'=>∃y7 y8,μ'=μ∧e=[some (.val (.int p)),x1,x2,x3,x4,x5,some (.val (li (frees p (ls.take i) row))),y7,y8,x9,x10])
  (λi e μ' ao=>by obtain⟨_,_,h,_⟩:=ao;rw[h];exact hs) (λi t e μ' ht dq=>by
   obtain⟨y7,y8,hμ,he⟩:=dq
   subst hμ he
   obtain⟨q,hq,hi,rfl⟩:=uM ht
   have hm:q∈ls:=List.mem_of_getElem? hq
   have hf:=yd (p:=p) (L:=L) (by lia) (by lia) q.1 (frees p (ls.take i) row) q.2 μ' (ye (by lia) _ _ (λq' h'=>rl q' (List.mem_of_mem_take h')) hr) (rl q hm) hl (by have:=hk q hm;lia)
   refine⟨_,_,_,gA _ _ _ _ _,?_,some (.val (.int q.1)),some (.val (li q.2)),rfl,rfl⟩
   rw[Aa p ls row i q hq]
   simp only[j6,gP,bM,d7,dY,List.set_cons_succ,List.set_cons_zero,cF,cE,R.aV,R.aZ,lx]
   rw[hf]
   rfl) ⟨x7,x8,rfl,rfl⟩
 refine⟨y7,y8,?_⟩
 rw[h1,h2,h3]
 have:(fK (dk ls)).length=ls.length:=by simp[fK,dk]
 rw[this,List.take_length]
theorem Fy(u:List Int)(f:Nat)(ls:List Ld)(i:Nat)(q:Ld)(h:ls[i]?=some q):led p (ls.take (i+1)) u f=led p (ls.take i) u f++[(q.1,fr p q.2 u f)]:=by
 unfold led
 rw[List.take_add_one,h]
 simp
theorem Fz{ls:List Ld}{i:Nat}{t:T}(h:((dk ls).map λp=>vi p.1)[i]?=some t):∃q,ls[i]?=some q∧i<ls.length∧t=.int (q.1:Int):=by
 unfold dk at h
 rw[List.map_map,List.getElem?_map] at h
 obtain⟨q,h1,rfl⟩:=Option.map_eq_some_iff.mp h
 exact⟨q,h1,(List.getElem?_eq_some_iff.mp h1).1,rfl⟩
theorem Ly(hP:lM p)(hl:L≤1000)(hmL:m≤L){ls:List Ld}{u:List Int}{f:Nat}(hn:(ls.map (·.1)).Nodup)(hf:f<m)(rl:∀q∈ls,Rw p L q.2)(hu:Rw p L u)(hsz:ls.length<szL)(same:af→Prop)(hs:∀μ,same μ)(μ tl:af)(x1 x2 x4 x5 x6 x7 x8:Option SV) :
  ∃y7,forL same (ar 7) (jM 3 (aa 7) (au (cal (fnV 5 fC)) [(aa 0),(ag iu (aa 3) (aa 7)),(aa 10),(aa 9)])) ((dk ls).map λp=>vi p.1)
   [some (.val (.int p)),x1,x2,some (.cel μ.length),x4,x5,x6,x7,x8,some (.val (.int f)),some (.val (li u))] (μ++(true,.dct (dk ls))::tl) =
   .nx [some (.val (.int p)),x1,x2,some (.cel μ.length),x4,x5,x6,y7,x8,some (.val (.int f)),some (.val (li u))] (μ++(true,.dct (dk (led p ls u f)))::tl):=by
 have hb:=hP.pos
 have hp0:0<p:=Int.lt_of_lt_of_le (by decide) hb.1
 obtain⟨e',μ',h1,y7,h2,h3⟩:=fB (same:=same) (b:=ar 7) (body:=jM 3 (aa 7) (au (cal (fnV 5 fC)) [(aa 0),(ag iu (aa 3) (aa 7)),(aa 10),(aa 9)])) (ts:=(dk ls).map λp=>vi p.1)
  (e:=[some (.val (.int p)),x1,x2,some (.cel μ.length),x4,x5,x6,x7,x8,some (.val (.int f)),some (.val (li u))]) (μ:=μ++(true,.dct (dk ls))::tl)
  (λi e μ'=>∃y7,μ'=μ++(true,.dct (dk (led p (ls.take i) u f++ls.drop i)))::tl∧e=[some (.val (.int p)),x1,x2,some (.cel μ.length),x4,x5,x6,y7,x8,some (.val (.int f)),some (.val (li u))])
  (λi e μ' _=>hs μ') (λi t e μ' ht ao=>by
   obtain⟨y7,hμ,he⟩:=ao
   subst hμ he
   obtain⟨q,hq,hi,rfl⟩:=Fz ht
   have hm:q∈ls:=List.mem_of_getElem? hq
   have hd:ls.drop i=q::ls.drop (i+1):=by
    rw[List.drop_eq_getElem_cons hi]
    congr 1
    rw[List.getElem?_eq_getElem hi] at hq
    exact Option.some.inj hq
   have JC:(led p (ls.take i) u f++q::ls.drop (i+1)).map (·.1)=ls.map (·.1):=by
    rw[← hd,List.map_append]
    have:(led p (ls.take i) u f).map (·.1)=(ls.take i).map (·.1):=by unfold led;rw[List.map_map];rfl
    rw[this,← List.map_append,List.take_append_drop]
   have hnd:((led p (ls.take i) u f++q::ls.drop (i+1)).map (·.1)).Nodup:=by rw[JC];exact hn
   have hlen:(dk (led p (ls.take i) u f++q::ls.drop (i+1))).length<szL:=by
    have:=congrArg List.length JC
    simp only[List.length_map] at this
    rw[Ft,this];exact hsz
   have hv:=IC hnd (q:=q) (by simp)
   have hfr:=yd (p:=p) (L:=L) (by lia) (by lia) f q.2 u (μ++(true,.dct (dk (led p (ls.take i) u f++q::ls.drop (i+1))))::tl) (rl q hm) hu hl (by lia)
   rw[hd]
   refine⟨_,_,_,lE _ _ _,?_,some (.val (.int q.1)),rfl,rfl⟩
   rw[Fy u f ls i q hq,List.append_assoc,List.singleton_append,← Fx (fr p q.2 u f) hnd]
   simp only[rf,gP,bM,d7,dY,List.set_cons_succ,List.set_cons_zero,cF,cE,R.aV,R.aZ,R.cp,lx,nN,m9,ju,iz,Option.map_some,lu,uA,hv]
   rw[hfr]
   simp only[R.dJ,R.cp,nM]
   rw[oX (kts:=dk (led p (ls.take i) u f++q::ls.drop (i+1))) (by simp) hlen]
   simp) ⟨x7,by simp[led],rfl⟩
 refine⟨y7,?_⟩
 rw[h1,h2,h3]
 have:((dk ls).map λp=>vi p.1).length=ls.length:=by simp[dk]
 rw[this,List.take_length,List.drop_length,List.append_nil]
end
seal RS.y9
theorem yf{r:RS}{k:Slots→af→RS}{I:Slots→af→Prop}{P:RS→Prop}{e':Slots}{μ':af}(h:r=.nx e' μ')(hk:(k e' μ').y9 I P):(r.seq k).y9 I P:=by rw[h];exact hk
section
variable{p:Int}{L m:Nat}
theorem FA(hP:lM p)(hl:L≤1000)(hmL:m≤L)(rows:List (List Int))(hR:∀r∈rows,Rw p L r)(hrn:rows.length≤1000)(x:SV)(μ:af)(hx:∀l,rd (μ++l) x=some (.lst (rows.map li))) :
  ∃ls ns,fnV 11 kq [.val (.int p),x,.val (.int m)] μ=.ok (.val (.tup [.dct (dk ls),.lst (ns.map li)])) μ∧mM p L m ls ns rows∧ls.length+ns.length=rows.length:=by
 have hb:=hP.pos
 have hp0:0<p:=Int.lt_of_lt_of_le (by decide) hb.1
 unfold kq
 simp[hx]
 refine nY (P:=λr=>∃ls ns,RS.qP μ.length (r.seq (aC (eU [aa 3,aa 4])))=R.ok (SV.val (.tup [.dct (dk ls),.lst (ns.map li)])) μ∧mM p L m ls ns rows∧ls.length+ns.length=rows.length)
  (λi e μ'=>∃ls ns x5 x6 x7 x8 x9 x10,e=[some (.val (.int p)),some x,some (.val (.int m)),some (.cel μ.length),some (.cel (μ.length+1)),x5,x6,x7,x8,x9,x10]∧μ'=μ++[(true,.dct (dk ls)),(true,.lst (ns.map li))]∧mM p L m ls ns (rows.take i)∧ls.length+ns.length=i)
  ?_ ?_ ?_ ⟨[],[],none,none,none,none,none,none,rfl,rfl,mM.start p L m,rfl⟩
 ·rintro i e μ' ⟨ls,ns,_,_,_,_,_,_,_,h,_⟩
  rw[h];exact hx _
 ·rintro i t e μ' ht ⟨ls,ns,x5,x6,x7,x8,x9,x10,rfl,rfl,E,hlen⟩
  rw[List.getElem?_map] at ht
  obtain⟨row,Lz,rfl⟩:=Option.map_eq_some_iff.mp ht
  have hi:i<rows.length:=(List.getElem?_eq_some_iff.mp Lz).1
  have hr:Rw p L row:=hR row (List.mem_of_getElem? Lz)
  have htk:rows.take (i+1)=rows.take i++[row]:=by rw[List.take_add_one,Lz];rfl
  obtain⟨r1,r2,r3⟩:=E.rest (by lia) hr
  refine⟨_,lE _ _ _,?_⟩
  (try simp_all! only[]);simp only[gI,j6,d7,List.set_cons_succ,List.set_cons_zero,cF,cE,R.aV,R.cp,RS.h_,mx,oY,R.aZ,m9,iz,Option.map_some,Option.bind_some,A1]
  obtain⟨y7,y8,h⟩:=Lx hP hl hmL E.key E.rl hr (λμ'=>Option.map (λx=>x.snd) μ'[List.length μ]?=some (T.dct (dk ls))) (μ++[(true,T.dct (dk ls)),(true,T.lst (ns.map li))]) (by simp) (some x) (some (.val (.int m))) (some (.cel μ.length)) (some (.cel (μ.length+1))) (some (.val (li row))) x7 x8 x9 x10
  refine yf h ?_
  clear h
  simp only[gI,j6,d7,gP,bM,dY,lx,List.set_cons_succ,List.set_cons_zero,cF,cE,R.aV,R.aZ,R.cp,RS.h_]
  have hfo:=Fs (m:=m) (frees p ls row) (μ++[(true,T.dct (dk ls)),(true,T.lst (ns.map li))]) r1 hmL hl
  generalize fnV 3 bY [.val (li (frees p ls row)),.val (.int m)] (μ++[(true,T.dct (dk ls)),(true,T.lst (ns.map li))])=G at hfo ⊢
  rcases hfo with ⟨rfl,hz⟩|⟨f,rfl,hfm,hne⟩
  ·skip
   have hsz:(ns.map li).length<szL:=by rw[List.length_map];unfold szL;lia
   (try simp_all! only[]);simp[yY _ _ _ _ _ hsz]
   refine⟨ls,ns++[frees p ls row],⟨rfl,by simp⟩,?_,by simp;lia⟩
   rw[htk]
   exact E.Lw (by lia) hr hz
  ·skip
   have ha:atI ((frees p ls row).map T.int) (f:Int)=some (.int (g (frees p ls row) f)):=atg (by lia) (by rw[r1.len];lia)
   have gb:=r1.g0 (p:=p) (by lia) f
   have oH:g (frees p ls row) f%p≠0:=by rw[Int.emod_eq_of_lt gb.1 gb.2];exact hne
   obtain⟨y,ho,y0,y1,yz⟩:=wB hP 1 (g (frees p ls row) f) (μ++[(true,T.dct (dk ls)),(true,T.lst (ns.map li))]) oH
   have ht:=yc (p:=p) (L:=L) (by lia) (by lia) y (frees p ls row) (μ++[(true,T.dct (dk ls)),(true,T.lst (ns.map li))]) r1 hl
   have hinv:Inv p y (g (frees p ls row) f):=by
    unfold Inv
    exact Int.emod_eq_emod_iff_emod_sub_eq_zero.mpr yz
   have hE:=E.lead (by lia) hr hfm hne hinv
   have fne:∀q∈ls,q.1≠f:=λq hq e=>hne (by rw[← e];exact r2 q hq)
   generalize hu:tm p y (frees p ls row)=u at ht hE
   have hu2:Rw p L u:=by rw[← hu];exact Fq (by lia) y r1.len
   (try simp_all! only[]);simp only[R.dJ,R.cp,yR,vd,d7,List.set_cons_succ,List.set_cons_zero,cF,cE,R.aV,R.aZ,ju,qC,B0,Option.map_some,iM,Bool.false_eq_true,if_false,gI,j6,gP,bM,dY,lx,qB,j3,Option.bind_some,lA,ha,ho,ht,RS.h_,mx,vk,m9,iz,xn,eK]
   refine (Ly hP hl hmL E.nd hfm E.rl hu2 (by unfold szL;lia) _ ?_ _ _ _ _ _ _ _ _ _).elim λy7 h=>yf h ?_
   ·intro μ'';trivial
   have hkl:(dk (led p ls u f)).length<szL:=by rw[Ft];simp[led];unfold szL;lia
   simp only[rf,d7,cF,cE,R.aV,R.cp,ju,nM]
   rw[oX (kts:=dk (led p ls u f)) (by simp) hkl]
   (try simp_all! only[]);simp only[R.aV,R.cp,A0,vv]
   rw[Fv u (λq hq=>by
    obtain⟨q0,h0,rfl⟩:=List.mem_map.mp hq
    exact fne q0 h0)]
   refine⟨_,ns,_,_,_,_,_,_,rfl,rfl,?_,?_⟩
   ·rw[htk];exact hE
   ·simp[led];lia
 ·rintro e μ' ⟨ls,ns,x5,x6,x7,x8,x9,x10,rfl,rfl,E,hlen⟩
  rw[List.length_map,List.take_length] at E
  rw[List.length_map] at hlen
  exact⟨ls,ns,by simp,E,hlen⟩
end
def eu(n k:Nat):List Int:=(List.replicate n 0).set k 1
theorem iK(n:Nat)(r:List Int):dot (List.replicate n 0) r=0:=by
 induction n generalizing r with
 | zero=>simp
 | succ n ih=>cases r with
  | nil=>simp
  | cons x r=>rw[List.replicate_succ,bU,ih];simp
theorem pv:∀(n k:Nat) (r:List Int),k<n→dot (eu n k) r=g r k
 | 0,k,r,h=>by lia
 | n+1,0,r,h=>by
  cases r with
  | nil=>simp[g]
  | cons x r =>
   have:eu (n+1) 0=1::List.replicate n 0:=by simp[eu,List.replicate_succ]
   rw[this,bU,iK,jE];lia
 | n+1,k+1,r,h=>by
  have e:eu (n+1) (k+1)=0::eu n k:=by simp[eu,List.replicate_succ]
  cases r with
  | nil=>simp[g]
  | cons x r=>rw[e,bU,eT,pv n k r (by lia)];lia
theorem Bk(l r:List Int):dot (l.map λx=>-x) r=- dot l r:=by
 induction l generalizing r with
 | nil=>simp
 | cons x l ih=>cases r with
  | nil=>simp
  | cons y r=>simp only[List.map_cons,bU,ih];rw[Int.neg_mul];lia
theorem sO:∀(xs ys:List Int),(∀i,g xs i*g ys i=0)→dot xs ys=0
 | [],ys,h=>by simp
 | x::xs,[],h=>by simp
 | x::xs,y::ys,h=>by
  rw[bU,sO xs ys λi=>by simpa [eT] using h (i+1)]
  have:=h 0
  rw[jE,jE] at this
  lia
theorem sP:∀(xs ys:List Int) (k:Nat),(∀i,i≠k→g xs i*g ys i=0)→dot xs ys=g xs k*g ys k
 | [],ys,k,h=>by simp[g]
 | x::xs,[],k,h=>by simp[g]
 | x::xs,y::ys,0,h=>by
  rw[bU,sO xs ys λi=>by simpa [eT] using h (i+1) (by lia),jE,jE];lia
 | x::xs,y::ys,k+1,h=>by
  have:=h 0 (by lia)
  rw[jE,jE] at this
  rw[bU,this,sP xs ys k λi hi=>by simpa [eT] using h (i+1) (by lia),eT,eT];lia
theorem wC(r:List Int)(n k:Nat)(h:k<n):g (r.take n) k=g r k:=by
 simp[g,List.getD_eq_getElem?_getD,List.getElem?_take,h]
theorem Ab(r:List Int)(n k:Nat)(h:n≤k):g (r.take n) k=0:=by
 simp[g,List.getD_eq_getElem?_getD,List.getElem?_take,Nat.not_lt.mpr h]
theorem JD(r:List Int)(k j:Nat)(v:Int)(h:k<r.length):g (r.set k v) j=if j=k then v else g r j:=by
 by_cases e:j=k
 ·subst e;simp[g,List.getD_eq_getElem?_getD,h]
 ·simp[g,List.getD_eq_getElem?_getD,List.getElem?_set,e,Ne.symm e]
theorem FC(r:List Int)(m:Nat)(h:m<r.length):r=r.take m++g r m::r.drop (m+1):=by
 rw[zZ r m h,← List.drop_eq_getElem_cons h,List.take_append_drop]
theorem jY(a c r:List Int)(b:Int)(m:Nat)(ha:a.length=m)(h:m<r.length):dot (a++b::c) r=dot a (r.take m)+b*g r m+dot c (r.drop (m+1)):=by
 have e:=FC r m h
 have:dot (a++b::c) (r.take m++g r m::r.drop (m+1))=dot a (r.take m)+(b*g r m+dot c (r.drop (m+1))):=by
  rw[z_ _ _ _ _ (by simp[ha];lia),bU]
 rw[← e] at this
 rw[this];lia
theorem FD(n k:Nat):(eu n k).length=n:=by simp[eu]
theorem sQ{p:Int}(hp:1<p)(n:Nat):Rw p n (List.replicate n 0):=⟨by simp,λx hx=>by have:=(List.mem_replicate.mp hx).2;lia,λx hx=>by have:=(List.mem_replicate.mp hx).2;lia⟩
theorem Rw.set{p:Int}{n k:Nat}{r:List Int}{v:Int}(h:Rw p n r)(h0:0≤v)(h1:v<p):Rw p n (r.set k v):=by
 refine⟨by simp[h.len],λx hx=>?_,λx hx=>?_⟩
 ·rcases List.mem_or_eq_of_mem_set hx with z|z
  ·exact h.lo x z
  ·lia
 ·rcases List.mem_or_eq_of_mem_set hx with z|z
  ·exact h.hi x z
  ·lia
theorem Rw.append{p:Int}{n k:Nat}{r s:List Int}(h:Rw p n r)(h':Rw p k s):Rw p (n+k) (r++s):=by
 refine⟨by simp[h.len,h'.len],λx hx=>?_,λx hx=>?_⟩
 ·rcases List.mem_append.mp hx with z|z
  ·exact h.lo x z
  ·exact h'.lo x z
 ·rcases List.mem_append.mp hx with z|z
  ·exact h.hi x z
  ·exact h'.hi x z
theorem Rw.drop{p:Int}{n k:Nat}{r:List Int}(h:Rw p n r):Rw p (n-k) (r.drop k) :=
 ⟨by simp[h.len],λx hx=>h.lo x (List.mem_of_mem_drop hx),λx hx=>h.hi x (List.mem_of_mem_drop hx)⟩
def col(lines:List (List Int))(j:Nat):List Int:=lines.map λl=>g l j
def aug(w:Nat)(lines:List (List Int))(ws:List Int)(j:Nat):List Int:=(col lines j++[g ws j])++eu w j
section
variable{p:Int}{w:Nat}{lines:List (List Int)}{ws:List Int}
theorem LA(hp:0<p)(hl:∀l∈lines,Rw p w l)(j:Nat):Rw p lines.length (col lines j):=by
 refine⟨by simp[col],λx hx=>?_,λx hx=>?_⟩
 ·obtain⟨l,h,rfl⟩:=List.mem_map.mp hx
  exact ((hl l h).g0 hp j).1
 ·obtain⟨l,h,rfl⟩:=List.mem_map.mp hx
  exact ((hl l h).g0 hp j).2
theorem LB(hp:1<p)(hl:∀l∈lines,Rw p w l)(hw:Rw p w ws)(j:Nat):Rw p (lines.length+1+w) (aug w lines ws j):=by
 have g0:=hw.g0 (by lia) j
 have h1:Rw p 1 [g ws j]:=⟨rfl,λx hx=>by simp at hx;lia,λx hx=>by simp at hx;lia⟩
 exact ((LA (by lia) hl j).append h1).append ((sQ hp w).set (by lia) hp)
theorem Ol(k j:Nat)(h:k<lines.length):g (col lines j) k=g lines[k] j:=by
 rw[zZ _ _ (by simp[col,h])];simp[col]
theorem uN(j:Nat):(aug w lines ws j).take lines.length=col lines j∧g (aug w lines ws j) lines.length=g ws j∧(aug w lines ws j).drop (lines.length+1)=eu w j:=by
 have hc:(col lines j).length=lines.length:=by simp[col]
 refine⟨?_,?_,?_⟩
 ·unfold aug;rw[List.append_assoc,List.take_append_of_le_length (by lia),List.take_of_length_le (by lia)]
 ·unfold aug;rw[zZ _ _ (by simp[hc])];simp[hc]
 ·unfold aug;rw[List.drop_append_of_le_length (by simp[hc]),List.drop_of_length_le (by simp[hc]),List.nil_append]
theorem told{ls:List Ld}{ns:List (List Int)}(hp:1<p)(E:mM p (lines.length+1+w) lines.length ls ns ((List.range w).map λj=>aug w lines ws j)){r:List Int}(hr:r∈ns)(hw:ws.length=w)(hl:∀l∈lines,l.length=w) :
  (∀l∈lines,p ∣ dot l (r.drop (lines.length+1)))∧p ∣ g r lines.length-dot ws (r.drop (lines.length+1)):=by
 have hrl:=(E.rn r hr).len
 have use:∀(a v:List Int) (b:Int),a.length=lines.length→(∀j,j<w→dot a (col lines j)+b*g ws j=g v j)→p ∣ dot a (r.take lines.length)+b*g r lines.length-dot v (r.drop (lines.length+1)):=λa v b ha hv=>by
  have hz:=((E.eq (a++b::v.map λx=>-x)).mp λq hq=>by
   obtain⟨j,hj,rfl⟩:=List.mem_map.mp hq
   have hj:j<w:=List.mem_range.mp hj
   obtain⟨e1,e2,e3⟩:=uN (w:=w) (lines:=lines) (ws:=ws) j
   unfold Z
   rw[jY a _ _ b lines.length ha (by simp[aug,col]),e1,e2,e3,Bk,Fo v (eu w j),pv w j v hj,hv j hj]
   exact⟨0,by lia⟩).2 r hr
  unfold Z at hz
  rw[jY a _ _ b lines.length ha (by lia),Bk] at hz
  exact hz
 refine⟨λl hl'=>?_,?_⟩
 ·obtain⟨k,hk,rfl⟩:=List.mem_iff_getElem.mp hl'
  have:=use (eu lines.length k) lines[k] 0 (FD _ _) λj hj=>by rw[pv _ _ _ hk,Ol k j hk];lia
  rw[pv _ _ _ hk,wC _ _ _ hk,E.no r hr k hk] at this
  obtain⟨t,ht⟩:=this
  exact⟨-t,by rw[Int.mul_neg];lia⟩
 ·have:=use (List.replicate lines.length 0) ws 1 (by simp) λj hj=>by rw[iK];lia
  rw[iK] at this
  simpa using this
theorem LC{ls:List Ld}{ns:List (List Int)}(hp:1<p)(E:mM p (lines.length+1+w) lines.length ls ns ((List.range w).map λj=>aug w lines ws j))(h0:∀r∈ns,g r lines.length=0){ms:List Int}(hm:ms.length=lines.length)
  (h1:∀q∈ls,g ms q.1=g q.2 lines.length) (h2:∀i,(∀q∈ls,q.1≠i)→g ms i=0) (j:Nat) (hj:j<w):p ∣ dot ms (col lines j)-g ws j:=by
 have hz:=(E.eq (ms++(-1)::List.replicate w 0)).mpr ⟨λq hq=>?_,λr hr=>?_⟩ (aug w lines ws j) (List.mem_map.mpr ⟨j,List.mem_range.mpr hj,rfl⟩)
 ·obtain⟨e1,e2,e3⟩:=uN (w:=w) (lines:=lines) (ws:=ws) j
  unfold Z at hz
  rw[jY ms _ _ _ lines.length hm (by simp[aug,col]),e1,e2,iK] at hz
  obtain⟨t,ht⟩:=hz
  exact⟨t,by lia⟩
 ·unfold Z
  rw[jY ms _ _ _ lines.length hm (by rw[(E.rl q hq).len];lia),iK,sP ms (q.2.take lines.length) q.1,wC _ _ _ (E.key q hq),E.one q hq,h1 q hq]
  ·exact⟨0,by lia⟩
  ·intro i hi
   by_cases hk:∃q'∈ls,q'.1=i
   ·obtain⟨q',hq',rfl⟩:=hk
    rw[wC _ _ _ (E.key q' hq'),E.off q hq q' hq' hi];simp
   ·rw[h2 i λq' hq' e=>hk ⟨q',hq',e⟩];simp
 ·unfold Z
  rw[jY ms _ _ _ lines.length hm (by rw[(E.rn r hr).len];lia),iK,h0 r hr,sO]
  ·exact⟨0,by lia⟩
  ·intro i
   by_cases hi:i<lines.length
   ·rw[wC _ _ _ hi,E.no r hr i hi];simp
   ·rw[Ab _ _ _ (by lia)];simp
end
def cq:DS :=
 (aC (aH (bX (aa 1)) [none,some 0,some 2] (ar 0) (dC (.bl true)) (ag aP (ax (aa 0) (aa 2)) (aa 1))))
def lS:DS :=
 (aq (ay 2 (bp (pS pT [(dC (.int 0))] (aa 0))))
 (aq (dR 2 (aa 1) (dC (.int 1)))
 (aC (aa 2))))
def kr:DS :=
 (aq (ay 4 (fP (aa 2)))
 (aq (ay 5 (bp (eS [])))
 (aq (cf (aI (aa 1)) (ar 6) (bo (aa 5) (ag bj (ag bj (au (cal (fnV 3 cq)) [(aa 0),(aa 2),(aa 6)]) (eS [(ag aP (ax (aa 3) (aa 6)) (aa 0))])) (au (cal (fnV 3 lS)) [(aa 1),(aa 6)]))))
 (aq (ay 7 (au (cal (fnV 11 kq)) [(aa 0),(aa 5),(aa 4)]))
 (aq (cf (bX (ax (aa 7) (dC (.int 1)))) (ar 8) (sIf (ag fNe (ax (aa 8) (aa 4)) (dC (.int 0))) (aC (j0 [(dC (.str "turn")),(dUn b7 (au (cal (fnV 3 iA)) [(aa 0),(au (cal (fnV 5 ko)) [(aa 0),(dC (.int 1)),(ax (aa 8) (aa 4))]),(B1 (aa 8) (some (ag bj (aa 4) (dC (.int 1)))) none)]))])) bB))
 (aq (ay 9 (bp (pS pT [(dC (.int 0))] (aa 4))))
 (aq (cf (kj (ax (aa 7) (dC (.int 0)))) (ee [6,10]) (dR 9 (aa 6) (ax (aa 10) (aa 4))))
 (aC (j0 [(dC (.str "sum")),(aa 9)])))))))))
noncomputable abbrev tu (r : List Int) : T := .tup (r.map T.int)
theorem Bl{μ:af}{x:SV}{ts:List T}(h:rd μ x=some (.lst ts)):mY μ x=some (.int ts.length):=by
 cases x with
 | val t=>cases h;rfl
 | cel k=>rw[DT,h];rfl
 | box xs=>cases h
theorem Bm{μ:af}{x:SV}{ts:List T}{i:Int}(h:rd μ x=some (.lst ts)):gQ μ x (.int i)=(atI ts i).map SV.val:=by
 cases x with
 | val t=>cases h;rfl
 | cel k=>rw[DQ,h];rfl
 | box xs=>cases h
section
variable{p:Int}{w:Nat}{lines:List (List Int)}{ws:List Int}
def mdl(p:Int)(l:List Int):List Int:=l.map (·%p)
theorem T2(p:Int)(l:List Int)(j:Nat):g (mdl p l) j=g l j%p:=by
 unfold g mdl
 rw[List.getD_eq_getElem?_getD,List.getD_eq_getElem?_getD,List.getElem?_map]
 cases l[j]? with
 | none=>simp
 | some x=>simp
theorem Om{l:List Int}(hp:0<p)(h:l.length=w):Rw p w (mdl p l):=by
 refine⟨by unfold mdl;rw[List.length_map];exact h,λx hx=>?_,λx hx=>?_⟩
 ·obtain⟨y,_,rfl⟩:=List.mem_map.mp hx;exact Int.emod_nonneg _ (by lia)
 ·obtain⟨y,_,rfl⟩:=List.mem_map.mp hx;exact Int.emod_lt_of_pos _ hp
theorem Oo{l:List Int}(h:Rw p w l):mdl p l=l:=by
 unfold mdl
 exact (List.map_congr_left λx hx=>Int.emod_eq_of_lt (h.2 x hx) (h.3 x hx)).trans (List.map_id' l)
theorem LD(hl:∀l∈lines,Rw p w l):lines.map (mdl p)=lines:=(List.map_congr_left λl h=>Oo (hl l h)).trans (List.map_id' lines)
theorem yg(hp:0<p)(hl:∀l∈lines,l.length=w)(hn:lines.length≤1000)(j:Nat)(hj:j<w)(x:SV)(μ:af)(hx:rd μ x=some (.lst (lines.map tu))) :
  fnV 3 cq [.val (.int p),x,.val (.int j)] μ=.ok (.val (li (col (lines.map (mdl p)) j))) μ:=by
 unfold cq
 (try simp_all! only[]);simp[hx]
 rw[dy _ (λl:List Int=>.int (g l j%p)) (by simp[hx])]
 ·rw[R.dJ,R.aZ,if_pos (by simp[szL];lia)]
  (try simp_all! only[]);simp[col,Function.comp_def,T2]
 ·intro l hm
  have h:=hl l hm
  refine⟨_,rfl,?_⟩
  have ha:atI (l.map T.int) (j:Int)=some (.int (g l j)):=by
   have:=atg (r:=l) (k:=(j:Int)) (by lia) (by rw[h];lia)
   simpa using this
  (try simp_all! only[]);simp[ha,hp]
theorem ID(xs:List T)(k:Int)(h:-(2 ^ 63)≤k∧k<2 ^ 63∧xs.length*k.toNat≤szL):pT (.lst xs) (.int k)=some (.lst (List.replicate k.toNat xs).flatten):=if_pos h
theorem rep0(n:Nat)(h:n≤1000):pT (.lst [.int 0]) (.int (n:Int))=some (li (List.replicate n 0)):=by
 have hn:(n:Int).toNat=n:=by lia
 have hz:[T.int 0].length*(n:Int).toNat≤szL:=by
  rw[hn]
  unfold szL
  simp
  lia
 rw[ID _ _ ⟨by lia,by lia,hz⟩,hn,List.flatten_replicate_singleton,li,List.map_replicate]
theorem hs_(w j:Nat)(hj:j<w)(μ:af):setAt (.cel μ.length) (.int (j:Int)) (.int 1) (μ++[(true,li (List.replicate w 0))])=some (μ++[(true,li (eu w j))]):=by
  rw[xy (ts:=(List.replicate w 0).map T.int) iz (by lia) (by rw[List.length_map,List.length_replicate];lia),vv]
  have:(j:Int).toNat=j:=by lia
  rw[this]
  unfold eu li
  rw[List.map_set]
theorem LF(f:T→T→Option T)(x y:Int)(z z2:T)(μ:af)(hr:f (.lst [.int 0]) (.int x)=some z)(hs:setAt (.cel μ.length) (.int y) (.int 1) (μ++[(true,z)])=some (μ++[(true,z2)])):fnV 3 (aq (ay 2 (bp (pS f [(dC (.int 0))] (aa 0))))
 (aq (dR 2 (aa 1) (dC (.int 1)))
 (aC (aa 2)))) [.val (.int x),.val (.int y)] μ=.ok (.val z2) μ:=by
 simp[hr,hs]
theorem IE(j:Nat)(hj:j<w)(hw:w≤1000)(μ:af):fnV 3 lS [.val (.int w),.val (.int j)] μ=.ok (.val (li (eu w j))) μ :=
 LF pT w j _ _ μ (rep0 w hw) (hs_ w j hj μ)
theorem FE(f:T→T→Option T)(i j:Nat)(e:Slots)(μ:af)(k:Int)(t:T)(hs:slot e j=some (.val (.int k)))(h:f (.lst [.int 0]) (.int k)=some t):ay i (bp (pS f [dC (.int 0)] (aa j))) e μ=.nx (e.set i (some (.cel μ.length))) (μ++[(true,t)]):=by
 (try simp_all! only[]);simp[hs,h]
theorem wD{raw:List (List Int)}(hP:lM p)(hl:∀l∈raw,l.length=w)(CP:raw.map (mdl p)=lines)(hw:Rw p w ws)(hn:lines.length≤200)(hw2:w≤100)(x:SV)(μ:af)(hx:∀l,rd (μ++l) x=some (.lst (raw.map tu)))(same:af→Prop)(FF:∀μ',same μ')(x4 x6 x7 x8 x9 x10:Option SV) :
  ∃y6,forL same (ar 6) (bo (aa 5) (ag bj (ag bj (au (cal (fnV 3 cq)) [(aa 0),(aa 2),(aa 6)]) (eS [(ag aP (ax (aa 3) (aa 6)) (aa 0))])) (au (cal (fnV 3 lS)) [(aa 1),(aa 6)]))) (bC 0 w)
   [some (.val (.int p)),some (.val (.int w)),some x,some (.val (tu ws)),x4,some (.cel μ.length),x6,x7,x8,x9,x10] (μ++[(true,.lst [])]) =
   .nx [some (.val (.int p)),some (.val (.int w)),some x,some (.val (tu ws)),x4,some (.cel μ.length),y6,x7,x8,x9,x10] (μ++[(true,.lst (((List.range w).map λj=>aug w lines ws j).map li))]):=by
 have hb:=hP.pos
 have hp0:0<p:=Int.lt_of_lt_of_le (by decide) hb.1
 have hrl:raw.length=lines.length:=by rw[← CP,List.length_map]
 obtain⟨e',μ',h1,y6,h2,h3⟩:=fB (same:=same) (b:=ar 6) (body:=bo (aa 5) (ag bj (ag bj (au (cal (fnV 3 cq)) [(aa 0),(aa 2),(aa 6)]) (eS [(ag aP (ax (aa 3) (aa 6)) (aa 0))])) (au (cal (fnV 3 lS)) [(aa 1),(aa 6)]))) (ts:=bC 0 w)
  (e:=[some (.val (.int p)),some (.val (.int w)),some x,some (.val (tu ws)),x4,some (.cel μ.length),x6,x7,x8,x9,x10]) (μ:=μ++[(true,.lst [])])
  (λi e μ'=>∃y6,e=[some (.val (.int p)),some (.val (.int w)),some x,some (.val (tu ws)),x4,some (.cel μ.length),y6,x7,x8,x9,x10]∧μ'=μ++[(true,.lst (((List.range i).map λj=>aug w lines ws j).map li))])
  (λi e μ' _=>FF μ') (λi t e μ' ht ao=>by
   obtain⟨y6,he,hμ⟩:=ao
   subst he hμ
   obtain⟨hi,rfl⟩:=qX ht
   have e0:(0:Int)+(i:Int)=(i:Int):=by lia
   rw[e0]
   generalize hc:(true,T.lst (((List.range i).map λj=>aug w lines ws j).map li))=c
   have Oq:=yg (p:=p) (w:=w) (by lia) hl (by lia) i (by lia) x (μ++[c]) (hx _)
   rw[CP] at Oq
   have hun:=IE (w:=w) i (by lia) (by lia) (μ++[c])
   have gb:=hw.g0 (p:=p) (by lia) i
   have ha:atI (ws.map T.int) (i:Int)=some (.int (g ws i)):=by
    have:=atg (r:=ws) (k:=(i:Int)) (by lia) (by rw[hw.len];lia)
    simpa using this
   have oH:g ws i%p=g ws i:=Int.emod_eq_of_lt gb.1 gb.2
   have a1:bj (li (col lines i)) (.lst [.int (g ws i)])=some (li (col lines i++[g ws i])):=by
    rw[qG _ _ (by simp[col,szL];lia)];simp
   have a2:bj (li (col lines i++[g ws i])) (li (eu w i))=some (li (aug w lines ws i)):=by
    rw[qG _ _ (by simp[col,szL,eu];lia)];simp[aug]
   have hls:nR (.cel μ.length) (μ++[c])=some ():=by rw[← hc];exact nX _ _ _ _
   have hap:∀t,appendAt (.cel μ.length) t (μ++[c])=some (μ++[(true,T.lst (((List.range i).map λj=>aug w lines ws j).map li++[t]))]):=λt=>by rw[← hc];exact kh _ _ _ _ (by simp[szL];lia)
   refine⟨_,_,_,lE _ _ _,?_,some (.val (.int i)),rfl,rfl⟩
   simp only[hls,hap,qN,gP,bM,dY,d7,lx,nN,ve,j3,mw,qy,nM,List.set_cons_succ,List.set_cons_zero,cF,cE,R.aV,R.aZ,R.cp,ju,lu,Option.bind_some,nP,ha,Option.map_some,eV _ _ hp0,oH,Oq,hun,R.dJ,a1,a2]
   rw[List.range_succ,List.map_append,List.map_append]
   rfl) ⟨x6,rfl,rfl⟩
 refine⟨y6,?_⟩
 rw[h1,h2,h3,cH]
end
theorem T3(r:List Int)(i:Int)(h0:0≤i)(h1:i≤r.length):KN (li r) (some i) none=some (li (r.drop i.toNat)):=by
 have e1:sIx (r.map T.int).length 0 (some i)=i.toNat:=by show (if i<0 then _ else min i.toNat (r.map T.int).length)=_;rw[if_neg (by omega),List.length_map];omega
 have e2:sIx (r.map T.int).length (r.map T.int).length none=(r.map T.int).length:=rfl
 show some (T.lst (yN (r.map T.int) (some i) none))=_
 unfold yN
 rw[e1,e2,List.take_of_length_le (by simp)]
 simp
theorem atn{r:List Int}{k:Nat}(h:k<r.length):atI (r.map T.int) (k:Int)=some (.int (g r k)):=by
 have:=atg (r:=r) (k:=(k:Int)) (by omega) (by omega)
 simpa using this
section
variable{p:Int}{w:Nat}{lines:List (List Int)}{ws:List Int}
theorem IF{L m:Nat}(hp:0<p){ls:List Ld}(hn:(ls.map (·.1)).Nodup)(hk:∀q∈ls,q.1<m)(rl:∀q∈ls,Rw p L q.2)(hmL:m<L)(hp1:1<p)(same:af→Prop)(FF:∀μ',same μ')(μ:af)(c:Bool×T)(x0 x1 x2 x3 x5 x6 x7 x8 x10:Option SV) :
  ∃y6 y10 ms,forL same (ee [6,10]) (dR 9 (aa 6) (ax (aa 10) (aa 4))) (fK (dk ls)) [x0,x1,x2,x3,some (.val (.int m)),x5,x6,x7,x8,some (.cel (μ.length+1)),x10] (μ++[c,(true,li (List.replicate m 0))]) =
   .nx [x0,x1,x2,x3,some (.val (.int m)),x5,y6,x7,x8,some (.cel (μ.length+1)),y10] (μ++[c,(true,li ms)])∧Rw p m ms∧(∀q∈ls,g ms q.1=g q.2 m)∧∀j,(∀q∈ls,q.1≠j)→g ms j=0:=by
 obtain⟨e',μ',h1,y6,y10,ms,h2,h3,h4,h5,h6⟩:=fB (same:=same) (b:=ee [6,10]) (body:=dR 9 (aa 6) (ax (aa 10) (aa 4))) (ts:=fK (dk ls))
  (e:=[x0,x1,x2,x3,some (.val (.int m)),x5,x6,x7,x8,some (.cel (μ.length+1)),x10]) (μ:=μ++[c,(true,li (List.replicate m 0))])
  (λi e μ'=>∃y6 y10 ms,e=[x0,x1,x2,x3,some (.val (.int m)),x5,y6,x7,x8,some (.cel (μ.length+1)),y10]∧μ'=μ++[c,(true,li ms)]∧Rw p m ms∧(∀q∈ls.take i,g ms q.1=g q.2 m)∧∀j,(∀q∈ls.take i,q.1≠j)→g ms j=0)
  (λi e μ' _=>FF μ') (λi t e μ' ht ao=>by
   obtain⟨y6,y10,ms,he,hμ,hr,h5,h6⟩:=ao
   subst he hμ
   obtain⟨q,hq,hi,rfl⟩:=uM ht
   have hm:q∈ls:=List.mem_of_getElem? hq
   have hkq:=hk q hm
   have ha:=atn (r:=q.2) (k:=m) (by rw[(rl q hm).len];exact hmL)
   have gb:=(rl q hm).g0 hp m
   have T4:setAt (.cel (μ.length+1)) (.int (q.1:Int)) (.int (g q.2 m)) (μ++[c,(true,li ms)])=some (μ++[c,(true,li (ms.set q.1 (g q.2 m)))]):=by
    rw[xy (ts:=ms.map T.int) HE (by omega) (by rw[List.length_map,hr.len];omega),HF]
    have:(q.1:Int).toNat=q.1:=by omega
    rw[this,← List.map_set]
   have htk:ls.take (i+1)=ls.take i++[q]:=by rw[List.take_add_one,hq];rfl
   have hne:∀q'∈ls.take i,q'.1≠q.1:=λq' hq' e=>by
    have hd:ls=ls.take i++q::ls.drop (i+1):=by
     have:ls.drop i=q::ls.drop (i+1):=by
      rw[List.drop_eq_getElem_cons hi]
      congr 1
      rw[List.getElem?_eq_getElem hi] at hq
      exact Option.some.inj hq
     rw[← this,List.take_append_drop]
    rw[hd,List.map_append,List.nodup_append] at hn
    exact hn.2.2 q'.1 (List.mem_map.mpr ⟨q',hq',rfl⟩) q.1 (by simp) e
   have hlen:q.1<ms.length:=by rw[hr.len];exact hkq
   refine⟨_,_,_,gA _ _ _ _ _,?_,some (.val (.int q.1)),some (.val (li q.2)),ms.set q.1 (g q.2 m),rfl,rfl,hr.set gb.1 gb.2,λq' hq'=>?_,λj hj=>?_⟩
   ·simp only[pK,j3,d7,List.set_cons_succ,List.set_cons_zero,cF,cE,R.aV,R.aZ,R.cp,ju,Option.bind_some,lA,ha,Option.map_some,nM,T4]
   ·rw[JD _ _ _ _ hlen]
    rw[htk] at hq'
    rcases List.mem_append.mp hq' with h|h
    ·rw[if_neg (hne q' h)];exact h5 q' h
    ·simp at h;subst h;rw[if_pos rfl]
   ·rw[JD _ _ _ _ hlen,if_neg (λe=>hj q (by rw[htk];simp) e.symm)]
    exact h6 j λq' hq'=>hj q' (by rw[htk];simp[hq'])) ⟨x6,x10,_,rfl,rfl,sQ hp1 m,by simp,λj _=>by
     by_cases hj:j<m
     ·rw[zZ _ _ (by simp[hj])];simp
     ·simp[g,List.getD_eq_getElem?_getD,hj]⟩
 have hil:(fK (dk ls)).length=ls.length:=by simp[fK,dk]
 rw[hil,List.take_length] at h5 h6
 exact⟨y6,y10,ms,by rw[h1,h2,h3],h4,h5,h6⟩
end
inductive CQ(p:Int)(w:Nat)(lines:List (List Int))(ws:List Int)(μ:af):RS→Prop where
 | turn (c:T) (tv:List Int) (h:Rw p w tv) (h1:∀l∈lines,p ∣ dot l tv) (h2:p ∣ dot ws tv-1):CQ p w lines ws μ (.rt (.box [.inl (.str "turn"),.inl (tu tv)]) (μ++[(true,c)]))
 | sum (c:T) (ms:List Int) (h:Rw p lines.length ms) (h1:∀j,j<w→p ∣ dot ms (col lines j)-g ws j):CQ p w lines ws μ (.rt (.box [.inl (.str "sum"),.inr (μ.length+1)]) (μ++[(true,c),(true,li ms)]))
section
variable{p:Int}{w:Nat}{lines:List (List Int)}{ws:List Int}
theorem FG{raw:List (List Int)}(hP:lM p)(hrw:∀l∈raw,l.length=w)(CP:raw.map (mdl p)=lines)(hw:Rw p w ws)(hn:lines.length≤200)(hw2:w≤100)(x:SV)(μ:af)(hx:∀l,rd (μ++l) x=some (.lst (raw.map tu))) :
  CQ p w lines ws μ (kr (starts 11 [.val (.int p),.val (.int w),x,.val (tu ws)]) μ):=by
 have hb:=hP.pos
 have hp0:0<p:=Int.lt_of_lt_of_le (by decide) hb.1
 have hl:∀l∈lines,Rw p w l:=λl h=>by
  rw[← CP] at h
  obtain⟨r,hr,rfl⟩:=List.mem_map.mp h
  exact Om hp0 (hrw r hr)
 have hx0:rd μ x=some (.lst (raw.map tu)):=by simpa using hx []
 have hlen:=Bl hx0
 rw[List.length_map,show raw.length=lines.length by rw[← CP,List.length_map]] at hlen
 unfold kr
 simp only[uy,gI,j6,AN,d7,List.map_cons,List.map_nil,List.length_cons,List.length_nil,List.cons_append,List.nil_append,Nat.reduceAdd,Nat.reduceSub,List.replicate_succ,List.replicate_zero,cF,cE,R.aV,R.aZ,R.cp,hlen,Option.map_some,List.set_cons_succ,List.set_cons_zero,RS.h_,qF,ve,dY,qy,qE,mx,qO,ju,Option.bind_some,oV,cN (show (0:Int)≤(w:Int) by lia) (show (w:Int)≤1000000 by lia),if_true,Int.toNat_natCast]
 obtain⟨y6,h1⟩:=wD hP hrw CP hw hn hw2 x μ hx (λ_=>True) (λ_=>trivial) (some (.val (.int lines.length))) none none none none none
 rw[h1,RS.h_]
 clear h1
 have Ot:∀r∈(List.range w).map λj=>aug w lines ws j,Rw p (lines.length+1+w) r:=λr hr=>by
  obtain⟨j,_,rfl⟩:=List.mem_map.mp hr
  exact LB (by lia) hl hw j
 obtain⟨ls,ns,h2,E,_⟩:=FA (m:=lines.length) hP (L:=lines.length+1+w) (by lia) (by lia) ((List.range w).map λj=>aug w lines ws j) Ot (by simp;lia) (.cel μ.length) (μ++[(true,.lst (((List.range w).map λj=>aug w lines ws j).map li))]) (λl=>by simp)
 generalize hc:T.lst (((List.range w).map λj=>aug w lines ws j).map li)=c at h2 ⊢
 (try simp_all! only[]);simp only[gI,j6,d7,gP,bM,dY,lx,List.set_cons_succ,List.set_cons_zero,cF,cE,R.aV,R.aZ,R.cp,h2,R.dJ,RS.h_,mx,vk,j3,qB,ju,Option.bind_some,nP,AZ,Option.map_some,eK]
 refine nY (P:=λr=>CQ p w lines ws μ (r.seq (aq (ay 9 (bp (pS pT [dC (.int 0)] (aa 4))))
  (aq (cf (kj (ax (aa 7) (dC (.int 0)))) (ee [6,10]) (dR 9 (aa 6) (ax (aa 10) (aa 4)))) (aC (j0 [dC (.str "sum"),aa 9]))))))
  (λi e μ'=>∃y8,e=[some (.val (.int p)),some (.val (.int w)),some x,some (.val (tu ws)),some (.val (.int lines.length)),some (.cel μ.length),y6,some (.val (.tup [.dct (dk ls),.lst (ns.map li)])),y8,none,none]∧μ'=μ++[(true,c)]∧∀r∈ns.take i,g r lines.length=0)
  ?_ ?_ ?_ ⟨none,rfl,rfl,by simp⟩
 ·intro i e μ' _;trivial
 ·rintro i t e μ' ht ⟨y8,rfl,rfl,hz⟩
  rw[List.getElem?_map] at ht
  obtain⟨r,hr,rfl⟩:=Option.map_eq_some_iff.mp ht
  have hm:r∈ns:=List.mem_of_getElem? hr
  have hR:=E.rn r hm
  have ha:=atn (r:=r) (k:=lines.length) (by rw[hR.len];lia)
  refine⟨_,lE _ _ _,?_⟩
  by_cases e0:g r lines.length=0
  ·(try simp_all! only[]);simp[ha,e0]
   intro r' hr'
   rw[List.take_add_one,hr] at hr'
   rcases List.mem_append.mp hr' with h|h
   ·exact hz r' h
   ·simp at h;subst h;exact e0
  ·have gb:=hR.g0 (p:=p) (by lia) lines.length
   obtain⟨y,ho,y0,y1,yz⟩:=wB hP 1 (g r lines.length) (μ++[(true,c)]) (by rw[Int.emod_eq_of_lt gb.1 gb.2];exact e0)
   have hR2:Rw p w (r.drop (lines.length+1)):=by
    have:=hR.drop (k:=lines.length+1)
    rwa [show lines.length+1+w-(lines.length+1)=w by lia] at this
   have ht2:=yc (p:=p) (L:=w) (by lia) (by lia) y (r.drop (lines.length+1)) (μ++[(true,c)]) hR2 (by lia)
   have Ou:=T3 r ((lines.length:Int)+1) (by lia) (by rw[hR.len];lia)
   rw[show ((lines.length:Int)+1).toNat=lines.length+1 by lia] at Ou
   have e1:(g r lines.length==0)=false:=by simpa using e0
   have tl:=told (by lia) E hm hw.len λl h=>(hl l h).len
   obtain⟨t,hts⟩:∃t,g r lines.length-dot ws (r.drop (lines.length+1))=p*t:=tl.2
   obtain⟨s,hs⟩:∃s,y*g r lines.length-1=p*s:=Int.dvd_of_emod_eq_zero yz
   have Ov:CQ p w lines ws μ (.rt (.box [.inl (.str "turn"),.inl (tu (tm p y (r.drop (lines.length+1))))]) (μ++[(true,c)])):=by
    refine .turn c _ (Fq (by lia) y hR2.len) (λl h=>?_) ?_
    ·obtain⟨u,hu⟩:=wA p y (r.drop (lines.length+1)) l
     obtain⟨v,hv⟩:=tl.1 l h
     rw[hu,hv]
     exact⟨y*v+u,by grind⟩
    ·obtain⟨u,hu⟩:=wA p y (r.drop (lines.length+1)) ws
     rw[hu]
     exact⟨s-y*t+u,by grind⟩
   have hb2:fNe (.int (g r lines.length)) (.int 0)=some (.bl true):=by rw[vh,e1];rfl
   have goal:∀(e:Slots),slot e 0=some (.val (.int p))→slot e 4=some (.val (.int lines.length))→slot e 8=some (.val (li r)) →
     sIf (ag fNe (ax (aa 8) (aa 4)) (dC (.int 0))) (aC (j0 [(dC (.str "turn")),(dUn b7 (au (cal (fnV 3 iA)) [(aa 0),(au (cal (fnV 5 ko)) [(aa 0),(dC (.int 1)),(ax (aa 8) (aa 4))]),(B1 (aa 8) (some (ag bj (aa 4) (dC (.int 1)))) none)]))])) bB e (μ++[(true,c)]) =
     .rt (.box [.inl (.str "turn"),.inl (tu (tm p y (r.drop (lines.length+1))))]) (μ++[(true,c)]):=λe q0 q4 q8=>by
    (try simp_all! only[]);simp only[yR,nN,j3,d7,qB,q0,q4,q8,R.aV,R.aZ,R.cp,ju,Option.bind_some,lA,ha,Option.map_some,lu,hb2,iM,if_true,vj,vf,bM,dY,vd,gP,lx,ho,R.dJ,AQ,uo,um,xf,oV,qC,Ou,ht2,j4,boxed]
   rw[goal _ rfl rfl rfl,HI]
   exact Ov
 ·rintro e μ' ⟨y8,rfl,rfl,hz⟩
  rw[List.length_map,List.take_length] at hz
  rw[RS.h_,gI,FE pT 9 4 _ _ (lines.length:Int) _ rfl (rep0 lines.length (by lia)),RS.h_]
  obtain⟨z6,z10,ms,h3,h4,h5,h6⟩:=IF (p:=p) (L:=lines.length+1+w) (m:=lines.length) (by lia) E.nd E.key E.rl (by lia) (by lia) (λ_=>True) (λ_=>trivial) μ (true,c) (some (.val (.int p))) (some (.val (.int w))) (some x) (some (.val (tu ws))) (some (.cel μ.length)) y6 (some (.val (.tup [.dct (dk ls),.lst (ns.map li)]))) y8 none
  have EH:(μ++[(true,c)]).length=μ.length+1:=by simp
  have hap:μ++[(true,c)]++[(true,li (List.replicate lines.length 0))]=μ++[(true,c),(true,li (List.replicate lines.length 0))]:=by simp
  rw[EH,hap]
  (try simp_all! only[]);simp only[gI,mx,oY,j3,d7,qB,List.set_cons_succ,List.set_cons_zero,cF,cE,R.aV,R.aZ,R.cp,ju,Option.bind_some,nP,xA,Option.map_some,A1]
  rw[h3,RS.h_]
  (try simp_all! only[]);simp only[vj,vf,bM,dY,qB,d7,cF,cE,R.aV,R.aZ,R.cp,boxed,Option.map_some]
  exact .sum c ms h4 λj hj=>LC (by lia) E hz h4.len h5 h6 j hj
theorem IG(hP:lM p)(hl:∀l∈lines,Rw p w l)(hw:Rw p w ws)(hn:lines.length≤100)(hw2:w≤100)(x:SV)(μ:af)(hx:∀l,rd (μ++l) x=some (.lst (lines.map tu))) :
  CQ p w lines ws μ (kr (starts 11 [.val (.int p),.val (.int w),x,.val (tu ws)]) μ):=FG hP (λl h=>(hl l h).1) (LD hl) hw (by lia) hw2 x μ hx
end
def less(n:Int)(v l:List Int):List Int:=(v.zip l).map λq=>q.1-n*q.2
theorem yh(n:Int):∀(v l t:List Int),v.length=l.length→dot (less n v l) t=dot v t-n*dot l t
 | [],l,t,h=>by cases l with
  | nil=>simp[less]
  | cons x l=>simp at h
 | a::v,[],t,h=>by simp at h
 | a::v,b::l,[],h=>by simp[less]
 | a::v,b::l,c::t,h=>by
  have e:less n (a::v) (b::l)=(a-n*b)::less n v l:=rfl
  rw[e,bU,bU,bU,yh n v l t (by simpa using h)]
  grind
theorem FH(n:Int):∀(v l:List Int) (j:Nat),v.length=l.length→g (less n v l) j=g v j-n*g l j
 | [],l,j,h=>by cases l with
  | nil=>simp[less,g]
  | cons x l=>simp at h
 | a::v,[],j,h=>by simp at h
 | a::v,b::l,0,h=>by simp[less,g]
 | a::v,b::l,j+1,h=>by
  have e:less n (a::v) (b::l)=(a-n*b)::less n v l:=rfl
  rw[e,eT,eT,eT]
  exact FH n v l j (by simpa using h)
theorem Bn(p:Int):∀(v t:List Int),(∀j,j<v.length→p ∣ g v j)→p ∣ dot v t
 | [],t,_=>⟨0,by simp⟩
 | a::v,[],_=>⟨0,by simp⟩
 | a::v,b::t,h=>by
  rw[bU]
  have h0:=h 0 (by simp)
  rw[jE] at h0
  obtain⟨s,hs⟩:=h0
  obtain⟨u,hu⟩:=Bn p v t λj hj=>by have:=h (j+1) (by simp;lia);rwa [eT] at this
  exact⟨s*b+u,by rw[hs,hu];grind⟩
theorem yi(p:Int)(w:Nat)(t:List Int):∀(lines:List (List Int)) (ms v:List Int),ms.length=lines.length→(∀l∈lines,l.length=w)→v.length=w→(∀j,j<w→p ∣ dot ms (col lines j)-g v j)→(∀l∈lines,p ∣ dot l t)→p ∣ dot v t
 | [],ms,v,_,_,hv,h,_=>Bn p v t λj hj=>by
  obtain⟨s,hs⟩:=h j (by lia)
  rw[show col ([]:List (List Int)) j=[] from rfl,Fn] at hs
  exact⟨-s,by rw[Int.mul_neg];lia⟩
 | l::lines,[],v,h,_,_,_,_=>by simp at h
 | l::lines,m::ms,v,hm,hl,hv,h,ht=>by
  have hl0:=hl l (by simp)
  have ih:=yi p w t lines ms (less m v l) (by simpa using hm) (λl' h'=>hl l' (by simp[h'])) (by simp[less,hv,hl0]) (λj hj=>by
   obtain⟨s,hs⟩:=h j hj
   rw[show col (l::lines) j=g l j::col lines j from rfl,bU] at hs
   rw[FH _ _ _ _ (by lia)]
   exact⟨s,by grind⟩) λl' h'=>ht l' (by simp[h'])
  rw[yh _ _ _ _ (by lia)] at ih
  obtain⟨s,hs⟩:=ih
  obtain⟨u,hu⟩:=ht l (by simp)
  exact⟨s+m*u,by grind⟩
theorem FI{p:Int}{w:Nat}{lines:List (List Int)}{ws ms tv:List Int}(hp:1<p)(hl:∀l∈lines,l.length=w)(hw:ws.length=w)(hm:ms.length=lines.length)(h:∀j,j<w→p ∣ dot ms (col lines j)-g ws j)(h1:∀l∈lines,p ∣ dot l tv)(h2:p ∣ dot ws tv-1):False:=by
 obtain⟨a,ha⟩:=yi p w tv lines ms ws hm hl hw h h1
 obtain⟨b,hb⟩:=h2
 have:p*(a-b)=1:=by grind
 have h3:p ∣ 1:=⟨a-b,this.symm⟩
 have:=Int.le_of_dvd (by lia) h3
 lia
theorem uO(n:Nat):bV 0 n=(List.range n).map λ(i:Nat)=>(i:Int):=by simp[bV]
theorem Rw.snoc{p:Int}{n:Nat}{r:List Int}{a:Int}(h:Rw p n r)(h0:0≤a)(h1:a<p):Rw p (n+1) (r++[a]) :=
 Rw.append h (k:=1) ⟨rfl,by simp;exact h0,by simp;exact h1⟩
end Fw.E
namespace Fw.F
open PySem Fw Fw.H Fw.E
noncomputable abbrev Rows := List (Int × List Int)
def rt(q:Int×List Int):T:=.tup [.int q.1,tu q.2]
def tb(p:Int)(w:Nat)(rows:Rows):T:=.tup [.int p,.int w,.tup (rows.map rt)]
structure Tbl(p:Int)(w:Nat)(rows:Rows):Prop where
 pr:lM p
 w0:0<w
 w1:w≤12
 n:rows.length≤24
 li:∀q∈rows,Rw p w q.2
theorem IH(xs ys:List Int):((xs.zip ys).map λq=>q.1*q.2).sum=dot xs ys:=by
 induction xs generalizing ys with
 | nil=>rfl
 | cons x xs ih =>
  cases ys with
  | nil=>rfl
  | cons y ys=>simp[dot,ih]
def dg(rows:Rows)(i:Nat):Int×List Int:=rows.getD i (0,[])
def rowsOf(rows:Rows)(aX:List Int):List Nat:=(List.range rows.length).filter λi=>decide ((dg rows i).1∈aX)
theorem enum_rows(rows:Rows):iQ 0 (rows.map rt)=(List.range rows.length).map λ(i:Nat)=>.tup [.int (i:Int),rt (dg rows i)]:=by
 apply List.ext_getElem?
 intro i
 rw[Ec,List.getElem?_map,List.getElem?_map]
 by_cases h:i<rows.length
 ·rw[List.getElem?_range h,List.getElem?_eq_getElem h]
  simp[dg,h]
 ·rw[List.getElem?_eq_none (by lia),List.getElem?_eq_none (by simp;lia)]
  rfl
theorem FJ(μ:af)(t:T):gc μ.length (.cel μ.length) (μ++[(true,t)])=.ok (.cel μ.length) (μ++[(true,t)]):=by
 unfold gc
 simp
theorem wF(μ:af)(t:T):ice μ.length (.cel μ.length) (μ++[(true,t)])=.ok (.val t) μ:=by
 unfold ice
 rw[yX (b:=true) (t:=t) (by simp),R.aZ]
 simp
def nums(is:List Nat):List Int:=is.map λ(i:Nat)=>(i:Int)
theorem wG(is:List Nat):(is.map λ(i:Nat)=>T.int (i:Int))=(nums is).map T.int:=by simp[nums]
end Fw.F
namespace Fw
open PySem Fw Fw.H Fw.E
theorem II:fEq (.lst []) (.lst [])=some (.bl true):=xl [] []
theorem IJ:fNe (.lst []) (.lst [])=some (.bl false):=qJ [] []
theorem LG(x:SV)(μ:af):R.ok x (μ.take μ.length)=R.ok x μ:=by rw[List.take_length]
def stw:=And.intro @gI <| And.intro @j6 <| And.intro @vj <| And.intro @yR <| And.intro @DX <| And.intro @Hv <| And.intro @qN <| And.intro @HL <| And.intro @B_ <| And.intro @pK <| And.intro @rf <| And.intro @mx <| And.intro @qF <| And.intro @vd <| And.intro @nN <| And.intro @d7 <| And.intro @qB <| And.intro @gP <| And.intro @bM <| And.intro @dY <| And.intro @He <| And.intro @Hd <| And.intro @KD <| And.intro @Hf <| And.intro @Hg <| And.intro @ve <| And.intro @j3 <| And.intro @AN <| And.intro @DY <| And.intro @AQ <| And.intro @um <| And.intro @uo <| And.intro @vf <| And.intro @vk <| And.intro @qO <| And.intro @yS <| And.intro @Hx <| And.intro @Ed <| And.intro @oY <| And.intro @Hy <| And.intro @DZ <| And.intro @D0 <| And.intro @lE <| And.intro @gA <| And.intro @Ef <| And.intro @lx <| And.intro @fQ <| And.intro @lF <| And.intro @lG <| And.intro @uy <| And.intro @cF <| And.intro @cE <| And.intro @BX <| And.intro @R.cp <| And.intro @ju <| And.intro @m9 <| And.intro @HK <| And.intro @qC <| And.intro @lu <| And.intro @qE <| And.intro @iM <| And.intro @oV <| And.intro @nM <| And.intro @qy <| And.intro @mw <| And.intro @RS.h_ <| And.intro @RS.KO <| And.intro @AR <| And.intro @AS <| And.intro @AU <| And.intro @HG <| And.intro @BY <| And.intro @j4 <| And.intro @yM <| And.intro @eK <| And.intro @j7 <| And.intro @DR <| And.intro @xm <| And.intro @lA <| And.intro @nP <| And.intro @DP <| And.intro @xf <| And.intro @xg <| And.intro @eV <| And.intro @xh <| And.intro @DN <| And.intro @iy <| And.intro @gH <| And.intro @Hh <| And.intro @Hi <| And.intro @Hj <| And.intro @Hk <| And.intro @Ho <| And.intro @vh <| And.intro @Hq <| And.intro @Hr <| And.intro @xl <| And.intro @qJ <| And.intro @II <| And.intro @IJ <| And.intro @LG <| And.intro @B9 <| And.intro @Ee <| And.intro @HJ <| And.intro @yO <| And.intro @yP <| And.intro @Eg <| And.intro @R.aV <| And.intro @R.aZ <| And.intro @R.dJ <| And.intro @xA <| And.intro @AZ <| @HH
def stc:=And.intro @Option.bind_some.{0,0} <| And.intro @Option.map_some.{0,0} <| And.intro @List.map_cons.{0,0} <| And.intro @List.map_nil.{0,0} <| And.intro @List.length_cons.{0} <| And.intro @List.length_nil.{0} <| And.intro @List.cons_append.{0} <| And.intro @List.nil_append.{0} <| And.intro @List.replicate_succ.{0} <| And.intro @List.replicate_zero.{0} <| And.intro @List.set_cons_succ.{0} <| And.intro @List.set_cons_zero.{0} <| And.intro @List.getElem?_cons_zero.{0} <| And.intro @List.getElem?_cons_succ.{0} <| And.intro @List.take_zero.{0} <| And.intro @List.take_nil.{0} <| And.intro @beq_self_eq_true.{0} <| And.intro @if_false.{1} <| And.intro @if_true.{1} <| And.intro @Bool.false_eq_true <| And.intro @Bool.not_true <| @Bool.not_false
end Fw
local macro_rules
  | `(tactic| simp?! only [$ls,*]) => `(tactic| simp (disch := first | decide | omega | assumption) only [Fw.stw, Fw.stc, Nat.reduceAdd, Nat.reduceSub, $ls,*])
namespace Fw
open PySem Fw Fw.H Fw.E
end Fw
local macro_rules
 | `(tactic| simp! only [$ls,*]) => do
  let mut xs:Array (Lean.TSyntax `Lean.Parser.Tactic.simpLemma):=#[]
  for n in "L7 L8 L9 Oa L_ Ob Ma Mb OM Lm IB Ju Mc Me Mf Mg Oc Jv Jw Ln Od Lo Lp Oe Mh Lq Jx Jy GJ Jz JA Mi Of Mj Mk Ml Mm Lr Ls Lu DX qN HL B_ pK rf qF Hf DY AQ um uo vf qO yS Hx Ed oY gA Ef fQ lF lG uy BX m9 HK qE oV RS.KO AR AS AU HG BY j4 yM eK j7 DR xm lA nP DP xf xg eV xh DN iy gH Hh Hi Hj Hk Ho vh Hq Hr xl qJ II IJ LG B9 Ee HJ yO yP Eg xA AZ HH".splitOn " " do xs := xs.push (← `(Lean.Parser.Tactic.simpLemma| $(Lean.mkIdent (`Fw ++ n.toName)):term))
  `(tactic| simp (disch := first | decide | omega | assumption) only [$(xs),*, Fw.stc, Nat.reduceAdd, Nat.reduceSub, $ls,*])
local macro_rules
 | `(tactic| dsimp! only [$ls,*]) => do
  let mut xs:Array (Lean.TSyntax `Lean.Parser.Tactic.simpLemma):=#[]
  for n in "Jv Jw Mb OM Od Mh Oe gI j6 vj yR DX Hv qN HL B_ pK rf mx qF vd nN gP bM dY He Hd KD Hf Hg ve j3 AN DY AQ um uo vf vk qO yS Hx Ed oY Hy DZ D0 lE gA Ef lx fQ lF lG uy BX R.cp m9 HK qC lu qE oV qy mw RS.h_ RS.KO AR AS AU HG BY j4 yM eK j7 DR xm lA nP DP xf xg eV xh DN iy gH Hh Hi Hj Hk Ho vh Hq Hr xl qJ II IJ LG B9 Ee HJ yO yP Eg R.aV R.aZ R.dJ xA AZ HH".splitOn " " do xs := xs.push (← `(Lean.Parser.Tactic.simpLemma| $(Lean.mkIdent (`Fw ++ n.toName)):term))
  `(tactic| simp (disch := first | decide | omega | assumption) only [$(xs),*, Fw.stc, Nat.reduceAdd, Nat.reduceSub, $ls,*])
namespace Fw.F
open PySem Fw Fw.H Fw.E
def jg:FN:=fnK 11 E.kr
def nE:DS :=
 (aC (aH (xC (ax (aa 0) (dC (.int 2)))) [none,none,some 1] (ee [0,1]) (ag fIn (ax (aa 1) (dC (.int 0))) (aa 2)) (aa 0)))
def bW:FN:=fnV 2 nE
def gD:DS :=
 (aC (aH (bX (aa 1)) [none,some 0] (ar 0) (dC (.bl true)) (ax (ax (ax (aa 1) (dC (.int 2))) (aa 0)) (dC (.int 1)))))
def cO:FN:=fnV 2 gD
def dZ:DS :=
 (aC (dUn b7 (aH (aI (aa 0)) [none] (ar 0) (dC (.bl true)) (DM (ag fEq (aa 0) (dC (.int 0))) (dC (.int 1)) (dC (.int 0))))))
def bO:FN:=fnV 1 dZ
def fN:DS :=
 (aq (ay 2 (au (cal jg) [(ax (aa 0) (dC (.int 0))),(ax (aa 0) (dC (.int 1))),(au (cal cO) [(aa 0),(aa 1)]),(au (cal bO) [(ax (aa 0) (dC (.int 1)))])]))
 (aq (sIf (ag fEq (ax (aa 2) (dC (.int 0))) (dC (.str "sum"))) (aC (j0 [(dC (.str "open")),(ax (aa 2) (dC (.int 1)))])) bB)
 (aC (j0 [(dC (.str "shut")),(ax (aa 2) (dC (.int 1)))]))))
def bP:FN:=fnK 3 fN
def fD:DS :=
 (aC (au (cal bP) [(aa 0),(au (cal bW) [(aa 0),(aa 1)])]))
theorem uP{p:Int}{w:Nat}{rows:Rows}(hn:rows.length≤24)(aX:List Int)(y:SV)(μ:af)(h2:rd μ y=some (.lst (aX.map T.int))) :
  bW [.val (tb p w rows),y] μ=.ok (.val (li (nums (rowsOf rows aX)))) μ:=by
 unfold bW nE tb
 simp! only[h2]
 rw[enum_rows,iP (λ(i:Nat)=>.tup [.int (i:Int),rt (dg rows i)]) (λi=>decide ((dg rows i).1∈aX)) (λ(i:Nat)=>.int (i:Int)) (by simp)]
 ·rw[R.dJ,R.aZ,if_pos (by simp[szL];lia)]
  simp! only[]
  rw[wG]
  rfl
 ·intro i hi
  refine⟨_,gA 0 1 _ _ _,?_,λ_=>?_⟩
  ·simp! only[rt,h2,xD]
  ·simp! only[]
def linesAt(rows:Rows)(is:List Nat):List (List Int):=is.map λi=>(dg rows i).2
theorem FK{p:Int}{w:Nat}{rows:Rows}(is:List Nat)(hi:∀i∈is,i<rows.length)(hl:is.length≤1000)(y:SV)(μ:af)(h2:rd μ y=some (li (nums is))) :
  cO [.val (tb p w rows),y] μ=.ok (.val (.lst ((linesAt rows is).map tu))) μ:=by
 unfold cO gD
 simp! only[h2]
 rw[← wG,dy (λ(i:Nat)=>.int (i:Int)) (λ(i:Nat)=>tu (dg rows i).2) (by simp[h2])]
 ·rw[R.dJ,R.aZ,if_pos (by simp[szL];lia)]
  simp! only[]
  simp[linesAt,Function.comp_def]
 ·intro i hm
  have hlt:=hi i hm
  have a1:atI (rows.map rt) (i:Int)=some (rt (dg rows i)):=by
   rw[jb (by lia) (by lia)]
   simp[dg,hlt]
  refine⟨_,rfl,?_⟩
  unfold tb
  simp! only[a1,rt]
theorem Bo(w:Nat)(h:0<w):eu w 0=1::List.replicate (w-1) 0:=by
 obtain⟨n,rfl⟩:∃n,w=n+1:=⟨w-1,by lia⟩
 simp[eu,List.replicate_succ]
theorem CU(w:Nat)(h:0<w)(h2:w≤1000)(μ:af):bO [.val (.int w)] μ=.ok (.val (tu (eu w 0))) μ:=by
 unfold bO dZ
 have hr:d8 (w:Int)=true:=cN (by lia) (by lia)
 dsimp! only[hr]
 rw[eW,iJ (λk=>.int (if k=0 then 1 else 0)) trivial]
 ·rw[R.dJ,R.aZ,if_pos (by simp[szL];lia)]
  dsimp! only[]
  have e:((bV 0 (w:Int).toNat).map λk=>T.int (if k=0 then 1 else 0))=(eu w 0).map T.int:=by
   rw[uO,Int.toNat_natCast,Bo w h]
   obtain⟨n,rfl⟩:∃n,w=n+1:=⟨w-1,by lia⟩
   rw[List.range_succ_eq_map]
   simp only[List.map_cons,List.map_map,Nat.add_sub_cancel,List.map_replicate]
   refine congr (congrArg _ rfl) ?_
   refine List.eq_replicate_iff.mpr ⟨by simp,λb hb=>?_⟩
   obtain⟨k,_,rfl⟩:=List.mem_map.mp hb
   show T.int (if ((Nat.succ k:Nat):Int)=0 then 1 else 0)=_
   rw[if_neg (by lia)]
  rw[e]
 ·intro k hk
  refine⟨_,rfl,?_⟩
  dsimp! only[]
  by_cases hk0:k=0
  ·subst hk0;rfl
  ·rw[if_neg (by simpa using hk0),if_neg hk0]
inductive Opened(p:Int)(w:Nat)(lines:List (List Int))(μ:af):R SV→Prop where
 | t6 (c:T) (tv:List Int) (h:Rw p w tv) (h1:∀l∈lines,p ∣ dot l tv) (h2:g tv 0=1):Opened p w lines μ (.ok (.box [.inl (.str "shut"),.inl (tu tv)]) (μ++[(true,c)]))
 | opn (c:T) (ms:List Int) (h:Rw p lines.length ms) (h1:∀j,j<w→p ∣ dot ms (col lines j)-g (eu w 0) j):Opened p w lines μ (.ok (.box [.inl (.str "open"),.inr (μ.length+1)]) (μ++[(true,c),(true,li ms)]))
theorem qm{p:Int}{w:Nat}{rows:Rows}(H:Tbl p w rows){i:Nat}(h:i<rows.length):Rw p w (dg rows i).2:=by
 have:dg rows i=rows[i]:=by simp[dg,h]
 rw[this];exact H.li _ (List.getElem_mem h)
theorem sR{p:Int}{w:Nat}{rows:Rows}(H:Tbl p w rows){is:List Nat}(hi:∀i∈is,i<rows.length):∀l∈linesAt rows is,Rw p w l:=λl hl=>by
 obtain⟨i,hm,rfl⟩:=List.mem_map.mp hl
 exact qm H (hi i hm)
theorem JE{p:Int}(hp:1<p)(w k:Nat):Rw p w (eu w k):=Rw.set (sQ hp w) (by lia) (by lia)
theorem LH{p x:Int}(hp:1<p)(h0:0≤x)(h1:x<p)(h:p ∣ x-1):x=1:=by
 obtain⟨k,hk⟩:=h
 rcases Int.lt_trichotomy k 0 with z|z|z
 ·have:p*k≤p*(-1):=Int.mul_le_mul_of_nonneg_left (by lia) (by lia)
  lia
 ·subst z;lia
 ·have:p*1≤p*k:=Int.mul_le_mul_of_nonneg_left (by lia) (by lia)
  lia
theorem IK{p:Int}{w:Nat}{rows:Rows}(H:Tbl p w rows)(is:List Nat)(hi:∀i∈is,i<rows.length)(hl:is.length≤100)(y:SV)(μ:af)(h2:rd μ y=some (li (nums is))) :
  Opened p w (linesAt rows is) μ (bP [.val (tb p w rows),y] μ):=by
 have hb:=H.pr.pos
 have hp0:0<p:=Int.lt_of_lt_of_le (by decide) hb.1
 have hw:=H.w1
 have e1:=FK (p:=p) (w:=w) is hi (by lia) y μ h2
 have e2:=CU w H.w0 (by lia) μ
 have hL:=sR H hi
 have hh:=IG H.pr hL (JE (by lia) w 0) (by simp[linesAt];lia) (by lia) (.val (.lst ((linesAt rows is).map tu))) μ (λ_=>rfl)
 unfold bP fN tb
 unfold tb at e1
 dsimp! only[e1,e2]
 generalize hr:E.kr (starts 11 [.val (.int p),.val (.int w),.val (.lst ((linesAt rows is).map tu)),.val (tu (eu w 0))]) μ=r at hh
 have hf:∀r',r.vm=r'→jg [.val (.int p),.val (.int w),.val (.lst ((linesAt rows is).map tu)),.val (tu (eu w 0))] μ=r':=λr' h=>by
  rw[← h,← hr];rfl
 cases hh with
 | turn c tv h h1 h3 =>
  rw[hf _ rfl]
  have hp0:tv.length=w:=h.1
  have h4:g tv 0=1:=by
   rw[pv w 0 tv H.w0] at h3
   have:=h.g0 (p:=p) (by lia) 0
   exact LH (by lia) this.1 this.2 h3
  have s1:((Str.ofString "turn")==(Str.ofString "sum"))=false:=by decide
  dsimp! only[pick,s1]
  exact .t6 c tv h h1 h4
 | sum c ms h h1 =>
  rw[hf _ rfl]
  dsimp! only[pick]
  exact .opn c ms h h1
structure Sq(μ:af)(x:SV)(xs:List Int):Prop where
 len:mY μ x=some (.int xs.length)
 at_:∀k:Int,0≤k→k<xs.length→gQ μ x (.int k)=some (.val (.int (g xs k.toNat)))
 it:(rd μ x).bind bS=some (xs.map T.int)
theorem Ow(μ:af)(xs:List Int):Sq μ (.val (li xs)) xs:=⟨by simp,λk h0 h1=>by rw[lA,atg h0 h1];rfl,rfl⟩
theorem LI{μ:af}{k:Nat}{xs:List Int}(h:rd μ (.cel k)=some (li xs)):Sq μ (.cel k) xs :=
 ⟨by rw[Bl h];simp,λk h0 h1=>by rw[Bm h,atg h0 h1];rfl,by rw[h];rfl⟩
theorem a_(rows:Rows)(aX:List Int):linesAt rows (rowsOf rows aX)=(rows.filter λq=>decide (q.1∈aX)).map (·.2):=by
 have key:∀(l:List Nat),(l.filter λi=>decide ((dg rows i).1∈aX)).map (λi=>(dg rows i).2)=((l.map (dg rows)).filter λq=>decide (q.1∈aX)).map (·.2):=by
  intro l
  induction l with
  | nil=>rfl
  | cons i l ih =>
   rw[List.filter_cons,List.map_cons,List.filter_cons]
   by_cases h:decide ((dg rows i).1∈aX)=true
   ·rw[if_pos h,if_pos h,List.map_cons,List.map_cons,ih]
   ·rw[if_neg h,if_neg h,ih]
 have e:(List.range rows.length).map (dg rows)=rows:=by
  apply List.ext_getElem?
  intro i
  rw[List.getElem?_map]
  by_cases h:i<rows.length
  ·rw[List.getElem?_range h,List.getElem?_eq_getElem h]
   simp[dg,h]
  ·rw[List.getElem?_eq_none (by simp;lia),List.getElem?_eq_none (by lia)];rfl
 unfold linesAt rowsOf
 rw[key,e]
theorem toNat_mod(a b:Int)(h:0<b):∃n:Nat,a%b=(n:Int)∧(n:Int)<b:=⟨(a%b).toNat,by have:=Int.emod_nonneg a (show b≠0 by lia);lia,by have:=Int.emod_nonneg a (show b≠0 by lia);have:=Int.emod_lt_of_pos a h;lia⟩
theorem pw{rows:Rows}{aX:List Int}:∀i∈rowsOf rows aX,i<rows.length:=λi hi=>List.mem_range.mp (List.mem_filter.mp hi).1
theorem sS(rows:Rows)(aX:List Int):(rowsOf rows aX).length≤rows.length:=Nat.le_trans (List.length_filter_le _ _) (by simp)
theorem LJ{p:Int}{w:Nat}{rows:Rows}(H:Tbl p w rows)(aX:List Int)(y:SV)(μ:af)(h2:rd μ y=some (li aX)) :
  Opened p w (linesAt rows (rowsOf rows aX)) μ (fnK 2 fD [.val (tb p w rows),y] μ):=by
 have hn:=H.n
 have e1:=uP (p:=p) (w:=w) H.n aX y μ h2
 have ho:=IK H (rowsOf rows aX) pw (by have:=sS rows aX;lia) (.val (li (nums (rowsOf rows aX)))) μ rfl
 unfold fD
 simp! only[e1]
 generalize bP [.val (tb p w rows),.val (li (nums (rowsOf rows aX)))] μ=r at ho
 cases ho with
 | t6 c tv h h1 h2=>exact .t6 c tv h h1 h2
 | opn c ms h h1=>exact .opn c ms h h1
theorem FL{p:Int}{w:Nat}{rows:Rows}(H:Tbl p w rows)(aX:List Int)(y:SV)(μ:af)(h2:rd μ y=some (li aX)) :
  (∃tv,fnV 2 fD [.val (tb p w rows),y] μ=.ok (.val (.tup [.str "shut",tu tv])) μ∧Rw p w tv∧(∀l∈linesAt rows (rowsOf rows aX),p ∣ dot l tv)∧g tv 0=1) ∨
  ∃ms,fnV 2 fD [.val (tb p w rows),y] μ=.ok (.val (.tup [.str "open",li ms])) μ∧Rw p (linesAt rows (rowsOf rows aX)).length ms∧∀j,j<w→p ∣ dot ms (col (linesAt rows (rowsOf rows aX)) j)-g (eu w 0) j:=by
 have h:=LJ H aX y μ h2
 rw[lG] at h
 rw[fQ]
 generalize fD (starts 2 [.val (tb p w rows),y]) μ=r at h ⊢
 cases r with
 | rt x μ' =>
  rw[AU] at h
  rw[AR]
  generalize hq:R.ok x μ'=q at h
  cases h with
  | t6 c tv h h1 h2 =>
   cases hq
   exact .inl ⟨tv,by simp[ice,frz,kN,vc],h,h1,h2⟩
  | opn c ms h h1 =>
   cases hq
   exact .inr ⟨ms,by simp[ice,frz,kN,vc],h,h1⟩
 | nx e μ'=>generalize hq:(RS.nx e μ').vm=q at h;cases h<;>cases hq
 | bk e μ'=>generalize hq:(RS.bk e μ').vm=q at h;cases h<;>cases hq
 | ct e μ'=>generalize hq:(RS.ct e μ').vm=q at h;cases h<;>cases hq
 | err c e μ'=>generalize hq:(RS.err c e μ').vm=q at h;cases h<;>cases hq
 | bad=>generalize hq:RS.bad.vm=q at h;cases h<;>cases hq
end Fw.F
namespace Fw.Sets
open PySem Fw Fw.H Fw.E Fw.F
def Mul(p:Int)(w:Nat)(lines:List (List Int))(ms:List Int):Prop:=ms.length=lines.length∧∀j,j<w→p ∣ dot ms (col lines j)-g (eu w 0) j
def Op(p:Int)(w:Nat)(rows:Rows)(s:List Int):Prop:=∃ms,Mul p w (linesAt rows (rowsOf rows s)) ms
theorem widen(P Q:Int→Bool)(h:∀x,P x=true→Q x=true):∀(rows:Rows) (ms:List Int),ms.length=(rows.filter λq=>P q.1).length →
  ∃ms',ms'.length=(rows.filter λq=>Q q.1).length∧∀j,dot ms' (col ((rows.filter λq=>Q q.1).map (·.2)) j)=dot ms (col ((rows.filter λq=>P q.1).map (·.2)) j)
 | [],ms,hl=>⟨ms,hl,λ_=>rfl⟩
 | r::rows,ms,hl=>by
  by_cases hp:P r.1=true
  ·have hq:=h _ hp
   rw[List.filter_cons_of_pos (p:=λq:Int×List Int=>P q.1) hp] at hl
   cases ms with
   | nil=>simp at hl
   | cons m ms =>
    obtain⟨ms',h1,h2⟩:=widen P Q h rows ms (by simpa using hl)
    refine⟨m::ms',?_,λj=>?_⟩
    ·rw[List.filter_cons_of_pos (p:=λq:Int×List Int=>Q q.1) hq,List.length_cons,List.length_cons,h1]
    ·rw[List.filter_cons_of_pos (p:=λq:Int×List Int=>Q q.1) hq,List.filter_cons_of_pos (p:=λq:Int×List Int=>P q.1) hp]
     have:=h2 j
     unfold col at this ⊢
     simp only[List.map_cons,dot,this]
  ·have hp':P r.1=false:=by cases e:P r.1 with|true=>exact absurd e hp|false=>rfl
   rw[List.filter_cons_of_neg (p:=λq:Int×List Int=>P q.1) hp] at hl
   obtain⟨ms',h1,h2⟩:=widen P Q h rows ms hl
   by_cases hq:Q r.1=true
   ·refine⟨0::ms',?_,λj=>?_⟩
    ·rw[List.filter_cons_of_pos (p:=λq:Int×List Int=>Q q.1) hq,List.length_cons,List.length_cons,h1]
    ·rw[List.filter_cons_of_pos (p:=λq:Int×List Int=>Q q.1) hq,List.filter_cons_of_neg (p:=λq:Int×List Int=>P q.1) hp]
     have:=h2 j
     unfold col at this ⊢
     simp only[List.map_cons,dot,this,Int.zero_mul,Int.zero_add]
   ·have hq':Q r.1=false:=by cases e:Q r.1 with|true=>exact absurd e hq|false=>rfl
    refine⟨ms',?_,λj=>?_⟩
    ·rw[List.filter_cons_of_neg (p:=λq:Int×List Int=>Q q.1) hq,h1]
    ·rw[List.filter_cons_of_neg (p:=λq:Int×List Int=>Q q.1) hq,List.filter_cons_of_neg (p:=λq:Int×List Int=>P q.1) hp]
     exact h2 j
theorem wH{p:Int}{w:Nat}{rows:Rows}{s t:List Int}(h:∀x∈s,x∈t)(o:Op p w rows s):Op p w rows t:=by
 obtain⟨ms,h1,h2⟩:=o
 rw[a_,List.length_map] at h1
 obtain⟨ms',k1,k2⟩:=widen (λx=>decide (x∈s)) (λx=>decide (x∈t)) (λx hx=>decide_eq_true (h x (of_decide_eq_true hx))) rows ms h1
 refine⟨ms',by rw[a_,List.length_map];exact k1,λj hj=>?_⟩
 have:=h2 j hj
 rw[a_] at this ⊢
 rw[k2 j]
 exact this
theorem nF{α:Type}[DecidableEq α]:∀(l m:List α),l.Nodup→(∀x∈l,x∈m)→l.length≤m.length
 | [],_,_,_=>Nat.zero_le _
 | a::l,m,hd,h=>by
  obtain⟨h1,h2⟩:=List.pairwise_cons.mp hd
  have ha:=h a (.head _)
  have ih:=nF l (m.erase a) h2 λx hx=>(List.mem_erase_of_ne (Ne.symm (h1 x hx))).mpr (h x (.tail _ hx))
  rw[List.length_erase_of_mem ha] at ih
  have:0<m.length:=List.length_pos_of_mem ha
  rw[List.length_cons]
  omega
def gF:List Int→List (List Int)
 | []=>[[]]
 | x::l=>gF l++(gF l).map (x::·)
theorem kD:∀l,(gF l).length=2 ^ l.length
 | []=>rfl
 | x::l=>by unfold gF;rw[List.length_append,List.length_map,kD l,List.length_cons,Nat.pow_succ];omega
theorem eJ:∀(u s:List Int),u.Pairwise (·<·)→s.Pairwise (·<·)→(∀x∈s,x∈u)→s∈gF u
 | [],s,_,_,h=>by
  cases s with
  | nil=>exact List.mem_singleton.mpr rfl
  | cons x s=>exact absurd (h x (.head _)) List.not_mem_nil
 | a::u,s,hu,hs,h=>by
  obtain⟨u1,u2⟩:=List.pairwise_cons.mp hu
  unfold gF
  by_cases ha:a∈s
  ·refine List.mem_append.mpr (.inr (List.mem_map.mpr ?_))
   cases s with
   | nil=>cases ha
   | cons b s =>
    obtain⟨s1,s2⟩:=List.pairwise_cons.mp hs
    have hb:b=a:=by
     rcases List.mem_cons.mp ha with e|q
     ·exact e.symm
     ·have q1:=s1 a q
      rcases List.mem_cons.mp (h b (.head _)) with e|q2
      ·exact e
      ·have:=u1 b q2;omega
    subst hb
    refine⟨s,eJ u s u2 s2 λx hx=>?_,rfl⟩
    rcases List.mem_cons.mp (h x (.tail _ hx)) with e|q
    ·have:=s1 x hx;omega
    ·exact q
  ·refine List.mem_append.mpr (.inl (eJ u s u2 hs λx hx=>?_))
   rcases List.mem_cons.mp (h x hx) with e|q
   ·exact absurd (e ▸ hx) ha
   ·exact q
theorem iL{s t:List Int}(hs:s.Pairwise (·<·))(ht:t.Pairwise (·<·))(h:∀x,x∈s↔x∈t):s=t:=by
 have ns:s.Nodup:=hs.imp λq=>by omega
 have nt:t.Nodup:=ht.imp λq=>by omega
 exact List.Perm.eq_of_pairwise (λ_ _ _ _ a b=>by omega) hs ht ((List.perm_ext_iff_of_nodup ns nt).mpr h)
section
variable{p:Int}{w n:Nat}{rows:Rows}
def own(n:Nat)(rows:Rows):List Int:=((List.range n).map λ(i:Nat)=>(i:Int)).filter λx=>rows.any λq=>decide (q.1=x)
theorem iG{x:Int}:x∈own n rows↔(0≤x∧x<(n:Int))∧∃q∈rows,q.1=x:=by
 unfold own
 rw[List.mem_filter,List.mem_map,List.any_eq_true]
 constructor
 ·rintro⟨⟨i,hi,rfl⟩,q,hq,e⟩
  have:=List.mem_range.mp hi
  exact⟨⟨by omega,by omega⟩,q,hq,of_decide_eq_true e⟩
 ·rintro⟨⟨h0,h1⟩,q,hq,e⟩
  exact⟨⟨x.toNat,List.mem_range.mpr (by omega),by omega⟩,q,hq,decide_eq_true e⟩
theorem gG:(own n rows).Pairwise (·<·):=by
 unfold own
 refine List.Pairwise.filter _ (List.Pairwise.map _ (λa b (h:a<b)=>by omega) List.pairwise_lt_range)
theorem Bp:(own n rows).length≤rows.length:=by
 have hd:(own n rows).Nodup:=gG.imp λq=>by omega
 have:=nF (own n rows) (rows.map (·.1)) hd λx hx=>by
  obtain⟨_,q,hq,rfl⟩:=iG.mp hx
  exact List.mem_map.mpr ⟨q,hq,rfl⟩
 rwa [List.length_map] at this
theorem oI{s t:List Int}(h:∀x,(∃q∈rows,q.1=x)→(x∈s↔x∈t)):Op p w rows s↔Op p w rows t:=by
 have e:linesAt rows (rowsOf rows s)=linesAt rows (rowsOf rows t):=by
  rw[a_,a_]
  congr 1
  refine List.filter_congr λq hq=>?_
  rw[decide_eq_decide]
  exact h _ ⟨q,hq,rfl⟩
 unfold Op
 rw[e]
end
theorem wI{α β:Type}[DecidableEq β](f:α→β)(l:List α)(m:List β)(hd:l.Nodup)(hi:∀x∈l,∀y∈l,f x=f y→x=y)(h:∀x∈l,f x∈m):l.length≤m.length:=by
 have:=nF (l.map f) m (List.pairwise_map.mpr (List.Pairwise.imp_of_mem (λ{a b} ha hb (q:a≠b) e=>q (hi a ha b hb e)) hd)) λy hy=>by
  obtain⟨x,hx,rfl⟩:=List.mem_map.mp hy
  exact h x hx
 rwa [List.length_map] at this
section
variable{p:Int}{w n:Nat}{rows:Rows}{O:List Int→Bool}
theorem sT(hO:∀s,O s=true↔Op p w rows s){s t:List Int}(h:Op p w rows s↔Op p w rows t):O s=O t:=by
 rw[Bool.eq_iff_iff,hO,hO];exact h
theorem uQ(hr:rows.length≤5):(gF (own n rows)).length<64:=by
 rw[kD]
 exact Nat.lt_of_le_of_lt (Nat.pow_le_pow_right (by decide) (Nat.le_trans Bp hr)) (by decide)
theorem CV(hO:∀s,O s=true↔Op p w rows s)(hr:rows.length≤5)(P:List Int→Bool)(hP:∀s∈subs n,P s=true→kR O n s):((subs n).filter P).length<64:=by
 refine Nat.lt_of_le_of_lt (nF _ (gF (own n rows)) ((dP n).filter _) λs hs=>?_) (uQ (n:=n) hr)
 obtain⟨h1,h2⟩:=List.mem_filter.mp hs
 obtain⟨_,l2,l3⟩:=hP s h1 h2
 obtain⟨s1,s2⟩:=aN.mp h1
 refine eJ _ s gG s1 λx hx=>Classical.byContradiction λno=>?_
 have e:O (less s x)=O s:=sT hO (oI λy hy=>by
  unfold less
  rw[List.mem_filter]
  refine⟨λq=>q.1,λq=>⟨q,decide_eq_true λe=>?_⟩⟩
  subst e
  exact no (iG.mpr ⟨s2 y q,hy⟩))
 rw[l3 x hx,l2] at e
 cases e
theorem CY(hO:∀s,O s=true↔Op p w rows s)(hr:rows.length≤5)(P:List Int→Bool)(hP:∀s∈subs n,P s=true→dX O n s):((subs n).filter P).length<64:=by
 have idle:∀s,dX O n s→∀x,0≤x∧x<(n:Int)→x∉own n rows→x∈s:=λs ⟨_,g2,g3⟩ x h0 no=>Classical.byContradiction λq=>by
  have e:O (more s x)=O s:=sT hO (oI λy hy=>by
   rw[jX]
   refine⟨λz=>z.elim id λe=>?_,.inl⟩
   subst e
   exact absurd (iG.mpr ⟨h0,hy⟩) no)
  rw[g3 x h0 q,g2] at e
  cases e
 refine Nat.lt_of_le_of_lt (wI (λt=>t.filter λx=>decide (x∈own n rows)) _ (gF (own n rows)) ((dP n).filter _) (λs hs t ht e=>?_) λs hs=>?_) (uQ (n:=n) hr)
 ·obtain⟨a1,a2⟩:=List.mem_filter.mp hs
  obtain⟨b1,b2⟩:=List.mem_filter.mp ht
  obtain⟨s1,s2⟩:=aN.mp a1
  obtain⟨t1,t2⟩:=aN.mp b1
  refine iL s1 t1 λx=>?_
  by_cases ho:x∈own n rows
  ·have key:∀u:List Int,x∈u↔x∈u.filter λx=>decide (x∈own n rows):=λu=>by
    rw[List.mem_filter];exact⟨λq=>⟨q,decide_eq_true ho⟩,λq=>q.1⟩
   rw[key s,key t]
   exact Iff.of_eq (congrArg (x∈·) e)
  ·exact⟨λq=>idle t (hP t b1 b2) x (s2 x q) ho,λq=>idle s (hP s a1 a2) x (t2 x q) ho⟩
 ·obtain⟨a1,_⟩:=List.mem_filter.mp hs
  exact eJ _ _ gG ((aN.mp a1).1.filter _) λx hx=>of_decide_eq_true (List.mem_filter.mp hx).2
end
theorem oJ{p:Int}{w:Nat}{rows:Rows}(H:Tbl p w rows){s tv:List Int}(h1:∀l∈linesAt rows (rowsOf rows s),p ∣ dot l tv)(h2:g tv 0=1):¬ Op p w rows s:=λao=>by
 obtain⟨ms,hl,h⟩:=ao
 have hb:=H.pr.pos
 have hL:=sR H (is:=rowsOf rows s) pw
 refine FI (p:=p) (w:=w) (ws:=eu w 0) (by omega) (λl hl=>(hL l hl).1) (FD _ _) hl h h1 ?_
 rw[pv w 0 tv H.w0,h2]
 exact⟨0,by omega⟩
theorem word{p:Int}{w:Nat}{rows:Rows}(H:Tbl p w rows)(s:List Int)(y:SV)(μ:af)(h2:rd μ y=some (li s)) :
  (Op p w rows s∧∃ms,fnV 2 fD [.val (tb p w rows),y] μ=.ok (.val (.tup [.str "open",li ms])) μ)∨(¬ Op p w rows s∧∃tv,fnV 2 fD [.val (tb p w rows),y] μ=.ok (.val (.tup [.str "shut",tu tv])) μ):=by
 rcases F.FL H s y μ h2 with ⟨tv,e,_,h3,h4⟩|⟨ms,e,h2,h3⟩
 ·exact .inr ⟨oJ H h3 h4,tv,e⟩
 ·exact .inl ⟨⟨ms,h2.1,h3⟩,ms,e⟩
theorem yj(F:Int×List Int→Int):∀(fl:List (Int×List Int)),(∀q∈fl,F q=0)→(fl.map F).sum=0
 | [],_=>rfl
 | q::fl,h=>by rw[List.map_cons,List.sum_cons,h q (.head _),yj F fl λr hr=>h r (.tail _ hr)];rfl
theorem oK(F:Int×List Int→Int){a:Int}{la:List Int}:∀(fl:List (Int×List Int)),(fl.map (·.1)).Nodup→(a,la)∈fl→(∀q∈fl,q.1≠a→F q=0)→(fl.map F).sum=F (a,la)
 | [],_,h,_=>(nomatch h)
 | q::fl,hd,hm,h=>by
  rw[List.map_cons] at hd
  obtain⟨d1,d2⟩:=List.pairwise_cons.mp hd
  rw[List.map_cons,List.sum_cons]
  rcases List.mem_cons.mp hm with e|hm
  ·subst e
   rw[yj F fl λr hr=>h r (.tail _ hr) λe=>d1 r.1 (List.mem_map.mpr ⟨r,hr,rfl⟩) e.symm]
   exact Int.add_zero _
  ·have hq:q.1≠a:=d1 a (List.mem_map.mpr ⟨_,hm,rfl⟩)
   rw[h q (.head _) hq,oK F fl d2 hm λr hr=>h r (.tail _ hr)]
   exact Int.zero_add _
theorem yk(F G:Int×List Int→Int):∀(fl:List (Int×List Int)),(fl.map λq=>F q+G q).sum=(fl.map F).sum+(fl.map G).sum
 | []=>rfl
 | q::fl=>by rw[List.map_cons,List.sum_cons,yk F G fl,List.map_cons,List.sum_cons,List.map_cons,List.sum_cons];omega
theorem qo(c:Int→Int)(j:Nat):∀(fl:List (Int×List Int)),dot (fl.map λq=>c q.1) (col (fl.map (·.2)) j)=(fl.map λq=>c q.1*g q.2 j).sum
 | []=>by simp[dot,col]
 | q::fl=>by
  have ih:=qo c j fl
  unfold col at ih ⊢
  simp only[List.map_cons,dot,ih,List.sum_cons]
theorem FO{p:Int}{rows:Rows}(hd:(rows.map (·.1)).Nodup){s:List Int}{a b xa xb i:Int}(ha:a∈s)(hb:b∈s)(hab:a≠b)(ra:(a,[1,xa])∈rows)(rb:(b,[1,xb])∈rows)(hi:p ∣ i*(xa-xb)-1):Op p 2 rows s:=by
 unfold Op Mul
 rw[a_]
 have hd':((rows.filter λq=>decide (q.1∈s)).map (·.1)).Nodup:=List.Sublist.nodup (List.Sublist.map _ List.filter_sublist) hd
 have ma:(a,[1,xa])∈rows.filter λq=>decide (q.1∈s):=List.mem_filter.mpr ⟨ra,decide_eq_true ha⟩
 have mb:(b,[1,xb])∈rows.filter λq=>decide (q.1∈s):=List.mem_filter.mpr ⟨rb,decide_eq_true hb⟩
 generalize rows.filter (λq=>decide (q.1∈s))=fl at hd' ma mb
 refine⟨fl.map λq=>(if q.1=a then -xb*i else 0)+(if q.1=b then xa*i else 0),by rw[List.length_map,List.length_map],λj hj=>?_⟩
 rw[qo (λx=>(if x=a then -xb*i else 0)+(if x=b then xa*i else 0)) j fl]
 have e:(fl.map λq=>((if q.1=a then -xb*i else 0)+(if q.1=b then xa*i else 0))*g q.2 j).sum=-xb*i*g [1,xa] j+xa*i*g [1,xb] j:=by
  have e1:=yk (λq=>(if q.1=a then -xb*i else 0)*g q.2 j) (λq=>(if q.1=b then xa*i else 0)*g q.2 j) fl
  have e2:=oK (λq=>(if q.1=a then -xb*i else 0)*g q.2 j) fl hd' ma λq _ hq=>by rw[if_neg hq,Int.zero_mul]
  have e3:=oK (λq=>(if q.1=b then xa*i else 0)*g q.2 j) fl hd' mb λq _ hq=>by rw[if_neg hq,Int.zero_mul]
  simp only[if_true] at e2 e3
  rw[← e2,← e3,← e1]
  congr 1
  exact List.map_congr_left λq _=>Int.add_mul _ _ _
 rw[e]
 obtain⟨k,hk⟩:=hi
 match j,hj with
 | 0,_=>exact⟨k,by show -xb*i*1+xa*i*1-g (eu 2 0) 0=p*k;rw[show g (eu 2 0) 0=1 from rfl];grind⟩
 | 1,_=>exact⟨0,by show -xb*i*xa+xa*i*xb-g (eu 2 0) 1=p*0;rw[show g (eu 2 0) 1=0 from rfl];grind⟩
theorem FP{p:Int}(hP:lM p){x:Int}(h:x%p≠0):∃i,p ∣ i*x-1:=by
 obtain⟨y,_,_,_,e⟩:=wB hP 1 x [] h
 exact⟨y,Int.dvd_of_emod_eq_zero e⟩
section
variable{p:Int}{n:Nat}{rows:Rows}{X:Int→Int}
structure Pw(p:Int)(n:Nat)(rows:Rows)(X:Int→Int):Prop where
 tbl:Tbl p 2 rows
 nd:(rows.map (·.1)).Nodup
 row:∀q∈rows,q.2=[1,X q.1]
 all:∀h:Int,0≤h∧h<(n:Int)→(h,[1,X h])∈rows
 bd:∀h,0≤X h∧X h<p
theorem FQ(W:Pw p n rows X){s:List Int}{a:Int}(ha:a∈s)(h0:0≤a∧a<(n:Int))(hx:X a=0):Op p 2 rows s:=by
 unfold Op Mul
 rw[a_]
 have hd':((rows.filter λq=>decide (q.1∈s)).map (·.1)).Nodup:=List.Sublist.nodup (List.Sublist.map _ List.filter_sublist) W.nd
 have ma:(a,[1,X a])∈rows.filter λq=>decide (q.1∈s):=List.mem_filter.mpr ⟨W.all a h0,decide_eq_true ha⟩
 generalize rows.filter (λq=>decide (q.1∈s))=fl at hd' ma
 refine⟨fl.map λq=>if q.1=a then 1 else 0,by rw[List.length_map,List.length_map],λj hj=>?_⟩
 rw[qo (λx=>if x=a then 1 else 0) j fl]
 have e2:=oK (λq=>(if q.1=a then 1 else 0)*g q.2 j) fl hd' ma λq _ hq=>by rw[if_neg hq,Int.zero_mul]
 simp only[if_true] at e2
 rw[e2,hx]
 match j,hj with
 | 0,_=>exact⟨0,by rw[show g (eu 2 0) 0=1 from rfl,show g [1,0] 0=1 from rfl];omega⟩
 | 1,_=>exact⟨0,by rw[show g (eu 2 0) 1=0 from rfl,show g [1,0] 1=0 from rfl];omega⟩
theorem uR(W:Pw p n rows X){s:List Int}(hs:∀x∈s,0≤x∧x<(n:Int)):Op p 2 rows s↔(∃a∈s,∃b∈s,X a≠X b)∨∃a∈s,X a=0:=by
 have hb:=W.tbl.pr.pos
 constructor
 ·intro ho
  refine Classical.byContradiction λno=>?_
  have n1:∀a∈s,∀b∈s,X a=X b:=λa ha b hb=>Classical.byContradiction λq=>no (.inl ⟨a,ha,b,hb,q⟩)
  have n2:∀a∈s,X a≠0:=λa ha q=>no (.inr ⟨a,ha,q⟩)
  have lines:∀l∈linesAt rows (rowsOf rows s),∃a∈s,l=[1,X a]:=λl hl=>by
   rw[a_] at hl
   obtain⟨q,hq,rfl⟩:=List.mem_map.mp hl
   obtain⟨q1,q2⟩:=List.mem_filter.mp hq
   exact⟨q.1,of_decide_eq_true q2,W.row q q1⟩
  cases s with
  | nil=>exact oJ W.tbl (tv:=[1,0]) (λl hl=>by obtain⟨a,ha,_⟩:=lines l hl;cases ha) rfl ho
  | cons c s =>
   have hc:=W.bd c
   have hx:X c%p≠0:=by rw[Int.emod_eq_of_lt hc.1 hc.2];exact n2 c (.head _)
   obtain⟨i,k,hk⟩:=FP W.tbl.pr hx
   refine oJ W.tbl (tv:=[1,-i]) (λl hl=>?_) rfl ho
   obtain⟨a,ha,rfl⟩:=lines l hl
   rw[n1 a ha c (.head _)]
   refine⟨-k,?_⟩
   show 1*1+(X c*-i+0)=p*-k
   grind
 ·rintro (⟨a,ha,b,hb',hab⟩|⟨a,ha,hx⟩)
  ·have ba:=W.bd a
   have bb:=W.bd b
   have hne:a≠b:=λe=>hab (by rw[e])
   have hm:(X a-X b)%p≠0:=λe=>by
    obtain⟨k,hk⟩:=Int.dvd_of_emod_eq_zero e
    have:k=0:=by
     rcases Int.lt_trichotomy k 0 with q|q|q
     ·have:p*k≤p*(-1):=Int.mul_le_mul_of_nonneg_left (by omega) (by omega)
      omega
     ·exact q
     ·have:p*1≤p*k:=Int.mul_le_mul_of_nonneg_left (by omega) (by omega)
      omega
    subst this
    omega
   obtain⟨i,hi⟩:=FP W.tbl.pr hm
   exact FO W.nd ha hb' hne (W.all a (hs a ha)) (W.all b (hs b hb')) hi
  ·exact FQ W ha (hs a ha) hx
end
theorem FR{s m:List Int}(hd:s.Nodup)(h:m.length<s.length):∃c,c∈s∧c∉m:=by
 refine Classical.byContradiction λno=>?_
 have:=nF s m hd λx hx=>Classical.byContradiction λq=>no ⟨x,hx,q⟩
 omega
theorem i8{s:List Int}{c x:Int}:x∈less s c↔x∈s∧x≠c:=by
 unfold less
 rw[List.mem_filter]
 exact⟨λq=>⟨q.1,of_decide_eq_true q.2⟩,λq=>⟨q.1,decide_eq_true q.2⟩⟩
theorem wJ{n:Nat}(hn:n≤8)(P:List Int→Bool)(h:∀s∈subs n,P s=true→s.length≤2):((subs n).filter P).length<64:=by
 have hc:((subs 8).filter λs=>decide (s.length≤2)).length<64:=by decide +kernel
 refine Nat.lt_of_le_of_lt (nF _ ((subs 8).filter λs=>decide (s.length≤2)) ((dP n).filter _) λs hs=>?_) hc
 obtain⟨h1,h2⟩:=List.mem_filter.mp hs
 obtain⟨s1,s2⟩:=aN.mp h1
 exact List.mem_filter.mpr ⟨aN.mpr ⟨s1,λx hx=>⟨(s2 x hx).1,by have:=(s2 x hx).2;omega⟩⟩,decide_eq_true (h s h1 h2)⟩
section
variable{p:Int}{n:Nat}{rows:Rows}{X:Int→Int}{O:List Int→Bool}
theorem CZ(W:Pw p n rows X)(hO:∀s,O s=true↔Op p 2 rows s){s:List Int}(L:kR O n s):s.length≤2:=by
 obtain⟨l1,l2,l3⟩:=L
 obtain⟨s1,s2⟩:=aN.mp l1
 have hd:s.Nodup:=s1.imp λq=>by omega
 refine Classical.byContradiction λno=>?_
 have bad:∀c∈s,Op p 2 rows (less s c)→False:=λc hc o=>by
  have:=(hO _).mpr o
  rw[l3 c hc] at this
  cases this
 have bl:∀c,∀x∈less s c,0≤x∧x<(n:Int):=λc x hx=>s2 x (i8.mp hx).1
 rcases (uR W s2).mp ((hO s).mp l2) with ⟨a,ha,b,hb,hab⟩|⟨a,ha,hx⟩
 ·obtain⟨c,hc,hn⟩:=FR (m:=[a,b]) hd (by simp;omega)
  have ca:a≠c:=λe=>hn (by rw[e];exact .head _)
  have cb:b≠c:=λe=>hn (by rw[e];exact .tail _ (.head _))
  exact bad c hc ((uR W (bl c)).mpr (.inl ⟨a,i8.mpr ⟨ha,ca⟩,b,i8.mpr ⟨hb,cb⟩,hab⟩))
 ·obtain⟨c,hc,hn⟩:=FR (m:=[a]) hd (by simp;omega)
  have ca:a≠c:=λe=>hn (by rw[e];exact .head _)
  exact bad c hc ((uR W (bl c)).mpr (.inr ⟨a,i8.mpr ⟨ha,ca⟩,hx⟩))
theorem C0(W:Pw p n rows X)(hn:n≤8)(hO:∀s,O s=true↔Op p 2 rows s)(P:List Int→Bool)(hP:∀s∈subs n,P s=true→dX O n s):((subs n).filter P).length<64:=by
 have t6:∀s,dX O n s→(∀a∈s,∀b∈s,X a=X b)∧∀a∈s,X a≠0:=λs ao=>by
  obtain⟨g1,g2,_⟩:=ao
  have s2:=(aN.mp g1).2
  have no:¬ Op p 2 rows s:=λo=>by have:=(hO s).mpr o;rw[g2] at this;cases this
  exact⟨λa ha b hb=>Classical.byContradiction λq=>no ((uR W s2).mpr (.inl ⟨a,ha,b,hb,q⟩)),λa ha q=>no ((uR W s2).mpr (.inr ⟨a,ha,q⟩))⟩
 have sub:∀s t,dX O n s→dX O n t→∀a,a∈s→a∈t→∀x∈s,x∈t:=λs t gs gt a as at_ x hx=>Classical.byContradiction λno=>by
  have s2:=(aN.mp gs.1).2
  have t2:=(aN.mp gt.1).2
  have o:=(hO _).mp (gt.2.2 x (s2 x hx) no)
  obtain⟨q1,q2⟩:=t6 s gs
  obtain⟨r1,r2⟩:=t6 t gt
  have all:∀y∈more t x,X y=X a:=λy hy=>by
   rcases jX.mp hy with h|rfl
   ·exact r1 y h a at_
   ·exact q1 y hx a as
  rcases (uR W λy hy=>by
   rcases jX.mp hy with h|rfl
   ·exact t2 y h
   ·exact s2 y hx).mp o with ⟨c,hc,d,hd,h⟩|⟨c,hc,h⟩
  ·exact h ((all c hc).trans (all d hd).symm)
  ·rw[all c hc] at h;exact q2 a as h
 have hl:(none::(List.range n).map λ(i:Nat)=>some (i:Int)).length<64:=by rw[List.length_cons,List.length_map,List.length_range];omega
 refine Nat.lt_of_le_of_lt (wI (λt:List Int=>t.head?) _ (none::(List.range n).map λ(i:Nat)=>some (i:Int)) ((dP n).filter _) (λs hs t ht e=>?_) λs hs=>?_) hl
 ·obtain⟨a1,a2⟩:=List.mem_filter.mp hs
  obtain⟨b1,b2⟩:=List.mem_filter.mp ht
  have gs:=hP s a1 a2
  have gt:=hP t b1 b2
  cases s with
  | nil=>cases t with
   | nil=>rfl
   | cons b t=>cases e
  | cons a s=>cases t with
   | nil=>cases e
   | cons b t =>
    have e:a=b:=Option.some.inj e
    subst e
    exact iL (aN.mp a1).1 (aN.mp b1).1 λx=>⟨sub _ _ gs gt a (.head _) (.head _) x,sub _ _ gt gs a (.head _) (.head _) x⟩
 ·obtain⟨a1,_⟩:=List.mem_filter.mp hs
  cases s with
  | nil=>exact .head _
  | cons a s =>
   have:=(aN.mp a1).2 a (.head _)
   exact .tail _ (List.mem_map.mpr ⟨a.toNat,List.mem_range.mpr (by omega),by show some ((a.toNat:Nat):Int)=some a;congr 1;omega⟩)
end
section
variable{p:Int}{n:Nat}{rows:Rows}{O:List Int→Bool}
structure Pw1(p:Int)(n:Nat)(rows:Rows):Prop where
 tbl:Tbl p 1 rows
 nd:(rows.map (·.1)).Nodup
 all:∀h:Int,0≤h∧h<(n:Int)→(h,[1])∈rows
theorem FT(W:Pw1 p n rows){s:List Int}(hs:∀x∈s,0≤x∧x<(n:Int)):Op p 1 rows s↔s≠[]:=by
 constructor
 ·rintro ho rfl
  refine oJ W.tbl (tv:=[1]) (λl hl=>?_) rfl ho
  rw[a_] at hl
  obtain⟨q,hq,_⟩:=List.mem_map.mp hl
  exact absurd (of_decide_eq_true (List.mem_filter.mp hq).2) List.not_mem_nil
 ·intro hne
  obtain⟨a,ha⟩:=List.exists_mem_of_ne_nil s hne
  unfold Op Mul
  rw[a_]
  have hd':((rows.filter λq=>decide (q.1∈s)).map (·.1)).Nodup:=List.Sublist.nodup (List.Sublist.map _ List.filter_sublist) W.nd
  have ma:(a,[1])∈rows.filter λq=>decide (q.1∈s):=List.mem_filter.mpr ⟨W.all a (hs a ha),decide_eq_true ha⟩
  generalize rows.filter (λq=>decide (q.1∈s))=fl at hd' ma
  refine⟨fl.map λq=>if q.1=a then 1 else 0,by rw[List.length_map,List.length_map],λj hj=>?_⟩
  rw[qo (λx=>if x=a then 1 else 0) j fl]
  have e2:=oK (λq=>(if q.1=a then 1 else 0)*g q.2 j) fl hd' ma λq _ hq=>by rw[if_neg hq,Int.zero_mul]
  simp only[if_true] at e2
  rw[e2]
  match j,hj with
  | 0,_=>exact⟨0,by rw[show g (eu 1 0) 0=1 from rfl,show g [1] 0=1 from rfl];omega⟩
theorem C1(W:Pw1 p n rows)(hO:∀s,O s=true↔Op p 1 rows s){s:List Int}(L:kR O n s):s.length≤2:=by
 obtain⟨l1,l2,l3⟩:=L
 obtain⟨s1,s2⟩:=aN.mp l1
 have hd:s.Nodup:=s1.imp λq=>by omega
 refine Classical.byContradiction λno=>?_
 have hne:s≠[]:=λe=>by rw[e] at no;exact no (by simp)
 obtain⟨a,ha⟩:=List.exists_mem_of_ne_nil s hne
 obtain⟨c,hc,hn⟩:=FR (m:=[a]) hd (by simp;omega)
 have ca:a≠c:=λe=>hn (by rw[e];exact .head _)
 have o:Op p 1 rows (less s c):=(FT W λx hx=>s2 x (i8.mp hx).1).mpr λe=>by
  have:=i8.mpr ⟨ha,ca⟩
  rw[e] at this
  cases this
 have:=(hO _).mpr o
 rw[l3 c hc] at this
 cases this
theorem C2(W:Pw1 p n rows)(hO:∀s,O s=true↔Op p 1 rows s){s:List Int}(G:dX O n s):s.length≤2:=by
 obtain⟨g1,g2,_⟩:=G
 cases s with
 | nil=>exact Nat.zero_le _
 | cons a s =>
  have:=(hO _).mpr ((FT W (aN.mp g1).2).mpr (List.cons_ne_nil a s))
  rw[g2] at this
  cases this
end
end Fw.Sets
namespace Fw.k33
open PySem Fw
def ko:DS :=
 (aq (ay 3 (ag aP (aa 2) (aa 0)))
 (aq (sIf (ag fEq (aa 3) (dC (.int 0))) Hu bB)
 (aq (ay 4 (ag aP (aa 1) (aa 0)))
 (aq (jw (ag fNe (aa 3) (dC (.int 1))) (aq (ay 4 (ag aP (ag aK (dUn xi (aa 4)) (ag d_ (aa 0) (aa 3))) (aa 0)))
 (ay 3 (ag aP (aa 0) (aa 3)))))
 (aC (aa 4))))))
def jf:FN:=fnV 5 ko
def iA:DS :=
 (aC (aH (bX (aa 2)) [none,some 0,some 1] (ar 0) (dC (.bl true)) (ag aP (ag aK (aa 2) (aa 0)) (aa 1))))
def gW:FN:=fnV 3 iA
def fC:DS :=
 (aq (ay 4 (ax (aa 1) (aa 3)))
 (aq (sIf (ag fEq (aa 4) (dC (.int 0))) (aC (aa 1)) bB)
 (aC (aH (tG (aa 1) (aa 2)) [none,none,some 0,some 4] (ee [0,1]) (dC (.bl true)) (ag aP (ag qH (aa 0) (ag aK (aa 3) (aa 1))) (aa 2))))))
def iV:FN:=fnV 5 fC
def bY:DS :=
 (aq (cf (aI (aa 1)) (ar 2) (sIf (ag fNe (ax (aa 0) (aa 2)) (dC (.int 0))) (aC (aa 2)) bB))
 (aC (dC (.non))))
def eg:FN:=fnV 3 bY
def kq:DS :=
 (aq (ay 3 (bp (dC (.dct []))))
 (aq (ay 4 (bp (eS [])))
 (aq (cf (bX (aa 1)) (ar 5) (aq (ay 6 (aa 5))
 (aq (cf (kj (aa 3)) (ee [7,8]) (ay 6 (au (cal iV) [(aa 0),(aa 6),(aa 8),(aa 7)])))
 (aq (ay 9 (au (cal eg) [(aa 6),(aa 2)]))
 (sIf (dUn ly (aa 9)) (bo (aa 4) (aa 6)) (aq (ay 10 (au (cal gW) [(aa 0),(au (cal jf) [(aa 0),(dC (.int 1)),(ax (aa 6) (aa 9))]),(aa 6)]))
 (aq (cf (bX (dUn xn (aa 3))) (ar 7) (jM 3 (aa 7) (au (cal iV) [(aa 0),(ag iu (aa 3) (aa 7)),(aa 10),(aa 9)])))
 (jM 3 (aa 9) (aa 10)))))))))
 (aC (eU [(aa 3),(aa 4)])))))
def lR:FN:=fnV 11 kq
def cq:DS :=
 (aC (aH (bX (aa 1)) [none,some 0,some 2] (ar 0) (dC (.bl true)) (ag aP (ax (aa 0) (aa 2)) (aa 1))))
def eZ:FN:=fnV 3 cq
def lS:DS :=
 (aq (ay 2 (bp (pS pT [(dC (.int 0))] (aa 0))))
 (aq (dR 2 (aa 1) (dC (.int 1)))
 (aC (aa 2))))
def oi:FN:=fnV 3 lS
def kr:DS :=
 (aq (ay 4 (fP (aa 2)))
 (aq (ay 5 (bp (eS [])))
 (aq (cf (aI (aa 1)) (ar 6) (bo (aa 5) (ag bj (ag bj (au (cal eZ) [(aa 0),(aa 2),(aa 6)]) (eS [(ag aP (ax (aa 3) (aa 6)) (aa 0))])) (au (cal oi) [(aa 1),(aa 6)]))))
 (aq (ay 7 (au (cal lR) [(aa 0),(aa 5),(aa 4)]))
 (aq (cf (bX (ax (aa 7) (dC (.int 1)))) (ar 8) (sIf (ag fNe (ax (aa 8) (aa 4)) (dC (.int 0))) (aC (j0 [(dC (.str "turn")),(dUn b7 (au (cal gW) [(aa 0),(au (cal jf) [(aa 0),(dC (.int 1)),(ax (aa 8) (aa 4))]),(B1 (aa 8) (some (ag bj (aa 4) (dC (.int 1)))) none)]))])) bB))
 (aq (ay 9 (bp (pS pT [(dC (.int 0))] (aa 4))))
 (aq (cf (kj (ax (aa 7) (dC (.int 0)))) (ee [6,10]) (dR 9 (aa 6) (ax (aa 10) (aa 4))))
 (aC (j0 [(dC (.str "sum")),(aa 9)])))))))))
def jg:FN:=fnK 11 kr
def pb:DS :=
 (aC (aH (xC (ax (aa 0) (dC (.int 2)))) [none,none,some 1] (ee [0,1]) (ag fIn (ax (aa 1) (dC (.int 0))) (aa 2)) (aa 0)))
def bW:FN:=fnV 2 pb
def gD:DS :=
 (aC (aH (bX (aa 1)) [none,some 0] (ar 0) (dC (.bl true)) (ax (ax (ax (aa 1) (dC (.int 2))) (aa 0)) (dC (.int 1)))))
def cO:FN:=fnV 2 gD
def dZ:DS :=
 (aC (dUn b7 (aH (aI (aa 0)) [none] (ar 0) (dC (.bl true)) (DM (ag fEq (aa 0) (dC (.int 0))) (dC (.int 1)) (dC (.int 0))))))
def bO:FN:=fnV 1 dZ
def fN:DS :=
 (aq (ay 2 (au (cal jg) [(ax (aa 0) (dC (.int 0))),(ax (aa 0) (dC (.int 1))),(au (cal cO) [(aa 0),(aa 1)]),(au (cal bO) [(ax (aa 0) (dC (.int 1)))])]))
 (aq (sIf (ag fEq (ax (aa 2) (dC (.int 0))) (dC (.str "sum"))) (aC (j0 [(dC (.str "open")),(ax (aa 2) (dC (.int 1)))])) bB)
 (aC (j0 [(dC (.str "shut")),(ax (aa 2) (dC (.int 1)))]))))
def bP:FN:=fnK 3 fN
def fD:DS :=
 (aC (au (cal bP) [(aa 0),(au (cal bW) [(aa 0),(aa 1)])]))
def ck:FN:=fnV 2 fD
def jh:DS :=
 (aC (ag fEq (ax (au (cal ck) [(aa 0),(aa 1)]) (dC (.int 0))) (dC (.str "open"))))
def bQ:FN:=fnV 2 jh
def iB:DS :=
 (aq (ay 1 (eS [(eU [])]))
 (aq (cf (aI (aa 0)) (ar 2) (ay 1 (ag bj (aa 1) (aH (bX (aa 1)) [none,some 2] (ar 0) (dC (.bl true)) (ag bj (aa 0) (eU [(aa 1)]))))))
 (aC (aa 1))))
def jF:DS:=(ay 1 (eS [(eU [])]))
def jG:DS:=(cf (aI (aa 0)) (ar 2) (ay 1 (ag bj (aa 1) (aH (bX (aa 1)) [none,some 2] (ar 0) (dC (.bl true)) (ag bj (aa 0) (eU [(aa 1)]))))))
def jH:DS:=(aC (aa 1))
def jI:DS:=jH
def jJ:DS:=aq jG jI
def mU:DS:=aq jF jJ
theorem t7:iB=mU:=rfl
theorem pA(e:Slots)(μ:af):mU e μ=(jF e μ).seq jJ:=rfl
theorem pB(e:Slots)(μ:af):jJ e μ=(jG e μ).seq jI:=rfl
theorem pC(e:Slots)(μ:af):jI e μ=jH e μ:=rfl
def bD:FN:=fnV 3 iB
def mD:DS :=
 (aC (dUn b7 (aH (bX (aa 0)) [none,some 1] (ar 0) (ag fNe (aa 0) (aa 1)) (aa 0))))
def eh:FN:=fnV 2 mD
def fE:DS :=
 (aC (dUn b7 (dUn oh (ag bj (aa 0) (eU [(aa 1)])))))
def bK:FN:=fnV 2 fE
def ku:DS :=
 (aC (mX (ag je (aa 0) (aa 1)) (eR (dUn lD (aH (bX (aa 1)) [none,some 0,some 1] (ar 0) (dC (.bl true)) (ag je (aa 1) (au (cal eh) [(aa 2),(aa 0)])))))))
def b8:FN:=fnV 2 ku
def gK:DS :=
 (aq (sIf (ag je (aa 0) (aa 2)) (aC (dC (.bl false))) bB)
 (aC (dUn mZ (aH (aI (aa 1)) [none,some 0,some 2] (ar 0) (ag nZ (aa 0) (aa 2)) (ag je (aa 1) (au (cal bK) [(aa 2),(aa 0)]))))))
def br:FN:=fnV 3 gK
def dB:DS :=
 (aq (ay 2 (bp (dC (.dtt false []))))
 (aq (cf (bX (au (cal bD) [(aa 1)])) (ar 3) (uG 2 (aa 3) (au (cal bQ) [(aa 0),(aa 3)])))
 (aq (ay 4 (aH (lQ (aa 2)) [none,some 2] (ar 0) (au (cal b8) [(aa 1),(aa 0)]) (dUn lB (aa 0))))
 (aq (ay 5 (aH (lQ (aa 2)) [none,some 2,some 1] (ar 0) (au (cal br) [(aa 1),(aa 2),(aa 0)]) (dUn lB (aa 0))))
 (aC (j0 [(bp (dUn gU (aa 4))),(bp (dUn gU (aa 5)))]))))))
def kE:DS:=(ay 2 (bp (dC (.dtt false []))))
def kF:DS:=(cf (bX (au (cal bD) [(aa 1)])) (ar 3) (uG 2 (aa 3) (au (cal bQ) [(aa 0),(aa 3)])))
def kG:DS:=(ay 4 (aH (lQ (aa 2)) [none,some 2] (ar 0) (au (cal b8) [(aa 1),(aa 0)]) (dUn lB (aa 0))))
def kH:DS:=(ay 5 (aH (lQ (aa 2)) [none,some 2,some 1] (ar 0) (au (cal br) [(aa 1),(aa 2),(aa 0)]) (dUn lB (aa 0))))
def kI:DS:=(aC (j0 [(bp (dUn gU (aa 4))),(bp (dUn gU (aa 5)))]))
def kJ:DS:=kI
def kK:DS:=aq kH kJ
def kL:DS:=aq kG kK
def kM:DS:=aq kF kL
def oM:DS:=aq kE kM
theorem wK:dB=oM:=rfl
theorem p6(e:Slots)(μ:af):oM e μ=(kE e μ).seq kM:=rfl
theorem p7(e:Slots)(μ:af):kM e μ=(kF e μ).seq kL:=rfl
theorem p8(e:Slots)(μ:af):kL e μ=(kG e μ).seq kK:=rfl
theorem p9(e:Slots)(μ:af):kK e μ=(kH e μ).seq kJ:=rfl
theorem p_(e:Slots)(μ:af):kJ e μ=kI e μ:=rfl
def bG:FN:=fnV 6 dB
end Fw.k33
namespace Fw.k33
open PySem Fw Fw.H Fw.E Fw.F Fw.Sets
theorem nG{n:Nat}(h:n≤8):(subs n).length≤256:=by
 rw[sL];exact Nat.le_trans (Nat.pow_le_pow_right (by decide) h) (by decide)
def sU:DS:=(ay 1 (ag bj (aa 1) (aH (bX (aa 1)) [none,some 2] (ar 0) (dC (.bl true)) (ag bj (aa 0) (eU [(aa 1)])))))
theorem Ac{i:Nat}(hi:i<8)(x0:Option SV)(μ:af):sU [x0,some (.val (.lst ((subs i).map tu))),some (.val (.int (i:Int)))] μ=.nx [x0,some (.val (.lst ((subs (i+1)).map tu))),some (.val (.int (i:Int)))] μ:=by
 have hs:=nG (n:=i) (by omega)
 have ec:bN (λ_=>True) (ar 0) (dC (.bl true)) (ag bj (aa 0) (eU [(aa 1)])) [none,some (.val (.int (i:Int)))] ((subs i).map tu) μ=.ok ((subs i).map λs=>tu (s++[(i:Int)])) μ:=by
  rw[dy tu (λs=>tu (s++[(i:Int)])) trivial]
  intro s hm
  have hl:=sub_len hm
  have fa:bj (tu s) (.tup [.int (i:Int)])=some (tu (s++[(i:Int)])):=by
   unfold tu
   rw[xc _ _ (by simp[szL];omega),List.map_append];rfl
  refine⟨_,rfl,?_⟩
  simp?! only[fa]
 have ls:((subs i).map tu).length≤szL:=by rw[List.length_map];unfold szL;omega
 have fa:bj (.lst ((subs i).map tu)) (.lst ((subs i).map λs=>tu (s++[(i:Int)])))=some (.lst ((subs (i+1)).map tu)):=by
  rw[qG _ _ (by rw[List.length_map,List.length_map];unfold szL;omega)]
  rw[show subs (i+1)=subs i++(subs i).map λs=>s++[(i:Int)] from rfl,List.map_append,List.map_map]
  rfl
 unfold sU
 simp?! only[ec,ls,fa]
theorem FU{n:Nat}(hn:n≤8)(μ:af):bD [.val (.int n)] μ=.ok (.val (.lst ((subs n).map tu))) μ:=by
 have rw_:d8 (n:Int)=true:=cN (by omega) (by omega)
 obtain⟨e',M',hf,x2,rfl,rfl⟩:=fB (same:=λ_=>True) (b:=ar 2) (ts:=bC 0 (n:Int).toNat) (body:=sU)
  (I:=λi e M=>∃x2,e=[some (.val (.int n)),some (.val (.lst ((subs i).map tu))),x2]∧μ=M)
  (λ_ _ _ _=>trivial) (λj t e M ht ao=>by
   obtain⟨x2,he,hM⟩:=ao
   subst he hM
   obtain⟨k,rfl,hj,hk⟩:=mB ht
   have hj:j<n:=by simpa using hj
   have ek:k=(j:Int):=by omega
   subst ek
   exact⟨_,_,_,rfl,Ac (by omega) _ μ,some (.val (.int (j:Int))),rfl,rfl⟩)
  (e:=[some (.val (.int n)),some (.val (.lst ((subs 0).map tu))),none]) (μ:=μ) ⟨none,rfl,rfl⟩
 rw[cH] at hf
 rw[Int.toNat_natCast] at hf
 unfold bD
 rw[fQ,t7,pA]
 unfold jF
 simp?! only[]
 rw[pB,show jG=cf (aI (aa 0)) (ar 2) sU from rfl]
 have hf:forL (λ_=>True) (ar 2) sU (bC 0 n) [some (.val (.int n)),some (.val (.lst [.tup []])),none] μ=.nx [some (.val (.int n)),some (.val (.lst ((subs n).map tu))),x2] μ:=hf
 simp?! only[rw_,Int.toNat_natCast,hf]
 rw[pC]
 unfold jH
 simp?! only[]
theorem Ad(s:List Int)(h:Int)(hl:s.length≤1000)(μ:af):eh [.val (tu s),.val (.int h)] μ=.ok (.val (tu (less s h))) μ:=by
 have ec:bN (λ_=>True) (ar 0) (ag fNe (aa 0) (aa 1)) (aa 0) [none,some (.val (.int h))] (s.map T.int) μ=.ok ((less s h).map T.int) μ:=by
  rw[fJ (λx=>decide (x≠h)) T.int trivial s]
  ·rfl
  ·intro k _
   refine⟨_,rfl,?_,λ_=>rfl⟩
   simp?! only[]
   congr 3
   rw[Bool.eq_iff_iff]
   simp
 have ls:(s.map T.int).length≤szL:=by rw[List.length_map];unfold szL;omega
 unfold eh mD
 simp?! only[ec,ls,j4]
theorem Ae(l:List Int)(h:l.length<64):oh (tu l)=some (li (rg l)):=by
 unfold tu li
 show ((ed (l.map T.int)).bind λns=>if ns.length<64 then some (T.lst ((rg ns).map T.int)) else none)=_
 rw[j5]
 show (if l.length<64 then _ else none)=_
 rw[if_pos h]
theorem IL(s:List Int)(h:Int)(hl:s.length<60)(μ:af):bK [.val (tu s),.val (.int h)] μ=.ok (.val (tu (more s h))) μ:=by
 have fa:bj (tu s) (.tup [.int h])=some (tu (s++[h])):=by
  unfold tu
  rw[xc _ _ (by simp[szL];omega),List.map_append];rfl
 have e:=Ae (s++[h]) (by rw[List.length_append];simp;omega)
 unfold bK fE
 simp?! only[fa,e,j4]
 rfl
theorem FV{p:Int}{w:Nat}{rows:Rows}(hn:rows.length≤24)(aX:List Int)(μ:af) :
  F.bW [.val (tb p w rows),.val (tu aX)] μ=.ok (.val (li (nums (rowsOf rows aX)))) μ:=by
 have fi:∀x:Int,fIn (.int x) (.tup (aX.map T.int))=some (.bl (decide (x∈aX))):=λx=>by
  unfold fIn
  simp only[j7,eX,Bool.and_true,lL]
  rfl
 unfold F.bW nE tb tu
 simp! only[]
 rw[enum_rows,iP (λ(i:Nat)=>.tup [.int (i:Int),rt (dg rows i)]) (λi=>decide ((dg rows i).1∈aX)) (λ(i:Nat)=>.int (i:Int)) (by simp)]
 ·rw[R.dJ,R.aZ,if_pos (by simp[szL];lia)]
  simp! only[]
  rw[wG]
  rfl
 ·intro i hi
  refine⟨_,gA 0 1 _ _ _,?_,λ_=>?_⟩
  ·simp! only[rt,fi]
  ·simp! only[]
theorem FW{p:Int}{w:Nat}{rows:Rows}(H:Tbl p w rows)(s:List Int)(μ:af):ck [.val (tb p w rows),.val (tu s)] μ=ck [.val (tb p w rows),.val (li s)] μ:=by
 have e1:bW [.val (tb p w rows),.val (tu s)] μ=.ok (.val (li (nums (rowsOf rows s)))) μ:=FV H.n s μ
 have e2:bW [.val (tb p w rows),.val (li s)] μ=.ok (.val (li (nums (rowsOf rows s)))) μ:=F.uP H.n s (.val (li s)) μ rfl
 unfold ck fD
 simp?! only[e1,e2]
 generalize bP [.val (tb p w rows),.val (li (nums (rowsOf rows s)))] μ=r
 cases r<;>rfl
theorem Af:(("open":Str)=="open")=true:=by decide +kernel
theorem Bq:(("shut":Str)=="open")=false:=by decide +kernel
open Classical in
def ow(p:Int)(w:Nat)(rows:Rows)(s:List Int):Bool:=decide (Op p w rows s)
theorem cK{p:Int}{w:Nat}{rows:Rows}(s:List Int):ow p w rows s=true↔Op p w rows s:=by unfold ow;exact @decide_eq_true_iff _ (Classical.propDecidable _)
theorem wL{p:Int}{w:Nat}{rows:Rows}(H:Tbl p w rows)(s:List Int)(μ:af):∃a t,ck [.val (tb p w rows),.val (li s)] μ=.ok (.val (.tup [.str a,t])) μ∧(a=="open")=ow p w rows s:=by
 have h:(Op p w rows s∧∃ms,ck [.val (tb p w rows),.val (li s)] μ=.ok (.val (.tup [.str "open",li ms])) μ)∨(¬ Op p w rows s∧∃tv,ck [.val (tb p w rows),.val (li s)] μ=.ok (.val (.tup [.str "shut",tu tv])) μ):=word H s (.val (li s)) μ rfl
 rcases h with ⟨h1,ms,h2⟩|⟨h1,tv,h2⟩
 ·exact⟨_,_,h2,by rw[Af];exact ((cK s).mpr h1).symm⟩
 ·refine⟨_,_,h2,?_⟩
  rw[Bq]
  cases e:ow p w rows s with
  | true=>exact absurd ((cK s).mp e) h1
  | false=>rfl
theorem Ag{p:Int}{w:Nat}{rows:Rows}(H:Tbl p w rows)(s:List Int)(μ:af):bQ [.val (tb p w rows),.val (tu s)] μ=.ok (.val (.bl (ow p w rows s))) μ:=by
 obtain⟨a,t,h1,h2⟩:=wL H s μ
 rw[← FW H s μ] at h1
 unfold bQ jh
 simp?! only[h1,h2]
def Fit(p:Int)(w n:Nat)(rows:Rows):Prop:=n≤6∨rows.length≤4∨(w=1∧Pw1 p n rows)∨∃X,w=2∧Pw p n rows X
def dd(O:List Int→Bool)(l:List (List Int)):List (List Int×Bool):=l.map λs=>(s,O s)
theorem LK{O:List Int→Bool}{l:List (List Int)}{s:List Int}(h:s∉l):rK (dd O l) s (O s)=dd O (l++[s]):=by
 unfold rK
 rw[if_neg]
 ·simp[dd]
 ·intro e
  obtain⟨kv,h1,h2⟩:=List.any_eq_true.mp e
  obtain⟨t,h3,rfl⟩:=List.mem_map.mp h1
  exact h (by rw[← of_decide_eq_true h2];exact h3)
theorem FX{O:List Int→Bool}:∀{l:List (List Int)}{s:List Int},s∈l→pM (dd O l) s=some (O s)
 | [],s,h=>by cases h
 | t::l,s,h=>by
  unfold pM
  show ((((t,O t)::dd O l).find? λkv=>decide (kv.1=s)).map (·.2))=_
  by_cases e:t=s
  ·subst e;rw[List.find?_cons_of_pos (by simp)];rfl
  ·rw[List.find?_cons_of_neg (by simpa using e)]
   exact FX ((List.mem_cons.mp h).resolve_left λq=>e q.symm)
theorem Br(s:List Int):xI (tu s)=some s:=by unfold tu xI;exact j5 s
theorem LM{O:List Int→Bool}{l:List (List Int)}{s:List Int}(h:s∈l)(b:Bool):je (.dtt b (dd O l)) (tu s)=some (.bl (O s)):=by
 show ((xI (tu s)).bind λk=>(pM (dd O l) k).map T.bl)=_
 rw[Br,Option.bind_some,FX h]
 rfl
theorem LN(μ:af)(kts:List (List Int×Bool))(s:List Int)(b:Bool)(h:kts.length<szL):nh (.cel μ.length) (tu s) (.bl b) (μ++[(true,.dtt false kts)])=some (μ++[(true,.dtt false (rK kts s b))]):=by
 have e:(μ++[(true,T.dtt false kts)])[μ.length]?=some (true,T.dtt false kts):=by simp
 unfold nh
 simp only[e,Br,Option.bind_some,if_pos h]
 simp
theorem C3{l:List (List Int)}{i:Nat}{s:List Int}(hd:l.Nodup)(h:l[i]?=some s):l.take (i+1)=l.take i++[s]∧s∉l.take i:=by
 have hi:i<l.length:=(List.getElem?_eq_some_iff.mp h).1
 have e:l[i]=s:=(List.getElem?_eq_some_iff.mp h).2
 have e2:l.take (i+1)=l.take i++[s]:=by rw[List.take_succ,h];rfl
 refine⟨e2,λhm=>?_⟩
 have:=List.Sublist.nodup (List.take_sublist (i+1) l) hd
 rw[e2] at this
 exact (List.nodup_append.mp this).2.2 s hm s (by simp) rfl
def opB:DS:=(uG 2 (aa 3) (au (cal bQ) [(aa 0),(aa 3)]))
theorem IM{p:Int}{w:Nat}{rows:Rows}(H:Tbl p w rows){n:Nat}(hn:n≤8)(μ:af) :
  ∃x3,forL (λ_=>True) (ar 3) opB ((subs n).map tu) [some (.val (tb p w rows)),some (.val (.int n)),some (.cel μ.length),none,none,none] (μ++[(true,.dtt false [])]) =
   .nx [some (.val (tb p w rows)),some (.val (.int n)),some (.cel μ.length),x3,none,none] (μ++[(true,.dtt false (dd (ow p w rows) (subs n)))]):=by
 have hs:=nG hn
 obtain⟨e',M',hf,x3,rfl,rfl⟩:=fB (same:=λ_=>True) (b:=ar 3) (ts:=(subs n).map tu) (body:=opB)
  (I:=λi e M=>∃x3,e=[some (.val (tb p w rows)),some (.val (.int n)),some (.cel μ.length),x3,none,none]∧M=μ++[(true,.dtt false (dd (ow p w rows) ((subs n).take i)))])
  (λ_ _ _ _=>trivial) (λj t e M ht ao=>by
   obtain⟨x3,he,hM⟩:=ao
   subst he hM
   rw[List.getElem?_map] at ht
   obtain⟨s,h1,rfl⟩:=Option.map_eq_some_iff.mp ht
   obtain⟨e1,e2⟩:=C3 (dP n) h1
   have h3:=Ag H s (μ++[(true,.dtt false (dd (ow p w rows) ((subs n).take j)))])
   have h4:=LN μ (dd (ow p w rows) ((subs n).take j)) s (ow p w rows s) (by unfold dd szL;rw[List.length_map,List.length_take];omega)
   rw[LK e2,← e1] at h4
   refine⟨_,_,μ++[(true,.dtt false (dd (ow p w rows) ((subs n).take (j+1))))],rfl,?_,some (.val (tu s)),rfl,rfl⟩
   unfold opB
   simp?! only[ET,h3,h4])
  (e:=[some (.val (tb p w rows)),some (.val (.int n)),some (.cel μ.length),none,none,none]) (μ:=μ++[(true,.dtt false [])]) ⟨none,rfl,rfl⟩
 rw[List.length_map,List.take_length] at hf
 exact⟨x3,hf⟩
def lsB(O:List Int→Bool)(s:List Int):Bool:=O s && !(s.any λh=>O (less s h))
def grB(O:List Int→Bool)(n:Nat)(s:List Int):Bool:=!O s && (((bV 0 n).filter λh=>decide (h∉s)).all λh=>O (more s h))
theorem ir{O:List Int→Bool}{n:Nat}{s:List Int}(hs:s∈subs n):lsB O s=true↔kR O n s:=by
 unfold lsB kR
 rw[Bool.and_eq_true,Bool.not_eq_true',List.any_eq_false]
 exact⟨λ⟨a,b⟩=>⟨hs,a,λh hh=>by simpa using b h hh⟩,λ⟨_,a,b⟩=>⟨a,λh hh=>by simpa using b h hh⟩⟩
theorem jK{O:List Int→Bool}{n:Nat}{s:List Int}(hs:s∈subs n):grB O n s=true↔dX O n s:=by
 unfold grB dX
 rw[Bool.and_eq_true,Bool.not_eq_true',List.all_eq_true]
 refine⟨λ⟨a,b⟩=>⟨hs,a,λh h0 hm=>b h (List.mem_filter.mpr ⟨dn.mpr (by omega),decide_eq_true hm⟩)⟩,λ⟨_,a,b⟩=>⟨a,λh hh=>?_⟩⟩
 obtain⟨h1,h2⟩:=List.mem_filter.mp hh
 have:=dn.mp h1
 exact b h (by omega) (of_decide_eq_true h2)
theorem qp{O:List Int→Bool}{n:Nat}{x:SV}{μ:af}{b:Bool}(hx:rd μ x=some (.dtt b (dd O (subs n)))){s:List Int}(hs:s∈subs n):ap2 je (rd μ x) (some (tu s))=some (.val (.bl (O s))):=by
 rw[hx,lu,LM hs];rfl
theorem ym{O:List Int→Bool}{n:Nat}(hn:n≤8){x:SV}{μ:af}{b:Bool}(hx:rd μ x=some (.dtt b (dd O (subs n)))){s:List Int}(hs:s∈subs n):b8 [x,.val (tu s)] μ=.ok (.val (.bl (lsB O s))) μ:=by
 have hl:=sub_len hs
 have ec:bN (λ_=>True) (ar 0) (dC (.bl true)) (ag je (aa 1) (au (cal eh) [(aa 2),(aa 0)])) [none,some x,some (.val (tu s))] (s.map T.int) μ=.ok (s.map λh=>T.bl (O (less s h))) μ:=by
  rw[iJ (λh=>T.bl (O (less s h))) trivial s]
  intro h hm
  have h1:=Ad s h (by omega) μ
  have h2:=qp hx (sN hs h)
  refine⟨_,rfl,?_⟩
  simp?! only[h1,h2]
 have ls:(s.map T.int).length≤szL:=by rw[List.length_map];unfold szL;omega
 have h2:=qp hx hs
 have fa:=lJ (λh=>O (less s h)) s
 unfold b8 ku lsB
 have tus:tu s=.tup (s.map T.int):=rfl
 cases ho:O s with
 | true =>
  rw[ho] at h2
  simp?! only[h2,tus,ec,ls,fa]
  rw[Bool.true_and]
 | false =>
  rw[ho] at h2
  simp?! only[h2]
  rfl
theorem LO(h:Int)(s:List Int):nZ (.int h) (tu s)=some (.bl (decide (h∉s))):=by
 unfold nZ tu
 simp only[j7,eX,Bool.and_true,lL]
 congr 2
 by_cases q:h∈s<;>simp[q,gT]
theorem sV(h:Int)(s:List Int):nZ (.int h) (li s)=some (.bl (decide (h∉s))):=by
 unfold nZ li
 simp only[eK,eX,Bool.and_true,lL]
 congr 2
 by_cases q:h∈s<;>simp[q,gT]
theorem sW{O:List Int→Bool}{n:Nat}(hn:n≤8){x:SV}{μ:af}{b:Bool}(hx:rd μ x=some (.dtt b (dd O (subs n)))){s:List Int}(hs:s∈subs n):br [x,.val (.int n),.val (tu s)] μ=.ok (.val (.bl (grB O n s))) μ:=by
 have hl:=sub_len hs
 have rw_:d8 (n:Int)=true:=cN (by omega) (by omega)
 have ec:bN (λ_=>True) (ar 0) (ag nZ (aa 0) (aa 2)) (ag je (aa 1) (au (cal bK) [(aa 2),(aa 0)])) [none,some x,some (.val (tu s))] (bC 0 n) μ=.ok (((bV 0 n).filter λh=>decide (h∉s)).map λh=>T.bl (O (more s h))) μ:=by
  rw[eW,fJ (λh=>decide (h∉s)) (λh=>T.bl (O (more s h))) trivial (bV 0 n)]
  intro h hm
  have h0:=dn.mp hm
  have h1:=IL s h (by omega) μ
  have h4:=LO h s
  refine⟨_,rfl,?_,λhq=>?_⟩
  ·simp?! only[h4]
  ·have h2:=qp hx (Fm hs (h:=h) (by omega) (of_decide_eq_true hq))
   simp?! only[h1,h2]
 have ls:(bC 0 n).length≤szL:=by rw[cH];unfold szL;omega
 have h2:=qp hx hs
 have fa:=qY (λh=>O (more s h)) ((bV 0 n).filter λh=>decide (h∉s))
 unfold br gK grB
 cases ho:O s with
 | true =>
  rw[ho] at h2
  simp?! only[h2]
  rfl
 | false =>
  rw[ho] at h2
  simp?! only[h2,rw_,Int.toNat_natCast,ec,ls,fa]
  rw[Bool.true_and]
def srt(l:List (List Int)):List (List Int):=o_ l [] l
theorem uS:∀(l:List (List Int)),pN (l.map li)=some l
 | []=>rfl
 | s::l=>by
  show (ed (s.map T.int)).bind (λns=>(pN (l.map li)).map (ns::·))=_
  rw[j5,Option.bind_some,uS l]
  rfl
theorem uT(l:List (List Int))(h:l.length<64):gU (.lst (l.map li))=some (.lst ((srt l).map li)):=by
 show ((pN (l.map li)).bind λnss=>if (l.map li).length<64 then some (T.lst (o_ (l.map li) .non nss)) else none)=_
 rw[uS,Option.bind_some,if_pos (by rw[List.length_map];exact h)]
 congr 2
 unfold srt o_
 rw[List.length_map,List.map_map]
 refine List.map_congr_left λi hi=>?_
 have hi:i<l.length:=List.mem_range.mp ((HT.gC _ _).mem_iff.mp hi)
 simp[hi]
theorem jt{l:List (List Int)}{s:List Int}:s∈srt l↔s∈l:=by
 unfold srt o_
 rw[List.mem_map]
 constructor
 ·rintro⟨i,hi,rfl⟩
  have hi:i<l.length:=List.mem_range.mp ((HT.gC _ _).mem_iff.mp hi)
  simp[hi]
 ·intro h
  obtain⟨i,hi,e⟩:=List.getElem_of_mem h
  refine⟨i,(HT.gC _ _).mem_iff.mpr (List.mem_range.mpr hi),?_⟩
  simp[hi,e]
theorem oN(l:List (List Int)):(srt l).length=l.length:=by unfold srt o_;rw[List.length_map,(HT.gC _ _).length_eq,List.length_range]
def LL(O:List Int→Bool)(n:Nat):List (List Int):=(subs n).filter (lsB O)
def GG(O:List Int→Bool)(n:Nat):List (List Int):=(subs n).filter (grB O n)
theorem Bs(O:List Int→Bool)(l:List (List Int)):xJ (dd O l)=l.map tu:=by unfold xJ dd;rw[List.map_map];rfl
theorem FY(μ:af)(kts:List (List Int×Bool)):keysAt (.cel μ.length) (μ++[(true,.dtt false kts)])=some (kts,μ++[(false,.dtt true kts)]):=by
 have e:(μ++[(true,T.dtt false kts)])[μ.length]?=some (true,T.dtt false kts):=by simp
 unfold keysAt
 simp only[e]
 simp
theorem FZ(μ:af)(kts:List (List Int×Bool)):keysAt (.cel μ.length) (μ++[(false,.dtt true kts)])=some (kts,μ++[(false,.dtt true kts)]):=by
 have e:(μ++[(false,T.dtt true kts)])[μ.length]?=some (false,T.dtt true kts):=by simp
 unfold keysAt
 simp only[e]
section
variable{p:Int}{w:Nat}{rows:Rows}{n:Nat}
theorem F_(H:Tbl p w rows)(hn:n≤8)(h1:(LL (ow p w rows) n).length<64)(h2:(GG (ow p w rows) n).length<64)(μ:af) :
  dB [some (.val (tb p w rows)),some (.val (.int n)),none,none,none,none] μ=.rt (.box [.inr (μ.length+1),.inr (μ.length+2)]) (μ++[(false,.dtt true (dd (ow p w rows) (subs n))),(true,.lst ((srt (LL (ow p w rows) n)).map li)),(true,.lst ((srt (GG (ow p w rows) n)).map li))]):=by
 have hsm:=nG hn
 have hb:=FU hn (μ++[(true,.dtt false [])])
 obtain⟨x3,hl⟩:=IM H hn μ
 rw[wK,p6]
 unfold kE
 simp?! only[]
 rw[p7,show kF=cf (bX (au (cal bD) [(aa 1)])) (ar 3) opB from rfl]
 simp?! only[hb,hl]
 rw[p8]
 unfold kG
 have hx:rd (μ++[(false,T.dtt true (dd (ow p w rows) (subs n)))]) (.cel μ.length)=some (.dtt true (dd (ow p w rows) (subs n))):=by simp
 have k1:=FY μ (dd (ow p w rows) (subs n))
 have k2:=FZ μ (dd (ow p w rows) (subs n))
 have ls:((subs n).map tu).length≤szL:=by rw[List.length_map];unfold szL;omega
 have fl:∀s,lB (tu s)=some (li s):=λs=>rfl
 have e1:bN (λ_=>True) (ar 0) (au (cal b8) [(aa 1),(aa 0)]) (dUn lB (aa 0)) [none,some (.cel μ.length)] ((subs n).map tu) (μ++[(false,T.dtt true (dd (ow p w rows) (subs n)))])=.ok ((LL (ow p w rows) n).map li) (μ++[(false,T.dtt true (dd (ow p w rows) (subs n)))]):=by
  rw[iP tu (lsB (ow p w rows)) li trivial]
  ·rfl
  ·intro s hs
   have q:=ym hn hx hs
   refine⟨_,rfl,?_,λ_=>?_⟩
   ·simp?! only[q]
   ·simp?! only[fl]
 have e2:bN (λ_=>True) (ar 0) (au (cal br) [(aa 1),(aa 2),(aa 0)]) (dUn lB (aa 0)) [none,some (.cel μ.length),some (.val (.int n))] ((subs n).map tu) (μ++[(false,T.dtt true (dd (ow p w rows) (subs n)))])=.ok ((GG (ow p w rows) n).map li) (μ++[(false,T.dtt true (dd (ow p w rows) (subs n)))]):=by
  rw[iP tu (grB (ow p w rows) n) li trivial]
  ·rfl
  ·intro s hs
   have q:=sW hn hx hs
   refine⟨_,rfl,?_,λ_=>?_⟩
   ·simp?! only[q]
   ·simp?! only[fl]
 simp?! only[uH,k1,Bs,ls,e1]
 rw[p9]
 unfold kH
 simp?! only[uH,k2,Bs,ls,e2]
 rw[p_]
 unfold kI
 have s1:=uT _ h1
 have s2:=uT _ h2
 simp?! only[s1,s2]
 have eb:∀a b:Nat,boxed [.cel a,.cel b]=some [.inr a,.inr b]:=λ_ _=>rfl
 rw[eb,R.aV,R.aZ,R.cp]
 simp only[List.append_assoc,List.cons_append,List.nil_append,List.length_append,List.length_cons,List.length_nil]
theorem Ah(H:Tbl p w rows)(hn:n≤8)(h1:(LL (ow p w rows) n).length<64)(h2:(GG (ow p w rows) n).length<64)(μ:af) :
  bG [.val (tb p w rows),.val (.int n)] μ=.ok (.val (.tup [.lst ((srt (LL (ow p w rows) n)).map li),.lst ((srt (GG (ow p w rows) n)).map li)])) μ:=by
 have h:=F_ H hn h1 h2 μ
 unfold bG
 generalize dB=bd at h
 simp?! only[h]
 simp[ice,frz,kN,vc]
end
theorem T5(l:List (List Int))(n:Nat):i9 (n+1) (l.map li)=true:=by
 rw[nO]
 intro t ht
 obtain⟨s,_,rfl⟩:=List.mem_map.mp ht
 show okT (n+1) (.lst (s.map T.int))=true
 rw[Hl]
 exact uj _ _
section
variable{p:Int}{w:Nat}{rows:Rows}{n:Nat}
end
section
variable{p:Int}{w:Nat}{rows:Rows}{n:Nat}
theorem qq:∀s t,s∈subs n→t∈subs n→(∀x∈s,x∈t)→ow p w rows s=true→ow p w rows t=true:=λs t _ _ h o=>(cK t).mpr (wH h ((cK s).mp o))
theorem Ai(h0:0<n)(hn:n≤8)(F:Fit p w n rows):(LL (ow p w rows) n).length<64∧(GG (ow p w rows) n).length<64:=by
 have e0:[]∈subs n:=aN.mpr ⟨.nil,λ_ h=>(nomatch h)⟩
 have e1:[0]∈subs n:=aN.mpr ⟨List.pairwise_singleton _ _,λx hx=>by rw[List.mem_singleton] at hx;omega⟩
 rcases F with h|h|⟨rfl,W⟩|⟨X,rfl,W⟩
 ·refine⟨few h h0 _ λa b=>?_,few h h0 _ λa b=>?_⟩
  ·have a1:=((ir e0).mp a).2.1
   have b1:=((ir e1).mp b).2.2 0 (by simp)
   have:Sets.less [0] 0=[]:=by simp[Sets.less]
   rw[this,a1] at b1
   cases b1
  ·have a1:=((jK e0).mp a).2.2 0 (by omega) (by simp)
   have b1:=((jK e1).mp b).2.1
   have:more [] 0=[0]:=rfl
   rw[this,b1] at a1
   cases a1
 ·exact⟨CV cK (by omega) _ λs hs q=>(ir hs).mp q,CY cK (by omega) _ λs hs q=>(jK hs).mp q⟩
 ·exact⟨wJ hn _ λs hs q=>C1 W cK ((ir hs).mp q),wJ hn _ λs hs q=>C2 W cK ((jK hs).mp q)⟩
 ·exact⟨wJ hn _ λs hs q=>CZ W cK ((ir hs).mp q),C0 W hn cK _ λs hs q=>(jK hs).mp q⟩
end
end Fw.k33
namespace Fw.Sets
open PySem Fw Fw.H Fw.E Fw.F
theorem Bt{α β:Type}[DecidableEq β](f:α→β)(l:List α)(m:List β)(hd:l.Nodup)(hi:∀x∈l,∀y∈l,f x=f y→x=y)(h:∀x∈l,f x∈m){z:β}(hz:z∈m)(no:∀x∈l,f x≠z):l.length<m.length:=by
 have:=nF (z::l.map f) m (List.nodup_cons.mpr ⟨λq=>by obtain⟨x,hx,e⟩:=List.mem_map.mp q;exact no x hx e,List.pairwise_map.mpr (List.Pairwise.imp_of_mem (λ{a b} ha hb (q:a≠b) e=>q (hi a ha b hb e)) hd)⟩) λy hy=>by
  rcases List.mem_cons.mp hy with rfl|hy
  ·exact hz
  ·obtain⟨x,hx,rfl⟩:=List.mem_map.mp hy
   exact h x hx
 rw[List.length_cons,List.length_map] at this
 omega
section
variable{p:Int}{w n:Nat}{rows:Rows}{O:List Int→Bool}
theorem six{L:List (List Int)}(f:List Int→List Int)(hr:rows.length≤6)(hd:L.Nodup)(hi:∀x∈L,∀y∈L,f x=f y→x=y)(h:∀x∈L,f x∈gF (own n rows))
  (no:∀a∈own n rows,∀s∈L,∀t∈L,f s=[]→f t=[a]→False):L.length<64:=by
 have hb:(gF (own n rows)).length≤64:=by
  rw[kD]
  exact Nat.le_trans (Nat.pow_le_pow_right (by decide) (Nat.le_trans Bp hr)) (by decide)
 cases ho:own n rows with
 | nil =>
  have:=wI f L _ hd hi h
  rw[kD,ho] at this
  have:L.length≤1:=this
  omega
 | cons a r =>
  have ha:a∈own n rows:=by rw[ho];exact List.mem_cons_self
  have m0:[]∈gF (own n rows):=eJ _ _ gG .nil λ_ q=>(nomatch q)
  have m1:[a]∈gF (own n rows):=eJ _ _ gG (List.pairwise_singleton _ _) λx hx=>by rw[List.mem_singleton.mp hx];exact ha
  by_cases h0:∃s∈L,f s=[]
  ·by_cases h1:∃t∈L,f t=[a]
   ·obtain⟨s,s1,s2⟩:=h0
    obtain⟨t,t1,t2⟩:=h1
    exact (no a ha s s1 t t1 s2 t2).elim
   ·exact Nat.lt_of_lt_of_le (Bt f L _ hd hi h m1 λx hx e=>h1 ⟨x,hx,e⟩) hb
  ·exact Nat.lt_of_lt_of_le (Bt f L _ hd hi h m0 λx hx e=>h0 ⟨x,hx,e⟩) hb
theorem uU(hO:∀s,O s=true↔Op p w rows s){s:List Int}(L:kR O n s):∀x∈s,x∈own n rows:=λx hx=>Classical.byContradiction λno=>by
 obtain⟨l1,l2,l3⟩:=L
 have s2:=(aN.mp l1).2
 have e:O (less s x)=O s:=sT hO (oI λy hy=>by
  unfold less
  rw[List.mem_filter]
  refine⟨λq=>q.1,λq=>⟨q,decide_eq_true λe=>?_⟩⟩
  subst e
  exact no (iG.mpr ⟨s2 y q,hy⟩))
 rw[l3 x hx,l2] at e
 cases e
theorem C4(hO:∀s,O s=true↔Op p w rows s)(hr:rows.length≤6)(P:List Int→Bool)(hP:∀s∈subs n,P s=true→kR O n s):((subs n).filter P).length<64:=by
 have hL:∀s∈(subs n).filter P,kR O n s:=λs hs=>hP s (List.mem_filter.mp hs).1 (List.mem_filter.mp hs).2
 refine six (rows:=rows) (n:=n) id hr ((dP n).filter _) (λ_ _ _ _ e=>e) (λs hs=>?_) λa _ s hs t ht e1 e2=>?_
 ·exact eJ _ s gG (aN.mp (hL s hs).1).1 (uU hO (hL s hs))
 ·have e1:s=[]:=e1
  have e2:t=[a]:=e2
  subst e1 e2
  have b:=(hL _ ht).2.2 a (by simp)
  rw[show less [a] a=[] by simp[less],(hL _ hs).2.1] at b
  cases b
theorem Aj(hO:∀s,O s=true↔Op p w rows s):∀s,dX O n s→∀x,0≤x∧x<(n:Int)→x∉own n rows→x∈s:=λs ⟨_,g2,g3⟩ x h0 no=>Classical.byContradiction λq=>by
 have e:O (more s x)=O s:=sT hO (oI λy hy=>by
  rw[jX]
  refine⟨λz=>z.elim id λe=>?_,.inl⟩
  subst e
  exact absurd (iG.mpr ⟨h0,hy⟩) no)
 rw[g3 x h0 q,g2] at e
 cases e
theorem C5(hO:∀s,O s=true↔Op p w rows s)(hr:rows.length≤6)(P:List Int→Bool)(hP:∀s∈subs n,P s=true→dX O n s):((subs n).filter P).length<64:=by
 have idle:=Aj (n:=n) hO
 have hL:∀s∈(subs n).filter P,dX O n s:=λs hs=>hP s (List.mem_filter.mp hs).1 (List.mem_filter.mp hs).2
 refine six (rows:=rows) (n:=n) (λt=>t.filter λx=>decide (x∈own n rows)) hr ((dP n).filter _) (λs hs t ht e=>?_) (λs hs=>?_) λa ha s hs t ht e1 e2=>?_
 ·obtain⟨s1,s2⟩:=aN.mp (hL s hs).1
  obtain⟨t1,t2⟩:=aN.mp (hL t ht).1
  refine iL s1 t1 λx=>?_
  by_cases ho:x∈own n rows
  ·have key:∀u:List Int,x∈u↔x∈u.filter λx=>decide (x∈own n rows):=λu=>by
    rw[List.mem_filter];exact⟨λq=>⟨q,decide_eq_true ho⟩,λq=>q.1⟩
   rw[key s,key t]
   exact Iff.of_eq (congrArg (x∈·) e)
  ·exact⟨λq=>idle t (hL t ht) x (s2 x q) ho,λq=>idle s (hL s hs) x (t2 x q) ho⟩
 ·exact eJ _ _ gG ((aN.mp (hL s hs).1).1.filter _) λx hx=>of_decide_eq_true (List.mem_filter.mp hx).2
 ·have key:∀u:List Int,∀x,x∈own n rows→(x∈u↔x∈u.filter λx=>decide (x∈own n rows)):=λu x ho=>by
   rw[List.mem_filter];exact⟨λq=>⟨q,decide_eq_true ho⟩,λq=>q.1⟩
  have as:a∉s:=λq=>by have:=(key s a ha).mp q;rw[show s.filter (λx=>decide (x∈own n rows))=[] from e1] at this;cases this
  have e:O (more s a)=O t:=sT hO (oI λy ao=>by
   obtain⟨q,hq,ey⟩:=ao
   rw[jX]
   by_cases h0:0≤y∧y<(n:Int)
   ·have ho:y∈own n rows:=iG.mpr ⟨h0,q,hq,ey⟩
    rw[key s y ho,key t y ho,show s.filter (λx=>decide (x∈own n rows))=[] from e1,show t.filter (λx=>decide (x∈own n rows))=[a] from e2,List.mem_singleton]
    exact⟨λz=>z.elim (λz=>(nomatch z)) id,.inr⟩
   ·constructor
    ·rintro (z|rfl)
     ·exact absurd ((aN.mp (hL s hs).1).2 y z) h0
     ·exact absurd (iG.mp ha).1 h0
    ·exact λz=>absurd ((aN.mp (hL t ht).1).2 y z) h0)
  rw[(hL s hs).2.2 a (iG.mp ha).1 as,(hL t ht).2.1] at e
  cases e
theorem IP(hO:∀s,O s=true↔Op p w rows s)(J:List Int)(hJ:∀x,x∈J→∀s,kR O n s→x∉s)(hJ2:∀x,x∉J→(0≤x∧x<(n:Int))→∃s,kR O n s∧x∈s){s:List Int}(hs:s∈subs n):Op p w (rows.filter λq=>decide (q.1∉J)) s↔Op p w rows s:=by
 have e:Op p w (rows.filter λq=>decide (q.1∉J)) s↔Op p w rows (s.filter λx=>decide (x∉J)):=by
  unfold Op
  rw[a_,a_,List.filter_filter]
  have:(rows.filter λq=>decide (q.1∈s) && decide (q.1∉J))=rows.filter λq=>decide (q.1∈s.filter λx=>decide (x∉J)):=List.filter_congr λq _=>by
   rw[Bool.eq_iff_iff,Bool.and_eq_true,decide_eq_true_iff,decide_eq_true_iff,decide_eq_true_iff,List.mem_filter,decide_eq_true_iff]
  rw[this]
 rw[e]
 constructor
 ·exact wH λx hx=>(List.mem_filter.mp hx).1
 ·intro o
  obtain⟨t,t1,t2⟩:=Fl O (n:=n) _ s rfl hs ((hO s).mpr o)
  exact wH (λx hx=>List.mem_filter.mpr ⟨t2 x hx,decide_eq_true λq=>hJ x q t t1 hx⟩) ((hO t).mp t1.2.1)
end
def bs(n k:Nat):List Int:=(bV 0 n).filter λh=>decide ((k:Int) / 2 ^ h.toNat%2=1)
theorem mm{n k:Nat}{x:Int}:x∈bs n k↔(0≤x∧x<(n:Int))∧k.testBit x.toNat=true:=by
 unfold bs
 rw[List.mem_filter,dn,decide_eq_true_iff,Nat.testBit_eq_decide_div_mod_eq,decide_eq_true_iff]
 have e:(k:Int) / 2 ^ x.toNat%2=((k / 2 ^ x.toNat%2:Nat):Int):=by push_cast;rfl
 rw[e]
 omega
theorem C6(n:Nat):(bV 0 n).Pairwise (·<·):=by
 unfold bV
 rw[List.pairwise_map]
 exact List.pairwise_lt_range.imp λh=>by omega
theorem pD(n k:Nat):bs n k∈subs n:=aN.mpr ⟨(C6 n).filter _,λx hx=>(mm.mp hx).1⟩
theorem Ak:∀(n:Nat) (s:List Int),s∈subs n→∃k,k<2 ^ n∧bs n k=s
 | 0,s,h=>by
  have:s=[]:=by simpa [subs] using h
  subst this
  exact⟨0,by decide,rfl⟩
 | n+1,s,h=>by
  have h:s∈subs n++(subs n).map λs=>s++[(n:Int)]:=h
  have up:∀k,((bs (n+1) k).Pairwise (·<·)):=λk=>(aN.mp (pD (n+1) k)).1
  rcases List.mem_append.mp h with h|h
  ·obtain⟨k,hk,e⟩:=Ak n s h
   refine⟨k,by rw[Nat.pow_succ];omega,iL (up k) (aN.mp h).1 λx=>?_⟩
   rw[← e,mm,mm]
   refine⟨λq=>⟨?_,q.2⟩,λq=>⟨by omega,q.2⟩⟩
   refine⟨q.1.1,Classical.byContradiction λz=>?_⟩
   have:x.toNat=n:=by omega
   rw[this,Nat.testBit_lt_two_pow hk] at q
   cases q.2
  ·obtain⟨s',h',rfl⟩:=List.mem_map.mp h
   obtain⟨k,hk,e⟩:=Ak n s' h'
   refine⟨2 ^ n+k,by rw[Nat.pow_succ];omega,iL (up _) (oG (n+1) _ (List.mem_append.mpr (.inr h))).1 λx=>?_⟩
   rw[List.mem_append,List.mem_singleton,← e,mm,mm]
   by_cases hx:x=(n:Int)
   ·subst hx
    refine⟨λ_=>.inr rfl,λ_=>⟨by omega,?_⟩⟩
    rw[Int.toNat_natCast,Nat.testBit_two_pow_add_eq,Nat.testBit_lt_two_pow hk]
    rfl
   ·constructor
    ·intro q
     have:x.toNat<n:=by omega
     rw[Nat.testBit_two_pow_add_gt this] at q
     exact .inl ⟨by omega,q.2⟩
    ·rintro (q|q)
     ·have:x.toNat<n:=by omega
      refine⟨by omega,?_⟩
      rw[Nat.testBit_two_pow_add_gt this]
      exact q.2
     ·exact absurd q hx
theorem IQ{k h:Nat}(hb:k.testBit h=true)(x:Nat):(k-2 ^ h).testBit x=(k.testBit x && decide (x≠h)):=by
 have hd:=Nat.div_add_mod k (2 ^ (h+1))
 have hm:=Nat.mod_lt k (Nat.two_pow_pos (h+1))
 generalize k / 2 ^ (h+1)=q at hd
 generalize k%2 ^ (h+1)=r at hd hm
 have hp:2 ^ (h+1)=2 ^ h+2 ^ h:=by rw[Nat.pow_succ];omega
 have hr:2 ^ h≤r:=Classical.byContradiction λno=>by
  rw[← hd,Nat.testBit_two_pow_mul_add _ hm,if_pos (by omega),Nat.testBit_lt_two_pow (by omega)] at hb
  cases hb
 obtain⟨r',rfl⟩:∃r',r=2 ^ h+r':=⟨r-2 ^ h,by omega⟩
 have e:k-2 ^ h=2 ^ (h+1)*q+r':=by omega
 have hr':r'<2 ^ h:=by omega
 rw[e,← hd,Nat.testBit_two_pow_mul_add _ (show r'<2 ^ (h+1) by omega),Nat.testBit_two_pow_mul_add _ hm]
 by_cases hx:x<h+1
 ·rw[if_pos hx,if_pos hx]
  by_cases hx2:x=h
  ·subst hx2
   rw[Nat.testBit_lt_two_pow hr']
   simp
  ·rw[Nat.testBit_two_pow_add_gt (show x<h by omega)]
   simp[hx2]
 ·rw[if_neg hx,if_neg hx]
  have:x≠h:=by omega
  simp[this]
theorem Bu{n k:Nat}{h:Int}(hm:h∈bs n k):2 ^ h.toNat≤k∧bs n (k-2 ^ h.toNat)=less (bs n k) h:=by
 obtain⟨h0,hb⟩:=mm.mp hm
 refine⟨Nat.ge_two_pow_of_testBit hb,iL (aN.mp (pD _ _)).1 (aN.mp (sN (pD n k) h)).1 λx=>?_⟩
 rw[i8,mm,mm,IQ hb,Bool.and_eq_true,decide_eq_true_iff]
 constructor
 ·rintro⟨a,b,c⟩
  exact⟨⟨a,b⟩,λe=>c (by rw[e])⟩
 ·rintro⟨⟨a,b⟩,c⟩
  exact⟨a,b,λe=>c (by omega)⟩
end Fw.Sets
namespace Fw.J
open PySem Fw Fw.H Fw.E Fw.F
end Fw.J
namespace Fw.K
open PySem Fw Fw.H Fw.E Fw.F Fw.J
def Ga:DS :=
 (aq (sIf (ag fLt (aa 1) (fP (aa 0))) (aC (ax (aa 0) (aa 1))) bB)
 (aq (ay 2 (ag bj (ag aK (aa 1) (dC (.int 48271))) (dC (.int 977))))
 (aq (sIf (ag fGt (fP (aa 0)) (dC (.int 0))) (ay 2 (ag bj (aa 2) (ag aK (ag aP (ax (aa 0) (ag aP (ag aK (aa 1) (dC (.int 3))) (fP (aa 0)))) (dC (.int 2147483647))) (dC (.int 40692))))) bB)
 (aC (ag aP (ag aK (ag aP (ag aK (aa 2) (aa 2)) (dC (.int 2147483629))) (dC (.int 69621))) (dC (.int 2147483587)))))))
def mF:FN:=fnV 3 Ga
theorem Ox{p a b:Int}(hp:p≤97)(h:0≤a∧a<p):aK (.int a) (.int b)=some (.int (a*b)):=iy _ _ (by omega) (by omega)
theorem Gb{k:Int}(h0:0≤k)(h1:k≤1000)(a:Int):-18446744073709551616<k*48271+977+a%2147483647*40692∧k*48271+977+a%2147483647*40692<18446744073709551616:=by omega
theorem C7{k:Int}(h0:0≤k)(h1:k≤1000):-18446744073709551616<k*48271+977∧k*48271+977<18446744073709551616:=by omega
def Gd:DS:=(aC (ag aP (ag aK (ag aP (ag aK (aa 2) (aa 2)) (dC (.int 2147483629))) (dC (.int 69621))) (dC (.int 2147483587))))
theorem yn(ns:T)(k y:Int)(h:-18446744073709551616<y∧y<18446744073709551616)(μ:af):Gd [some (.val ns),some (.val (.int k)),some (.val (.int y))] μ=.rt (.val (.int (y*y%2147483629*69621%2147483587))) μ:=by
 unfold Gd
 have hyy:aK (.int y) (.int y)=some (.int (y*y)):=gH _ _ h.1 h.2
 have m4:∀a,aK (.int a) (.int 69621)=some (.int (a*69621)):=λa=>gH _ _ (by decide) (by decide)
 simp?! only[hyy,m4]
theorem C8:Ga=(aq (sIf (ag fLt (aa 1) (fP (aa 0))) (aC (ax (aa 0) (aa 1))) bB)
 (aq (ay 2 (ag bj (ag aK (aa 1) (dC (.int 48271))) (dC (.int 977))))
 (aq (sIf (ag fGt (fP (aa 0)) (dC (.int 0))) (ay 2 (ag bj (aa 2) (ag aK (ag aP (ax (aa 0) (ag aP (ag aK (aa 1) (dC (.int 3))) (fP (aa 0)))) (dC (.int 2147483647))) (dC (.int 40692))))) bB)
 Gd))):=rfl
theorem mG(ns:List Int)(k:Int)(h0:0≤k)(h1:k≤1000):∃c,∀μ,mF [.val (.lst (ns.map T.int)),.val (.int k)] μ=.ok (.val (.int c)) μ:=by
 unfold mF
 rw[C8]
 have m1:aK (.int k) (.int 48271)=some (.int (k*48271)):=gH _ _ (by decide) (by decide)
 by_cases h:k<ns.length
 ·have hl:decide (k<(ns.length:Int))=true:=decide_eq_true h
  exact⟨_,λμ=>by simp?! only[List.length_map,hl,jb h0 h];rfl⟩
 ·have hl:decide (k<(ns.length:Int))=false:=decide_eq_false h
  by_cases h2:0<ns.length
  ·have hp:(0:Int)<ns.length:=Int.ofNat_lt.mpr h2
   have p1:k*3%(ns.length:Int)<ns.length:=Int.emod_lt_of_pos _ hp
   have n0:decide ((ns.length:Int) > 0)=true:=decide_eq_true hp
   have n0':decide (0<(ns.length:Int))=true:=decide_eq_true hp
   obtain⟨a,ht⟩:∃a,atI (ns.map T.int) (k*3%(ns.length:Int))=some (.int a):=⟨_,jb (xs:=ns) (f:=T.int) (Int.emod_nonneg _ (Int.ne_of_gt hp)) p1⟩
   have m3:aK (.int k) (.int 3)=some (.int (k*3)):=gH _ _ (by decide) (by decide)
   have hmm:aP (.int (k*3)) (.int (ns.length:Int))=some (.int (k*3%(ns.length:Int))):=eV _ _ hp
   have hma:aK (.int (a%2147483647)) (.int 40692)=some (.int (a%2147483647*40692)):=gH _ _ (by decide) (by decide)
   exact⟨_,λμ=>by simp?! only[List.length_map,hl,m1,m3,n0,n0',hmm,ht,hma,yn _ _ _ (Gb h0 h1 a)];rfl⟩
  ·have hp:¬ (0:Int)<ns.length:=λh=>h2 (Int.ofNat_lt.mp h)
   have n0:decide ((ns.length:Int) > 0)=false:=decide_eq_false hp
   have n0':decide (0<(ns.length:Int))=false:=decide_eq_false hp
   exact⟨_,λμ=>by simp?! only[List.length_map,hl,m1,n0,n0',yn _ _ _ (C7 h0 h1)];rfl⟩
def Bv:DS :=
 (aq (ay 2 (ag aP (ag aK (ag bj (ag aP (aa 0) (dC (.int 2147483647))) (dC (.int 1))) (ag bj (dC (.int 48271)) (ag aK (aa 1) (aa 1)))) (dC (.int 2147483629))))
 (aC (ag aP (ag aK (ag aP (ag aK (aa 2) (ag bj (aa 2) (ag aK (dC (.int 977)) (aa 1)))) (dC (.int 2147483587))) (dC (.int 40692))) (dC (.int 2147483399)))))
def sX:FN:=fnV 3 Bv
theorem Ge(c k:Int)(h0:0≤k)(h1:k≤1000):∃d,∀μ,sX [.val (.int c),.val (.int k)] μ=.ok (.val (.int d)) μ:=by
 unfold sX Bv
 have m1:aK (.int k) (.int k)=some (.int (k*k)):=gH _ _ (by omega) (by omega)
 have m2:∀b,aK (.int (c%2147483647+1)) (.int b)=some (.int ((c%2147483647+1)*b)):=λb=>iy _ _ (by omega) (by omega)
 have m3:aK (.int 977) (.int k)=some (.int (977*k)):=iy _ _ (by decide) (by decide)
 have m4:∀a b,aK (.int (a%2147483629)) (.int b)=some (.int (a%2147483629*b)):=λa b=>iy _ _ (by omega) (by omega)
 have m5:∀a,aK (.int (a%2147483587)) (.int 40692)=some (.int (a%2147483587*40692)):=λa=>gH _ _ (by decide) (by decide)
 exact⟨_,λμ=>by simp?! only[m1,m2,m3,m4,m5];rfl⟩
def oO:DS:=(sIf (aa 3) (aq (bo (aa 4) (ag aP (aa 0) (aa 1)))
 (ay 0 (ag d_ (aa 0) (aa 1)))) (bo (aa 4) (ag aP (ag d_ (au (cal sX) [(aa 0),(aa 5)]) (dC (.int 7))) (aa 1))))
def mH:DS :=
 (aq (ay 4 (bp (eS [])))
 (aq (cf (aI (aa 2)) (ar 5) oO)
 (aC (aa 4))))
theorem Am(c base:Int)(n:Nat)(bd:Bool)(hm:0<base)(hm2:base<1000000)(hn:n≤1000)(μ:af) :
  ∃r,mH (starts 6 [.val (.int c),.val (.int base),.val (.int n),.val (.bl bd)]) μ=.rt (.cel μ.length) (μ++[(true,li r)])∧Rw base n r:=by
 have rn:d8 (n:Int)=true:=cN (by omega) (by omega)
 obtain⟨e',μ',h1,x0,x5,r,rfl,rfl,hR⟩:=fB (same:=λ_=>True) (b:=ar 5) (ts:=bC 0 (n:Int).toNat) (body:=oO)
  (I:=λi e μ1=>∃x0 x5 r,e=[some (.val (.int x0)),some (.val (.int base)),some (.val (.int n)),some (.val (.bl bd)),some (.cel μ.length),x5]∧μ1=μ++[(true,li r)]∧Rw base i r)
  (λ_ _ _ _=>trivial) (λi t e μ1 ht ao=>by
   obtain⟨x0,x5,r,he,hμ,hR⟩:=ao
   subst he hμ
   obtain⟨k,rfl,hi,hk⟩:=mB ht
   have hi:i<n:=by simpa using hi
   have hl:(r.map T.int).length<szL:=by have:=hR.1;unfold szL;simp;omega
   generalize hq:(true,li r)=q
   have hls:nR (.cel μ.length) (μ++[q])=some ():=by rw[← hq];exact nX _ _ _ _
   have hap:∀t,appendAt (.cel μ.length) t (μ++[q])=some (μ++[(true,T.lst (r.map T.int++[t]))]):=λt=>by rw[← hq];exact kh _ _ _ _ hl
   have oH:∀a:Int,aP (.int a) (.int base)=some (.int (a%base)):=λa=>eV _ _ (by omega)
   have hdiv:∀a:Int,d_ (.int a) (.int base)=some (.int (a / base)):=λa=>xh _ _ (by omega) (by omega)
   cases bd with
   | true =>
    refine⟨_,_,_,rfl,?_,x0 / base,some (.val (.int k)),r++[x0%base],rfl,rfl,E.Rw.snoc hR (Int.emod_nonneg _ (by omega)) (Int.emod_lt_of_pos _ hm)⟩
    unfold oO
    simp?! only[hls,hap,oH,hdiv]
    simp
   | false =>
    obtain⟨d,hd⟩:=Ge x0 k (by omega) (by omega)
    refine⟨_,_,_,rfl,?_,x0,some (.val (.int k)),r++[d / 7%base],rfl,rfl,E.Rw.snoc hR (Int.emod_nonneg _ (by omega)) (Int.emod_lt_of_pos _ hm)⟩
    unfold oO
    simp?! only[hd,hls,hap,oH]
    simp)
  (e:=[some (.val (.int c)),some (.val (.int base)),some (.val (.int n)),some (.val (.bl bd)),some (.cel μ.length),none]) (μ:=μ++[(true,li [])]) ⟨c,none,[],rfl,rfl,rfl,by simp,by simp⟩
 rw[cH,Int.toNat_natCast] at hR
 refine⟨r,?_,hR⟩
 unfold mH
 simp?! only[rn]
 rw[show (true,T.lst [])=(true,li []) from rfl,h1]
 simp?! only[]
theorem Gg(c base:Int)(n:Nat)(bd:Bool)(hm:0<base)(hm2:base<1000000)(hn:n≤1000)(μ:af) :
  ∃r,fnD 6 mH [.val (.int c),.val (.int base),.val (.int n),.val (.bl bd)] μ=.ok (.cel μ.length) (μ++[(true,li r)])∧Rw base n r:=by
 obtain⟨r,h,hR⟩:=Am c base n bd hm hm2 hn μ
 exact⟨r,by rw[lF,h,AS,FJ],hR⟩
def nH:FN:=fnD 6 mH
def LP:DS:=(jw (ag fLt (fP (aa 10)) (aa 5)) (bo (aa 10) (ag aP (ag aK (ax (aa 10) (dUn xi (dC (.int 1)))) (aa 11)) (aa 2))))
def pE:DS:=(aq (ay 3 (au (cal mF) [(aa 0),(ag bj (ag bj (aa 1) (dC (.int 1))) (aa 9))]))
 (aq (ay 10 (au (cal nH) [(ag d_ (aa 3) (dC (.int 100))),(aa 2),(aa 5),(aa 4)]))
 (aq (sIf (ag fEq (ag aP (ag d_ (aa 3) (dC (.int 10))) (dC (.int 5))) (dC (.int 1))) (aq (ay 11 (ag aP (ag d_ (aa 3) (dC (.int 100))) (aa 2)))
 (aq (ay 10 (bp (eS [(dC (.int 1))])))
 LP)) bB)
 (bo (aa 8) (eU [(ag aP (aa 3) (aa 7)),(dUn b7 (aa 10))])))))
def Bw:DS :=
 (aq (ay 3 (au (cal mF) [(aa 0),(aa 1)]))
 (aq (ay 4 (ag fEq (ag aP (aa 3) (dC (.int 2))) (dC (.int 0))))
 (aq (ay 5 (ag bj (dC (.int 1)) (ag aP (ag d_ (aa 3) (dC (.int 2))) (dC (.int 4)))))
 (aq (ay 6 (ag aP (ag d_ (aa 3) (dC (.int 8))) (dC (.int 7))))
 (aq (ay 7 (ag bj (dC (.int 1)) (ag aP (ag d_ (aa 3) (dC (.int 56))) (dC (.int 5)))))
 (aq (sIf (ag fEq (ag aP (ag d_ (aa 3) (dC (.int 280))) (dC (.int 8))) (dC (.int 5))) (aq (ay 5 (ag bj (aa 5) (dC (.int 2))))
 (ay 6 (ag bj (aa 6) (dC (.int 5))))) bB)
 (aq (ay 8 (bp (eS [])))
 (aq (cf (aI (aa 6)) (ar 9) pE)
 (aC (eU [(aa 2),(aa 5),(dUn b7 (aa 8))]))))))))))
theorem LQ{p x:Int}(hp:2≤p∧p≤97)(hx:0≤x∧x<p)(w:Nat)(hw:0<w∧w≤12)(a0 a1 a3 a4 a6 a7 a8 a9:Option SV)(k:Nat)(μ:af)(h:μ[k]?=some (true,li [1])) :
  ∃l,LP [a0,a1,some (.val (.int p)),a3,a4,some (.val (.int w)),a6,a7,a8,a9,some (.cel k),some (.val (.int x))] μ=.nx [a0,a1,some (.val (.int p)),a3,a4,some (.val (.int w)),a6,a7,a8,a9,some (.cel k),some (.val (.int x))] (μ.set k (true,li l))∧Rw p w l:=by
 have hp0:0<p:=by omega
 have hk:k<μ.length:=(List.getElem?_eq_some_iff.mp h).1
 have oH:∀a:Int,aP (.int a) (.int p)=some (.int (a%p)):=λa=>eV _ _ hp0
 refine q5 (P:=λr=>∃l,r=.nx [a0,a1,some (.val (.int p)),a3,a4,some (.val (.int w)),a6,a7,a8,a9,some (.cel k),some (.val (.int x))] (μ.set k (true,li l))∧Rw p w l) (by rintro⟨l,h,_⟩;cases h)
  (λm e μ1=>∃(l:List Int) (i:Nat),e=[a0,a1,some (.val (.int p)),a3,a4,some (.val (.int w)),a6,a7,a8,a9,some (.cel k),some (.val (.int x))]∧μ1=μ.set k (true,li l)∧Rw p i l∧0<i∧i≤w∧m=w-i) ?_ (w-1) _ μ ⟨[1],1,rfl,?_,⟨rfl,by simp,by simp;omega⟩,by omega,by omega,rfl⟩
 ·rintro m e μ1 ⟨l,i,rfl,rfl,hR,hi0,hiw,rfl⟩
  have hg:(μ.set k (true,li l))[k]?=some (true,li l):=by simp[hk]
  have hlen:mY (μ.set k (true,li l)) (.cel k)=some (.int i):=by
   have h3:rd (μ.set k (true,li l)) (.cel k)=some (li l):=by rw[m9,hg];rfl
   have:=(LI h3).len
   rw[hR.1] at this;exact this
  refine⟨decide ((i:Int)<w),μ.set k (true,li l),by simp?! only[hlen],?_⟩
  by_cases hlt:i<w
  ·rw[if_pos (decide_eq_true (by omega))]
   have BQ:gQ (μ.set k (true,li l)) (.cel k) (.int (-1))=some (.val (.int (g l (i-1)))):=by
    have h3:rd (μ.set k (true,li l)) (.cel k)=some (li l):=by rw[m9,hg];rfl
    rw[Bm h3]
    show (atI (l.map T.int) (-1)).map SV.val=_
    have hl:=hR.1
    have e1:ixN (l.map T.int).length (-1)=some (i-1):=by
     unfold ixN
     rw[List.length_map,hl,if_neg (by omega),if_pos (by omega)]
     congr 1
     omega
    unfold atI
    rw[e1,Option.bind_some,List.getElem?_map,List.getElem?_eq_getElem (by omega),zZ _ _ (by omega)]
    rfl
   have b1:=hR.g0 hp0 (i-1)
   have hmu:aK (.int (g l (i-1))) (.int x)=some (.int (g l (i-1)*x)):=Ox hp.2 b1
   have hls:nR (.cel k) (μ.set k (true,li l))=some ():=qe hg
   have hap:appendAt (.cel k) (.int (g l (i-1)*x%p)) (μ.set k (true,li l))=some (μ.set k (true,li (l++[g l (i-1)*x%p]))):=by
    rw[append_at hg (by rw[List.length_map,hR.1];unfold szL;omega),List.set_set]
    simp[li]
   have eb:(bo (aa 10) (ag aP (ag aK (ax (aa 10) (dUn xi (dC (.int 1)))) (aa 11)) (aa 2))) [a0,a1,some (.val (.int p)),a3,a4,some (.val (.int w)),a6,a7,a8,a9,some (.cel k),some (.val (.int x))] (μ.set k (true,li l))=.nx [a0,a1,some (.val (.int p)),a3,a4,some (.val (.int w)),a6,a7,a8,a9,some (.cel k),some (.val (.int x))] (μ.set k (true,li (l++[g l (i-1)*x%p]))):=by
    simp?! only[hls,BQ,hmu,oH,hap]
   rw[eb,A0]
   exact⟨w-(i+1),Nat.sub_lt_sub_left hlt (Nat.lt_succ_self i),_,i+1,rfl,rfl,E.Rw.snoc hR (Int.emod_nonneg _ (Int.ne_of_gt hp0)) (Int.emod_lt_of_pos _ hp0),Nat.succ_pos i,hlt,rfl⟩
  ·rw[if_neg (by simp;omega)]
   have:i=w:=by omega
   subst this
   exact⟨l,rfl,hR⟩
 ·exact (List.ext_getElem? λj=>by
   by_cases e:k=j
   ·subst e;rw[List.getElem?_set_self hk,h]
   ·rw[List.getElem?_set_ne e])
theorem Gh{α:Type}(M ex:List α)(j:Nat)(v:α)(h:j<M.length):((M++ex).set j v)[j]?=some v∧((M++ex).set j v).take j=M.take j:=by
 refine⟨?_,?_⟩
 ·rw[List.getElem?_set_self (by rw[List.length_append];omega)]
 ·rw[List.take_set_of_le (Nat.le_refl j),List.take_append_of_le_length (Nat.le_of_lt h)]
theorem IS{d mn:Int}(h:0<mn∧mn≤5):0≤d%mn∧d%mn<5 :=
 ⟨Int.emod_nonneg d (by omega),Int.lt_of_lt_of_le (Int.emod_lt_of_pos d h.1) h.2⟩
def LR:DS:=(bo (aa 8) (eU [(ag aP (aa 3) (aa 7)),(dUn b7 (aa 10))]))
theorem uV:pE=(aq (ay 3 (au (cal mF) [(aa 0),(ag bj (ag bj (aa 1) (dC (.int 1))) (aa 9))]))
 (aq (ay 10 (au (cal nH) [(ag d_ (aa 3) (dC (.int 100))),(aa 2),(aa 5),(aa 4)]))
 (aq (sIf (ag fEq (ag aP (ag d_ (aa 3) (dC (.int 10))) (dC (.int 5))) (dC (.int 1))) (aq (ay 11 (ag aP (ag d_ (aa 3) (dC (.int 100))) (aa 2)))
 (aq (ay 10 (bp (eS [(dC (.int 1))])))
 LP)) bB)
 LR))):=rfl
theorem IT(ns:List Int){p mn at_ k:Int}{w j:Nat}(hb:2≤p∧p≤97)(hp0:0<p)(hpz:p≠0)(hp1:p<1000000)(hp3:p<1073741824)(hw:0<w∧w≤12)(hw1:w≤1000)(hmn:0<mn∧mn≤5)(hm3:mn<1073741824)(bd:Bool)(h0:0≤at_+1+k)(h1:at_+1+k≤1000)(ts:List T)(hts:ts.length<szL)(M:af)(hM:M[j]?=some (true,.lst ts))(x3 x6 x10 x11:Option SV) :
  ∃(d:Int) (l:List Int) (c:Nat) (y:Option SV) (ex:af),pE [some (.val (.lst (ns.map T.int))),some (.val (.int at_)),some (.val (.int p)),x3,some (.val (.bl bd)),some (.val (.int w)),x6,some (.val (.int mn)),some (.cel j),some (.val (.int k)),x10,x11] M =
   .nx [some (.val (.lst (ns.map T.int))),some (.val (.int at_)),some (.val (.int p)),some (.val (.int d)),some (.val (.bl bd)),some (.val (.int w)),x6,some (.val (.int mn)),some (.cel j),some (.val (.int k)),some (.cel c),y] ((M++ex).set j (true,.lst (ts++[rt (d%mn,l)])))∧Rw p w l:=by
 obtain⟨d,hd⟩:=mG ns (at_+1+k) h0 h1
 obtain⟨r,hr,hR⟩:=Gg (d / 100) p w bd hp0 hp1 hw1 M
 have hr:nH [.val (.int (d / 100)),.val (.int p),.val (.int w),.val (.bl bd)] M=.ok (.cel M.length) (M++[(true,li r)]):=hr
 have oH:∀a:Int,aP (.int a) (.int p)=some (.int (a%p)):=λa=>eV _ _ hp0
 have Oy:∀a:Int,aP (.int a) (.int mn)=some (.int (a%mn)):=λa=>eV _ _ hmn.1
 have hj:j<M.length:=(List.getElem?_eq_some_iff.mp hM).1
 have key:∀(ex:af) (c:Nat) (l:List Int) (y:Option SV),(M++ex)[c]?=some (true,li l) →
   LR [some (.val (.lst (ns.map T.int))),some (.val (.int at_)),some (.val (.int p)),some (.val (.int d)),some (.val (.bl bd)),some (.val (.int w)),x6,some (.val (.int mn)),some (.cel j),some (.val (.int k)),some (.cel c),y] (M++ex) =
   .nx [some (.val (.lst (ns.map T.int))),some (.val (.int at_)),some (.val (.int p)),some (.val (.int d)),some (.val (.bl bd)),some (.val (.int w)),x6,some (.val (.int mn)),some (.cel j),some (.val (.int k)),some (.cel c),y] ((M++ex).set j (true,.lst (ts++[rt (d%mn,l)]))):=λex c l y hc=>by
  unfold LR
  have g1:(M++ex)[j]?=some (true,T.lst ts):=by rw[List.getElem?_append_left hj];exact hM
  have hls:nR (.cel j) (M++ex)=some ():=qe g1
  have hap:∀t,appendAt (.cel j) t (M++ex)=some ((M++ex).set j (true,T.lst (ts++[t]))):=λt=>append_at g1 hts
  simp?! only[hls,hap,Oy,hc]
  rfl
 cases hz:(d / 10%5==1) with
 | false =>
  refine⟨d,r,M.length,x11,[(true,li r)],?_,hR⟩
  have k1:=key [(true,li r)] M.length r x11 (iz ..)
  rw[uV]
  simp?! only[hd,hr,hz]
  exact k1
 | true =>
  have hN:(M++[(true,li r)]++[(true,li [1])])[(M++[(true,li r)]).length]?=some (true,li [1]):=iz ..
  obtain⟨l,hpw,hRl⟩:=LQ hb ⟨Int.emod_nonneg (d / 100) hpz,Int.emod_lt_of_pos (d / 100) hp0⟩ w hw (some (.val (.lst (ns.map T.int)))) (some (.val (.int at_))) (some (.val (.int d))) (some (.val (.bl bd))) x6 (some (.val (.int mn))) (some (.cel j)) (some (.val (.int k))) (M++[(true,li r)]).length (M++[(true,li r)]++[(true,li [1])]) hN
  have e1:(M++[(true,li r)]++[(true,li [1])]).set (M++[(true,li r)]).length (true,li l)=M++[(true,li r),(true,li l)]:=by rw[vv,List.append_assoc];rfl
  rw[e1] at hpw
  have k1:=key [(true,li r),(true,li l)] (M++[(true,li r)]).length l (some (.val (.int (d / 100%p)))) (by rw[show M++[(true,li r),(true,li l)]=(M++[(true,li r)])++[(true,li l)] from (List.append_assoc M [_] [_]).symm];exact iz ..)
  have l1:T.lst [.int 1]=li [1]:=rfl
  generalize hNN:M++[(true,li r)]=Nn at *
  refine⟨d,l,Nn.length,some (.val (.int (d / 100%p))),[(true,li r),(true,li l)],?_,hRl⟩
  rw[uV]
  simp?! only[hd,hr,hz,oH,l1,hpw]
  exact k1
theorem C9{p:Int}{w:Nat}{rows:Rows}{h:Int}{l:List Int}(h3:∀q∈rows,Rw p w q.2)(h4:∀q∈rows,0≤q.1∧q.1<5)(hl:Rw p w l)(hh:0≤h∧h<5):(∀q∈rows++[(h,l)],Rw p w q.2)∧∀q∈rows++[(h,l)],0≤q.1∧q.1<5:=by
 constructor
 ·intro q hq
  rcases List.mem_append.mp hq with hq|hq
  ·exact h3 q hq
  ·cases List.mem_singleton.mp hq;exact hl
 ·intro q hq
  rcases List.mem_append.mp hq with hq|hq
  ·exact h4 q hq
  ·cases List.mem_singleton.mp hq;exact hh
theorem IU(ns:List Int){p mn at_:Int}{w m:Nat}(hP:lM p)(hw:0<w∧w≤6)(hmn:0<mn∧mn≤5)(hm:m≤11)(ha:0≤at_∧at_≤500)(bd:Bool)(c:Int)(μ:af):∃(rows:Rows),((aq (ay 8 (bp (eS [])))
 (aq (cf (aI (aa 6)) (ar 9) pE)
 (aC (eU [(aa 2),(aa 5),(dUn b7 (aa 8))]))):DS) [some (.val (.lst (ns.map T.int))),some (.val (.int at_)),some (.val (.int p)),some (.val (.int c)),some (.val (.bl bd)),some (.val (.int w)),some (.val (.int m)),some (.val (.int mn)),none,none,none,none] μ).qP μ.length=.ok (.val (tb p w rows)) μ∧Tbl p w rows∧rows.length≤11∧∀q∈rows,0≤q.1∧q.1<5:=by
 have hb:=hP.pos
 have hp0:0<p:=Int.lt_of_lt_of_le (by decide) hb.1
 have rm:d8 (m:Int)=true:=cN (by omega) (by omega)
 have hp0:0<p:=by omega
 have hpz:p≠0:=by omega
 have hp1:p<1000000:=by omega
 have hp3:p<1073741824:=by omega
 have hm3:mn<1073741824:=by omega
 have T6:0<w∧w≤12:=by omega
 have hw1:w≤1000:=by omega
 have hsz:11<szL:=by decide
 obtain⟨e',μ',h1,rows,x3,x9,x10,x11,rfl,g1,g2,h2,h3,h4⟩:=fB (same:=λ_=>True) (b:=ar 9) (ts:=bC 0 (m:Int).toNat) (body:=pE)
  (I:=λi e μ1=>∃(rows:Rows),∃x3 x9 x10 x11,e=[some (.val (.lst (ns.map T.int))),some (.val (.int at_)),some (.val (.int p)),x3,some (.val (.bl bd)),some (.val (.int w)),some (.val (.int m)),some (.val (.int mn)),some (.cel μ.length),x9,x10,x11]∧μ1[μ.length]?=some (true,.lst (rows.map rt))∧μ1.take μ.length=μ∧rows.length=i∧(∀q∈rows,Rw p w q.2)∧∀q∈rows,0≤q.1∧q.1<5)
  (λ_ _ _ _=>trivial) (λi t e μ1 ht hI=>by
   obtain⟨rows,x3,x9,x10,x11,rfl,g1,g2,h2,h3,h4⟩:=hI
   obtain⟨k,rfl,hi,hk⟩:=mB ht
   have hi:i<m:=hi
   obtain⟨d,l,cc,y,ex,hs,hR⟩:=IT (at_:=at_) (k:=k) ns hb hp0 hpz hp1 hp3 T6 hw1 hmn hm3 bd (by omega) (by omega) (rows.map rt) (by rw[List.length_map,h2];exact Nat.lt_of_le_of_lt (by omega) hsz) μ1 g1 x3 (some (.val (.int m))) x10 x11
   have hkp:=Gh μ1 ex μ.length (true,T.lst (rows.map rt++[rt (d%mn,l)])) (List.getElem?_eq_some_iff.mp g1).1
   have hsn:=C9 h3 h4 hR (IS (d:=d) hmn)
   exact⟨_,_,_,rfl,hs,rows++[(d%mn,l)],_,_,_,_,rfl,by rw[hkp.1,List.map_append];rfl,hkp.2.trans g2,by rw[List.length_append,h2];rfl,hsn.1,hsn.2⟩)
  (e:=[some (.val (.lst (ns.map T.int))),some (.val (.int at_)),some (.val (.int p)),some (.val (.int c)),some (.val (.bl bd)),some (.val (.int w)),some (.val (.int m)),some (.val (.int mn)),some (.cel μ.length),none,none,none]) (μ:=μ++[(true,.lst [])]) ⟨[],_,none,none,none,rfl,iz ..,AY ..,rfl,by simp,by simp⟩
 rw[cH,Int.toNat_natCast] at h2
 refine⟨rows,?_,⟨hP,hw.1,by omega,by omega,h3⟩,by omega,h4⟩
 simp?! only[rm,h1,g1,g2]
 rfl
def Gi:DS:=(sIf (ag fEq (ag aP (ag d_ (aa 3) (dC (.int 280))) (dC (.int 8))) (dC (.int 5))) (aq (ay 5 (ag bj (aa 5) (dC (.int 2))))
 (ay 6 (ag bj (aa 6) (dC (.int 5))))) bB)
def LS:DS:=(aq (ay 8 (bp (eS [])))
 (aq (cf (aI (aa 6)) (ar 9) pE)
 (aC (eU [(aa 2),(aa 5),(dUn b7 (aa 8))]))))
theorem An:Bw =
 (aq (ay 3 (au (cal mF) [(aa 0),(aa 1)]))
 (aq (ay 4 (ag fEq (ag aP (aa 3) (dC (.int 2))) (dC (.int 0))))
 (aq (ay 5 (ag bj (dC (.int 1)) (ag aP (ag d_ (aa 3) (dC (.int 2))) (dC (.int 4)))))
 (aq (ay 6 (ag aP (ag d_ (aa 3) (dC (.int 8))) (dC (.int 7))))
 (aq (ay 7 (ag bj (dC (.int 1)) (ag aP (ag d_ (aa 3) (dC (.int 56))) (dC (.int 5)))))
 (aq Gi LS)))))):=rfl
theorem Gj(x0 x1 x2 x4 x7 x8 x9 x10 x11:Option SV)(c:Int)(a b:Nat)(μ:af):∃a' b':Nat,Gi [x0,x1,x2,some (.val (.int c)),x4,some (.val (.int (1+a))),some (.val (.int b)),x7,x8,x9,x10,x11] μ=.nx [x0,x1,x2,some (.val (.int c)),x4,some (.val (.int (1+a':Nat))),some (.val (.int b')),x7,x8,x9,x10,x11] μ∧a'≤a+2∧b'≤b+5:=by
 unfold Gi
 cases hz:(c / 280%8==5) with
 | false=>exact⟨a,b,by simp?! only[hz];rfl,Nat.le_add_right _ _,Nat.le_add_right _ _⟩
 | true=>exact⟨a+2,b+5,by simp?! only[hz];rfl,Nat.le_refl _,Nat.le_refl _⟩
theorem sY(ns:List Int){p:Int}(hP:lM p)(at_:Int)(ha:0≤at_∧at_≤500)(μ:af) :
  ∃(w:Nat) (rows:Rows),fnV 12 Bw [.val (.lst (ns.map T.int)),.val (.int at_),.val (.int p)] μ=.ok (.val (tb p w rows)) μ∧Tbl p w rows∧w≤6∧rows.length≤11∧∀q∈rows,0≤q.1∧q.1<5:=by
 obtain⟨c,hc⟩:=mG ns at_ ha.1 (Int.le_trans ha.2 (by decide))
 generalize hbd:(c%2==0)=bd
 obtain⟨mn,hmn,T7⟩:∃mn:Int,1+c / 56%5=mn∧0<mn∧mn≤5:=⟨_,rfl,by omega⟩
 obtain⟨a,ha1,ha2⟩:=toNat_mod (c / 2) 4 (by decide)
 obtain⟨b,hb1,hb2⟩:=toNat_mod (c / 8) 7 (by decide)
 obtain⟨a',b',hif,ha3,hb3⟩:=Gj (some (.val (.lst (ns.map T.int)))) (some (.val (.int at_))) (some (.val (.int p))) (some (.val (.bl bd))) (some (.val (.int mn))) none none none none c a b μ
 obtain⟨rows,k1,k2,k3,k4⟩:=IU (w:=1+a') (m:=b') ns hP (by omega) T7 (by omega) ha bd c μ
 refine⟨1+a',rows,?_,k2,by omega,k3,k4⟩
 rw[An]
 simp?! only[hc,hbd,ha1,hb1,hmn,hif]
 exact k1
def b_p:DS :=
 (aC (ax (eS [(dC (.int 2)),(dC (.int 3)),(dC (.int 5)),(dC (.int 7)),(dC (.int 11)),(dC (.int 13)),(dC (.int 2)),(dC (.int 97))]) (ag aP (aa 0) (dC (.int 8)))))
theorem LU(c:Int):∃p,lM p∧∀μ,fnV 1 b_p [.val (.int c)] μ=.ok (.val (.int p)) μ:=by
 have h0:=Int.emod_nonneg c (show (8:Int)≠0 by omega)
 have h1:=Int.emod_lt_of_pos c (show (0:Int)<8 by omega)
 have key:∀x∈([2,3,5,7,11,13,2,97]:List Int),x∈([2,3,5,7,11,13,17,19,23,29,31,37,41,43,47,53,59,61,67,71,73,79,83,89,97]:List Int):=by decide +kernel
 have e:=jb (xs:=([2,3,5,7,11,13,2,97]:List Int)) (f:=T.int) (i:=c%8) h0 (by show c%8<(8:Nat);omega)
 refine⟨_,key _ (List.getElem_mem (by show (c%8).toNat<8;omega)),λμ=>?_⟩
 unfold b_p
 simp only[List.map_cons,List.map_nil] at e
 simp?! only[e]
theorem IV(i k:Int)(h0:0≤k)(h1:k≤64):mJ (.int i) (.int k)=some (.int (i / 2 ^ k.toNat)):=if_pos ⟨h0,h1⟩
def Ao:DS :=
 (aC (aH (aI (fP (ax (aa 0) (dC (.int 2))))) [none,some 1,some 0] (ar 0) (ag fIn (ax (ax (ax (aa 2) (dC (.int 2))) (aa 0)) (dC (.int 0))) (aa 1)) (aa 0)))
theorem wD{p:Int}{w:Nat}{rows:Rows}(hn:rows.length≤24)(aX:List Int)(y:SV)(μ:af)(h2:rd μ y=some (li aX)) :
  fnV 2 Ao [.val (tb p w rows),y] μ=.ok (.val (li (nums (rowsOf rows aX)))) μ:=by
 have T8:(List.map rt rows).length=rows.length:=List.length_map ..
 have rn:d8 (rows.length:Int)=true:=cN (by omega) (by omega)
 have ln:(bC 0 (rows.length:Int).toNat).length≤szL:=by rw[cH];unfold szL;omega
 have e12:bN (λ_=>True) (ar 0) (ag fIn (ax (ax (ax (aa 2) (dC (.int 2))) (aa 0)) (dC (.int 0))) (aa 1)) (aa 0) [none,some y,some (.val (.tup [.int p,.int w,.tup (rows.map rt)]))] (bC 0 (rows.length:Int).toNat) μ=.ok ((nums (rowsOf rows aX)).map T.int) μ:=by
  have e0:bC 0 (rows.length:Int).toNat=(List.range rows.length).map λ(i:Nat)=>T.int (i:Int):=by rw[eW,uO,Int.toNat_natCast,List.map_map];rfl
  rw[e0,iP (λ(i:Nat)=>T.int (i:Int)) (λi=>decide ((dg rows i).1∈aX)) (λ(i:Nat)=>T.int (i:Int)) trivial]
  ·rw[← wG];rfl
  ·intro i hi
   have hi:=List.mem_range.mp hi
   have a1:atI (rows.map rt) (i:Int)=some (rt (dg rows i)):=by
    rw[jb (by omega) (by omega)]
    simp[dg,hi]
   refine⟨_,rfl,?_,λ_=>?_⟩
   ·simp?! only[a1,rt,h2,xD]
   ·simp?! only[]
 unfold Ao tb
 simp?! only[T8,rn,ln,e12]
theorem Gk{p:Int}{w:Nat}{l:List Int}(hR:Rw p w l)(hp:p≤97)(fs:List Int)(S:af→Prop)(μ:af)(hS:S μ) :
  bN S (ee [0,1]) (dC (.bl true)) (ag aK (aa 0) (aa 1)) [none,none] (jL (l.map T.int) (fs.map T.int)) μ=.ok ((l.zip fs).map λq=>T.int (q.1*q.2)) μ:=by
 rw[oW,dy _ (λq:Int×Int=>.int (q.1*q.2)) hS]
 rintro⟨a,b⟩ hq
 have hm:=(List.of_mem_zip hq).1
 have b0:=hR.2 a hm
 have b1:=hR.3 a hm
 have:aK (.int a) (.int b)=some (.int (a*b)):=iy _ _ (by omega) (by omega)
 refine⟨_,gA 0 1 _ _ _,?_⟩
 simp?! only[this]
def Bx:DS :=
 (aC (mX (dIs .int (aa 0)) (mX (eR (dIs .bool (aa 0))) (qM fLe fLt (dC (.int 0)) (aa 0) (aa 1)))))
def mq:FN:=fnV 2 Bx
theorem Gm{p k:Int}(h0:0≤k)(h1:k<p)(μ:af):mq [.val (.int k),.val (.int p)] μ=.ok (.val (.bl true)) μ:=by
 unfold mq Bx
 simp[isK,h0,h1]
theorem Gn{p:Int}{n:Nat}{r:List Int}(h:Rw p n r)(S:af→Prop)(μ:af)(hS:S μ) :
  bN S (ar 0) (dC (.bl true)) (au (cal mq) [(aa 0),(aa 1)]) [none,some (.val (.int p))] (r.map T.int) μ=.ok (r.map λ_=>T.bl true) μ:=by
 rw[iJ (λ_=>T.bl true) hS]
 intro k hk
 have:=Gm (p:=p) (h.2 k hk) (h.3 k hk) μ
 refine⟨_,rfl,?_⟩
 simp?! only[this]
theorem all_true(r:List Int):mZ (.lst (r.map λ_=>T.bl true))=some (.bl true):=by
 rw[qY (λ_=>true)]
 simp
def yo:DS:=(aq (ay 7 (dUn qL (aH (tG (aa 1) (aa 2)) [none,none,some 6,some 5] (ee [0,1]) (dC (.bl true)) (ag aK (aa 1) (ax (ax (ax (aa 3) (aa 0)) (dC (.int 1))) (aa 2))))))
 (sIf (ag fNe (ag aP (aa 7) (aa 3)) (dUn vw (ag fEq (aa 6) (dC (.int 0))))) (aC (dC (.bl false))) bB))
def pF:DS :=
 (aq (xE [3,4,5] (aa 0))
 (aq (sIf (dOr (eR (dIs .list (aa 2))) (ag fNe (fP (aa 2)) (fP (aa 1)))) (aC (dC (.bl false))) bB)
 (aq (sIf (eR (dUn mZ (aH (bX (aa 2)) [none,some 3] (ar 0) (dC (.bl true)) (au (cal mq) [(aa 0),(aa 1)])))) (aC (dC (.bl false))) bB)
 (aq (cf (aI (aa 4)) (ar 6) yo)
 (aC (dC (.bl true)))))))
theorem By(rows:Rows)(j:Nat):∀(is:List Nat) (ms:List Int),ms.length=is.length→(((nums is).zip ms).map λq=>q.2*g (dg rows q.1.toNat).2 j).sum=dot ms (col (linesAt rows is) j)
 | [],[],_=>rfl
 | [],_::_,h=>by simp at h
 | _::_,[],h=>by simp at h
 | i::is,m::ms,h=>by
  have:=By rows j is ms (by simpa using h)
  unfold nums linesAt col at this ⊢
  simp only[List.map_cons,List.zip_cons_cons,List.sum_cons,dot,this,Int.toNat_natCast]
theorem LV{p:Int}(hp:1<p){w j:Nat}{a:Int}(h:p ∣ a-g (eu w 0) j):a%p=g (eu w 0) j:=by
 obtain⟨t,ht⟩:=h
 have hb:=(JE hp w 0).g0 (by omega) j
 rw[show a=g (eu w 0) j+p*t by omega,Int.add_mul_emod_self_left,Int.emod_eq_of_lt hb.1 hb.2]
theorem T9(w j:Nat)(hw:0<w):g (eu w 0) j=if (j:Int)=0 then 1 else 0:=by
 rw[Bo w hw]
 cases j with
 | zero=>rfl
 | succ j =>
  rw[eT,if_neg (by omega)]
  unfold g
  by_cases h:j<w-1<;>simp[h]
theorem yp{is:List Nat}{k:Int}(h:k∈nums is):∃i∈is,k=(i:Int):=by
 obtain⟨i,hi,rfl⟩:=List.mem_map.mp h
 exact⟨i,hi,rfl⟩
section
variable{p:Int}{w:Nat}{rows:Rows}{is:List Nat}
theorem Gp(hi:∀i∈is,i<rows.length){k:Int}(hk:k∈nums is):atI (rows.map rt) k=some (rt (dg rows k.toNat))∧k.toNat<rows.length:=by
 obtain⟨i,hm,rfl⟩:=yp hk
 have hlt:=hi i hm
 refine⟨?_,by omega⟩
 rw[jb (by omega) (by omega)]
 simp[dg,hlt]
theorem Ap(H:Tbl p w rows)(hi:∀i∈is,i<rows.length)(hn:is.length≤24){ms:List Int}(hm:Rw p is.length ms)(h1:∀j,j<w→p ∣ dot ms (col (linesAt rows is) j)-g (eu w 0) j)(y:SV)(μ:af)(hy:Sq μ y ms)(his:isS .list μ y=some (.bl true)) :
  fnV 8 pF [.val (tb p w rows),.val (li (nums is)),y] μ=.ok (.val (.bl true)) μ:=by
 have hb:=H.pr.pos
 have hp0:0<p:=Int.lt_of_lt_of_le (by decide) hb.1
 have hw:=H.w1
 have hw0:=H.w0
 have hlen:=hy.len
 rw[hm.1] at hlen
 have ln:(nums is).length=is.length:=by unfold nums;rw[List.length_map]
 have oH:∀a:Int,aP (.int a) (.int p)=some (.int (a%p)):=λa=>eV _ _ (by lia)
 have rw_:d8 (w:Int)=true:=cN (by omega) (by omega)
 have lm:ms.length≤szL:=by rw[hm.1];unfold szL;omega
 have wh:=λS hS=>Gn hm S μ hS
 have hit:=hy.it
 obtain⟨e',μ',hf,x6,x7,rfl,rfl⟩:=fB (same:=λ_=>True) (b:=ar 6) (ts:=bC 0 (w:Int).toNat) (body:=yo)
  (I:=λi e μ1=>∃x6 x7,e=[some (.val (tb p w rows)),some (.val (li (nums is))),some y,some (.val (.int p)),some (.val (.int w)),some (.val (.tup (rows.map rt))),x6,x7]∧μ=μ1)
  (λ_ _ _ _=>trivial) (λj t e μ1 ht ao=>by
   obtain⟨x6,x7,he,hμ⟩:=ao
   subst he hμ
   obtain⟨k,rfl,hj,hk⟩:=mB ht
   have hj:j<w:=by simpa using hj
   have ek:k=(j:Int):=by omega
   subst ek
   have ez:∀S:af→Prop,S μ→bN S (ee [0,1]) (dC (.bl true)) (ag aK (aa 1) (ax (ax (ax (aa 3) (aa 0)) (dC (.int 1))) (aa 2))) [none,none,some (.val (.int j)),some (.val (.tup (rows.map rt)))] (jL ((nums is).map T.int) (ms.map T.int)) μ=.ok (((nums is).zip ms).map λq=>T.int (q.2*g (dg rows q.1.toNat).2 j)) μ:=λS hS=>by
    rw[oW,dy _ (λq:Int×Int=>T.int (q.2*g (dg rows q.1.toNat).2 j)) hS]
    rintro⟨a,b⟩ hq
    obtain⟨m1,m2⟩:=List.of_mem_zip hq
    obtain⟨a1,a2⟩:=Gp hi m1
    have hR:=qm H a2
    have b0:=hm.2 b m2
    have b1:=hm.3 b m2
    have a3:atI ((dg rows a.toNat).2.map T.int) (j:Int)=some (.int (g (dg rows a.toNat).2 j)):=by rw[atg (by lia) (by rw[hR.1];omega),Int.toNat_natCast]
    have hmu:aK (.int b) (.int (g (dg rows a.toNat).2 j))=some (.int (b*g (dg rows a.toNat).2 j)):=Ox hb.2 ⟨b0,b1⟩
    refine⟨_,gA 0 1 _ _ _,?_⟩
    simp?! only[a1,rt,a3,hmu]
   have lz:(jL ((nums is).map T.int) (ms.map T.int)).length≤szL:=by rw[qZ,List.length_map,ln];unfold szL;omega
   have hs:qL (.lst (((nums is).zip ms).map λq=>T.int (q.2*g (dg rows q.1.toNat).2 j)))=some (.int (dot ms (col (linesAt rows is) j))):=by rw[xB,By rows j is ms hm.1]
   have Oz:=LV (by lia) (h1 j hj)
   rw[T9 w j hw0] at Oz
   have hne:fNe (.int (if (j:Int)=0 then 1 else 0)) (.int (if ((j:Int)==0)=true then 1 else 0))=some (.bl false):=by
    rw[vh]
    by_cases h:(j:Int)=0<;>simp[h]
   refine⟨_,_,_,rfl,?_,some (.val (.int j)),some (.val (.int (dot ms (col (linesAt rows is) j)))),rfl,rfl⟩
   unfold yo
   simp?! only[hit]
   rw[ez _ (by simp)]
   simp?! only[lz,hs,oH,Oz,hne])
  (e:=[some (.val (tb p w rows)),some (.val (li (nums is))),some y,some (.val (.int p)),some (.val (.int w)),some (.val (.tup (rows.map rt))),none,none]) (μ:=μ) ⟨none,none,rfl,rfl⟩
 unfold pF
 have s0:(xE [3,4,5] (aa 0)) (starts 8 [.val (tb p w rows),.val (li (nums is)),y]) μ=.nx [some (.val (tb p w rows)),some (.val (li (nums is))),some y,some (.val (.int p)),some (.val (.int w)),some (.val (.tup (rows.map rt))),none,none] μ:=by
  unfold tb
  simp?! only[]
 rw[fQ,gI,s0,RS.h_]
 have fin:((cf (aI (aa 4)) (ar 6) yo) [some (.val (tb p w rows)),some (.val (li (nums is))),some y,some (.val (.int p)),some (.val (.int w)),some (.val (.tup (rows.map rt))),none,none] μ)=.nx [some (.val (tb p w rows)),some (.val (li (nums is))),some y,some (.val (.int p)),some (.val (.int w)),some (.val (.tup (rows.map rt))),x6,x7] μ:=by
  simp?! only[rw_,hf]
 simp?! only[qK,his,hlen,List.length_map,ln,hit]
 rw[wh _ (by simp)]
 have fin2:forL (λ_=>True) (ar 6) yo (bC 0 (w:Int).toNat) [some (.val (tb p w rows)),some (.val (li (nums is))),some y,some (.val (.int p)),some (.val (.int w)),some (.val (.tup (rows.map rt))),none,none] μ=.nx [some (.val (tb p w rows)),some (.val (li (nums is))),some y,some (.val (.int p)),some (.val (.int w)),some (.val (.tup (rows.map rt))),x6,x7] μ:=hf
 simp?! only[List.length_map,lm,all_true,rw_,fin2]
def pG:DS :=
 (aq (xE [3,4,5] (aa 0))
 (aq (sIf (dOr (eR (dIs .tuple (aa 2))) (dOr (ag fNe (fP (aa 2)) (aa 4)) (eR (dUn mZ (aH (bX (aa 2)) [none,some 3] (ar 0) (dC (.bl true)) (au (cal mq) [(aa 0),(aa 1)])))))) (aC (dC (.bl false))) bB)
 (aq (sIf (ag fNe (ax (aa 2) (dC (.int 0))) (dC (.int 1))) (aC (dC (.bl false))) bB)
 (aC (dUn mZ (aH (bX (aa 1)) [none,some 3,some 2,some 5] (ar 0) (dC (.bl true)) (ag fEq (ag aP (dUn qL (aH (tG (ax (ax (aa 3) (aa 0)) (dC (.int 1))) (aa 2)) [none,none] (ee [0,1]) (dC (.bl true)) (ag aK (aa 0) (aa 1)))) (aa 1)) (dC (.int 0)))))))))
theorem Aq(H:Tbl p w rows)(hi:∀i∈is,i<rows.length)(hn:is.length≤24){tv:List Int}(ht:Rw p w tv)(h1:∀l∈linesAt rows is,p ∣ dot l tv)(h2:g tv 0=1)(μ:af) :
  fnV 6 pG [.val (tb p w rows),.val (li (nums is)),.val (tu tv)] μ=.ok (.val (.bl true)) μ:=by
 have hb:=H.pr.pos
 have hp0:0<p:=Int.lt_of_lt_of_le (by decide) hb.1
 have hw:=H.w1
 have hw0:=H.w0
 have oH:∀a:Int,aP (.int a) (.int p)=some (.int (a%p)):=λa=>eV _ _ (by lia)
 have it:isT .tuple (tu tv)=some (.bl true):=rfl
 have i0:atI (tv.map T.int) 0=some (.int 1):=by rw[atg (by lia) (by rw[ht.1];omega)];rw[show (0:Int).toNat=0 from rfl,h2]
 have ln:(tv.map T.int).length=w:=by rw[List.length_map,ht.1]
 have lm:(tv.map T.int).length≤szL:=by rw[ln];unfold szL;omega
 have wh:=Gn ht (λ_=>True) μ trivial
 have lw:w≤szL:=by unfold szL;omega
 have ec:bN (λ_=>True) (ar 0) (dC (.bl true)) (ag fEq (ag aP (dUn qL (aH (tG (ax (ax (aa 3) (aa 0)) (dC (.int 1))) (aa 2)) [none,none] (ee [0,1]) (dC (.bl true)) (ag aK (aa 0) (aa 1)))) (aa 1)) (dC (.int 0))) [none,some (.val (.int p)),some (.val (tu tv)),some (.val (.tup (rows.map rt)))] ((nums is).map T.int) μ=.ok ((nums is).map λ_=>T.bl true) μ:=by
  rw[iJ (λ_=>T.bl true) trivial]
  intro k hk
  obtain⟨a1,a2⟩:=Gp hi hk
  have hR:=qm H a2
  have hz:=Gk hR hb.2 tv (λ_=>True) μ trivial
  have hlw:(dg rows k.toNat).2.length=w:=hR.1
  have ls:(jL ((dg rows k.toNat).2.map T.int) (tv.map T.int)).length≤szL:=by rw[qZ,List.length_map];unfold szL;omega
  have hd:dot (dg rows k.toNat).2 tv%p=0:=by
   obtain⟨i,hm,rfl⟩:=yp hk
   rw[Int.toNat_natCast]
   exact Int.emod_eq_zero_of_dvd (h1 _ (List.mem_map.mpr ⟨i,hm,rfl⟩))
  have hs:qL (.lst (((dg rows k.toNat).2.zip tv).map λq=>T.int (q.1*q.2)))=some (.int (dot (dg rows k.toNat).2 tv)):=by rw[xB,IH]
  refine⟨_,rfl,?_⟩
  simp?! only[a1,rt,and_self]
  rw[hz]
  simp?! only[ls,hs,oH,hd]
 have ls:((nums is).map T.int).length≤szL:=by unfold nums;rw[List.length_map,List.length_map];unfold szL;omega
 unfold pG
 have s0:(xE [3,4,5] (aa 0)) (starts 6 [.val (tb p w rows),.val (li (nums is)),.val (tu tv)]) μ=.nx [some (.val (tb p w rows)),some (.val (li (nums is))),some (.val (tu tv)),some (.val (.int p)),some (.val (.int w)),some (.val (.tup (rows.map rt)))] μ:=by
  unfold tb
  simp?! only[]
 rw[fQ,gI,s0,RS.h_]
 simp?! only[qK,Hs,it,ln,wh,lw,all_true,i0,ec,ls]
end
inductive Told(p:Int)(w:Nat)(lines:List (List Int))(μ:af)(x:SV):Prop where
 | opn (y:SV) (ms:List Int) (h0:gQ μ x (.int 0)=some (.val (.str "open"))) (h1:gQ μ x (.int 1)=some y) (hy:Sq μ y ms) (his:isS .list μ y=some (.bl true)) (hm:Rw p lines.length ms) (h:∀j,j<w→p ∣ dot ms (col lines j)-g (eu w 0) j)
 | t6 (tv:List Int) (h0:gQ μ x (.int 0)=some (.val (.str "shut"))) (h1:gQ μ x (.int 1)=some (.val (tu tv))) (ht:Rw p w tv) (hs:∀l∈lines,p ∣ dot l tv) (h2:g tv 0=1)
theorem Af:(("open":Str)=="open")=true:=by decide +kernel
theorem Bq:(("shut":Str)=="open")=false:=by decide +kernel
def Bz:FN:=fnV 2 Ao
def sZ:FN:=fnV 8 pF
def s_:FN:=fnV 6 pG
def oP:DS :=
 (aq (sIf (dOr (eR (dIs .tuple (aa 2))) (ag fNe (fP (aa 2)) (dC (.int 2)))) (aC (dC (.bl false))) bB)
 (aq (ay 3 (au (cal Bz) [(aa 0),(aa 1)]))
 (aq (sIf (ag fEq (ax (aa 2) (dC (.int 0))) (dC (.str "open"))) (aC (au (cal sZ) [(aa 0),(aa 3),(ax (aa 2) (dC (.int 1)))])) bB)
 (aC (mX (ag fEq (ax (aa 2) (dC (.int 0))) (dC (.str "shut"))) (au (cal s_) [(aa 0),(aa 3),(ax (aa 2) (dC (.int 1)))]))))))
theorem C_(rows:Rows)(is:List Nat):(linesAt rows is).length=is.length:=by unfold linesAt;rw[List.length_map]
theorem gO{p:Int}{w:Nat}{rows:Rows}(H:Tbl p w rows)(aX:List Int)(x:SV)(μ:af)(hx:Told p w (linesAt rows (rowsOf rows aX)) μ x)(hlen:mY μ x=some (.int 2))(his:isS .tuple μ x=some (.bl true)) :
  fnV 4 oP [.val (tb p w rows),.val (li aX),x] μ=.ok (.val (.bl true)) μ:=by
 have hn:=H.n
 have hr:Bz [.val (tb p w rows),.val (li aX)] μ=.ok (.val (li (nums (rowsOf rows aX)))) μ:=wD hn aX (.val (li aX)) μ rfl
 have hlt:∀i∈rowsOf rows aX,i<rows.length:=pw
 have h24:(rowsOf rows aX).length≤24:=Nat.le_trans (sS rows aX) hn
 unfold oP
 simp?! only[qK,his,hlen,hr]
 cases hx with
 | opn y ms h0 h1 hy T_ hm h =>
  rw[C_] at hm
  have ho:sZ [.val (tb p w rows),.val (li (nums (rowsOf rows aX))),y] μ=.ok (.val (.bl true)) μ:=Ap H hlt h24 hm h y μ hy T_
  simp?! only[h0,h1,ho]
 | t6 tv h0 h1 ht hs h2 =>
  have ho:s_ [.val (tb p w rows),.val (li (nums (rowsOf rows aX))),.val (tu tv)] μ=.ok (.val (.bl true)) μ:=Aq H hlt h24 ht hs h2 μ
  simp?! only[h0,h1,Bq,ho]
end Fw.K
namespace Fw.k82
open PySem Fw Fw.H Fw.E Fw.F Fw.Sets
open Fw.k33 (ow cK qq LL GG lsB grB ir jK srt jt oN sV)
theorem mG(ns:List Int)(k:Int)(h0:0≤k)(h1:k≤1000):∃c,∀μ,bg [.val (.lst (ns.map T.int)),.val (.int k)] μ=.ok (.val (.int c)) μ:=K.mG ns k h0 h1
theorem LU(c:Int):∃p,lM p∧∀μ,jN [.val (.int c)] μ=.ok (.val (.int p)) μ:=K.LU c
theorem sY(ns:List Int){p:Int}(hP:lM p)(at_:Int)(ha:0≤at_∧at_≤500)(μ:af) :
  ∃(w:Nat) (rows:Rows),e8 [.val (.lst (ns.map T.int)),.val (.int at_),.val (.int p)] μ=.ok (.val (tb p w rows)) μ∧Tbl p w rows∧w≤6∧rows.length≤11∧∀q∈rows,0≤q.1∧q.1<5:=K.sY ns hP at_ ha μ
theorem IW:bD=k33.bD:=rfl
theorem Gq:bQ=k33.bQ:=rfl
theorem IX:b8=k33.b8:=rfl
theorem Ar:br=k33.br:=rfl
theorem LW:bG=k33.bG:=by
 unfold bG k33.bG dB k33.dB
 rw[IW,Gq,IX,Ar]
theorem Ah{p:Int}{w:Nat}{rows:Rows}{n:Nat}(H:Tbl p w rows)(hn:n≤8)(h1:(LL (ow p w rows) n).length<64)(h2:(GG (ow p w rows) n).length<64)(μ:af) :
  bG [.val (tb p w rows),.val (.int n)] μ=.ok (.val (.tup [.lst ((srt (LL (ow p w rows) n)).map li),.lst ((srt (GG (ow p w rows) n)).map li)])) μ:=by
 rw[LW];exact k33.Ah H hn h1 h2 μ
theorem gO{p:Int}{w:Nat}{rows:Rows}(H:Tbl p w rows)(aX:List Int)(x:SV)(μ:af)(hx:K.Told p w (linesAt rows (rowsOf rows aX)) μ x)(hlen:mY μ x=some (.int 2))(his:isS .tuple μ x=some (.bl true)) :
  bI [.val (tb p w rows),.val (li aX),x] μ=.ok (.val (.bl true)) μ:=K.gO H aX x μ hx hlen his
theorem wL{p:Int}{w:Nat}{rows:Rows}(H:Tbl p w rows)(s:List Int)(μ:af):∃a t,ck [.val (tb p w rows),.val (li s)] μ=.ok (.val (.tup [.str a,t])) μ∧(a=="open")=ow p w rows s ∧
  bI [.val (tb p w rows),.val (li s),.val (.tup [.str a,t])] μ=.ok (.val (.bl true)) μ:=by
 have i0:∀(x t:T) (μ:af),gQ μ (.val (.tup [x,t])) (.int 0)=some (.val x):=λ_ _ _=>rfl
 have i1:∀(x t:T) (μ:af),gQ μ (.val (.tup [x,t])) (.int 1)=some (.val t):=λ_ _ _=>rfl
 rcases F.FL H s (.val (li s)) μ rfl with ⟨tv,h1,h2,h3,h4⟩|⟨ms,h1,h2,h3⟩
 ·refine⟨_,_,h1,?_,gO H s _ μ (.t6 tv (i0 _ _ _) (i1 _ _ _) h2 h3 h4) rfl rfl⟩
  rw[K.Bq]
  cases e:ow p w rows s with
  | true=>exact absurd ((cK s).mp e) (oJ H h3 h4)
  | false=>rfl
 ·refine⟨_,_,h1,?_,gO H s _ μ (.opn (.val (li ms)) ms (i0 _ _ _) (i1 _ _ _) (Ow _ _) rfl h2 h3) rfl rfl⟩
  rw[K.Af]
  exact ((cK s).mpr ⟨ms,h2.1,h3⟩).symm
def Gr:DS:=(sIf (dOr (ag fLt (aa 1) (dC (.int 6))) (ag fLt (aa 3) (dC (.int 6)))) (bo (aa 2) (eU [(ag aP (ag bj (ax (ax (ax (aa 0) (dC (.int 2))) (aa 3)) (dC (.int 0))) (ag aK (ag aK (dC (.int 3)) (aa 3)) (dUn vw (ag fGt (aa 1) (dC (.int 5)))))) (aa 1)),(ax (ax (ax (aa 0) (dC (.int 2))) (aa 3)) (dC (.int 1)))])) bB)
theorem Dc{p:Int}{w:Nat}{rows:Rows}(H:Tbl p w rows)(n:Nat)(hn:0<n∧n≤8)(μ:af):∃fO:Rows,dA [.val (tb p w rows),.val (.int n)] μ=.ok (.val (tb p w fO)) μ∧Tbl p w fO∧(n≤5∨fO.length≤6)∧∀q∈fO,0≤q.1∧q.1<(n:Int):=by
 have Ui:=H.n
 have rw_:d8 (rows.length:Int)=true:=cN (by omega) (by omega)
 obtain⟨e',M',hf,fO,x3,rfl,rfl,h2,h3,h4,h5⟩:=fB (same:=λ_=>True) (b:=ar 3) (ts:=bC 0 (rows.length:Int).toNat) (body:=Gr)
  (I:=λi e M=>∃(fO:Rows) (x3:Option SV),e=[some (.val (tb p w rows)),some (.val (.int n)),some (.cel μ.length),x3]∧M=μ++[(true,.lst (fO.map rt))]∧fO.length≤i∧(n≤5∨fO.length≤6)∧(∀q∈fO,Rw p w q.2)∧∀q∈fO,0≤q.1∧q.1<(n:Int))
  (λ_ _ _ _=>trivial) (λi t e M ht ao=>by
   obtain⟨fO,x3,he,hM,h2,h3,h4,h5⟩:=ao
   subst he hM
   obtain⟨k,rfl,hi,hk⟩:=mB ht
   have hi:i<rows.length:=by simpa using hi
   have hk:k=(i:Int):=by omega
   subst hk
   have at1:atI (rows.map rt) (i:Int)=some (rt (dg rows i)):=by
    rw[jb (by omega) (by omega)]
    simp[dg,hi]
   have f3:aK (.int 3) (.int (i:Int))=some (.int (3*(i:Int))):=iy _ _ (by decide) (by decide)
   have f4:∀a:Int,0≤a∧a≤1→aK (.int (3*(i:Int))) (.int a)=some (.int (3*(i:Int)*a)):=λa ha=>gH _ _ (by omega) (by omega)
   have hmo:∀a,aP (.int a) (.int (n:Int))=some (.int (a%n)):=λa=>eV _ _ (by omega)
   have hls:nR (.cel μ.length) (μ++[(true,.lst (fO.map rt))])=some ():=nX _ _ _ _
   have hap:∀t,appendAt (.cel μ.length) t (μ++[(true,.lst (fO.map rt))])=some (μ++[(true,.lst (fO.map rt++[t]))]):=λt=>kh _ _ _ _ (by rw[List.length_map];unfold szL;omega)
   have fin:∀a:Int,(n≤5∨i<6)→∃mr:Rows,mr.map rt=fO.map rt++[T.tup [.int (a%n),tu (dg rows i).2]]∧mr.length≤i+1∧(n≤5∨mr.length≤6)∧(∀q∈mr,Rw p w q.2)∧∀q∈mr,0≤q.1∧q.1<(n:Int):=λa hc=>by
    refine⟨fO++[(a%n,(dg rows i).2)],by simp[rt],by simp;omega,by simp;omega,?_,?_⟩
    ·intro q hq
     rcases List.mem_append.mp hq with hq|hq
     ·exact h4 q hq
     ·simp at hq;subst hq;exact qm H hi
    ·intro q hq
     rcases List.mem_append.mp hq with hq|hq
     ·exact h5 q hq
     ·simp at hq;subst hq;exact⟨Int.emod_nonneg _ (by omega),Int.emod_lt_of_pos _ (by omega)⟩
   have ei:∀b,vw (.bl b)=some (.int (if b=true then 1 else 0)):=λb=>by cases b<;>rfl
   cases hq:decide ((n:Int)<6) with
   | true =>
    have hn6:=of_decide_eq_true hq
    have f5:=f4 (if decide ((5:Int)<(n:Int))=true then 1 else 0) (by split<;>omega)
    obtain⟨mr,g1,g2,g3,g4,g5⟩:=fin ((dg rows i).1+3*(i:Int)*(if decide ((5:Int)<(n:Int))=true then 1 else 0)) (.inl (by omega))
    refine⟨_,_,μ++[(true,.lst (mr.map rt))],rfl,?_,mr,some (.val (.int (i:Int))),rfl,rfl,g2,g3,g4,g5⟩
    unfold Gr tb
    simp?! only[hq,at1,rt,f3,ei,f5,hmo,hls,hap]
    rw[g1]
   | false =>
    cases hq2:decide ((i:Int)<6) with
    | true =>
     have hi6:=of_decide_eq_true hq2
     have f5:=f4 (if decide ((5:Int)<(n:Int))=true then 1 else 0) (by split<;>omega)
     obtain⟨mr,g1,g2,g3,g4,g5⟩:=fin ((dg rows i).1+3*(i:Int)*(if decide ((5:Int)<(n:Int))=true then 1 else 0)) (.inr (by omega))
     refine⟨_,_,μ++[(true,.lst (mr.map rt))],rfl,?_,mr,some (.val (.int (i:Int))),rfl,rfl,g2,g3,g4,g5⟩
     unfold Gr tb
     simp?! only[hq,hq2,at1,rt,f3,ei,f5,hmo,hls,hap]
     rw[g1]
    | false =>
     refine⟨_,_,μ++[(true,.lst (fO.map rt))],rfl,?_,fO,some (.val (.int (i:Int))),rfl,rfl,by omega,h3,h4,h5⟩
     unfold Gr
     simp?! only[hq,hq2])
  (e:=[some (.val (tb p w rows)),some (.val (.int n)),some (.cel μ.length),none]) (μ:=μ++[(true,.lst [])]) ⟨[],none,rfl,rfl,Nat.le_refl _,.inr (by decide),by simp,by simp⟩
 rw[cH,Int.toNat_natCast] at h2
 rw[Int.toNat_natCast] at hf
 refine⟨fO,?_,⟨H.pr,H.w0,H.w1,by omega,h4⟩,h3,h5⟩
 have ltb:mY (μ++[(true,.lst [])]) (.val (.tup (rows.map rt)))=some (.int rows.length):=by rw[xm,List.length_map]
 unfold dA
 rw[fQ,xQ,rS]
 unfold lT
 simp?! only[]
 rw[rT,show lU=cf (aI (fP (ax (aa 0) (dC (.int 2))))) (ar 3) Gr from rfl]
 have it:gQ (μ++[(true,.lst [])]) (.val (tb p w rows)) (.int 2)=some (.val (.tup (rows.map rt))):=rfl
 simp?! only[it,ltb,rw_,Int.toNat_natCast,hf]
 rw[rV]
 unfold lV tb
 simp?! only[iz,AY]
open Fw.k33 (ow cK qq LL GG lsB grB ir jK srt jt oN sV)
def wk(O:List Int→Bool)(n m:Nat):List (Key×T):=(List.range m).map λ(k:Nat)=>(Sum.inl (k:Int),T.bl (O (bs n k)))
theorem BA(O:List Int→Bool)(n m:Nat):wk O n (m+1)=wk O n m++[(Sum.inl (m:Int),T.bl (O (bs n m)))]:=by simp[wk,List.range_succ]
theorem LX(O:List Int→Bool)(n m:Nat):(wk O n m).length=m:=by simp[wk]
theorem LY(O:List Int→Bool)(n m:Nat):q_ (wk O n m) (.inl (m:Int)) (.bl (O (bs n m)))=wk O n (m+1):=by
 unfold q_
 rw[if_neg,BA]
 intro e
 obtain⟨kv,h1,h2⟩:=List.any_eq_true.mp e
 obtain⟨k,h3,rfl⟩:=List.mem_map.mp h1
 have h3:=List.mem_range.mp h3
 have h2:(Sum.inl (k:Int):Key)=.inl (m:Int):=of_decide_eq_true h2
 have:=Sum.inl.inj h2
 omega
theorem As(O:List Int→Bool)(n:Nat):∀(m k:Nat),k<m→lK (wk O n m) (.inl (k:Int))=some (.bl (O (bs n k)))
 | 0,k,h=>by omega
 | m+1,k,h=>by
  rw[BA]
  unfold lK
  rw[List.find?_append]
  by_cases e:k<m
  ·have:=As O n m k e
   unfold lK at this
   obtain⟨q,h1,h2⟩:=Option.map_eq_some_iff.mp this
   rw[h1]
   show (some q).map (·.2)=_
   rw[Option.map_some,h2]
  ·have e:k=m:=by omega
   subst e
   have:((wk O n k).find? λkv=>decide (kv.1=(.inl (k:Int):Key)))=none:=List.find?_eq_none.mpr λkv h1 h2=>by
    obtain⟨j,h3,rfl⟩:=List.mem_map.mp h1
    have h3:=List.mem_range.mp h3
    have h2:(Sum.inl (j:Int):Key)=.inl (k:Int):=of_decide_eq_true h2
    have:=Sum.inl.inj h2
    omega
   rw[this]
   simp
theorem Gs(O:List Int→Bool){n m k:Nat}(h:k<m):iu (.dct (wk O n m)) (.int (k:Int))=some (.bl (O (bs n k))):=by
 rw[uA];exact As O n m k h
theorem LZ{n:Nat}(h:n≤8):2 ^ n≤256:=Nat.le_trans (Nat.pow_le_pow_right (by decide) h) (by decide)
theorem Gu{n:Nat}(h:n≤8):qI (.int 1) (.int (n:Int))=some (.int ((2 ^ n:Nat):Int)):=by
 have e:qI (.int 1) (.int (n:Int))=some (.int (1*2 ^ (n:Int).toNat)):=if_pos ⟨by omega,by omega⟩
 rw[e,Int.toNat_natCast,Int.one_mul]
 congr 2
theorem Gv(k:Nat){h:Int}(h0:0≤h)(h1:h≤64)(e:Slots)(μ:af)(dk dh:D)(hk:dk e μ=.ok (.val (.int (k:Int))) μ)(hh:dh e μ=.ok (.val (.int h)) μ) :
  (ag fEq (ag ef (ag mJ dk dh) (dC (.int 1))) (dC (.int 1))) e μ=.ok (.val (.bl (decide ((k:Int) / 2 ^ h.toNat%2=1)))) μ:=by
 have f1:=K.IV (k:Int) h h0 h1
 have f2:=y_ ((k:Int) / 2 ^ h.toNat)
 simp?! only[hk,hh,f1,f2]
 congr 3
theorem IY{n k:Nat}(hn:n≤8)(μ:af):bN (λ_=>True) (ar 0) (ag fEq (ag ef (ag mJ (aa 1) (aa 0)) (dC (.int 1))) (dC (.int 1))) (aa 0) [none,some (.val (.int (k:Int)))] (bC 0 n) μ=.ok ((bs n k).map T.int) μ:=by
 rw[eW,fJ (λh=>decide ((k:Int) / 2 ^ h.toNat%2=1)) T.int trivial (bV 0 n)]
 ·rfl
 ·intro h hm
  have h0:=dn.mp hm
  exact⟨_,rfl,Gv k (by omega) (by omega) _ μ _ _ rfl rfl,λ_=>rfl⟩
def wdB:DS:=(aq (ay 4 (aH (aI (aa 1)) [none,some 3] (ar 0) (ag fEq (ag ef (ag mJ (aa 1) (aa 0)) (dC (.int 1))) (dC (.int 1))) (aa 0)))
 (aq (ay 5 (au (cal ck) [(aa 0),(aa 4)]))
 (aq (sIf (eR (au (cal bI) [(aa 0),(aa 4),(aa 5)])) (aC (dC (.non))) bB)
 (jM 2 (aa 3) (ag fEq (ax (aa 5) (dC (.int 0))) (dC (.str "open")))))))
theorem yq{p:Int}{w:Nat}{rows:Rows}(H:Tbl p w rows){n:Nat}(hn:n≤8)(μ:af):cB [.val (tb p w rows),.val (.int n)] μ=.ok (.val (.dct (wk (ow p w rows) n (2 ^ n)))) μ:=by
 have h8:=LZ hn
 have sh:=Gu hn
 have rwn:d8 (n:Int)=true:=cN (by omega) (by omega)
 have lsn:(bC 0 n).length≤szL:=by rw[cH];unfold szL;omega
 generalize hN:2 ^ n=N at h8 sh ⊢
 have rw_:d8 (N:Int)=true:=cN (by omega) (by omega)
 obtain⟨e',M',hf,x3,x4,x5,rfl,rfl⟩:=fB (same:=λ_=>True) (b:=ar 3) (ts:=bC 0 (N:Int).toNat) (body:=wdB)
  (I:=λi e M=>∃x3 x4 x5,e=[some (.val (tb p w rows)),some (.val (.int n)),some (.cel μ.length),x3,x4,x5]∧M=μ++[(true,.dct (wk (ow p w rows) n i))])
  (λ_ _ _ _=>trivial) (λi t e M ht ao=>by
   obtain⟨x3,x4,x5,he,hM⟩:=ao
   subst he hM
   obtain⟨k,rfl,hi,hk⟩:=mB ht
   have hi:i<N:=by simpa using hi
   have hk:k=(i:Int):=by omega
   subst hk
   have ec:=IY (n:=n) (k:=i) hn (μ++[(true,.dct (wk (ow p w rows) n i))])
   obtain⟨a,t,h1,h2,h3⟩:=wL H (bs n i) (μ++[(true,.dct (wk (ow p w rows) n i))])
   have hp:=oX (μ:=μ++[(true,.dct (wk (ow p w rows) n i))]) (c:=μ.length) (kts:=wk (ow p w rows) n i) (i:=(i:Int)) (t:=.bl (ow p w rows (bs n i))) (by simp) (by rw[LX];unfold szL;omega)
   rw[LY] at hp
   rw[show (μ++[(true,T.dct (wk (ow p w rows) n i))]).set μ.length (true,.dct (wk (ow p w rows) n (i+1)))=μ++[(true,.dct (wk (ow p w rows) n (i+1)))] by simp] at hp
   have lb:T.lst ((bs n i).map T.int)=li (bs n i):=rfl
   refine⟨_,_,μ++[(true,.dct (wk (ow p w rows) n (i+1)))],rfl,?_,some (.val (.int (i:Int))),some (.val (li (bs n i))),some (.val (.tup [.str a,t])),rfl,rfl⟩
   unfold wdB
   simp?! only[rwn,Int.toNat_natCast,lsn,ec,lb,h1,h3,h2,hp])
  (e:=[some (.val (tb p w rows)),some (.val (.int n)),some (.cel μ.length),none,none,none]) (μ:=μ++[(true,.dct [])]) ⟨none,none,none,rfl,rfl⟩
 rw[cH,Int.toNat_natCast] at hf
 unfold cB
 rw[fQ,zr,tK]
 unfold ni
 simp?! only[]
 rw[tL,show nj=cf (aI (ag qI (dC (.int 1)) (aa 1))) (ar 3) wdB from rfl]
 simp?! only[sh,rw_,Int.toNat_natCast,hf]
 rw[tM]
 unfold nq
 simp?! only[wF]
def lsN(O:List Int→Bool)(n m:Nat):List Nat:=(List.range m).filter λk=>lsB O (bs n k)
theorem Gw(O:List Int→Bool)(n m:Nat):lsN O n (m+1)=if lsB O (bs n m)=true then lsN O n m++[m] else lsN O n m:=by
 unfold lsN
 rw[List.range_succ,List.filter_append]
 cases q:lsB O (bs n m)<;>simp[q]
theorem Gx{n k:Nat}(hn:n≤8)(M:af):bN (λ_=>True) (ar 0) (ag fEq (ag ef (ag mJ (aa 1) (aa 0)) (dC (.int 1))) (dC (.int 1))) (ag qH (aa 1) (ag qI (dC (.int 1)) (aa 0))) [none,some (.val (.int (k:Int)))] (bC 0 n) M=.ok ((bs n k).map λh=>T.int (((k-2 ^ h.toNat:Nat)):Int)) M:=by
 rw[eW,fJ (λh=>decide ((k:Int) / 2 ^ h.toNat%2=1)) (λh=>T.int (((k-2 ^ h.toNat:Nat)):Int)) trivial (bV 0 n)]
 ·rfl
 ·intro h hm
  have h0:=dn.mp hm
  refine⟨[some (.val (.int h)),some (.val (.int (k:Int)))],rfl,Gv k (by omega) (by omega) _ M _ _ rfl rfl,λhq=>?_⟩
  have hmb:h∈bs n k:=List.mem_filter.mpr ⟨hm,hq⟩
  have sh:=Gu (n:=h.toNat) (by omega)
  rw[show ((h.toNat:Nat):Int)=h by omega] at sh
  have hle:=(Bu hmb).1
  generalize 2 ^ h.toNat=P at sh hle ⊢
  have fs:qH (.int (k:Int)) (.int (P:Int))=some (.int ((k-P:Nat):Int)):=by rw[xg];congr 2;omega
  simp?! only[sh,fs]
def lsS:DS:=(aq (ay 4 (aH (aI (aa 1)) [none,some 3] (ar 0) (ag fEq (ag ef (ag mJ (aa 1) (aa 0)) (dC (.int 1))) (dC (.int 1))) (ag qH (aa 1) (ag qI (dC (.int 1)) (aa 0)))))
 (sIf (mX (ag iu (aa 0) (aa 3)) (eR (dUn lD (aH (bX (aa 4)) [none,some 0] (ar 0) (dC (.bl true)) (ag iu (aa 1) (aa 0)))))) (bo (aa 2) (aa 3)) bB))
theorem Gy(O:List Int→Bool){n:Nat}(hn:n≤8)(μ:af):d0 [.val (.dct (wk O n (2 ^ n))),.val (.int n)] μ=.ok (.val (li ((lsN O n (2 ^ n)).map Int.ofNat))) μ:=by
 have h8:=LZ hn
 have rwn:d8 (n:Int)=true:=cN (by omega) (by omega)
 have lsn:(bC 0 n).length≤szL:=by rw[cH];unfold szL;omega
 generalize hN:2 ^ n=N at h8 ⊢
 have hkd:rN (wk O n N)=(List.range N).map λ(k:Nat)=>T.int (k:Int):=by
  unfold rN wk
  rw[List.map_map]
  rfl
 obtain⟨e',M',hf,x3,x4,rfl,rfl⟩:=fB (same:=λ_=>True) (b:=ar 3) (ts:=(List.range N).map λ(k:Nat)=>T.int (k:Int)) (body:=lsS)
  (I:=λi e M=>∃x3 x4,e=[some (.val (.dct (wk O n N))),some (.val (.int n)),some (.cel μ.length),x3,x4]∧M=μ++[(true,li ((lsN O n i).map Int.ofNat))])
  (λ_ _ _ _=>trivial) (λi t e M ht ao=>by
   obtain⟨x3,x4,he,hM⟩:=ao
   subst he hM
   rw[List.getElem?_map] at ht
   obtain⟨k,hk,rfl⟩:=Option.map_eq_some_iff.mp ht
   have hi:i<N:=by have:=(List.getElem?_eq_some_iff.mp hk).1;simpa using this
   have hk:k=i:=by rw[List.getElem?_range hi] at hk;exact (Option.some.inj hk).symm
   subst hk
   have e1:=λM=>Gx (k:=k) hn M
   have e2:∀M,bN (λ_=>True) (ar 0) (dC (.bl true)) (ag iu (aa 1) (aa 0)) [none,some (.val (.dct (wk O n N)))] ((bs n k).map λh=>T.int (((k-2 ^ h.toNat:Nat)):Int)) M=.ok ((bs n k).map λh=>T.bl (O (less (bs n k) h))) M:=λM=>by
    rw[dy (λh=>T.int (((k-2 ^ h.toNat:Nat)):Int)) (λh=>T.bl (O (less (bs n k) h))) trivial]
    intro h hm
    have hle:=Bu hm
    have g1:=Gs O (n:=n) (m:=N) (k:=k-2 ^ h.toNat) (Nat.lt_of_le_of_lt (Nat.sub_le _ _) hi)
    rw[hle.2] at g1
    refine⟨_,rfl,?_⟩
    simp?! only[g1]
   have l4:((bs n k).map λh=>T.int (((k-2 ^ h.toNat:Nat)):Int)).length≤szL:=by
    rw[List.length_map]
    have:=sub_len (pD n k)
    unfold szL;omega
   have fa:=lJ (λh=>O (less (bs n k) h)) (bs n k)
   have g0:=Gs O (n:=n) (m:=N) hi
   have hls:nR (.cel μ.length) (μ++[(true,li ((lsN O n k).map Int.ofNat))])=some ():=nX _ _ _ _
   have hln:(lsN O n k).length≤k:=Nat.le_trans (List.length_filter_le _ _) (by simp)
   have hap:=kh μ [] (((lsN O n k).map Int.ofNat).map T.int) (.int (k:Int)) (by rw[List.length_map,List.length_map];unfold szL;omega)
   have hap:appendAt (.cel μ.length) (.int (k:Int)) (μ++[(true,li ((lsN O n k).map Int.ofNat))])=some (μ++[(true,.lst (((lsN O n k).map Int.ofNat).map T.int++[.int (k:Int)]))]):=hap
   refine⟨_,_,μ++[(true,li ((lsN O n (k+1)).map Int.ofNat))],rfl,?_,some (.val (.int (k:Int))),some (.val (.lst ((bs n k).map λh=>T.int (((k-2 ^ h.toNat:Nat)):Int)))),rfl,rfl⟩
   rw[Gw]
   unfold lsS lsB
   cases ho:O (bs n k) with
   | false =>
    rw[ho] at g0
    simp?! only[rwn,Int.toNat_natCast,lsn,e1,g0]
    rfl
   | true =>
    rw[ho] at g0
    cases ha:(bs n k).any λh=>O (less (bs n k) h) with
    | true =>
     rw[ha] at fa
     simp?! only[rwn,Int.toNat_natCast,lsn,e1,g0,l4,e2,fa]
     rfl
    | false =>
     rw[ha] at fa
     simp?! only[rwn,Int.toNat_natCast,lsn,e1,g0,l4,e2,fa,hls,hap]
     simp[li])
  (e:=[some (.val (.dct (wk O n N))),some (.val (.int n)),some (.cel μ.length),none,none]) (μ:=μ++[(true,.lst [])]) ⟨none,none,rfl,rfl⟩
 rw[List.length_map,List.length_range] at hf
 have hd:asD (.dct (wk O n N))=some (wk O n N):=rfl
 unfold d0
 rw[fQ,zt,tN]
 unfold ny
 simp?! only[]
 rw[tO,show nz=cf (rO (aa 0)) (ar 3) lsS from rfl]
 simp?! only[Cr,hd,hkd,hf]
 rw[tP]
 unfold nA
 simp?! only[wF]
open Fw.k33 (ow cK qq LL GG lsB grB ir jK srt jt oN sV)
def J(O:List Int→Bool)(n:Nat):List Int:=(bV 0 n).filter λh=>!((srt (LL O n)).any λs=>decide (h∈s))
theorem Gz{O:List Int→Bool}{n:Nat}{h:Int}:h∈J O n↔(0≤h∧h<(n:Int))∧∀s,kR O n s→h∉s:=by
 unfold J
 rw[List.mem_filter,dn,Bool.not_eq_true',List.any_eq_false]
 constructor
 ·rintro⟨a,b⟩
  refine⟨by omega,λs L q=>b s (jt.mpr (List.mem_filter.mpr ⟨L.1,(ir L.1).mpr L⟩)) (decide_eq_true q)⟩
 ·rintro⟨a,b⟩
  refine⟨by omega,λs hs q=>?_⟩
  obtain⟨h1,h2⟩:=List.mem_filter.mp (jt.mp hs)
  exact b s ((ir h1).mp h2) (of_decide_eq_true q)
theorem OA(O:List Int→Bool)(n:Nat):(J O n).length≤n:=Nat.le_trans (List.length_filter_le _ _) (by simp[bV])
theorem GA(h:Int)(s:List Int):fIn (.int h) (li s)=some (.bl (decide (h∈s))):=by
 unfold fIn li
 simp only[eK,eX,Bool.and_true,lL]
 rfl
section
variable{p:Int}{w:Nat}{rows:Rows}{n:Nat}
theorem Ai(h0:0<n)(hn:n≤8)(h:n≤5∨rows.length≤6):(LL (ow p w rows) n).length<64∧(GG (ow p w rows) n).length<64:=by
 rcases h with h|h
 ·exact k33.Ai h0 hn (.inl (by omega))
 ·exact⟨C4 cK h _ λs hs q=>(ir hs).mp q,C5 cK h _ λs hs q=>(jK hs).mp q⟩
theorem BB(H:Tbl p w rows)(hn:n≤8)(h1:(LL (ow p w rows) n).length<64)(h2:(GG (ow p w rows) n).length<64)(μ:af) :
  pd [some (.val (tb p w rows)),some (.val (.int n)),none] μ=.rt (.cel μ.length) (μ++[(true,li (J (ow p w rows) n))]):=by
 have rwn:d8 (n:Int)=true:=cN (by omega) (by omega)
 have lsn:(bC 0 n).length≤szL:=by rw[cH];unfold szL;omega
 have ho:=Ah H hn h1 h2 μ
 have ll:((srt (LL (ow p w rows) n)).map li).length≤szL:=by rw[List.length_map,oN];unfold szL;omega
 have ec:bN (λ_=>True) (ar 0) (eR (dUn lD (aH (bX (aa 1)) [none,some 0] (ar 0) (dC (.bl true)) (ag fIn (aa 1) (aa 0))))) (aa 0) [none,some (.val (.lst ((srt (LL (ow p w rows) n)).map li)))] (bC 0 n) μ=.ok ((J (ow p w rows) n).map T.int) μ:=by
  rw[eW,fJ (λh=>!((srt (LL (ow p w rows) n)).any λs=>decide (h∈s))) T.int trivial (bV 0 n)]
  ·rfl
  ·intro h hm
   have e2:bN (λ_=>True) (ar 0) (dC (.bl true)) (ag fIn (aa 1) (aa 0)) [none,some (.val (.int h))] ((srt (LL (ow p w rows) n)).map li) μ=.ok ((srt (LL (ow p w rows) n)).map λs=>T.bl (decide (h∈s))) μ:=by
    rw[dy li (λs=>T.bl (decide (h∈s))) trivial]
    intro s hs
    have f1:=GA h s
    refine⟨_,rfl,?_⟩
    simp?! only[f1]
   have fa:=lJ (λs:List Int=>decide (h∈s)) (srt (LL (ow p w rows) n))
   refine⟨_,rfl,?_,λ_=>rfl⟩
   simp?! only[ll,e2,fa]
 unfold pd
 simp?! only[ho,rwn,Int.toNat_natCast,lsn,ec]
theorem L0(H:Tbl p w rows)(hn:n≤8)(h1:(LL (ow p w rows) n).length<64)(h2:(GG (ow p w rows) n).length<64)(μ:af) :
  mE [.val (tb p w rows),.val (.int n)] μ=.ok (.cel μ.length) (μ++[(true,li (J (ow p w rows) n))]):=by
 have h:=BB H hn h1 h2 μ
 unfold mE
 generalize pd=bd at h
 simp?! only[h,FJ]
theorem GB(H:Tbl p w rows)(hn:n≤8)(h1:(LL (ow p w rows) n).length<64)(h2:(GG (ow p w rows) n).length<64)(μ:af) :
  ji [.val (tb p w rows),.val (.int n)] μ=.ok (.val (li (J (ow p w rows) n))) μ:=by
 have h:=BB H hn h1 h2 μ
 unfold ji
 generalize pd=bd at h
 simp?! only[h,wF]
theorem uW(rows:Rows)(Js:List Int)(μ:af):bN (λ_=>True) (ar 0) (ag nZ (ax (aa 0) (dC (.int 0))) (aa 1)) (aa 0) [none,some (.val (li Js))] (rows.map rt) μ=.ok ((rows.filter λq=>decide (q.1∉Js)).map rt) μ:=by
 rw[iP rt (λq=>decide (q.1∉Js)) rt trivial]
 intro q hq
 have f1:=sV q.1 Js
 refine⟨_,rfl,?_,λ_=>rfl⟩
 unfold rt
 simp?! only[f1]
theorem Au(H:Tbl p w rows)(hn:n≤8)(h1:(LL (ow p w rows) n).length<64)(h2:(GG (ow p w rows) n).length<64)(μ:af) :
  gE [.val (tb p w rows),.val (.int n)] μ=.ok (.val (tb p w (rows.filter λq=>decide (q.1∉J (ow p w rows) n)))) μ:=by
 have hr:=H.n
 have hi:=GB H hn h1 h2 μ
 have ec:=uW rows (J (ow p w rows) n) μ
 have lr:(rows.map rt).length≤szL:=by rw[List.length_map];unfold szL;omega
 have i0:gQ μ (.val (tb p w rows)) (.int 0)=some (.val (.int p)):=rfl
 have i1:gQ μ (.val (tb p w rows)) (.int 1)=some (.val (.int w)):=rfl
 have i2:gQ μ (.val (tb p w rows)) (.int 2)=some (.val (.tup (rows.map rt))):=rfl
 unfold gE uJ
 simp?! only[hi,i0,i1,i2,lr,ec]
 rfl
end
theorem IZ(O:List Int→Bool){n:Nat}{h:Int}(h0:0≤h∧h<(n:Int)):((lsN O n (2 ^ n)).any λk=>decide ((k:Int) / 2 ^ h.toNat%2=1))=(srt (LL O n)).any λs=>decide (h∈s):=by
 have hb:∀k:Nat,decide ((k:Int) / 2 ^ h.toNat%2=1)=true↔h∈bs n k:=λk=>by
  unfold bs
  rw[List.mem_filter,dn]
  exact⟨λq=>⟨by omega,q⟩,λq=>q.2⟩
 rw[Bool.eq_iff_iff,List.any_eq_true,List.any_eq_true]
 constructor
 ·rintro⟨k,h1,h2⟩
  refine⟨bs n k,jt.mpr (List.mem_filter.mpr ⟨pD n k,(List.mem_filter.mp h1).2⟩),decide_eq_true ((hb k).mp h2)⟩
 ·rintro⟨s,h1,h2⟩
  obtain⟨h3,h4⟩:=List.mem_filter.mp (jt.mp h1)
  obtain⟨k,hk,rfl⟩:=Ak n s h3
  exact⟨k,List.mem_filter.mpr ⟨List.mem_range.mpr hk,h4⟩,(hb k).mpr (of_decide_eq_true h2)⟩
theorem L1(O:List Int→Bool)(n m:Nat):(lsN O n m).length≤m:=Nat.le_trans (List.length_filter_le _ _) (by simp)
theorem GC(O:List Int→Bool){n:Nat}(hn:n≤8)(μ:af):bN (λ_=>True) (ar 0) (eR (dUn lD (aH (bX (aa 1)) [none,some 0] (ar 0) (dC (.bl true)) (ag fEq (ag ef (ag mJ (aa 0) (aa 1)) (dC (.int 1))) (dC (.int 1)))))) (aa 0) [none,some (.val (li ((lsN O n (2 ^ n)).map Int.ofNat)))] (bC 0 n) μ=.ok ((J O n).map T.int) μ:=by
 have h8:=LZ hn
 have hl:=L1 O n (2 ^ n)
 have da:=λh h0=>IZ O (n:=n) (h:=h) h0
 generalize lsN O n (2 ^ n)=ks at hl da
 rw[eW,fJ (λh=>!((srt (LL O n)).any λs=>decide (h∈s))) T.int trivial (bV 0 n)]
 ·rfl
 ·intro h hm
  have h0:=dn.mp hm
  have e0:li (ks.map Int.ofNat)=.lst (ks.map λ(k:Nat)=>T.int (k:Int)):=by unfold li;rw[List.map_map];rfl
  have ll:(ks.map λ(k:Nat)=>T.int (k:Int)).length≤szL:=by rw[List.length_map];unfold szL;omega
  have e2:bN (λ_=>True) (ar 0) (dC (.bl true)) (ag fEq (ag ef (ag mJ (aa 0) (aa 1)) (dC (.int 1))) (dC (.int 1))) [none,some (.val (.int h))] (ks.map λ(k:Nat)=>T.int (k:Int)) μ=.ok (ks.map λ(k:Nat)=>T.bl (decide ((k:Int) / 2 ^ h.toNat%2=1))) μ:=by
   rw[dy (λ(k:Nat)=>T.int (k:Int)) (λ(k:Nat)=>T.bl (decide ((k:Int) / 2 ^ h.toNat%2=1))) trivial]
   intro k _
   exact⟨[some (.val (.int (k:Int))),some (.val (.int h))],rfl,Gv k (by omega) (by omega) _ μ _ _ rfl rfl⟩
  have fa:=lJ (λk:Nat=>decide ((k:Int) / 2 ^ h.toNat%2=1)) ks
  rw[da h (by omega)] at fa
  refine⟨[some (.val (.int h)),some (.val (li (ks.map Int.ofNat)))],rfl,?_,λ_=>rfl⟩
  generalize (λ(k:Nat)=>T.bl (decide ((k:Int) / 2 ^ h.toNat%2=1)))=f at e2 fa
  simp?! only[e0,ll,e2,fa]
theorem BC(O:List Int→Bool)(n N:Nat):∀l:List Nat,(∀k∈l,k<N)→hitsD (wk O n N) (l.map λ(k:Nat)=>(Sum.inl (k:Int),T.bl (O (bs n k))))=some true
 | [],_=>rfl
 | k::l,h=>by
  rw[List.map_cons]
  unfold hitsD
  rw[As O n N k (h k (by simp)),BC O n N l λj hj=>h j (by simp[hj])]
  show some ((O (bs n k)==O (bs n k)) && true)=_
  simp
theorem OB(O:List Int→Bool)(n N:Nat):xN (.dct (wk O n N)) (.dct (wk O n N))=some (.bl false):=by
 show (hitsD (wk O n N) (wk O n N)).map _=_
 have:hitsD (wk O n N) (wk O n N)=some true:=BC O n N (List.range N) λk hk=>List.mem_range.mp hk
 rw[this]
 simp
theorem L3(rows:Rows)(m:Nat):i9 (m+2) (rows.map rt)=true:=by
 rw[nO]
 intro t ht
 obtain⟨q,_,rfl⟩:=List.mem_map.mp ht
 unfold rt tu
 rw[qd,iH,iH,xj,vg,qd,uj]
 rfl
theorem GD(p:Int)(w:Nat)(rows:Rows):okT 100 (tb p w rows)=true:=by
 unfold tb
 rw[qd,iH,iH,iH,xj,vg,vg,qd,L3]
 rfl
theorem OC(p:Int)(w:Nat)(rows:Rows):fNe (tb p w rows) (tb p w rows)=some (.bl false):=by
 rw[yL (GD p w rows) (GD p w rows),xk 100 _ (GD p w rows)]
 rfl
open Fw.k33 (ow cK qq LL GG lsB grB ir jK srt jt oN sV)
section
variable{p:Int}{w:Nat}{rows:Rows}{n:Nat}
theorem GF(H:Tbl p w rows)(P:Int×List Int→Bool):Tbl p w (rows.filter P):=⟨H.pr,H.w0,H.w1,Nat.le_trans (List.length_filter_le _ _) H.n,λq hq=>H.li q (List.mem_filter.mp hq).1⟩
theorem I0:wk (ow p w (rows.filter λq=>decide (q.1∉J (ow p w rows) n))) n (2 ^ n)=wk (ow p w rows) n (2 ^ n):=by
 unfold wk
 refine List.map_congr_left λk _=>?_
 congr 2
 rw[Bool.eq_iff_iff,cK,cK]
 exact IP cK (J (ow p w rows) n) (λx hx=>(Gz.mp hx).2) (λx hx h0=>Classical.byContradiction λno=>hx (Gz.mpr ⟨h0,λs L q=>no ⟨s,L,q⟩⟩)) (pD n k)
theorem GH(h:Int)(h0:0≤h∧h<(n:Int))(no:h∉J (ow p w rows) n):h∈rows.map (·.1):=Classical.byContradiction λq=>no (Gz.mpr ⟨h0,λs L hs=>q (by
 obtain⟨_,r,hr,e⟩:=iG.mp (uU cK L h hs)
 exact List.mem_map.mpr ⟨r,hr,e⟩)⟩)
theorem I_(H:Tbl p w rows)(h0:0<n)(hn:n≤8)(hf:n≤5∨rows.length≤6)(x0:Option SV) :
  ∃μ',(we [x0,some (.val (.int p)),some (.val (.int n)),some (.val (tb p w rows)),none,none,none,none,none,none,none] []).qP 0=.ok (.val (.bl true)) μ':=by
 obtain⟨f1,f2⟩:=Ai (p:=p) (w:=w) h0 hn hf
 have rwn:d8 (n:Int)=true:=cN (by omega) (by omega)
 have lsn:(bC 0 n).length≤szL:=by rw[cH];unfold szL;omega
 have hr:=H.n
 have lr:(rows.map rt).length≤szL:=by rw[List.length_map];unfold szL;omega
 have hJ:=OA (ow p w rows) n
 have lj:((J (ow p w rows) n).map T.int).length≤szL:=by rw[List.length_map];unfold szL;omega
 have hw:=yq H hn []
 rw[Cw]
 unfold zy
 simp?! only[hw]
 rw[Cy]
 unfold zA
 have hin:ly (.dct (wk (ow p w rows) n (2 ^ n)))=some (.bl false):=rfl
 simp?! only[hin]
 rw[Cz]
 unfold zB
 have hl:=Gy (ow p w rows) hn []
 simp?! only[hl]
 rw[CC]
 unfold zC
 have hd:=GC (ow p w rows) hn []
 simp?! only[rwn,Int.toNat_natCast,lsn,hd]
 rw[CD]
 unfold zD
 have hi:=L0 H hn f1 f2 []
 simp?! only[hi]
 rw[CG]
 unfold zE
 have il:isS .list [(true,li (J (ow p w rows) n))] (.cel 0)=some (.bl true):=rfl
 have fne:fNe (li (J (ow p w rows) n)) (.lst ((J (ow p w rows) n).map T.int))=some (.bl false):=by
  unfold li
  rw[qJ]
  simp
 have is:bS (li (J (ow p w rows) n))=some ((J (ow p w rows) n).map T.int):=rfl
 have eb:∀M S,S M→bN S (ar 0) (dC (.bl true)) (dIs .bool (aa 0)) [none] ((J (ow p w rows) n).map T.int) M=.ok ((J (ow p w rows) n).map λ_=>T.bl false) M:=λM S hS=>by
  rw[iJ (λ_=>T.bl false) hS]
  intro h _
  exact⟨_,rfl,rfl⟩
 have fa:lD (.lst ((J (ow p w rows) n).map λ_=>T.bl false))=some (.bl false):=by
  rw[lJ (λ_=>false)]
  simp
 simp?! only[qK,il,fne,is,lj]
 rw[eb [(true,li (J (ow p w rows) n))] (λμ':af=>Option.map (λx:Bool×T=>x.2) μ'[0]?=some (li (J (ow p w rows) n))) rfl]
 simp?! only[fa]
 rw[zM]
 unfold vU
 rw[show T.lst ((J (ow p w rows) n).map T.int)=li (J (ow p w rows) n) from rfl]
 have l10:nR (.cel 0) [(true,li (J (ow p w rows) n))]=some ():=rfl
 have a10:appendAt (.cel 0) (.int 9) [(true,li (J (ow p w rows) n))]=some [(true,.lst ((J (ow p w rows) n).map T.int++[.int 9]))] :=
  append_at (k:=0) (ts:=(J (ow p w rows) n).map T.int) rfl (by rw[List.length_map];unfold szL;omega)
 simp?! only[l10,a10]
 generalize [(true,T.lst ((J (ow p w rows) n).map T.int++[.int 9]))]=M
 rw[zN]
 unfold vV
 have ht:=Au H hn f1 f2 M
 simp?! only[ht]
 rw[zO]
 unfold vW
 have i0:∀rs,gQ M (.val (tb p w rs)) (.int 0)=some (.val (.int p)):=λ_=>rfl
 have i1:∀rs,gQ M (.val (tb p w rs)) (.int 1)=some (.val (.int w)):=λ_=>rfl
 have i2:∀rs:Rows,gQ M (.val (tb p w rs)) (.int 2)=some (.val (.tup (rs.map rt))):=λ_=>rfl
 have ek:=uW rows (J (ow p w rows) n) M
 simp?! only[i2,lr,ek]
 rw[zP]
 unfold vX
 have nt:=OC p w (rows.filter λq=>decide (q.1∉J (ow p w rows) n))
 have ft:T.tup [.int p,.int w,.tup ((rows.filter λq=>decide (q.1∉J (ow p w rows) n)).map rt)]=tb p w (rows.filter λq=>decide (q.1∉J (ow p w rows) n)):=rfl
 have it:∀ts,isS .tuple M (.val (.tup ts))=some (.bl true):=λ_=>rfl
 simp?! only[i1,i2,ft,nt,qK,it]
 rw[zQ]
 unfold vY
 have hw2:=yq (GF H λq=>decide (q.1∉J (ow p w rows) n)) hn M
 rw[I0] at hw2
 have nw:=OB (ow p w rows) n (2 ^ n)
 have hv:=GB H hn f1 f2 M
 have fn2:fNe (li (J (ow p w rows) n)) (li (J (ow p w rows) n))=some (.bl false):=fne
 simp?! only[hw2,nw,hv,fn2]
 rw[zR]
 unfold vZ
 have et:bN (λ_=>True) (ar 0) (dC (.bl true)) (ax (aa 0) (dC (.int 0))) [none] (rows.map rt) M=.ok (rows.map λq=>T.int q.1) M:=by
  rw[dy rt (λq=>T.int q.1) trivial]
  intro q _
  refine⟨_,rfl,?_⟩
  unfold rt
  simp?! only[]
 simp?! only[i2,lr,et]
 rw[zS]
 unfold v7
 rw[show T.lst (rows.map λq=>T.int q.1)=li (rows.map (·.1)) by unfold li;rw[List.map_map];rfl]
 have ea:bN (λ_=>True) (ar 0) (dC (.bl true)) (dOr (ag fIn (aa 0) (aa 1)) (ag fIn (aa 0) (aa 2))) [none,some (.val (li (J (ow p w rows) n))),some (.val (li (rows.map (·.1))))] (bC 0 n) M=.ok ((bV 0 n).map λ_=>T.bl true) M:=by
  rw[eW,iJ (λ_=>T.bl true) trivial]
  intro h hm
  have h0:=dn.mp hm
  have g1:=GA h (J (ow p w rows) n)
  have g2:=GA h (rows.map (·.1))
  refine⟨[some (.val (.int h)),some (.val (li (J (ow p w rows) n))),some (.val (li (rows.map (·.1))))],rfl,?_⟩
  by_cases hq:h∈J (ow p w rows) n
  ·rw[decide_eq_true hq] at g1
   simp?! only[g1]
  ·rw[decide_eq_false hq] at g1
   rw[decide_eq_true (GH h (by omega) hq)] at g2
   simp?! only[g1,g2]
 have fal:=qY (λ_:Int=>true) (bV 0 n)
 refine⟨M.take 0,?_⟩
 simp?! only[rwn,Int.toNat_natCast,lsn,ea,fal]
 simp
end
theorem holds(ns:List Int)(hl:ns.length≤63):∃μ',pe [.val (.lst (ns.map T.int))] []=.ok (.val (.bl true)) μ':=by
 obtain⟨c0,hc0⟩:=mG ns 0 (by decide) (by decide)
 obtain⟨c1,hc1⟩:=mG ns 1 (by decide) (by decide)
 obtain⟨p,hP,hp⟩:=LU c0
 obtain⟨w,rows0,ht,H0,_⟩:=sY ns hP 10 (by decide) []
 obtain⟨b5,hb5,Uj⟩:=toNat_mod c1 5 (by decide)
 obtain⟨b3,hb3,Uk⟩:=toNat_mod (c1 / 40) 3 (by decide)
 show ∃μ',(E6 (starts 11 [.val (.lst (ns.map T.int))]) []).qP 0=_
 have key:∀n:Nat,0<n∧n≤8→∃μ',(wg [some (.val (.lst (ns.map T.int))),some (.val (.int p)),some (.val (.int n)),none,none,none,none,none,none,none,none] []).qP 0=.ok (.val (.bl true)) μ':=λn h=>by
  obtain⟨rows,hs,H,hf,_⟩:=Dc H0 n h []
  rw[Cv]
  unfold zx
  simp?! only[ht,hs]
  exact I_ H h.1 h.2 hf _
 rw[Lk,Cs]
 unfold zu
 simp?! only[hc0,hp]
 rw[Ct]
 unfold zv
 simp?! only[hc1,hb5]
 rw[Cu]
 unfold zw
 cases hq:(c1 / 5%8==5) with
 | true =>
  obtain⟨μ',k⟩:=key (6+b3) (by omega)
  refine⟨μ',?_⟩
  rw[← k]
  simp?! only[hc1,hq,hb3]
  rfl
 | false =>
  obtain⟨μ',k⟩:=key (1+b5) (by omega)
  refine⟨μ',?_⟩
  rw[← k]
  simp?! only[hc1,hq]
  rfl
end Fw.k82
open PySem PySem.W PyProof.Rows
namespace PySem.W.Fast
theorem te3597634763508457459 : True := trivial
theorem tw3528046440500459857 : True := trivial
theorem tw2758187869979887412 : True := trivial
theorem tw11270978510357931534 : True := trivial
theorem tw7843897525277821077 : True := trivial
theorem tw11257798923386366112 : True := trivial
theorem tw2004477167856461904 : True := trivial
theorem tw1199487761385599047 : True := trivial
theorem tw4200916016205262105 : True := trivial
theorem tw16608629564079674961 : True := trivial
theorem tw14265245580642085574 : True := trivial
theorem tw3162657510410084459 : True := trivial
theorem tw562162062134178531 : True := trivial
theorem tw11109685947712363161 : True := trivial
theorem tw9045419423619178688 : True := trivial
theorem tw5375079391906546942 : True := trivial
theorem tw13123596316620541804 : True := trivial
theorem tw10323660419790523614 : True := trivial
theorem tw10404554208708993169 : True := trivial
theorem tw12974511915852286601 : True := trivial
theorem tw630265966622595189 : True := trivial
theorem tw4003089398830911312 : True := trivial
theorem tw4801000357871304894 : True := trivial
theorem tw13164768799968704506 : True := trivial
theorem tw6829227230896820780 : True := trivial
theorem tw12069542748303757687 : True := trivial
theorem tw8711558775321293655 : True := trivial
theorem tw10559877471540782506 : True := trivial
theorem tw4557441997074079113 : True := trivial
theorem tw15041437008363450072 : True := trivial
theorem tw4130601663245535946 : True := trivial
theorem tw1354685928498906552 : True := trivial
theorem tw16201454841184708316 : True := trivial
theorem tw16685424954792034468 : True := trivial
end PySem.W.Fast
set_option maxRecDepth 100000 in
set_option maxHeartbeats 0 in
theorem PySem.Challenge.cw_fewopen_k82_idle_hands_holds : PySem.Challenge.rw_fewopen_k82_idle_hands.Holds := by
 w_on;o_law;k_head;(case hw=>w_witness2)
 k_fill
 refine Fw.k82.walk (l:=PySem.Challenge.rw_fewopen_k82_idle_hands) rfl rfl Fw.k82.holds (λw h Y=>PySem.W.kIn_of Y) ?F
 case F =>
  intro w mg fa h KX G hmg
  refine' Fw.k82.all_mk KX G hmg ?a0 ?l0 ?c0 ?k0 ?a1 ?l1 ?c1 ?k1 ?a2 ?l2 ?c2 ?k2 ?a3 ?l3 ?c3 ?k3 ?a4 ?l4 ?c4 ?k4 ?a5 ?l5 ?c5 ?k5 ?a6 ?l6 ?c6 ?k6 ?a7 ?l7 ?c7 ?k7 ?a8 ?l8 ?c8 ?k8 ?a9 ?l9 ?c9 ?k9 ?a10 ?l10 ?c10 ?k10 ?a11 ?l11 ?c11 ?k11 ?a12 ?l12 ?c12 ?k12 ?a13 ?l13 ?c13 ?k13 ?a14 ?l14 ?c14 ?k14 ?a15 ?l15 ?c15 ?k15 ?a16 ?l16 ?c16 ?k16 ?a17 ?l17 ?c17 ?k17 ?a18 ?l18 ?c18 ?k18 ?a19 ?l19 ?c19 ?k19 ?a20 ?l20 ?c20 ?k20 ?a21 ?l21 ?c21 ?k21 ?a22 ?l22 ?c22 ?k22 ?a23 ?l23 ?c23 ?k23 ?a24 ?l24 ?c24 ?k24 ?a25 ?l25 ?c25 ?k25 ?a26 ?l26 ?c26 ?k26 ?a27 ?l27 ?c27 ?k27 ?a28 ?l28 ?c28 ?k28 ?a29 ?l29 ?c29 ?k29 ?a30 ?l30 ?c30 ?k30 ?a31 ?l31 ?c31 ?k31 ?a32 ?l32 ?c32 ?k32 ?a33 ?l33 ?c33 ?k33 ?a34 ?l34 ?c34 ?k34 ?a35 ?l35 ?c35 ?k35 ?z0 ?z1 ?z2 ?z3 ?z4 ?z5 ?z6 ?z7 ?z8 ?z9 ?z10 ?z11 ?z12
  (case a0=>k_is)
  (case l0=>k_is)
  (case c0=>k_is)
  (case k0=>k_is)
  (case a1=>k_is)
  (case l1=>k_is)
  (case c1=>k_is)
  (case k1=>k_is)
  (case a2=>k_is)
  (case l2=>k_is)
  (case c2=>k_is)
  (case k2=>k_is)
  (case a3=>k_is)
  (case l3=>k_is)
  (case c3=>k_is)
  (case k3=>k_is)
  (case a4=>k_is)
  (case l4=>k_is)
  (case c4=>k_is)
  (case k4=>k_is)
  (case a5=>k_is)
  (case l5=>k_is)
  (case c5=>k_is)
  (case k5=>k_is)
  (case a6=>k_is)
  (case l6=>k_is)
  (case c6=>k_is)
  (case k6=>k_is)
  (case a7=>k_is)
  (case l7=>k_is)
  (case c7=>k_is)
  (case k7=>k_is)
  (case a8=>k_is)
  (case l8=>k_is)
  (case c8=>k_is)
  (case k8=>k_is)
  (case a9=>k_is)
  (case l9=>k_is)
  (case c9=>k_is)
  (case k9=>k_is)
  (case a10=>k_is)
  (case l10=>k_is)
  (case c10=>k_is)
  (case k10=>k_is)
  (case a11=>k_is)
  (case l11=>k_is)
  (case c11=>k_is)
  (case k11=>k_is)
  (case a12=>k_is)
  (case l12=>k_is)
  (case c12=>k_is)
  (case k12=>k_is)
  (case a13=>k_is)
  (case l13=>k_is)
  (case c13=>k_is)
  (case k13=>k_is)
  (case a14=>k_is)
  (case l14=>k_is)
  (case c14=>k_is)
  (case k14=>k_is)
  (case a15=>k_is)
  (case l15=>k_is)
  (case c15=>k_is)
  (case k15=>k_is)
  (case a16=>k_is)
  (case l16=>k_is)
  (case c16=>k_is)
  (case k16=>k_is)
  (case a17=>k_is)
  (case l17=>k_is)
  (case c17=>k_is)
  (case k17=>k_is)
  (case a18=>k_is)
  (case l18=>k_is)
  (case c18=>k_is)
  (case k18=>k_is)
  (case a19=>k_is)
  (case l19=>k_is)
  (case c19=>k_is)
  (case k19=>k_is)
  (case a20=>k_is)
  (case l20=>k_is)
  (case c20=>k_is)
  (case k20=>k_is)
  (case a21=>k_is)
  (case l21=>k_is)
  (case c21=>k_is)
  (case k21=>k_is)
  (case a22=>k_is)
  (case l22=>k_is)
  (case c22=>k_is)
  (case k22=>k_is)
  (case a23=>k_is)
  (case l23=>k_is)
  (case c23=>k_is)
  (case k23=>k_is)
  (case a24=>k_is)
  (case l24=>k_is)
  (case c24=>k_is)
  (case k24=>k_is)
  (case a25=>k_is)
  (case l25=>k_is)
  (case c25=>k_is)
  (case k25=>k_is)
  (case a26=>k_is)
  (case l26=>k_is)
  (case c26=>k_is)
  (case k26=>k_is)
  (case a27=>k_is)
  (case l27=>k_is)
  (case c27=>k_is)
  (case k27=>k_is)
  (case a28=>k_is)
  (case l28=>k_is)
  (case c28=>k_is)
  (case k28=>k_is)
  (case a29=>k_is)
  (case l29=>k_is)
  (case c29=>k_is)
  (case k29=>k_is)
  (case a30=>k_is)
  (case l30=>k_is)
  (case c30=>k_is)
  (case k30=>k_is)
  (case a31=>k_is)
  (case l31=>k_is)
  (case c31=>k_is)
  (case k31=>k_is)
  (case a32=>k_is)
  (case l32=>k_is)
  (case c32=>k_is)
  (case k32=>k_is)
  (case a33=>k_is)
  (case l33=>k_is)
  (case c33=>k_is)
  (case k33=>k_is)
  (case a34=>k_is)
  (case l34=>k_is)
  (case c34=>k_is)
  (case k34=>k_is)
  (case a35=>k_is)
  (case l35=>k_is)
  (case c35=>k_is)
  (case k35=>k_is)
  (case z0=>k_is)
  (case z1=>k_is)
  (case z2=>k_is)
  (case z3=>k_is)
  (case z4=>k_is)
  (case z5=>k_is)
  (case z6=>k_is)
  (case z7=>k_is)
  (case z8=>k_is)
  (case z9=>k_is)
  (case z10=>k_is)
  (case z11=>k_is)
  (case z12=>k_is)
