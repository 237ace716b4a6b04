import PyProof.Rows.All
import Wide.All
import OpenK.AllK
import Wide.FinOn
import Lean
import PyProof.EqAt
import PyProof.EqKinds
import PyProof.TupleCall
import PyProof.NeData
import PyProof.P3Eq
import PyProof.ConsumeWalk
import PyProof.ZipIter
import PyProof.DictItemsLoops
import KE.KDictList
import KE.KPairComp
import PyProof.Draws
import PyProof.EnumMake
import PyProof.EnumFor
import PyProof.ListRange
import PyProof.ListMulAny
import KE.KRevIter
import PyProof.Rows.SortShell
import PyProof.ListNew
import KE.KDictIter
import PyProof.DictWalks
import PyProof.StrCalls2
import KE.KSortAsk
import KE.KEqDict
import PyProof.Rows.SeqMore2
import PySem.Challenge.RW_fewopen_k95_whole_equally_often
set_option compiler.extract_closed false
set_option bootstrap.genMatcherCode false
set_option genSizeOf false
set_option Elab.async false
set_option linter.all false
set_option maxRecDepth 100000
noncomputable section
namespace L2
open PySem PySem.Spec PyProof.Rows
noncomputable abbrev Key := Sum Int Str
def qv:Key→Value→Bool
 | .inl k,v=>Value.isInt k v
 | .inr x,v=>Value.isStrOf x v
def M0(w:World):Key→Int
 | .inl k=>hashInt k
 | .inr x=>hashStr w x
theorem cx:∀{k:Key}{v:Value},qv k v=true→(∃i t,k=Sum.inl i∧v=Value.int i t)∨(∃x t,k=Sum.inr x∧v=Value.str x t)
 | .inl i,v,h=>by
  obtain⟨t,e⟩:=Value.isInt_shape (k:=i) (v:=v) h
  exact .inl ⟨i,t,rfl,e⟩
 | .inr x,v,h=>by
  obtain⟨t,e⟩:=Value.isStrOf_shape (x:=x) (v:=v) h
  exact .inr ⟨x,t,rfl,e⟩
theorem AU(i:Int)(t:Tok):qv (.inl i) (.int i t)=true:=by simp[qv,Value.isInt]
theorem AV(x:Str)(t:Tok):qv (.inr x) (.str x t)=true:=by simp[qv,Value.isStrOf]
theorem HN(a b:Int):decide ((Sum.inl a:Key)=Sum.inl b)=(a==b):=by
 by_cases e:a=b
 ·subst e;simp
 ·have h:¬ (Sum.inl a:Key)=Sum.inl b:=λq=>e (Sum.inl.inj q)
  rw[decide_eq_false h]
  exact (beq_eq_false_iff_ne.mpr e).symm
theorem HP(a b:Str):decide ((Sum.inr a:Key)=Sum.inr b)=decide (a=b):=by
 by_cases e:a=b
 ·subst e;simp
 ·have h:¬ (Sum.inr a:Key)=Sum.inr b:=λq=>e (Sum.inr.inj q)
  rw[decide_eq_false h,decide_eq_false e]
theorem HQ(a:Int)(b:Str):decide ((Sum.inl a:Key)=Sum.inr b)=false:=decide_eq_false (λq=>nomatch q)
theorem HR(a:Str)(b:Int):decide ((Sum.inr a:Key)=Sum.inl b)=false:=decide_eq_false (λq=>nomatch q)
def cX(prog:Program)(w:World):PySem.KeyKind prog w Key where
 is:=qv
 hash:=M0 w
 inj:=λv a b ha hb=>by
  rcases cx ha with ⟨i,t,rfl,rfl⟩|⟨x,t,rfl,rfl⟩
  ·rcases cx hb with ⟨j,u,rfl,e⟩|⟨y,u,rfl,e⟩
   ·injection e with e1 _;rw[e1]
   ·exact nomatch e
  ·rcases cx hb with ⟨j,u,rfl,e⟩|⟨y,u,rfl,e⟩
   ·exact nomatch e
   ·injection e with e1 _;rw[e1]
 byValue:=λk v h=>by
  rcases cx h with ⟨i,t,rfl,rfl⟩|⟨x,t,rfl,rfl⟩<;>rfl
 pyHash:=λhv h=>by
  rcases cx hv with ⟨i,t,rfl,rfl⟩|⟨x,t,rfl,rfl⟩
  ·exact wpAny_pyHash_int h
  ·exact wpAny_pyHash_str h
 eqBool:=λhu hv h=>by
  rcases cx hu with ⟨i,t,rfl,rfl⟩|⟨x,t,rfl,rfl⟩
  ·rcases cx hv with ⟨j,u,rfl,rfl⟩|⟨y,u,rfl,rfl⟩
   ·rw[HN] at h;exact wpAny_eqBool_int h
   ·rw[HQ] at h;exact SeqAt.EqAt.int_str i t y u _ _ _ _ h
  ·rcases cx hv with ⟨j,u,rfl,rfl⟩|⟨y,u,rfl,rfl⟩
   ·rw[HR] at h;exact SeqAt.EqAt.str_int x t j u _ _ _ _ h
   ·rw[HP] at h;exact wpAny_eqBool_str h
 «strs»:=λk x t v h=>by
  rcases cx h with ⟨i,u,rfl,e⟩|⟨y,u,rfl,e⟩
  ·exact nomatch e
  ·injection e with e1 _
   subst e1
   cases v<;>rfl
theorem v8(prog:Program)(w:World)(i:Int)(t:Tok):(cX prog w).is (.inl i) (.int i t)=true:=AU i t
theorem v9(prog:Program)(w:World)(x:Str)(t:Tok):(cX prog w).is (.inr x) (.str x t)=true:=AV x t
inductive V where
 | non|bl (b:Bool)|int (i:Int)|str (x:Str)|byt (b:Array UInt8)|flt (b:UInt64)|ref (a:Addr)|ty (n:String)
 deriving DecidableEq
def RelV:V→Value→Prop
 | .non,u=>u=Value.none
 | .bl b,u=>u=Value.bool b
 | .int i,u=>∃t,u=Value.int i t
 | .str x,u=>∃t,u=Value.str x t
 | .byt b,u=>∃t,u=Value.bytes b t
 | .flt b,u=>∃t,u=Value.float b t
 | .ref a,u=>u=Value.ref a
 | .ty n,u=>u=Value.type n
noncomputable abbrev Vals : List V → List Value → Prop := Paired RelV
theorem Vals.length{xs:List V}{us:List Value}(r:Vals xs us):xs.length=us.length:=Paired.length r
theorem Vals.get:∀{xs:List V}{us:List Value}{i:Nat}{x:V},Vals xs us→xs[i]?=some x→∃u,us[i]?=some u∧RelV x u
 | _,_,_,_,.nil,e=>by simp at e
 | _,_,0,_,.cons r _,e=>by simp at e;subst e;exact⟨_,rfl,r⟩
 | _,_,i+1,x,.cons _ t,e=>by
  obtain⟨u,h1,h2⟩:=Vals.get (i:=i) (x:=x) t (by simpa using e)
  exact⟨u,by simpa using h1,h2⟩
theorem Vals.set{x:V}{u:Value}(r:RelV x u):∀{xs:List V}{us:List Value} (i:Nat),Vals xs us→Vals (xs.set i x) (us.set i u)
 | _,_,_,.nil=>.nil
 | _,_,0,.cons _ t=>.cons r t
 | _,_,i+1,.cons q t=>.cons q (Vals.set r i t)
theorem Vals.append:∀{xs ys:List V}{us ws:List Value},Vals xs us→Vals ys ws→Vals (xs++ys) (us++ws)
 | _,_,_,_,.nil,s=>s
 | _,_,_,_,.cons r t,s=>.cons r (Vals.append t s)
theorem Vals.take:∀{xs:List V}{us:List Value} (n:Nat),Vals xs us→Vals (xs.take n) (us.take n)
 | _,_,0,_=>.nil
 | _,_,_+1,.nil=>.nil
 | _,_,n+1,.cons r t=>.cons r (Vals.take n t)
theorem Vals.drop:∀{xs:List V}{us:List Value} (n:Nat),Vals xs us→Vals (xs.drop n) (us.drop n)
 | _,_,0,r=>r
 | _,_,_+1,.nil=>.nil
 | _,_,n+1,.cons _ t=>Vals.drop n t
def qd:Option V→Option Value→Prop
 | some v,some u=>RelV v u
 | none,none=>True
 | _,_=>False
def KV{κ:Type}:List (κ×V)→List (κ×Value)→Prop:=Paired λ(p:κ×V) (q:κ×Value)=>p.1=q.1∧RelV p.2 q.2
def kV:Key→V
 | .inl i=>.int i
 | .inr x=>.str x
inductive HO where
 | lst (xs:List V)
 | tup (xs:List V)
 | dK (kvs:List (Key×V))|dT (kvs:List (List Key×V))
 | set (S:Int→Bool) (n:Nat)
 | ins (C dx:Addr) (fs:List (Str×V))
 | own (x:Addr)
 | xd (fs:List (Str×V))
 | met (f x:Addr)
 | rng (lo hi:Int)
 | frz (o:Obj) (u:HO)
 | tbl (ps:Array Value)
 | ext (φ:Heap→Prop)
noncomputable abbrev Hp := Addr → Option HO
def upd(H:Hp)(a:Addr)(o:HO):Hp:=λb=>if b=a then some o else H b
theorem aL{H:Hp}{a:Addr}{o:HO}:upd H a o a=some o:=by unfold upd;rw[if_pos rfl]
theorem aO{H:Hp}{a b:Addr}{o:HO}(h:b≠a):upd H a o b=H b:=by unfold upd;rw[if_neg h]
theorem Ks{H:Hp}{a b:Addr}{o u:HO}(h:H a=some o)(h':H b=some u)(d:o≠u):a≠b:=by
 intro e;subst e;rw[h] at h';exact d (Option.some.inj h')
theorem dJ{H:Hp}{a b:Addr}{o:HO}(h:H a=some o)(h':H b=none):a≠b:=by
 intro e;subst e;rw[h] at h';cases h'
section
variable(P:Program)(w:World)
def eh(H:Hp)(h:Heap)(a:Addr):HO→Prop
 | .lst xs=>xs.length≤sizeLine∧∃(its:List Value) (n:Nat),Vals xs its∧h.get? a=some { cls:=.type "list",data:=.seq its.toArray n }
 | .tup xs=>xs.length≤sizeLine∧∃its:List Value,Vals xs its∧IsTup h a its.toArray
 | .dK kvs=>kvs.length≤sizeLine∧(a==sysModules)=false∧∃vs,KV kvs vs∧h.DictAt (cX P w) a vs vs.length
 | .dT kvs=>kvs.length≤sizeLine∧(a==sysModules)=false∧∃xs:List (List Key×Addr×Value),
   Paired (λ(p:List Key×V) (q:List Key×Addr×Value)=>p.1=q.1∧H q.2.1=some (.tup (p.1.map kV))∧RelV p.2 q.2.2) kvs xs ∧
   ∃o es ep,h.get? a=some o∧o.ExactDict∧o.data=.dict es ep∧es.toList=xs.map (entryOfKey (tupleKind (cX P w)))∧(xs.map (·.1)).Nodup
 | .set S n=>h.SetOf (intKind P w) a S n
 | .ins C dx fs=>H dx=some (.own a)∧fs.length≤1000∧dx≠a∧h.get? a=some (PySem.W.instObj C dx) ∧
   ∃mA,h.Ns1 dx mA∧(∀f,qd (fs.lookup f) (mA f))∧PySem.Within mA (fs.map (·.1))
 | .own _=>∃o,h.get? a=some o
 | .xd fs=>∃mA,h.Ns1 a mA∧∀f,qd (fs.lookup f) (mA f)
 | .rng lo hi=>∃t u v,h.get? a=some { cls:=.type "range",data:=.fields #[.int lo t,.int hi u,.int 1 v] }
 | .frz o u=>h.get? a=some o∧eh H h a u
 | .tbl ps=>h.get? a=some { cls:=.none,data:=.fields ps }
 | .met f x=>h.get? a=some (PySem.W.methodObj (.ref f) (.ref x))
 | .ext φ=>φ h∧(∃o,h.get? a=some o)∧∀h1 h2:Heap,φ h1→(∀o,h1.get? a=some o→h2.get? a=some o)→φ h2
def HOk(H:Hp)(h:Heap):Prop:=∀a o,H a=some o→eh P w H h a o
end
section
variable{P:Program}{w:World}{H H':Hp}{h h':Heap}{a:Addr}{o:HO}
theorem eh.lt(x:eh P w H h a o):a<h.objs.size:=by
 cases o with
 | lst xs=>obtain⟨_,_,_,_,e⟩:=x;exact Heap.lt_size e
 | tup xs=>obtain⟨_,_,_,p⟩:=x;exact p.lt
 | dK kvs=>obtain⟨_,_,_,_,o,_,e,_⟩:=x;exact Heap.lt_size e
 | dT kvs=>obtain⟨_,_,_,_,o,_,_,e,_⟩:=x;exact Heap.lt_size e
 | set S n=>obtain⟨o,_,_,_,e,_⟩:=x;exact Heap.lt_size e
 | ins C dx fs=>obtain⟨_,_,_,e,_⟩:=x;exact Heap.lt_size e
 | own y=>obtain⟨_,e⟩:=x;exact Heap.lt_size e
 | xd fs=>obtain⟨_,⟨_,_,_,e,_⟩,_⟩:=x;exact Heap.lt_size e
 | rng lo hi=>obtain⟨_,_,_,e⟩:=x;exact Heap.lt_size e
 | frz ob u=>obtain⟨e,_⟩:=x;exact Heap.lt_size e
 | tbl ps=>exact Heap.lt_size (show h.get? a=some _ from x)
 | met f y=>exact Heap.lt_size (show h.get? a=some _ from x)
 | ext φ=>obtain⟨_,⟨_,e⟩,_⟩:=x;exact Heap.lt_size e
theorem Paired.E6{α β:Type}{F G:α→β→Prop}:∀{l₁:List α}{l₂:List β},Paired F l₁ l₂→(∀a b,F a b→G a b)→Paired G l₁ l₂
 | _,_,.nil,_=>.nil
 | _,_,.cons r t,f=>.cons (f _ _ r) (Paired.E6 t f)
theorem Paired.imp'{α β:Type}{F G:α→β→Prop}(f:∀a b,F a b→G a b){l₁:List α}{l₂:List β}(r:Paired F l₁ l₂):Paired G l₁ l₂:=Paired.E6 r f
theorem eh.v_(x:eh P w H h a o)(k:∀b u,(b=a∨H b=some (.own a))→h.get? b=some u→h'.get? b=some u)
  (ho:∀b,H b=some (.own a)→H' b=some (.own a)) (ht:∀b xs,H b=some (.tup xs)→H' b=some (.tup xs)):eh P w H' h' a o:=by
 induction o with
 | lst xs=>obtain⟨z,its,n,r,e⟩:=x;exact⟨z,its,n,r,k _ _ (.inl rfl) e⟩
 | tup xs=>obtain⟨z,its,r,ob,e,c⟩:=x;exact⟨z,its,r,ob,k _ _ (.inl rfl) e,c⟩
 | dK kvs=>obtain⟨z,y,vs,r,ob,es,e,c⟩:=x;exact⟨z,y,vs,r,ob,es,k _ _ (.inl rfl) e,c⟩
 | dT kvs =>
  obtain⟨z,y,xs,r,ob,es,ep,e,c⟩:=x
  exact⟨z,y,xs,Paired.E6 r λp q z=>⟨z.1,ht _ _ z.2.1,z.2.2⟩,ob,es,ep,k _ _ (.inl rfl) e,c⟩
 | set S n=>obtain⟨ob,es,ep,t,e,c⟩:=x;exact⟨ob,es,ep,t,k _ _ (.inl rfl) e,c⟩
 | ins C dx fs =>
  obtain⟨d,z,ne,e,mA,⟨od,es,ep,e2,c⟩,r⟩:=x
  exact⟨ho _ d,z,ne,k _ _ (.inl rfl) e,mA,⟨od,es,ep,k _ _ (.inr d) e2,c⟩,r⟩
 | own y=>obtain⟨ob,e⟩:=x;exact⟨ob,k _ _ (.inl rfl) e⟩
 | xd fs=>obtain⟨mA,⟨od,es,ep,e,c⟩,r⟩:=x;exact⟨mA,⟨od,es,ep,k _ _ (.inl rfl) e,c⟩,r⟩
 | rng lo hi=>obtain⟨t,u,v,e⟩:=x;exact⟨t,u,v,k _ _ (.inl rfl) e⟩
 | frz ob u ih=>obtain⟨e,q⟩:=x;exact⟨k _ _ (.inl rfl) e,ih q⟩
 | tbl ps =>
  have e:h.get? a=some { cls:=.none,data:=.fields ps }:=x
  show h'.get? a=some { cls:=.none,data:=.fields ps }
  exact k a _ (.inl rfl) e
 | met f y =>
  have e:h.get? a=some (PySem.W.methodObj (.ref f) (.ref y)):=x
  show h'.get? a=some (PySem.W.methodObj (.ref f) (.ref y))
  exact k a _ (.inl rfl) e
 | ext φ=>obtain⟨p,⟨o,e⟩,st⟩:=x;exact⟨st _ _ p λo q=>k _ _ (.inl rfl) q,⟨o,k _ _ (.inl rfl) e⟩,st⟩
theorem HOk.lt(x:HOk P w H h)(e:H a=some o):a<h.objs.size:=(x a o e).lt
theorem HOk.fresh(x:HOk P w H h)(e:h.objs.size≤a):H a=none:=by
 cases q:H a with
 | none=>rfl
 | some u=>exact absurd (Nat.lt_of_lt_of_le (x.lt q) e) (Nat.lt_irrefl _)
theorem HOk.kept(x:HOk P w H h)(k:∀b u,h.get? b=some u→h'.get? b=some u):HOk P w H h':=λa o e =>
 (x a o e).v_ (λb u _ q=>k b u q) (λ_ q=>q) λ_ _ q=>q
theorem HOk.laid(x:HOk P w H h)(k:∀b u,h.get? b=some u→h'.get? b=some u)(hp:h.objs.size≤a)(new:eh P w (upd H a o) h' a o):HOk P w (upd H a o) h':=λb u e=>by
 have hn:=x.fresh hp
 by_cases hb:b=a
 ·subst hb;rw[aL] at e;cases e;exact new
 ·rw[aO hb] at e
  exact (x b u e).v_ (λc v _ q=>k c v q) (λc q=>by rw[aO (dJ q hn)];exact q) λc xs q=>by rw[aO (dJ q hn)];exact q
end
def Rd(H:Hp)(a:Addr)(u:HO):Prop:=H a=some u∨∃o,H a=some (.frz o u)
theorem Rd.ok{P:Program}{w:World}{H:Hp}{h:Heap}{a:Addr}{u:HO}(r:Rd H a u)(x:HOk P w H h):eh P w H h a u:=by
 rcases r with r|⟨o,r⟩
 ·exact x a u r
 ·obtain⟨_,q⟩:=x a _ r
  exact q
def Mut:Option HO→Prop
 | some (.lst _)=>True
 | some (.dK _)=>True
 | some (.dT _)=>True
 | some (.set _ _)=>True
 | some (.ins _ _ _)=>True
 | some (.ext _)=>True
 | _=>False
section
variable{P:Program}{w:World}{H:Hp}{h h':Heap}{x e:Addr}{o':HO}
theorem HOk.write(ok:HOk P w H h)(mu:Mut (H x))(he:e=x∨H e=some (.own x))(k:∀b u,b≠e→h.get? b=some u→h'.get? b=some u)(heo:∃u,h'.get? e=some u)
  (new:eh P w (upd H x o') h' x o'):HOk P w (upd H x o') h':=λb u q=>by
 have Kt:∀c y,H c=some (.own y)→c≠x:=λc y r z=>by subst z;rw[r] at mu;exact mu
 have M1:∀c xs,H c=some (.tup xs)→c≠x:=λc xs r z=>by subst z;rw[r] at mu;exact mu
 by_cases hb:b=x
 ·subst hb;rw[aL] at q;cases q;exact new
 ·rw[aO hb] at q
  by_cases hbe:b=e
  ·have q':H b=some (.own x):=by
    rcases he with z|z
    ·exact absurd (hbe.trans z) hb
    ·rw[hbe];exact z
   rw[q] at q';cases q'
   obtain⟨v,hv⟩:=heo
   exact⟨v,by rw[hbe];exact hv⟩
  ·refine (ok b u q).v_ (λc v hc r=>k c v ?_ r) (λc r=>by rw[aO (Kt c b r)];exact r) λc xs r=>by rw[aO (M1 c xs r)];exact r
   rcases hc with rfl|hc
   ·exact hbe
   ·rintro rfl
    rcases he with z|z
    ·exact Kt c b hc z
    ·rw[hc] at z;cases z;exact hb rfl
end
structure Un(fs ex:List Addr)(H H':Hp)(h h':Heap):Prop where
 keep:∀b o,h.get? b=some o→H b=none→b∉fs→b∉ex→h'.get? b=some o
 slot:∀b o,h.get? b=some o→H b=none→b∈fs→b∉ex→∃sl,h'.get? b=some { o with slots:=sl }
 free:∀b o,h.get? b=some o→H b=none→b∉ex→H' b=none
 there:∀b o,h.get? b=some o→b∉ex→∃o',h'.get? b=some o'
 sL:∀b xs,H b=some (.tup xs)→H' b=some (.tup xs)
 fq:∀b o u,H b=some (.frz o u)→H' b=some (.frz o u)
 sM:∀b ps,H b=some (.tbl ps)→∃more,H' b=some (.tbl (ps++more))
section
variable{fs fs' ex ex':List Addr}{H H1 H2:Hp}{h h1 h2 h':Heap}{a x e:Addr}{o:HO}
theorem Un.any(u:Un fs ex H H1 h h1){b:Addr}{ob:Obj}(q:h.get? b=some ob)(n:H b=none)(hx:b∉ex):∃sl,h1.get? b=some { ob with slots:=sl }:=by
 by_cases hb:b∈fs
 ·exact u.slot b ob q n hb hx
 ·exact⟨ob.slots,u.keep b ob q n hb hx⟩
theorem Un.kept(k:∀b u,h.get? b=some u→h'.get? b=some u):Un fs ex H H h h' :=
 ⟨λb ob q _ _ _=>k b ob q,λb ob q _ _ _=>⟨ob.slots,k b ob q⟩,λ_ _ _ n _=>n,λb ob q _=>⟨ob,k b ob q⟩,λ_ _ q=>q,λ_ _ _ q=>q,λ_ ps q=>⟨#[],by rw[q];simp⟩⟩
theorem Un.refl:Un fs ex H H h h:=Un.kept λ_ _ q=>q
theorem Un.laid(k:∀b u,h.get? b=some u→h'.get? b=some u)(hp:h.objs.size≤a)(hn:H a=none):Un fs ex H (upd H a o) h h' where
 keep:=λb u q _ _ _=>k b u q
 slot:=λb u q _ _ _=>⟨u.slots,k b u q⟩
 free:=λb u q n _=>by rw[aO (Nat.ne_of_lt (Nat.lt_of_lt_of_le (Heap.lt_size q) hp))];exact n
 there:=λb u q _=>⟨u,k b u q⟩
 sL:=λb xs q=>by rw[aO (dJ q hn)];exact q
 fq:=λb u xs q=>by rw[aO (dJ q hn)];exact q
 sM:=λb ps q=>⟨#[],by rw[aO (dJ q hn),q];simp⟩
theorem Un.write(mu:Mut (H x))(he:e=x∨H e=some (.own x))(k:∀b u,b≠e→h.get? b=some u→h'.get? b=some u)(heo:∃u,h'.get? e=some u):Un fs ex H (upd H x o) h h':=by
 have hx:∀b,H b=none→b≠x:=λb n z=>by subst z;rw[n] at mu;exact mu
 have hb:∀b,H b=none→b≠e:=λb n z=>by
  subst z
  rcases he with r|r
  ·exact hx b n r
  ·rw[n] at r;cases r
 have hm:∀b u,H b=some u→¬ Mut (some u)→b≠x:=λb u q nm z=>by subst z;rw[q] at mu;exact nm mu
 refine⟨λb u q n _ _=>k b u (hb b n) q,λb u q n _ _=>⟨u.slots,k b u (hb b n) q⟩,λb u q n _=>by rw[aO (hx b n)];exact n,λb u q _=>?_,
  λb xs q=>by rw[aO (hm b _ q λz=>z)];exact q,λb u xs q=>by rw[aO (hm b _ q λz=>z)];exact q,λb ps q=>⟨#[],by rw[aO (hm b _ q λz=>z),q];simp⟩⟩
 by_cases hbe:b=e
 ·subst hbe;exact heo
 ·exact⟨u,k b u hbe q⟩
end
def trk(h:Heap)(H:Hp):List Addr:=(List.range h.objs.size).filter λa=>(H a).isSome
def uM(h:Heap)(H:Hp):Heap:=PySem.W.hideAll h (trk h H)
theorem AW(h:Heap)(H:Hp):(uM h H).objs.size=h.objs.size:=PySem.W.hideAll_size _ _
theorem Cr{h:Heap}{H:Hp}{b:Addr}{o:Obj}(e:h.get? b=some o)(n:H b=none):(uM h H).get? b=some o :=
 PySem.W.hideAll_get _ e λhm=>by
  have q:(H b).isSome=true:=(List.mem_filter.mp hm).2
  rw[n] at q;simp at q
theorem E7{h:Heap}{H:Hp}{b:Addr}{o:Obj}(e:(uM h H).get? b=some o):h.get? b=some o∧H b=none:=by
 have e':h.get? b=some o:=PySem.W.of_hideAll (trk h H) e
 refine⟨e',?_⟩
 cases q:H b with
 | none=>rfl
 | some x =>
  have hm:b∈trk h H:=List.mem_filter.mpr ⟨List.mem_range.mpr (Heap.lt_size e'),by simp[q]⟩
  have z:(uM h H).get? b=none:=PySem.W.hideAll_none (trk h H) hm
  rw[z] at e;cases e
structure Mod(K:PySem.W.Frag)(mg:Str→Option Value)(base:Heap):Prop where
 kin:K.In base
 glob:base.Ns mainGlobals mg
 blt:∃mb,base.Ns builtinsNs mb∧∀x:Str,x≠"__name__"→mb x=bootBuiltins x
 nolimit:base.NoLimit
structure Cx where
 prog:Program
 w:World
 K:PySem.W.Frag
 mg:Str→Option Value
 base:Heap
 A:Around
 N:List Str
 s₀:Shared
 H₀:Hp
 env:Env
 outer:List Env
 stack:List Env
 ex:List Addr
 fn:Str→Bool
 calm:Bool
 pn:List (Addr×Obj)
 xe:Value→Shared→Prop
def frs(l:List Env):List Addr:=l.filterMap (·.frame)
noncomputable abbrev Cx.fs (X : Cx) : List Addr := frs X.outer
def Vis(sc:Scope)(x:Str):Prop:=sc.names.lookup x=some .local∨sc.names.lookup x=some .cell∨sc.names.lookup x=some .free
def Loc(sc:Scope)(x:Str):Prop:=sc.names.lookup x=some .local∨sc.names.lookup x=some .cell
def Look(env:Env)(h:Heap)(m:Str→Option Value)(x:Str)(u:Value):Prop :=
 (env.kindOf x=some .local∧m x=some u)∨((env.kindOf x=some .cell∨env.kindOf x=some .free)∧∃c,env.cells.lookup x=some c∧h.IsCell c (some u))
structure Cx.Ok(X:Cx):Prop where
 mod:Mod X.K X.mg X.base
 kind:X.env.scope.kind=.function
 glob:X.env.globals=mainGlobals
 blt:X.env.builtins=builtinsNs
 above:X.s₀.heap.objs.size≤X.env.locals
 inj:∀x y c,X.env.cells.lookup x=some c→X.env.cells.lookup y=some c→x=y
 has:∀x,(X.env.kindOf x=some .cell∨X.env.kindOf x=some .free)→∃c,X.env.cells.lookup x=some c
 cab:∀x c,X.fn x=true→X.env.cells.lookup x=some c→X.s₀.heap.objs.size≤c
 hd:X.calm=true→X.A.handled=none
 frames:X.A.frames=some X.stack
 stk:X.stack=X.outer∨(X.stack=X.env::X.outer∧X.env.frame=some X.env.locals)
 exf:∀b∈X.ex,b≠X.env.locals∧∀x c,X.env.cells.lookup x=some c→c≠b
 bs:∀b o,X.base.get? b=some o→X.s₀.heap.get? b=some o∧X.H₀ b=none
 bsz:X.base.objs.size≤X.s₀.heap.objs.size
 AX:∀b o,X.base.get? b=some o→b∉X.ex
 E8:∀b∈X.ex,b∉X.fs
 qe:X.s₀.heap.FunFrames X.base X.outer
 frf:∀b∈X.fs,X.H₀ b=none
structure Inv(X:Cx)(pins:List (Addr×Obj))(σ:List (Option V))(H:Hp)(s:Shared):Prop where
 ok:X.Ok
 os:s.os=X.s₀.os
 bare:AllBare s.gens
 base:Un X.fs X.ex X.H₀ H X.s₀.heap s.heap
 loc:∃m,s.heap.Ns X.env.locals m∧∀(i:Nat) (x:Str) (v:V),X.N[i]?=some x→σ[i]?=some (some v)→Vis X.env.scope x→∃u,RelV v u∧Look X.env s.heap m x u
 cell:∀x c,X.env.cells.lookup x=some c→∃v,s.heap.IsCell c v
 free:H X.env.locals=none
 mO:∀x c,X.env.cells.lookup x=some c→H c=none
 pin:∀p∈X.pn++pins,s.heap.get? p.1=some p.2∧H p.1=none∧p.1≠X.env.locals∧p.1∉X.fs∧∀v,p.2.data≠.cell v
 hok:HOk X.prog X.w H s.heap
 len:σ.length=X.N.length
section
variable{X:Cx}{pins:List (Addr×Obj)}{σ:List (Option V)}{H H':Hp}{s:Shared}{h':Heap}
theorem Cx.Ok.M3(ok:X.Ok){b:Addr}{o:Obj}(e:X.base.get? b=some o):b∉X.fs:=λhb=>by
 have:=(ok.qe.mem hb).1
 rw[e] at this;cases this
theorem Inv.bs(I:Inv X pins σ H s):∀b o,X.base.get? b=some o→s.heap.get? b=some o∧H b=none:=λb o e =>
 ⟨I.base.keep b o (I.ok.bs b o e).1 (I.ok.bs b o e).2 (I.ok.M3 e) (I.ok.AX b o e),I.base.free b o (I.ok.bs b o e).1 (I.ok.bs b o e).2 (I.ok.AX b o e)⟩
theorem Inv.bk(I:Inv X pins σ H s):∀b o,X.base.get? b=some o→s.heap.get? b=some o:=λb o e=>(I.bs b o e).1
theorem Inv.mod(I:Inv X pins σ H s):Mod X.K X.mg X.base:=I.ok.mod
theorem Inv.kIn(I:Inv X pins σ H s):X.K.In s.heap:=I.ok.mod.kin.keeps I.bk
theorem Inv.nolimit(I:Inv X pins σ H s):s.heap.NoLimit:=I.ok.mod.nolimit.keeps I.bk
theorem Inv.lt(I:Inv X pins σ H s):X.env.locals<s.heap.objs.size:=let ⟨_,hn,_⟩:=I.loc;hn.lt
theorem Inv.sz(I:Inv X pins σ H s):X.s₀.heap.objs.size≤s.heap.objs.size:=Nat.le_trans I.ok.above (Nat.le_of_lt I.lt)
theorem Inv.M4(I:Inv X pins σ H s){a:Addr}(h:s.heap.objs.size≤a):a∉X.fs:=λhb=>by
 obtain⟨_,o,ho,_⟩:=I.ok.qe.mem hb
 exact absurd (Nat.lt_of_lt_of_le (Heap.lt_size ho) (Nat.le_trans I.sz h)) (Nat.lt_irrefl _)
theorem Inv.cne(I:Inv X pins σ H s):∀x c,X.env.cells.lookup x=some c→c≠X.env.locals:=λx c e z=>by
 obtain⟨v,o,ho,hd⟩:=I.cell x c e
 obtain⟨m,⟨o',es,ep,ho',hd',_⟩,_⟩:=I.loc
 rw[z,ho'] at ho;cases ho;rw[hd'] at hd;cases hd
theorem Inv.qe(I:Inv X pins σ H s):s.heap.FunFrames X.base X.outer:=by
 have all:∀(l:List Env),(∀b∈frs l,b∈X.fs)→X.s₀.heap.FunFrames X.base l→s.heap.FunFrames X.base l:=by
  intro l
  induction l with
  | nil=>intro _ _;trivial
  | cons env r ih =>
   intro hs hl
   obtain⟨hk,⟨L,o,hf,hn,ho,hd⟩,hr⟩:=hl
   have hL:L∈X.fs:=hs L (by unfold frs;rw[List.filterMap_cons,hf];exact List.mem_cons_self)
   obtain⟨sl,e⟩:=I.base.slot L o ho (I.ok.frf L hL) hL λz=>I.ok.E8 L z hL
   exact⟨hk,⟨L,_,hf,hn,e,hd⟩,ih (λb hb=>hs b (by unfold frs;rw[List.filterMap_cons,hf];exact List.mem_cons_of_mem _ hb)) hr⟩
 exact all X.outer (λ_ hb=>hb) I.ok.qe
theorem Inv.stack(I:Inv X pins σ H s):s.heap.FunFrames X.base X.stack:=by
 rcases I.ok.stk with e|⟨e,hf⟩
 ·rw[e];exact I.qe
 ·rw[e]
  obtain⟨m,hn,_⟩:=I.loc
  refine .cons (by rw[I.ok.kind];decide) hf hn ?_ I.qe
  exact Heap.get?_none_of_le (Nat.le_trans I.ok.bsz I.ok.above)
theorem Inv.uN(I:Inv X pins σ H s):∀b∈frs X.stack,b∈X.env.locals::X.fs:=λb hb=>by
 rcases I.ok.stk with e|⟨e,hf⟩
 ·rw[e] at hb;exact List.mem_cons_of_mem _ hb
 ·rw[e] at hb
  unfold frs at hb
  rw[List.filterMap_cons,hf] at hb
  exact hb
theorem Inv.zw(I:Inv X pins σ H s):∀b∈frs X.stack,H b=none:=λb hb=>by
 rcases List.mem_cons.mp (I.uN b hb) with e|hb
 ·rw[e];exact I.free
 ·obtain⟨_,o,ho,_⟩:=I.ok.qe.mem hb
  exact I.base.free b o ho (I.ok.frf b hb) λz=>I.ok.E8 b z hb
theorem Inv.step{g':Array GenState}{t':Nat}{d':Drawn}{ch:List Addr}(I:Inv X pins σ H s)
  (hch:∀b∈ch,(b∈X.ex∨X.s₀.heap.objs.size≤b)∧b≠X.env.locals∧(∀x c,X.env.cells.lookup x=some c→c≠b)∧∀p∈X.pn++pins,p.1≠b)
  (keep:∀b o,b≠X.env.locals→b∉X.fs→b∉ch→s.heap.get? b=some o→H b=none→h'.get? b=some o)
  (slot:∀b o,b≠X.env.locals→b∈X.fs→b∉ch→s.heap.get? b=some o→H b=none→∃sl,h'.get? b=some { o with slots:=sl }) (free:∀b o,b∉ch→s.heap.get? b=some o→H b=none→H' b=none)
  (there:∀b o,b∉ch→s.heap.get? b=some o→∃o',h'.get? b=some o')
  (sL:∀b xs,H b=some (.tup xs)→H' b=some (.tup xs)) (fq:∀b o u,H b=some (.frz o u)→H' b=some (.frz o u)) (sM:∀b ps,H b=some (.tbl ps)→∃more,H' b=some (.tbl (ps++more)))
  (ns:∀m,s.heap.Ns X.env.locals m→h'.Ns X.env.locals m) (hok:HOk X.prog X.w H' h') (hg:AllBare g') :
  Inv X pins σ H' { s with heap:=h',gens:=g',drawn:=d',toks:=t' }:=by
 have neL:∀b o,X.s₀.heap.get? b=some o→b≠X.env.locals:=λb o e=>Nat.ne_of_lt (Nat.lt_of_lt_of_le (Heap.lt_size e) I.ok.above)
 have neC:∀b o,X.s₀.heap.get? b=some o→b∉X.ex→b∉ch:=λb o e hx hb=>by
  rcases (hch b hb).1 with z|z
  ·exact hx z
  ·exact absurd (Nat.lt_of_lt_of_le (Heap.lt_size e) z) (Nat.lt_irrefl _)
 have cellK:∀x c,X.env.cells.lookup x=some c→∀v,s.heap.IsCell c v→h'.IsCell c v:=λx c e v aq=>by
  obtain⟨o,ho,hd⟩:=aq
  have nch:c∉ch:=λz=>(hch c z).2.2.1 x c e rfl
  by_cases hc:c∈X.fs
  ·obtain⟨sl,q⟩:=slot c o (I.cne x c e) hc nch ho (I.mO x c e)
   exact⟨_,q,hd⟩
  ·exact⟨o,keep c o (I.cne x c e) hc nch ho (I.mO x c e),hd⟩
 refine⟨I.ok,I.os,hg,⟨λb o e n hb hx=>?_,λb o e n hb hx=>?_,λb o e n hx=>?_,λb o e hx=>?_,λb xs e=>sL b xs (I.base.sL b xs e),λb o xs e=>fq b o xs (I.base.fq b o xs e),λb ps e=>?_⟩,?_,λx c e=>?_,?_,λx c e=>?_,λp hp=>?_,hok,I.len⟩
 ·exact keep b o (neL b o e) hb (neC b o e hx) (I.base.keep b o e n hb hx) (I.base.free b o e n hx)
 ·obtain⟨sl,e1⟩:=I.base.slot b o e n hb hx
  obtain⟨sl',e2⟩:=slot b _ (neL b o e) hb (neC b o e hx) e1 (I.base.free b o e n hx)
  exact⟨sl',e2⟩
 ·obtain⟨o',e1⟩:=I.base.there b o e hx
  exact free b o' (neC b o e hx) e1 (I.base.free b o e n hx)
 ·obtain⟨o',e1⟩:=I.base.there b o e hx
  exact there b o' (neC b o e hx) e1
 ·obtain⟨m1,e1⟩:=I.base.sM b ps e
  obtain⟨m2,e2⟩:=sM b _ e1
  exact⟨m1++m2,by rw[e2,Array.append_assoc]⟩
 ·obtain⟨m,hn,hl⟩:=I.loc
  refine⟨m,ns m hn,λi x v e1 e2 e3=>?_⟩
  obtain⟨u,r,l⟩:=hl i x v e1 e2 e3
  refine⟨u,r,?_⟩
  rcases l with l|⟨k,c,e,z⟩
  ·exact .inl l
  ·exact .inr ⟨k,c,e,cellK x c e _ z⟩
 ·obtain⟨v,z⟩:=I.cell x c e
  exact⟨v,cellK x c e v z⟩
 ·obtain⟨m,⟨o,_,_,ho,_⟩,_⟩:=I.loc
  exact free _ o (λz=>(hch _ z).2.1 rfl) ho I.free
 ·obtain⟨v,o,ho,hd⟩:=I.cell x c e
  exact free c o (λz=>(hch c z).2.2.1 x c e rfl) ho (I.mO x c e)
 ·obtain⟨e,n,ne,nf,d⟩:=I.pin p hp
  have nch:p.1∉ch:=λz=>(hch p.1 z).2.2.2 p hp rfl
  exact⟨keep p.1 p.2 ne nf nch e n,free p.1 p.2 nch e n,ne,nf,d⟩
theorem Inv.un{t':Nat}(I:Inv X pins σ H s)(u:Un X.fs [] H H' s.heap h')(hok:HOk X.prog X.w H' h'):Inv X pins σ H' { s with heap:=h',toks:=t' }:=by
 obtain⟨m,⟨o,es,ep,ho,r⟩,_⟩:=id I.loc
 obtain⟨sl,hL⟩:=u.any ho I.free (by simp)
 exact I.step (g':=s.gens) (d':=s.drawn) (ch:=[]) (λ_ z=>nomatch z) (λb o _ hb _ e n=>u.keep b o e n hb (by simp)) (λb o _ hb _ e n=>u.slot b o e n hb (by simp)) (λb o _ e n=>u.free b o e n (by simp)) (λb o _ e=>u.there b o e (by simp)) u.sL u.fq u.sM (λm' hm=>by
  obtain⟨o',es',ep',ho',r'⟩:=hm
  rw[ho] at ho';cases ho'
  exact⟨_,es',ep',hL,r'⟩) hok I.bare
theorem Inv.call{g':Array GenState}{t':Nat}{d':Drawn}{ch:List Addr}(I:Inv X pins σ H s)(u:Un (frs X.stack) ch H H' s.heap h')(hok:HOk X.prog X.w H' h')(hg:AllBare g')
  (hch:∀b∈ch,(b∈X.ex∨X.s₀.heap.objs.size≤b)∧b≠X.env.locals∧(∀x c,X.env.cells.lookup x=some c→c≠b)∧∀p∈X.pn++pins,p.1≠b) :
  Inv X pins σ H' { s with heap:=h',gens:=g',drawn:=d',toks:=t' }:=by
 obtain⟨m,⟨o,es,ep,ho,r⟩,_⟩:=id I.loc
 obtain⟨sl,hL⟩:=u.any ho I.free λz=>(hch _ z).2.1 rfl
 exact I.step (ch:=ch) hch (λb o hL hb hc e n=>u.keep b o e n (λz=>(List.mem_cons.mp (I.uN b z)).elim hL hb) hc) (λb o _ _ hc e n=>u.any e n hc) (λb o hc e n=>u.free b o e n hc) (λb o hc e=>u.there b o e hc) u.sL u.fq u.sM (λm' hm=>by
  obtain⟨o',es',ep',ho',r'⟩:=hm
  rw[ho] at ho';cases ho'
  exact⟨_,es',ep',hL,r'⟩) hok hg
theorem Inv.turned{t':Nat}{it:Addr}(I:Inv X pins σ H s)(k:∀b o,b≠it→s.heap.get? b=some o→h'.get? b=some o)(hn:H it=none)(hL:it≠X.env.locals)
  (h1:it∈X.ex∨X.s₀.heap.objs.size≤it) (h2:∀x c,X.env.cells.lookup x=some c→c≠it) (h3:∀p∈X.pn++pins,p.1≠it):Inv X pins σ H { s with heap:=h',toks:=t' }:=by
 have nit:∀b u,H b=some u→b≠it:=λb u e z=>by rw[z,hn] at e;cases e
 refine I.step (g':=s.gens) (d':=s.drawn) (ch:=[it]) (λb hb=>?_) (λb o _ _ hc e _=>k b o (λz=>hc (by simp[z])) e) (λb o _ _ hc e _=>⟨o.slots,k b o (λz=>hc (by simp[z])) e⟩) (λ_ _ _ _ n=>n)
  (λb o hc e=>⟨o,k b o (λz=>hc (by simp[z])) e⟩) (λ_ _ e=>e) (λ_ _ _ e=>e) (λb ps e=>⟨#[],by rw[e];simp⟩) (λm hm=>?_) (λb u e=>?_) I.bare
 ·have e:b=it:=by simpa using hb
  subst e
  exact⟨h1,hL,h2,h3⟩
 ·obtain⟨o,es,ep,ho,r⟩:=hm
  exact⟨o,es,ep,k _ o (Ne.symm hL) ho,r⟩
 ·refine (I.hok b u e).v_ (λc v hc q=>k c v ?_ q) (λ_ q=>q) λ_ _ q=>q
  rcases hc with z|z
  ·rw[z];exact nit b u e
  ·exact nit c _ z
theorem Inv.tok(I:Inv X pins σ H s)(t:Nat):Inv X pins σ H { s with toks:=t }:=I.un (h':=s.heap) (t':=t) Un.refl I.hok
theorem Inv.kept{t':Nat}(I:Inv X pins σ H s)(k:∀b u,s.heap.get? b=some u→h'.get? b=some u):Inv X pins σ H { s with heap:=h',toks:=t' }:=I.un (Un.kept k) (I.hok.kept k)
theorem Inv.laid{a:Addr}{o:HO}{t':Nat}(I:Inv X pins σ H s)(k:∀b u,s.heap.get? b=some u→h'.get? b=some u)(hp:s.heap.objs.size≤a)(new:eh X.prog X.w (upd H a o) h' a o) :
  Inv X pins σ (upd H a o) { s with heap:=h',toks:=t' }:=I.un (Un.laid k hp (I.hok.fresh hp)) (I.hok.laid k hp new)
theorem Inv.write{x e:Addr}{o:HO}{t':Nat}(I:Inv X pins σ H s)(mu:Mut (H x))(he:e=x∨H e=some (.own x))(k:∀b u,b≠e→s.heap.get? b=some u→h'.get? b=some u)(heo:∃u,h'.get? e=some u)
  (new:eh X.prog X.w (upd H x o) h' x o):Inv X pins σ (upd H x o) { s with heap:=h',toks:=t' }:=I.un (Un.write mu he k heo) (I.hok.write mu he k heo new)
theorem Inv.zx{Hj:List (Addr×Obj)}(I:Inv X pins σ H s)(h:∀p∈Hj,s.heap.get? p.1=some p.2∧H p.1=none∧p.1≠X.env.locals∧p.1∉X.fs∧∀v,p.2.data≠.cell v):Inv X Hj σ H s :=
 ⟨I.ok,I.os,I.bare,I.base,I.loc,I.cell,I.free,I.mO,λp hp=>(List.mem_append.mp hp).elim (λz=>I.pin p (List.mem_append_left _ z)) (h p),I.hok,I.len⟩
theorem wa{N:List Str}(hN:N.Nodup){i j:Nat}{x:Str}(a:N[i]?=some x)(b:N[j]?=some x):i=j:=by
 obtain⟨h1,e1⟩:=List.getElem?_eq_some_iff.mp a
 obtain⟨h2,e2⟩:=List.getElem?_eq_some_iff.mp b
 exact (List.getElem_inj hN).mp (e1.trans e2.symm)
theorem t4{M:Model}{A:Around}{E:Value→Shared→Prop}{i:Nat}{x:Str}{v:V}{u:Value}{Q:Unit→Shared→Prop}(I:Inv X pins σ H s)(hN:X.N.Nodup)(hi:X.N[i]?=some x)(hx:Loc X.env.scope x)(r:RelV v u)
  (h:∀s',Inv X pins (σ.set i (some v)) H s'→(∃a,Heap.SameBut a s.heap s'.heap∧(a=X.env.locals∨X.env.cells.lookup x=some a))→Q () s') (hf:X.fn x=true∨X.env.scope.names.lookup x=some .local:=by first|exact .inl rfl|exact .inr rfl|assumption):wpAny M A (storeName X.env x u) Q E s:=by
 obtain⟨m,hn,hl⟩:=id I.loc
 have M5:(X.env.scope.kind==.class || (X.env.scope.kind==.module && X.env.locals != X.env.globals))=false:=by rw[I.ok.kind];rfl
 have hiσ:i<σ.length:=by rw[I.len];exact (List.getElem?_eq_some_iff.mp hi).1
 have cne:=I.cne
 have tracked:∀{a:Addr}{h':Heap},(∃o,s.heap.get? a=some o∧H a=none)→Heap.SameBut a s.heap h'→HOk X.prog X.w H h':=λ{a h'} ha hs b ob e=>by
  obtain⟨_,_,Hk⟩:=ha
  refine (I.hok b ob e).v_ (λc w' hc q=>(hs.2 c ?_).trans q) (λ_ q=>q) λ_ _ q=>q
  rintro rfl
  rcases hc with rfl|hc
  ·rw[Hk] at e;cases e
  ·rw[Hk] at hc;cases hc
 rcases hx with hk|hk
 ·refine wpAny_storeName_local hk hn (λh' hn' hs=>?_) M5
  obtain⟨oL,_,_,hoL,_⟩:=id hn
  refine h _ ⟨I.ok,I.os,I.bare,⟨λb o e n hb hx=>?_,λb o e n hb hx=>?_,I.base.free,λb o e hx=>?_,I.base.sL,I.base.fq,I.base.sM⟩,⟨_,hn',λj y v' e1 e2 e3=>?_⟩,λy c e=>?_,I.free,I.mO,λp hp=>?_,tracked ⟨oL,hoL,I.free⟩ hs,by simpa using I.len⟩ ⟨_,hs,.inl rfl⟩
  ·exact (hs.2 b (Nat.ne_of_lt (Nat.lt_of_lt_of_le (Heap.lt_size e) I.ok.above))).trans (I.base.keep b o e n hb hx)
  ·obtain⟨sl,e1⟩:=I.base.slot b o e n hb hx
   exact⟨sl,(hs.2 b (Nat.ne_of_lt (Nat.lt_of_lt_of_le (Heap.lt_size e) I.ok.above))).trans e1⟩
  ·obtain⟨o',e1⟩:=I.base.there b o e hx
   exact⟨o',(hs.2 b (Nat.ne_of_lt (Nat.lt_of_lt_of_le (Heap.lt_size e) I.ok.above))).trans e1⟩
  ·by_cases hj:j=i
   ·subst hj
    rw[hi] at e1;cases e1
    rw[List.getElem?_set_self hiσ] at e2
    cases e2
    exact⟨u,r,.inl ⟨hk,by simp⟩⟩
   ·rw[List.getElem?_set_ne (Ne.symm hj)] at e2
    obtain⟨u',r',q⟩:=hl j y v' e1 e2 e3
    refine⟨u',r',?_⟩
    rcases q with ⟨k,e⟩|⟨k,c,e,z⟩
    ·refine .inl ⟨k,?_⟩
     have:y≠x:=λe=>hj (wa hN e1 (e ▸ hi))
     simp[this,e]
    ·exact .inr ⟨k,c,e,z.sameBut hs (cne y c e)⟩
  ·obtain⟨w',z⟩:=I.cell y c e
   exact⟨w',z.sameBut hs (cne y c e)⟩
  ·obtain⟨e,n,ne,nf,d⟩:=I.pin p hp
   exact⟨(hs.2 p.1 ne).trans e,n,ne,nf,d⟩
 ·have hfn:X.fn x=true:=by
   rcases hf with z|z
   ·exact z
   ·rw[z] at hk;cases hk
  obtain⟨c,hc⟩:=I.ok.has x (.inl hk)
  obtain⟨w',z⟩:=I.cell x c hc
  refine wpAny_storeName_cell I.ok.kind hk hc z (λh' hc' hs=>?_)
  obtain⟨oc,hoc,M6⟩:=id z
  refine h { s with heap:=h' } ⟨I.ok,I.os,I.bare,⟨λb o e n hb hx=>?_,λb o e n hb hx=>?_,I.base.free,λb o e hx=>?_,I.base.sL,I.base.fq,I.base.sM⟩,⟨m,hn.sameBut hs (Ne.symm (cne x c hc)),λj y v' e1 e2 e3=>?_⟩,λy c' e=>?_,I.free,I.mO,λp hp=>?_,tracked ⟨oc,hoc,I.mO x c hc⟩ hs,by simpa using I.len⟩ ⟨c,hs,.inr hc⟩
  ·exact (hs.2 b (Nat.ne_of_lt (Nat.lt_of_lt_of_le (Heap.lt_size e) (I.ok.cab x c hfn hc)))).trans (I.base.keep b o e n hb hx)
  ·obtain⟨sl,e1⟩:=I.base.slot b o e n hb hx
   exact⟨sl,(hs.2 b (Nat.ne_of_lt (Nat.lt_of_lt_of_le (Heap.lt_size e) (I.ok.cab x c hfn hc)))).trans e1⟩
  ·obtain⟨o',e1⟩:=I.base.there b o e hx
   exact⟨o',(hs.2 b (Nat.ne_of_lt (Nat.lt_of_lt_of_le (Heap.lt_size e) (I.ok.cab x c hfn hc)))).trans e1⟩
  ·by_cases hj:j=i
   ·subst hj
    rw[hi] at e1;cases e1
    rw[List.getElem?_set_self hiσ] at e2
    cases e2
    exact⟨u,r,.inr ⟨.inl hk,c,hc,hc'⟩⟩
   ·rw[List.getElem?_set_ne (Ne.symm hj)] at e2
    obtain⟨u',r',q⟩:=hl j y v' e1 e2 e3
    refine⟨u',r',?_⟩
    rcases q with q|⟨k,c',e,z'⟩
    ·exact .inl q
    ·refine .inr ⟨k,c',e,z'.sameBut hs ?_⟩
     rintro rfl
     exact hj (wa hN e1 (I.ok.inj _ _ _ e hc ▸ hi))
  ·by_cases hcc:c'=c
   ·subst hcc;exact⟨_,hc'⟩
   ·obtain⟨w2,z2⟩:=I.cell y c' e
    exact⟨w2,z2.sameBut hs hcc⟩
  ·obtain⟨e,n,ne,nf,d⟩:=I.pin p hp
   refine⟨(hs.2 p.1 ?_).trans e,n,ne,nf,d⟩
   intro q
   rw[q,hoc] at e
   have q':oc=p.2:=Option.some.inj e
   exact d w' (by rw[← q'];exact M6)
theorem wb{M:Model}{A:Around}{E:Value→Shared→Prop}{i:Nat}{x:Str}{v:V}{u:Value}{Q:Unit→Shared→Prop}(I:Inv X pins σ H s)(hN:X.N.Nodup)(hi:X.N[i]?=some x)(hx:Loc X.env.scope x)(r:RelV v u)
  (h:∀s',Inv X pins (σ.set i (some v)) H s'→Q () s') (hf:X.fn x=true∨X.env.scope.names.lookup x=some .local:=by first|exact .inl rfl|exact .inr rfl|assumption):wpAny M A (storeName X.env x u) Q E s :=
 t4 I hN hi hx r (λs' I' _=>h s' I') hf
theorem Inv.Ku{s':Shared}{ch:List Addr}(I:Inv X pins σ H s)(ho:s'.os=s.os)(u:Un (frs X.stack) ch H H' s.heap s'.heap)(hok:HOk X.prog X.w H' s'.heap)(hg:AllBare s'.gens)
  (hch:∀b∈ch,(b∈X.ex∨X.s₀.heap.objs.size≤b)∧b≠X.env.locals∧(∀x c,X.env.cells.lookup x=some c→c≠b)∧∀p∈X.pn++pins,p.1≠b):Inv X pins σ H' s':=by
 obtain⟨h',g',d',t',o'⟩:=s'
 have e:o'=s.os:=ho
 subst e
 exact I.call (g':=g') (t':=t') (d':=d') u hok hg hch
end
noncomputable abbrev XK := Value → Option Addr → Hp → Prop
noncomputable abbrev St := List (Option V)
noncomputable abbrev VK := V → Hp → Prop
noncomputable abbrev TE := St → Hp → VK → Prop
noncomputable abbrev TT := St → Hp → (Bool → Hp → Prop) → Prop
noncomputable abbrev TA := St → Hp → (List V → Hp → Prop) → Prop
structure Ends where
 nx:St→Hp→Prop
 rt:VK
 bk:St→Hp→Prop:=λ_ _=>False
 ct:St→Hp→Prop:=λ_ _=>False
noncomputable abbrev TS := Ends → St → Hp → Prop
def EP(X:Cx)(pins:List (Addr×Obj))(σ:St)(Q:VK)(u:Value)(s':Shared):Prop:=∃v H',Inv X pins σ H' s'∧RelV v u∧Q v H'
def TP(X:Cx)(pins:List (Addr×Obj))(σ:St)(Q:Bool→Hp→Prop)(b:Bool)(s':Shared):Prop:=∃H',Inv X pins σ H' s'∧Q b H'
def AP(X:Cx)(pins:List (Addr×Obj))(σ:St)(Q:List V→Hp→Prop)(us:List Value)(s':Shared):Prop:=∃vs H',Inv X pins σ H' s'∧Vals vs us∧Q vs H'
def SP(X:Cx)(pins:List (Addr×Obj))(D:Ends)(f:Flow)(s':Shared):Prop :=
 match f with
 | .next=>∃σ' H',Inv X pins σ' H' s'∧D.nx σ' H'
 | .brk=>∃σ' H',Inv X pins σ' H' s'∧D.bk σ' H'
 | .cont=>∃σ' H',Inv X pins σ' H' s'∧D.ct σ' H'
 | .ret u=>∃v σ' H',Inv X pins σ' H' s'∧RelV v u∧D.rt v H'
def PE(X:Cx)(e:Expr)(t:TE):Prop :=
 ∀(pins:List (Addr×Obj)) (s:Shared) (σ:St) (H:Hp) (Q:VK),Inv X pins σ H s→t σ H Q→wpAny (model X.prog X.w) X.A (eval e X.env) (EP X pins σ Q) X.xe s
def PT(X:Cx)(e:Expr)(t:TT):Prop :=
 ∀(pins:List (Addr×Obj)) (s:Shared) (σ:St) (H:Hp) (Q:Bool→Hp→Prop),Inv X pins σ H s→t σ H Q→wpAny (model X.prog X.w) X.A (isTrue e X.env (eval e X.env)) (TP X pins σ Q) X.xe s
def PW(X:Cx)(e:Expr)(t:TT):Prop :=
 ∀(whole:Sem Value) (pins:List (Addr×Obj)) (s:Shared) (σ:St) (H:Hp) (Q:Bool→Hp→Prop),Inv X pins σ H s→t σ H Q→wpAny (model X.prog X.w) X.A (isTrue e X.env whole) (TP X pins σ Q) X.xe s
theorem PW.pt{X:Cx}{e:Expr}{t:TT}(h:PW X e t):PT X e t:=h _
def PA(X:Cx)(es:List Expr)(t:TA):Prop :=
 ∀(pos:Pos) (pins:List (Addr×Obj)) (s:Shared) (σ:St) (H:Hp) (Q:List V→Hp→Prop),Inv X pins σ H s→t σ H Q→wpAny (model X.prog X.w) X.A (spliced (backTo pos (starEach es X.env))) (AP X pins σ Q) X.xe s
def PS(X:Cx)(st:Stmt)(t:TS):Prop :=
 ∀(pins:List (Addr×Obj)) (s:Shared) (σ:St) (H:Hp) (D:Ends),Inv X pins σ H s→t D σ H→wpAny (model X.prog X.w) X.A (exec st X.env) (SP X pins D) X.xe s
def PSs(X:Cx)(st:List Stmt)(t:TS):Prop :=
 ∀(pins:List (Addr×Obj)) (s:Shared) (σ:St) (H:Hp) (D:Ends),Inv X pins σ H s→t D σ H→wpAny (model X.prog X.w) X.A (execs st X.env) (SP X pins D) X.xe s
theorem thn{α:Type}{t:Sem α}{Q Q':α→Shared→Prop}{M:Model}{A:Around}{E:Value→Shared→Prop}{s:Shared}(h:wpAny M A t Q E s)(hQ:∀a s,Q a s→Q' a s):wpAny M A t Q' E s:=wpAny_mono h hQ λ_ _ x=>x
section
variable{X:Cx}
theorem bin{a b:Expr}{ta tb:TE}(ha:PE X a ta)(hb:PE X b tb){pins:List (Addr×Obj)}{s:Shared}{σ:St}{H:Hp}{R:V→V→Hp→Prop}(I:Inv X pins σ H s)(h:ta σ H λx H1=>tb σ H1 λy H2=>R x y H2)
  {α:Type}{Q:α→Shared→Prop}{f:Value→Value→Sem α}
  (hf:∀v u s2 x y H2,Inv X pins σ H2 s2→RelV x v→RelV y u→R x y H2→wpAny (model X.prog X.w) X.A (f v u) Q X.xe s2) :
  wpAny (model X.prog X.w) X.A (eval a X.env) (λv s₁=>wpAny (model X.prog X.w) X.A (eval b X.env) (λu s₂=>wpAny (model X.prog X.w) X.A (f v u) Q X.xe s₂) X.xe s₁) X.xe s:=by
 refine thn (ha pins s σ H _ I h) λv s1 aq=>?_
 obtain⟨x,H1,I1,r1,q1⟩:=aq
 refine thn (hb pins s1 σ H1 _ I1 q1) λu s2 cJ=>?_
 obtain⟨y,H2,I2,r2,q2⟩:=cJ
 exact hf v u s2 x y H2 I2 r1 r2 q2
def M7(i:Nat):TE:=λσ H Q=>∃v,σ[i]?=some (some v)∧Q v H
def tC(v:V):TE:=λ_ H Q=>Q v H
theorem xM{i:Nat}{x:Str}{pos:Pos}(hN:X.N[i]?=some x)(hv:Vis X.env.scope x)(hd:(x==("__debug__":Str))=false:=by decide)(hcd:(x==("__classdict__":Str))=false:=by decide):PE X (.Name x pos) (M7 i):=by
 intro pins s σ H Q I h
 obtain⟨v,e,h⟩:=h
 obtain⟨m,hn,hl⟩:=I.loc
 obtain⟨u,r,l⟩:=hl i x v hN e hv
 have fin:EP X pins σ Q u s:=⟨v,H,I,r,h⟩
 rcases l with ⟨hk,hm⟩|⟨hk,c,hc,t5⟩
 ·exact wpAny_Name (wpAny_loadName_local I.ok.kind hk hn hm fin) hd
 ·rcases hk with hk|hk
  ·exact wpAny_Name (wpAny_loadName_cell I.ok.kind hk hc t5 fin) hd
  ·exact wpAny_Name (wpAny_loadName_free I.ok.kind hk hc t5 fin hcd) hd
theorem HS{i j pos}:PE X (.Constant (.int i) j pos) (tC (.int i)):=λ_ _ _ H _ I h=>wpAny_Constant_int ⟨.int i,H,I.tok _,⟨_,rfl⟩,h⟩
theorem Kv{b j pos}:PE X (.Constant (.bool b) j pos) (tC (.bl b)):=λ_ _ _ H _ I h=>Constant_bool ⟨.bl b,H,I,rfl,h⟩
theorem HU{j pos}:PE X (.Constant .none j pos) (tC .non):=λ_ _ _ H _ I h=>Constant_none ⟨.non,H,I,rfl,h⟩
theorem HV{x j pos}:PE X (.Constant (.str x) j pos) (tC (.str x)):=λ_ _ _ H _ I h=>Calls.Constant_str ⟨.str x,H,I.tok _,⟨_,rfl⟩,h⟩
def Gl(X:Cx)(x:Str):Prop:=X.env.kindOf x=some .globalImplicit
theorem E9{E:Value→Shared→Prop}{pins:List (Addr×Obj)}{s:Shared}{σ:St}{H:Hp}{x:Str}{u:Value}{pos:Pos}{Q:Value→Shared→Prop}(I:Inv X pins σ H s)(hg:Gl X x)(hm:X.mg x=some u)(h:Q u s)
  (hd:(x==("__debug__":Str))=false:=by decide):wpAny (model X.prog X.w) X.A (eval (.Name x pos) X.env) Q E s :=
 Calls.Name_function_global I.ok.kind hg (Calls.loadGlobal_global (by rw[I.ok.glob];exact I.mod.glob.keeps I.bk) hm h) hd
theorem qw{E:Value→Shared→Prop}{pins:List (Addr×Obj)}{s:Shared}{σ:St}{H:Hp}{x:Str}{u:Value}{pos:Pos}{Q:Value→Shared→Prop}(I:Inv X pins σ H s)(hg:Gl X x)(hm:X.mg x=none)(hv:bootBuiltins x=some u)(h:Q u s)
  (hn:x≠"__name__":=by decide) (hd:(x==("__debug__":Str))=false:=by decide):wpAny (model X.prog X.w) X.A (eval (.Name x pos) X.env) Q E s:=by
 obtain⟨mb,h1,h2⟩:=I.mod.blt
 exact Calls.Name_function_global I.ok.kind hg (Calls.loadGlobal_builtin (by rw[I.ok.glob];exact I.mod.glob.keeps I.bk) hm (by rw[I.ok.blt];exact h1.keeps I.bk) ((h2 x hn).trans hv) h) hd
variable{a b:Expr}{ta tb:TE}{pos:Pos}
def PC(X:Cx)(op:CmpOp)(a b:Expr)(t:TE):Prop :=
 ∀(pins:List (Addr×Obj)) (s:Shared) (σ:St) (H:Hp) (Q:VK),Inv X pins σ H s→t σ H Q →
  wpAny (model X.prog X.w) X.A (eval a X.env) (λv s₁=>wpAny (model X.prog X.w) X.A (eval b X.env) (λu s₂=>wpAny (model X.prog X.w) X.A (compareOp op v u) (EP X pins σ Q) X.xe s₂) X.xe s₁) X.xe s
theorem Cs(b:Expr){op:CmpOp}(h:op≠.In)(h2:op≠.NotIn):behindInMarks op b=false:=by
 have e1:(op==CmpOp.In)=false:=by cases op<;>first|rfl|exact absurd rfl h
 have e2:(op==CmpOp.NotIn)=false:=by cases op<;>first|rfl|exact absurd rfl h2
 cases b<;>simp[behindInMarks,e1,e2]
def tB(t:TE):TT:=λσ H Q=>t σ H λx H1=>∃c,x=.bl c∧Q c H1
theorem HW{op:CmpOp}{t:TE}(h:PC X op a b t)(h1:behindInMarks op b=false:=by first|exact Cs _ (by decide) (by decide)|rfl):PT X (.Compare a [op] [b] pos) (tB t):=by
 intro pins s σ H Q I hw
 refine wpAny_isTrue_Compare1 (thn (h pins s σ H _ I hw) λv s1 h1=>thn h1 λu s2 h2=>thn h2 λc s3 aq=>?_) h1
 obtain⟨x,H1,I1,r1,q1⟩:=aq
 obtain⟨d,rfl,q⟩:=q1
 cases r1
 exact wpAny_truthy_bool ⟨H1,I1,q⟩
theorem HX{e:Expr}{t:TE}(h:PE X e t)(he:∀whole,isTrue e X.env whole=(do let v ← whole;standAt e.pos;holding [v] (truthy v)):=by intro _;rfl):PT X e (tB t):=by
 intro pins s σ H Q I hw
 refine isTrue_plain (thn (h pins s σ H _ I hw) λv s1 aq=>?_) (he _)
 obtain⟨x,H1,I1,r1,q1⟩:=aq
 obtain⟨d,rfl,q⟩:=q1
 cases r1
 exact wpAny_truthy_bool ⟨H1,I1,q⟩
variable{tA tB':TT}{rest:List Expr}
def tOr(t u:TT):TT:=λσ H Q=>t σ H λc H1=>if c=true then Q true H1 else u σ H1 Q
def M8(t:TT):TT:=λσ H Q=>t σ H λc H1=>Q (!c) H1
theorem HY(ha:PT X a tA):PW X (.BoolOp .Or [a] pos) tA:=by
 intro wh pins s σ H Q I h
 refine isTrue_or (thn (ha pins s σ H Q I h) λc s1 e=>?_)
 cases c with
 | false=>exact isTrue_or_nil e
 | true=>exact e
theorem Kw(ha:PT X a tA)(hb:PW X (.BoolOp .Or (b::rest) pos) tB'):PW X (.BoolOp .Or (a::b::rest) pos) (tOr tA tB'):=by
 intro wh pins s σ H Q I h
 refine isTrue_or (thn (ha pins s σ H _ I h) λc s1 aq=>?_)
 obtain⟨H1,I1,q1⟩:=aq
 cases c with
 | true=>exact⟨H1,I1,q1⟩
 | false=>exact hb wh pins s1 σ H1 Q I1 q1
theorem HZ(ha:PT X a tA):PT X (.UnaryOp .Not a pos) (M8 tA):=by
 intro pins s σ H Q I h
 exact isTrue_not (ha pins s σ H (λc H1=>Q (!c) H1) I h)
def Kx(ta tb:TE):TE:=λσ H Q=>ta σ H λx H1=>∃c,x=.bl c∧if c=true then tb σ H1 Q else Q (.bl false) H1
def M9(ta tb:TE):TE:=λσ H Q=>ta σ H λx H1=>∃c,x=.bl c∧if c=true then Q (.bl true) H1 else tb σ H1 Q
theorem H_{op}{t:TE}(h:PE X a t):PE X (.BoolOp op [a] pos) t:=λpins s σ H Q I hw=>BoolOp_one (h pins s σ H Q I hw)
theorem Ia(ha:PE X a ta)(hb:PE X (.BoolOp .And (b::rest) pos) tb):PE X (.BoolOp .And (a::b::rest) pos) (Kx ta tb):=by
 intro pins s σ H Q I h
 refine BoolOp_and (thn (ha pins s σ H _ I h) λv s1 aq=>?_)
 obtain⟨x,H1,I1,r1,q1⟩:=aq
 obtain⟨c,rfl,q1⟩:=q1
 cases r1
 refine wpAny_truthy_bool ?_
 cases c with
 | true=>exact hb pins s1 σ H1 Q I1 q1
 | false=>exact⟨.bl false,H1,I1,rfl,q1⟩
theorem Ky(ha:PE X a ta)(hb:PE X (.BoolOp .Or (b::rest) pos) tb):PE X (.BoolOp .Or (a::b::rest) pos) (M9 ta tb):=by
 intro pins s σ H Q I h
 refine BoolOp_or (thn (ha pins s σ H _ I h) λv s1 aq=>?_)
 obtain⟨x,H1,I1,r1,q1⟩:=aq
 obtain⟨c,rfl,q1⟩:=q1
 cases r1
 refine wpAny_truthy_bool ?_
 cases c with
 | false=>exact hb pins s1 σ H1 Q I1 q1
 | true=>exact⟨.bl true,H1,I1,rfl,q1⟩
def tIf(t:TT)(ta tb:TE):TE:=λσ H Q=>t σ H λc H1=>if c=true then ta σ H1 Q else tb σ H1 Q
theorem Ct{c:Expr}(hc:PT X c tA)(ha:PE X a ta)(hb:PE X b tb):PE X (.IfExp c a b pos) (tIf tA ta tb):=by
 intro pins s σ H Q I h
 refine wpAny_IfExp (thn (hc pins s σ H _ I h) λd s1 aq=>?_)
 obtain⟨H1,I1,q1⟩:=aq
 cases d with
 | true=>exact ha pins s1 σ H1 Q I1 q1
 | false=>exact hb pins s1 σ H1 Q I1 q1
end
def SqL(K:PySem.W.Frag)(H:Hp)(a:Addr)(xs:List V):Prop :=
 Rd H a (.lst xs) ∨
  ∃(o:Obj) (its:Array Value) (n:Nat),K.lookup a=some o∧o.cls=.type "list"∧o.dict=none∧o.data=.seq its n∧its.size≤sizeLine∧Vals xs its.toList
def SqT(K:PySem.W.Frag)(H:Hp)(a:Addr)(xs:List V):Prop :=
 H a=some (.tup xs)
def M_:Value→Option V
 | .none=>some .non
 | .bool b=>some (.bl b)
 | .int i _=>some (.int i)
 | .str x _=>some (.str x)
 | .bytes b _=>some (.byt b)
 | .float b _=>some (.flt b)
 | .ref a=>some (.ref a)
 | .type n=>some (.ty n)
 | _=>none
theorem RelV.abs{x:V}{u:Value}(r:RelV x u):M_ u=some x:=by
 cases x with
 | non=>cases r;rfl
 | bl _=>cases r;rfl
 | int _=>obtain⟨t,rfl⟩:=r;rfl
 | str _=>obtain⟨t,rfl⟩:=r;rfl
 | byt _=>obtain⟨t,rfl⟩:=r;rfl
 | flt _=>obtain⟨t,rfl⟩:=r;rfl
 | ref _=>cases r;rfl
 | ty _=>cases r;rfl
theorem RelV.inj{x y:V}{u:Value}(r:RelV x u)(q:RelV y u):x=y:=Option.some.inj (r.abs.symm.trans q.abs)
theorem Vals.inj:∀{xs ys:List V}{us:List Value},Vals xs us→Vals ys us→xs=ys
 | _,_,_,.nil,.nil=>rfl
 | _,_,_,.cons r t,.cons r' t'=>by rw[r.inj r',Vals.inj t t']
section
variable{X:Cx}{pins:List (Addr×Obj)}{σ:St}{H:Hp}{s:Shared}{a:Addr}{xs ys:List V}
theorem SqL.of{K:PySem.W.Frag}(h:H a=some (.lst xs)):SqL K H a xs:=.inl (.inl h)
theorem SqT.of{K:PySem.W.Frag}(h:H a=some (.tup xs)):SqT K H a xs:=h
theorem Inv.list(I:Inv X pins σ H s)(h:SqL X.K H a xs):∃its:List Value,Vals xs its∧PlainL s.heap a its.toArray∧xs.length≤sizeLine:=by
 rcases h with h|⟨o,its,n,hk,hc,hd,hs,hz,r⟩
 ·obtain⟨z,its,n,r,e⟩:=h.ok I.hok
  exact⟨its,r,⟨_,n,e,rfl,rfl,rfl⟩,z⟩
 ·refine⟨its.toList,r,⟨o,n,I.kIn a o hk,hc,hd,by simpa using hs⟩,?_⟩
  have e:=r.length
  simp only[Array.length_toList] at e
  lia
theorem Inv.tuple(I:Inv X pins σ H s)(h:SqT X.K H a xs):∃its:List Value,Vals xs its∧IsTup s.heap a its.toArray∧xs.length≤sizeLine:=by
 obtain⟨z,its,r,p⟩:=(show eh X.prog X.w H s.heap a (.tup xs) from I.hok a _ h)
 exact⟨its,r,p,z⟩
theorem Inv.wc(I:Inv X pins σ H s)(h:SqL X.K H a xs)(h':SqL X.K H a ys):xs=ys:=by
 obtain⟨its,r,⟨o,n,e,_,_,d⟩,_⟩:=I.list h
 obtain⟨its',r',⟨o',n',e',_,_,d'⟩,_⟩:=I.list h'
 rw[e] at e';cases e'
 rw[d] at d'
 injection d' with d1 _
 have:its=its':=by simpa using congrArg Array.toList d1
 subst this
 exact r.inj r'
theorem Inv.t6(I:Inv X pins σ H s)(h:SqT X.K H a xs)(h':SqT X.K H a ys):xs=ys:=by
 obtain⟨its,r,⟨o,e,_,n,d⟩,_⟩:=I.tuple h
 obtain⟨its',r',⟨o',e',_,n',d'⟩,_⟩:=I.tuple h'
 rw[e] at e';cases e'
 rw[d] at d'
 injection d' with d1 _
 have:its=its':=by simpa using congrArg Array.toList d1
 subst this
 exact r.inj r'
end
noncomputable abbrev Cx.sN (X : Cx) (E : Value → Shared → Prop) : Cx := { X with xe := E }
noncomputable abbrev Cx.nox (X : Cx) : Cx := X.sN fun _ _ => False
theorem Cx.Ok.sN{X:Cx}(ok:X.Ok)(E:Value→Shared→Prop):(X.sN E).Ok :=
 ⟨ok.mod,ok.kind,ok.glob,ok.blt,ok.above,ok.inj,ok.has,ok.cab,ok.hd,ok.frames,ok.stk,ok.exf,ok.bs,ok.bsz,ok.AX,ok.E8,ok.qe,ok.frf⟩
theorem Cx.Ok.lx{X:Cx}{E:Value→Shared→Prop}(ok:(X.sN E).Ok):X.Ok :=
 ⟨ok.mod,ok.kind,ok.glob,ok.blt,ok.above,ok.inj,ok.has,ok.cab,ok.hd,ok.frames,ok.stk,ok.exf,ok.bs,ok.bsz,ok.AX,ok.E8,ok.qe,ok.frf⟩
section
variable{X:Cx}{pins:List (Addr×Obj)}{σ:St}{H:Hp}{s:Shared}{E:Value→Shared→Prop}
theorem Inv.sN(I:Inv X pins σ H s)(E:Value→Shared→Prop):Inv (X.sN E) pins σ H s:=⟨I.ok.sN E,I.os,I.bare,I.base,I.loc,I.cell,I.free,I.mO,I.pin,I.hok,I.len⟩
theorem Inv.lx(I:Inv (X.sN E) pins σ H s):Inv X pins σ H s:=⟨I.ok.lx,I.os,I.bare,I.base,I.loc,I.cell,I.free,I.mO,I.pin,I.hok,I.len⟩
theorem SP.lx{D:Ends}{f:Flow}{s':Shared}(h:SP (X.sN E) pins D f s'):SP X pins D f s':=by
 cases f with
 | next=>obtain⟨σ',H',I,q⟩:=h;exact⟨σ',H',I.lx,q⟩
 | brk=>obtain⟨σ',H',I,q⟩:=h;exact⟨σ',H',I.lx,q⟩
 | cont=>obtain⟨σ',H',I,q⟩:=h;exact⟨σ',H',I.lx,q⟩
 | ret u=>obtain⟨v,σ',H',I,r,q⟩:=h;exact⟨v,σ',H',I.lx,r,q⟩
theorem PSs.nox{st:List Stmt}{t:TS}(h:PSs X.nox st t):PSs X st t:=λpins s σ H D I hw =>
 wpAny_mono (h pins s σ H D (I.sN _) hw) (λ_ _ q=>q.lx) λ_ _ z=>False.elim z
end
section
variable{X:Cx}{st:Stmt}{rest:List Stmt}{t u:TS}{e:Expr}{te:TE}{pos:Pos}
def Kz:TS:=λD σ H=>D.nx σ H
def Na(t u:TS):TS:=λD σ H=>t { D with nx:=u D } σ H
theorem E_:PSs X [] Kz:=λ_ _ σ H _ I h=>wpAny_execs_nil ⟨σ,H,I,h⟩
theorem Cu(h1:PS X st t)(h2:PSs X rest u):PSs X (st::rest) (Na t u):=by
 intro pins s σ H D I h
 refine wpAny_execs_cons (thn (h1 pins s σ H { D with nx:=u D } I h) λf s1 q=>?_)
 cases f with
 | next =>
  obtain⟨σ',H',I',q⟩:=q
  exact h2 pins s1 σ' H' D I' q
 | ret v=>exact q
 | brk=>exact q
 | cont=>exact q
theorem Fb(h1:PS X st t):PSs X [st] t:=by
 intro pins s σ H D I h
 refine wpAny_execs_cons (thn (h1 pins s σ H D I h) λf s1 q=>?_)
 cases f with
 | next=>exact wpAny_execs_nil q
 | ret v=>exact q
 | brk=>exact q
 | cont=>exact q
theorem Inv.quiet{pins:List (Addr×Obj)}{σ:St}{H:Hp}{s:Shared}(I:Inv X pins σ H s):interactive X.env=false:=by simp[interactive,I.ok.kind]
def KA(te:TE):TS:=λD σ H=>te σ H λ_ H1=>D.nx σ H1
theorem zy(he:PE X e te)(hs:swapsWith e none pos.line X.env=pure false:=by rfl):PS X (.Expr e pos) (KA te):=by
 intro pins s σ H D I h
 exact wpAny_Expr_any (thn (he pins s σ H _ I h) λv s1 ⟨x,H1,I1,r1,q1⟩=>⟨σ,H1,I1,q1⟩) I.quiet hs
def Nb(te:TE):TS:=λD σ H=>te σ H D.rt
theorem Ib(he:PE X e te):PS X (.Return (some e) pos) (Nb te):=by
 intro pins s σ H D I h
 exact wpAny_Return_some (thn (he pins s σ H _ I h) λv s1 ⟨x,H1,I1,r1,q1⟩=>⟨x,σ,H1,I1,r1,q1⟩)
def Nc(c:TT)(t u:TS):TS:=λD σ H=>c σ H λb H1=>if b=true then t D σ H1 else u D σ H1
theorem KC{c:Expr}{a b:List Stmt}{tc:TT}(hc:PT X c tc)(ha:PSs X a t)(hb:PSs X b u):PS X (.If c a b pos) (Nc tc t u):=by
 intro pins s σ H D I h
 refine wpAny_If (thn (hc pins s σ H _ I h) λd s1 aq=>?_)
 obtain⟨H1,I1,q1⟩:=aq
 cases d with
 | true=>exact ha pins s1 σ H1 D I1 q1
 | false=>exact hb pins s1 σ H1 D I1 q1
def Ic:TS:=λ_ _ _=>False
theorem Cv:PS X st Ic:=λ_ _ _ _ _ _ h=>h.elim
end
noncomputable abbrev TG := V → St → Hp → (St → Hp → Prop) → Prop
noncomputable abbrev TGs := List V → St → Hp → (St → Hp → Prop) → Prop
def PG(X:Cx)(target:Expr)(t:TG):Prop :=
 ∀(pins:List (Addr×Obj)) (s:Shared) (σ:St) (H:Hp) (v:V) (u:Value) (Q:St→Hp→Prop),Inv X pins σ H s→RelV v u→t v σ H Q →
  wpAny (model X.prog X.w) X.A (assign target X.env u) (λ_ s'=>∃σ' H',Inv X pins σ' H' s'∧Q σ' H') X.xe s
def PGs(X:Cx)(ts:List Expr)(t:TGs):Prop :=
 ∀(pins:List (Addr×Obj)) (s:Shared) (σ:St) (H:Hp) (vs:List V) (us:List Value) (Q:St→Hp→Prop),Inv X pins σ H s→Vals vs us→t vs σ H Q →
  wpAny (model X.prog X.w) X.A (assignInOrder ((assignEach ts X.env).map (·.2)) us) (λ_ s'=>∃σ' H',Inv X pins σ' H' s'∧Q σ' H') X.xe s
noncomputable abbrev Ie := V → V → V → Hp → (Hp → Prop) → Prop
def KD(X:Cx)(t:Ie):Prop :=
 ∀(pins:List (Addr×Obj)) (s:Shared) (σ:St) (H:Hp) (o i v:V) (ov iv u:Value) (Q:Hp→Prop),Inv X pins σ H s→RelV o ov→RelV i iv→RelV v u→t o i v H Q →
  wpAny (model X.prog X.w) X.A (setItem ov iv u) (λ_ s'=>∃H',Inv X pins σ H' s'∧Q H') X.xe s
section
variable{X:Cx}{pos:Pos}
def Cw(i:Nat):TG:=λv σ H Q=>Q (σ.set i (some v)) H
theorem mB{i:Nat}{x:Str}(hN:X.N.Nodup)(hi:X.N[i]?=some x)(hx:Loc X.env.scope x)(hf:X.fn x=true∨X.env.scope.names.lookup x=some .local:=by first|exact .inl rfl|exact .inr rfl|assumption):PG X (.Name x pos) (Cw i):=by
 intro pins s σ H v u Q I r h
 exact wpAny_assign_Name (wb I hN hi hx r (λs' I'=>⟨_,H,I',h⟩) hf)
def Nd:TGs:=λvs σ H Q=>vs=[]∧Q σ H
def KG(t:TG)(u:TGs):TGs:=λvs σ H Q=>∃v r,vs=v::r∧t v σ H λσ' H'=>u r σ' H' Q
theorem zA:PGs X [] Nd:=by
 intro pins s σ H vs us Q I r h
 obtain⟨e,h⟩:=h
 subst e
 cases r
 exact assignInOrder_nil ⟨σ,H,I,h⟩
theorem ly{e:Expr}{es:List Expr}{t:TG}{u:TGs}(h1:PG X e t)(h2:PGs X es u)
  (hs:(assignEach (e::es) X.env).map (·.2)=assign e X.env::(assignEach es X.env).map (·.2):=by rfl):PGs X (e::es) (KG t u):=by
 intro pins s σ H vs us Q I r h
 obtain⟨v,vr,e1,h⟩:=h
 subst e1
 cases r with
 | cons r rr =>
  rw[hs]
  refine assignInOrder_cons (thn (h1 pins s σ H _ _ _ I r h) λ_ s1 aq=>?_)
  obtain⟨σ1,H1,I1,q1⟩:=aq
  exact h2 pins s1 σ1 H1 _ _ Q I1 rr q1
def Nf(K:PySem.W.Frag)(n:Nat)(t:TGs):TG:=λv σ H Q=>∃a xs,v=.ref a∧SqT K H a xs∧xs.length=n∧t xs σ H Q
theorem Cy{es:List Expr}{k:Nat}{t:TGs}{n:Nat}(hc:X.calm=true)(h:PGs X es t)
  (hn:(assignEach es X.env).length=n:=by rfl) (hst:(assignEach es X.env).findIdx? (·.1)=none:=by rfl):PG X (.Tuple es k pos) (Nf X.K n t):=by
 intro pins s σ H v u Q I r hw
 obtain⟨a,xs,e1,hq,hl,hw⟩:=hw
 subst e1
 cases r
 obtain⟨its,rv,ht,hz⟩:=I.tuple hq
 refine assign_Tuple_tuple (I.ok.hd hc) ht (by simp[hn,← hl,rv.length]) hst λh' hx=>?_
 have I1:Inv X pins σ H { s with heap:=h' }:=I.kept (t':=s.toks) λb o e=>hx b o (Nat.ne_of_lt (Heap.lt_size e)) e
 exact h pins _ σ H xs _ Q I1 (by simpa using rv) hw
def Ng(to ti:TE)(t:Ie):TG:=λv σ H Q=>to σ H λo H1=>ti σ H1 λi H2=>t o i v H2 λH3=>Q σ H3
theorem Ig{o i:Expr}{to ti:TE}{t:Ie}(ho:PE X o to)(hi:PE X i ti)(hs:KD X t)
  (ha:∀v,assign (.Subscript o i pos) X.env v=(do
   let ov ← holding [v] (eval o X.env)
   let iv ← holding [v,ov] (eval i X.env)
   standAt pos
   holding [v,ov,iv] (setItem ov iv v)
   release [v,ov,iv] []):=by intro _;rfl):PG X (.Subscript o i pos) (Ng to ti t):=by
 intro pins s σ H v u Q I r h
 rw[ha]
 refine wpAny_bind (wpAny_holding (thn (ho pins s σ H _ I h) λov s1 aq=>?_))
 obtain⟨x,H1,I1,r1,q1⟩:=aq
 refine wpAny_bind (wpAny_holding (thn (hi pins s1 σ H1 _ I1 q1) λiv s2 cJ=>?_))
 obtain⟨y,H2,I2,r2,q2⟩:=cJ
 refine wpAny_bind (wpAny_standAt (wpAny_bind (wpAny_holding (thn (hs pins s2 σ H2 x y v ov iv u _ I2 r1 r2 r q2) λ_ s3 qx=>?_))))
 obtain⟨H3,I3,q3⟩:=qx
 exact wpAny_release ⟨σ,H3,I3,q3⟩
def Ih(te:TE)(g:TG):TS:=λD σ H=>te σ H λx H1=>g x σ H1 D.nx
theorem Cz{tg e:Expr}{te:TE}{g:TG}(he:PE X e te)(hg:PG X tg g)(hs:swapsWithSole [tg] e pos.line X.env=pure false:=by rfl)(hw:swappedStores [tg] e X.env=pure none:=by rfl)
  (h1:(assignEach [tg] X.env).map (·.2)=[assign tg X.env]:=by rfl):PS X (.Assign [tg] e pos) (Ih te g):=by
 intro pins s σ H D I h
 refine wpAny_Assign_stores (thn (he pins s σ H _ I h) λv s1 aq=>?_) hs hw
 obtain⟨x,H1,I1,r1,q1⟩:=aq
 rw[h1]
 exact thn (hg pins s1 σ H1 x v _ I1 r1 q1) λ_ s2 q=>q
theorem Ii{i:Nat}{x:Str}{e:Expr}{te:TE}{pos':Pos}(hN:X.N.Nodup)(hi:X.N[i]?=some x)(hx:Loc X.env.scope x)(he:PE X e te)(hs:swapsWith e (some (.Name x pos')) pos.line X.env=pure false:=by rfl)(hf:X.fn x=true∨X.env.scope.names.lookup x=some .local:=by first|exact .inl rfl|exact .inr rfl|assumption) :
  PS X (.Assign [.Name x pos'] e pos) (Ih te (Cw i)):=by
 intro pins s σ H D I h
 refine wpAny_Assign_Name (thn (he pins s σ H _ I h) λv s1 aq=>?_) hs
 obtain⟨y,H1,I1,r1,q1⟩:=aq
 exact wb I1 hN hi hx r1 (λs2 I2=>⟨_,H1,I2,q1⟩) hf
end
section
variable{X:Cx}{pos:Pos}
def Ij(c:TT)(tb:TS):TS:=λD σ H=>∃W:Nat→St→Hp→Prop,(∃m,W m σ H)∧∀m σ H,W m σ H →
 c σ H λb H1=>if b=true then ∃N:St→Hp→Prop,(∀σ' H',N σ' H'→∃m',m'<m∧W m' σ' H')∧tb { D with nx:=N,ct:=N,bk:=D.nx } σ H1 else D.nx σ H1
theorem CC{c:Expr}{body:List Stmt}{tc:TT}{tb:TS}(hp:PassesOwn (model X.prog X.w) X.A X.env X.xe)(hc:PT X c tc)(hb:PSs X body tb):PS X (.While c body [] pos) (Ij tc tb):=by
 intro pins s σ H D I h
 obtain⟨W,⟨m0,w0⟩,turn⟩:=h
 refine wpAny_While (codeAny_whileLoop (λn s'=>∃σ' H',Inv X pins σ' H' s'∧W n σ' H') ?_ m0 ⟨σ,H,I,w0⟩)
 rintro n s1 ⟨σ1,H1,I1,w1⟩
 refine wpAny_passesOwn hp (thn (hc pins s1 σ1 H1 _ I1 (turn n σ1 H1 w1)) λb s2 aq=>?_)
 obtain⟨H2,I2,q2⟩:=aq
 cases b with
 | true =>
  obtain⟨N,hN,q2⟩:=q2
  rw[if_pos rfl]
  refine wpAny_passesOwn hp (thn (hb pins s2 σ1 H2 _ I2 q2) λf s3 q3=>?_)
  cases f with
  | next =>
   obtain⟨σ3,H3,I3,n3⟩:=q3
   obtain⟨m',hm,w3⟩:=hN σ3 H3 n3
   exact⟨m',hm,σ3,H3,I3,w3⟩
  | cont =>
   obtain⟨σ3,H3,I3,n3⟩:=q3
   obtain⟨m',hm,w3⟩:=hN σ3 H3 n3
   exact⟨m',hm,σ3,H3,I3,w3⟩
  | brk=>exact q3
  | ret v=>exact q3
 | false =>
  rw[if_neg Bool.false_ne_true]
  exact wpAny_execs_nil ⟨σ1,H2,I2,q2⟩
end
structure It where
 go:Nat→Hp→Prop
 yld:Nat→Hp→V→Hp→Prop
 stop:Nat→Hp→Prop
def lA(X:Cx)(pins:List (Addr×Obj))(H:Hp)(b:Addr):Prop :=
 H b=none∧b≠X.env.locals∧b∉X.fs∧(b∈X.ex∨X.s₀.heap.objs.size≤b)∧(∀x c,X.env.cells.lookup x=some c→c≠b)∧∀p∈X.pn++pins,p.1≠b
theorem Inv.xN{X:Cx}{pins:List (Addr×Obj)}{σ:St}{H H':Hp}{s:Shared}{b:Addr}(I:Inv X pins σ H s)(hb:s.heap.objs.size≤b)(hn:H' b=none):lA X pins H' b:=by
 refine⟨hn,Nat.ne_of_gt (Nat.lt_of_lt_of_le I.lt hb),I.M4 hb,.inr (Nat.le_trans I.sz hb),λx c e z=>?_,λp hp z=>?_⟩
 ·obtain⟨v,q⟩:=I.cell x c e
  exact absurd (Nat.lt_of_lt_of_le q.lt (by rw[z];exact hb)) (Nat.lt_irrefl _)
 ·exact absurd (Nat.lt_of_lt_of_le (Heap.lt_size (I.pin p hp).1) (by rw[z];exact hb)) (Nat.lt_irrefl _)
structure Turn(P:Program)(w:World)(K:PySem.W.Frag)(tg:Expr)(J:It)(fp:List Addr)(it:Addr)(tn:Nat→Heap→Prop):Prop where
 mem:it∈fp
 obj:∀i h,tn i h→∀b∈fp,∃o,h.get? b=some o∧∀v,o.data≠.cell v
 keep:∀i h h',tn i h→(∀b∈fp,∀o,h.get? b=some o→h'.get? b=some o)→tn i h'
 item:∀(X:Cx),X.prog=P→X.w=w→X.K=K→X.calm=true→∀(i:Nat) (pins:List (Addr×Obj)) (s:Shared) (σ:St) (H:Hp) (E:Value→Shared→Prop),Inv X pins σ H s→(∀b∈fp,lA X pins H b)→tn i s.heap→J.go i H →
  wpAny (model P w) X.A (pyNext (.ref it)) (λr s1=>∃u,r=some u ∧
   wpAny (model P w) X.A (letOwnedTupleGo tg (.ref it) u) (λ_ s2=>∃x H',Inv X pins σ H' s2∧RelV x u∧J.yld i H x H'∧tn (i+1) s2.heap∧∀b∈fp,H' b=none) E s1) E s
 done:∀(X:Cx),X.prog=P→X.w=w→X.K=K→X.calm=true→∀(i:Nat) (pins:List (Addr×Obj)) (s:Shared) (σ:St) (H:Hp) (E:Value→Shared→Prop),Inv X pins σ H s→(∀b∈fp,lA X pins H b)→tn i s.heap→J.stop i H →
  wpAny (model P w) X.A (pyNext (.ref it)) (λr s1=>r=none∧Inv X pins σ H s1) E s
 self:∀(A:Around) (i:Nat) (s:Shared) (Q:Value→Shared→Prop) (E:Value→Shared→Prop),tn i s.heap→Q (.ref it) s→wpAny (model P w) A (pyIter (.ref it)) Q E s
noncomputable abbrev TI := St → Hp → (It → Hp → Prop) → Prop
def PIE(X:Cx)(pins:List (Addr×Obj))(σ:St)(tg:Expr)(R:It→Hp→Prop)(itv:Value)(s2:Shared):Prop :=
 ∃(it:Addr) (fp:List Addr) (tn:Nat→Heap→Prop) (J:It) (H':Hp),itv=.ref it∧Inv X pins σ H' s2∧Turn X.prog X.w X.K tg J fp it tn∧tn 0 s2.heap∧(∀b∈fp,lA X pins H' b)∧R J H'
def PI(X:Cx)(tg iter:Expr)(wi:TI):Prop :=
 ∀(pins:List (Addr×Obj)) (s:Shared) (σ:St) (H:Hp) (R:It→Hp→Prop),Inv X pins σ H s→wi σ H R →
  wpAny (model X.prog X.w) X.A (eval iter X.env) (λv s1=>wpAny (model X.prog X.w) X.A (pyIter v) (PIE X pins σ tg R) X.xe s1) X.xe s
theorem CD {M : Model} {A : Around} {E : Value → Shared → Prop} {s : Shared} {tg : Expr} {it : Addr} {u : Value} {o : Obj} {n : String} {vs : Array Value} {Q : Unit → Shared → Prop} (ho : s.heap.get? it = some o) (hc : o.cls = .type n) (hd : o.data = .fields vs)
    (hn : ["enumerate", "zip", "dict_itemiterator", "dict_reverseitemiterator", "odict_iterator", "itertools.zip_longest", "itertools.pairwise"].contains n = false) (hQ : Q () s) : wpAny M A (letOwnedTupleGo tg (.ref it) u) Q E s := by
  unfold letOwnedTupleGo
  cases tg <;> first
    | exact wpAny_pure hQ
    | (cases u <;> first
        | exact wpAny_pure hQ
        | (refine wpAny_bind (wpAny_load ho ?_)
           rw [hc, hd]
           show wpAny M A (if (["enumerate", "zip", "dict_itemiterator", "dict_reverseitemiterator", "odict_iterator", "itertools.zip_longest", "itertools.pairwise"].contains n && vs[0]? == some (rawInt _)) = true then _ else _) Q E s
           rw [if_neg (by intro h; rw [hn, Bool.false_and] at h; cases h)]
           exact wpAny_pure hQ))
def Itl(K:PySem.W.Frag)(a:Addr):It :=
 ⟨λi H=>∃xs x,SqL K H a xs∧xs[i]?=some x,λi H x H'=>H'=H∧∀xs,SqL K H a xs→xs[i]?=some x,λi H=>∃xs,SqL K H a xs∧xs.length≤i⟩
def Itt(K:PySem.W.Frag)(a:Addr):It :=
 ⟨λi H=>∃xs x,SqT K H a xs∧xs[i]?=some x,λi H x H'=>H'=H∧∀xs,SqT K H a xs→xs[i]?=some x,λi H=>∃xs,SqT K H a xs∧xs.length≤i⟩
def Itr(lo:Int)(n:Nat):It:=⟨λi _=>i<n,λi H x H'=>H'=H∧x=.int (lo+i),λi _=>n≤i⟩
theorem AY{P:Program}{w:World}{K:PySem.W.Frag}{tg:Expr}(a it:Addr):Turn P w K tg (Itl K a) [it] it (λi h=>h.IsListIter it a i) where
 mem:=by simp
 obj:=λi h st b hb=>by
  have e:b=it:=by simpa using hb
  subst e
  obtain⟨o,e,c,d⟩:=st
  exact⟨o,e,λv z=>by rw[d] at z;cases z⟩
 keep:=λi h h' st k=>st.at λo e=>k it (by simp) o e
 item:=by
  intro X hP hw hK hc i pins s σ H E I hf st hg
  subst hP hw hK
  obtain⟨xs,x,hq,hx⟩:=hg
  obtain⟨its,rv,p,hz⟩:=I.list hq
  obtain⟨u,hu,ru⟩:=rv.get hx
  obtain⟨f0,f1,f2,f3,f4,f5⟩:=hf it (by simp)
  refine wpAny_pyNext_list_item st p.isList (x:=u) (by simpa using hu) λh' st' sb=>?_
  have I1:Inv X pins σ H { s with heap:=h' }:=I.turned (t':=s.toks) (λb o hb e=>(sb.2 b hb).trans e) f0 f1 f3 f4 f5
  obtain⟨o,e,c,d⟩:=id st'
  exact⟨u,rfl,CD (s:={ s with heap:=h' }) e c d (by decide) ⟨x,H,I1,ru,⟨rfl,λys hy=>by rw[I.wc hy hq];exact hx⟩,st',λb hb=>(hf b hb).1⟩⟩
 done:=by
  intro X hP hw hK hc i pins s σ H E I hf st hg
  subst hP hw hK
  obtain⟨xs,hq,hx⟩:=hg
  obtain⟨its,rv,p,hz⟩:=I.list hq
  obtain⟨f0,f1,f2,f3,f4,f5⟩:=hf it (by simp)
  have hl:=rv.length
  exact wpAny_pyNext_list_end (I.ok.hd hc) st p.isList (by simp;lia) λh' eb=>⟨rfl,I.turned (t':=s.toks) (λb o hb e=>eb b o hb e) f0 f1 f3 f4 f5⟩
 self:=λ_ _ _ _ _ st h=>wpAny_pyIter_listiter st h
theorem xO{P:Program}{w:World}{K:PySem.W.Frag}{tg:Expr}(a it:Addr):Turn P w K tg (Itt K a) [it] it (λi h=>h.IsTupleIter it a i) where
 mem:=by simp
 obj:=λi h st b hb=>by
  have e:b=it:=by simpa using hb
  subst e
  obtain⟨o,e,c,d⟩:=st
  exact⟨o,e,λv z=>by rw[d] at z;cases z⟩
 keep:=λi h h' st k=>st.at λo e=>k it (by simp) o e
 item:=by
  intro X hP hw hK hc i pins s σ H E I hf st hg
  subst hP hw hK
  obtain⟨xs,x,hq,hx⟩:=hg
  obtain⟨its,rv,p,hz⟩:=I.tuple hq
  obtain⟨u,hu,ru⟩:=rv.get hx
  obtain⟨f0,f1,f2,f3,f4,f5⟩:=hf it (by simp)
  refine wpAny_pyNext_tuple_item st (show s.heap.IsTuple a its.toArray from p) (x:=u) (by simpa using hu) λh' st' sb=>?_
  have I1:Inv X pins σ H { s with heap:=h' }:=I.turned (t':=s.toks) (λb o hb e=>(sb.2 b hb).trans e) f0 f1 f3 f4 f5
  obtain⟨o,e,c,d⟩:=id st'
  exact⟨u,rfl,CD (s:={ s with heap:=h' }) e c d (by decide) ⟨x,H,I1,ru,⟨rfl,λys hy=>by rw[I.t6 hy hq];exact hx⟩,st',λb hb=>(hf b hb).1⟩⟩
 done:=by
  intro X hP hw hK hc i pins s σ H E I hf st hg
  subst hP hw hK
  obtain⟨xs,hq,hx⟩:=hg
  obtain⟨its,rv,p,hz⟩:=I.tuple hq
  obtain⟨f0,f1,f2,f3,f4,f5⟩:=hf it (by simp)
  have hl:=rv.length
  exact wpAny_pyNext_tuple_end (I.ok.hd hc) st (show s.heap.IsTuple a its.toArray from p) (by simp;lia) λh' eb=>⟨rfl,I.turned (t':=s.toks) (λb o hb e=>eb b o hb e) f0 f1 f3 f4 f5⟩
 self:=λ_ _ _ _ _ st h=>wpAny_pyIter_tupleiter st h
theorem xP{P:Program}{w:World}{K:PySem.W.Frag}{tg:Expr}(it:Addr)(lo:Int)(n:Nat):Turn P w K tg (Itr lo n) [it] it (λi h=>IsRangeIter h it (lo+(i:Nat)*1) ((n:Int)-(i:Nat)) 1) where
 mem:=by simp
 obj:=λi h st b hb=>by
  have e:b=it:=by simpa using hb
  subst e
  exact⟨_,st,λv z=>by
   have z':Data.fields _=Data.cell v:=z
   cases z'⟩
 keep:=λi h h' st k=>k it (by simp) _ st
 item:=by
  intro X hP hw hK hc i pins s σ H E I hf st hg
  subst hP hw hK
  obtain⟨f0,f1,f2,f3,f4,f5⟩:=hf it (by simp)
  have W:=Walks.range (prog:=X.prog) (w:=X.w) (I.ok.hd hc) it lo 1 n
  refine W.item i s _ _ hg st λv h' tk hv st' kk=>?_
  obtain⟨t,rfl⟩:=hv
  have I1:Inv X pins σ H { s with heap:=h',toks:=tk }:=I.turned (λb o hb e=>kk b o (by simpa using hb) e) f0 f1 f3 f4 f5
  refine⟨_,rfl,CD (s:={ s with heap:=h',toks:=tk }) (n:="range_iterator") st' rfl rfl (by decide) ⟨.int (lo+i),H,I1,⟨t,?_⟩,⟨rfl,rfl⟩,st',λb hb=>(hf b hb).1⟩⟩
  rw[Int.mul_one]
 done:=by
  intro X hP hw hK hc i pins s σ H E I hf st hg
  subst hP hw hK
  obtain⟨f0,f1,f2,f3,f4,f5⟩:=hf it (by simp)
  exact wpAny_pyNext_range_end (I.ok.hd hc) st (by have:n≤i:=hg;lia) λh' eb=>⟨rfl,I.turned (t':=s.toks) (λb o hb e=>eb b o hb e) f0 f1 f3 f4 f5⟩
 self:=λ_ _ _ _ _ st h=>wpAny_pyIter_rangeiter st h
section
variable{X:Cx}{tg:Expr}
theorem CG{pins:List (Addr×Obj)}{σ:St}{H:Hp}{s:Shared}{R:It→Hp→Prop}{E:Value→Shared→Prop}{lo hi:Int}{t u v:Tok}{tk:Nat}(I:Inv X pins σ H s)(h1:-(2 ^ 62)≤lo)(h2:lo<2 ^ 62)(h3:-(2 ^ 62)≤hi)(h4:hi<2 ^ 62)
  (q:R (Itr lo (hi-lo).toNat) H):wpAny (model X.prog X.w) X.A (pyIter (.ref s.heap.objs.size)) (PIE X pins σ tg R) E { s with heap:=s.heap.push { cls:=.type "range",data:=.fields #[.int lo t,.int hi u,.int 1 v] },toks:=tk }:=by
 refine wpAny_pyIter_range (IsRange.new ..) (small_one h1 h2 h3 h4) ?_
 have I1:Inv X pins σ H { s with heap:=s.heap.push { cls:=.type "range",data:=.fields #[.int lo t,.int hi u,.int 1 v] },toks:=tk }:=I.kept λb o e=>Heap.get?_push_of_some _ e
 refine⟨(s.heap.push { cls:=.type "range",data:=.fields #[.int lo t,.int hi u,.int 1 v] }).objs.size,[(s.heap.push { cls:=.type "range",data:=.fields #[.int lo t,.int hi u,.int 1 v] }).objs.size],_,_,H,rfl,
  I1.kept (t':=tk) λb o e=>Heap.get?_push_of_some _ e,xP _ lo (hi-lo).toNat,?_,λb hb=>?_,q⟩
 ·have e1:lo+((0:Nat):Int)*1=lo:=by simp
  have e2:(((hi-lo).toNat:Nat):Int)-((0:Nat):Int)=Builtin.Range.rangeSize lo hi 1:=by rw[rangeSize_one];split<;>lia
  show IsRangeIter _ _ (lo+((0:Nat):Int)*1) ((((hi-lo).toNat:Nat):Int)-((0:Nat):Int)) 1
  rw[e1,e2]
  exact Heap.get?_push_size _ rfl
 ·have e:b=(s.heap.push { cls:=.type "range",data:=.fields #[.int lo t,.int hi u,.int 1 v] }).objs.size:=by simpa using hb
  subst e
  exact I1.xN (Nat.le_refl _) (I1.hok.fresh (Nat.le_refl _))
def KH(ta:TA):TI:=λσ H R=>ta σ H λvs H1=>∃j:Int,vs=[.int j]∧-(2 ^ 62)≤j∧j<2 ^ 62∧R (Itr 0 j.toNat) H1
theorem AZ{a:Expr}{ta:TA}{p pos:Pos}(hg:Gl X "range")(hm:X.mg "range"=none)(ha:PA X [a] ta)(hs:starEach [a] X.env=[(false,eval a X.env)]:=by rfl):PI X tg (.Call (.Name "range" p) [a] [] pos) (KH ta):=by
 intro pins s σ H R I h
 refine Call_ (qw I hg hm boot_range (PyProof.Rows.callWith_type1 (thn (ha pos pins s σ H _ I h) λus s1 aq=>?_) hs rfl))
 obtain⟨vs,H1,I1,r1,q1⟩:=aq
 obtain⟨j,e,q1,q2,q⟩:=q1
 subst e
 cases r1 with
 | cons r rr =>
  cases rr
  obtain⟨t,rfl⟩:=r
  exact call_range_1 (CG I1 (by lia) (by lia) q1 q2 (by simpa using q))
def Nh(wi:TI)(g:TG)(tb:TS):TS:=λD σ H=>wi σ H λJ H1=>∃W:Nat→Nat→St→Hp→Prop,(∃m,W 0 m σ H1)∧∀i m σ H,W i m σ H →
 (J.stop i H∧D.nx σ H)∨(J.go i H∧∃N:St→Hp→Prop,(∀σ' H',N σ' H'→∃m',m'<m∧W (i+1) m' σ' H')∧∀x H',J.yld i H x H'→g x σ H' λσ2 H2=>tb { D with nx:=N,ct:=N,bk:=D.nx } σ2 H2)
def qy(fp:List Addr)(h:Heap):List (Addr×Obj):=fp.filterMap λb=>(h.get? b).map λo=>(b,o)
theorem kl{fp:List Addr}{h:Heap}{b:Addr}{o:Obj}(hb:b∈fp)(e:h.get? b=some o):(b,o)∈qy fp h:=List.mem_filterMap.mpr ⟨b,hb,by rw[e];rfl⟩
theorem A0{fp:List Addr}{h:Heap}{p:Addr×Obj}(hp:p∈qy fp h):p.1∈fp∧h.get? p.1=some p.2:=by
 obtain⟨b,hb,e⟩:=List.mem_filterMap.mp hp
 cases q:h.get? b with
 | none=>rw[q] at e;cases e
 | some o =>
  rw[q] at e
  have e':(b,o)=p:=Option.some.inj e
  subst e'
  exact⟨hb,q⟩
theorem Inv.pinned{pins:List (Addr×Obj)}{σ:St}{H:Hp}{s:Shared}{fp:List Addr}(I:Inv X pins σ H s)(hf:∀b∈fp,lA X pins H b)(ho:∀b∈fp,∃o,s.heap.get? b=some o∧∀v,o.data≠.cell v):Inv X (pins++qy fp s.heap) σ H s :=
 I.zx λp hp=>(List.mem_append.mp hp).elim (λz=>I.pin p (List.mem_append_right _ z)) λz=>by
  obtain⟨hb,e⟩:=A0 z
  obtain⟨f0,f1,f2,_⟩:=hf p.1 hb
  obtain⟨o,e',d⟩:=ho p.1 hb
  rw[e] at e';cases e'
  exact⟨e,f0,f1,f2,d⟩
theorem Inv.nU{pins pl:List (Addr×Obj)}{σ:St}{H:Hp}{s:Shared}(I:Inv X (pins++pl) σ H s):Inv X pins σ H s:=I.zx λp hp=>I.pin p (List.mem_append_right _ (List.mem_append_left _ hp))
theorem Ik{iter:Expr}{body:List Stmt}{wi:TI}{g:TG}{tb:TS}{pos:Pos}(hp:PassesOwn (model X.prog X.w) X.A X.env X.xe)(hc:X.calm=true)(hi:PI X tg iter wi)(hg:PG X tg g)(hb:PSs X body tb)
  (hs:∀x,foldedSetIterable iter X.env x=pure x:=by intro _;rfl):PS X (.For tg iter body [] pos) (Nh wi g tb):=by
 intro pins s σ H D I h
 refine wpAny_For (thn (hi pins s σ H _ I h) λv s1 h1=>thn h1 λitv s2 h2=>?_) hs
 obtain⟨it,fp,tn,J,H2,e,I2,T,st2,f2,W,⟨m0,w0⟩,turn⟩:=h2
 subst e
 have xQ:∀{H':Hp},(∀b∈fp,H' b=none)→∀b∈fp,lA X pins H' b:=λhn b hb=>⟨hn b hb,(f2 b hb).2⟩
 refine codeAny_forLoop_any (λn s'=>∃i σ' H',Inv X pins σ' H' s'∧tn i s'.heap∧(∀b∈fp,H' b=none)∧W i n σ' H') ?_ m0 ⟨0,σ,H2,I2,st2,λb hb=>(f2 b hb).1,w0⟩
 rintro n s3 ⟨i,σ3,H3,I3,st3,fr3,w3⟩
 rcases turn i n σ3 H3 w3 with ⟨stop,qn⟩|⟨go,N,hN,step⟩
 ·refine wpAny_passesOwn hp (thn (T.done X rfl rfl rfl hc i pins s3 σ3 H3 X.xe I3 (xQ fr3) st3 stop) λr s4 ⟨hr,I4⟩=>?_)
  subst hr
  exact wpAny_execs_nil ⟨σ3,H3,I4,qn⟩
 ·refine wpAny_passesOwn hp (thn (T.item X rfl rfl rfl hc i pins s3 σ3 H3 X.xe I3 (xQ fr3) st3 go) λr s4 ⟨u,hr,h4⟩=>?_)
  subst hr
  refine wpAny_passesOwn hp (thn h4 λ_ s5 aq=>?_)
  obtain⟨x,H5,I5,r5,y5,st5,fr5⟩:=aq
  have I5':=I5.pinned (xQ fr5) (T.obj _ _ st5)
  refine wpAny_passesOwn hp (thn (hg _ s5 σ3 H5 x u _ I5' r5 (step x H5 y5)) λ_ s6 cJ=>?_)
  obtain⟨σ6,H6,I6,q6⟩:=cJ
  refine wpAny_passesOwn hp (thn (hb _ s6 σ6 H6 _ I6 q6) λf s7 q7=>?_)
  have again:∀{σ7:St}{H7:Hp},Inv X (pins++qy fp s5.heap) σ7 H7 s7→N σ7 H7→∃m,m<n∧∃i σ' H',Inv X pins σ' H' s7∧tn i s7.heap∧(∀b∈fp,H' b=none)∧W i m σ' H':=λ{σ7 H7} I7 n7=>by
   obtain⟨m',hm,w7⟩:=hN σ7 H7 n7
   refine⟨m',hm,i+1,σ7,H7,I7.nU,T.keep _ _ _ st5 λb hb o e=>(I7.pin (b,o) (List.mem_append_right _ (List.mem_append_right _ (kl hb e)))).1,λb hb=>?_,w7⟩
   obtain⟨o,e,d⟩:=T.obj _ _ st5 b hb
   exact (I7.pin (b,o) (List.mem_append_right _ (List.mem_append_right _ (kl hb e)))).2.1
  cases f with
  | next=>obtain⟨σ7,H7,I7,n7⟩:=q7;exact again I7 n7
  | cont=>obtain⟨σ7,H7,I7,n7⟩:=q7;exact again I7 n7
  | brk=>obtain⟨σ7,H7,I7,q7⟩:=q7;exact⟨σ7,H7,I7.nU,q7⟩
  | ret v=>obtain⟨x7,σ7,H7,I7,r7,q7⟩:=q7;exact⟨x7,σ7,H7,I7.nU,r7,q7⟩
end
noncomputable abbrev R2 := V → V → Hp → VK → Prop
def OpR(X:Cx)(f:Value→Value→Sem Value)(r:R2):Prop :=
 ∀(pins:List (Addr×Obj)) (s:Shared) (σ:St) (H:Hp) (x y:V) (v u:Value) (Q:VK),Inv X pins σ H s→RelV x v→RelV y u→r x y H Q →
  wpAny (model X.prog X.w) X.A (f v u) (EP X pins σ Q) X.xe s
def UnR(X:Cx)(f:Value→Sem Value)(r:V→Hp→VK→Prop):Prop :=
 ∀(pins:List (Addr×Obj)) (s:Shared) (σ:St) (H:Hp) (x:V) (v:Value) (Q:VK),Inv X pins σ H s→RelV x v→r x H Q →
  wpAny (model X.prog X.w) X.A (f v) (EP X pins σ Q) X.xe s
def fo(X:Cx)(f:Value)(r:List V→Hp→VK→Prop):Prop :=
 ∀(pins:List (Addr×Obj)) (s:Shared) (σ:St) (H:Hp) (xs:List V) (us:List Value) (Q:VK),Inv X pins σ H s→Vals xs us→r xs H Q →
  wpAny (model X.prog X.w) X.A (call f us) (EP X pins σ Q) X.xe s
def tOp(r:R2)(ta tb:TE):TE:=λσ H Q=>ta σ H λx H1=>tb σ H1 λy H2=>r x y H2 Q
def tUn(r:V→Hp→VK→Prop)(ta:TE):TE:=λσ H Q=>ta σ H λx H1=>r x H1 Q
def rI(C:Int→Int→Prop)(g:Int→Int→V):R2:=λx y H Q=>∃i j,x=.int i∧y=.int j∧C i j∧Q (g i j) H
def rI0(g:Int→Int→V):R2:=λx y H Q=>∃i j,x=.int i∧y=.int j∧Q (g i j) H
def rU(g:Int→V):V→Hp→VK→Prop:=λx H Q=>∃i,x=.int i∧Q (g i) H
section
variable{X:Cx}{a b c:Expr}{ta tb tc:TE}{pos:Pos}
theorem Il(ha:PE X a ta)(hb:PE X b tb){pins:List (Addr×Obj)}{s:Shared}{σ:St}{H:Hp}{R:V→V→Hp→Prop}(I:Inv X pins σ H s)
  (h:ta σ H λx H1=>tb σ H1 λy H2=>R x y H2) {Q:Value→Shared→Prop}{f:Value→Value→Sem Value}
  (hf:∀v u s2 x y H2,Inv X pins σ H2 s2→RelV x v→RelV y u→R x y H2→wpAny (model X.prog X.w) X.A (f v u) Q X.xe s2) :
  wpAny (model X.prog X.w) X.A (eval a X.env) (λv s₁=>wpAny (model X.prog X.w) X.A (eval b X.env) (λu s₂=>wpAny (model X.prog X.w) X.A (f v u) Q X.xe s₂) X.xe s₁) X.xe s:=by
 refine thn (ha pins s σ H _ I h) λv s1 aq=>?_
 obtain⟨x,H1,I1,r1,q1⟩:=aq
 refine thn (hb pins s1 σ H1 _ I1 q1) λu s2 cJ=>?_
 obtain⟨y,H2,I2,r2,q2⟩:=cJ
 exact hf v u s2 x y H2 I2 r1 r2 q2
theorem Hl{op:Operator}{r:R2}(ho:OpR X (binaryOp op) r)(ha:PE X a ta)(hb:PE X b tb):PE X (.BinOp a op b pos) (tOp r ta tb):=by
 intro pins s σ H Q I h
 exact wpAny_BinOp (Il ha hb I h λv u s2 x y H2 I2 rx ry q=>ho pins s2 σ H2 x y v u Q I2 rx ry q)
theorem KI{op:UnaryOp}{r:V→Hp→VK→Prop}(ho:UnR X (unaryOp op) r)(ha:PE X a ta):PE X (.UnaryOp op a pos) (tUn r ta):=by
 intro pins s σ H Q I h
 exact UnaryOp_ (thn (ha pins s σ H _ I h) λv s1 ⟨x,H1,I1,r1,q1⟩=>ho pins s1 σ H1 x v Q I1 r1 q1)
theorem opI{f:Value→Value→Sem Value}{C:Int→Int→Prop}{g:Int→Int→Int}
  (rule:∀(i j:Int) (t u:Tok) (s:Shared) (Q:Value→Shared→Prop) (E:Value→Shared→Prop),C i j→Q (.int (g i j) s.toks) { s with toks:=s.toks+1 }→wpAny (model X.prog X.w) X.A (f (.int i t) (.int j u)) Q E s) :
  OpR X f (rI C λi j=>.int (g i j)):=by
 intro pins s σ H x y v u Q I rx ry h
 obtain⟨i,j,rfl,rfl,hc,q⟩:=h
 obtain⟨t,rfl⟩:=rx
 obtain⟨t',rfl⟩:=ry
 exact rule i j t t' s _ _ hc ⟨.int (g i j),H,I.tok _,⟨_,rfl⟩,q⟩
theorem Im{f:Value→Value→Sem Value}{g:Int→Int→Int}
  (rule:∀(i j:Int) (t u:Tok) (s:Shared) (Q:Value→Shared→Prop) (E:Value→Shared→Prop),Q (.int (g i j) s.toks) { s with toks:=s.toks+1 }→wpAny (model X.prog X.w) X.A (f (.int i t) (.int j u)) Q E s) :
  OpR X f (rI0 λi j=>.int (g i j)):=by
 intro pins s σ H x y v u Q I rx ry h
 obtain⟨i,j,rfl,rfl,q⟩:=h
 obtain⟨t,rfl⟩:=rx
 obtain⟨t',rfl⟩:=ry
 exact rule i j t t' s _ _ ⟨.int (g i j),H,I.tok _,⟨_,rfl⟩,q⟩
theorem KJ{f:Value→Value→Sem Value}{g:Int→Int→Bool}
  (rule:∀(i j:Int) (t u:Tok) (s:Shared) (Q:Value→Shared→Prop) (E:Value→Shared→Prop),Q (.bool (g i j)) s→wpAny (model X.prog X.w) X.A (f (.int i t) (.int j u)) Q E s) :
  OpR X f (rI0 λi j=>.bl (g i j)):=by
 intro pins s σ H x y v u Q I rx ry h
 obtain⟨i,j,rfl,rfl,q⟩:=h
 obtain⟨t,rfl⟩:=rx
 obtain⟨t',rfl⟩:=ry
 exact rule i j t t' s _ _ ⟨.bl (g i j),H,I,rfl,q⟩
def Io(i j:Int):Prop:=0<j∧j<1073741824
def Ip(i j:Int):Prop:=0≤j∧j≤1000000∧i.natAbs<2 ^ 64
def CH(i j:Int):Prop:=(-(2 ^ 64)<i∧i<2 ^ 64)∨(-(2 ^ 64)<j∧j<2 ^ 64)
theorem CH.ok{i j:Int}(h:CH i j):IntMulOk i j:=by
 rcases h with ⟨h1,h2⟩|⟨h1,h2⟩
 ·exact .of_left (intBits_le_64 h1 h2)
 ·exact .of_right (intBits_le_64 h1 h2)
theorem xR(k:Nat):(0:Int)≤2 ^ k:=by
 rw[two_pow_cast]
 exact Int.natCast_nonneg _
theorem Iq:OpR X (binaryOp .Add) (rI0 λi j=>.int (i+j)):=Im λ_ _ _ _ _ _ _ q=>add_int q
theorem Ir:OpR X (binaryOp .Sub) (rI0 λi j=>.int (i-j)):=Im λ_ _ _ _ _ _ _ q=>sub_int q
theorem Iu:OpR X (binaryOp .Mult) (rI CH λi j=>.int (i*j)):=opI λ_ _ _ _ _ _ _ hc q=>mul_int q hc.ok
theorem Fc:OpR X (binaryOp .FloorDiv) (rI Io λi j=>.int (i / j)):=opI λi j _ _ _ _ _ hc q=>by
 have h1:(0:Int)<j:=hc.1
 have h2:j<1073741824:=hc.2
 exact floordiv_int (by lia) (by rw[Int.fdiv_eq_ediv_of_nonneg i (by lia)];exact q) (.inl (PyProof.noPylong_small (by lia)))
theorem Iv:OpR X (binaryOp .Mod) (rI (λ_ j=>0<j) λi j=>.int (i%j)):=opI λi j _ _ _ _ _ hc q=>by
 have h1:(0:Int)<j:=hc
 exact mod_int' (by lia) (by rw[Int.fmod_eq_emod_of_nonneg i (by lia)];exact q)
theorem Iw:OpR X (binaryOp .Pow) (rI Ip λi j=>.int (i ^ j.toNat)):=opI λ_ _ _ _ _ _ _ hc q=>pow_int_small hc.1 hc.2.1 hc.2.2 q
theorem Iy:OpR X (binaryOp .RShift) (rI (λ_ j=>0≤j) λi j=>.int (i / 2 ^ j.toNat)):=opI λi j _ _ _ _ _ hc q =>
 rshift_int hc (by rw[Int.fdiv_eq_ediv_of_nonneg i (xR _)];exact q)
theorem Iz:OpR X (binaryOp .BitAnd) (rI0 λi j=>.int (Builtin.bitAnd i j)):=Im λ_ _ _ _ _ _ _ q=>and_int q
theorem unI{f:Value→Sem Value}{g:Int→Int}
  (rule:∀(i:Int) (t:Tok) (s:Shared) (Q:Value→Shared→Prop) (E:Value→Shared→Prop),Q (.int (g i) s.toks) { s with toks:=s.toks+1 }→wpAny (model X.prog X.w) X.A (f (.int i t)) Q E s) :
  UnR X f (rU λi=>.int (g i)):=by
 intro pins s σ H x v Q I rx h
 obtain⟨i,rfl,q⟩:=h
 obtain⟨t,rfl⟩:=rx
 exact rule i t s _ _ ⟨.int (g i),H,I.tok _,⟨_,rfl⟩,q⟩
theorem IA:UnR X (unaryOp .USub) (rU λi=>.int (-i)):=unI λ_ _ _ _ _ q=>neg_int q
end
def KL:V→V→Bool
 | .non,.non=>true|.non,.int _=>true|.int _,.non=>true|.non,.bl _=>true|.bl _,.non=>true|.non,.str _=>true|.str _,.non=>true
 | .int _,.int _=>true|.bl _,.bl _=>true|.str _,.str _=>true|.byt _,.byt _=>true
 | .int _,.str _=>true|.str _,.int _=>true|.bl _,.str _=>true|.str _,.bl _=>true
 | _,_=>false
def rEq:R2:=λx y H Q=>KL x y=true∧Q (.bl (decide (x=y))) H
def rNe:R2:=λx y H Q=>KL x y=true∧Q (.bl (!decide (x=y))) H
theorem zB{i j:Int}:decide (V.int i=V.int j)=(i==j):=by
 rw[Bool.eq_iff_iff]
 simp
theorem CJ{i j:Bool}:decide (V.bl i=V.bl j)=(i==j):=by
 rw[Bool.eq_iff_iff]
 simp
theorem ql{i j:Str}:decide (V.str i=V.str j)=(i==j):=by
 rw[Bool.eq_iff_iff]
 simp
theorem zC{i j:Array UInt8}:decide (V.byt i=V.byt j)=(i.toList==j.toList):=by
 rw[Bool.eq_iff_iff]
 cases i
 cases j
 simp
section
variable{X:Cx}{a b c:Expr}{ta tb tc:TE}{pos:Pos}
theorem bA{pins:List (Addr×Obj)}{σ:St}{H:Hp}{s:Shared}{Q:VK}{k k':Bool}(I:Inv X pins σ H s)(q:Q (.bl k) H)(e:k=k'):EP X pins σ Q (.bool k') s:=by
 subst e
 exact⟨.bl k,H,I,rfl,q⟩
theorem Hm:OpR X (compareOp .Eq) rEq:=by
 intro pins s σ H x y v u Q I rx ry h
 obtain⟨hs,q⟩:=h
 cases x with
 | non =>
  cases rx
  cases y with
  | non=>cases ry;exact PySem.EqNone.eq_none_none (bA I q (by simp))
  | bl j=>cases ry;exact PySem.EqNone.eq_none_bool (bA I q (by simp))
  | int j=>obtain⟨t',rfl⟩:=ry;exact PySem.EqNone.eq_none_int (bA I q (by simp))
  | str j=>obtain⟨t',rfl⟩:=ry;exact PySem.EqNone.eq_none_str (bA I q (by simp))
  | _=>exact absurd (show false=true from hs) Bool.false_ne_true
 | bl i =>
  cases rx
  cases y with
  | non=>cases ry;exact PySem.EqNone.eq_bool_none (bA I q (by simp))
  | bl j=>cases ry;exact eq_bool (bA I q CJ)
  | str j=>obtain⟨t',rfl⟩:=ry;exact PySem.EqMixed.eq_bool_str (bA I q (by simp))
  | _=>exact absurd (show false=true from hs) Bool.false_ne_true
 | int i =>
  obtain⟨t,rfl⟩:=rx
  cases y with
  | non=>cases ry;exact PySem.EqNone.eq_int_none (bA I q (by simp))
  | int j=>obtain⟨t',rfl⟩:=ry;exact eq_int (bA I q zB)
  | str j=>obtain⟨t',rfl⟩:=ry;exact PySem.EqMixed.eq_int_str (bA I q (by simp))
  | _=>exact absurd (show false=true from hs) Bool.false_ne_true
 | str i =>
  obtain⟨t,rfl⟩:=rx
  cases y with
  | non=>cases ry;exact PySem.EqNone.eq_str_none (bA I q (by simp))
  | bl j=>cases ry;exact PySem.EqMixed.eq_str_bool (bA I q (by simp))
  | int j=>obtain⟨t',rfl⟩:=ry;exact PySem.EqMixed.eq_str_int (bA I q (by simp))
  | str j=>obtain⟨t',rfl⟩:=ry;exact eq_str (bA I q ql)
  | _=>exact absurd (show false=true from hs) Bool.false_ne_true
 | byt i =>
  obtain⟨t,rfl⟩:=rx
  cases y with
  | byt j=>obtain⟨t',rfl⟩:=ry;exact PySem.W.eq_bytes (bA I q zC)
  | _=>exact absurd (show false=true from hs) Bool.false_ne_true
 | _=>cases y<;>exact absurd (show false=true from hs) Bool.false_ne_true
theorem KN:OpR X (compareOp .NotEq) rNe:=by
 intro pins s σ H x y v u Q I rx ry h
 obtain⟨hs,q⟩:=h
 cases x with
 | non =>
  cases rx
  cases y with
  | non=>cases ry;exact PySem.EqNone.ne_none_none (bA I q (by simp))
  | bl j=>cases ry;exact PySem.EqNone.ne_none_bool (bA I q (by simp))
  | int j=>obtain⟨t',rfl⟩:=ry;exact PySem.EqNone.ne_none_int (bA I q (by simp))
  | str j=>obtain⟨t',rfl⟩:=ry;exact PySem.EqNone.ne_none_str (bA I q (by simp))
  | _=>exact absurd (show false=true from hs) Bool.false_ne_true
 | bl i =>
  cases rx
  cases y with
  | non=>cases ry;exact PySem.EqNone.ne_bool_none (bA I q (by simp))
  | bl j=>cases ry;exact ne_bool (bA I q (congrArg not CJ))
  | str j=>obtain⟨t',rfl⟩:=ry;exact PySem.EqMixed.ne_bool_str (bA I q (by simp))
  | _=>exact absurd (show false=true from hs) Bool.false_ne_true
 | int i =>
  obtain⟨t,rfl⟩:=rx
  cases y with
  | non=>cases ry;exact PySem.EqNone.ne_int_none (bA I q (by simp))
  | int j=>obtain⟨t',rfl⟩:=ry;exact ne_int (bA I q (congrArg not zB))
  | str j=>obtain⟨t',rfl⟩:=ry;exact PySem.EqMixed.ne_int_str (bA I q (by simp))
  | _=>exact absurd (show false=true from hs) Bool.false_ne_true
 | str i =>
  obtain⟨t,rfl⟩:=rx
  cases y with
  | non=>cases ry;exact PySem.EqNone.ne_str_none (bA I q (by simp))
  | bl j=>cases ry;exact PySem.EqMixed.ne_str_bool (bA I q (by simp))
  | int j=>obtain⟨t',rfl⟩:=ry;exact PySem.EqMixed.ne_str_int (bA I q (by simp))
  | str j=>obtain⟨t',rfl⟩:=ry;exact ne_str (bA I q (congrArg not ql))
  | _=>exact absurd (show false=true from hs) Bool.false_ne_true
 | byt i =>
  obtain⟨t,rfl⟩:=rx
  cases y with
  | byt j=>obtain⟨t',rfl⟩:=ry;exact PySem.W.ne_bytes (bA I q (congrArg not zC))
  | _=>exact absurd (show false=true from hs) Bool.false_ne_true
 | _=>cases y<;>exact absurd (show false=true from hs) Bool.false_ne_true
theorem KO:OpR X (compareOp .Lt) (rI0 λi j=>.bl (decide (i<j))):=KJ λ_ _ _ _ _ _ _ q=>lt_int q
theorem KP:OpR X (compareOp .Gt) (rI0 λi j=>.bl (decide (j<i))):=KJ λ_ _ _ _ _ _ _ q=>gt_int q
theorem CK:OpR X (compareOp .Is) (λx y H Q=>y=.non∧Q (.bl (decide (x=.non))) H):=by
 intro pins s σ H x y v u Q I rx ry h
 obtain⟨rfl,q⟩:=h
 cases ry
 refine is_none_gen (bA I q ?_)
 cases x<;>first
  | (cases rx;rfl)
  | (obtain⟨t,rfl⟩:=rx;rfl)
theorem Fd:OpR X (compareOp .IsNot) (λx y H Q=>y=.non∧Q (.bl (!decide (x=.non))) H):=by
 intro pins s σ H x y v u Q I rx ry h
 obtain⟨rfl,q⟩:=h
 cases ry
 refine isnot_none_gen (bA I q ?_)
 cases x<;>first
  | (cases rx;rfl)
  | (obtain⟨t,rfl⟩:=rx;rfl)
theorem OpR.or{f:Value→Value→Sem Value}{r r':R2}(h:OpR X f r)(h':OpR X f r'):OpR X f (λx y H Q=>r x y H Q∨r' x y H Q):=by
 intro pins s σ H x y v u Q I rx ry q
 rcases q with q|q
 ·exact h pins s σ H x y v u Q I rx ry q
 ·exact h' pins s σ H x y v u Q I rx ry q
theorem lB(b:Expr){op:CmpOp}(h:op≠.In:=by decide)(h2:op≠.NotIn:=by decide):behindInMarks op b=false:=by
 have e1:(op==CmpOp.In)=false:=by cases op<;>first|rfl|exact absurd rfl h
 have e2:(op==CmpOp.NotIn)=false:=by cases op<;>first|rfl|exact absurd rfl h2
 cases b<;>simp[behindInMarks,e1,e2]
theorem Fe{op:CmpOp}{r:R2}(ho:OpR X (compareOp op) r)(ha:PE X a ta)(hb:PE X b tb)(hm:behindInMarks op b=false):PE X (.Compare a [op] [b] pos) (tOp r ta tb):=by
 intro pins s σ H Q I h
 exact wpAny_Compare1 (Il ha hb I h λv u s2 x y H2 I2 rx ry q=>ho pins s2 σ H2 x y v u Q I2 rx ry q) hm
def KQ(t:TE):TT:=λσ H Q=>t σ H λx H'=>∃k,x=.bl k∧Q k H'
theorem Ff{op:CmpOp}{r:R2}(ho:OpR X (compareOp op) r)(ha:PE X a ta)(hb:PE X b tb)(hm:behindInMarks op b=false):PT X (.Compare a [op] [b] pos) (KQ (tOp r ta tb)):=by
 intro pins s σ H Q I h
 refine wpAny_isTrue_Compare1 (thn (ha pins s σ H _ I h) λv s1 ⟨x,H1,I1,r1,q1⟩=>thn (hb pins s1 σ H1 _ I1 q1) λu s2 ⟨y,H2,I2,r2,q2⟩ =>
  thn (ho pins s2 σ H2 x y v u _ I2 r1 r2 q2) λc s3 ⟨z,H3,I3,r3,k,e,q3⟩=>?_) hm
 subst e
 cases r3
 exact wpAny_truthy_bool ⟨H3,I3,q3⟩
theorem pk:(sizeLine:Nat)<2 ^ 63:=by rw[sizeLine_eq];decide
theorem xS:OpR X (binaryOp .Add) (λx y H Q=>∃i j,x=.str i∧y=.str j∧i.length+j.length≤sizeLine∧Q (.str (i++j)) H):=by
 intro pins s σ H x y v u Q I rx ry h
 obtain⟨i,j,rfl,rfl,hz,q⟩:=h
 obtain⟨t,rfl⟩:=rx
 obtain⟨t',rfl⟩:=ry
 exact add_str (λt' tk=>⟨.str (i++j),H,I.tok _,⟨_,rfl⟩,q⟩) hz
theorem vals1{x:V}{us:List Value}(r:Vals [x] us):∃u,us=[u]∧RelV x u:=by
 cases r with
 | cons r1 r2=>cases r2;exact⟨_,rfl,r1⟩
theorem vals2{x y:V}{us:List Value}(r:Vals [x,y] us):∃u w',us=[u,w']∧RelV x u∧RelV y w':=by
 cases r with
 | cons r1 r2 =>
  cases r2 with
  | cons r3 r4=>cases r4;exact⟨_,_,rfl,r1,r3⟩
theorem A1(hc:X.calm=true):fo X (.builtin "max") (λxs H Q=>∃i j,xs=[.int i,.int j]∧Q (.int (if j > i then j else i)) H):=by
 intro pins s σ H xs us Q I r h
 obtain⟨i,j,rfl,q⟩:=h
 obtain⟨u,w',rfl,⟨t,rfl⟩,⟨t',rfl⟩⟩:=vals2 r
 refine max_two_ints (I.ok.hd hc) λh' tk k=>⟨_,H,I.kept k,?_,q⟩
 by_cases hj:j > i
 ·rw[if_pos hj,if_pos hj];exact⟨_,rfl⟩
 ·rw[if_neg hj,if_neg hj];exact⟨_,rfl⟩
theorem A2:fo X (.type "int") (λxs H Q=>(∃i,xs=[.int i]∧Q (.int i) H)∨∃k,xs=[.bl k]∧Q (.int (if k then 1 else 0)) H):=by
 intro pins s σ H xs us Q I r h
 rcases h with ⟨i,rfl,q⟩|⟨k,rfl,q⟩
 ·obtain⟨u,rfl,t,rfl⟩:=vals1 r
  exact call_int_int ⟨.int i,H,I,⟨_,rfl⟩,q⟩
 ·obtain⟨u,rfl,r1⟩:=vals1 r
  cases r1
  exact call_int_bool ⟨.int (if k then 1 else 0),H,I.tok _,⟨_,rfl⟩,q⟩
end
section
variable{prog:Program}{w:World}{A:Around}{E:Value→Shared→Prop}{s:Shared}{K:PySem.W.Frag}{x dx C f:Addr}{mA:Str→Option Value}{name:Str}{v:Value}
end
theorem qd.some_of{v:V}{o:Option Value}(r:qd (some v) o):∃u,o=some u∧RelV v u:=by
 cases o with
 | none=>exact (show False from r).elim
 | some u=>exact⟨u,rfl,r⟩
section
variable{P:Program}{w:World}{H H':Hp}{h h':Heap}{a C dx:Addr}{fs fs':List (Str×V)}
end
section
variable{X:Cx}{pins:List (Addr×Obj)}{σ:St}{H:Hp}{s:Shared}{a C dx:Addr}{fs:List (Str×V)}{f:Str}{v:V}{A:Around}{E:Value→Shared→Prop}
end
section
variable{X:Cx}{o e value:Expr}{f:Str}{pos pos' iN:Pos}{ta tv:TE}
end
section
variable{X:Cx}{pins:List (Addr×Obj)}{σ:St}{H:Hp}{s:Shared}{A:Around}{E:Value→Shared→Prop}{Q:Value→Shared→Prop}{c:Value}{b:Bool}
end
structure dQ(k:Nat)(A:Around):Prop where
 hd:A.handled=none
 dp:A.depth+3*k+5<recursionLimit
 un:A.units+16*k+200<cLine
theorem dQ.mono{j k:Nat}{A:Around}(r:dQ k A)(h:j≤k):dQ j A:=⟨r.hd,by have:=r.dp;lia,by have:=r.un;lia⟩
theorem dQ.deeper{k:Nat}{A:Around}(r:dQ (k+1) A)(env:Env):dQ k (A.deeper env) :=
 ⟨r.hd,by have:=r.dp;show A.depth+1+3*k+5<_;lia,by have:=r.un;show A.units+3+16*k+200<_;lia⟩
theorem dQ.in1{k:Nat}{A:Around}(r:dQ (k+1) A):dQ k A.in1 :=
 ⟨r.hd,by have:=r.dp;show A.depth+3*k+5<_;lia,by have:=r.un;show A.units+1+16*k+200<_;lia⟩
theorem dQ.depth{k:Nat}{A:Around}(r:dQ k A):A.depth<recursionLimit:=by have:=r.dp;lia
theorem dQ.units{k:Nat}{A:Around}(r:dQ k A):A.units+64<cLine:=by have:=r.un;lia
def Ni:TA:=λ_ H Q=>Q [] H
def KR(ta:TE)(tr:TA):TA:=λσ H Q=>ta σ H λx H1=>tr σ H1 λxs H2=>Q (x::xs) H2
section
variable{X:Cx}{e:Expr}{es:List Expr}{te:TE}{t:TA}{pos:Pos}
theorem CL:PA X [] Ni:=λ_ _ _ _ H Q I h=>Calls.spliced_nil ⟨[],H,I,.nil,h⟩
theorem zD(ha:PE X e te)(hr:PA X es t)(hs:starEach (e::es) X.env=(false,eval e X.env)::starEach es X.env:=by rfl):PA X (e::es) (KR te t):=by
 intro pos pins s σ H Q I h
 rw[hs]
 show wpAny _ _ (spliced ((false,eval e X.env)::backTo pos (starEach es X.env))) _ _ s
 refine Calls.spliced_cons (thn (ha pins s σ H _ I h) λu s1 aq=>?_)
 obtain⟨x,H1,I1,r1,q1⟩:=aq
 exact thn (hr pos pins s1 σ H1 _ I1 q1) λus s2 ⟨xs,H2,I2,r2,q2⟩=>⟨x::xs,H2,I2,.cons r1 r2,q2⟩
def Nj(t:TA):TE:=λσ H Q=>t σ H λxs H1=>xs.length≤sizeLine∧∀p,H1 p=none→Q (.ref p) (upd H1 p (.tup xs))
def Nk(t:TA):TE:=λσ H Q=>t σ H λxs H1=>xs.length≤sizeLine∧∀p,H1 p=none→Q (.ref p) (upd H1 p (.lst xs))
theorem CM{x1}(h:PA X es t):PE X (.Tuple es x1 pos) (Nj t):=by
 intro pins s σ H Q I hq
 refine wpAny_Tuple_spliced (thn (h pos pins s σ H _ I hq) λus s1 ⟨xs,H1,I1,r,z,q⟩=>⟨by rw[← r.length];exact z,?_⟩)
 have hf:H1 s1.heap.objs.size=none:=I1.hok.fresh (Nat.le_refl _)
 refine⟨.ref s1.heap.objs.size,upd H1 s1.heap.objs.size (.tup xs),I1.laid (t':=s1.toks) (λb u e=>Heap.get?_push_of_some _ e) (Nat.le_refl _) ?_,rfl,q _ hf⟩
 exact⟨z,us,r,⟨_,Heap.get?_push_size _ rfl,rfl,_,rfl⟩⟩
theorem CN(h:PA X es t):PE X (.List es pos) (Nk t):=by
 intro pins s σ H Q I hq
 refine wpAny_List_spliced (thn (h pos pins s σ H _ I hq) λus s1 ⟨xs,H1,I1,r,z,q⟩=>⟨by rw[← r.length];exact z,?_⟩)
 have hf:H1 s1.heap.objs.size=none:=I1.hok.fresh (Nat.le_refl _)
 refine⟨.ref s1.heap.objs.size,upd H1 s1.heap.objs.size (.lst xs),I1.laid (t':=s1.toks) (λb u e=>Heap.get?_push_of_some _ e) (Nat.le_refl _) ?_,rfl,q _ hf⟩
 exact⟨z,us,0,r,Heap.get?_push_size _ rfl⟩
end
noncomputable abbrev Sp := List V → Hp → VK → XK → Prop
noncomputable abbrev CXT := List Env → Hp → Shared → XK → Value → Shared → Prop
structure xT(P:Program)(w:World)(K:PySem.W.Frag)(mg:Str→Option Value)(base:Heap)(A:Around)(outer:List Env)(s:Shared)(H:Hp):Prop where
 frames:A.frames=some outer
 mod:Mod K mg base
 bs:∀b o,base.get? b=some o→s.heap.get? b=some o∧H b=none
 bsz:base.objs.size≤s.heap.objs.size
 qe:s.heap.FunFrames base outer
 frf:∀b∈frs outer,H b=none
 hok:HOk P w H s.heap
 bare:AllBare s.gens
def CE(outer:List Env)(P:Program)(w:World)(H:Hp)(s:Shared)(Q:VK)(u:Value)(s':Shared):Prop :=
 ∃v H',s'.os=s.os∧AllBare s'.gens∧Un (frs outer) [] H H' s.heap s'.heap∧HOk P w H' s'.heap∧RelV v u∧Q v H'
def CR(CX:CXT)(outer:List Env)(P:Program)(w:World)(H:Hp)(s:Shared)(Q:VK)(E:XK)(r:Result)(s':Shared):Prop :=
 match r with
 | .ok (.ret u)=>CE outer P w H s Q u s'
 | .ok _=>False
 | .error e=>CX outer H s E e s'
structure aN(P:Program)(w:World)(K:PySem.W.Frag)(mg:Str→Option Value)(base:Heap)(CX:CXT)(k:Nat)(f:Addr)(fd:FuncData)(ps:List Str)(sp:Sp):Prop where
 len:∀vs H Q E,sp vs H Q E→vs.length=ps.length
 run:∀(A:Around) (outer:List Env) (s:Shared) (H:Hp) (args:Args) (us:List Value) (vs:List V) (Q:VK) (E:XK),dQ k A→xT P w K mg base A outer s H→BindsTo s fd args (ps.zip us)→Vals vs us→sp vs H Q E →
  codeAny (model P w) A (.call (.ref f) args) (CR CX outer P w H s Q E) s
theorem xT.in1{P:Program}{w:World}{K:PySem.W.Frag}{mg:Str→Option Value}{base:Heap}{A:Around}{outer:List Env}{s:Shared}{H:Hp}(e:xT P w K mg base A outer s H) :
  xT P w K mg base A.in1 outer s H:=⟨e.frames,e.mod,e.bs,e.bsz,e.qe,e.frf,e.hok,e.bare⟩
section
variable{X:Cx}{pins:List (Addr×Obj)}{σ:St}{H:Hp}{s s':Shared}
theorem Inv.Nl(I:Inv X pins σ H s):xT X.prog X.w X.K X.mg X.base X.A X.stack s H :=
 ⟨I.ok.frames,I.ok.mod,I.bs,Nat.le_trans I.ok.bsz I.sz,I.stack,I.zw,I.hok,I.bare⟩
theorem Inv.after{Q:VK}{u:Value}(I:Inv X pins σ H s)(h:CE X.stack X.prog X.w H s Q u s'):EP X pins σ Q u s':=by
 obtain⟨v,H',os,bare,un,hok,r,q⟩:=h
 obtain⟨hh,g,d,t,os'⟩:=s'
 obtain rfl:os'=s.os:=os
 exact⟨v,H',I.call (h':=hh) (g':=g) (d':=d) (t':=t) (ch:=[]) un hok bare (λb z=>absurd z (by simp)),r,q⟩
end
def Hn(sp:Sp)(dvs:List V)(E:XK)(t:TA):TE:=λσ H Q=>t σ H λvs H1=>sp (vs++dvs) H1 Q E
def Binds(K:PySem.W.Frag)(fd:FuncData)(ps:List Str)(ds:List Value):Prop :=
 ∀(s:Shared) (us:List Value),K.In s.heap→(us++ds).length=ps.length→BindsTo s fd ⟨us,[]⟩ (ps.zip (us++ds))
theorem Binds.all{K:PySem.W.Frag}{fd:FuncData}{ps:List Str}(h:∀us:List Value,us.length=ps.length→bindArgs fd ⟨us,[]⟩=pure (ps.zip us)):Binds K fd ps []:=λs us _ hl=>by
 rw[List.append_nil] at hl ⊢
 exact .of_eq (h us hl)
def Passes(CX:CXT)(X:Cx)(E:XK):Prop:=∀(pins:List (Addr×Obj)) (σ:St) (H:Hp) (s:Shared) (e:Value) (s':Shared),Inv X pins σ H s→CX X.stack H s E e s'→X.xe e s'
section
variable{X:Cx}{CX:CXT}{k:Nat}{f C:Addr}{fd:FuncData}{ps:List Str}{sp:Sp}{dvs:List V}{ds:List Value}{E:XK}{x m:Str}{p pos apos:Pos}{e o:Expr}{es:List Expr}{ta:TE}{t:TA}
theorem IB{pins:List (Addr×Obj)}{σ:St}{H:Hp}{s:Shared}{Q:VK}{us:List Value}{vs:List V}(F:aN X.prog X.w X.K X.mg X.base CX k f fd ps sp)(hr:dQ k X.A)(hb:Binds X.K fd ps ds)(hd:Vals dvs ds)(hx:Passes CX X E)
  (I:Inv X pins σ H s) (r:Vals vs us) (h:sp (vs++dvs) H Q E):wpAny (model X.prog X.w) X.A (call (.ref f) us) (EP X pins σ Q) X.xe s:=by
 have r2:Vals (vs++dvs) (us++ds):=r.append hd
 have hl:(us++ds).length=ps.length:=by rw[← r2.length];exact F.len _ _ _ _ h
 refine wpAny_call (codeAny_mono (F.run X.A X.stack s H ⟨us,[]⟩ (us++ds) (vs++dvs) Q E hr I.Nl (hb s us I.kIn hl) r2 h) λr s' hq=>?_)
 cases r with
 | error e=>exact hx pins σ H s e s' I hq
 | ok fl =>
  cases fl with
  | ret u=>exact I.after hq
  | next=>exact False.elim hq
  | brk=>exact False.elim hq
  | cont=>exact False.elim hq
theorem Fg(F:aN X.prog X.w X.K X.mg X.base CX k f fd ps sp)(hr:dQ k X.A)(hg:Gl X x)(hm:X.mg x=some (.ref f))(hk:PySem.W.keepIn X.K (.ref f)=true)(hb:Binds X.K fd ps ds)(hd:Vals dvs ds)(hx:Passes CX X E)
  (ha:PA X (e::es) t) (hdb:(x==("__debug__":Str))=false:=by decide) (he:starEach (e::es) X.env=(false,eval e X.env)::starEach es X.env:=by rfl) (hpl:(backTo pos (starEach es X.env)).any (·.1)=false:=by rfl) :
  PE X (.Call (.Name x p) (e::es) [] pos) (Hn sp dvs E t):=by
 intro pins s σ H Q I h
 refine wpAny_Call_Name_kw (E9 I hg hm ?_ hdb)
 refine PySem.W.callWith_K (h₀:=X.base) I.ok.mod.kin hk (thn (ha pos pins s σ H _ I h) λus s1 ⟨vs,H1,I1,r,q⟩=>⟨I1.kIn,?_⟩) he hpl
 exact IB F hr hb hd hx I1 r q
end
section
variable{X:Cx}{CX:CXT}{k:Nat}{f C:Addr}{fd:FuncData}{ps ks:List Str}{sp:Sp}{E:XK}{x m:Str}{p pos apos SH:Pos}{e o:Expr}{es:List Expr}{kws:List Keyword}{te ta:TE}{t tk:TA}{nm:Option Str}
variable{g:List Value→List Value→List Value}{gV:List V→List V→List V}
end
structure aM(N P:List Str)(sc:Scope):Prop where
 kind:sc.kind=.function
 co:sc.isCoroutine=false
 gen:sc.isGenerator=false
 nd:N.Nodup
 pre:N.take P.length=P
 par:∀x∈P,sc.names.lookup x=some .local∨sc.names.lookup x=some .cell
 IC:∀y∈sc.names,y.2≠.free
theorem t7{kindOf:Str→Option NameKind}{x:Str}:∀{binds:List (Str×Value)}{m:Str→Option Value},(∀v,(x,v)∉binds)→bindL kindOf binds m x=m x
 | [],_,_=>rfl
 | (n,v)::r,m,h=>by
  unfold bindL
  rw[t7 λw hw=>h w (List.mem_cons_of_mem _ hw)]
  split
  ·have:x≠n:=by rintro rfl;exact h v List.mem_cons_self
   simp[this]
  ·rfl
theorem t8{kindOf:Str→Option NameKind}{x:Str}:∀{binds:List (Str×Value)}{m:Str→Option Value},(∀v,(x,v)∉binds)→bindC kindOf binds m x=m x
 | [],_,_=>rfl
 | (n,v)::r,m,h=>by
  unfold bindC
  rw[t8 λw hw=>h w (List.mem_cons_of_mem _ hw)]
  split
  ·rfl
  ·have:x≠n:=by rintro rfl;exact h v List.mem_cons_self
   simp[this]
theorem t9{kindOf:Str→Option NameKind}{x:Str}{v:Value}:∀{P:List Str}{vs:List Value}{i:Nat}{m:Str→Option Value},P.Nodup→P[i]?=some x→vs[i]?=some v→kindOf x=some .local →
  bindL kindOf (P.zip vs) m x=some v
 | [],_,_,_,_,h,_,_=>by simp at h
 | _::_,[],_,_,_,_,h,_=>by simp at h
 | p::P,w::vs,0,m,nd,h1,h2,hk=>by
  simp at h1 h2;subst h1;subst h2
  show bindL kindOf ((p,w)::P.zip vs) m p=_
  unfold bindL
  rw[t7 λv hv=>(List.nodup_cons.mp nd).1 (List.of_mem_zip hv).1,if_pos hk]
  simp
 | p::P,w::vs,i+1,m,nd,h1,h2,hk=>by
  show bindL kindOf ((p,w)::P.zip vs) m x=_
  unfold bindL
  exact t9 (i:=i) (List.nodup_cons.mp nd).2 (by simpa using h1) (by simpa using h2) hk
theorem t_{kindOf:Str→Option NameKind}{x:Str}{v:Value}:∀{P:List Str}{vs:List Value}{i:Nat}{m:Str→Option Value},P.Nodup→P[i]?=some x→vs[i]?=some v→kindOf x≠some .local →
  bindC kindOf (P.zip vs) m x=some v
 | [],_,_,_,_,h,_,_=>by simp at h
 | _::_,[],_,_,_,_,h,_=>by simp at h
 | p::P,w::vs,0,m,nd,h1,h2,hk=>by
  simp at h1 h2;subst h1;subst h2
  show bindC kindOf ((p,w)::P.zip vs) m p=_
  unfold bindC
  rw[t8 λv hv=>(List.nodup_cons.mp nd).1 (List.of_mem_zip hv).1,if_neg hk]
  simp
 | p::P,w::vs,i+1,m,nd,h1,h2,hk=>by
  show bindC kindOf ((p,w)::P.zip vs) m x=_
  unfold bindC
  exact t_ (i:=i) (List.nodup_cons.mp nd).2 (by simpa using h1) (by simpa using h2) hk
def start(N:List Str)(vs:List V):St:=vs.map some++List.replicate (N.length-vs.length) none
def xU(CX:CXT)(P:Program)(w:World)(K:PySem.W.Frag)(mg:Str→Option Value)(base:Heap)(N:List Str)(qual:Str)(scope:Scope)(f:Addr)(cd:Value)(A:Around)(outer:List Env)(s:Shared)(H:Hp)(E:XK):Cx where
 prog:=P
 w:=w
 K:=K
 mg:=mg
 base:=base
 A:=A.deeper (envOfC qual scope s.heap.objs.size f cd)
 N:=N
 s₀:=s
 H₀:=H
 env:=envOfC qual scope s.heap.objs.size f cd
 outer:=outer
 stack:=envOfC qual scope s.heap.objs.size f cd::outer
 ex:=[]
 calm:=true
 fn:=λ_=>true
 pn:=[]
 xe:=λe s'=>wpAny (model P w) (A.deeper (envOfC qual scope s.heap.objs.size f cd)) (leaving (envOfC qual scope s.heap.objs.size f cd) e) (λ_ s''=>CX outer H s E e s'') (λe' s''=>CX outer H s E e' s'') s'
theorem wd{sc:Scope}{n:Nat}{x:Str}(h:sc.names.lookup x=some .cell):∃c,(cellsFrom n sc.names []).lookup x=some c:=by
 have q:=PySem.W.cellsFrom_some sc.names n [] (.inl h)
 exact Option.isSome_iff_exists.mp q
theorem A3{CX:CXT}{P:Program}{w:World}{K:PySem.W.Frag}{mg:Str→Option Value}{base:Heap}{N ps:List Str}{qual:Str}{scope:Scope}{f:Addr}{cd:Value}{A:Around}{outer:List Env}{s s1:Shared}{H:Hp}{E:XK}{us:List Value}{vs:List V}
  (S:aM N ps scope) (hd:A.handled=none) (e0:xT P w K mg base A outer s H) (hl:vs.length=ps.length) (r:Vals vs us)
  (x:InCallC s s.heap.objs.size (bindL (envOfC qual scope s.heap.objs.size f cd).kindOf (ps.zip us) λ_=>none) (cellsFrom (s.heap.objs.size+1) scope.names []) (bindC (envOfC qual scope s.heap.objs.size f cd).kindOf (ps.zip us) λ_=>none) s1) :
  Inv (xU CX P w K mg base N qual scope f cd A outer s H E) [] (start N vs) H s1:=by
 have hpl:ps.length≤N.length:=by have:=congrArg List.length S.pre;rw[List.length_take] at this;lia
 obtain⟨h1,tk,rfl,hk⟩:=x.done
 have noA:∀b:Addr,b∉(xU CX P w K mg base N qual scope f cd A outer s H E).ex:=λb z=>absurd (show b∈([]:List Addr) from z) (by simp)
 refine⟨⟨e0.mod,S.kind,rfl,rfl,Nat.le_refl _,λy z c h1 h2=>?_,λy hy=>?_,λy c _ h=>?_,λ_=>hd,Around.frames_deeper e0.frames,.inr ⟨rfl,rfl⟩,λb z=>absurd z (noA b),e0.bs,e0.bsz,λb _ _=>noA b,λb z=>absurd z (noA b),e0.qe,e0.frf⟩,
  rfl,e0.bare,Un.kept hk,⟨_,x.toInCall.ns,λi y v h1 h2 h3=>?_⟩,λy c h=>⟨_,x.cell y c h⟩,e0.hok.fresh (Nat.le_refl _),λy c h=>?_,λp hp=>absurd (show p∈([]:List (Addr×Obj)) from hp) (by simp),e0.hok.kept hk,?_⟩
 ·exact name_of_addr x.apart (PySem.mem_of_lookup h1) (PySem.mem_of_lookup h2)
 ·have hy:scope.names.lookup y=some .cell∨scope.names.lookup y=some .free:=hy
  rcases hy with hy|hy
  ·exact wd hy
  ·exact absurd rfl (S.IC _ (PySem.mem_of_lookup hy))
 ·exact Nat.le_of_lt (x.above y c (PySem.mem_of_lookup h))
 ·have hi:i<vs.length:=by
   unfold start at h2
   by_cases hi:i<vs.length
   ·exact hi
   ·rw[List.getElem?_append_right (by simpa using hi)] at h2
    rw[List.getElem?_replicate] at h2
    split at h2<;>cases h2
  have ha:vs[i]?=some v:=by
   unfold start at h2
   rw[List.getElem?_append_left (by simpa using hi),List.getElem?_map] at h2
   cases e:vs[i]? with
   | none=>rw[e] at h2;cases h2
   | some a=>rw[e] at h2;cases h2;rfl
  obtain⟨u,hu,rv⟩:=r.get ha
  have hp:ps[i]?=some y:=by
   rw[← S.pre,List.getElem?_take_of_lt (by lia)];exact h1
  have ndP:ps.Nodup:=by rw[← S.pre];exact S.nd.sublist (List.take_sublist _ _)
  refine⟨u,rv,?_⟩
  rcases S.par y (List.mem_of_getElem? hp) with k|k
  ·exact .inl ⟨k,t9 ndP hp hu k⟩
  ·obtain⟨c,e⟩:=wd (n:=s.heap.objs.size+1) k
   refine .inr ⟨.inl k,c,e,?_⟩
   have q:=x.cell y c e
   rw[t_ ndP hp hu (by show scope.names.lookup y≠_;rw[k];decide)] at q
   exact q
 ·exact e0.hok.fresh (Nat.le_of_lt (x.above y c (PySem.mem_of_lookup h)))
 ·unfold start
  show _=N.length
  rw[List.length_append,List.length_map,List.length_replicate]
  lia
theorem KS{CX:CXT}{P:Program}{w:World}{K:PySem.W.Frag}{mg:Str→Option Value}{base:Heap}{k:Nat}{f:Addr}{name qual:Str}{params:Arguments}{body:List Stmt}{scope:Scope}{dV kV doc pm cdv ct oc:Value}{an od:Option Addr}
  {osl:Array (Option Value)}{N ps:List Str}{sp:Sp} (lk:K.lookup f=some ⟨oc,od,.func (PySem.W.fnOf name qual params body scope dV kV doc pm an cdv ct),osl⟩) (hcd:PySem.W.codeIn K cdv qual=true) (S:aM N ps scope)
  (len:∀vs H Q E,sp vs H Q E→vs.length=ps.length)
  (CP:∀(A:Around) (outer:List Env) (s:Shared) (H:Hp) (vs:List V) (Q:VK) (E:XK),dQ k (A.deeper (envOfC qual scope s.heap.objs.size f cdv))→sp vs H Q E →
   ∃t,PSs (xU CX P w K mg base N qual scope f cdv A outer s H E) body t∧t { nx:=λ_ H'=>Q .non H',rt:=Q } (start N vs) H) :
  aN P w K mg base CX (k+1) f (PySem.W.fnOf name qual params body scope dV kV doc pm an cdv ct) ps sp:=by
 refine⟨len,λA outer s H args us vs Q E hr e0 hb r hsp=>?_⟩
 have hl:=len _ _ _ _ hsp
 have KX:K.In s.heap:=e0.mod.kin.keeps λb o e=>(e0.bs b o e).1
 have lim:s.heap.NoLimit:=e0.mod.nolimit.keeps λb o e=>(e0.bs b o e).1
 have KU:∀y∈ps.zip us,scope.names.lookup y.1=some .local∨(scope.names.lookup y.1=some .cell∧((cellsFrom (s.heap.objs.size+1) scope.names []).lookup y.1).isSome=true):=λaq hy=>by
  obtain⟨n,v⟩:=aq
  rcases S.par n (List.of_mem_zip hy).1 with q|q
  ·exact .inl q
  ·exact .inr ⟨q,PySem.W.cellsFrom_some _ _ _ (.inl q)⟩
 refine codeAny_call_function hr.depth (KX _ _ lk) rfl S.co S.gen rfl (PySem.W.codeRec_of KX hcd) (hb _ _ _ _ ?_)
 refine wpAny_newFunctionEnv_cells S.kind KU λenv he s1 x=>?_
 subst he
 refine⟨lim.keeps x.toInCall.keep,codeAny_func ?_⟩
 obtain⟨t,ht,hq⟩:=CP A outer s H vs Q E (hr.deeper _) hsp
 have I:Inv (xU CX P w K mg base N qual scope f cdv A outer s H E) [] (start N vs) H s1:=A3 S hr.hd e0 hl r x
 refine wpAny_mono (ht [] s1 (start N vs) H _ I hq) (λfl s' hs=>?_) λe s' hs=>hs
 have fin:∀{σ':St}{H':Hp}{v:V}{u:Value},Inv (xU CX P w K mg base N qual scope f cdv A outer s H E) [] σ' H' s'→RelV v u→Q v H'→CE outer P w H s Q u s' :=
  λ{σ' H' v u} J rv q=>⟨v,H',J.os,J.bare,J.base,J.hok,rv,q⟩
 cases fl with
 | ret u =>
  obtain⟨v,σ',H',J,rv,q⟩:=hs
  exact fin J rv q
 | next =>
  obtain⟨σ',H',J,q⟩:=hs
  exact fin (v:=V.non) (u:=Value.none) J rfl q
 | brk =>
  obtain⟨_,_,_,q⟩:=hs
  exact False.elim q
 | cont =>
  obtain⟨_,_,_,q⟩:=hs
  exact False.elim q
section
variable{X:Cx}{x:Str}{p pos:Pos}{e:Expr}{es:List Expr}{t:TA}{id T:String}{r:List V→Hp→VK→Prop}
def tCB(r:List V→Hp→VK→Prop)(t:TA):TE:=λσ H Q=>t σ H λvs H1=>r vs H1 Q
theorem qA(hc:fo X (.builtin id) r)(hg:Gl X x)(hm:X.mg x=none)(hv:bootBuiltins x=some (.builtin id))(ha:PA X (e::es) t)(hn:x≠"__name__":=by decide)(hdb:(x==("__debug__":Str))=false:=by decide)
  (he:starEach (e::es) X.env=(false,eval e X.env)::starEach es X.env:=by rfl) (hpl:(backTo pos (starEach es X.env)).any (·.1)=false:=by rfl):PE X (.Call (.Name x p) (e::es) [] pos) (tCB r t):=by
 intro pins s σ H Q I h
 refine wpAny_Call_Name_kw (qw I hg hm hv ?_ hn hdb)
 exact PyProof.Rows.callWith_builtin1 (thn (ha pos pins s σ H _ I h) λus s1 ⟨vs,H1,I1,r1,q1⟩=>hc pins s1 σ H1 vs us Q I1 r1 q1) he hpl
theorem ub(hc:fo X (.type T) r)(hg:Gl X x)(hm:X.mg x=none)(hv:bootBuiltins x=some (.type T))(ha:PA X (e::es) t)(hn:x≠"__name__":=by decide)(hdb:(x==("__debug__":Str))=false:=by decide)
  (he:starEach (e::es) X.env=(false,eval e X.env)::starEach es X.env:=by rfl) (hpl:(backTo pos (starEach es X.env)).any (·.1)=false:=by rfl):PE X (.Call (.Name x p) (e::es) [] pos) (tCB r t):=by
 intro pins s σ H Q I h
 refine wpAny_Call_Name_kw (qw I hg hm hv ?_ hn hdb)
 exact PyProof.Rows.callWith_type1 (thn (ha pos pins s σ H _ I h) λus s1 ⟨vs,H1,I1,r1,q1⟩=>hc pins s1 σ H1 vs us Q I1 r1 q1) he hpl
end
end L2
namespace HT
open PySem PyProof.Rows
section
open PySem.SeqAt
open PySem.AutoSeq1 (wpAny_loadPart')
open PySem.MeetsSeq PySem.MeetsSeq2 PySem.MeetsSeq3
end
section
variable{prog:Program}{w:World}{A:Around}{E:Value→Shared→Prop}{s:Shared}
theorem Fh{t b:Addr}{vs ws:List Value}{Q:Value→Shared→Prop}(ht:IsTup s.heap t vs.toArray)(hb:IsTup s.heap b ws.toArray)(hv:vs≠[])
  (h1:ws=[]→Q (.ref t) s) (h2:ws≠[]→Q (.ref s.heap.objs.size) { s with heap:=s.heap.push { cls:=.type "tuple",data:=.seq (vs++ws).toArray } })
  (hsz:vs.length+ws.length≤sizeLine):wpAny (model prog w) A (binaryOp .Add (.ref t) (.ref b)) Q E s:=by
 obtain⟨⟨cls,dd,data,sl⟩,ho,hc,n,hd⟩:=id ht
 obtain⟨⟨KW,dd2,data2,sl2⟩,ho2,hc2,n2,hd2⟩:=id hb
 simp only at hc hd hc2 hd2
 subst hc hd hc2 hd2
 have e:vs.toArray++ws.toArray=(vs++ws).toArray:=by simp
 by_cases hw:ws=[]
 ·exact concat_meets ⟨_,ho,rfl⟩ ⟨_,ho2,rfl⟩ noFill_tuple_add seq_tuple_add PySem.F.slot_tuple_add PySem.F.entry_tuple_add (PySem.F.args_tuple_add_2 _ _)
   (tuple_addW1 t b vs.toArray ws.toArray n n2 dd dd2 sl sl2 (by simpa using hv) (by simp[hw])) ⟨ho,ho2,h1 hw⟩
 ·refine concat_meets ⟨_,ho,rfl⟩ ⟨_,ho2,rfl⟩ noFill_tuple_add seq_tuple_add PySem.F.slot_tuple_add PySem.F.entry_tuple_add (PySem.F.args_tuple_add_2 _ _)
   (tuple_addW2 t b vs.toArray ws.toArray n n2 dd dd2 sl sl2 (by simpa using hv) (by simpa using hw) (by rw[List.size_toArray,List.size_toArray];exact hsz)) ⟨ho,ho2,?_⟩
  rw[e]
  exact h2 hw
def sIx(n d:Nat):Option Int→Nat
 | none=>d
 | some v=>if v<0 then (v+(n:Int)).toNat else min v.toNat n
theorem ID(n d:Nat)(hd:d≤n)(o:Option Int):sIx n d o≤n:=by
 cases o with
 | none=>exact hd
 | some v =>
  show (if v<0 then (v+(n:Int)).toNat else min v.toNat n)≤n
  by_cases hv:v<0
  ·rw[if_pos hv];lia
  ·rw[if_neg hv];exact Nat.min_le_right _ _
theorem zE(v:Int)(n d:Nat):(if v<0 then max (v+(n:Int)) 0 else min v (n:Int))=((sIx n d (some v):Nat):Int):=by
 show (if v<0 then max (v+(n:Int)) 0 else min v (n:Int))=(((if v<0 then (v+(n:Int)).toNat else min v.toNat n):Nat):Int)
 by_cases hv:v<0
 ·simp only[if_pos hv];lia
 ·simp only[if_neg hv];lia
theorem xV(lo hi:Option Int)(n:Nat):Builtin.Slice.sliceAdjust lo hi 1 (n:Int)=(((sIx n 0 lo:Nat):Int),((sIx n n hi:Nat):Int)):=by
 have h1:¬ ((1:Int)<0):=by lia
 unfold Builtin.Slice.sliceAdjust
 simp only[h1,if_false]
 refine Prod.ext ?_ ?_
 ·cases lo with
  | none=>rfl
  | some v=>exact zE v n 0
 ·cases hi with
  | none=>rfl
  | some v=>exact zE v n n
theorem xW(i j:Nat):Builtin.Slice.slicePlaces (i:Int) (j:Int) 1=j-i:=by
 unfold Builtin.Slice.slicePlaces
 have h1:(1:Int) > 0:=by lia
 simp only[h1,if_true,Int.ediv_one]
 split<;>lia
theorem qB{v:Value}{o:Option Int}{Q:Option Int→Shared→Prop}(p:IsPart v o)(h:Q o s):wpAny (model prog w) A (Builtin.Slice.slicePartIndex v) Q E s:=by
 cases p with
 | none=>exact slicePart_none h
 | int i t=>exact slicePart_int h
theorem pq{sl:Addr}{vl vu:Value}{lo hi:Option Int}{n:Nat}{Q:Int×Int×Nat→Shared→Prop}(hs:s.heap.IsSliceOf sl vl vu .none)(pl:IsPart vl lo)(pu:IsPart vu hi)
  (h:Q (((sIx n 0 lo:Nat):Int),1,sIx n n hi-sIx n 0 lo) s):wpAny (model prog w) A (Builtin.Slice.sliceApplied (.ref sl) (pure (n:Int))) Q E s:=by
 obtain⟨os,hos,hcs,hds⟩:=id hs
 unfold Builtin.Slice.sliceApplied Builtin.Slice.sliceFields
 refine wpAny_bind (wpAny_bind (wpAny_field hos hds (x:=vl) rfl (wpAny_bind (wpAny_field hos hds (x:=vu) rfl (wpAny_bind (wpAny_field hos hds (x:=.none) rfl (wpAny_pure ?_)))))))
 refine wpAny_bind (slicePart_none ?_)
 show wpAny _ _ (if ((1:Int)==0)=true then _ else _) _ _ s
 rw[if_neg (by decide)]
 refine wpAny_bind (qB pl (wpAny_bind (qB pu (wpAny_bind (wpAny_pure ?_)))))
 show wpAny _ _ (match Builtin.Slice.sliceAdjust lo hi 1 (n:Int) with|(lo,hi)=>pure (lo,(1:Int),Builtin.Slice.slicePlaces lo hi 1)) _ _ s
 rw[xV lo hi n]
 show wpAny _ _ (pure (((sIx n 0 lo:Nat):Int),(1:Int),Builtin.Slice.slicePlaces ((sIx n 0 lo:Nat):Int) ((sIx n n hi:Nat):Int) 1)) _ _ s
 rw[xW]
 exact wpAny_pure h
theorem CQ(xs:Array Value)(i k:Nat):((List.range k).filterMap λ(m:Nat)=>xs[((i:Int)+(m:Int)*1).toNat]?).toArray=((xs.toList.drop i).take k).toArray:=by
 have e:(λ(m:Nat)=>xs[((i:Int)+(m:Int)*1).toNat]?)=λm=>xs[i+m]?:=by
  funext m
  have:((i:Int)+(m:Int)*1).toNat=i+m:=by lia
  rw[this]
 rw[e]
 have:=pick_run xs i k
 rw[List.filterMap_map] at this
 have e2:((λx=>xs[x]?) ∘ λx=>i+x)=λm=>xs[i+m]?:=rfl
 rw[e2] at this
 rw[this]
theorem nV{t sl:Addr}{items:Array Value}{vl vu:Value}{lo hi:Option Int}{Q:Value→Shared→Prop}(ht:IsTup s.heap t items)(hs:s.heap.IsSliceOf sl vl vu .none)(pl:IsPart vl lo)(pu:IsPart vu hi)
  (hw:¬ (sIx items.size 0 lo=0∧sIx items.size items.size hi=items.size))
  (h:Q (.ref s.heap.objs.size) { s with heap:=s.heap.push { cls:=.type "tuple",data:=.seq ((items.toList.drop (sIx items.size 0 lo)).take (sIx items.size items.size hi-sIx items.size 0 lo)).toArray } })
  (hsz:items.size≤sizeLine):wpAny (model prog w) A (getItem (.ref t) (.ref sl)) Q E s:=by
 have zF:sizeOk (.seq ((items.toList.drop (sIx items.size 0 lo)).take (sIx items.size items.size hi-sIx items.size 0 lo)).toArray):=by
  show ((items.toList.drop (sIx items.size 0 lo)).take (sIx items.size items.size hi-sIx items.size 0 lo)).toArray.size≤sizeLine
  rw[List.size_toArray,List.length_take,List.length_drop,Array.length_toList]
  lia
 have hj:sIx items.size items.size hi≤items.size:=ID _ _ (Nat.le_refl _) hi
 obtain⟨os,hos,hcs,hds⟩:=id hs
 have hTs:s.TypeIs (.ref sl) "slice":=⟨os,hos,hcs⟩
 unfold getItem
 try with_reducible refine wpAny_holding ?_
 first|refine wpAny_bind (wpAny_pure ?_)|skip
 refine wpAny_bind (wpAny_sequenceKey ht.typeIs (by decide) ?_)
 refine wpAny_bind (wpAny_callSpecial?_slot (name:=Str.ofString "__getitem__") ht.typeIs PyProof.Rows.slot_tuple_getitem
  (wpAny_call_entry PyProof.Rows.slot_tuple_getitem ht.typeIs entry_tuple_getitem ?_ (args_tuple_getitem _ _)))
 show wpAny _ _ (Builtin.Tuple.tupleItemsOf (.ref t)>>=_) _ _ s
 refine wpAny_bind (tupleItemsOf_ ht ?_)
 refine wpAny_bind (wpAny_typeOf hTs ?_)
 rw[if_pos (by decide)]
 refine wpAny_bind (pq hs pl pu ?_)
 have hno:¬ ((((sIx items.size 0 lo:Nat):Int)==0 && (1:Int)==1 && (sIx items.size items.size hi-sIx items.size 0 lo)==items.size)=true):=by
  intro q
  rw[Bool.and_eq_true,Bool.and_eq_true] at q
  have q1:((sIx items.size 0 lo:Nat):Int)=0:=eq_of_beq q.1.1
  have q2:sIx items.size items.size hi-sIx items.size 0 lo=items.size:=eq_of_beq q.2
  exact hw ⟨by lia,by lia⟩
 show wpAny _ _ (if (((sIx items.size 0 lo:Nat):Int)==0 && (1:Int)==1 && (sIx items.size items.size hi-sIx items.size 0 lo)==items.size)=true then _ else _) _ _ s
 rw[if_neg hno,CQ]
 first
  | exact wpAny_bind (m:=Builtin.Tuple.tupleExact _) (wpAny_newObj_type (wpAny_pure ⟨_,rfl,wpAny_pure h⟩) zF)
  | exact wpAny_bind (m:=Builtin.Tuple.tupleExact _) (wpAny_newObj_type (wpAny_bind (wpAny_pure (wpAny_pure ⟨_,rfl,wpAny_pure h⟩))) zF)
  | exact wpAny_bind (wpAny_bind (m:=Builtin.Tuple.tupleExact _) (wpAny_newObj_type (wpAny_pure (wpAny_pure ⟨_,rfl,wpAny_pure h⟩)) zF))
  | exact wpAny_bind (wpAny_bind (m:=Builtin.Tuple.tupleExact _) (wpAny_newObj_type (wpAny_pure ⟨_,rfl,wpAny_pure h⟩) zF))
end
end HT
namespace L2
open PySem PySem.Spec PyProof.Rows
noncomputable abbrev TO := St → Hp → (Option Int → Hp → Prop) → Prop
def PO(X:Cx)(e:Option Expr)(t:TO):Prop :=
 ∀(pins:List (Addr×Obj)) (s:Shared) (σ:St) (H:Hp) (Q:Option Int→Hp→Prop),Inv X pins σ H s→t σ H Q →
  wpAny (model X.prog X.w) X.A (evalPart e X.env) (λu s'=>∃o H',Inv X pins σ H' s'∧IsPart u o∧Q o H') X.xe s
def Fi:TO:=λ_ H Q=>Q none H
def KY(t:TE):TO:=λσ H Q=>t σ H λx H1=>∃i,x=.int i∧Q (some i) H1
theorem intsAre_of{ns:List Int}:∀{us:List Value},Vals (ns.map V.int) us→IntsAre us ns:=by
 induction ns with
 | nil=>intro us r;rw[List.map_nil] at r;cases r;exact .nil
 | cons n ns ih =>
  intro us r
  rw[List.map_cons] at r
  cases r with
  | cons r1 r2 =>
   obtain⟨t,e⟩:=r1
   subst e
   exact .cons n t (ih r2)
section
variable{X:Cx}{e:Expr}{te:TE}{lo hi:Option Expr}{tl th:TO}{pos p2:Pos}
theorem Fj:PO X none Fi:=by
 intro pins s σ H Q I h
 rw[evalPart_none]
 exact wpAny_pure ⟨none,H,I,.none,h⟩
theorem Fl(h:PE X e te):PO X (some e) (KY te):=by
 intro pins s σ H Q I hw
 rw[evalPart_some]
 refine thn (h pins s σ H _ I hw) λu s1 aq=>?_
 obtain⟨x,H1,I1,r1,q1⟩:=aq
 obtain⟨i,rfl,q⟩:=q1
 obtain⟨t,rfl⟩:=r1
 exact⟨some i,H1,I1,.int i t,q⟩
def SlR(X:Cx)(r:V→Option Int→Option Int→Hp→VK→Prop):Prop :=
 ∀(pins:List (Addr×Obj)) (s:Shared) (σ:St) (H:Hp) (x:V) (v vl vu:Value) (lo hi:Option Int) (sl:Addr) (Q:VK),Inv X pins σ H s→RelV x v→s.heap.IsSliceOf sl vl vu .none→IsPart vl lo→IsPart vu hi→r x lo hi H Q →
  ∃T id,typeLookup (.type T) "__getitem__"=pure (some (.builtin id))∧s.TypeIs v T∧wpAny (model X.prog X.w) X.A (getItem v (.ref sl)) (EP X pins σ Q) X.xe s
theorem SlR.or{r r':V→Option Int→Option Int→Hp→VK→Prop}(h:SlR X r)(h':SlR X r'):SlR X (λx lo hi H Q=>r x lo hi H Q∨r' x lo hi H Q):=by
 intro pins s σ H x v vl vu lo hi sl Q I rx hs pl pu q
 rcases q with q|q
 ·exact h pins s σ H x v vl vu lo hi sl Q I rx hs pl pu q
 ·exact h' pins s σ H x v vl vu lo hi sl Q I rx hs pl pu q
def tSl(r:V→Option Int→Option Int→Hp→VK→Prop)(te:TE)(tl th:TO):TE:=λσ H Q=>te σ H λx H1=>tl σ H1 λl H2=>th σ H2 λu H3=>r x l u H3 Q
theorem CU{r:V→Option Int→Option Int→Hp→VK→Prop}(hr:SlR X r)(he:PE X e te)(hl:PO X lo tl)(hu:PO X hi th):PE X (.Subscript e (.Slice lo hi none p2) pos) (tSl r te tl th):=by
 intro pins s σ H Q I h
 refine Subscript_ (thn (he pins s σ H _ I h) λv s1 aq=>?_)
 obtain⟨x,H1,I1,r1,q1⟩:=aq
 refine wpAny_Slice (thn (hl pins s1 σ H1 _ I1 q1) λvl s2 ⟨l,H2,I2,pl,q2⟩=>thn (hu pins s2 σ H2 _ I2 q2) λvu s3 cJ=>?_)
 obtain⟨u,H3,I3,pu,q3⟩:=cJ
 rw[evalPart_none]
 refine wpAny_pure ?_
 have I4:Inv X pins σ H3 { s3 with heap:=s3.heap.push { cls:=.type "slice",data:=.fields #[vl,vu,.none] } }:=I3.kept (t':=s3.toks) λb ob q=>Heap.get?_push_of_some _ q
 obtain⟨T,id,hT,ht,hg⟩:=hr pins { s3 with heap:=s3.heap.push { cls:=.type "slice",data:=.fields #[vl,vu,.none] } } σ H3 x v vl vu l u s3.heap.objs.size Q I4 r1 (Heap.IsSliceOf.new ..) pl pu q3
 show wpAny (model X.prog X.w) X.A (subscriptTail e (.Slice lo hi none p2) v (.ref s3.heap.objs.size)) (EP X pins σ Q) X.xe { s3 with heap:=s3.heap.push { cls:=.type "slice",data:=.fields #[vl,vu,.none] } }
 exact tail_any (ops:=[.ref s3.heap.objs.size,v]) ht hT hg (by with_unfolding_all rfl)
def we(xs:List V)(lo hi:Option Int):List V:=(xs.drop (HT.sIx xs.length 0 lo)).take (HT.sIx xs.length xs.length hi-HT.sIx xs.length 0 lo)
theorem p3(xs:List V)(lo hi:Option Int):(we xs lo hi).length≤xs.length:=by
 unfold we
 rw[List.length_take,List.length_drop]
 lia
def Nm(K:PySem.W.Frag):V→Option Int→Option Int→Hp→VK→Prop:=λx lo hi H Q=>∃a xs,x=.ref a∧SqT K H a xs ∧
 ¬ (HT.sIx xs.length 0 lo=0∧HT.sIx xs.length xs.length hi=xs.length)∧∀p,H p=none→Q (.ref p) (upd H p (.tup (we xs lo hi)))
theorem IE:SlR X (Nm X.K):=by
 intro pins s σ H x v vl vu lo hi sl Q I rx hs pl pu h
 obtain⟨a,xs,rfl,hx,hw,q⟩:=h
 cases rx
 obtain⟨its,r,ht,hz⟩:=I.tuple hx
 have hlen:its.toArray.size=xs.length:=by rw[List.size_toArray];exact r.length.symm
 refine⟨"tuple",_,PyProof.Rows.slot_tuple_getitem.lookup,ht.typeIs,?_⟩
 refine HT.nV ht hs pl pu (by rw[hlen];exact hw) ?_ (by rw[hlen];exact hz)
 rw[hlen]
 refine⟨.ref s.heap.objs.size,_,I.laid (t':=s.toks) (o:=.tup (we xs lo hi)) (λb ob q=>Heap.get?_push_of_some _ q) (Nat.le_refl _) ?_,rfl,q _ (I.hok.fresh (Nat.le_refl _))⟩
 exact⟨Nat.le_trans (p3 xs lo hi) hz,_,(r.drop (HT.sIx xs.length 0 lo)).take (HT.sIx xs.length xs.length hi-HT.sIx xs.length 0 lo),IsTup.new _ _⟩
def KZ(K:PySem.W.Frag):R2:=λx y H Q=>∃a b xs ys,x=.ref a∧y=.ref b∧SqT K H a xs∧SqT K H b ys∧xs≠[]∧xs.length+ys.length≤sizeLine ∧
 (ys=[]→Q (.ref a) H)∧(ys≠[]→∀p,H p=none→Q (.ref p) (upd H p (.tup (xs++ys))))
theorem Vals.qm{xs:List V}{us:List Value}(r:Vals xs us):us=[]↔xs=[]:=by
 cases r with
 | nil=>simp
 | cons _ _=>simp
theorem Fm:OpR X (binaryOp .Add) (KZ X.K):=by
 intro pins s σ H x y v u Q I rx ry h
 obtain⟨a,b,xs,ys,rfl,rfl,ha,hb,hx,hz,q1,q2⟩:=h
 cases rx
 cases ry
 obtain⟨its,r1,p1,_⟩:=I.tuple ha
 obtain⟨nW,r2,p2,_⟩:=I.tuple hb
 refine HT.Fh p1 p2 (λz=>hx (r1.qm.mp z)) (λz=>⟨.ref a,H,I,rfl,q1 (r2.qm.mp z)⟩) (λz=>?_) (by rw[← r1.length,← r2.length];exact hz)
 refine⟨.ref s.heap.objs.size,_,I.laid (t':=s.toks) (o:=.tup (xs++ys)) (λb ob q=>Heap.get?_push_of_some _ q) (Nat.le_refl _) ?_,rfl,q2 (λw=>z (r2.qm.mpr w)) _ (I.hok.fresh (Nat.le_refl _))⟩
 exact⟨by rw[List.length_append];exact hz,_,r1.append r2,IsTup.new _ _⟩
end
def ixN(n:Nat)(i:Int):Option Nat:=if 0≤i then (if i<n then some i.toNat else none) else if -(n:Int)≤i then some (i+n).toNat else none
def atI{α:Type}(xs:List α)(i:Int):Option α:=(ixN xs.length i).bind λj=>xs[j]?
theorem zG{n:Nat}{i:Int}{j:Nat}(h:ixN n i=some j):seqIndex? i n=some j∧j<n∧-(n:Int)≤i∧i<n:=by
 unfold ixN at h
 by_cases h0:0≤i
 ·rw[if_pos h0] at h
  by_cases h1:i<n
  ·rw[if_pos h1] at h
   have e:i.toNat=j:=Option.some.inj h
   exact⟨by rw[seqIndex_of h0 h1,e],by lia,by lia,h1⟩
  ·rw[if_neg h1] at h;cases h
 ·rw[if_neg h0] at h
  by_cases h1:-(n:Int)≤i
  ·rw[if_pos h1] at h
   have e:(i+n).toNat=j:=Option.some.inj h
   exact⟨by rw[seqIndex_neg (by lia) h1,e],by lia,h1,by lia⟩
  ·rw[if_neg h1] at h;cases h
theorem uO{α:Type}{xs:List α}{i:Int}{v:α}(h:atI xs i=some v):∃j,seqIndex? i xs.length=some j∧xs[j]?=some v∧j<xs.length∧-(xs.length:Int)≤i∧i<xs.length:=by
 unfold atI at h
 cases e:ixN xs.length i with
 | none=>rw[e] at h;cases h
 | some j =>
  rw[e] at h
  obtain⟨h1,h2,h3,h4⟩:=zG e
  exact⟨j,h1,h,h2,h3,h4⟩
def zH(b:Expr):Prop:=∀o i,subscripted b false o i=operate [o,i] (getItem o i)
def IxR(X:Cx)(r:R2):Prop :=
 ∀(value slice:Expr) (pins:List (Addr×Obj)) (s:Shared) (σ:St) (H:Hp) (x y:V) (v u:Value) (Q:VK),Inv X pins σ H s→RelV x v→RelV y u→r x y H Q →
  subscripted slice false v u=operate [v,u] (getItem v u)→wpAny (model X.prog X.w) X.A (subscriptTail value slice v u) (EP X pins σ Q) X.xe s
def MtR(X:Cx)(id:String)(r:V→List V→Hp→VK→Prop):Prop :=
 ∀(pins:List (Addr×Obj)) (s:Shared) (σ:St) (H:Hp) (x:V) (xs:List V) (v:Value) (us:List Value) (Q:VK),Inv X pins σ H s→RelV x v→Vals xs us→r x xs H Q →
  wpAny (model X.prog X.w) X.A (call (.builtin id) (v::us)) (EP X pins σ Q) X.xe s
section
variable{X:Cx}{a b:Expr}{ta tb:TE}{pos:Pos}
theorem IxR.or{r r':R2}(h:IxR X r)(h':IxR X r'):IxR X (λx y H Q=>r x y H Q∨r' x y H Q):=by
 intro value slice pins s σ H x y v u Q I rx ry q hs
 rcases q with q|q
 ·exact h value slice pins s σ H x y v u Q I rx ry q hs
 ·exact h' value slice pins s σ H x y v u Q I rx ry q hs
theorem K0{r:R2}(hr:IxR X r)(ha:PE X a ta)(hb:PE X b tb)(hs:zH b):PE X (.Subscript a b pos) (tOp r ta tb):=by
 intro pins s σ H Q I h
 exact Subscript_ (Il ha hb I h λv u s2 x y H2 I2 rx ry q=>hr a b pins s2 σ H2 x y v u Q I2 rx ry q (hs _ _))
def K1(K:PySem.W.Frag):R2:=λx y H Q=>∃p xs i v,x=.ref p∧y=.int i∧SqL K H p xs∧atI xs i=some v∧Q v H
def K2(K:PySem.W.Frag):R2:=λx y H Q=>∃p xs i v,x=.ref p∧y=.int i∧SqT K H p xs∧atI xs i=some v∧Q v H
def K3:R2:=λx y H Q=>∃z i c,x=.str z∧y=.int i∧z.length≤sizeLine∧atI z.cps.toList i=some c∧Q (.str ⟨#[c]⟩) H
theorem Fn:IxR X (K1 X.K):=by
 intro value slice pins s σ H x y v u Q I rx ry h hs
 obtain⟨p,xs,i,z,rfl,rfl,hq,he,q⟩:=h
 cases rx
 obtain⟨t,rfl⟩:=ry
 obtain⟨its,r,pl,hz⟩:=I.list hq
 obtain⟨j,h1,h2,h3,h4,h5⟩:=uO he
 obtain⟨w,ew,rw'⟩:=r.get h2
 have hl:=r.length
 have hn:=pk
 have fin:EP X pins σ Q w s:=⟨z,H,I,rw',q⟩
 by_cases h0:0≤i
 ·have hj:i.toNat=j:=by
   rw[seqIndex_of h0 h5] at h1
   exact Option.some.inj h1
  exact item_listR pl.isList h0 (by lia) (by rw[hj];simpa using ew) fin hs
 ·have hj:(i+(its.toArray.size:Int)).toNat=j:=by
   rw[seqIndex_neg (by lia) h4] at h1
   rw[List.size_toArray,← hl]
   exact Option.some.inj h1
  exact subscriptTail_builtinR (x:=w) pl.isList.typeIs slot_list_getitem.lookup
   (wpAny_getItem_list_neg (Q:=λr s'=>r=w∧EP X pins σ Q r s') pl.isList (by lia) (by rw[List.size_toArray]<;>lia) (by lia) (by rw[hj];simpa using ew) ⟨rfl,fin⟩) hs
theorem IF:IxR X (K2 X.K):=by
 intro value slice pins s σ H x y v u Q I rx ry h hs
 obtain⟨p,xs,i,z,rfl,rfl,hq,he,q⟩:=h
 cases rx
 obtain⟨t,rfl⟩:=ry
 obtain⟨its,r,pl,hz⟩:=I.tuple hq
 obtain⟨j,h1,h2,h3,h4,h5⟩:=uO he
 obtain⟨w,ew,rw'⟩:=r.get h2
 have hl:=r.length
 have hn:=pk
 have fin:EP X pins σ Q w s:=⟨z,H,I,rw',q⟩
 exact subscriptTail_builtinR (x:=w) pl.typeIs slot_tuple_getitem.lookup
  (getItem_tuple (j:=j) (Q:=λr s'=>r=w∧EP X pins σ Q r s') pl (by lia) (by lia) (by rw[List.size_toArray,← hl];exact h1) (by simpa using ew) ⟨rfl,fin⟩) hs
theorem IG:IxR X K3:=by
 intro value slice pins s σ H x y v u Q I rx ry h hs
 obtain⟨z,i,c,rfl,rfl,hz,he,q⟩:=h
 obtain⟨t,rfl⟩:=rx
 obtain⟨t',rfl⟩:=ry
 obtain⟨j,h1,h2,h3,h4,h5⟩:=uO he
 have hl:z.cps.toList.length=z.length:=by simp[Str.length]
 rw[hl] at h1 h4 h5
 have hn:=pk
 exact tail_any (typeIs_str s z t) slot_str_getitem.lookup (getItem_str (c:=c) (by
  have e1:decide (i< -(2 ^ 63:Int))=false:=decide_eq_false (by lia)
  have e2:decide (i ≥ 2 ^ 63)=false:=decide_eq_false (by lia)
  rw[e1,e2,Bool.or_false]) (by rw[h1];simpa using h2) ⟨.str ⟨#[c]⟩,H,I.tok _,⟨_,rfl⟩,q⟩) hs
def rIx(K:PySem.W.Frag):R2:=λx y H Q=>K1 K x y H Q∨K2 K x y H Q∨K3 x y H Q
theorem IH:IxR X (rIx X.K):=Fn.or (IF.or IG)
theorem xX(its:List Value)(n j:Nat)(u:Value):Obj.mapSeq (·.setIfInBounds j u) { cls:=.type "list",data:=.seq its.toArray n }={ cls:=.type "list",data:=.seq (its.set j u).toArray n }:=by
 simp[Obj.mapSeq]
theorem Inv.lst{pins:List (Addr×Obj)}{σ:St}{H:Hp}{s:Shared}{p:Addr}{xs:List V}(I:Inv X pins σ H s)(h:H p=some (.lst xs)) :
  ∃(its:List Value) (n:Nat),Vals xs its∧s.heap.get? p=some { cls:=.type "list",data:=.seq its.toArray n }∧xs.length≤sizeLine:=by
 obtain⟨z,its,n,r,e⟩:=I.hok p _ h
 exact⟨its,n,r,e,z⟩
theorem Inv.II{pins:List (Addr×Obj)}{σ:St}{H:Hp}{s:Shared}{p:Addr}{xs ys:List V}{its its':List Value}{n n':Nat}{f:Obj→Obj}(I:Inv X pins σ H s)(h:H p=some (.lst xs))
  (ho:s.heap.get? p=some { cls:=.type "list",data:=.seq its.toArray n }) (hf:f { cls:=.type "list",data:=.seq its.toArray n }={ cls:=.type "list",data:=.seq its'.toArray n' }) (r:Vals ys its') (hz:ys.length≤sizeLine) (t:Nat) :
  Inv X pins σ (upd H p (.lst ys)) { s with heap:=s.heap.update p f,toks:=t }:=by
 have e:(s.heap.update p f).get? p=some { cls:=.type "list",data:=.seq its'.toArray n' }:=by
  rw[Heap.get?_update_self f ho (by rw[hf]<;>rfl),hf]
 refine I.write (x:=p) (e:=p) (by rw[h];trivial) (.inl rfl) (λb u hb q=>(Heap.get?_update_other _ _ (Ne.symm hb)).trans q) ⟨_,e⟩ ?_
 exact⟨hz,its',n',r,e⟩
def K4:V→V→V→Hp→(Hp→Prop)→Prop:=λo i v H Q=>∃p xs k j,o=.ref p∧i=.int k∧H p=some (.lst xs)∧ixN xs.length k=some j∧Q (upd H p (.lst (xs.set j v)))
theorem set_list:KD X K4:=by
 intro pins s σ H o i v ov iv u Q I ro ri rv h
 obtain⟨p,xs,k,j,rfl,rfl,hp,hj,q⟩:=h
 cases ro
 obtain⟨t,rfl⟩:=ri
 obtain⟨its,n,r,ho,hz⟩:=I.lst hp
 obtain⟨h1,h2,h3,h4⟩:=zG hj
 have hl:=r.length
 have hn:=pk
 have I':Inv X pins σ (upd H p (.lst (xs.set j v))) { s with heap:=s.heap.update p (Obj.mapSeq (·.setIfInBounds j u)) } :=
  I.II hp ho (xX its n j u) (r.set rv j) (by rw[List.length_set];exact hz) s.toks
 by_cases h0:0≤k
 ·have hk:k.toNat=j:=by
   rw[seqIndex_of h0 h4] at h1
   exact Option.some.inj h1
  exact PySem.W.ki_setAt ho h0 (by lia) (by rw[List.size_toArray,← hl];exact h4) (by rw[hk];exact⟨_,I',q⟩)
 ·have hk:(k+(its.toArray.size:Int)).toNat=j:=by
   rw[seqIndex_neg (by lia) h3] at h1
   rw[List.size_toArray,← hl]
   exact Option.some.inj h1
  exact PySem.W.ki_setBack ho (by lia) (by rw[List.size_toArray,← hl];exact h3) (by lia) (by rw[hk];exact⟨_,I',q⟩)
theorem uP(lo hi:Option Int)(n:Nat):(sliceBounds lo hi none n).1=((HT.sIx n 0 lo:Nat):Int)∧(sliceBounds lo hi none n).2.1=((HT.sIx n n hi:Nat):Int)∧(sliceBounds lo hi none n).2.2=1:=by
 refine⟨?_,?_,rfl⟩
 ·cases lo with
  | none=>simp[sliceBounds,HT.sIx]
  | some i =>
   simp only[sliceBounds,HT.sIx,Option.getD_none,show (1:Int) > 0 by decide,if_true]
   by_cases h:i<0
   ·simp only[h,if_true]<;>lia
   ·simp only[h,if_false]<;>lia
 ·cases hi with
  | none=>simp[sliceBounds,HT.sIx]
  | some i =>
   simp only[sliceBounds,HT.sIx,Option.getD_none,show (1:Int) > 0 by decide,if_true]
   by_cases h:i<0
   ·simp only[h,if_true]<;>lia
   ·simp only[h,if_false]<;>lia
theorem sO(its:List Value)(lo hi:Option Int):slicePick its.toArray lo hi none=((its.drop (HT.sIx its.length 0 lo)).take (HT.sIx its.length its.length hi-HT.sIx its.length 0 lo)).toArray:=by
 obtain⟨h1,h2,h3⟩:=uP lo hi its.toArray.size
 unfold slicePick
 rw[h1,h2,h3]
 simp only[sliceRange_one,pick_run,List.size_toArray]<;>rfl
def Nn(K:PySem.W.Frag):V→Option Int→Option Int→Hp→VK→Prop:=λx lo hi H Q=>∃a xs,x=.ref a∧SqL K H a xs∧∀p,H p=none→Q (.ref p) (upd H p (.lst (we xs lo hi)))
theorem Fo:SlR X (Nn X.K):=by
 intro pins s σ H x v vl vu lo hi sl Q I rx hs pl pu h
 obtain⟨a,xs,rfl,hx,q⟩:=h
 cases rx
 obtain⟨its,r,ht,hz⟩:=I.list hx
 have hlen:=r.length
 refine⟨"list",_,slot_list_getitem.lookup,ht.isList.typeIs,?_⟩
 refine wpAny_getItem_list_slice ht.isList hs pl pu .none (by simp) ?_ (by rw[List.size_toArray]<;>lia)
 rw[sO,← hlen]
 refine⟨.ref s.heap.objs.size,_,I.laid (t':=s.toks) (o:=.lst (we xs lo hi)) (λb ob q=>Heap.get?_push_of_some _ q) (Nat.le_refl _) ?_,rfl,q _ (I.hok.fresh (Nat.le_refl _))⟩
 exact⟨Nat.le_trans (p3 xs lo hi) hz,_,0,(r.drop (HT.sIx xs.length 0 lo)).take (HT.sIx xs.length xs.length hi-HT.sIx xs.length 0 lo),Heap.get?_push_size _ rfl⟩
def mP:V→Bool
 | .non=>true
 | .bl _=>true
 | .int _=>true
 | .str _=>true
 | _=>false
def eqV:V→V→Bool
 | .non,.non=>true
 | .bl a,.bl b=>a==b
 | .bl a,.int b=>(if a then 1 else 0)==b
 | .int a,.bl b=>a==(if b then 1 else 0)
 | .int a,.int b=>a==b
 | .str a,.str b=>a==b
 | _,_=>false
theorem IJ{A:Around}{s:Shared}{y x:V}{u v:Value}(ry:RelV y u)(rx:RelV x v)(fy:mP y=true)(fx:mP x=true):SeqAt.EqAt A s u v (eqV y x):=by
 cases y with
 | non =>
  cases ry
  cases x with
  | non=>cases rx;exact SeqAt.EqAt.same _
  | bl b=>cases rx;exact SeqAt.EqAt.none_bool b
  | int b=>obtain⟨t,rfl⟩:=rx;exact SeqAt.EqAt.none_int b t
  | str b=>obtain⟨t,rfl⟩:=rx;exact SeqAt.EqAt.none_str b t
  | _=>exact absurd (show false=true from fx) Bool.false_ne_true
 | bl a =>
  cases ry
  cases x with
  | non=>cases rx;exact SeqAt.EqAt.bool_none a
  | bl b=>cases rx;exact SeqAt.EqAt.bool_bool a b
  | int b=>obtain⟨t,rfl⟩:=rx;exact SeqAt.EqAt.bool_int a b t
  | str b=>obtain⟨t,rfl⟩:=rx;exact SeqAt.EqAt.bool_str a b t
  | _=>exact absurd (show false=true from fx) Bool.false_ne_true
 | int a =>
  obtain⟨t',rfl⟩:=ry
  cases x with
  | non=>cases rx;exact SeqAt.EqAt.int_none a t'
  | bl b=>cases rx;exact SeqAt.EqAt.int_bool a t' b
  | int b=>obtain⟨t,rfl⟩:=rx;exact SeqAt.EqAt.int_int a t' b t
  | str b=>obtain⟨t,rfl⟩:=rx;exact SeqAt.EqAt.int_str a t' b t
  | _=>exact absurd (show false=true from fx) Bool.false_ne_true
 | str a =>
  obtain⟨t',rfl⟩:=ry
  cases x with
  | non=>cases rx;exact SeqAt.EqAt.str_none a t'
  | bl b=>cases rx;exact SeqAt.EqAt.str_bool a t' b
  | int b=>obtain⟨t,rfl⟩:=rx;exact SeqAt.EqAt.str_int a t' b t
  | str b=>obtain⟨t,rfl⟩:=rx;exact SeqAt.EqAt.str_str a t' b t
  | _=>exact absurd (show false=true from fx) Bool.false_ne_true
 | _=>exact absurd (show false=true from fy) Bool.false_ne_true
def eqU(x:V)(u:Value):Bool:=match u with
 | .none=>eqV .non x
 | .bool b=>eqV (.bl b) x
 | .int i _=>eqV (.int i) x
 | .str z _=>eqV (.str z) x
 | _=>false
theorem CV{x y:V}{u:Value}(r:RelV y u)(f:mP y=true):eqU x u=eqV y x:=by
 cases y with
 | non=>cases r;rfl
 | bl b=>cases r;rfl
 | int i=>obtain⟨t,rfl⟩:=r;rfl
 | str z=>obtain⟨t,rfl⟩:=r;rfl
 | _=>exact absurd (show false=true from f) Bool.false_ne_true
theorem uQ{x:V}:∀{xs:List V}{us:List Value},Vals xs us→xs.all mP=true→us.any (eqU x)=xs.any λy=>eqV y x
 | _,_,.nil,_=>rfl
 | y::xs,u::us,.cons r t,f=>by
  rw[List.all_cons,Bool.and_eq_true] at f
  rw[List.any_cons,List.any_cons,CV r f.1,uQ t f.2]
theorem qC{A:Around}{s:Shared}{x:V}{v:Value}(rx:RelV x v)(fx:mP x=true):∀{xs:List V}{us:List Value},Vals xs us→xs.all mP=true→∀u∈us,SeqAt.EqAt A s u v (eqU x u)
 | _,_,.nil,_=>λu hu=>by cases hu
 | y::xs,u::us,.cons r t,f=>λu' hu=>by
  rw[List.all_cons,Bool.and_eq_true] at f
  rcases List.mem_cons.mp hu with rfl|hu
  ·rw[CV r f.1];exact IJ r rx f.1 fx
  ·exact qC rx fx t f.2 u' hu
def inV(x:V)(xs:List V):Bool:=xs.any λy=>eqV y x
def rIn(K:PySem.W.Frag)(neg:Bool):R2:=λx y H Q=>∃p xs,y=.ref p∧(SqL K H p xs∨SqT K H p xs)∧mP x=true∧xs.all mP=true∧Q (.bl (if neg then !inV x xs else inV x xs)) H
theorem uc:OpR X (compareOp .In) (rIn X.K false):=by
 intro pins s σ H x y v u Q I rx ry h
 obtain⟨p,xs,rfl,hq,fx,fs,q⟩:=h
 cases ry
 rcases hq with hq|hq
 ·obtain⟨its,r,pl,hz⟩:=I.list hq
  refine SeqAt.in_listAt (eqU x) pl.isList (λw hw=>qC rx fx r fs w (by simpa using hw)) ⟨.bl _,H,I,rfl,?_⟩
  rw[show its.toArray.any (eqU x)=its.any (eqU x) by simp,uQ r fs]
  exact q
 ·obtain⟨its,r,pl,hz⟩:=I.tuple hq
  refine SeqAt.in_tupleAt (eqU x) pl (λw hw=>qC rx fx r fs w (by simpa using hw)) ⟨.bl _,H,I,rfl,?_⟩
  rw[show its.toArray.any (eqU x)=its.any (eqU x) by simp,uQ r fs]
  exact q
theorem uR:fo X (.builtin "len") (λxs H Q=>∃p ys,xs=[.ref p]∧(SqL X.K H p ys∨SqT X.K H p ys)∧Q (.int ys.length) H):=by
 intro pins s σ H xs us Q I r h
 obtain⟨p,ys,rfl,hq,q⟩:=h
 obtain⟨u,rfl,rx⟩:=vals1 r
 cases rx
 have hn:=pk
 rcases hq with hq|hq
 ·obtain⟨its,r',pl,hz⟩:=I.list hq
  have hlen:=r'.length
  exact Calls.call_len_list pl.isList (by simp only[List.size_toArray]<;>lia) ⟨.int ys.length,H,I.tok _,⟨s.toks+1,by rw[List.size_toArray,hlen]⟩,q⟩
 ·obtain⟨its,r',pl,hz⟩:=I.tuple hq
  have hlen:=r'.length
  exact len_tuple pl (by simp only[List.size_toArray]<;>lia) ⟨.int ys.length,H,I.tok _,⟨s.toks+1,by rw[List.size_toArray,hlen]⟩,q⟩
theorem uS:fo X (.builtin "len") (λxs H Q=>∃z,xs=[.str z]∧z.length≤sizeLine∧Q (.int z.length) H):=by
 intro pins s σ H xs us Q I r h
 obtain⟨z,rfl,hz,q⟩:=h
 obtain⟨u,rfl,t,rfl⟩:=vals1 r
 have hn:=pk
 exact len_str (by lia) ⟨.int z.length,H,I.tok _,⟨_,rfl⟩,q⟩
theorem fo.or{f:Value}{r r':List V→Hp→VK→Prop}(h:fo X f r)(h':fo X f r'):fo X f (λxs H Q=>r xs H Q∨r' xs H Q):=by
 intro pins s σ H xs us Q I rs q
 rcases q with q|q
 ·exact h pins s σ H xs us Q I rs q
 ·exact h' pins s σ H xs us Q I rs q
theorem uT:fo X (.type "list") (λxs H Q=>∃p ys,xs=[.ref p]∧(SqL X.K H p ys∨SqT X.K H p ys)∧∀l,H l=none→Q (.ref l) (upd H l (.lst ys))):=by
 intro pins s σ H xs us Q I r h
 obtain⟨p,ys,rfl,hq,q⟩:=h
 obtain⟨u,rfl,rx⟩:=vals1 r
 cases rx
 have fin:∀(its:List Value),Vals ys its→ys.length≤sizeLine→∀(h':Heap) (c':Nat),(∀b o',s.heap.get? b=some o'→h'.get? b=some o') →
   h'.get? s.heap.objs.size=some { cls:=.type "list",dict:=none,data:=.seq its.toArray c',slots:=#[] }→EP X pins σ Q (.ref s.heap.objs.size) { s with heap:=h' }:=λits r' hz h' c' kp e =>
  ⟨.ref s.heap.objs.size,_,I.laid (t':=s.toks) kp (Nat.le_refl _) (show eh X.prog X.w _ h' _ (.lst ys) from ⟨hz,its,c',r',e⟩),rfl,q _ (I.hok.fresh (Nat.le_refl _))⟩
 rcases hq with hq|hq
 ·obtain⟨its,r',pl,hz⟩:=I.list hq
  have hlen:=r'.length
  obtain⟨o,ho,hc,n,hd⟩:=pl.isList
  exact call_list_seq p (.inl rfl) ho hc hd (λh' c' kp e=>fin its r' hz h' c' kp e) (by simp only[List.size_toArray]<;>lia)
 ·obtain⟨its,r',pl,hz⟩:=I.tuple hq
  have hlen:=r'.length
  obtain⟨o,ho,hc,n,hd⟩:=pl
  exact call_list_seq p (.inr rfl) ho hc hd (λh' c' kp e=>fin its r' hz h' c' kp e) (by simp only[List.size_toArray]<;>lia)
theorem sP:fo X (.type "tuple") (λxs H Q=>∃p ys,xs=[.ref p]∧((SqL X.K H p ys∧∀l,H l=none→Q (.ref l) (upd H l (.tup ys)))∨(SqT X.K H p ys∧Q (.ref p) H))):=by
 intro pins s σ H xs us Q I r h
 obtain⟨p,ys,rfl,h⟩:=h
 obtain⟨u,rfl,rx⟩:=vals1 r
 cases rx
 rcases h with ⟨hq,q⟩|⟨hq,q⟩
 ·obtain⟨its,r',pl,hz⟩:=I.list hq
  have hlen:=r'.length
  refine call_tuple_list pl.isList (λh' kp=>?_) (by simp only[List.size_toArray]<;>lia)
  have I1:Inv X pins σ H { s with heap:=h' }:=I.kept (t':=s.toks) kp
  have I2:Inv X pins σ (upd H h'.objs.size (.tup ys)) { s with heap:=h'.push { cls:=.type "tuple",data:=.seq its.toArray } } :=
   I1.laid (t':=s.toks) (λb o e=>Heap.get?_push_of_some _ e) (Nat.le_refl _) (show eh X.prog X.w _ _ _ (.tup ys) from ⟨hz,its,r',IsTup.new _ _⟩)
  exact⟨.ref h'.objs.size,_,I2,rfl,q _ (I1.hok.fresh (Nat.le_refl _))⟩
 ·obtain⟨its,r',pl,hz⟩:=I.tuple hq
  exact call_tuple_same pl ⟨.ref p,H,I,rfl,q⟩
def tyV(K:PySem.W.Frag)(T:String)(x:V)(H:Hp):Prop:=match x with
 | .str _=>T="str"
 | .int _=>T="int"
 | .ref p=>(T="list"∧∃xs,SqL K H p xs)∨(T="tuple"∧∃o,K.lookup p=some o∧o.cls=.type "tuple"∧o.dict=none) ∨
   (T="dict"∧((∃kvs,H p=some (.dK kvs))∨∃kvs,H p=some (.dT kvs)))∨(T="set"∧∃S n,H p=some (.set S n))
 | _=>False
theorem IK{pins:List (Addr×Obj)}{σ:St}{H:Hp}{s:Shared}{T:String}{x:V}{v:Value}(I:Inv X pins σ H s)(r:RelV x v)(ty:tyV X.K T x H) :
  s.TypeIs v T∧∀a,v=.ref a→∃ob,s.heap.get? a=some ob∧ob.dict=none:=by
 cases x with
 | str z =>
  obtain⟨t,rfl⟩:=r
  cases (show T="str" from ty)
  exact⟨typeIs_str s z t,λ_ e=>nomatch e⟩
 | int i =>
  obtain⟨t,rfl⟩:=r
  cases (show T="int" from ty)
  exact⟨typeIs_int s i t,λ_ e=>nomatch e⟩
 | ref p =>
  cases r
  rcases ty with ⟨rfl,xs,hq⟩|⟨rfl,o,hk,hc,hd⟩|⟨rfl,hk⟩|⟨rfl,S,n,hk⟩
  ·obtain⟨its,_,pl,_⟩:=I.list hq
   refine⟨pl.isList.typeIs,λa e=>?_⟩
   cases e
   obtain⟨o,n,e,c,hd,_⟩:=pl
   exact⟨o,e,hd⟩
  ·refine⟨⟨o,I.kIn p o hk,hc⟩,λa e=>?_⟩
   cases e
   exact⟨o,I.kIn _ o hk,hd⟩
  ·have z:∃o,s.heap.get? p=some o∧o.ExactDict:=by
    rcases hk with ⟨kvs,hk⟩|⟨kvs,hk⟩
    ·obtain⟨_,_,_,_,o,_,e,ex,_⟩:=I.hok p _ hk
     exact⟨o,e,ex⟩
    ·obtain⟨_,_,_,_,o,_,_,e,ex,_⟩:=I.hok p _ hk
     exact⟨o,e,ex⟩
   obtain⟨o,e,ex⟩:=z
   refine⟨⟨o,e,ex.1⟩,λa e2=>?_⟩
   cases e2
   exact⟨o,e,ex.2.1⟩
  ·obtain⟨o,_,_,_,e,ex,_⟩:=I.hok p _ hk
   refine⟨⟨o,e,ex.1⟩,λa e2=>?_⟩
   cases e2
   exact⟨o,e,ex.2.1⟩
 | _=>exact False.elim ty
def tBM(K:PySem.W.Frag)(T:String)(r:V→List V→Hp→VK→Prop)(to:TE)(t:TA):TE:=λσ H Q=>to σ H λx H1=>tyV K T x H1∧t σ H1 λxs H2=>r x xs H2 Q
variable{o e:Expr}{es:List Expr}{to:TE}{t:TA}{name:Str}{apos fU:Pos}{T id:String}{r:V→List V→Hp→VK→Prop}
theorem CY(pa:PlainAttrs T)(slot:Slot T name id)(hty:typeOf (.builtin id)=pure (.type "method_descriptor"))(hm:MtR X id r)(ho:PE X o to)(ha:PA X (e::es) t)
  (lC:attributeBase o name X.env (eval o X.env)=eval o X.env:=by rfl)
  (xY:((backTo fU (starEach (e::es) X.env)).all (λx=>!x.1) && (backToKw fU (keywordEach [] X.env)).all (λx=>x.1.isSome)
   && decide ((e::es).length+([]:List Keyword).length+(if ([]:List Keyword).isEmpty then 0 else 1)<30))=true:=by rfl)
  (lD:(apos.endLine==fU.line)=true:=by rfl) (hs:starEach (e::es) X.env=(false,eval e X.env)::starEach es X.env:=by rfl) (IL:(backTo fU (starEach es X.env)).any (·.1)=false:=by rfl) :
  PE X (.Call (.Attribute o name apos) (e::es) [] fU) (tBM X.K T r to t):=by
 intro pins s σ H Q I h
 refine wpAny_Call_method_late lC xY lD rfl (thn (ho pins s σ H _ I h) λv s1 aq=>?_)
 obtain⟨x,H1,I1,r1,ty,q1⟩:=aq
 obtain⟨h1,h2⟩:=IK I1 r1 ty
 refine⟨T,id,pa,slot,hty,h1,h2,?_⟩
 have hA:=ha fU pins s1 σ H1 _ I1 q1
 rw[hs] at hA ⊢
 refine Calls.callWith_builtin (by show (false || (backTo fU (starEach es X.env)).any (·.1))=false;rw[IL]<;>rfl) (Calls.evalArgs_plain ?_)
 exact thn hA λus s2 ⟨vs,H2,I2,r2,q2⟩=>hm pins s2 σ H2 x vs v us Q I2 r1 r2 q2
end
def MtM(X:Cx)(id:String)(r:V→List V→Hp→VK→Prop):Prop :=
 ∀(pins:List (Addr×Obj)) (s:Shared) (σ:St) (H:Hp) (x:V) (xs:List V) (v:Value) (us:List Value) (Q:VK),Inv X pins σ H s→RelV x v→Vals xs us→r x xs H Q →
  wpAny (model X.prog X.w) X.A (call (.builtin id) (v::us)) (EP X pins σ Q) X.xe s
theorem Vals.one:∀{x:V}{us:List Value},Vals [x] us→∃u,us=[u]∧RelV x u
 | _,_,.cons r .nil=>⟨_,rfl,r⟩
theorem Vals.dropLast{xs:List V}{us:List Value}(h:Vals xs us):Vals xs.dropLast us.dropLast:=by
 induction h with
 | nil=>exact .nil
 | cons r t ih =>
  cases t with
  | nil=>exact .nil
  | cons q t'=>exact .cons r ih
theorem Vals.reverse{xs:List V}{us:List Value}(h:Vals xs us):Vals xs.reverse us.reverse:=by
 induction h with
 | nil=>exact .nil
 | cons r t ih=>rw[List.reverse_cons,List.reverse_cons];exact Vals.append ih (.cons r .nil)
theorem Vals.rep{xs:List V}{us:List Value}(h:Vals xs us):∀k:Nat,Vals (List.replicate k xs).flatten (List.replicate k us).flatten
 | 0=>.nil
 | k+1=>by
  rw[List.replicate_succ,List.replicate_succ,List.flatten_cons,List.flatten_cons]
  exact Vals.append h (Vals.rep h k)
theorem foldl_rep(its:List Value):∀(k:Nat) (acc:List Value),
  List.foldl (λx1 x2=>x1++x2) acc.toArray (List.replicate k its.toArray)=(acc++(List.replicate k its).flatten).toArray
 | 0,acc=>by simp
 | k+1,acc=>by
  have e:acc.toArray++its.toArray=(acc++its).toArray:=by simp
  have e2:(acc++its)++(List.replicate k its).flatten=acc++(List.replicate (k+1) its).flatten:=by
   rw[List.replicate_succ,List.flatten_cons,List.append_assoc]
  rw[← e2,← foldl_rep its k (acc++its),← e,List.replicate_succ,List.foldl_cons]
section
variable{X:Cx}{pins:List (Addr×Obj)}{σ:St}{H:Hp}{s:Shared}{l b:Addr}{xs ys zs:List V}
theorem Inv.K5{its its':List Value}{n:Nat}{f:Array Value→Array Value}{t':Nat}(I:Inv X pins σ H s)(hH:H l=some (.lst xs))
  (e:s.heap.get? l=some { cls:=.type "list",data:=.seq its.toArray n }) (hf:f its.toArray=its'.toArray) (hv:Vals ys its') (hz:ys.length≤sizeLine) :
  Inv X pins σ (upd H l (.lst ys)) { s with heap:=s.heap.update l (Obj.mapSeq f),toks:=t' }:=by
 have q:=PySem.IsL.update e f
 rw[hf] at q
 refine I.write (x:=l) (e:=l) (by rw[hH];exact trivial) (.inl rfl) (λb' u hb hu=>(Heap.get?_update_other s.heap (Obj.mapSeq f) (Ne.symm hb)).trans hu) ⟨_,q⟩ ?_
 exact⟨hz,its',_,hv,q⟩
theorem Inv.IM{its:List Value}{t':Nat}(I:Inv X pins σ H s)(hv:Vals ys its)(hz:ys.length≤sizeLine) :
  Inv X pins σ (upd H s.heap.objs.size (.lst ys)) { s with heap:=s.heap.push { cls:=.type "list",data:=.seq its.toArray },toks:=t' } :=
 I.laid (λ_ _ q=>Heap.get?_push_of_some _ q) (Nat.le_refl _) ⟨hz,its,0,hv,Heap.get?_push_size _ rfl⟩
theorem Inv.fresh(I:Inv X pins σ H s):H s.heap.objs.size=none:=I.hok.fresh (Nat.le_refl _)
theorem Inv.Fp(I:Inv X pins σ H s)(hH:H l=some (.lst xs)):xs.length≤sizeLine∧∃(its:List Value) (n:Nat),Vals xs its∧xs.length=its.length∧s.heap.get? l=some { cls:=.type "list",data:=.seq its.toArray n }:=by
 obtain⟨z,its,n,r,e⟩:=I.hok l _ hH
 exact⟨z,its,n,r,r.length,e⟩
theorem wg{n:Nat}(h:n≤sizeLine):Builtin.List.listTooLong n=false:=by
 unfold Builtin.List.listTooLong
 exact decide_eq_false (by lia)
end
section
variable{X:Cx}
def zI:V→List V→Hp→VK→Prop:=λx vs H Q=>∃l xs y,x=.ref l∧vs=[y]∧H l=some (.lst xs)∧xs.length<sizeLine∧Q .non (upd H l (.lst (xs++[y])))
theorem ud:MtM X "list.append" zI:=by
 intro pins s σ H x vs v us Q I rx rv h
 obtain⟨l,xs,y,rfl,rfl,hH,hz,q⟩:=h
 cases rx
 obtain⟨u,rfl,ru⟩:=rv.one
 obtain⟨z,its,n,r,hl,e⟩:=I.Fp hH
 refine call_meets F.slot_list_append ⟨_,e,rfl⟩ F.entry_list_append (F.args_list_append_2 _ _) (PySem.list_append l its.toArray n u (by rw[List.size_toArray];lia)) ⟨e,?_⟩
 refine⟨.non,_,I.K5 (its':=its++[u]) hH e (by simp) (r.append (.cons ru .nil)) ?_,rfl,q⟩
 rw[List.length_append,List.length_singleton]
 lia
def Fq:V→List V→Hp→VK→Prop:=λx vs H Q=>∃l b xs zs,x=.ref l∧vs=[.ref b]∧H l=some (.lst xs)∧H b=some (.lst zs)∧xs.length+zs.length≤sizeLine∧Q .non (upd H l (.lst (xs++zs)))
theorem A4:MtM X "list.extend" Fq:=by
 intro pins s σ H x vs v us Q I rx rv h
 obtain⟨l,b,xs,zs,rfl,rfl,hH,hB,hz,q⟩:=h
 cases rx
 obtain⟨u,rfl,ru⟩:=rv.one
 cases ru
 obtain⟨z,its,n,r,hl,e⟩:=I.Fp hH
 obtain⟨z2,nW,n2,r2,hl2,e2⟩:=I.Fp hB
 have hsz:its.toArray.size+nW.toArray.size≤sizeLine:=by rw[List.size_toArray,List.size_toArray];lia
 have CZ:¬ (!its.toArray.isEmpty && Builtin.List.listTooLong (its.toArray.size+nW.toArray.size))=true:=by
  rw[wg hsz,Bool.and_false]
  exact Bool.false_ne_true
 refine call_meets F.slot_list_extend ⟨_,e,rfl⟩ F.entry_list_extend (F.args_list_extend_2 _ _)
  (AutoSeq1.list_extend_list_list_0 l its.toArray n b nW.toArray n2 CZ (by rw[List.size_toArray];lia) (by lia)) ⟨e,e2,?_⟩
 refine⟨.non,_,I.K5 (its':=its++nW) hH e (by simp) (r.append r2) ?_,rfl,q⟩
 rw[List.length_append]
 lia
def Np:R2:=λx y H Q=>∃l k xs,x=.ref l∧y=.int k∧H l=some (.lst xs)∧-(2 ^ 63)≤k∧k<2 ^ 63∧xs.length*k.toNat≤sizeLine ∧
 ∀p,H p=none→Q (.ref p) (upd H p (.lst (List.replicate k.toNat xs).flatten))
theorem len_rep{α:Type}(xs:List α)(k:Nat):(List.replicate k xs).flatten.length=k*xs.length:=by
 induction k with
 | zero=>simp
 | succ k ih=>rw[List.replicate_succ,List.flatten_cons,List.length_append,ih,Nat.succ_mul,Nat.add_comm]
theorem IP:OpR X (binaryOp .Mult) Np:=by
 intro pins s σ H x y v u Q I rx ry h
 obtain⟨l,k,xs,rfl,rfl,hH,h1,h2,hz,q⟩:=h
 cases rx
 obtain⟨t,rfl⟩:=ry
 obtain⟨z,its,n,r,hl,e⟩:=I.Fp hH
 have hlen:its.toArray.size*k.toNat≤sizeLine:=by rw[List.size_toArray,← hl];exact hz
 have Nq:¬ its.toArray.size*k.toNat > (2 ^ 63-1) / 8:=by
  have:(sizeLine:Nat)≤(2 ^ 63-1) / 8:=by decide
  lia
 have wj:¬ (!Builtin.List.listFitsIndex k)=true:=by
  rw[fitsIndex_both h1 h2]
  exact Bool.false_ne_true
 have CZ:¬ Builtin.List.listTooLong (its.toArray.size*k.toNat)=true:=by
  rw[wg hlen]
  exact Bool.false_ne_true
 have Nr:List.foldl (λx1 x2=>x1++x2) #[] (List.replicate (if its.toArray.isEmpty=true then 0 else k.toNat) its.toArray)=(List.replicate k.toNat its).flatten.toArray:=by
  have f0:∀m:Nat,List.foldl (λx1 x2=>x1++x2) #[] (List.replicate m its.toArray)=(List.replicate m its).flatten.toArray:=λm=>by
   have:=foldl_rep its m []
   rw[List.nil_append] at this
   exact this
  rw[f0]
  cases its with
  | nil=>simp
  | cons a r'=>rw[if_neg (by simp)]
 refine wpAny_binaryOp_repeat_ref (T:="list") (U:="int") (by decide) ⟨_,e,rfl⟩ (λs'=>typeIs_int s' k t) noFill_list_mul F.fills_int_mul F.slot_int_rmul repeat_list F.slot_int_index.lookup
  (call_meets F.slot_int_rmul (typeIs_int s k t) F.entry_int_rmul (F.args_int_rmul_2 _ _) (int___rmul___int_list k t l its.toArray n)
   ⟨e,rfl,⟨_,e,rfl⟩,call_meets F.slot_list_mul ⟨_,e,rfl⟩ F.entry_list_mul (F.args_list_mul_2 _ _) (AutoListH.list___mul___list_int_3 l its.toArray n k t wj Nq CZ) ⟨e,?_⟩⟩)
 rw[Nr]
 exact⟨.ref _,_,I.IM (t':=s.toks) (r.rep k.toNat) (by rw[len_rep,Nat.mul_comm];exact hz),rfl,q _ I.fresh⟩
end
section
variable{prog:Program}{w:World}{A:Around}{E:Value→Shared→Prop}{s:Shared}
end
section
variable{X:Cx}
end
section
variable{κ:Type}[DecidableEq κ]
def mW(kvs:List (κ×V))(k:κ):Option V:=(kvs.find? λkv=>decide (kv.1=k)).map (·.2)
def putK(kvs:List (κ×V))(k:κ)(v:V):List (κ×V) :=
 if (kvs.any λkv=>decide (kv.1=k))=true then kvs.map (λkv=>if kv.1=k then (kv.1,v) else kv) else kvs++[(k,v)]
theorem nX{p:κ×V}{r:List (κ×V)}{k:κ}(e:p.1=k):mW (p::r) k=some p.2:=by simp[mW,List.find?_cons,e]
theorem nY{p:κ×V}{r:List (κ×V)}{k:κ}(e:¬ p.1=k):mW (p::r) k=mW r k:=by simp[mW,List.find?_cons,e]
theorem wk(k:κ):∀kvs:List (κ×V),(kvs.any λkv=>decide (kv.1=k))=(mW kvs k).isSome
 | []=>rfl
 | p::r=>by
  rw[List.any_cons]
  by_cases e:p.1=k
  ·simp only[nX e,decide_eq_true e,Bool.true_or,Option.isSome_some]
  ·rw[nY e,decide_eq_false e,Bool.false_or];exact wk k r
theorem p4(kvs:List (κ×V))(k:κ)(v:V):(putK kvs k v).length≤kvs.length+1:=by
 unfold putK
 split
 ·rw[List.length_map];lia
 ·rw[List.length_append,List.length_cons,List.length_nil];lia
theorem qd.pv{o:Option V}{u:Option Value}(r:qd o u):o.isSome=u.isSome:=by
 cases o with
 | none=>cases u with
  | none=>rfl
  | some _=>exact (show False from r).elim
 | some _=>cases u with
  | none=>exact (show False from r).elim
  | some _=>rfl
theorem qd.getD{o:Option V}{u:Option Value}{d:V}{d':Value}(r:qd o u)(rd:RelV d d'):RelV (o.getD d) (u.getD d'):=by
 cases o with
 | none=>cases u with
  | none=>exact rd
  | some _=>exact (show False from r).elim
 | some _=>cases u with
  | none=>exact (show False from r).elim
  | some _=>exact r
theorem KV.val{kvs:List (κ×V)}{vs:List (κ×Value)}(r:KV kvs vs)(k:κ):qd (mW kvs k) (valueAt vs k):=by
 unfold KV at r
 induction r with
 | nil=>exact True.intro
 | @cons p q ps qs h t ih =>
  obtain⟨h1,h2⟩:=h
  by_cases e:p.1=k
  ·have e':q.1=k:=h1.symm.trans e
   have b:valueAt (q::qs) k=some q.2:=by simp[valueAt,List.find?_cons,e']
   rw[nX e,b];exact h2
  ·have e':¬ q.1=k:=λz=>e (h1.trans z)
   have b:valueAt (q::qs) k=valueAt qs k:=by simp[valueAt,List.find?_cons,e']
   rw[nY e,b];exact ih
theorem KV.any{kvs:List (κ×V)}{vs:List (κ×Value)}(r:KV kvs vs)(k:κ):(kvs.any λkv=>decide (kv.1=k))=vs.any λkv=>decide (kv.1=k):=by
 unfold KV at r
 induction r with
 | nil=>rfl
 | cons h t ih=>rw[List.any_cons,List.any_cons,ih,h.1]
theorem KV.xZ{kvs:List (κ×V)}{vs:List (κ×Value)}(r:KV kvs vs)(k:κ){y:V}{u:Value}(ry:RelV y u) :
  KV (kvs.map λkv=>if kv.1=k then (kv.1,y) else kv) (vs.map λkv=>if kv.1=k then (kv.1,u) else kv):=by
 unfold KV at r ⊢
 induction r with
 | nil=>exact .nil
 | @cons p q ps qs h t ih =>
  rw[List.map_cons,List.map_cons]
  refine .cons ?_ ih
  obtain⟨h1,h2⟩:=h
  by_cases e:p.1=k
  ·rw[if_pos e,if_pos (h1.symm.trans e)];exact⟨h1,ry⟩
  ·rw[if_neg e,if_neg (λz=>e (h1.trans z))];exact⟨h1,h2⟩
theorem KV.put{kvs:List (κ×V)}{vs:List (κ×Value)}(r:KV kvs vs)(k:κ){y:V}{u:Value}(ry:RelV y u):KV (putK kvs k y) (stored vs k u):=by
 unfold putK stored
 rw[r.any k]
 by_cases e:(vs.any λkv=>decide (kv.1=k))=true
 ·rw[if_pos e,if_pos e];exact r.xZ k ry
 ·rw[if_neg e,if_neg e];exact Paired.snoc r ⟨rfl,ry⟩
theorem KV.length{kvs:List (κ×V)}{vs:List (κ×Value)}(r:KV kvs vs):kvs.length=vs.length:=Paired.length r
end
theorem zJ{P:Program}{w:World}{k:Key}{u:Value}(r:RelV (kV k) u):(cX P w).is k u=true:=by
 cases k with
 | inl i=>obtain⟨t,e⟩:=(show ∃t,u=Value.int i t from r);subst e;exact v8 P w i t
 | inr x=>obtain⟨t,e⟩:=(show ∃t,u=Value.str x t from r);subst e;exact v9 P w x t
theorem ue{P:Program}{w:World}:∀{ks:List Key}{us:List Value},Vals (ks.map kV) us→ItemsAre (cX P w) ks us
 | [],_,r=>by rw[List.map_nil] at r;cases r;exact .nil
 | k::ks,_,r=>by
  rw[List.map_cons] at r
  cases r with
  | cons h t=>exact .cons (zJ h) (ue t)
noncomputable abbrev KT (H : Hp) : List (List Key × V) → List (List Key × Addr × Value) → Prop := Paired fun p q => p.1 = q.1 ∧ H q.2.1 = some (.tup (p.1.map kV)) ∧ RelV p.2 q.2.2
theorem KT.val{H:Hp}{kvs:List (List Key×V)}{xs:List (List Key×Addr×Value)}(r:KT H kvs xs)(k:List Key):qd (mW kvs k) ((atKey xs k).map (·.2)):=by
 induction r with
 | nil=>exact True.intro
 | @cons p q ps qs h t ih =>
  obtain⟨h1,_,h2⟩:=h
  by_cases e:p.1=k
  ·have e':q.1=k:=h1.symm.trans e
   have b:atKey (q::qs) k=some q.2:=by simp[atKey,List.find?_cons,e']
   rw[nX e,b];exact h2
  ·have e':¬ q.1=k:=λz=>e (h1.trans z)
   have b:atKey (q::qs) k=atKey qs k:=by simp[atKey,List.find?_cons,e']
   rw[nY e,b];exact ih
theorem KT.xZ{H:Hp}{kvs:List (List Key×V)}{xs:List (List Key×Addr×Value)}(r:KT H kvs xs)(k:List Key){y:V}{u:Value}(ry:RelV y u) :
  KT H (kvs.map λkv=>if kv.1=k then (kv.1,y) else kv) (xs.map (putAt k u)):=by
 induction r with
 | nil=>exact .nil
 | @cons p q ps qs h t ih =>
  rw[List.map_cons,List.map_cons]
  refine .cons ?_ ih
  obtain⟨h1,h2,h3⟩:=h
  unfold putAt
  by_cases e:p.1=k
  ·rw[if_pos e,if_pos (h1.symm.trans e)];exact⟨h1,h2,ry⟩
  ·rw[if_neg e,if_neg (λz=>e (h1.trans z))];exact⟨h1,h2,h3⟩
theorem KT.put{H:Hp}{kvs:List (List Key×V)}{xs:List (List Key×Addr×Value)}(r:KT H kvs xs)(k:List Key){b:Addr}{y:V}{u:Value}(hb:H b=some (.tup (k.map kV)))(ry:RelV y u) :
  KT H (putK kvs k y) (storedH xs k b u):=by
 have e:(kvs.any λkv=>decide (kv.1=k))=(atKey xs k).isSome:=by
  rw[wk,(r.val k).pv,Option.isSome_map]
 unfold putK storedH
 rw[e]
 by_cases q:(atKey xs k).isSome=true
 ·rw[if_pos q,if_pos q];exact r.xZ k ry
 ·rw[if_neg q,if_neg q];exact Paired.snoc r ⟨rfl,hb,ry⟩
theorem KT.keeps{H H':Hp}{kvs:List (List Key×V)}{xs:List (List Key×Addr×Value)}(r:KT H kvs xs)(ht:∀b ys,H b=some (.tup ys)→H' b=some (.tup ys)):KT H' kvs xs :=
 Paired.E6 r λ_ _ z=>⟨z.1,ht _ _ z.2.1,z.2.2⟩
section
variable{P:Program}{w:World}{H:Hp}{h:Heap}{a:Addr}
theorem C2{u:HO}(ok:HOk P w H h)(e:Rd H a u):eh P w H h a u:=e.ok ok
theorem zK{kvs:List (Key×V)}(ok:HOk P w H h)(e:Rd H a (.dK kvs)):kvs.length≤sizeLine∧(a==sysModules)=false∧∃vs,KV kvs vs∧h.DictOf (cX P w) a vs :=
 let ⟨z,y,vs,r,d⟩:=(show eh P w H h a (.dK kvs) from C2 ok e);⟨z,y,vs,r,d.dictOf⟩
theorem wm{kvs:List (Key×V)}(ok:HOk P w H h)(e:Rd H a (.dK kvs)):kvs.length≤sizeLine∧(a==sysModules)=false∧∃vs,KV kvs vs∧h.DictAt (cX P w) a vs vs.length :=
 show eh P w H h a (.dK kvs) from C2 ok e
theorem uU{ks:List Key}(ok:HOk P w H h)(e:H a=some (.tup (ks.map kV))):(tupleKind (cX P w)).is h ks a:=by
 obtain⟨_,its,r,o,h1,h2,n,h3⟩:=(show eh P w H h a (.tup (ks.map kV)) from ok a _ e)
 exact⟨o,its.toArray,n,h1,h2,h3,by simpa using ue r⟩
theorem zL{kvs:List (List Key×V)}(ok:HOk P w H h)(e:Rd H a (.dT kvs)):kvs.length≤sizeLine∧(a==sysModules)=false ∧
  ∃xs,KT H kvs xs∧h.DictOfH (tupleKind (cX P w)) a xs:=by
 obtain⟨z,y,xs,r,o,es,ep,h1,h2,h3,h4,h5⟩:=(show eh P w H h a (.dT kvs) from C2 ok e)
 refine⟨z,y,xs,r,o,es,ep,h1,h2,h3,h4,λx hx=>?_,h5⟩
 have all:∀{l:List (List Key×V)}{m:List (List Key×Addr×Value)},KT H l m→∀x∈m,(tupleKind (cX P w)).is h x.1 x.2.1:=by
  intro l m q
  induction q with
  | nil=>intro x hx;exact nomatch hx
  | @cons p q ps qs hq t ih =>
   intro x hx
   rcases List.mem_cons.mp hx with e|hx
   ·subst e
    exact uU ok (by rw[← hq.1];exact hq.2.1)
   ·exact ih x hx
 exact all r x hx
theorem K6{kvs:List (List Key×V)}(ok:HOk P w H h)(e:H a=some (.dT kvs)):kvs.length≤sizeLine∧(a==sysModules)=false ∧
  ∃xs,KT H kvs xs∧h.DictOfH (tupleKind (cX P w)) a xs:=zL ok (.inl e)
end
def uV(H:Hp)(a:Addr)(y:V)(r:Option V):Prop :=
 (∃kvs k,Rd H a (.dK kvs)∧y=kV k∧r=mW kvs k)∨∃kvs k b,Rd H a (.dT kvs)∧y=.ref b∧H b=some (.tup (k.map kV))∧r=mW kvs k
def C3(H:Hp)(a:Addr)(y v:V)(H':Hp):Prop :=
 (∃kvs k,H a=some (.dK kvs)∧y=kV k∧kvs.length<sizeLine∧H'=upd H a (.dK (putK kvs k v))) ∨
 ∃kvs k b,H a=some (.dT kvs)∧y=.ref b∧H b=some (.tup (k.map kV))∧kvs.length<sizeLine∧H'=upd H a (.dT (putK kvs k v))
theorem uV.k{H:Hp}{a:Addr}{kvs:List (Key×V)}{k:Key}(e:H a=some (.dK kvs)):uV H a (kV k) (mW kvs k):=.inl ⟨kvs,k,.inl e,rfl,rfl⟩
theorem C3.k{H:Hp}{a:Addr}{kvs:List (Key×V)}{k:Key}{v:V}(e:H a=some (.dK kvs))(hl:kvs.length<sizeLine):C3 H a (kV k) v (upd H a (.dK (putK kvs k v))):=.inl ⟨kvs,k,e,rfl,hl,rfl⟩
section
variable{X:Cx}{pins:List (Addr×Obj)}{σ:St}{H:Hp}{s:Shared}{a:Addr}{y v:V}{u r:Value}{o:Option V}{A:Around}{E:Value→Shared→Prop}
theorem Inv.big(I:Inv X pins σ H s):sysModules<s.heap.objs.size:=by
 have h:mainGlobals<s.heap.objs.size:=(I.mod.glob.keeps I.bk).lt
 exact Nat.lt_trans (by decide) h
theorem A5{Q:Value→Shared→Prop}(hu:A.units+1<cLine)(I:Inv X pins σ H s)(g:uV H a y (some v))(ry:RelV y u)(h:∀w' s',Inv X pins σ H s'→RelV v w'→Q w' s') :
  wpAny (model X.prog X.w) A (getItem (.ref a) u) Q E s:=by
 rcases g with ⟨kvs,k,e,ey,l⟩|⟨kvs,k,b,e,ey,eb,l⟩
 ·subst ey
  obtain⟨z,hd,vs,rel,dd⟩:=zK I.hok e
  obtain⟨w',hw,rw'⟩:=qd.some_of (v:=v) (o:=valueAt vs k) (by rw[l];exact rel.val k)
  exact wpAny_getItem_of (zJ ry) dd.mapOf hw (h w' _ (I.tok _) rw')
 ·subst ey
  cases (show u=Value.ref b from ry)
  obtain⟨z,hd,xs,rel,dd⟩:=zL I.hok e
  obtain⟨w',hw,rw'⟩:=qd.some_of (v:=v) (o:=(atKey xs k).map (·.2)) (by rw[l];exact rel.val k)
  obtain⟨p,hp,hp2⟩:=Option.map_eq_some_iff.mp hw
  refine wpAny_getItem_heap (tupleKind_room_in1 hu) (uU I.hok eb) dd hp ?_
  rw[hp2]
  exact h w' _ (I.tok _) rw'
theorem Fs{Q:Value→Shared→Prop}(hu:A.units+1<cLine)(I:Inv X pins σ H s)(g:uV H a y o)(ry:RelV y u)(h:∀s',Inv X pins σ H s'→Q (.bool (!o.isSome)) s') :
  wpAny (model X.prog X.w) A (compareOp .NotIn u (.ref a)) Q E s:=by
 rcases g with ⟨kvs,k,e,ey,l⟩|⟨kvs,k,b,e,ey,eb,l⟩
 ·subst ey
  obtain⟨z,hd,vs,rel,dd⟩:=zK I.hok e
  refine wpAny_notIn_of (zJ ry) hd dd.mapOf ?_
  rw[← (rel.val k).pv,← l]
  exact h _ (I.tok _)
 ·subst ey
  cases (show u=Value.ref b from ry)
  obtain⟨z,hd,xs,rel,dd⟩:=zL I.hok e
  refine wpAny_notIn_heap (tupleKind_room_in1 hu) (uU I.hok eb) hd dd ?_
  have q:=(rel.val k).pv
  rw[Option.isSome_map] at q
  rw[← q,← l]
  exact h _ (I.tok _)
theorem zM{h':Heap}{t':Nat}{ob:HO}(I:Inv X pins σ H s)(mu:Mut (H a))(hs:Heap.SameBut a s.heap h')(he:∃q,h'.get? a=some q)(new:eh X.prog X.w (upd H a ob) h' a ob) :
  Inv X pins σ (upd H a ob) { s with heap:=h',toks:=t' } :=
 I.write (x:=a) (e:=a) mu (.inl rfl) (λb q hb z=>(hs.2 b hb).trans z) he new
theorem IQ{P:Program}{w:World}{H':Hp}{h':Heap}{kvs:List (Key×V)}{vs:List (Key×Value)}(z:kvs.length≤sizeLine)(hd:(a==sysModules)=false)(rel:KV kvs vs)(dd:h'.DictAt (cX P w) a vs vs.length) :
  eh P w H' h' a (.dK kvs):=⟨z,hd,vs,rel,dd⟩
theorem x_ {P : Program} {w : World} {κ : Type} [DecidableEq κ] {knd : KeyKind P w κ} {A : Around} {E : Value → Shared → Prop} {s : Shared} {d : Addr} {kvs : List (κ × Value)} {k : κ} {key v : Value} {Q : Unit → Shared → Prop} (A6 : knd.is k key = true) (hm : s.heap.DictAt knd d kvs kvs.length)
    (hsz : kvs.length ≤ sizeLine) (hQ : ∀ h', h'.DictAt knd d (stored kvs k v) (stored kvs k v).length → Heap.SameBut d s.heap h' → Q () { s with heap := h', toks := s.toks + 1 }) :
    wpAny (model P w) A (dictSet d key v) Q E s := by
  obtain ⟨o, es, ho, hc, hd, hk, hp, hn⟩ := hm
  have hes : es.size ≤ sizeLine := by have e1 := hp.length; have e2 : es.toList.length = es.size := by simp
                                      lia
  unfold dictSet
  try with_reducible refine wpAny_holding ?_
  refine wpAny_bind (knd.pyHash A6 ?_)
  unfold dictSetHashed
  try with_reducible refine wpAny_holding ?_
  refine wpAny_bind (wpAny_dictFind_of (s := { s with toks := s.toks + 1 }) A6 ho hd hk ?_)
  have Ft : (es.findIdx? fun e => knd.is k e.key) = kvs.findIdx? fun kv => decide (kv.1 = k) := by
    rw [← hp.findIdx k]; obtain ⟨l⟩ := es; simp
  cases hi : es.findIdx? fun e => knd.is k e.key with
  | some i =>
    have hst : stored kvs k v = kvs.map fun kv => if kv.1 = k then (kv.1, v) else kv := by rw [stored, if_pos (any_of_findIdx_some (Ft ▸ hi))]
    have hlen : kvs.length = (stored kvs k v).length := by rw [hst, List.length_map]
    refine wpAny_bind (wpAny_rule (wpAny_bind (wpAny_updateDict (s := { s with toks := s.toks + 1 }) ho hd (wpAny_point (hQ _ ⟨_, _, Heap.get?_update_self _ ho (Obj.isFreed_of_dict (Obj.data_mapDict hd _)),
      hc.mapDict _, (Obj.data_mapDict hd _).trans (congrArg (fun n => Data.dict _ n) hlen), hk.modify _ _, ?_, ?_⟩ (Heap.SameBut.update ..))))))
    · rw [stored, if_pos (any_of_findIdx_some (Ft ▸ hi))]
      have hl : (es.toList.findIdx? fun e => knd.is k e.key) = some i := by rw [← hi]; obtain ⟨l⟩ := es; simp
      have := hp.modify hn hl v
      obtain ⟨l⟩ := es
      simpa using this
    · rw [stored, if_pos (any_of_findIdx_some (Ft ▸ hi)), keys_map_store]; exact hn
  | none =>
    have K7 : k ∉ kvs.map (·.1) := not_mem_of_findIdx_none (Ft ▸ hi)
    have IS : ¬ (kvs.any fun kv => decide (kv.1 = k)) = true := by
      rw [List.any_eq_true]; rintro ⟨kv, hkv, he⟩
      exact K7 (List.mem_map.mpr ⟨kv, hkv, of_decide_eq_true he⟩)
    have hst : stored kvs k v = kvs ++ [(k, v)] := by rw [stored, if_neg IS]
    have hlen : kvs.length + 1 = (stored kvs k v).length := by rw [hst, List.length_append]; rfl
    refine wpAny_bind (wpAny_rule (wpAny_updateDictKeys (hz := hes) (s := { s with toks := s.toks + 1 }) ho hd (hQ _ ⟨_, _, Heap.get?_update_self _ ho (Obj.isFreed_of_dict (Obj.data_mapDictKeys hd _)),
      hc.mapDictKeys _, (Obj.data_mapDictKeys hd _).trans (congrArg (fun n => Data.dict _ n) hlen), hk.push A6 _, ?_, ?_⟩ (Heap.SameBut.update ..))))
    · rw [stored, if_neg IS]
      have := hp.append A6 (knd.hash k) v
      obtain ⟨l⟩ := es
      simpa using this
    · rw [stored, if_neg IS, List.map_append, List.nodup_append]
      refine ⟨hn, by simp, ?_⟩
      intro a ha b hb
      simp only [List.map_cons, List.map_nil, List.mem_singleton] at hb
      subst hb
      exact fun e => K7 (e ▸ ha)
theorem ya{P:Program}{w:World}{κ:Type}[DecidableEq κ]{knd:KeyKind P w κ}{A:Around}{E:Value→Shared→Prop}{s:Shared}{d:Addr}{kvs:List (κ×Value)}{k:κ}{key v:Value}{Q:Unit→Shared→Prop}(A6:knd.is k key=true)(hm:s.heap.DictAt knd d kvs kvs.length)
  (hsz:kvs.length≤sizeLine) (hQ:∀h',h'.DictAt knd d (stored kvs k v) (stored kvs k v).length→Heap.SameBut d s.heap h'→Q () { s with heap:=h',toks:=s.toks+1 }) :
  wpAny (model P w) A (setItem (.ref d) key v) Q E s:=by
 have hT:=hm.dictOf.typeIs
 unfold setItem
 try with_reducible refine wpAny_holding ?_
 refine wpAny_bind (wpAny_sequenceKey hT (by decide) ?_)
 refine wpAny_bind (wpAny_callSpecial?_slot (name:=Str.ofString "__setitem__") hT slot_dict_setitem
  (wpAny_call_entry slot_dict_setitem hT entry_dict_setitem ?_ (args_dict_setitem _ _ _)))
 show wpAny _ _ (Builtin.Dict.notOrdered "__setitem__" ⟨[.ref d,key,v],[]⟩>>=_) _ _ s
 refine wpAny_bind (wpAny_notOrdered_dict hT ?_)
 show wpAny _ _ (dictSet d key v>>=_) _ _ s
 exact wpAny_bind (x_ A6 hm hsz λh' hm' hs'=>wpAny_pure ⟨.none,rfl,wpAny_pure (hQ h' hm' hs')⟩)
theorem A7{H':Hp}{Q:Unit→Shared→Prop}(hu:A.units+1<cLine)(I:Inv X pins σ H s)(g:C3 H a y v H')(ry:RelV y u)(rv:RelV v r)(h:∀s',Inv X pins σ H' s'→Q () s') :
  wpAny (model X.prog X.w) A (setItem (.ref a) u r) Q E s:=by
 rcases g with ⟨kvs,k,e,ey,l,eH⟩|⟨kvs,k,b,e,ey,eb,l,eH⟩
 ·subst ey eH
  obtain⟨z,hd,vs,rel,dd⟩:=wm I.hok (.inl e)
  have hz:vs.length≤sizeLine:=by rw[← rel.length];exact z
  have hl:(putK kvs k v).length≤sizeLine:=by have:=p4 kvs k v;lia
  refine ya (zJ ry) dd hz λh' dd' hs=>h _ ?_
  have he:∃q,h'.get? a=some q:=let ⟨q,_,hq,_⟩:=dd';⟨q,hq⟩
  exact zM I (by rw[e];exact True.intro) hs he (IQ hl hd (rel.put k rv) dd')
 ·subst ey eH
  cases (show u=Value.ref b from ry)
  obtain⟨z,hd,xs,rel,dd⟩:=K6 I.hok e
  have hz:xs.length≤sizeLine:=by rw[← Paired.length rel];exact z
  have hl:(putK kvs k v).length≤sizeLine:=by have:=p4 kvs k v;lia
  refine wpAny_setItem_heap (hsz:=hz) (tupleKind_room_in1 hu) (uU I.hok eb) dd λh' dd' hs=>h _ ?_
  obtain⟨q,es,ep,hq,h2,h3,h4,_,h5⟩:=dd'
  refine zM I (by rw[e];exact True.intro) hs ⟨q,hq⟩ ⟨hl,hd,_,(rel.put k eb rv).keeps λc ys ec=>?_,q,es,ep,hq,h2,h3,h4,h5⟩
  rw[aO (Ks ec e (λz=>nomatch z))]
  exact ec
end
section
variable{X:Cx}{pins:List (Addr×Obj)}{σ:St}{H:Hp}{s:Shared}{a:Addr}{kvs:List (Key×V)}{k:Key}{u:Value}{A:Around}{E:Value→Shared→Prop}
theorem K8{Q:Value→Shared→Prop}(I:Inv X pins σ H s)(e:Rd H a (.dK kvs))(h:∀t s',Inv X pins σ H s'→Q (.int kvs.length t) s'):wpAny (model X.prog X.w) A (call (.builtin "len") [.ref a]) Q E s:=by
 obtain⟨z,hd,vs,rel,dd⟩:=zK I.hok e
 refine call_len_dict hd dd (by rw[← rel.length];rw[sizeLine_eq] at z;lia) ?_
 rw[← rel.length]
 exact h _ _ (I.tok _)
end
def IT(i:Expr):Prop:=∀ov iv,subscripted i false ov iv=operate [ov,iv] (getItem ov iv)
theorem Fu{prog:Program}{w:World}{A:Around}{E:Value→Shared→Prop}{s:Shared}{env:Env}{value slice:Expr}{pos:Pos}{T id:String}{Q:Value→Shared→Prop}
  (hl:typeLookup (.type T) "__getitem__"=pure (some (.builtin id))) (hs:IT slice)
  (h:wpAny (model prog w) A (eval value env) (λo s₁=>wpAny (model prog w) A (eval slice env) (λi s₂=>s₂.TypeIs o T∧wpAny (model prog w) A (getItem o i) Q E s₂) E s₁) E s) :
  wpAny (model prog w) A (eval (.Subscript value slice pos) env) Q E s:=by
 refine Subscript_ (wpAny_mono h (λo s₁ h₁=>wpAny_mono h₁ (λi s₂ h₂=>?_) λ_ _ x=>x) λ_ _ x=>x)
 obtain⟨hT,h₂⟩:=h₂
 unfold subscriptTail
 refine wpAny_bind ?_
 rw[getitemInPython_of_ne hT.not_modules]
 refine wpAny_bind (wpAny_specialOf hT hl ?_)
 have fin:wpAny (model prog w) A (subscripted slice false o i) (λr s₃=>wpAny (model prog w) A (letTemporaryGo value o r>>=λ_=>pure r) Q E s₃) E s₂:=by
  rw[hs o i]
  exact wpAny_operating (wpAny_mono h₂ (λr s₃ h₃=>wpAny_bind (wpAny_letTemporaryGo (wpAny_pure h₃))) λ_ _ x=>x)
 first
  | exact wpAny_pure (wpAny_bind fin)
  | exact wpAny_bind (wpAny_pure (wpAny_bind fin))
  | exact wpAny_bind fin
theorem wo{X:Cx}{pins:List (Addr×Obj)}{σ:St}{H:Hp}{s:Shared}{a:Addr}{y:V}{o:Option V}(I:Inv X pins σ H s)(g:uV H a y o):s.TypeIs (.ref a) "dict":=by
 rcases g with ⟨kvs,k,e,_,_⟩|⟨kvs,k,b,e,_,_,_⟩
 ·obtain⟨_,_,vs,_,dd⟩:=zK I.hok e
  exact dd.typeIs
 ·obtain⟨_,_,xs,_,dd⟩:=zL I.hok e
  exact dd.typeIs
def Ho(td ty:TE):TE:=λσ H Q=>td σ H λx H1=>ty σ H1 λy H2=>∃a v,x=.ref a∧uV H2 a y (some v)∧Q v H2
def zN(ty td:TE):TE:=λσ H Q=>ty σ H λy H1=>td σ H1 λx H2=>∃a o,x=.ref a∧uV H2 a y o∧Q (.bl (!o.isSome)) H2
def K9(td ty tv:TE):TS:=λD σ H=>tv σ H λv H1=>td σ H1 λx H2=>ty σ H2 λy H3=>∃a H4,x=.ref a∧C3 H3 a y v H4∧D.nx σ H4
section
variable{X:Cx}{o i e value:Expr}{pos pos' iN:Pos}{td ty tv:TE}
theorem Fv(hu:X.A.units+1<cLine)(ho:PE X o td)(hi:PE X i ty)(hs:IT i):PE X (.Subscript o i pos) (Ho td ty):=by
 intro pins s σ H Q I h
 refine Fu PySem.F.slot_dict_getitem.lookup hs (thn (ho pins s σ H _ I h) λu s1 ⟨x,H1,I1,rx,q1⟩=>thn (hi pins s1 σ H1 _ I1 q1) λiv s2 aq=>?_)
 obtain⟨y,H2,I2,ry,a,v,ex,g,q2⟩:=aq
 subst ex
 obtain rfl:u=Value.ref a:=rx
 exact⟨wo I2 g,A5 hu I2 g ry λw' s3 I3 rw'=>⟨v,H2,I3,rw',q2⟩⟩
theorem A8(hu:X.A.units+1<cLine)(hi:PE X i ty)(ho:PE X o td):PC X .NotIn i o (zN ty td):=by
 intro pins s σ H Q I h
 refine thn (hi pins s σ H _ I h) λiv s1 ⟨y,H1,I1,ry,q1⟩=>thn (ho pins s1 σ H1 _ I1 q1) λu s2 aq=>?_
 obtain⟨x,H2,I2,rx,a,ov,ex,g,q2⟩:=aq
 subst ex
 obtain rfl:u=Value.ref a:=rx
 exact Fs hu I2 g ry λs3 I3=>⟨.bl (!ov.isSome),H2,I3,rfl,q2⟩
theorem Fx(hu:X.A.units+1<cLine)(ho:PE X o td)(hi:PE X i ty)(hv:PE X value tv)(hs:swapsWith value (some (.Subscript o i pos')) pos.line X.env=pure false) :
  PS X (.Assign [.Subscript o i pos'] value pos) (K9 td ty tv):=by
 intro pins s σ H D I h
 refine wpAny_Assign_Subscript (thn (hv pins s σ H _ I h) λr s1 ⟨v,H1,I1,rv,q1⟩=>thn (ho pins s1 σ H1 _ I1 q1) λu s2 ⟨x,H2,I2,rx,q2⟩=>thn (hi pins s2 σ H2 _ I2 q2) λiv s3 aq=>?_) hs
 obtain⟨y,H3,I3,ry,a,H4,ex,g,q3⟩:=aq
 subst ex
 obtain rfl:u=Value.ref a:=rx
 exact A7 hu I3 g ry rv λs4 I4=>⟨σ,H4,I4,q3⟩
end
theorem C4{P:Program}{w:World}{H:Hp}(h:Heap)(hb:sysModules<h.objs.size):eh P w H (h.push { cls:=.type "dict",data:=.dict #[] }) h.objs.size (.dK []) :=
 ⟨Nat.zero_le _,beq_eq_false_iff_ne.mpr (Ne.symm (Nat.ne_of_lt hb)),[],.nil,_,#[],Heap.get?_push_size _ rfl,⟨rfl,rfl,rfl⟩,rfl,λe he=>by simp at he,.nil,List.nodup_nil⟩
def IU:TE:=λ_ H Q=>∀p,H p=none→Q (.ref p) (upd H p (.dK []))
section
variable{X:Cx}{pos:Pos}
theorem C5:PE X (.Dict [] [] pos) IU:=λpins s σ H Q I h =>
 wpAny_Dict_empty ⟨.ref s.heap.objs.size,_,I.laid (a:=s.heap.objs.size) (o:=.dK []) (t':=s.toks) (λ_ _ q=>Heap.get?_push_of_some _ q) (Nat.le_refl _) (C4 s.heap I.big),rfl,h _ (I.hok.fresh (Nat.le_refl _))⟩
end
section
variable{X:Cx}{pins:List (Addr×Obj)}{σ:St}{H:Hp}{s:Shared}{a:Addr}{y d:V}{u r:Value}{o:Option V}{A:Around}{E:Value→Shared→Prop}
end
section
variable{X:Cx}{o e f:Expr}{apos fU:Pos}{td ty tx:TE}
end
section
variable{X:Cx}{pins:List (Addr×Obj)}{σ:St}{H:Hp}{s:Shared}{a:Addr}{kvs:List (Key×V)}{A:Around}{E:Value→Shared→Prop}
end
section
variable{X:Cx}{pins:List (Addr×Obj)}{σ:St}{H:Hp}{s:Shared}{a:Addr}{y:V}{u:Value}{A:Around}{E:Value→Shared→Prop}
end
end L2
namespace Att
open PySem PySem.W PySem.Calls PyProof.Rows
theorem qf{P:Params}{h:Heap}:∀(ns:List Int) (vs:List Value),WellAll P h vs (ns.map WData.int)→IntsAre vs ns:=by
 intro ns
 induction ns with
 | nil =>
  intro vs w
  rw[List.map_nil] at w
  cases w
  exact .nil
 | cons n ns ih =>
  intro vs w
  rw[List.map_cons] at w
  cases w with
  | cons a b =>
   cases a
   exact .cons _ _ (ih _ b)
theorem A9{l:OpenLaw}{n:Nat}(hn:l.most=some n){P:Params}{h:Heap}{args:List WData}{vals:List Value}
  (Fy:l.row.toRowW.claim.pre args=true) (hwl:WellAll P h vals args) :
  ∃a vs ns,vals=[Value.ref a]∧args=[WData.list (ns.map WData.int)]∧h.get? a=some { cls:=.type "list",data:=.seq vs.toArray }∧IntsAre vs ns∧ns.length≤n:=by
 have hsh:WShape.hasAll [] args [.list .int]=true:=(pre_splitW Fy).1
 have hc:l.pre.holds [] { args:=args }=true:=(pre_splitW Fy).2
 obtain⟨d,r,rfl,h1,h2⟩:=hasAllW_cons hsh
 obtain rfl:=hasAllW_nil h2
 obtain⟨xs,rfl,h3⟩:=hasW_list h1
 obtain⟨ns,rfl⟩:=items_int h3
 have hlen:ns.length≤n:=by
  unfold OpenLaw.pre at hc
  have h4:(WTm.not (.lt (.lit (.int (n:Int))) (.len (.arg 0)))).holds [] { args:=[.list (ns.map .int)] }=true:=by
   have h4:=(holds_andW hc).1
   rw[hn] at h4
   exact h4
  have h5:=condW_of h4 (w_not (w_lt w_lit (w_len_list (w_arg rfl))))
  rw[List.length_map] at h5
  refine Nat.le_of_not_lt λq=>?_
  have q':(n:Int)<((ns.length:Nat):Int):=by lia
  first
   | (rw[decide_eq_true q'] at h5;exact absurd h5 (by decide))
   | (simp at h5;lia)
 cases hwl with
 | cons w1 w2 =>
  cases w2
  cases w1 with
  | list ho lE=>exact⟨_,_,ns,rfl,rfl,ho,qf ns _ lE,hlen⟩
theorem A_(l:OpenLaw)(args:List WData):l.row.toRowW.claim.post args (.bool true) args=true :=
 postW_of (r:=l.row.toRowW) (X:=(true==true))
  (show WShape.has [] (.bool true) .bool=true by first|rfl|decide|simp[WShape.has,WShape.arms,WShape.armsAll])
  (show (WTm.eq .res (.lit (.bool true))).value [] { args:=args,res:=some (.bool true),after:=args }=some (.bool (true==true)) from w_eq_bool (w_res rfl) w_lit) rfl
theorem wq{l:OpenLaw}{n:Nat}{q:Program}{loose:List Str}{XP:(Str→Option Value)→Heap→Prop}{YP:World→Heap→Prop}{d:DefRec}
  (hn:l.most=some n) (hdf:d.params.defaults=[])
  (call:∀(w:World) (s₀ s₁:Shared) (mg mb:Str→Option Value) (fa:Addr) (o:Obj) (pm cd doc:Value) (a:Addr) (vs:List Value) (ns:List Int),
   Ground q loose [] XP w s₀ mg mb s₁.heap→YP w s₁.heap →
   s₁.heap.get? fa=some o→o.data=.func (docDef d.name d.params d.body d.scope pm cd doc)→s₁.heap.CodeRec cd d.name→mg d.name=some (.ref fa) →
   s₁.heap.get? a=some { cls:=.type "list",data:=.seq vs.toArray }→IntsAre vs ns→ns.length≤n→s₁.gens=#[] →
   codeAny (model l.prog w) callerA (.call (.ref fa) ⟨[.ref a],[]⟩) (λr s'=>r=.ok (.ret (.bool true))∧OldK s₁.heap s'.heap∧s'.os=s₁.os∧AllBare s'.gens) s₁) :
  WalkO q loose XP YP l.row.toRowW d [] (λf vs=>PySem.call f vs):=by
 intro w s₀ s₁ mg mb G Y fa o pm cd doc dV kV ho hd hcd hD hmg hg args vals as Fy SI hrd hwl hlo
 obtain rfl:dV=.none:=Dflts.none hD hdf
 obtain rfl:kV=.none:=Dflts.noKw hD
 obtain⟨a,vs,ns,rfl,rfl,IV,hints,hlen⟩:=A9 hn Fy hwl
 refine enter_call (codeAny_mono (call w s₀ s₁ mg mb fa o pm cd doc a vs ns G Y ho (fd_plain hd) hcd hmg IV hints hlen hg) λr s' hq=>?_)
 obtain⟨rfl,h2,h3,h4⟩:=hq
 exact⟨.inl ⟨.bool true,.bool true,[],rfl,λ_=>rfl,.bool true,A_ l _,λ_=>⟨List.Pairwise.nil,λ_ hm=>(nomatch hm)⟩⟩,h2,h3,h4⟩
section
variable{prog:Program}{w:World}{A:Around}{E:Value→Shared→Prop}{s:Shared}{K:Frag}
end
end Att
namespace L2
open PySem PySem.Spec PyProof.Rows
theorem uf:∀{vs:List Value}{ns:List Int},IntsAre vs ns→Vals (ns.map V.int) vs
 | _,_,.nil=>.nil
 | _,_,.cons n t h=>.cons ⟨t,rfl⟩ (uf h)
def Fz(H:Hp):Prop:=∀b,H b=none∨∃o xs,H b=some (.frz o (.lst xs))
theorem C6{P:Program}{w:World}{K:PySem.W.Frag}{mg mb:Str→Option Value}{CX:CXT}{k:Nat}{fa a:Addr}{fd:FuncData}{x:Str}{sp:Sp}{s₁:Shared}{vs:List Value}{ns:List Int}
  (KX:K.In s₁.heap) (hns:s₁.heap.Ns mainGlobals mg) (hb:s₁.heap.Ns builtinsNs mb) (hbb:∀x:Str,x≠"__name__"→mb x=bootBuiltins x) (Nt:s₁.heap.NoLimit) (hg:s₁.gens=#[])
  (ha:s₁.heap.get? a=some { cls:=.type "list",data:=.seq vs.toArray }) (hi:IntsAre vs ns) (hl:ns.length≤sizeLine) (hr:dQ k callerA)
  (F:∀base:Heap,K.In base→base.Ns mainGlobals mg→aN P w K mg base CX k fa fd [x] sp) (K_:∀(s:Shared) (u:Value),BindsTo s fd ⟨[u],[]⟩ [(x,u)])
  (hsp:∀H:Hp,Fz H→SqL K H a (ns.map V.int)→sp [.ref a] H (λv _=>v=.bl true) λ_ _ _=>False)
  (hCX:∀H e s',CX [] H s₁ (λ_ _ _=>False) e s'→False) :
  codeAny (model P w) callerA (.call (.ref fa) ⟨[.ref a],[]⟩) (λr s'=>r=.ok (.ret (.bool true))∧OldK s₁.heap s'.heap∧s'.os=s₁.os∧AllBare s'.gens) s₁:=by
 have rv:=uf hi
 have Nu:=hi.length
 have core:∀H:Hp,Fz H→SqL K H a (ns.map V.int)→HOk P w H s₁.heap→(∀b,H b≠none→b=a)→(H a≠none→K.lookup a=none) →
   codeAny (model P w) callerA (.call (.ref fa) ⟨[.ref a],[]⟩) (λr s'=>r=.ok (.ret (.bool true))∧OldK s₁.heap s'.heap∧s'.os=s₁.os∧AllBare s'.gens) s₁:=by
  intro H hO hS hok hA hK
  have zO:∀{b:Addr}{o:Obj},s₁.heap.get? b=some o→H b=none→(uM s₁.heap H).get? b=some o:=λe n=>Cr e n
  have noA:∀{b:Addr}{o:Obj}{es:Array DictEntry}{ep:Nat},s₁.heap.get? b=some o→o.data=.dict es ep→H b=none:=λ{b o es ep} e d=>by
   cases q:H b with
   | none=>rfl
   | some u =>
    have e':b=a:=hA b (by rw[q];simp)
    subst e'
    rw[ha] at e;cases e
    have d':Data.seq vs.toArray _=Data.dict es ep:=d
    cases d'
  have nsK:∀{b:Addr}{m:Str→Option Value},s₁.heap.Ns b m→(uM s₁.heap H).Ns b m:=λ{b m} ⟨o,es,ep,e,d,r⟩=>⟨o,es,ep,zO e (noA e d),d,r⟩
  have hKb:K.In (uM s₁.heap H):=λb o e=>zO (KX b o e) (by
   cases q:H b with
   | none=>rfl
   | some u =>
    have e':b=a:=hA b (by rw[q];simp)
    subst e'
    rw[hK (by rw[q];simp)] at e;cases e)
  have hM:Mod K mg (uM s₁.heap H):=⟨hKb,nsK hns,⟨mb,nsK hb,hbb⟩,let ⟨mc,h1,h2⟩:=Nt;⟨mc,nsK h1,h2⟩⟩
  have e0:xT P w K mg (uM s₁.heap H) callerA [] s₁ H:=⟨rfl,hM,λb o e=>E7 e,Nat.le_of_eq (AW _ _),trivial,λb hb=>absurd (show b∈([]:List Addr) from hb) (by simp),hok,.of_eq hg⟩
  refine codeAny_mono ((F _ hKb (nsK hns)).run callerA [] s₁ H ⟨[.ref a],[]⟩ [.ref a] [.ref a] _ _ hr e0 (K_ s₁ (.ref a)) (.cons rfl .nil) (hsp H hO hS)) λr s' h=>?_
  cases r with
  | error e=>exact (hCX H e s' h).elim
  | ok fl =>
   cases fl with
   | next=>exact False.elim h
   | brk=>exact False.elim h
   | cont=>exact False.elim h
   | ret u =>
    obtain⟨v,H',os,bare,un,Nv,r',q⟩:=h
    have q':v=.bl true:=q
    subst q'
    obtain rfl:u=Value.bool true:=r'
    refine⟨rfl,OldK.of_keep λb o e=>?_,os,bare⟩
    cases q:H b with
    | none=>exact un.keep b o e q (by intro z;exact absurd (show b∈([]:List Addr) from z) (by simp)) (by simp)
    | some u =>
     rcases hO b with z|⟨ob,xs,z⟩
     ·rw[q] at z;cases z
     ·have z2:=un.fq b ob _ z
      obtain⟨e1,_⟩:=hok b _ z
      obtain⟨e2,_⟩:=Nv b _ z2
      rw[e] at e1;cases e1
      exact e2
 cases hk:K.lookup a with
 | some o =>
  have e:=KX a o hk
  rw[ha] at e
  cases e
  refine core (λ_=>none) (λ_=>.inl rfl) (.inr ⟨_,vs.toArray,_,hk,rfl,rfl,rfl,by rw[List.size_toArray,Nu];exact hl,by simpa using rv⟩) (λb u z=>by have z':(none:Option HO)=some u:=z;cases z') (λb z=>absurd rfl z) λz=>absurd rfl z
 | none =>
  refine core (λb=>if b=a then some (.frz { cls:=.type "list",data:=.seq vs.toArray } (.lst (ns.map V.int))) else none) (λb=>?_) (.inl (.inr ⟨{ cls:=.type "list",data:=.seq vs.toArray },if_pos rfl⟩)) (λb u z=>?_) (λb z=>?_) λ_=>hk
  ·by_cases hb:b=a
   ·exact .inr ⟨_,_,if_pos hb⟩
   ·exact .inl (if_neg hb)
  ·by_cases hb:b=a
   ·have z':=(if_pos hb).symm.trans z
    cases z'
    subst hb
    exact⟨ha,by rw[List.length_map];exact hl,vs,_,rv,ha⟩
   ·have z':=(if_neg hb).symm.trans z
    cases z'
  ·by_cases hb:b=a
   ·exact hb
   ·exact absurd (if_neg hb) z
theorem FA{l:PySem.W.OpenLaw}{n k:Nat}{q:Program}{loose:List Str}{XP:(Str→Option Value)→Heap→Prop}{YP:World→Heap→Prop}{d:DefRec}{K:Params→PySem.W.Frag}{CX:World→CXT}{sp:World→Sp}{x:Str}
  (hn:l.most=some n) (hn2:n≤sizeLine) (hdf:d.params.defaults=[]) (hr:dQ k callerA)
  (hY:∀(w:World) (h:Heap),YP w h→(K w.params).In h)
  (F:∀(w:World) (mg:Str→Option Value) (fa:Addr) (h:Heap),(K w.params).In h→h.Ns mainGlobals mg→mg d.name=some (.ref fa) →
   ∃fd:FuncData,(∀(s:Shared) (u:Value),BindsTo s fd ⟨[u],[]⟩ [(x,u)]) ∧
    ∀base:Heap,(K w.params).In base→base.Ns mainGlobals mg→aN l.prog w (K w.params) mg base (CX w) k fa fd [x] (sp w))
  (hsp:∀(w:World) (H:Hp) (a:Addr) (ns:List Int),ns.length≤n→Fz H→SqL (K w.params) H a (ns.map V.int)→sp w [.ref a] H (λv _=>v=.bl true) λ_ _ _=>False)
  (hCX:∀(w:World) (H:Hp) (s:Shared) (e:Value) (s':Shared),CX w [] H s (λ_ _ _=>False) e s'→False) :
  PySem.W.WalkO q loose XP YP l.row.toRowW d [] (λf vs=>PySem.call f vs):=by
 refine Att.wq hn hdf λw s₀ s₁ mg mb fa o pm cd doc a vs ns G Y ho hd hcd hmg IV hints hlen hg=>?_
 have KX:=hY w _ Y
 obtain⟨fd,hb,hF⟩:=F w mg fa _ KX G.T.g hmg
 exact C6 KX G.T.g G.T.b G.T.builtins G.T.nolimit hg IV hints (Nat.le_trans hlen hn2) hr hF hb (λH hO hS=>hsp w H a ns hlen hO hS) λH e s'=>hCX w H s₁ e s'
end L2
namespace L2
open PySem PySem.Spec PyProof.Rows
def aK(s:Stmt):Arguments:=match s with
 | .FunctionDef _ a _ _ _ _ _ _ _ _=>a
 | _=>{ posonlyargs:=[],args:=[],vararg:=none,kwonlyargs:=[],kw_defaults:=[],kwarg:=none,defaults:=[] }
def aI(s:Stmt):List Stmt:=match s with
 | .FunctionDef _ _ b _ _ _ _ _ _ _=>b
 | _=>[]
def ai(s:Stmt):Scope:=match s with
 | .FunctionDef _ _ _ _ _ _ sc _ _ _=>sc
 | _=>{ kind:=.function,names:=[],isGenerator:=false,isCoroutine:=false }
noncomputable abbrev CX0 : CXT := fun _ _ _ _ _ _ => False
noncomputable abbrev E0 : XK := fun _ _ _ => False
theorem La{X:Cx}:Passes CX0 X E0:=λ_ _ _ _ _ _ _ h=>h.elim
structure Fun(K:PySem.W.Frag)(x qual:Str)(st:Stmt)(f:Addr)(fd:FuncData):Prop where
 ex:∃(oc:Value) (od:Option Addr) (kV doc pm:Value) (an:Option Addr) (cdv ct:Value) (osl:Array (Option Value)),
  fd=PySem.W.fnOf x qual (aK st) (aI st) (ai st) .none kV doc pm an cdv ct∧K.lookup f=some ⟨oc,od,.func fd,osl⟩∧PySem.W.codeIn K cdv qual=true
 kp:PySem.W.keepIn K (.ref f)=true
section
variable{P:Program}{w:World}{K:PySem.W.Frag}{mg:Str→Option Value}{base:Heap}
theorem Fun.ok{x qual:Str}{st:Stmt}{f:Addr}{fd:FuncData}{N ps:List Str}{k:Nat}{sp:Sp}(F:Fun K x qual st f fd)(S:aM N ps (ai st))(len:∀vs H Q E,sp vs H Q E→vs.length=ps.length)
  (CP:∀(cdv:Value) (A:Around) (outer:List Env) (s:Shared) (H:Hp) (vs:List V) (Q:VK) (E:XK),dQ k (A.deeper (envOfC qual (ai st) s.heap.objs.size f cdv))→sp vs H Q E →
   ∃t,PSs (xU CX0 P w K mg base N qual (ai st) f cdv A outer s H E).nox (aI st) t∧t { nx:=λ_ H'=>Q .non H',rt:=Q } (start N vs) H):aN P w K mg base CX0 (k+1) f fd ps sp:=by
 obtain⟨oc,od,kV,doc,pm,an,cdv,ct,osl,rfl,lk,hcd⟩:=F.ex
 refine KS lk hcd S len λA outer s H vs Q E hr hsp=>?_
 obtain⟨t,h,q⟩:=CP cdv A outer s H vs Q E hr hsp
 exact⟨t,h.nox,q⟩
theorem Fun.binds{x qual:Str}{st:Stmt}{f:Addr}{fd:FuncData}{ps:List Str}(F:Fun K x qual st f fd)
  (h:∀(kV doc pm:Value) (an:Option Addr) (cdv ct:Value) (us:List Value),us.length=ps.length→bindArgs (PySem.W.fnOf x qual (aK st) (aI st) (ai st) .none kV doc pm an cdv ct) ⟨us,[]⟩=pure (ps.zip us)):Binds K fd ps []:=by
 obtain⟨oc,od,kV,doc,pm,an,cdv,ct,osl,rfl,lk,hcd⟩:=F.ex
 exact .all (h kV doc pm an cdv ct)
theorem a_{x qual:Str}{st:Stmt}{f:Addr}{oc:Value}{od an:Option Addr}{osl:Array (Option Value)}{kV doc pm cdv ct:Value}(l:K.lookup f=some ⟨oc,od,.func (PySem.W.fnOf x qual (aK st) (aI st) (ai st) .none kV doc pm an cdv ct),osl⟩)
  (c:PySem.W.codeIn K cdv qual=true) (k:PySem.W.keepIn K (.ref f)=true):Fun K x qual st f (PySem.W.fnOf x qual (aK st) (aI st) (ai st) .none kV doc pm an cdv ct):=⟨⟨oc,od,kV,doc,pm,an,cdv,ct,osl,rfl,l,c⟩,k⟩
end
theorem Ba{n:Nat}(h:n≤1000):n<sizeLine:=Nat.lt_of_le_of_lt h (by decide)
section
variable{X:Cx}
end
def aU(H H':Hp):Prop:=∀b o,H b=some o→H' b=some o
theorem aU.refl(H:Hp):aU H H:=λ_ _ h=>h
theorem aU.trans{H H1 H2:Hp}(a:aU H H1)(b:aU H1 H2):aU H H2:=λc o h=>b c o (a c o h)
theorem aU.free{H H':Hp}(e:aU H H'){l:Addr}(h:H' l=Option.none):H l=Option.none:=by
 cases q:H l with
 | none=>rfl
 | some o =>
  rw[e l o q] at h
  cases h
theorem aU.seq{K:PySem.W.Frag}{H H':Hp}{a:Addr}{xs:List V}(e:aU H H')(h:SqL K H a xs):SqL K H' a xs:=by
 rcases h with (h|⟨o,h⟩)|h
 ·exact .inl (.inl (e _ _ h))
 ·exact .inl (.inr ⟨o,e _ _ h⟩)
 ·exact .inr h
section
variable{X:Cx}
theorem Bb:fo X (.builtin "len") (λxs H Q=>∃a kvs,xs=[V.ref a]∧H a=some (.dK kvs)∧Q (.int kvs.length) H):=by
 intro pins s σ H xs us Q I r h
 obtain⟨a,kvs,rfl,ha,q⟩:=h
 obtain⟨u,rfl,ru⟩:=vals1 r
 cases ru
 exact K8 I (.inl ha) λt s' I'=>⟨.int kvs.length,H,I',⟨t,rfl⟩,q⟩
end
section
variable{κ:Type}[DecidableEq κ]
end
def CX1(P:Program)(w:World):CXT:=λouter H s E ev s'=>∃(e t C:Addr) (H':Hp) (B:Heap),ev=.ref e∧s'.os=s.os∧AllBare s'.gens∧Un (frs outer) [] H H' s.heap s'.heap∧HOk P w H' s'.heap∧E (.ref C) none H' ∧
 Heap.FlyingW B outer e (.ref C) (.ref t) s'.heap∧(∀b o,s.heap.get? b=some o→b∉frs outer→∃o',B.get? b=some o')∧∀b o,H' b=some o→∃o',B.get? b=some o'
theorem Un.held{P:Program}{w:World}{l:List Env}{H H':Hp}{h0 h3 h5 B:Heap}{e:Addr}{cls a0:Value}(U:Un (frs l) [] H H' h0 h3)(hok:HOk P w H' h3)(fl:Heap.FlyingW B l e cls a0 h3)(st:B.StaysIn h5)(up:h3.UpToSlots h5)
  (cov:∀b o,h0.get? b=some o→b∉frs l→∃o',B.get? b=some o') (IW:∀b o,H' b=some o→∃o',B.get? b=some o'):Un (frs l) [] H H' h0 h5∧HOk P w H' h5:=by
 have same:∀b o o',h3.get? b=some o→B.get? b=some o'→h5.get? b=some o:=λb o o' q1 q2=>by
  have:=fl.1 b o' q2
  rw[q1] at this
  cases this
  exact st b o q2
 have slot:∀b o,h3.get? b=some o→b∈frs l→∃sl,h5.get? b=some { o with slots:=sl }:=λb o q hb=>by
  obtain⟨_,o',ho',hnr⟩:=fl.2.2.1.mem hb
  rw[q] at ho'
  cases ho'
  exact up b o q hnr
 refine⟨⟨λb o q n nb hx=>?_,λb o q n hb hx=>?_,U.free,λb o q hx=>?_,U.sL,U.fq,U.sM⟩,λa o q=>?_⟩
 ·obtain⟨o',hB⟩:=cov b o q nb
  exact same b o o' (U.keep b o q n nb hx) hB
 ·obtain⟨sl,e1⟩:=U.slot b o q n hb hx
  obtain⟨sl2,e2⟩:=slot b _ e1 hb
  exact⟨sl2,e2⟩
 ·obtain⟨o2,e2⟩:=U.there b o q hx
  by_cases hb:b∈frs l
  ·obtain⟨sl,e3⟩:=slot b o2 e2 hb
   exact⟨_,e3⟩
  ·obtain⟨o',hB⟩:=cov b o q hb
   exact⟨o2,same b o2 o' e2 hB⟩
 ·refine (hok a o q).v_ (λc v hc r=>?_) (λ_ r=>r) λ_ _ r=>r
  have hT:∃o1,H' c=some o1:=by
   rcases hc with rfl|hc
   ·exact⟨_,q⟩
   ·exact⟨_,hc⟩
  obtain⟨o1,h1⟩:=hT
  obtain⟨o',hB⟩:=IW c o1 h1
  exact same c v o' r hB
section
variable{M:Model}{A:Around}{E:Value→Shared→Prop}{h:Heap}{g:Array GenState}{d:Drawn}{t:Nat}{os:OsState}{e C:Addr}{oe:Obj}
 {nm q:Str}{N:Addr}{bs bm:List Value}{SJ:Bool}{sn:List Str}{sub:List Value}{ab:Bool}{col:Option Bool}{dd:Option Addr}{k0 k1 k2 k3 k5:Option Value}{newId:String}
 {nm' q':Str}{N' D:Addr}{bs' bm':List Value}{SG:Bool}{sn':List Str}{SK:List Value}{ab':Bool}{SM:Option Bool}{dd':Option Addr}{k0' k1' k2' k3' k5':Option Value}{Nw:String}
end
structure Cau(X:Cx)(pins:List (Addr×Obj))(σ:L2.St)(H':Hp)(e t C:Addr)(B:Heap)(s:Shared):Prop where
 org:∃H0 s0,Inv X pins σ H0 s0∧s.os=s0.os∧Un (frs X.stack) [] H0 H' s0.heap s.heap∧∀b o,s0.heap.get? b=some o→b∉frs X.stack→∃o',B.get? b=some o'
 bare:AllBare s.gens
 hok:HOk X.prog X.w H' s.heap
 fly:Heap.FlyingW B X.stack e (.ref C) (.ref t) s.heap
 cov:∀b o,H' b=some o→∃o',B.get? b=some o'
section
variable{X:Cx}{pins:List (Addr×Obj)}{σ:L2.St}{H':Hp}{e t C:Addr}{B h':Heap}{s:Shared}
theorem Cau.slots{tk:Nat}(c:Cau X pins σ H' e t C B s)(fl:Heap.FlyingW B X.stack e (.ref C) (.ref t) h')(up:s.heap.UpToSlots h'):Cau X pins σ H' e t C B { s with heap:=h',toks:=tk }:=by
 obtain⟨H0,s0,I,hos,U,cov⟩:=c.org
 obtain⟨U',hk⟩:=U.held c.hok c.fly fl.1 up cov c.cov
 exact⟨⟨H0,s0,I,hos,U',cov⟩,c.bare,hk,fl,c.cov⟩
end
section
variable{X:Cx}{pins:List (Addr×Obj)}{σ:L2.St}{H:Hp}{s:Shared}{ev:Value}
end
section
variable{X:Cx}{pins:List (Addr×Obj)}{σ:L2.St}{H':Hp}{e t C D:Addr}{B:Heap}{s:Shared}{bm:List Value}{x:Str}{np pos:Pos}{name:Option Str}{body:List Stmt}{rest:List ExceptHandler}{Q:Flow→Shared→Prop}{E:Value→Shared→Prop}
end
section
variable{X:Cx}{pins:List (Addr×Obj)}{σ:L2.St}{H':Hp}{e t C:Addr}{B:Heap}{s:Shared}{bm:List Value}{pos:Pos}{name:Option Str}{body:List Stmt}{rest:List ExceptHandler}{Q:Flow→Shared→Prop}{E:Value→Shared→Prop}
end
section
variable{X:Cx}{pins:List (Addr×Obj)}{σ:L2.St}{H:Hp}{s:Shared}
end
def IX(e C:Addr)(h:Heap):Prop:=∃o,h.get? e=some o∧o.cls=.ref C
section
variable{X:Cx}{pins:List (Addr×Obj)}{σ:L2.St}{H':Hp}{e t C:Addr}{B:Heap}{s:Shared}{pos:Pos}{E:Value→Shared→Prop}
end
structure Hel(X:Cx)(pins:List (Addr×Obj))(σ:L2.St)(H':Hp)(e t C:Addr)(B:Heap)(s:Shared):Prop where
 org:∃H0 s0,Inv X pins σ H0 s0∧s.os=s0.os∧Un (frs X.stack) [] H0 H' s0.heap s.heap∧∀b o,s0.heap.get? b=some o→b∉frs X.stack→∃o',B.get? b=some o'
 bare:AllBare s.gens
 hok:HOk X.prog X.w H' s.heap
 held:Heap.HeldW B X.stack e (.ref C) (.ref t) X.env.locals s.heap
 cov:∀b o,H' b=some o→∃o',B.get? b=some o'
theorem FC{P:Program}{w:World}{l:List Env}{H H':Hp}{h0 h3 h5 B:Heap}(U:Un (frs l) [] H H' h0 h3)(hok:HOk P w H' h3)(st0:B.StaysIn h3)(ff:h3.FunFrames B l)(st:B.StaysIn h5)(up:h3.UpToSlots h5)
  (cov:∀b o,h0.get? b=some o→b∉frs l→∃o',B.get? b=some o') (IW:∀b o,H' b=some o→∃o',B.get? b=some o'):Un (frs l) [] H H' h0 h5∧HOk P w H' h5:=by
 have same:∀b o o',h3.get? b=some o→B.get? b=some o'→h5.get? b=some o:=λb o o' q1 q2=>by
  have:=st0 b o' q2
  rw[q1] at this
  cases this
  exact st b o q2
 have slot:∀b o,h3.get? b=some o→b∈frs l→∃sl,h5.get? b=some { o with slots:=sl }:=λb o q hb=>by
  obtain⟨_,o',ho',hnr⟩:=ff.mem hb
  rw[q] at ho'
  cases ho'
  exact up b o q hnr
 refine⟨⟨λb o q n nb hx=>?_,λb o q n hb hx=>?_,U.free,λb o q hx=>?_,U.sL,U.fq,U.sM⟩,λa o q=>?_⟩
 ·obtain⟨o',hB⟩:=cov b o q nb
  exact same b o o' (U.keep b o q n nb hx) hB
 ·obtain⟨sl,e1⟩:=U.slot b o q n hb hx
  obtain⟨sl2,e2⟩:=slot b _ e1 hb
  exact⟨sl2,e2⟩
 ·obtain⟨o2,e2⟩:=U.there b o q hx
  by_cases hb:b∈frs l
  ·obtain⟨sl,e3⟩:=slot b o2 e2 hb
   exact⟨_,e3⟩
  ·obtain⟨o',hB⟩:=cov b o q hb
   exact⟨o2,same b o2 o' e2 hB⟩
 ·refine (hok a o q).v_ (λc v hc r=>?_) (λ_ r=>r) λ_ _ r=>r
  have hT:∃o1,H' c=some o1:=by
   rcases hc with rfl|hc
   ·exact⟨_,q⟩
   ·exact⟨_,hc⟩
  obtain⟨o1,h1⟩:=hT
  obtain⟨o',hB⟩:=IW c o1 h1
  exact same c v o' r hB
section
variable{X:Cx}{pins:List (Addr×Obj)}{σ:L2.St}{H H':Hp}{e t C:Addr}{B:Heap}{s s3:Shared}{ev:Value}{E:Value→Shared→Prop}
theorem Hel.slots{h':Heap}(c:Hel X pins σ H' e t C B s)(hl:Heap.HeldW B X.stack e (.ref C) (.ref t) X.env.locals h')(up:s.heap.UpToSlots h'):Hel X pins σ H' e t C B { s with heap:=h' }:=by
 obtain⟨H0,s0,I,hos,U,cov⟩:=c.org
 obtain⟨U',hk⟩:=FC U c.hok c.held.1 c.held.2.2.1 hl.1 up cov c.cov
 exact⟨⟨H0,s0,I,hos,U',cov⟩,c.bare,hk,hl,c.cov⟩
end
end L2
namespace Fw
open PySem
noncomputable abbrev Key := Sum Int Str
inductive T where
 | non|bl (b:Bool)|int (i:Int)|str (x:Str)
 | lst (ts:List T)|tup (ts:List T)|dct (kts:List (Key×T))|exc (c:Str) (t:Option Str)|dtt (fz:Bool) (kts:List (List Int×Bool))
inductive SV where
 | val (t:T)|cel (k:Nat)|box (xs:List (Sum T Nat))
noncomputable abbrev ah := List (Bool × T)
noncomputable abbrev Slots := List (Option SV)
inductive R(α:Type) where
 | ok (a:α) (μ:ah)|err (c:T) (μ:ah)|bad
def R.bind{α β:Type}(x:R α)(f:α→ah→R β):R β:=match x with
 | .ok a μ=>f a μ
 | .err c μ=>.err c μ
 | .bad=>.bad
@[simp] theorem R.aP{α β:Type}(a:α)(μ:ah)(f:α→ah→R β):(R.ok a μ).bind f=f a μ:=(rfl)
def R.lift{α:Type}(o:Option α)(μ:ah):R α:=match o with
 | some a=>.ok a μ
 | none=>.bad
@[simp] theorem R.aY{α:Type}(a:α)(μ:ah):R.lift (some a) μ=.ok a μ:=(rfl)
theorem R.aX{α β:Type}{x:R α}{f:α→ah→R β}{b:β}{μ:ah}(h:x.bind f=.ok b μ):∃a μ1,x=.ok a μ1∧f a μ1=.ok b μ:=by
 cases x with
 | ok a μ1=>exact⟨a,μ1,rfl,h⟩
 | err c μ1=>cases h
 | bad=>cases h
theorem R.mX{α:Type}{o:Option α}{μ μ':ah}{a:α}(h:R.lift o μ=.ok a μ'):o=some a∧μ=μ':=by
 cases o with
 | none=>cases h
 | some x=>cases h;exact⟨rfl,rfl⟩
def R.calm{α:Type}:R α→R α
 | .ok a μ=>.ok a μ
 | _=>.bad
@[simp] theorem R.cY{α:Type}(a:α)(μ:ah):(R.ok a μ).calm=.ok a μ:=(rfl)
theorem R.calm_eq{α:Type}{r:R α}{a:α}{μ:ah}(h:r.calm=.ok a μ):r=.ok a μ:=by
 cases r with
 | ok b ν=>exact h
 | err c ν=>cases h
 | bad=>cases h
noncomputable abbrev D := Slots → ah → R SV
def szL:Nat:=16777216
def rd(μ:ah):SV→Option T
 | .val t=>some t
 | .cel k=>(μ[k]?).map (·.2)
 | .box _=>none
@[simp] theorem i_(μ:ah)(t:T):rd μ (.val t)=some t:=(rfl)
def qD(x:Sum T Nat)(μ:ah):R T:=match x with
 | .inl t=>.ok t μ
 | .inr k=>match μ[k]? with
  | some (_,t)=>.ok t (μ.set k (false,t))
  | none=>.bad
def jr:List (Sum T Nat)→ah→R (List T)
 | [],μ=>.ok [] μ
 | x::xs,μ=>(qD x μ).bind λt μ1=>(jr xs μ1).bind λts μ2=>.ok (t::ts) μ2
def frz(sv:SV)(μ:ah):R T:=match sv with
 | .val t=>.ok t μ
 | .cel k=>match μ[k]? with
  | some (_,t)=>.ok t (μ.set k (false,t))
  | none=>.bad
 | .box xs=>(jr xs μ).bind λts μ1=>.ok (.tup ts) μ1
@[simp] theorem mC(μ:ah)(t:T):frz (.val t) μ=.ok t μ:=(rfl)
def fq:List SV→ah→R (List T)
 | [],μ=>.ok [] μ
 | x::xs,μ=>(frz x μ).bind λt μ1=>(fq xs μ1).bind λts μ2=>.ok (t::ts) μ2
@[simp] theorem qE(μ:ah):fq [] μ=.ok [] μ:=(rfl)
@[simp] theorem mD(x:SV)(xs:List SV)(μ:ah):fq (x::xs) μ=(frz x μ).bind λt μ1=>(fq xs μ1).bind λts μ2=>.ok (t::ts) μ2:=(rfl)
theorem FD(x:Sum T Nat)(μ:ah)(c:T)(μ':ah):qD x μ≠.err c μ':=by
 cases x with
 | inl t=>intro h;cases h
 | inr k =>
  unfold qD
  cases q:μ[k]? with
  | none=>simp[q]
  | some p=>simp[q]
theorem wt:∀(xs:List (Sum T Nat)) (μ:ah) (c:T) (μ':ah),jr xs μ≠.err c μ'
 | [],μ,c,μ'=>by intro h;cases h
 | x::xs,μ,c,μ'=>by
  unfold jr
  cases q:qD x μ with
  | err d μ1=>exact absurd q (FD x μ d μ1)
  | bad=>intro h;cases h
  | ok t μ1 =>
   rw[R.aP]
   cases q2:jr xs μ1 with
   | err d μ2=>exact absurd q2 (wt xs μ1 d μ2)
   | bad=>intro h;cases h
   | ok ts μ2=>intro h;cases h
theorem uW(x:SV)(μ:ah)(c:T)(μ':ah):frz x μ≠.err c μ':=by
 cases x with
 | val t=>intro h;cases h
 | cel k =>
  unfold frz
  cases q:μ[k]? with
  | none=>simp[q]
  | some p=>simp[q]
 | box xs =>
  show (jr xs μ).bind _≠_
  cases q:jr xs μ with
  | err d μ1=>exact absurd q (wt xs μ d μ1)
  | bad=>intro h;cases h
  | ok t μ1=>intro h;cases h
theorem qo:∀(xs:List SV) (μ:ah) (c:T) (μ':ah),fq xs μ≠.err c μ'
 | [],μ,c,μ'=>by intro h;cases h
 | x::xs,μ,c,μ'=>by
  rw[mD]
  cases q:frz x μ with
  | err d μ1=>exact absurd q (uW x μ d μ1)
  | bad=>intro h;cases h
  | ok t μ1 =>
   rw[R.aP]
   cases q2:fq xs μ1 with
   | err d μ2=>exact absurd q2 (qo xs μ1 d μ2)
   | bad=>intro h;cases h
   | ok ts μ2=>intro h;cases h
def slot(e:Slots)(i:Nat):Option SV:=match e[i]? with
 | some (some sv)=>some sv
 | _=>none
@[simp] theorem cF(x:SV)(e:Slots):slot (some x::e) 0=some x:=(rfl)
@[simp] theorem Bc(e:Slots):slot (none::e) 0=none:=(rfl)
@[simp] theorem cG(x:Option SV)(e:Slots)(i:Nat):slot (x::e) (i+1)=slot e i:=(rfl)
def ae(i:Nat):D:=λe μ=>R.lift (slot e i) μ
@[simp] theorem eN(i:Nat)(e:Slots)(μ:ah):ae i e μ=R.lift (slot e i) μ:=(rfl)
def dC(t:T):D:=λ_ μ=>.ok (.val t) μ
@[simp] theorem p5(t:T)(e:Slots)(μ:ah):dC t e μ=.ok (.val t) μ:=(rfl)
def ap1(f:T→Option T):Option T→Option SV
 | some t=>(f t).map SV.val
 | none=>none
def ap2(f:T→T→Option T):Option T→Option T→Option SV
 | some t,some u=>(f t u).map SV.val
 | _,_=>none
@[simp] theorem nZ(f:T→Option T)(t:T):ap1 f (some t)=(f t).map SV.val:=(rfl)
@[simp] theorem n_(f:T→T→Option T)(t u:T):ap2 f (some t) (some u)=(f t u).map SV.val:=(rfl)
theorem mY{f:T→Option T}{o:Option T}{w:SV}(h:ap1 f o=some w):∃t u,o=some t∧f t=some u∧w=.val u:=by
 cases o with
 | none=>cases h
 | some t =>
  obtain⟨u,h1,rfl⟩:=Option.map_eq_some_iff.mp (show (f t).map SV.val=some w from h)
  exact⟨t,u,rfl,h1,rfl⟩
theorem qF{f:T→T→Option T}{o p:Option T}{w:SV}(h:ap2 f o p=some w):∃t u v,o=some t∧p=some u∧f t u=some v∧w=.val v:=by
 cases o with
 | none=>cases p<;>cases h
 | some t =>
  cases p with
  | none=>cases h
  | some u =>
   obtain⟨v,h1,rfl⟩:=Option.map_eq_some_iff.mp (show (f t u).map SV.val=some w from h)
   exact⟨t,u,v,rfl,rfl,h1,rfl⟩
def dUn(f:T→Option T)(a:D):D:=λe μ=>(a e μ).bind λx μ1=>R.lift (ap1 f (rd μ1 x)) μ1
@[simp] theorem qG(f:T→Option T)(a:D)(e:Slots)(μ:ah):dUn f a e μ=(a e μ).bind λx μ1=>R.lift (ap1 f (rd μ1 x)) μ1:=(rfl)
def aj(f:T→T→Option T)(a b:D):D:=λe μ=>(a e μ).bind λx μ1=>(b e μ1).bind λy μ2=>R.lift (ap2 f (rd μ2 x) (rd μ2 y)) μ2
@[simp] theorem iO(f:T→T→Option T)(a b:D)(e:Slots)(μ:ah):aj f a b e μ=(a e μ).bind λx μ1=>(b e μ1).bind λy μ2=>R.lift (ap2 f (rd μ2 x) (rd μ2 y)) μ2:=(rfl)
def asB:SV→Option Bool
 | .val (.bl b)=>some b
 | _=>none
@[simp] theorem ja(b:Bool):asB (.val (.bl b))=some b:=(rfl)
def C7(a b:D):D:=λe μ=>(a e μ).bind λx μ1=>(R.lift (asB x) μ1).bind λk μ1=>if k=true then b e μ1 else .ok (.val (.bl false)) μ1
def dOr(a b:D):D:=λe μ=>(a e μ).bind λx μ1=>(R.lift (asB x) μ1).bind λk μ1=>if k=true then .ok (.val (.bl true)) μ1 else b e μ1
def wu(a:D):D:=λe μ=>(a e μ).bind λx μ1=>(R.lift (asB x) μ1).bind λk μ1=>.ok (.val (.bl (!k))) μ1
def FE(c a b:D):D:=λe μ=>(c e μ).bind λx μ1=>(R.lift (asB x) μ1).bind λk μ1=>if k=true then a e μ1 else b e μ1
@[simp] theorem FF(a b:D)(e:Slots)(μ:ah):C7 a b e μ=(a e μ).bind λx μ1=>(R.lift (asB x) μ1).bind λk μ1=>if k=true then b e μ1 else .ok (.val (.bl false)) μ1:=(rfl)
@[simp] theorem IY(a b:D)(e:Slots)(μ:ah):dOr a b e μ=(a e μ).bind λx μ1=>(R.lift (asB x) μ1).bind λk μ1=>if k=true then .ok (.val (.bl true)) μ1 else b e μ1:=(rfl)
@[simp] theorem FG(a:D)(e:Slots)(μ:ah):wu a e μ=(a e μ).bind λx μ1=>(R.lift (asB x) μ1).bind λk μ1=>.ok (.val (.bl (!k))) μ1:=(rfl)
@[simp] theorem FH(c a b:D)(e:Slots)(μ:ah):FE c a b e μ=(c e μ).bind λx μ1=>(R.lift (asB x) μ1).bind λk μ1=>if k=true then a e μ1 else b e μ1:=(rfl)
def ei:List D→Slots→ah→R (List SV)
 | [],_,μ=>.ok [] μ
 | d::ds,e,μ=>(d e μ).bind λx μ1=>(ei ds e μ1).bind λxs μ2=>.ok (x::xs) μ2
@[simp] theorem eE(e:Slots)(μ:ah):ei [] e μ=.ok [] μ:=(rfl)
@[simp] theorem br(d:D)(ds:List D)(e:Slots)(μ:ah):ei (d::ds) e μ=(d e μ).bind λx μ1=>(ei ds e μ1).bind λxs μ2=>.ok (x::xs) μ2:=(rfl)
def jK(ds:List D):D:=λe μ=>(ei ds e μ).bind λxs μ1=>(fq xs μ1).bind λts μ2=>.ok (.val (.tup ts)) μ2
def ft(ds:List D):D:=λe μ=>(ei ds e μ).bind λxs μ1=>(fq xs μ1).bind λts μ2=>.ok (.val (.lst ts)) μ2
@[simp] theorem FI(ds:List D)(e:Slots)(μ:ah):jK ds e μ=(ei ds e μ).bind λxs μ1=>(fq xs μ1).bind λts μ2=>.ok (.val (.tup ts)) μ2:=(rfl)
@[simp] theorem uX(ds:List D)(e:Slots)(μ:ah):ft ds e μ=(ei ds e μ).bind λxs μ1=>(fq xs μ1).bind λts μ2=>.ok (.val (.lst ts)) μ2:=(rfl)
def iP(f:T→T→Option T)(ds:List D)(b:D):D:=λe μ=>(ei ds e μ).bind λxs μ1=>(fq xs μ1).bind λts μ2=>(b e μ2).bind λy μ3=>R.lift (ap1 (f (.lst ts)) (rd μ3 y)) μ3
@[simp] theorem mE(f:T→T→Option T)(ds:List D)(b:D)(e:Slots)(μ:ah):iP f ds b e μ=(ei ds e μ).bind λxs μ1=>(fq xs μ1).bind λts μ2=>(b e μ2).bind λy μ3=>R.lift (ap1 (f (.lst ts)) (rd μ3 y)) μ3:=(rfl)
def boxed:List SV→Option (List (Sum T Nat))
 | []=>some []
 | .val t::xs=>(boxed xs).map λys=>.inl t::ys
 | .cel k::xs=>(boxed xs).map λys=>.inr k::ys
 | .box _::_=>none
def lj(ds:List D):D:=λe μ=>(ei ds e μ).bind λxs μ1=>(R.lift (boxed xs) μ1).bind λys μ1=>.ok (.box ys) μ1
@[simp] theorem uY(ds:List D)(e:Slots)(μ:ah):lj ds e μ=(ei ds e μ).bind λxs μ1=>(R.lift (boxed xs) μ1).bind λys μ1=>.ok (.box ys) μ1:=(rfl)
def cell(t:T)(μ:ah):R SV:=.ok (.cel μ.length) (μ++[(true,t)])
def cS(d:D):D:=λe μ=>(d e μ).bind λx μ1=>match x with
 | .val t=>cell t μ1
 | .cel k=>.ok (.cel k) μ1
 | .box xs=>.ok (.box xs) μ1
def yb(x:SV)(μ:ah):R SV:=match x with
 | .val t=>cell t μ
 | .cel k=>.ok (.cel k) μ
 | .box xs=>.ok (.box xs) μ
@[simp] theorem qH(t:T)(μ:ah):yb (.val t) μ=.ok (.cel μ.length) (μ++[(true,t)]):=(rfl)
@[simp] theorem qI(d:D)(e:Slots)(μ:ah):cS d e μ=(d e μ).bind yb:=by
 unfold cS yb;rfl
noncomputable abbrev FN := List SV → ah → R SV
def au(f:FN)(ds:List D):D:=λe μ=>(ei ds e μ).bind λxs μ1=>f xs μ1
@[simp] theorem ij(f:FN)(ds:List D)(e:Slots)(μ:ah):au f ds e μ=(ei ds e μ).bind λxs μ1=>f xs μ1:=(rfl)
def cal(f:FN):FN:=λxs μ=>(f xs μ).calm
@[simp] theorem lF(f:FN)(xs:List SV)(μ:ah):cal f xs μ=(f xs μ).calm:=(rfl)
def ixN(n:Nat)(i:Int):Option Nat:=if 0≤i then (if i<n then some i.toNat else none) else if -(n:Int)≤i then some (i+n).toNat else none
def atI{α:Type}(xs:List α)(i:Int):Option α:=(ixN xs.length i).bind λj=>xs[j]?
def sIx(n d:Nat):Option Int→Nat
 | none=>d
 | some v=>if v<0 then (v+(n:Int)).toNat else min v.toNat n
def bw:T→T→Option T
 | .int i,.int j=>some (.int (i+j))
 | .str x,.str y=>if x.length+y.length≤szL then some (.str (x++y)) else none
 | .tup xs,.tup ys=>if xs.length+ys.length≤szL then some (.tup (xs++ys)) else none
 | .lst xs,.lst ys=>if xs.length+ys.length≤szL then some (.lst (xs++ys)) else none
 | _,_=>none
theorem wx(xs ys:List T)(h:xs.length+ys.length≤szL):bw (.tup xs) (.tup ys)=some (.tup (xs++ys)):=if_pos h
theorem qJ(xs ys:List T)(h:xs.length+ys.length≤szL):bw (.lst xs) (.lst ys)=some (.lst (xs++ys)):=if_pos h
@[simp] theorem wy(i j:Int):bw (.int i) (.int j)=some (.int (i+j)):=(rfl)
def il:T→T→Option T
 | .lst xs,.int k=>if -(2 ^ 63)≤k∧k<2 ^ 63∧xs.length*k.toNat≤szL then some (.lst (List.replicate k.toNat xs).flatten) else none
 | _,_=>none
def qK:T→T→Option T
 | .int i,.int j=>some (.int (i-j))
 | _,_=>none
@[simp] theorem C8(i j:Int):qK (.int i) (.int j)=some (.int (i-j)):=(rfl)
def IZ:T→T→Option T
 | .int i,.int j=>if (-(2 ^ 64)<i∧i<2 ^ 64)∨(-(2 ^ 64)<j∧j<2 ^ 64) then some (.int (i*j)) else none
 | _,_=>none
def aQ(t u:T):Option T:=IZ t u
theorem I0(i j:Int)(h1:-18446744073709551616<i)(h2:i<18446744073709551616):IZ (.int i) (.int j)=some (.int (i*j)):=if_pos (.inl ⟨h1,h2⟩)
theorem I_(i j:Int)(h1:-18446744073709551616<j)(h2:j<18446744073709551616):IZ (.int i) (.int j)=some (.int (i*j)):=if_pos (.inr ⟨h1,h2⟩)
@[simp] theorem iQ(i j:Int)(h1:-18446744073709551616<i)(h2:i<18446744073709551616):aQ (.int i) (.int j)=some (.int (i*j)):=I0 i j h1 h2
@[simp] theorem h_(i j:Int)(h1:-18446744073709551616<j)(h2:j<18446744073709551616):aQ (.int i) (.int j)=some (.int (i*j)):=I_ i j h1 h2
def aW:T→T→Option T
 | .int i,.int j=>if 0<j then some (.int (i%j)) else none
 | _,_=>none
@[simp] theorem fu(i j:Int)(h:0<j):aW (.int i) (.int j)=some (.int (i%j)):=if_pos h
def iJ:T→T→Option T
 | .int i,.int j=>if 0<j∧j<1073741824 then some (.int (i / j)) else none
 | _,_=>none
@[simp] theorem wz(i j:Int)(h:0<j)(h2:j<1073741824):iJ (.int i) (.int j)=some (.int (i / j)):=if_pos ⟨h,h2⟩
def wA:T→T→Option T
 | .int i,.int j=>if 0≤j∧j≤1000∧-(2 ^ 64)<i∧i<2 ^ 64 then some (.int (i ^ j.toNat)) else none
 | _,_=>none
def Bd:T→T→Option T
 | .int i,.int j=>if 0≤j∧j≤64 then some (.int (i / 2 ^ j.toNat)) else none
 | _,_=>none
def yc:T→Option T
 | .int i=>some (.int (-i))
 | _=>none
@[simp] theorem C9(i:Int):yc (.int i)=some (.int (-i)):=(rfl)
def fLt:T→T→Option T
 | .int i,.int j=>some (.bl (decide (i<j)))
 | _,_=>none
def fLe:T→T→Option T
 | .int i,.int j=>some (.bl (decide (i≤j)))
 | _,_=>none
def fGt:T→T→Option T
 | .int i,.int j=>some (.bl (decide (j<i)))
 | _,_=>none
def fGe:T→T→Option T
 | .int i,.int j=>some (.bl (decide (j≤i)))
 | _,_=>none
@[simp] theorem FJ(i j:Int):fLt (.int i) (.int j)=some (.bl (decide (i<j))):=(rfl)
@[simp] theorem FK(i j:Int):fLe (.int i) (.int j)=some (.bl (decide (i≤j))):=(rfl)
@[simp] theorem og(i j:Int):fGt (.int i) (.int j)=some (.bl (decide (j<i))):=(rfl)
@[simp] theorem FL(i j:Int):fGe (.int i) (.int j)=some (.bl (decide (j≤i))):=(rfl)
mutual
def eqT:T→T→Bool
 | .non,.non=>true
 | .bl a,.bl b=>a==b
 | .bl a,.int b=>(if a then 1 else 0)==b
 | .int a,.bl b=>a==(if b then 1 else 0)
 | .int a,.int b=>a==b
 | .str a,.str b=>a==b
 | .lst a,.lst b=>jL a b
 | .tup a,.tup b=>jL a b
 | _,_=>false
def jL:List T→List T→Bool
 | [],[]=>true
 | a::as,b::bs=>eqT a b && jL as bs
 | [],_::_=>false
 | _::_,[]=>false
end
mutual
def okT:Nat→T→Bool
 | _,.non=>true
 | _,.bl _=>true
 | _,.int _=>true
 | _,.str x=>x.cps.all (·<1114112)
 | 0,.lst _=>false
 | n+1,.lst ts=>j0 n ts
 | 0,.tup _=>false
 | n+1,.tup ts=>j0 n ts
 | _,.dct _=>false
 | _,.exc _ _=>false
 | _,.dtt _ _=>false
def j0:Nat→List T→Bool
 | _,[]=>true
 | n,t::ts=>okT n t && j0 n ts
end
def fEq(t u:T):Option T:=match t,u with
 | .str a,.str b=>some (.bl (a==b))
 | t,u=>if okT 100 t=true∧okT 100 u=true then some (.bl (eqT t u)) else none
def fNe(t u:T):Option T:=match t,u with
 | .str a,.str b=>some (.bl (!(a==b)))
 | t,u=>if okT 100 t=true∧okT 100 u=true then some (.bl (!eqT t u)) else none
@[simp] theorem FO(n:Nat)(i:Int):okT n (.int i)=true:=by unfold okT;rfl
@[simp] theorem MQ(n:Nat)(ts:List T):okT (n+1) (.lst ts)=j0 n ts:=by rw[okT]
@[simp] theorem FP(n:Nat)(ts:List T):okT (n+1) (.tup ts)=j0 n ts:=by rw[okT]
@[simp] theorem C_(n:Nat):j0 n []=true:=by rw[j0]
@[simp] theorem pA(n:Nat)(t:T)(ts:List T):j0 n (t::ts)=(okT n t && j0 n ts):=by rw[j0]
theorem wB(n:Nat):∀ts:List T,j0 n ts=true↔∀t∈ts,okT n t=true
 | []=>by simp
 | t::ts=>by simp[wB n ts]
@[simp] theorem J9(n:Nat)(ns:List Int):j0 n (ns.map T.int)=true:=by
 rw[wB]
 intro t ht
 obtain⟨i,_,rfl⟩:=List.mem_map.mp ht
 simp
@[simp] theorem zP(i j:Int):eqT (.int i) (.int j)=(i==j):=by rw[eqT]
@[simp] theorem MR(i j:Str):eqT (.str i) (.str j)=(i==j):=by rw[eqT]
@[simp] theorem Nx(i j:Bool):eqT (.bl i) (.bl j)=(i==j):=by rw[eqT]
@[simp] theorem MS:eqT .non .non=true:=by rw[eqT]
@[simp] theorem FQ(i j:List T):eqT (.lst i) (.lst j)=jL i j:=by rw[eqT]
@[simp] theorem FR(i j:List T):eqT (.tup i) (.tup j)=jL i j:=by rw[eqT]
@[simp] theorem Lb:jL [] []=true:=by rw[jL]
@[simp] theorem J_(a b:T)(as bs:List T):jL (a::as) (b::bs)=(eqT a b && jL as bs):=by rw[jL]
@[simp] theorem MT(b:T)(bs:List T):jL [] (b::bs)=false:=by rw[jL]
@[simp] theorem MU(b:T)(bs:List T):jL (b::bs) []=false:=by rw[jL]
mutual
theorem wC:∀(n:Nat) (t:T),okT n t=true→eqT t t=true
 | n,.non,_=>by simp
 | n,.bl b,_=>by simp
 | n,.int i,_=>by simp
 | n,.str x,_=>by simp
 | 0,.lst ts,h=>by rw[okT] at h;cases h
 | n+1,.lst ts,h=>by simp only[FQ];exact pB n ts (by simpa using h)
 | 0,.tup ts,h=>by rw[okT] at h;cases h
 | n+1,.tup ts,h=>by simp only[FR];exact pB n ts (by simpa using h)
 | n,.dct _,h=>by unfold okT at h;cases h
 | n,.exc _ _,h=>by unfold okT at h;cases h
 | n,.dtt _ _,h=>by unfold okT at h;cases h
theorem pB:∀(n:Nat) (ts:List T),j0 n ts=true→jL ts ts=true
 | n,[],_=>by simp
 | n,t::ts,h=>by
  simp only[pA,Bool.and_eq_true] at h
  simp[wC n t h.1,pB n ts h.2]
end
theorem pC:∀(xs ys:List Int),jL (xs.map T.int) (ys.map T.int)=(xs==ys)
 | [],[]=>by simp
 | [],y::ys=>by simp
 | x::xs,[]=>by simp
 | x::xs,y::ys=>by simp[pC xs ys]
theorem yd{t u:T}(h1:okT 100 t=true)(h2:okT 100 u=true):fEq t u=some (.bl (eqT t u)):=by
 unfold fEq
 split
 ·simp
 ·rw[if_pos ⟨h1,h2⟩]
theorem Dc{t u:T}(h1:okT 100 t=true)(h2:okT 100 u=true):fNe t u=some (.bl (!eqT t u)):=by
 unfold fNe
 split
 ·simp
 ·rw[if_pos ⟨h1,h2⟩]
@[simp] theorem FT(i j:Int):fEq (.int i) (.int j)=some (.bl (i==j)):=by rw[yd (by simp) (by simp)];simp
@[simp] theorem zQ(i j:Int):fNe (.int i) (.int j)=some (.bl (!(i==j))):=by rw[Dc (by simp) (by simp)];simp
@[simp] theorem FU(i j:Str):fEq (.str i) (.str j)=some (.bl (i==j)):=(rfl)
@[simp] theorem FV(i j:Str):fNe (.str i) (.str j)=some (.bl (!(i==j))):=(rfl)
@[simp] theorem qL(xs ys:List Int):fEq (.lst (xs.map T.int)) (.lst (ys.map T.int))=some (.bl (xs==ys)):=by rw[yd (by simp) (by simp)];simp[pC]
@[simp] theorem qM(xs ys:List Int):fNe (.lst (xs.map T.int)) (.lst (ys.map T.int))=some (.bl (!(xs==ys))):=by rw[Dc (by simp) (by simp)];simp[pC]
def j3:T→Option T
 | .non=>some (.bl true)
 | _=>some (.bl false)
def Ja:T→T→Option T
 | .lst xs,.int i=>atI xs i
 | .tup xs,.int i=>atI xs i
 | .str x,.int i=>if x.length≤szL then (atI x.cps.toList i).map λc=>.str ⟨#[c]⟩ else none
 | _,_=>none
def pick:Sum T Nat→SV
 | .inl t=>.val t
 | .inr k=>.cel k
def lq(μ:ah)(x:SV)(u:T):Option SV:=match x,u with
 | .box xs,.int i=>(atI xs i).map pick
 | .box _,_=>none
 | x,u=>ap1 (λt=>Ja t u) (rd μ x)
def aw(a b:D):D:=λe μ=>(a e μ).bind λx μ1=>(b e μ1).bind λy μ2=>R.lift ((rd μ2 y).bind λu=>lq μ2 x u) μ2
@[simp] theorem km(a b:D)(e:Slots)(μ:ah):aw a b e μ=(a e μ).bind λx μ1=>(b e μ1).bind λy μ2=>R.lift ((rd μ2 y).bind λu=>lq μ2 x u) μ2:=(rfl)
@[simp] theorem lG(μ:ah)(xs:List T)(i:Int):lq μ (.val (.lst xs)) (.int i)=(atI xs i).map SV.val:=(rfl)
@[simp] theorem oh(μ:ah)(xs:List T)(i:Int):lq μ (.val (.tup xs)) (.int i)=(atI xs i).map SV.val:=(rfl)
@[simp] theorem Dd(μ:ah)(xs:List (Sum T Nat))(i:Int):lq μ (.box xs) (.int i)=(atI xs i).map pick:=(rfl)
@[simp] theorem De(μ:ah)(k:Nat)(u:T):lq μ (.cel k) u=ap1 (λt=>Ja t u) (rd μ (.cel k)):=(rfl)
def Jb:T→Option T
 | .lst xs=>some (.int xs.length)
 | .tup xs=>some (.int xs.length)
 | .str x=>if x.length≤szL then some (.int x.length) else none
 | .dct kts=>some (.int kts.length)
 | _=>none
def mM(μ:ah):SV→Option T
 | .box xs=>some (.int xs.length)
 | x=>(rd μ x).bind Jb
def fV(a:D):D:=λe μ=>(a e μ).bind λx μ1=>R.lift ((mM μ1 x).map SV.val) μ1
@[simp] theorem zR(a:D)(e:Slots)(μ:ah):fV a e μ=(a e μ).bind λx μ1=>R.lift ((mM μ1 x).map SV.val) μ1:=(rfl)
@[simp] theorem lH(μ:ah)(xs:List T):mM μ (.val (.lst xs))=some (.int xs.length):=(rfl)
@[simp] theorem Df(μ:ah)(xs:List T):mM μ (.val (.tup xs))=some (.int xs.length):=(rfl)
@[simp] theorem Dg(μ:ah)(k:Nat):mM μ (.cel k)=(rd μ (.cel k)).bind Jb:=(rfl)
inductive Kd where
 | int|bool|str|list|tuple|dict
def dR:T→Option T
 | .lst xs=>some (.tup xs)
 | .tup xs=>some (.tup xs)
 | _=>none
@[simp] theorem qN(xs:List T):dR (.lst xs)=some (.tup xs):=(rfl)
@[simp] theorem ye(xs:List T):dR (.tup xs)=some (.tup xs):=(rfl)
def j4:T→Option T
 | .lst xs=>some (.lst xs)
 | .tup xs=>some (.lst xs)
 | _=>none
def wD:Key→T
 | .inl i=>.int i
 | .inr x=>.str x
def zS:T→Option T
 | .dct kts=>some (.lst (kts.map λp=>wD p.1))
 | _=>none
@[simp] theorem Be(xs:List T):j4 (.lst xs)=some (.lst xs):=(rfl)
def yf{α:Type}(xs:List α)(lo hi:Option Int):List α:=(xs.drop (sIx xs.length 0 lo)).take (sIx xs.length xs.length hi-sIx xs.length 0 lo)
def lI:T→Option Int
 | .int i=>some i
 | _=>none
@[simp] theorem pD(i:Int):lI (.int i)=some i:=(rfl)
def gj:List T→Option (List Int)
 | []=>some []
 | t::ts=>(lI t).bind λi=>(gj ts).map λis=>i::is
theorem ko(ns:List Int):gj (ns.map T.int)=some ns:=by
 induction ns with
 | nil=>rfl
 | cons n ns ih=>simp[gj,ih]
def mZ:T→Option T
 | .lst xs=>(gj xs).map λis=>.int is.sum
 | _=>none
@[simp] theorem Bf(ns:List Int):mZ (.lst (ns.map T.int))=some (.int ns.sum):=by simp[mZ,ko]
def qO:List T→Option (List Bool)
 | []=>some []
 | .bl b::ts=>(qO ts).map λbs=>b::bs
 | _::_=>none
theorem Bg(bs:List Bool):qO (bs.map T.bl)=some bs:=by
 induction bs with
 | nil=>rfl
 | cons n ns ih=>simp[qO,ih]
def Bh:T→Option T
 | .lst xs=>(qO xs).map λbs=>.bl (bs.all id)
 | _=>none
@[simp] theorem Dh(bs:List Bool):Bh (.lst (bs.map T.bl))=some (.bl (bs.all id)):=by simp[Bh,Bg]
def gk:T→Option T
 | .non=>some (.bl false)
 | _=>some (.bl true)
@[simp] theorem Ka:j3 .non=some (.bl true):=(rfl)
@[simp] theorem ug(i:Int):j3 (.int i)=some (.bl false):=(rfl)
@[simp] theorem yg:gk .non=some (.bl false):=(rfl)
@[simp] theorem qP(i:Int):gk (.int i)=some (.bl true):=(rfl)
def FW(t:T)(lo hi:Option Int):Option T:=match t with
 | .lst xs=>some (.lst (yf xs lo hi))
 | .tup xs=>if sIx xs.length 0 lo=0∧sIx xs.length xs.length hi=xs.length then none else some (.tup (yf xs lo hi))
 | _=>none
def yh(o:Option D)(e:Slots)(μ:ah):R (Option Int):=match o with
 | none=>.ok none μ
 | some d=>(d e μ).bind λx μ1=>(R.lift ((rd μ1 x).bind lI) μ1).bind λi μ1=>.ok (some i) μ1
@[simp] theorem uh(e:Slots)(μ:ah):yh none e μ=.ok none μ:=(rfl)
@[simp] theorem ui(d:D)(e:Slots)(μ:ah):yh (some d) e μ=(d e μ).bind λx μ1=>(R.lift ((rd μ1 x).bind lI) μ1).bind λi μ1=>.ok (some i) μ1:=(rfl)
def yi(a:D)(lo hi:Option D):D:=λe μ=>(a e μ).bind λx μ1=>(yh lo e μ1).bind λl μ2=>(yh hi e μ2).bind λh μ3=>R.lift (ap1 (λt=>FW t l h) (rd μ3 x)) μ3
@[simp] theorem zT(a:D)(lo hi:Option D)(e:Slots)(μ:ah):yi a lo hi e μ=(a e μ).bind λx μ1=>(yh lo e μ1).bind λl μ2=>(yh hi e μ2).bind λh μ3=>R.lift (ap1 (λt=>FW t l h) (rd μ3 x)) μ3:=(rfl)
inductive RS where
 | nx (e:Slots) (μ:ah)|rt (x:SV) (μ:ah)|bk (e:Slots) (μ:ah)|ct (e:Slots) (μ:ah)|err (c:T) (e:Slots) (μ:ah)|bad
noncomputable abbrev DS := Slots → ah → RS
def R.toS{α:Type}(x:R α)(e:Slots)(f:α→ah→RS):RS:=match x with
 | .ok a μ=>f a μ
 | .err c μ=>.err c e μ
 | .bad=>.bad
@[simp] theorem R.cK{α:Type}(a:α)(e:Slots)(μ:ah)(f:α→ah→RS):(R.ok a μ).toS e f=f a μ:=(rfl)
@[simp] theorem R.FX{α:Type}(c:T)(e:Slots)(μ:ah)(f:α→ah→RS):(R.err c μ:R α).toS e f=.err c e μ:=(rfl)
def RS.seq(r:RS)(f:Slots→ah→RS):RS:=match r with
 | .nx e μ=>f e μ
 | r=>r
@[simp] theorem RS.jM(e:Slots)(μ:ah)(f:Slots→ah→RS):(RS.nx e μ).seq f=f e μ:=(rfl)
@[simp] theorem RS.Jc(x:SV)(μ:ah)(f:Slots→ah→RS):(RS.rt x μ).seq f=.rt x μ:=(rfl)
def b_:DS:=λe μ=>.nx e μ
def ax(a b:DS):DS:=λe μ=>(a e μ).seq b
def Lc(d:D):DS:=λe μ=>(d e μ).toS e λ_ μ1=>.nx e μ1
def aC(i:Nat)(d:D):DS:=λe μ=>(d e μ).toS e λx μ1=>.nx (e.set i (some x)) μ1
def aH(d:D):DS:=λe μ=>(d e μ).toS e λx μ1=>.rt x μ1
def sIf(c:D)(a b:DS):DS:=λe μ=>(c e μ).toS e λx μ1=>(R.lift (asB x) μ1).toS e λk μ1=>if k=true then a e μ1 else b e μ1
def Jd:DS:=λ_ _=>.bad
@[simp] theorem FY(e:Slots)(μ:ah):b_ e μ=.nx e μ:=(rfl)
@[simp] theorem js(a b:DS)(e:Slots)(μ:ah):ax a b e μ=(a e μ).seq b:=(rfl)
@[simp] theorem Di(d:D)(e:Slots)(μ:ah):Lc d e μ=(d e μ).toS e λ_ μ1=>.nx e μ1:=(rfl)
@[simp] theorem kq(i:Nat)(d:D)(e:Slots)(μ:ah):aC i d e μ=(d e μ).toS e λx μ1=>.nx (e.set i (some x)) μ1:=(rfl)
@[simp] theorem uZ(d:D)(e:Slots)(μ:ah):aH d e μ=(d e μ).toS e λx μ1=>.rt x μ1:=(rfl)
@[simp] theorem yj(c:D)(a b:DS)(e:Slots)(μ:ah):sIf c a b e μ=(c e μ).toS e λx μ1=>(R.lift (asB x) μ1).toS e λk μ1=>if k=true then a e μ1 else b e μ1:=(rfl)
def appendAt(x:SV)(t:T)(μ:ah):Option ah:=match x with
 | .cel k=>match μ[k]? with
  | some (true,.lst ts)=>if ts.length<szL then some (μ.set k (true,.lst (ts++[t]))) else none
  | _=>none
 | _=>none
def oi(x:SV)(μ:ah):Option Unit:=match x with
 | .cel k=>match μ[k]? with
  | some (_,.lst _)=>some ()
  | _=>none
 | _=>none
theorem zU{μ:ah}{k:Nat}{b:Bool}{ts:List T}(h:μ[k]?=some (b,.lst ts)):oi (.cel k) μ=some ():=by unfold oi;simp only[h]
def ee(o d:D):DS:=λe μ=>(o e μ).toS e λx μ0=>(R.lift (oi x μ0) μ0).toS e λ_ μ0=>(d e μ0).toS e λy μ1=>(frz y μ1).toS e λt μ2=>(R.lift (appendAt x t μ2) μ2).toS e λμ3 _=>.nx e μ3
@[simp] theorem qQ(o d:D)(e:Slots)(μ:ah):ee o d e μ=(o e μ).toS e λx μ0=>(R.lift (oi x μ0) μ0).toS e λ_ μ0=>(d e μ0).toS e λy μ1=>(frz y μ1).toS e λt μ2=>(R.lift (appendAt x t μ2) μ2).toS e λμ3 _=>.nx e μ3:=(rfl)
def setAt(x:SV)(k:T)(t:T)(μ:ah):Option ah:=match x,k with
 | .cel c,.int i=>match μ[c]? with
  | some (true,.lst ts)=>(ixN ts.length i).map λj=>μ.set c (true,.lst (ts.set j t))
  | _=>none
 | _,_=>none
def bG(i:Nat)(dk dv:D):DS:=λe μ=>(dv e μ).toS e λy μ1=>(R.lift (slot e i) μ1).toS e λx μ1=>(dk e μ1).toS e λz μ2=>(R.lift (rd μ2 z) μ2).toS e λk μ2 =>
 (frz y μ2).toS e λt μ3=>(R.lift (setAt x k t μ3) μ3).toS e λμ4 _=>.nx e μ4
@[simp] theorem p6(i:Nat)(dk dv:D)(e:Slots)(μ:ah):bG i dk dv e μ=(dv e μ).toS e λy μ1=>(R.lift (slot e i) μ1).toS e λx μ1=>(dk e μ1).toS e λz μ2=>(R.lift (rd μ2 z) μ2).toS e λk μ2 =>
 (frz y μ2).toS e λt μ3=>(R.lift (setAt x k t μ3) μ3).toS e λμ4 _=>.nx e μ4:=(rfl)
structure Wk where
 items:List T
 same:ah→Prop
noncomputable abbrev DI := Slots → ah → R Wk
def bg:T→Option (List T)
 | .lst ts=>some ts
 | .tup ts=>some ts
 | _=>none
@[simp] theorem iR(ts:List T):bg (.lst ts)=some ts:=(rfl)
@[simp] theorem u0(ts:List T):bg (.tup ts)=some ts:=(rfl)
def fh(d:D):DI:=λe μ=>(d e μ).bind λx μ1=>(R.lift ((rd μ1 x).bind bg) μ1).bind λts μ1=>.ok ⟨ts,λμ'=>rd μ' x=rd μ1 x⟩ μ1
@[simp] theorem u3(d:D)(e:Slots)(μ:ah):fh d e μ=(d e μ).bind λx μ1=>(R.lift ((rd μ1 x).bind bg) μ1).bind λts μ1=>.ok ⟨ts,λμ'=>rd μ' x=rd μ1 x⟩ μ1:=(rfl)
def bq(lo:Int):Nat→List T
 | 0=>[]
 | n+1=>.int lo::bq (lo+1) n
def eO(j:Int):Bool:=decide (-(2 ^ 62)≤j) && decide (j<2 ^ 62)
@[simp] theorem cZ{j:Int}(h0:0≤j)(h1:j≤1000000):eO j=true:=by
 unfold eO
 rw[decide_eq_true (by lia),decide_eq_true (by lia)];rfl
theorem Bi{j:Int}(h:eO j=true):-(2 ^ 62)≤j∧j<2 ^ 62:=by
 unfold eO at h
 simp only[Bool.and_eq_true,decide_eq_true_eq] at h
 exact h
def aV(d:D):DI:=λe μ=>(d e μ).bind λx μ1=>(R.lift ((rd μ1 x).bind lI) μ1).bind λj μ1=>if eO j=true then .ok ⟨bq 0 j.toNat,λ_=>True⟩ μ1 else .bad
def FZ(d d':D):DI:=λe μ=>(d e μ).bind λx μ1=>(d' e μ1).bind λy μ2=>(R.lift ((rd μ2 x).bind lI) μ2).bind λi μ2=>(R.lift ((rd μ2 y).bind lI) μ2).bind λj μ2 =>
 if (eO i && eO j)=true then .ok ⟨bq i (j-i).toNat,λ_=>True⟩ μ2 else .bad
@[simp] theorem qR(d:D)(e:Slots)(μ:ah):aV d e μ=(d e μ).bind λx μ1=>(R.lift ((rd μ1 x).bind lI) μ1).bind λj μ1=>if eO j=true then .ok ⟨bq 0 j.toNat,λ_=>True⟩ μ1 else .bad:=(rfl)
@[simp] theorem yk(d d':D)(e:Slots)(μ:ah):FZ d d' e μ=(d e μ).bind λx μ1=>(d' e μ1).bind λy μ2=>(R.lift ((rd μ2 x).bind lI) μ2).bind λi μ2=>(R.lift ((rd μ2 y).bind lI) μ2).bind λj μ2 =>
 if (eO i && eO j)=true then .ok ⟨bq i (j-i).toNat,λ_=>True⟩ μ2 else .bad:=(rfl)
def g_:List T→List T→List T
 | t::ts,u::us=>.tup [t,u]::g_ ts us
 | _,_=>[]
def pE(d d':D):DI:=λe μ=>(d e μ).bind λx μ1=>(d' e μ1).bind λy μ2=>(R.lift ((rd μ2 x).bind bg) μ2).bind λts μ2=>(R.lift ((rd μ2 y).bind bg) μ2).bind λus μ2 =>
 .ok ⟨g_ ts us,λμ'=>rd μ' x=rd μ2 x∧rd μ' y=rd μ2 y⟩ μ2
@[simp] theorem F_(d d':D)(e:Slots)(μ:ah):pE d d' e μ=(d e μ).bind λx μ1=>(d' e μ1).bind λy μ2=>(R.lift ((rd μ2 x).bind bg) μ2).bind λts μ2=>(R.lift ((rd μ2 y).bind bg) μ2).bind λus μ2 =>
 .ok ⟨g_ ts us,λμ'=>rd μ' x=rd μ2 x∧rd μ' y=rd μ2 y⟩ μ2:=(rfl)
noncomputable abbrev BD := T → Slots → Option Slots
def aD(i:Nat):BD:=λt e=>some (e.set i (some (.val t)))
def cR(is:List Nat):BD:=λt e=>match t with
 | .tup ts=>if ts.length=is.length then some ((is.zip ts).foldl (λe p=>e.set p.1 (some (.val p.2))) e) else none
 | _=>none
@[simp] theorem lJ(i:Nat)(t:T)(e:Slots):aD i t e=some (e.set i (some (.val t))):=(rfl)
@[simp] theorem dS(i j:Nat)(t u:T)(e:Slots):cR [i,j] (.tup [t,u]) e=some ((e.set i (some (.val t))).set j (some (.val u))):=(rfl)
open Classical in
def forL(same:ah→Prop)(b:BD)(body:DS):List T→Slots→ah→RS
 | [],e,μ=>if same μ then .nx e μ else .bad
 | t::ts,e,μ=>if same μ then
   match b t e with
   | none=>.bad
   | some e1=>match body e1 μ with
    | .nx e2 μ2=>forL same b body ts e2 μ2
    | .ct e2 μ2=>forL same b body ts e2 μ2
    | .bk e2 μ2=>.nx e2 μ2
    | r=>r
  else .bad
def eQ(it:DI)(b:BD)(body:DS):DS:=λe μ=>(it e μ).toS e λW μ1=>forL W.same b body W.items e μ1
@[simp] theorem mF(it:DI)(b:BD)(body:DS)(e:Slots)(μ:ah):eQ it b body e μ=(it e μ).toS e λW μ1=>forL W.same b body W.items e μ1:=(rfl)
def cT(c:D)(body:DS):Nat→Slots→ah→RS
 | 0,_,_=>.bad
 | n+1,e,μ=>(c e μ).toS e λx μ1=>(R.lift (asB x) μ1).toS e λk μ1=>if k=true then
   match body e μ1 with
   | .nx e2 μ2=>cT c body n e2 μ2
   | .ct e2 μ2=>cT c body n e2 μ2
   | .bk e2 μ2=>.nx e2 μ2
   | r=>r
  else .nx e μ1
open Classical in
def m7(c:D)(body:DS):DS:=λe μ=>if h:∃n,cT c body n e μ≠.bad then cT c body h.choose e μ else .bad
open Classical in
def bU(same:ah→Prop)(b:BD)(c:D)(d:D)(e:Slots):List T→ah→R (List T)
 | [],μ=>if same μ then .ok [] μ else .bad
 | t::ts,μ=>if same μ then
   match b t e with
   | none=>.bad
   | some e1=>(c e1 μ).calm.bind λx μ1=>(R.lift (asB x) μ1).bind λk μ1 =>
    if k=true then (d e1 μ1).calm.bind λy μ2=>(frz y μ2).bind λu μ3=>(bU same b c d e ts μ3).bind λus μ4=>.ok (u::us) μ4
    else bU same b c d e ts μ1
  else .bad
def ini(mp:List (Option Nat))(e:Slots):Slots:=mp.map λo=>o.bind λj=>slot e j
def aT(it:DI)(mp:List (Option Nat))(b:BD)(c:D)(d:D):D:=λe μ=>(it e μ).bind λW μ1=>(bU W.same b c d (ini mp e) W.items μ1).calm.bind λus μ2 =>
 if W.items.length≤szL then .ok (.val (.lst us)) μ2 else .bad
@[simp] theorem Dj(it:DI)(mp:List (Option Nat))(b:BD)(c:D)(d:D)(e:Slots)(μ:ah):aT it mp b c d e μ=(it e μ).bind λW μ1=>(bU W.same b c d (ini mp e) W.items μ1).calm.bind λus μ2 =>
 if W.items.length≤szL then .ok (.val (.lst us)) μ2 else .bad:=(rfl)
@[simp] theorem Ga(e:Slots):ini [] e=[]:=(rfl)
@[simp] theorem Dk(mp:List (Option Nat))(e:Slots):ini (none::mp) e=none::ini mp e:=(rfl)
@[simp] theorem Dl(j:Nat)(mp:List (Option Nat))(e:Slots):ini (some j::mp) e=slot e j::ini mp e:=(rfl)
def gc(n:Nat)(x:SV)(μ:ah):R SV:=match x with
 | .val t=>.ok (.val t) (μ.take n)
 | .cel k=>if k<n then .ok (.cel k) (μ.take n) else match μ[k]? with
  | some c=>.ok (.cel n) (μ.take n++[c])
  | none=>.bad
 | .box _=>.bad
def starts(m:Nat)(xs:List SV):Slots:=xs.map some++List.replicate (m-xs.length) none
def RS.Je(n:Nat):RS→R SV
 | .rt x μ'=>gc n x μ'
 | .nx _ μ'=>gc n (.val .non) μ'
 | .err c _ μ'=>.err c (μ'.take n)
 | _=>.bad
def fnD(m:Nat)(body:DS):FN:=λxs μ=>(body (starts m xs) μ).Je μ.length
def ice(n:Nat)(x:SV)(μ:ah):R SV:=(frz x μ).bind λt μ1=>.ok (.val t) (μ1.take n)
def RS.qS(n:Nat):RS→R SV
 | .rt x μ'=>ice n x μ'
 | .nx _ μ'=>ice n (.val .non) μ'
 | .err c _ μ'=>.err c (μ'.take n)
 | _=>.bad
def fnV(m:Nat)(body:DS):FN:=λxs μ=>(body (starts m xs) μ).qS μ.length
def RS.m8:RS→R SV
 | .rt x μ'=>.ok x μ'
 | .nx _ μ'=>.ok (.val .non) μ'
 | .err c _ μ'=>.err c μ'
 | _=>.bad
def fnK(m:Nat)(body:DS):FN:=λxs μ=>(body (starts m xs) μ).m8
@[simp] theorem oj(n:Nat)(x:SV)(μ:ah):(RS.rt x μ).qS n=ice n x μ:=(rfl)
@[simp] theorem Gb(n:Nat)(x:SV)(μ:ah):(RS.rt x μ).Je n=gc n x μ:=(rfl)
@[simp] theorem u4(x:SV)(μ:ah):(RS.rt x μ).m8=.ok x μ:=(rfl)
@[simp] theorem hU(m:Nat)(body:DS)(xs:List SV)(μ:ah):fnV m body xs μ=(body (starts m xs) μ).qS μ.length:=(rfl)
@[simp] theorem m9(m:Nat)(body:DS)(xs:List SV)(μ:ah):fnD m body xs μ=(body (starts m xs) μ).Je μ.length:=(rfl)
@[simp] theorem kr(m:Nat)(body:DS)(xs:List SV)(μ:ah):fnK m body xs μ=(body (starts m xs) μ).m8:=(rfl)
end Fw
namespace Fw
open PySem L2
def ExcAt(K:PySem.W.Frag)(a:Addr)(c:Str)(t:Option Str)(h:Heap):Prop:=∃C,PySem.W.nsIn K mainGlobals c=some (some (.ref C))∧IX a C h
def kvT(kts:List (List Int×Bool)):List (List Key×V):=kts.map λp=>(p.1.map Sum.inl,V.bl p.2)
section
variable(K:PySem.W.Frag)(F:Hp)
mutual
def Rep:T→V→Prop
 | .non,v=>v=.non
 | .bl b,v=>v=.bl b
 | .int i,v=>v=.int i
 | .str x,v=>v=.str x
 | .lst ts,v=>∃a vs,v=.ref a∧SqL K F a vs∧aG ts vs
 | .tup ts,v=>∃a vs,v=.ref a∧SqT K F a vs∧aG ts vs
 | .dct kts,v=>∃a kvs,v=.ref a∧F a=some (.dK kvs)∧bx kts kvs
 | .exc c t,v=>∃a,v=.ref a∧F a=some (.ext (ExcAt K a c t))
 | .dtt fz kts,v=>∃a,v=.ref a∧((fz=false∧F a=some (.dT (kvT kts)))∨(fz=true∧∃o,F a=some (.frz o (.dT (kvT kts)))))
def aG:List T→List V→Prop
 | [],vs=>vs=[]
 | t::ts,vs=>∃v vs',vs=v::vs'∧Rep t v∧aG ts vs'
def bx:List (Key×T)→List (Key×V)→Prop
 | [],kvs=>kvs=[]
 | (k,t)::kts,kvs=>∃v pF,kvs=(k,v)::pF∧Rep t v∧bx kts pF
end
end
theorem aU.lu{K:PySem.W.Frag}{H H':Hp}{a:Addr}{xs:List V}(e:aU H H')(h:SqT K H a xs):SqT K H' a xs:=e _ _ h
section
variable{K:PySem.W.Frag}{F F' H H':Hp}
mutual
theorem Rep.mono(s:aU F F'):∀(t:T) (v:V),Rep K F t v→Rep K F' t v
 | .non,v,h=>by rw[Rep] at h ⊢;exact h
 | .bl b,v,h=>by rw[Rep] at h ⊢;exact h
 | .int i,v,h=>by rw[Rep] at h ⊢;exact h
 | .str x,v,h=>by rw[Rep] at h ⊢;exact h
 | .lst ts,v,h=>by
  rw[Rep] at h ⊢
  obtain⟨a,vs,e,q,r⟩:=h
  exact⟨a,vs,e,s.seq q,aG.mono s ts vs r⟩
 | .tup ts,v,h=>by
  rw[Rep] at h ⊢
  obtain⟨a,vs,e,q,r⟩:=h
  exact⟨a,vs,e,aU.lu s q,aG.mono s ts vs r⟩
 | .dct kts,v,h=>by
  rw[Rep] at h ⊢
  obtain⟨a,vs,e,q,r⟩:=h
  exact⟨a,vs,e,s _ _ q,bx.mono s kts vs r⟩
 | .exc c t,v,h=>by
  rw[Rep] at h ⊢
  obtain⟨a,e,q⟩:=h
  exact⟨a,e,s _ _ q⟩
 | .dtt fz kts,v,h=>by
  rw[Rep] at h ⊢
  obtain⟨a,e,q⟩:=h
  exact⟨a,e,q.elim (λz=>.inl ⟨z.1,s _ _ z.2⟩) λ⟨z,o,y⟩=>.inr ⟨z,o,s _ _ y⟩⟩
theorem aG.mono(s:aU F F'):∀(ts:List T) (vs:List V),aG K F ts vs→aG K F' ts vs
 | [],vs,h=>by rw[aG] at h ⊢;exact h
 | t::ts,vs,h=>by
  rw[aG] at h ⊢
  obtain⟨v,vs',e,q,r⟩:=h
  exact⟨v,vs',e,Rep.mono s t v q,aG.mono s ts vs' r⟩
theorem bx.mono(s:aU F F'):∀(kts:List (Key×T)) (kvs:List (Key×V)),bx K F kts kvs→bx K F' kts kvs
 | [],vs,h=>by rw[bx] at h ⊢;exact h
 | (k,t)::ts,vs,h=>by
  rw[bx] at h ⊢
  obtain⟨v,vs',e,q,r⟩:=h
  exact⟨v,vs',e,Rep.mono s t v q,bx.mono s ts vs' r⟩
end
theorem Rep.lK{i:Int}{v:V}(h:Rep K F (.int i) v):v=.int i:=by rw[Rep] at h;exact h
theorem Rep.jt{i:Bool}{v:V}(h:Rep K F (.bl i) v):v=.bl i:=by rw[Rep] at h;exact h
theorem Rep.m_{i:Str}{v:V}(h:Rep K F (.str i) v):v=.str i:=by rw[Rep] at h;exact h
theorem Rep.ku{v:V}(h:Rep K F .non v):v=.non:=by rw[Rep] at h;exact h
theorem Rep.ip(i:Int):Rep K F (.int i) (.int i):=by rw[Rep]
theorem Rep.bl'(i:Bool):Rep K F (.bl i) (.bl i):=by rw[Rep]
theorem Rep.Gd(i:Str):Rep K F (.str i) (.str i):=by rw[Rep]
theorem Rep.Le:Rep K F .non .non:=by rw[Rep]
theorem aG.length:∀{ts:List T}{vs:List V},aG K F ts vs→ts.length=vs.length
 | [],vs,h=>by rw[aG] at h;subst h;rfl
 | t::ts,vs,h=>by
  rw[aG] at h
  obtain⟨v,vs',rfl,_,r⟩:=h
  rw[List.length_cons,List.length_cons,aG.length r]
theorem aG.get:∀{ts:List T}{vs:List V}{i:Nat}{t:T},aG K F ts vs→ts[i]?=some t→∃v,vs[i]?=some v∧Rep K F t v
 | [],_,_,_,_,e=>by simp at e
 | t::ts,vs,0,t',h,e=>by
  rw[aG] at h
  obtain⟨v,vs',rfl,q,_⟩:=h
  simp at e;subst e
  exact⟨v,rfl,q⟩
 | t::ts,vs,i+1,t',h,e=>by
  rw[aG] at h
  obtain⟨v,vs',rfl,q,r⟩:=h
  obtain⟨v',h1,h2⟩:=aG.get (i:=i) r (by simpa using e)
  exact⟨v',by simpa using h1,h2⟩
theorem aG.append:∀{ts us:List T}{vs ws:List V},aG K F ts vs→aG K F us ws→aG K F (ts++us) (vs++ws)
 | [],us,vs,ws,h,g=>by rw[aG] at h;subst h;exact g
 | t::ts,us,vs,ws,h,g=>by
  rw[aG] at h
  obtain⟨v,vs',rfl,q,r⟩:=h
  rw[List.cons_append,List.cons_append,aG]
  exact⟨v,vs'++ws,rfl,q,r.append g⟩
theorem aG.lL:aG K F [] []:=by rw[aG]
theorem aG.gm{t:T}{v:V}{ts:List T}{vs:List V}(q:Rep K F t v)(r:aG K F ts vs):aG K F (t::ts) (v::vs):=by rw[aG];exact⟨v,vs,rfl,q,r⟩
theorem aG.one{t:T}{v:V}(q:Rep K F t v):aG K F [t] [v]:=.gm q .lL
theorem aG.take:∀{ts:List T}{vs:List V} (n:Nat),aG K F ts vs→aG K F (ts.take n) (vs.take n)
 | _,_,0,_=>by simpa using aG.lL
 | [],vs,n+1,h=>by rw[aG] at h;subst h;simpa using aG.lL
 | t::ts,vs,n+1,h=>by
  rw[aG] at h
  obtain⟨v,vs',rfl,q,r⟩:=h
  exact .gm q (r.take n)
theorem aG.drop:∀{ts:List T}{vs:List V} (n:Nat),aG K F ts vs→aG K F (ts.drop n) (vs.drop n)
 | _,_,0,h=>by simpa using h
 | [],vs,n+1,h=>by rw[aG] at h;subst h;simpa using aG.lL
 | t::ts,vs,n+1,h=>by
  rw[aG] at h
  obtain⟨v,vs',rfl,q,r⟩:=h
  exact r.drop n
theorem aG.set:∀{ts:List T}{vs:List V} (i:Nat) {t:T}{v:V},aG K F ts vs→Rep K F t v→aG K F (ts.set i t) (vs.set i v)
 | [],vs,i,_,_,h,_=>by rw[aG] at h;subst h;simpa using aG.lL
 | t::ts,vs,0,t',v',h,g=>by
  rw[aG] at h
  obtain⟨v,vs',rfl,q,r⟩:=h
  exact .gm g r
 | t::ts,vs,i+1,t',v',h,g=>by
  rw[aG] at h
  obtain⟨v,vs',rfl,q,r⟩:=h
  exact .gm q (r.set i g)
theorem aG.flat{ts:List T}{vs:List V}(h:aG K F ts vs):∀k:Nat,aG K F (List.replicate k ts).flatten (List.replicate k vs).flatten
 | 0=>by simpa using aG.lL
 | k+1=>by
  rw[List.replicate_succ,List.replicate_succ,List.flatten_cons,List.flatten_cons]
  exact h.append (h.flat k)
theorem aG.zV:∀(ns:List Int),aG K F (ns.map T.int) (ns.map V.int)
 | []=>.lL
 | n::ns=>.gm (Rep.ip n) (aG.zV ns)
def Now(K:PySem.W.Frag)(F H:Hp)(v:V):T→Prop
 | .lst ts=>∃a vs,v=.ref a∧SqL K H a vs∧aG K F ts vs
 | .tup ts=>∃a vs,v=.ref a∧SqT K F a vs∧aG K F ts vs
 | .dct kts=>∃a kvs,v=.ref a∧H a=some (.dK kvs)∧bx K F kts kvs
 | .dtt fz kts=>∃a,v=.ref a∧Rd H a (.dT (kvT kts))
 | t=>Rep K F t v
theorem Now.Dm(s:aU F H){t:T}{v:V}(h:Rep K F t v):Now K F H v t:=by
 cases t with
 | lst ts=>rw[Rep] at h;obtain⟨a,vs,e,q,r⟩:=h;exact⟨a,vs,e,s.seq q,r⟩
 | tup ts=>rw[Rep] at h;obtain⟨a,vs,e,q,r⟩:=h;exact⟨a,vs,e,q,r⟩
 | dct ts=>rw[Rep] at h;obtain⟨a,vs,e,q,r⟩:=h;exact⟨a,vs,e,s _ _ q,r⟩
 | dtt fz ts=>rw[Rep] at h;obtain⟨a,e,q⟩:=h;exact⟨a,e,q.elim (λz=>.inl (s _ _ z.2)) λ⟨_,o,y⟩=>.inr ⟨o,s _ _ y⟩⟩
 | _=>exact h
theorem Now.int{i:Int}{v:V}(h:Now K F H v (.int i)):v=.int i:=Rep.lK (K:=K) (F:=F) h
theorem Now.bl{i:Bool}{v:V}(h:Now K F H v (.bl i)):v=.bl i:=Rep.jt (K:=K) (F:=F) h
theorem Now.str{i:Str}{v:V}(h:Now K F H v (.str i)):v=.str i:=Rep.m_ (K:=K) (F:=F) h
end
def u5(K:PySem.W.Frag)(F:Hp)(α:List Addr)(v:V):Sum T Nat→Prop
 | .inl t=>Rep K F t v
 | .inr k=>∃a,α[k]?=some a∧v=.ref a
def iq(K:PySem.W.Frag)(F:Hp)(α:List Addr)(v:V):SV→Prop
 | .val t=>Rep K F t v
 | .cel k=>∃a,α[k]?=some a∧v=.ref a
 | .box xs=>∃a vs,v=.ref a∧SqT K F a vs∧Paired (u5 K F α) vs xs
def jb(K:PySem.W.Frag)(F H:Hp)(a:Addr):T→Prop
 | .lst ts=>∃vs,H a=some (.lst vs)∧aG K F ts vs
 | .dct kts=>∃kvs,H a=some (.dK kvs)∧bx K F kts kvs
 | .dtt fz kts=>fz=false∧H a=some (.dT (kvT kts))
 | _=>False
def Tps(F H:Hp):Prop:=∀b xs,H b=some (.tup xs)→F b=some (.tup xs)
def NT(o:HO):Prop:=∀xs,o≠.tup xs
theorem Tps.upd{F H:Hp}{p:Addr}{o:HO}(h:Tps F H)(n:NT o):Tps F (upd H p o):=λb xs q=>by
 by_cases e:b=p
 ·subst e;rw[aL] at q;cases q;exact absurd rfl (n _)
 ·rw[aO e] at q;exact h _ _ q
theorem Tps.mono{F F' H:Hp}(h:Tps F H)(s:aU F F'):Tps F' H:=λb xs q=>s _ _ (h b xs q)
theorem jb.nt{K:PySem.W.Frag}{F H:Hp}{a:Addr}{t:T}{o:HO}(c:jb K F (upd H a o) a t):NT o:=λxs e=>by
 subst e
 cases t with
 | lst ts=>obtain⟨vs,h1,_⟩:=c;rw[aL] at h1;cases h1
 | dct ts=>obtain⟨vs,h1,_⟩:=c;rw[aL] at h1;cases h1
 | dtt fz ts=>have h1:=c.2;rw[aL] at h1;cases h1
 | _=>exact c.elim
structure dY(K:PySem.W.Frag)(F:Hp)(α:List Addr)(μ:ah)(H:Hp):Prop where
 ext:aU F H
 len:α.length=μ.length
 nd:α.Nodup
 there:∀(k:Nat) (a:Addr),α[k]?=some a→∃o,H a=some o
 cell:∀(k:Nat) (b:Bool) (t:T) (a:Addr),μ[k]?=some (b,t)→α[k]?=some a→(b=true→F a=none∧jb K F H a t)∧(b=false→Rep K F t (.ref a))
 tps:Tps F H
structure Sim(K:PySem.W.Frag)(F:Hp)(α:List Addr)(e:Slots)(μ:ah)(σ:St)(H:Hp):Prop where
 st:dY K F α μ H
 sl:∀i x,slot e i=some x→∃v,σ[i]?=some (some v)∧iq K F α v x
 len:e.length=σ.length
section
variable{K:PySem.W.Frag}{F F' F2 H H':Hp}{α α':List Addr}{e:Slots}{μ:ah}{σ:St}{v:V}{x:SV}{t:T}
theorem kx{k:Nat}{a:Addr}(p:α <+: α')(h:α[k]?=some a):α'[k]?=some a:=by
 obtain⟨l,rfl⟩:=p
 have hk:k<α.length:=(List.getElem?_eq_some_iff.mp h).1
 rw[List.getElem?_append_left hk];exact h
theorem u5.mono{y:Sum T Nat}(s:aU F F')(p:α <+: α')(h:u5 K F α v y):u5 K F' α' v y:=by
 cases y with
 | inl t=>exact Rep.mono s t v h
 | inr k=>obtain⟨a,h1,h2⟩:=h;exact⟨a,kx p h1,h2⟩
theorem iq.mono(s:aU F F')(p:α <+: α')(h:iq K F α v x):iq K F' α' v x:=by
 cases x with
 | val t=>exact Rep.mono s t v h
 | cel k=>obtain⟨a,h1,h2⟩:=h;exact⟨a,kx p h1,h2⟩
 | box xs=>obtain⟨a,vs,e,q,r⟩:=h;exact⟨a,vs,e,aU.lu s q,Paired.imp' (λ_ _ z=>u5.mono s p z) r⟩
theorem bo(S:dY K F α μ H)(h:iq K F α v x)(r:rd μ x=some t):Now K F H v t:=by
 cases x with
 | val u=>cases r;exact Now.Dm S.ext h
 | cel k =>
  obtain⟨a,h1,rfl⟩:=h
  cases q:μ[k]? with
  | none=>simp[rd,q] at r
  | some c =>
   obtain⟨b,u⟩:=c
   simp only[rd,q,Option.map_some] at r
   cases r
   obtain⟨c1,c2⟩:=S.cell k b t a q h1
   cases b with
   | false=>exact Now.Dm S.ext (c2 rfl)
   | true =>
    obtain⟨_,c⟩:=c1 rfl
    cases t with
    | lst ts=>obtain⟨vs,g1,g2⟩:=c;exact⟨a,vs,rfl,SqL.of g1,g2⟩
    | dct ts=>obtain⟨vs,g1,g2⟩:=c;exact⟨a,vs,rfl,g1,g2⟩
    | dtt fz ts=>exact⟨a,rfl,.inl c.2⟩
    | _=>exact c.elim
 | box xs=>cases r
def bI(F H F' H':Hp):Prop:=∀b,(F' b=F b∧H' b=H b)∨(H b=none∧F' b=H' b)
theorem bI.refl:bI F H F H:=λ_=>.inl ⟨rfl,rfl⟩
theorem bI.new{p:Addr}{o:HO}(h:H p=none):bI F H (upd F p o) (upd H p o):=λb=>by
 by_cases e:b=p
 ·subst e;exact .inr ⟨h,by rw[aL,aL]⟩
 ·exact .inl ⟨aO e,aO e⟩
theorem bI.same(g:bI F H F' H')(s:aU F H):aU F F':=λb o h=>by
 rcases g b with ⟨e1,e2⟩|⟨e1,e2⟩
 ·rw[e1];exact h
 ·rw[s b o h] at e1;cases e1
theorem bI.ext(g:bI F H F' H')(s:aU F H):aU F' H':=λb o h=>by
 rcases g b with ⟨e1,e2⟩|⟨e1,e2⟩
 ·rw[e2];rw[e1] at h;exact s b o h
 ·rw[← e2];exact h
theorem jb.grow(g:bI F H F' H')(s:aU F H){a:Addr}(h:jb K F H a t):jb K F' H' a t:=by
 have keep:∀{o:HO},H a=some o→H' a=some o:=λ{o} h=>by
  rcases g a with ⟨e1,e2⟩|⟨e1,e2⟩
  ·rw[e2];exact h
  ·rw[h] at e1;cases e1
 cases t with
 | lst ts=>obtain⟨vs,h1,h2⟩:=h;exact⟨vs,keep h1,aG.mono (g.same s) _ _ h2⟩
 | dct ts=>obtain⟨vs,h1,h2⟩:=h;exact⟨vs,keep h1,bx.mono (g.same s) _ _ h2⟩
 | dtt fz ts=>exact⟨h.1,keep h.2⟩
 | _=>exact h.elim
theorem jb.there{a:Addr}(h:jb K F H a t):∃o,H a=some o:=by
 cases t with
 | lst ts=>obtain⟨vs,h1,h2⟩:=h;exact⟨_,h1⟩
 | dct ts=>obtain⟨vs,h1,h2⟩:=h;exact⟨_,h1⟩
 | dtt fz ts=>exact⟨_,h.2⟩
 | _=>exact h.elim
theorem dY.grow(S:dY K F α μ H)(g:bI F H F' H'):dY K F' α μ H' where
 ext:=g.ext S.ext
 len:=S.len
 nd:=S.nd
 there:=λk a h=>by
  obtain⟨o,ho⟩:=S.there k a h
  rcases g a with ⟨e1,e2⟩|⟨e1,e2⟩
  ·exact⟨o,by rw[e2];exact ho⟩
  ·rw[ho] at e1;cases e1
 cell:=λk b t a h1 h2=>by
  obtain⟨c1,c2⟩:=S.cell k b t a h1 h2
  refine⟨λhb=>?_,λhb=>Rep.mono (g.same S.ext) _ _ (c2 hb)⟩
  obtain⟨d1,d2⟩:=c1 hb
  refine⟨?_,d2.grow g S.ext⟩
  obtain⟨o,ho⟩:=d2.there
  rcases g a with ⟨e1,e2⟩|⟨e1,e2⟩
  ·rw[e1];exact d1
  ·rw[ho] at e1;cases e1
 tps:=λb xs q=>by
  rcases g b with ⟨e1,e2⟩|⟨e1,e2⟩
  ·rw[e1];rw[e2] at q;exact S.tps _ _ q
  ·rw[e2];exact q
theorem Sim.grow(S:Sim K F α e μ σ H)(g:bI F H F' H'):Sim K F' α e μ σ H' where
 st:=S.st.grow g
 sl:=λi x h=>by
  obtain⟨v,h1,h2⟩:=S.sl i x h
  exact⟨v,h1,h2.mono (g.same S.st.ext) (List.prefix_refl _)⟩
 len:=S.len
theorem Sim.of(S:Sim K F α e μ σ H){μ':ah}(s:aU F F')(p:α <+: α')(S':dY K F' α' μ' H'):Sim K F' α' e μ' σ H' :=
 ⟨S',λi x h=>by
  obtain⟨v,h1,h2⟩:=S.sl i x h
  exact⟨v,h1,h2.mono s p⟩,S.len⟩
theorem qT{k j:Nat}{a:Addr}(n:α.Nodup)(h1:α[k]?=some a)(h2:α[j]?=some a):k=j:=by
 obtain⟨a1,b1⟩:=List.getElem?_eq_some_iff.mp h1
 obtain⟨a2,b2⟩:=List.getElem?_eq_some_iff.mp h2
 exact (List.getElem_inj n).mp (b1.trans b2.symm)
theorem zW{k:Nat}(S:dY K F α μ H)(h:∃a,α[k]?=some a∧v=.ref a){μ':ah}(r:frz (.cel k) μ=.ok t μ'):∃F',aU F F'∧(∀b,b∉α→F' b=F b)∧dY K F' α μ' H∧Rep K F' t v:=by
  obtain⟨a,h1,rfl⟩:=h
  unfold frz at r
  cases q:μ[k]? with
  | none=>simp only[q] at r;cases r
  | some c =>
   obtain⟨b,u⟩:=c
   simp only[q] at r
   cases r
   have hk:k<μ.length:=(List.getElem?_eq_some_iff.mp q).1
   obtain⟨c1,c2⟩:=S.cell k b t a q h1
   have main:∃F',aU F F'∧aU F' H∧Rep K F' t (.ref a)∧∀c,c≠a→F' c=F c:=by
    cases b with
    | false=>exact⟨F,aU.refl F,S.ext,c2 rfl,λ_ _=>rfl⟩
    | true =>
     obtain⟨d1,d2⟩:=c1 rfl
     obtain⟨o,ho⟩:=d2.there
     have s1:aU F (upd F a o):=λc z hz=>by
      rw[aO (λq=>by subst q;rw[d1] at hz;cases hz)];exact hz
     refine⟨upd F a o,s1,λc z hz=>?_,?_,λc hc=>aO hc⟩
     ·by_cases e:c=a
      ·subst e;rw[aL] at hz;cases hz;exact ho
      ·rw[aO e] at hz;exact S.ext c z hz
     ·cases t with
      | lst ts=>obtain⟨vs,g1,g2⟩:=d2;rw[g1] at ho;cases ho;rw[Rep];exact⟨a,vs,rfl,SqL.of aL,aG.mono s1 _ _ g2⟩
      | dct ts=>obtain⟨vs,g1,g2⟩:=d2;rw[g1] at ho;cases ho;rw[Rep];exact⟨a,vs,rfl,aL,bx.mono s1 _ _ g2⟩
      | dtt fz ts=>obtain⟨d4,d3⟩:=d2;rw[d3] at ho;cases ho;rw[Rep];exact⟨a,rfl,.inl ⟨d4,aL⟩⟩
      | _=>exact d2.elim
   obtain⟨F',s1,s2,rp,ne⟩:=main
   refine⟨F',s1,λc hc=>ne c λq=>hc (by rw[q];exact List.mem_of_getElem? h1),⟨s2,by rw[List.length_set];exact S.len,S.nd,S.there,λj b' u' a' g1 g2=>?_,S.tps.mono s1⟩,rp⟩
   by_cases e:j=k
   ·subst e
    rw[List.getElem?_set_self hk] at g1
    cases g1
    rw[h1] at g2;cases g2
    exact⟨λz=>(by cases z),λ_=>rp⟩
   ·rw[List.getElem?_set_ne (Ne.symm e)] at g1
    obtain⟨z1,z2⟩:=S.cell j b' u' a' g1 g2
    have na:a'≠a:=λq=>by subst q;exact e (qT S.nd g2 h1)
    refine⟨λhb=>?_,λhb=>Rep.mono s1 _ _ (z2 hb)⟩
    obtain⟨y1,y2⟩:=z1 hb
    refine⟨by rw[ne _ na];exact y1,?_⟩
    cases u' with
    | lst ts=>obtain⟨vs,w1,w2⟩:=y2;exact⟨vs,w1,aG.mono s1 _ _ w2⟩
    | dct ts=>obtain⟨vs,w1,w2⟩:=y2;exact⟨vs,w1,bx.mono s1 _ _ w2⟩
    | dtt fz ts=>exact y2
    | _=>exact y2.elim
theorem Ge(k:Nat)(μ:ah):qD (.inr k) μ=frz (.cel k) μ:=by unfold qD frz;rfl
theorem wF:∀{xs:List (Sum T Nat)}{vs:List V}{μ μ':ah}{F:Hp}{ts:List T},dY K F α μ H→Paired (u5 K F α) vs xs→jr xs μ=.ok ts μ'→∃F',aU F F'∧(∀b,b∉α→F' b=F b)∧dY K F' α μ' H∧aG K F' ts vs
 | [],vs,μ,μ',F,ts,S,p,r=>by
  cases p
  cases r
  exact⟨F,aU.refl F,λ_ _=>rfl,S,aG.lL⟩
 | x::xs,vs,μ,μ',F,ts,S,p,r=>by
  cases p with
  | @cons v₁ _ vs₁ _ hv p =>
   unfold jr at r
   obtain⟨t,μ1,r1,r⟩:=R.aX r
   obtain⟨ts',μ2,r2,r⟩:=R.aX r
   cases r
   have one:∃F',aU F F'∧(∀b,b∉α→F' b=F b)∧dY K F' α μ1 H∧Rep K F' t v₁:=by
    cases x with
    | inl u=>cases r1;exact⟨F,aU.refl F,λ_ _=>rfl,S,hv⟩
    | inr k=>rw[Ge] at r1;exact zW S hv r1
   obtain⟨F1,s1,n1,S1,q1⟩:=one
   obtain⟨F2,s2,n2,S2,q2⟩:=wF S1 (Paired.imp' (λ_ _ z=>u5.mono s1 (List.prefix_refl _) z) p) r2
   exact⟨F2,s1.trans s2,λb hb=>(n2 b hb).trans (n1 b hb),S2,.gm (Rep.mono s2 _ _ q1) q2⟩
theorem pG(S:dY K F α μ H)(h:iq K F α v x){μ':ah}(r:frz x μ=.ok t μ'):∃F',aU F F'∧(∀b,b∉α→F' b=F b)∧dY K F' α μ' H∧Rep K F' t v:=by
 cases x with
 | val u=>cases r;exact⟨F,aU.refl F,λ_ _=>rfl,S,h⟩
 | cel k=>exact zW S h r
 | box xs =>
  obtain⟨a,vs,rfl,q,p⟩:=h
  unfold frz at r
  obtain⟨ts,μ1,r1,r⟩:=R.aX r
  cases r
  obtain⟨F1,s1,n1,S1,q1⟩:=wF S p r1
  refine⟨F1,s1,n1,S1,?_⟩
  rw[Rep]
  exact⟨a,vs,rfl,aU.lu s1 q,q1⟩
theorem qp:∀{xs:List SV}{vs:List V}{μ μ':ah}{F:Hp}{ts:List T},dY K F α μ H→Paired (λv x=>iq K F α v x) vs xs→fq xs μ=.ok ts μ'→∃F',aU F F'∧(∀b,b∉α→F' b=F b)∧dY K F' α μ' H∧aG K F' ts vs
 | [],vs,μ,μ',F,ts,S,p,r=>by
  cases p
  cases r
  exact⟨F,aU.refl F,λ_ _=>rfl,S,aG.lL⟩
 | x::xs,vs,μ,μ',F,ts,S,p,r=>by
  cases p with
  | cons hv p =>
   rw[mD] at r
   obtain⟨t,μ1,r1,r⟩:=R.aX r
   obtain⟨ts',μ2,r2,r⟩:=R.aX r
   cases r
   obtain⟨F1,s1,n1,S1,q1⟩:=pG S hv r1
   obtain⟨F2,s2,n2,S2,q2⟩:=qp S1 (Paired.imp' (λ_ _ z=>iq.mono s1 (List.prefix_refl _) z) p) r2
   exact⟨F2,s1.trans s2,λb hb=>(n2 b hb).trans (n1 b hb),S2,.gm (Rep.mono s2 _ _ q1) q2⟩
theorem u6(S:dY K F α μ H){k:Nat}{a:Addr}{t₀:T}{o:HO}(hk:μ[k]?=some (true,t₀))(ha:α[k]?=some a)(c:jb K F (upd H a o) a t):dY K F α (μ.set k (true,t)) (upd H a o):=by
 have hlt:k<μ.length:=(List.getElem?_eq_some_iff.mp hk).1
 have hF:=((S.cell k true t₀ a hk ha).1 rfl).1
 refine⟨λb z hz=>?_,by rw[List.length_set];exact S.len,S.nd,λj b h=>?_,λj b u a' h1 h2=>?_,S.tps.upd c.nt⟩
 ·rw[aO (λq=>by subst q;rw[hF] at hz;cases hz)];exact S.ext b z hz
 ·by_cases e:b=a
  ·subst e;exact⟨o,aL⟩
  ·rw[aO e];exact S.there j b h
 ·by_cases e:j=k
  ·subst e
   rw[List.getElem?_set_self hlt] at h1
   cases h1
   rw[ha] at h2;cases h2
   exact⟨λ_=>⟨hF,c⟩,λz=>(by cases z)⟩
  ·rw[List.getElem?_set_ne (Ne.symm e)] at h1
   have na:a'≠a:=λq=>by subst q;exact e (qT S.nd h2 ha)
   obtain⟨c1,c2⟩:=S.cell j b u a' h1 h2
   refine⟨λhb=>⟨(c1 hb).1,?_⟩,c2⟩
   have d:=(c1 hb).2
   cases u with
   | lst ts=>obtain⟨vs,w1,w2⟩:=d;exact⟨vs,by rw[aO na];exact w1,w2⟩
   | dct ts=>obtain⟨vs,w1,w2⟩:=d;exact⟨vs,by rw[aO na];exact w1,w2⟩
   | dtt fz ts=>exact⟨d.1,(aO na).trans d.2⟩
   | _=>exact d.elim
theorem dY.take{β:List Addr}(S:dY K F β μ H)(n:Nat):dY K F (β.take n) (μ.take n) H:=by
 have cut:∀{γ:Type}{l:List γ}{k:Nat}{z:γ},(l.take n)[k]?=some z→l[k]?=some z:=λ{γ l k z} h=>by
  rw[List.getElem?_take] at h
  split at h
  ·exact h
  ·cases h
 exact⟨S.ext,by rw[List.length_take,List.length_take,S.len],S.nd.sublist (List.take_sublist _ _),λk a h=>S.there k a (cut h),λk b t a h1 h2=>S.cell k b t a (cut h1) (cut h2),S.tps⟩
theorem Lf{μ₀:ah}{β:List Addr}{r:SV}{μ':ah}(hα:α.length=μ₀.length)(p:α <+: β)(S:dY K F β μ H)(h:iq K F β v x)(hg:gc μ₀.length x μ=.ok r μ') :
  ∃γ,α <+: γ∧(∀b,b∈γ→b∈β)∧dY K F γ μ' H∧iq K F γ v r:=by
 have hn:β.take μ₀.length=α:=by
  rw[← hα]
  obtain⟨l,rfl⟩:=p
  simp
 have hp:α <+: β.take μ₀.length:=by rw[hn];exact List.prefix_refl _
 unfold gc at hg
 cases x with
 | val t =>
  simp only at hg
  cases hg
  exact⟨β.take μ₀.length,hp,λb hb=>List.mem_of_mem_take hb,S.take _,h⟩
 | cel k =>
  obtain⟨a,ha,rfl⟩:=h
  simp only at hg
  by_cases hk:k<μ₀.length
  ·rw[if_pos hk] at hg
   cases hg
   exact⟨β.take μ₀.length,hp,λb hb=>List.mem_of_mem_take hb,S.take _,a,by rw[List.getElem?_take_of_lt hk];exact ha,rfl⟩
  ·rw[if_neg hk] at hg
   cases hc:μ[k]? with
   | none=>rw[hc] at hg;cases hg
   | some c =>
    rw[hc] at hg
    cases hg
    have T:=S.take μ₀.length
    have hl:(β.take μ₀.length).length=μ₀.length:=by rw[hn];exact hα
    have hl2:(μ.take μ₀.length).length=μ₀.length:=by rw[← T.len];exact hl
    have pH:∀{γ:Type}{l:List γ}{z:γ}{j:Nat}{y:γ},l.length=μ₀.length→(l++[z])[j]?=some y→(j<μ₀.length∧l[j]?=some y)∨(j=μ₀.length∧y=z):=λ{γ l z j y} e h=>by
     by_cases hj:j<l.length
     ·rw[List.getElem?_append_left hj] at h;exact .inl ⟨by lia,h⟩
     ·rw[List.getElem?_append_right (by lia)] at h
      by_cases h0:j-l.length=0
      ·rw[h0] at h;simp at h;exact .inr ⟨by lia,h.symm⟩
      ·rw[List.getElem?_eq_none (by simp;lia)] at h;cases h
    have cut:∀{γ:Type}{l:List γ}{j:Nat}{z:γ},(l.take μ₀.length)[j]?=some z→l[j]?=some z:=λ{γ l j z} h=>by
     rw[List.getElem?_take] at h
     split at h
     ·exact h
     ·cases h
    refine⟨β.take μ₀.length++[a],hp.trans (List.prefix_append _ _),λb hb=>(List.mem_append.mp hb).elim (λz=>List.mem_of_mem_take z) λz=>by simp at z;subst z;exact List.mem_of_getElem? ha,⟨S.ext,by rw[List.length_append,List.length_append,hl,hl2];rfl,?_,λj b g=>?_,λj b u a' g1 g2=>?_,S.tps⟩,a,?_,rfl⟩
    ·rw[List.nodup_append]
     refine⟨T.nd,by simp,λb hb b' hb'=>?_⟩
     simp at hb'
     subst hb'
     intro q
     subst q
     obtain⟨j,hj⟩:=List.mem_iff_getElem?.mp hb
     have hj':j<μ₀.length:=by rw[← hl];exact (List.getElem?_eq_some_iff.mp hj).1
     have:=qT S.nd (cut hj) ha
     lia
    ·rcases pH hl g with ⟨_,g'⟩|⟨_,rfl⟩
     ·exact T.there j b g'
     ·exact S.there k _ ha
    ·rcases pH hl g2 with ⟨hj,g'⟩|⟨hj,rfl⟩
     ·rcases pH hl2 g1 with ⟨_,g1'⟩|⟨hj',_⟩
      ·exact T.cell j b u a' g1' g'
      ·lia
     ·rcases pH hl2 g1 with ⟨hj',_⟩|⟨_,e⟩
      ·lia
      ·exact S.cell k b u _ (by rw[hc,e]) ha
    ·rw[List.getElem?_append_right (by lia),hl]
     simp
 | box xs=>cases hg
theorem Jf{μ₀:ah}{β:List Addr}{r:SV}{μ':ah}(hα:α.length=μ₀.length)(p:α <+: β)(S:dY K F β μ H)(h:iq K F β v x)(hg:ice μ₀.length x μ=.ok r μ') :
  ∃F',aU F F'∧(∀b,b∉β→F' b=F b)∧dY K F' α μ' H∧iq K F' α v r:=by
 unfold ice at hg
 obtain⟨t,μ1,h1,hg⟩:=R.aX hg
 cases hg
 obtain⟨F1,s1,n1,S1,q1⟩:=pG S h h1
 have hn:β.take μ₀.length=α:=by
  rw[← hα]
  obtain⟨l,rfl⟩:=p
  simp
 have S2:=S1.take μ₀.length
 rw[hn] at S2
 exact⟨F1,s1,n1,S2,q1⟩
end
structure Ex(F:Hp)(α:List Addr)(H F':Hp)(α':List Addr)(H':Hp):Prop where
 same:aU F F'
 pre:α <+: α'
 fr:∀b o,H b=some o→F b=none→b∉α→H' b=some o∧F' b=none∧b∉α'
section
variable{K:PySem.W.Frag}{F F' F1 F2 H H' H1 H2:Hp}{α α' α1 α2:List Addr}{μ μ':ah}
theorem Ex.refl:Ex F α H F α H:=⟨aU.refl F,List.prefix_refl _,λ_ _ h1 h2 h3=>⟨h1,h2,h3⟩⟩
theorem Ex.trans(x:Ex F α H F1 α1 H1)(y:Ex F1 α1 H1 F2 α2 H2):Ex F α H F2 α2 H2 :=
 ⟨x.same.trans y.same,x.pre.trans y.pre,λb o h1 h2 h3=>let ⟨g1,g2,g3⟩:=x.fr b o h1 h2 h3;y.fr b o g1 g2 g3⟩
theorem Ex.qU(s:aU F F')(n:∀b,b∉α→F' b=F b):Ex F α H F' α H:=⟨s,List.prefix_refl _,λb o h1 h2 h3=>⟨h1,by rw[n b h3];exact h2,h3⟩⟩
theorem bI.ex(g:bI F H F' H')(s:aU F H):Ex F α H F' α H':=⟨g.same s,List.prefix_refl _,λb o h1 h2 h3=>by
 rcases g b with ⟨e1,e2⟩|⟨e1,e2⟩
 ·exact⟨by rw[e2];exact h1,by rw[e1];exact h2,h3⟩
 ·rw[h1] at e1;cases e1⟩
theorem Ex.was{p:Addr}(x:Ex F α H F1 α1 H1)(S:dY K F1 α1 μ H1)(h:H1 p=none):H p=none:=by
 cases q:H p with
 | none=>rfl
 | some o =>
  exfalso
  cases f:F p with
  | some z=>rw[S.ext p z (x.same p z f)] at h;cases h
  | none =>
   by_cases hm:p∈α
   ·obtain⟨k,hk⟩:=List.mem_iff_getElem?.mp hm
    obtain⟨z,hz⟩:=S.there k p (kx x.pre hk)
    rw[hz] at h;cases h
   ·rw[(x.fr p o q f hm).1] at h;cases h
theorem Ex.lay{p:Addr}{o:HO}(h:H p=none):Ex F α H F α (upd H p o):=⟨aU.refl F,List.prefix_refl _,λb z h1 h2 h3=>⟨by rw[aO (λq=>by subst q;rw[h] at h1;cases h1)];exact h1,h2,h3⟩⟩
theorem Ex.put{k:Nat}{a:Addr}{o:HO}(ha:α[k]?=some a):Ex F α H F α (upd H a o):=⟨aU.refl F,List.prefix_refl _,λb z h1 h2 h3=>⟨by rw[aO (λq=>h3 (by rw[q];exact List.mem_of_getElem? ha))];exact h1,h2,h3⟩⟩
theorem Ex.more{p:Addr}(x:Ex F α H F' α' H')(h:H p=none):Ex F α H F' (α'++[p]) H':=⟨x.same,x.pre.trans (List.prefix_append _ _),λb o h1 h2 h3=>by
 obtain⟨g1,g2,g3⟩:=x.fr b o h1 h2 h3
 refine⟨g1,g2,λhm=>?_⟩
 rcases List.mem_append.mp hm with z|z
 ·exact g3 z
 ·simp at z;subst z;rw[h] at h1;cases h1⟩
theorem Ex.ice{p:Addr}{o:HO}(x:Ex F α H F' α' H')(h:H p=none)(h':F' p=none):Ex F α H (upd F' p o) α' H':=⟨x.same.trans λb z hz=>by
  rw[aO (λq=>by subst q;rw[h'] at hz;cases hz)];exact hz,x.pre,λb z h1 h2 h3=>by
 obtain⟨g1,g2,g3⟩:=x.fr b z h1 h2 h3
 exact⟨g1,by rw[aO (λq=>by subst q;rw[h] at h1;cases h1)];exact g2,g3⟩⟩
end
theorem bx.length{K:PySem.W.Frag}{F:Hp}:∀{ts:List (Key×T)}{vs:List (Key×V)},bx K F ts vs→ts.length=vs.length
 | [],vs,h=>by rw[bx] at h;subst h;rfl
 | (k,t)::ts,vs,h=>by
  rw[bx] at h
  obtain⟨v,vs',rfl,_,r⟩:=h
  rw[List.length_cons,List.length_cons,bx.length r]
def R.wp{α:Type}(r:R α)(Q:α→ah→Prop)(E:T→ah→Prop):Prop:=match r with
 | .ok a μ=>Q a μ
 | .err c μ=>E c μ
 | .bad=>False
theorem R.wp_bind{α β:Type}{r:R α}{f:α→ah→R β}{Q:β→ah→Prop}{E:T→ah→Prop}(h:(r.bind f).wp Q E):r.wp (λa μ=>(f a μ).wp Q E) E:=by
 cases r<;>exact h
theorem R.wp.mono{α:Type}{r:R α}{Q Q':α→ah→Prop}{E E':T→ah→Prop}(h:r.wp Q E)(hQ:∀a μ,Q a μ→Q' a μ)(hE:∀c μ,E c μ→E' c μ):r.wp Q' E':=by
 cases r with
 | ok a μ=>exact hQ a μ h
 | err c μ=>exact hE c μ h
 | bad=>exact h
theorem R.bK{α:Type}{o:Option α}{μ:ah}{Q:α→ah→Prop}{E:T→ah→Prop}(h:(R.lift o μ).wp Q E):∃a,o=some a∧Q a μ:=by
 cases o with
 | none=>exact h.elim
 | some a=>exact⟨a,rfl,h⟩
def Jg(K:PySem.W.Frag)(F:Hp)(α:List Addr)(H:Hp)(e:Slots)(σ:St)(Q:VK)(x:SV)(μ:ah):Prop :=
 ∀v H' F' α',Ex F α H F' α' H'→Sim K F' α' e μ σ H'→iq K F' α' v x→Q v H'
def Lg(X:Cx)(pins:List (Addr×Obj))(σ:St)(H:Hp)(c:T)(ev:Value)(s':Shared):Prop :=
 ∃n C,c=.exc n none∧X.mg n=some (.ref C)∧((X.calm=true∧∃s h' e vs,Inv X pins σ H s∧Heap.MadeExcOf s.heap h' e (.ref C) vs∧ev=.ref e∧s'={ s with heap:=h' }) ∨
  (∃H0 s,Inv X pins σ H0 s∧CX1 X.prog X.w X.stack H0 s (λcv _ H'=>cv=.ref C∧H'=H) ev s')∨(X.calm=true∧∃e t B,ev=.ref e∧Hel X pins σ H e t C B s'))
def hJ(X:Cx)(F:Hp)(α:List Addr)(H:Hp)(e:Slots)(c:T)(μ:ah):Prop :=
 ∀ev s',(∃pins σ' H' F' α',Ex F α H F' α' H'∧Sim X.K F' α' e μ σ' H'∧Lg X pins σ' H' c ev s')→X.xe ev s'
theorem hJ.mono{X:Cx}{F F1 H H1:Hp}{α α1:List Addr}{e:Slots}{c:T}{μ:ah}(x:Ex F α H F1 α1 H1)(h:hJ X F α H e c μ):hJ X F1 α1 H1 e c μ :=
 λev s' ⟨pins,σ',H',F',α',y,S,f⟩=>h ev s' ⟨pins,σ',H',F',α',x.trans y,S,f⟩
def tD(X:Cx)(d:D):TE:=λσ H Q=>∃F α e μ,Sim X.K F α e μ σ H∧(d e μ).wp (Jg X.K F α H e σ Q) (hJ X F α H e)
def tDT(X:Cx)(d:D):TT:=λσ H Q=>∃F α e μ,Sim X.K F α e μ σ H∧(d e μ).wp (λx μ'=>∃b,x=.val (.bl b) ∧
 ∀H' F' α',Ex F α H F' α' H'→Sim X.K F' α' e μ' σ H'→Q b H') (hJ X F α H e)
def tDA(X:Cx)(ds:List D):TA:=λσ H Q=>∃F α e μ,Sim X.K F α e μ σ H∧(ei ds e μ).wp (λxs μ' =>
 ∀vs H' F' α',Ex F α H F' α' H'→Sim X.K F' α' e μ' σ H'→Paired (λv x=>iq X.K F' α' v x) vs xs→Q vs H') (hJ X F α H e)
def CE(X:Cx)(e:Expr)(d:D):Prop:=PE X e (tD X d)
def CT(X:Cx)(e:Expr)(d:D):Prop:=PT X e (tDT X d)
def CA(X:Cx)(es:List Expr)(ds:List D):Prop:=PA X es (tDA X ds)
theorem PE.imp{X:Cx}{e:Expr}{t t':TE}(h:PE X e t)(i:∀σ H Q,t' σ H Q→t σ H Q):PE X e t':=λpins s σ H Q I q=>h pins s σ H Q I (i σ H Q q)
theorem PT.imp{X:Cx}{e:Expr}{t t':TT}(h:PT X e t)(i:∀σ H Q,t' σ H Q→t σ H Q):PT X e t':=λpins s σ H Q I q=>h pins s σ H Q I (i σ H Q q)
theorem PA.imp{X:Cx}{e:List Expr}{t t':TA}(h:PA X e t)(i:∀σ H Q,t' σ H Q→t σ H Q):PA X e t':=λpos pins s σ H Q I q=>h pos pins s σ H Q I (i σ H Q q)
theorem PS.imp{X:Cx}{e:Stmt}{t t':TS}(h:PS X e t)(i:∀D σ H,t' D σ H→t D σ H):PS X e t':=λpins s σ H D I q=>h pins s σ H D I (i D σ H q)
theorem PSs.imp{X:Cx}{e:List Stmt}{t t':TS}(h:PSs X e t)(i:∀D σ H,t' D σ H→t D σ H):PSs X e t':=λpins s σ H D I q=>h pins s σ H D I (i D σ H q)
def gd(K:PySem.W.Frag)(r:R2)(f:T→T→Option T):Prop:=∀F H v u t t' w Q,aU F H→Now K F H v t→Now K F H u t'→f t t'=some w →
 (∀v' H' F',bI F H F' H'→Rep K F' w v'→Q v' H')→r v u H Q
def Hq(K:PySem.W.Frag)(r:V→Hp→VK→Prop)(f:T→Option T):Prop:=∀F H v t w Q,aU F H→Now K F H v t→f t=some w →
 (∀v' H' F',bI F H F' H'→Rep K F' w v'→Q v' H')→r v H Q
def qV(K:PySem.W.Frag)(r:List V→Hp→VK→Prop)(f:T→Option T):Prop:=∀F H v t w Q,aU F H→Now K F H v t→f t=some w →
 (∀v' H' F',bI F H F' H'→Rep K F' w v'→Q v' H')→r [v] H Q
def wG(K:PySem.W.Frag)(r:List V→Hp→VK→Prop)(f:T→T→Option T):Prop:=∀F H v u t t' w Q,aU F H→Now K F H v t→Now K F H u t'→f t t'=some w →
 (∀v' H' F',bI F H F' H'→Rep K F' w v'→Q v' H')→r [v,u] H Q
def wH(K:PySem.W.Frag)(r:List V→Hp→VK→Prop)(f:T→Option T):Prop:=∀F H v t w Q,aU F H→Now K F H v t→f t=some w →
 (∀p o,H p=none→jb K F (upd H p o) p w→Q (.ref p) (upd H p o))→r [v] H Q
section
variable{X:Cx}{a b c:Expr}{da db dc:D}{pos:Pos}
theorem af(i:Nat){x:Str}(hN:X.N[i]?=some x:=by rfl)(hv:Vis X.env.scope x:=by first|exact Or.inl rfl|exact Or.inr (Or.inl rfl)|exact Or.inr (Or.inr rfl))(hd:(x==("__debug__":Str))=false:=by decide)
  (hcd:(x==("__classdict__":Str))=false:=by decide):CE X (.Name x pos) (ae i) :=
 PE.imp (xM hN hv hd hcd) λσ H Q aq=>by
  obtain⟨F,α,e,μ,S,h⟩:=aq
  obtain⟨x,h1,h⟩:=R.bK h
  obtain⟨v,hv,ok⟩:=S.sl i x h1
  exact⟨v,hv,h v H F α Ex.refl S ok⟩
theorem om{v:V}{t:T}(h:PE X a (tC v))(r:∀F,Rep X.K F t v):CE X a (dC t) :=
 PE.imp h λσ H Q ⟨F,α,e,μ,S,h⟩=>h v H F α Ex.refl S (r F)
theorem ao{i:Int}{j pos}:CE X (.Constant (.int i) j pos) (dC (.int i)):=om HS λ_=>Rep.ip i
theorem uj{i:Bool}{j pos}:CE X (.Constant (.bool i) j pos) (dC (.bl i)):=om Kv λ_=>Rep.bl' i
theorem cU{i:Str}{j pos}:CE X (.Constant (.str i) j pos) (dC (.str i)):=om HV λ_=>Rep.Gd i
theorem pI{j pos}:CE X (.Constant .none j pos) (dC .non):=om HU λ_=>Rep.Le
theorem two{r:R2}{f:T→T→Option T}(hs:gd X.K r f)(σ:St)(H:Hp)(Q:VK)(h:tD X (aj f da db) σ H Q):tOp r (tD X da) (tD X db) σ H Q:=by
 obtain⟨F,α,e,μ,S,h⟩:=h
 refine⟨F,α,e,μ,S,?_⟩
 refine (R.wp_bind h).mono (λx μ1 h v H1 F1 α1 x1 S1 o1=>⟨F1,α1,e,μ1,S1,?_⟩) λ_ _ h=>h
 refine (R.wp_bind h).mono (λy μ2 h v2 H2 F2 α2 x2 S2 o2=>?_) λ_ _ h=>h.mono x1
 obtain⟨w,h9,post⟩:=R.bK h
 obtain⟨t,u,w',ht,hu,h,rfl⟩:=qF h9
 exact hs F2 H2 v v2 t u w' Q S2.st.ext (bo S2.st (o1.mono x2.same x2.pre) ht) (bo S2.st o2 hu) h λv' H' F' g rp =>
  post v' H' F' α2 (x1.trans (x2.trans (g.ex S2.st.ext))) (S2.grow g) rp
theorem lM{op:Operator}{r:R2}{f:T→T→Option T}(ho:OpR X (binaryOp op) r)(hs:gd X.K r f)(ha:CE X a da)(hb:CE X b db):CE X (.BinOp a op b pos) (aj f da db) :=
 PE.imp (Hl ho ha hb) (two hs)
theorem ym{op:CmpOp}{r:R2}{f:T→T→Option T}(ho:OpR X (compareOp op) r)(hs:gd X.K r f)(hm:behindInMarks op b=false)(ha:CE X a da)(hb:CE X b db):CE X (.Compare a [op] [b] pos) (aj f da db) :=
 PE.imp (Fe ho ha hb hm) (two hs)
theorem one{r:V→Hp→VK→Prop}{f:T→Option T}(hs:Hq X.K r f)(σ:St)(H:Hp)(Q:VK)(h:tD X (dUn f da) σ H Q):tUn r (tD X da) σ H Q:=by
 obtain⟨F,α,e,μ,S,h⟩:=h
 refine⟨F,α,e,μ,S,?_⟩
 refine (R.wp_bind h).mono (λx μ1 h v H1 F1 α1 x1 S1 o1=>?_) λ_ _ h=>h
 obtain⟨w,h9,post⟩:=R.bK h
 obtain⟨t,w',ht,h,rfl⟩:=mY h9
 exact hs F1 H1 v t w' Q S1.st.ext (bo S1.st o1 ht) h λv' H' F' g rp =>
  post v' H' F' α1 (x1.trans (g.ex S1.st.ext)) (S1.grow g) rp
theorem Lh{op:UnaryOp}{r:V→Hp→VK→Prop}{f:T→Option T}(ho:UnR X (unaryOp op) r)(hs:Hq X.K r f)(ha:CE X a da):CE X (.UnaryOp op a pos) (dUn f da):=PE.imp (KI ho ha) (one hs)
theorem ar:CA X [] []:=PA.imp CL λσ H Q ⟨F,α,e,μ,S,h⟩=>h [] H F α Ex.refl S .nil
theorem ag{es:List Expr}{ds:List D}(ha:CE X a da)(hr:CA X es ds)(hs:starEach (a::es) X.env=(false,eval a X.env)::starEach es X.env:=by rfl):CA X (a::es) (da::ds) :=
 PA.imp (zD ha hr hs) λσ H Q aq=>by
  obtain⟨F,α,e,μ,S,h⟩:=aq
  rw[br] at h
  refine⟨F,α,e,μ,S,(R.wp_bind h).mono (λx μ1 h v H1 F1 α1 x1 S1 o1=>⟨F1,α1,e,μ1,S1,?_⟩) λ_ _ h=>h⟩
  refine (R.wp_bind h).mono (λxs μ2 h vs H2 F2 α2 x2 S2 o2=>?_) λ_ _ h=>h.mono x1
  exact h (v::vs) H2 F2 α2 (x1.trans x2) S2 (.cons (o1.mono x2.same x2.pre) o2)
theorem uk:∀{ds:List D}{e:Slots}{μ μ':ah}{xs:List SV},ei ds e μ=.ok xs μ'→xs.length=ds.length
 | [],e,μ,μ',xs,h=>by cases h;rfl
 | d::ds,e,μ,μ',xs,h=>by
  rw[br] at h
  obtain⟨x,μ1,hx,h⟩:=R.aX h
  obtain⟨ys,μ2,hy,h⟩:=R.aX h
  cases h
  rw[List.length_cons,List.length_cons,uk hy]
theorem gn{ds:List D}{e:Slots}{μ:ah}{Q:List SV→ah→Prop}{E:T→ah→Prop}(h:(ei ds e μ).wp Q E):(ei ds e μ).wp (λxs μ'=>xs.length=ds.length∧Q xs μ') E:=by
 cases q:ei ds e μ with
 | ok xs μ'=>rw[q] at h;exact⟨uk q,h⟩
 | err c μ'=>rw[q] at h;exact h
 | bad=>rw[q] at h;exact h
theorem mG{n:Nat}{xs:List SV}{vs:List V}{P:V→SV→Prop}(h:xs.length=n)(o:Paired P vs xs)(hl:n≤1000):vs.length≤sizeLine:=by
 have e1:=o.length
 exact Nat.le_of_lt (Ba (by lia))
theorem ky{es:List Expr}{ds:List D}{x1}(h:CA X es ds)(hl:ds.length≤1000:=by decide):CE X (.Tuple es x1 pos) (jK ds) :=
 PE.imp (CM h) λσ H Q aq=>by
  obtain⟨F,α,e,μ,S,h⟩:=aq
  refine⟨F,α,e,μ,S,(gn (R.wp_bind h)).mono (λxs μ1 cJ vs H1 F1 α1 x1 S1 o1=>?_) λ_ _ h=>h⟩
  obtain⟨hn,h⟩:=cJ
  have h:=R.wp_bind h
  cases hz:fq xs μ1 with
  | err c μ2 =>
   exact absurd hz (qo xs μ1 c μ2)
  | bad=>rw[hz] at h;exact h.elim
  | ok ts μ2 =>
   rw[hz] at h
   obtain⟨F2,s2,n2,S2,r2⟩:=qp S1.st o1 hz
   refine⟨mG hn o1 hl,λp hp=>?_⟩
   have g:bI F2 H1 (upd F2 p (.tup vs)) (upd H1 p (.tup vs)):=bI.new hp
   refine h _ _ (upd F2 p (.tup vs)) α1 (x1.trans ((Ex.qU s2 n2).trans (g.ex S2.ext))) ((S1.of s2 (List.prefix_refl _) S2).grow g) ?_
   show Rep X.K _ (.tup ts) _
   rw[Rep]
   exact⟨p,vs,rfl,SqT.of aL,aG.mono (g.same S2.ext) _ _ r2⟩
theorem qW{K:PySem.W.Frag}{F:Hp}{α:List Addr}:∀{xs:List SV}{vs:List V}{ys:List (Sum T Nat)},Paired (λv x=>iq K F α v x) vs xs→boxed xs=some ys→Paired (u5 K F α) vs ys
 | [],vs,ys,p,h=>by cases p;cases h;exact .nil
 | .val t::xs,vs,ys,p,h=>by
  cases p with
  | cons hv p =>
   obtain⟨zs,h1,rfl⟩:=Option.map_eq_some_iff.mp (show (boxed xs).map _=some ys from h)
   exact .cons hv (qW p h1)
 | .cel t::xs,vs,ys,p,h=>by
  cases p with
  | cons hv p =>
   obtain⟨zs,h1,rfl⟩:=Option.map_eq_some_iff.mp (show (boxed xs).map _=some ys from h)
   exact .cons hv (qW p h1)
 | .box t::xs,vs,ys,p,h=>by cases h
theorem nc{es:List Expr}{ds:List D}{x1}(h:CA X es ds)(hl:ds.length≤1000:=by decide):CE X (.Tuple es x1 pos) (lj ds) :=
 PE.imp (CM h) λσ H Q aq=>by
  obtain⟨F,α,e,μ,S,h⟩:=aq
  refine⟨F,α,e,μ,S,(gn (R.wp_bind h)).mono (λxs μ1 cJ vs H1 F1 α1 x1 S1 o1=>?_) λ_ _ h=>h⟩
  obtain⟨hn,h⟩:=cJ
  obtain⟨ys,hy,h⟩:=R.bK (R.wp_bind h)
  refine⟨mG hn o1 hl,λp hp=>?_⟩
  have g:bI F1 H1 (upd F1 p (.tup vs)) (upd H1 p (.tup vs)):=bI.new hp
  refine h _ _ (upd F1 p (.tup vs)) α1 (x1.trans (g.ex S1.st.ext)) (S1.grow g) ?_
  exact⟨p,vs,rfl,SqT.of aL,Paired.imp' (λ_ _ z=>u5.mono (g.same S1.st.ext) (List.prefix_refl _) z) (qW o1 hy)⟩
def tF(X:Cx)(d:D):TE:=λσ H Q=>∃F α e μ,Sim X.K F α e μ σ H∧(d e μ).wp (λx μ'=>∃t,x=.val t ∧
 ∀p H' F' α',Ex F α H F' α' H'→Sim X.K F' α' e μ' σ H'→H p=none→F' p=none→p∉α'→jb X.K F' H' p t→Q (.ref p) H') (hJ X F α H e)
def CF(X:Cx)(e:Expr)(d:D):Prop:=PE X e (tF X d)∧∀e μ x μ',d e μ=.ok x μ'→∃t,x=.val t
theorem R.yn{P:SV→ah→Prop}{r:R SV}{E:T→ah→Prop}(h:r.wp P E):r.wp (λx μ=>r=.ok x μ∧P x μ) E:=by
 cases r with
 | ok a μ=>exact⟨rfl,h⟩
 | err c μ=>exact h
 | bad=>exact h
theorem wI{σ:St}{H:Hp}{Q:VK}(h2:∀e μ x μ',da e μ=.ok x μ'→∃t,x=.val t)(h:tD X da σ H Q):tF X da σ H Q:=by
 obtain⟨F,α,e,μ,S,hd⟩:=h
 refine⟨F,α,e,μ,S,(R.yn hd).mono (λx μ' aq=>?_) λ_ _ h=>h⟩
 obtain⟨hx,post⟩:=aq
 obtain⟨t,rfl⟩:=h2 e μ x μ' hx
 refine⟨t,rfl,λp H1 F1 α1 x1 S1 h0 hp hn c=>?_⟩
 obtain⟨o,ho⟩:=c.there
 have s2:aU F1 (upd F1 p o):=λb z hz=>by
  rw[aO (λq=>by subst q;rw[hp] at hz;cases hz)];exact hz
 have st:dY X.K (upd F1 p o) α1 μ' H1:=by
  refine⟨λb z hz=>?_,S1.st.len,S1.st.nd,S1.st.there,λk b u a' h1 h2=>?_,S1.st.tps.mono s2⟩
  ·by_cases eb:b=p
   ·subst eb;rw[aL] at hz;cases hz;exact ho
   ·rw[aO eb] at hz;exact S1.st.ext b z hz
  ·have na:a'≠p:=λq=>by subst q;exact hn (List.mem_of_getElem? h2)
   obtain⟨c1,c2⟩:=S1.st.cell k b u a' h1 h2
   refine⟨λhb=>⟨by rw[aO na];exact (c1 hb).1,?_⟩,λhb=>Rep.mono s2 _ _ (c2 hb)⟩
   have d2:=(c1 hb).2
   cases u with
   | lst ts=>obtain⟨vs,w1,w2⟩:=d2;exact⟨vs,w1,aG.mono s2 _ _ w2⟩
   | dct ts=>obtain⟨vs,w1,w2⟩:=d2;exact⟨vs,w1,bx.mono s2 _ _ w2⟩
   | dtt fz ts=>exact d2
   | _=>exact d2.elim
 refine post _ _ (upd F1 p o) α1 (x1.ice h0 hp) (S1.of s2 (List.prefix_refl _) st) ?_
 show Rep X.K _ t _
 cases t with
 | lst ts=>obtain⟨vs,w1,w2⟩:=c;rw[w1] at ho;cases ho;rw[Rep];exact⟨p,vs,rfl,SqL.of aL,aG.mono s2 _ _ w2⟩
 | dct ts=>obtain⟨vs,w1,w2⟩:=c;rw[w1] at ho;cases ho;rw[Rep];exact⟨p,vs,rfl,aL,bx.mono s2 _ _ w2⟩
 | dtt fz ts=>obtain⟨d4,d3⟩:=c;rw[d3] at ho;cases ho;rw[Rep];exact⟨p,rfl,.inl ⟨d4,aL⟩⟩
 | _=>exact c.elim
theorem CF.ce(h:CF X a da):CE X a da:=PE.imp h.1 λσ H Q q=>wI h.2 q
theorem Bj{σ:St}{H:Hp}{Q:VK}(h2:∀e μ x μ',da e μ=.ok x μ'→∃t,x=.val t)(h:tD X (cS da) σ H Q):tF X da σ H Q:=by
 obtain⟨F,α,e,μ,S,hd⟩:=h
 rw[qI] at hd
 refine⟨F,α,e,μ,S,(R.yn (R.wp_bind hd)).mono (λx μ1 aq=>?_) λ_ _ h=>h⟩
 obtain⟨hx,post⟩:=aq
 obtain⟨t,rfl⟩:=h2 e μ x μ1 hx
 refine⟨t,rfl,λp H1 F1 α1 x1 S1 h0 hp hn c=>?_⟩
 obtain⟨o,ho⟩:=c.there
 have pH:∀{k:Nat}{a:Addr},(α1++[p])[k]?=some a→(k<α1.length∧α1[k]?=some a)∨(k=α1.length∧a=p):=λ{k a} h=>by
  by_cases hk:k<α1.length
  ·rw[List.getElem?_append_left hk] at h;exact .inl ⟨hk,h⟩
  ·rw[List.getElem?_append_right (by lia)] at h
   by_cases h0:k-α1.length=0
   ·rw[h0] at h;simp at h;exact .inr ⟨by lia,h.symm⟩
   ·rw[List.getElem?_eq_none (by simp;lia)] at h;cases h
 have st:dY X.K F1 (α1++[p]) (μ1++[(true,t)]) H1:=by
  refine⟨S1.st.ext,by simp[S1.st.len],?_,λk a h=>?_,λk b u a h1 h2=>?_,S1.st.tps⟩
  ·rw[List.nodup_append]
   refine⟨S1.st.nd,by simp,λa ha b hb=>?_⟩
   simp at hb
   subst hb
   exact λq=>hn (by rw[← q];exact ha)
  ·rcases pH h with ⟨_,g⟩|⟨_,rfl⟩
   ·exact S1.st.there k a g
   ·exact⟨o,ho⟩
  ·rcases pH h2 with ⟨hk,g⟩|⟨hk,rfl⟩
   ·rw[List.getElem?_append_left (by rw[← S1.st.len];exact hk)] at h1
    exact S1.st.cell k b u a h1 g
   ·rw[hk,S1.st.len] at h1
    simp at h1
    obtain⟨rfl,rfl⟩:=h1
    exact⟨λ_=>⟨hp,c⟩,λz=>(by cases z)⟩
 refine post _ _ F1 (α1++[p]) (x1.more h0) (S1.of (aU.refl _) (List.prefix_append _ _) st) ⟨p,?_,rfl⟩
 rw[List.getElem?_append_right (by rw[S1.st.len];exact Nat.le_refl _),S1.st.len]
 simp
theorem CF.cell(h:CF X a da):CE X a (cS da):=PE.imp h.1 λσ H Q q=>Bj h.2 q
theorem cW{K:PySem.W.Frag}{F H:Hp}{α:List Addr}{μ:ah}{p:Addr}(S:dY K F α μ H)(h:H p=none):p∉α:=λhm=>by
 obtain⟨k,hk⟩:=List.mem_iff_getElem?.mp hm
 obtain⟨o,ho⟩:=S.there k p hk
 rw[h] at ho;cases ho
theorem dY.lay{K:PySem.W.Frag}{F H:Hp}{α:List Addr}{μ:ah}{p:Addr}{o:HO}(S:dY K F α μ H)(h:H p=none)(n:NT o:=by intro _ h;cases h):dY K F α μ (upd H p o):=by
 have hup:∀c z,H c=some z→(upd H p o) c=some z:=λc z hz=>by
  rw[aO (λq=>by subst q;rw[h] at hz;cases hz)];exact hz
 refine⟨λa z hz=>hup _ _ (S.ext a z hz),S.len,S.nd,λk a g=>?_,λk b u a h1 h2=>?_,S.tps.upd n⟩
 ·obtain⟨z,hz⟩:=S.there k a g
  exact⟨z,hup _ _ hz⟩
 ·obtain⟨c1,c2⟩:=S.cell k b u a h1 h2
  refine⟨λhb=>⟨(c1 hb).1,?_⟩,c2⟩
  have d2:=(c1 hb).2
  cases u with
  | lst ts=>obtain⟨vs,w1,w2⟩:=d2;exact⟨vs,hup _ _ w1,w2⟩
  | dct ts=>obtain⟨vs,w1,w2⟩:=d2;exact⟨vs,hup _ _ w1,w2⟩
  | dtt fz ts=>exact⟨d2.1,hup _ _ d2.2⟩
  | _=>exact d2.elim
theorem hV{es:List Expr}{ds:List D}(h:CA X es ds)(hl:ds.length≤1000:=by decide):CF X (.List es pos) (ft ds) :=
 ⟨PE.imp (CN h) λσ H Q aq=>by
  obtain⟨F,α,e,μ,S,h⟩:=aq
  refine⟨F,α,e,μ,S,(gn (R.wp_bind h)).mono (λxs μ1 cJ vs H1 F1 α1 x1 S1 o1=>?_) λ_ _ h=>h⟩
  obtain⟨hn,h⟩:=cJ
  have h:=R.wp_bind h
  cases hz:fq xs μ1 with
  | err c μ2 =>
   exact absurd hz (qo xs μ1 c μ2)
  | bad=>rw[hz] at h;exact h.elim
  | ok ts μ2 =>
   rw[hz] at h
   obtain⟨t,e1,post⟩:=h
   cases e1
   obtain⟨F2,s2,n2,S2,r2⟩:=qp S1.st o1 hz
   refine⟨mG hn o1 hl,λp hp=>?_⟩
   exact post p _ F2 α1 (x1.trans ((Ex.qU s2 n2).trans (Ex.lay hp))) (S1.of s2 (List.prefix_refl _) (S2.lay hp)) (x1.was S1.st hp) (S2.ext.free hp) (cW S2 hp) ⟨vs,aL,r2⟩,
 λe μ x μ' h=>by
  unfold ft at h
  obtain⟨xs,μ1,hx,h⟩:=R.aX h
  obtain⟨ts,μ2,hz,h⟩:=R.aX h
  cases h
  exact⟨_,rfl⟩⟩
theorem Gg{f:T→Option T}{e:Slots}{μ μ':ah}{x:SV}(h:dUn f da e μ=.ok x μ'):∃t,x=.val t:=by
 unfold dUn at h
 obtain⟨x,μ1,hx,h⟩:=R.aX h
 obtain⟨h9,rfl⟩:=R.mX h
 obtain⟨t,w',ht,h,rfl⟩:=mY h9
 exact⟨_,rfl⟩
theorem qX{σ:St}{H:Hp}{Q:List V→Hp→Prop}(h:tD X da σ H λv H'=>Q [v] H'):tDA X [da] σ H Q:=by
 obtain⟨F,α,e,μ,S,h⟩:=h
 refine⟨F,α,e,μ,S,?_⟩
 rw[br]
 cases q:da e μ with
 | err c μ1=>rw[q] at h;exact h
 | bad=>rw[q] at h;exact h
 | ok x μ1 =>
  rw[q] at h
  intro vs H1 F1 α1 x1 S1 o1
  cases o1 with
  | cons o1 o2=>cases o2;exact h _ H1 F1 α1 x1 S1 o1
theorem Hr{r:List V→Hp→VK→Prop}{f:T→Option T}(hs:qV X.K r f)(σ:St)(H:Hp)(Q:VK)(h:tD X (dUn f da) σ H Q):tCB r (tDA X [da]) σ H Q :=
 qX (one (r:=λv H Q=>r [v] H Q) hs σ H Q h)
theorem Jh{r:List V→Hp→VK→Prop}{f:T→Option T}(hs:wH X.K r f)(σ:St)(H:Hp)(Q:VK)(h:tF X (dUn f da) σ H Q):tCB r (tDA X [da]) σ H Q:=by
 refine qX ?_
 obtain⟨F,α,e,μ,S,h⟩:=h
 refine⟨F,α,e,μ,S,?_⟩
 refine (R.wp_bind h).mono (λx μ1 h v H1 F1 α1 x1 S1 o1=>?_) λ_ _ h=>h
 obtain⟨w,h9,t',e1,post⟩:=R.bK h
 obtain⟨t,w',ht,h,e2⟩:=mY h9
 subst e1
 cases e2
 exact hs F1 H1 _ t _ Q S1.st.ext (bo S1.st o1 ht) h λp o hp c =>
  post p _ F1 α1 (x1.trans (Ex.lay hp)) (S1.of (aU.refl _) (List.prefix_refl _) (S1.st.lay hp c.nt)) (x1.was S1.st hp) (S1.st.ext.free hp) (cW S1.st hp) c
theorem call2{r:List V→Hp→VK→Prop}{f:T→T→Option T}(hs:wG X.K r f)(σ:St)(H:Hp)(Q:VK)(h:tD X (aj f da db) σ H Q):tCB r (tDA X [da,db]) σ H Q:=by
 obtain⟨F,α,e,μ,S,h⟩:=h
 refine⟨F,α,e,μ,S,?_⟩
 rw[br]
 cases q:da e μ with
 | err c μ1=>rw[iO,q] at h;exact h
 | bad=>rw[iO,q] at h;exact h
 | ok x μ1 =>
  rw[iO,q] at h
  rw[R.aP] at h ⊢
  rw[br]
  cases q2:db e μ1 with
  | err c μ2=>rw[q2] at h;exact h
  | bad=>rw[q2] at h;exact h
  | ok y μ2 =>
   rw[q2] at h
   intro vs H1 F1 α1 x1 S1 o1
   cases o1 with
   | cons o1 o2 =>
    cases o2 with
    | cons o2 o3 =>
     cases o3
     obtain⟨w,h9,post⟩:=R.bK h
     obtain⟨t,u,w',ht,hu,h,rfl⟩:=qF h9
     exact hs F1 H1 _ _ t u w' Q S1.st.ext (bo S1.st o1 ht) (bo S1.st o2 hu) h λv' H' F' g rp =>
      post v' H' F' α1 (x1.trans (g.ex S1.st.ext)) (S1.grow g) rp
end
theorem yo{x:SV}{k:Bool}(h:asB x=some k):x=.val (.bl k):=by
 cases x with
 | val t=>cases t<;>first|(cases h;rfl)|cases h
 | cel j=>cases h
 | box xs=>cases h
theorem oq{β:Type}{r:R SV}{f:Bool→ah→R β}{Q:β→ah→Prop}{E:T→ah→Prop}(h:(r.bind λy μ1=>(R.lift (asB y) μ1).bind f).wp Q E) :
  r.wp (λx μ=>∃k,x=.val (.bl k)∧(f k μ).wp Q E) E:=(R.wp_bind h).mono (λx μ h=>by
 obtain⟨k,hk,h⟩:=R.bK (R.wp_bind h)
 exact⟨k,yo hk,h⟩) λ_ _ h=>h
def CW(X:Cx)(e:Expr)(d:D):Prop:=PW X e (tDT X d)
theorem PW.imp{X:Cx}{e:Expr}{t t':TT}(h:PW X e t)(i:∀σ H Q,t' σ H Q→t σ H Q):PW X e t':=λwhole pins s σ H Q I q=>h whole pins s σ H Q I (i σ H Q q)
theorem um{X:Cx}{d:D}{σ:St}{H:Hp}{Q:Bool→Hp→Prop}(h:tDT X d σ H Q):tD X d σ H λx H'=>∃k,x=.bl k∧Q k H':=by
 obtain⟨F,α,e,μ,S,h⟩:=h
 refine⟨F,α,e,μ,S,h.mono (λx μ' aq v H' F' α' y S' o=>?_) λ_ _ h=>h⟩
 obtain⟨b,hb,post⟩:=aq
 subst hb
 exact⟨b,Rep.jt (K:=X.K) (F:=F') o,post H' F' α' y S'⟩
section
variable{X:Cx}{a b c:Expr}{da db dc:D}{pos:Pos}{rest:List Expr}
theorem u7(h:CE X a da)(he:∀whole,isTrue a X.env whole=(do let v ← whole;standAt a.pos;holding [v] (truthy v)):=by intro _;rfl):CT X a da :=
 PT.imp (HX h he) λσ H Q q=>um q
theorem ng{op:CmpOp}{r:R2}{f:T→T→Option T}(ho:OpR X (compareOp op) r)(hs:gd X.K r f)(hm:behindInMarks op b=false)(ha:CE X a da)(hb:CE X b db):CT X (.Compare a [op] [b] pos) (aj f da db) :=
 PT.imp (Ff ho ha hb hm) λσ H Q q=>two hs σ H _ (um q)
theorem Dn(h:CT X a da):CT X (.UnaryOp .Not a pos) (wu da):=PT.imp (HZ h) λσ H Q aq=>by
 obtain⟨F,α,e,μ,S,h⟩:=aq
 refine⟨F,α,e,μ,S,(oq h).mono (λx μ1 ⟨k,hx,b,hb,h⟩=>⟨k,hx,?_⟩) λ_ _ h=>h⟩
 cases hb
 exact h
theorem Bk(h:CT X a da):CW X (.BoolOp .Or [a] pos) da:=HY h
theorem CW.ct(h:CW X a da):CT X a da:=PW.pt h
theorem Li(ha:CT X a da)(hb:CW X (.BoolOp .Or (b::rest) pos) db):CW X (.BoolOp .Or (a::b::rest) pos) (dOr da db) :=
 PW.imp (Kw ha hb) λσ H Q aq=>by
  obtain⟨F,α,e,μ,S,h⟩:=aq
  refine⟨F,α,e,μ,S,(oq h).mono (λx μ1 ⟨k,hx,h⟩=>⟨k,hx,λH1 F1 α1 x1 S1=>?_⟩) λ_ _ h=>h⟩
  cases k with
  | true =>
   rw[if_pos rfl] at h ⊢
   obtain⟨b,hb,h⟩:=h
   cases hb
   exact h H1 F1 α1 x1 S1
  | false =>
   rw[if_neg Bool.false_ne_true] at h ⊢
   exact⟨F1,α1,e,μ1,S1,h.mono (λy μ2 ⟨b,hb,h⟩=>⟨b,hb,λH2 F2 α2 x2 S2=>h H2 F2 α2 (x1.trans x2) S2⟩) λ_ _ h=>h.mono x1⟩
theorem Dp{op}(h:CE X a da):CE X (.BoolOp op [a] pos) da:=H_ h
theorem Ji(ha:CE X a da)(hb:CE X (.BoolOp .And (b::rest) pos) db):CE X (.BoolOp .And (a::b::rest) pos) (C7 da db) :=
 PE.imp (Ia ha hb) λσ H Q aq=>by
  obtain⟨F,α,e,μ,S,h⟩:=aq
  refine⟨F,α,e,μ,S,(oq h).mono (λx μ1 cJ v H1 F1 α1 x1 S1 o1=>?_) λ_ _ h=>h⟩
  obtain⟨k,hx,h⟩:=cJ
  subst hx
  refine⟨k,Rep.jt (K:=X.K) (F:=F1) o1,?_⟩
  cases k with
  | true =>
   rw[if_pos rfl] at h ⊢
   exact⟨F1,α1,e,μ1,S1,h.mono (λy μ2 h v H2 F2 α2 x2 S2 o2=>h v H2 F2 α2 (x1.trans x2) S2 o2) λ_ _ h=>h.mono x1⟩
  | false =>
   rw[if_neg Bool.false_ne_true] at h ⊢
   exact h _ H1 F1 α1 x1 S1 (Rep.bl' (K:=X.K) (F:=F1) _)
theorem Lj(ha:CE X a da)(hb:CE X (.BoolOp .Or (b::rest) pos) db):CE X (.BoolOp .Or (a::b::rest) pos) (dOr da db) :=
 PE.imp (Ky ha hb) λσ H Q aq=>by
  obtain⟨F,α,e,μ,S,h⟩:=aq
  refine⟨F,α,e,μ,S,(oq h).mono (λx μ1 cJ v H1 F1 α1 x1 S1 o1=>?_) λ_ _ h=>h⟩
  obtain⟨k,hx,h⟩:=cJ
  subst hx
  refine⟨k,Rep.jt (K:=X.K) (F:=F1) o1,?_⟩
  cases k with
  | true =>
   rw[if_pos rfl] at h ⊢
   exact h _ H1 F1 α1 x1 S1 (Rep.bl' (K:=X.K) (F:=F1) _)
  | false =>
   rw[if_neg Bool.false_ne_true] at h ⊢
   exact⟨F1,α1,e,μ1,S1,h.mono (λy μ2 h v H2 F2 α2 x2 S2 o2=>h v H2 F2 α2 (x1.trans x2) S2 o2) λ_ _ h=>h.mono x1⟩
theorem Jj(hc:CT X c dc)(ha:CE X a da)(hb:CE X b db):CE X (.IfExp c a b pos) (FE dc da db) :=
 PE.imp (Ct hc ha hb) λσ H Q aq=>by
  obtain⟨F,α,e,μ,S,h⟩:=aq
  refine⟨F,α,e,μ,S,(oq h).mono (λx μ1 ⟨k,hx,h⟩=>⟨k,hx,λH1 F1 α1 x1 S1=>?_⟩) λ_ _ h=>h⟩
  cases k with
  | true =>
   rw[if_pos rfl] at h ⊢
   exact⟨F1,α1,e,μ1,S1,h.mono (λy μ2 h v H2 F2 α2 x2 S2 o2=>h v H2 F2 α2 (x1.trans x2) S2 o2) λ_ _ h=>h.mono x1⟩
  | false =>
   rw[if_neg Bool.false_ne_true] at h ⊢
   exact⟨F1,α1,e,μ1,S1,h.mono (λy μ2 h v H2 F2 α2 x2 S2 o2=>h v H2 F2 α2 (x1.trans x2) S2 o2) λ_ _ h=>h.mono x1⟩
end
def bh(X:Cx)(F:Hp)(α:List Addr)(H:Hp)(D:Ends):RS→Prop
 | .nx e' μ'=>∀σ' H' F' α',Ex F α H F' α' H'→Sim X.K F' α' e' μ' σ' H'→D.nx σ' H'
 | .rt x μ'=>∀v H' F' α',Ex F α H F' α' H'→dY X.K F' α' μ' H'→iq X.K F' α' v x→D.rt v H'
 | .bk e' μ'=>∀σ' H' F' α',Ex F α H F' α' H'→Sim X.K F' α' e' μ' σ' H'→D.bk σ' H'
 | .ct e' μ'=>∀σ' H' F' α',Ex F α H F' α' H'→Sim X.K F' α' e' μ' σ' H'→D.ct σ' H'
 | .err c e' μ'=>hJ X F α H e' c μ'
 | .bad=>False
theorem bh.mono{X:Cx}{F F' H H':Hp}{α α':List Addr}{D:Ends}{r:RS}(x:Ex F α H F' α' H')(h:bh X F α H D r):bh X F' α' H' D r:=by
 cases r with
 | nx e μ=>exact λσ H F2 α2 x2=>h σ H F2 α2 (x.trans x2)
 | rt y μ=>exact λσ H F2 α2 x2=>h σ H F2 α2 (x.trans x2)
 | bk e μ=>exact λσ H F2 α2 x2=>h σ H F2 α2 (x.trans x2)
 | ct e μ=>exact λσ H F2 α2 x2=>h σ H F2 α2 (x.trans x2)
 | err c e μ=>exact hJ.mono x h
 | bad=>exact h
def tDS(X:Cx)(d:DS):TS:=λD σ H=>∃F α e μ,Sim X.K F α e μ σ H∧bh X F α H D (d e μ)
def CS(X:Cx)(st:Stmt)(d:DS):Prop:=PS X st (tDS X d)
def CSs(X:Cx)(st:List Stmt)(d:DS):Prop:=PSs X st (tDS X d)
theorem bh.toS{α':Type}{X:Cx}{F H:Hp}{α:List Addr}{D:Ends}{x:R α'}{e:Slots}{f:α'→ah→RS}(h:bh X F α H D (x.toS e f)):x.wp (λa μ=>bh X F α H D (f a μ)) (hJ X F α H e):=by
 cases x with
 | ok a μ=>exact h
 | err c μ=>exact h
 | bad=>exact h
theorem bh.lift{α':Type}{X:Cx}{F H:Hp}{α:List Addr}{D:Ends}{o:Option α'}{μ:ah}{e:Slots}{f:α'→ah→RS}(h:bh X F α H D ((R.lift o μ).toS e f)):∃a,o=some a∧bh X F α H D (f a μ):=R.bK h.toS
theorem bh.asB{X:Cx}{F H:Hp}{α:List Addr}{D:Ends}{x:R SV}{e:Slots}{f:Bool→ah→RS}(h:bh X F α H D (x.toS e λy μ1=>(R.lift (Fw.asB y) μ1).toS e f)):x.wp (λy μ1=>∃k,y=.val (.bl k)∧bh X F α H D (f k μ1)) (hJ X F α H e) :=
 h.toS.mono (λy μ h=>by
  obtain⟨k,hk,h⟩:=h.lift
  exact⟨k,yo hk,h⟩) λ_ _ h=>h
section
variable{X:Cx}{st:Stmt}{sts:List Stmt}{d d1 d2:DS}{e:Expr}{de:D}{pos:Pos}
theorem bL:CSs X [] b_:=PSs.imp E_ λD σ H ⟨F,α,e,μ,S,h⟩=>h σ H F α Ex.refl S
theorem av(h:CS X st d):CSs X [st] d:=Fb h
theorem ak(h1:CS X st d1)(h2:CSs X sts d2):CSs X (st::sts) (ax d1 d2):=PSs.imp (Cu h1 h2) λD σ H aq=>by
 obtain⟨F,α,e,μ,S,h⟩:=aq
 refine⟨F,α,e,μ,S,?_⟩
 unfold ax at h
 cases q:d1 e μ with
 | nx e1 μ1 =>
  rw[q] at h
  exact λσ' H' F' α' x S'=>⟨F',α',e1,μ1,S',h.mono x⟩
 | rt x μ1=>rw[q] at h;exact h
 | bk e1 μ1=>rw[q] at h;exact h
 | ct e1 μ1=>rw[q] at h;exact h
 | err c e1 μ1=>rw[q] at h;exact h
 | bad=>rw[q] at h;exact h
theorem aJ(he:CE X e de):CS X (.Return (some e) pos) (aH de):=PS.imp (Ib he) λD σ H ⟨F,α,e,μ,S,h⟩ =>
 ⟨F,α,e,μ,S,(bh.toS h).mono (λx μ1 h v H1 F1 α1 x1 S1 o1=>h v H1 F1 α1 x1 S1.st o1) λ_ _ h=>h⟩
theorem slot_set{e:Slots}{i j:Nat}{x y:SV}(h:slot (e.set i (some x)) j=some y):(j=i∧y=x)∨slot e j=some y:=by
 unfold slot at h
 by_cases q:i=j
 ·subst q
  by_cases hl:i<e.length
  ·rw[List.getElem?_set_self hl] at h
   cases h
   exact .inl ⟨rfl,rfl⟩
  ·rw[List.getElem?_eq_none (by rw[List.length_set];omega)] at h
   cases h
 ·rw[List.getElem?_set_ne q] at h
  exact .inr h
theorem Sim.set{K:PySem.W.Frag}{F H:Hp}{α:List Addr}{e:Slots}{μ:ah}{σ:St}{v:V}{x:SV}{i:Nat}(S:Sim K F α e μ σ H)(o:iq K F α v x):Sim K F α (e.set i (some x)) μ (σ.set i (some v)) H:=by
 refine⟨S.st,λj y h=>?_,by rw[List.length_set,List.length_set,S.len]⟩
 by_cases q:i=j
 ·subst q
  have hl:i<e.length:=by
   unfold slot at h
   by_cases hl:i<e.length
   ·exact hl
   ·rw[List.getElem?_eq_none (by rw[List.length_set];omega)] at h
    cases h
  have hy:y=x:=by
   unfold slot at h
   rw[List.getElem?_set_self hl] at h
   cases h;rfl
  subst hy
  exact⟨v,by rw[List.getElem?_set_self (by rw[← S.len];exact hl)],o⟩
 ·rcases slot_set h with ⟨rfl,_⟩|h
  ·exact absurd rfl q
  ·obtain⟨w,h1,h2⟩:=S.sl j y h
   exact⟨w,by rw[List.getElem?_set_ne q];exact h1,h2⟩
theorem aF(i:Nat){x:Str}{pos':Pos}(hN:X.N.Nodup)(he:CE X e de)(hi:X.N[i]?=some x:=by rfl)(hx:Loc X.env.scope x:=by first|exact Or.inl rfl|exact Or.inr rfl)(hs:swapsWith e (some (.Name x pos')) pos.line X.env=pure false:=by rfl)
  (hf:X.fn x=true∨X.env.scope.names.lookup x=some .local:=by first|exact .inl rfl|exact .inr rfl|assumption):CS X (.Assign [.Name x pos'] e pos) (aC i de) :=
 PS.imp (Ii hN hi hx he hs hf) λD σ H ⟨F,α,e,μ,S,h⟩ =>
  ⟨F,α,e,μ,S,(bh.toS h).mono (λx μ1 h v H1 F1 α1 x1 S1 o1=>h _ H1 F1 α1 x1 (S1.set o1)) λ_ _ h=>h⟩
theorem eA{c:Expr}{as bs:List Stmt}{dc:D}(hc:CT X c dc)(ha:CSs X as d1)(hb:CSs X bs d2):CS X (.If c as bs pos) (sIf dc d1 d2):=PS.imp (KC hc ha hb) λD σ H aq=>by
 obtain⟨F,α,e,μ,S,h⟩:=aq
 refine⟨F,α,e,μ,S,(bh.asB h).mono (λx μ1 ⟨k,hk,h⟩=>⟨k,hk,λH1 F1 α1 x1 S1=>?_⟩) λ_ _ h=>h⟩
 cases k with
 | true=>exact⟨F1,α1,e,μ1,S1,bh.mono x1 h⟩
 | false=>exact⟨F1,α1,e,μ1,S1,bh.mono x1 h⟩
theorem Jk:CS X st Jd:=PS.imp Cv λD σ H ⟨F,α,e,μ,S,h⟩=>h
end
end Fw
namespace Fw
open PySem PySem.Spec PyProof.Rows L2
def Lk(K:PySem.W.Frag)(F:Hp)(α:List Addr)(J:It)(W:Wk):Prop:=∀F2 α2 μ2 H2,aU F F2→α <+: α2→dY K F2 α2 μ2 H2→W.same μ2 →
 (∀i t,W.items[i]?=some t→J.go i H2∧∀x H3,J.yld i H2 x H3→∃F3,bI F2 H2 F3 H3∧Rep K F3 t x)∧J.stop W.items.length H2
def tDI(X:Cx)(d:DI):TI:=λσ H R=>∃F α e μ,Sim X.K F α e μ σ H∧(d e μ).wp (λW μ' =>
 ∀J H' F' α',Ex F α H F' α' H'→Sim X.K F' α' e μ' σ H'→Lk X.K F' α' J W→R J H') (hJ X F α H e)
def CI(X:Cx)(tg e:Expr)(d:DI):Prop:=PI X tg e (tDI X d)
theorem PI.imp{X:Cx}{tg e:Expr}{t t':TI}(h:PI X tg e t)(i:∀σ H R,t' σ H R→t σ H R):PI X tg e t':=λpins s σ H R I q=>h pins s σ H R I (i σ H R q)
def Ll(K:PySem.W.Frag)(tl:TE):TI:=λσ H R=>tl σ H λx H1=>∃a,x=.ref a∧(((∃xs,SqL K H1 a xs)∧R (Itl K a) H1)∨((∃xs,SqT K H1 a xs)∧R (Itt K a) H1))
section
variable{X:Cx}{tg:Expr}
theorem Gh{l:Expr}{tl:TE}(hl:PE X l tl):PI X tg l (Ll X.K tl):=by
 intro pins s σ H R I h
 refine thn (hl pins s σ H _ I h) λv s1 aq=>?_
 obtain⟨x,H1,I1,r1,q1⟩:=aq
 obtain⟨a,e,q⟩:=q1
 subst e
 cases r1
 rcases q with ⟨⟨xs,hq⟩,q⟩|⟨⟨xs,hq⟩,q⟩
 ·obtain⟨its,rv,p,hz⟩:=I1.list hq
  refine wpAny_pyIter_list p.isList ?_
  refine⟨s1.heap.objs.size,[s1.heap.objs.size],_,_,H1,rfl,I1.kept (t':=s1.toks) λb o e=>Heap.get?_push_of_some _ e,AY a _,⟨_,Heap.get?_push_size _ rfl,rfl,rfl⟩,λb hb=>?_,q⟩
  have e:b=s1.heap.objs.size:=by simpa using hb
  subst e
  exact I1.xN (Nat.le_refl _) (I1.hok.fresh (Nat.le_refl _))
 ·obtain⟨its,rv,p,hz⟩:=I1.tuple hq
  refine wpAny_pyIter_tuple (show s1.heap.IsTuple a its.toArray from p) ?_
  refine⟨s1.heap.objs.size,[s1.heap.objs.size],_,_,H1,rfl,I1.kept (t':=s1.toks) λb o e=>Heap.get?_push_of_some _ e,xO a _,⟨_,Heap.get?_push_size _ rfl,rfl,rfl⟩,λb hb=>?_,q⟩
  have e:b=s1.heap.objs.size:=by simpa using hb
  subst e
  exact I1.xN (Nat.le_refl _) (I1.hok.fresh (Nat.le_refl _))
theorem fW{a:Expr}{da:D}(h:CE X a da):CI X tg a (fh da):=PI.imp (Gh h) λσ H R0 aq=>by
 obtain⟨F,α,e,μ,S,h⟩:=aq
 refine⟨F,α,e,μ,S,(R.wp_bind h).mono (λx μ1 h v H1 F1 α1 x1 S1 o1=>?_) λ_ _ h=>h⟩
 obtain⟨ts,ht,post⟩:=R.bK (R.wp_bind h)
 obtain⟨t,hr,ht⟩:=Option.bind_eq_some_iff.mp ht
 have n1:=bo S1.st o1 hr
 cases t with
 | lst us =>
  cases ht
  obtain⟨a,vs,rfl,hq,hl⟩:=n1
  refine⟨a,rfl,.inl ⟨⟨vs,hq⟩,post _ H1 F1 α1 x1 S1 λF2 α2 μ2 H2 s2 p2 S2 same=>?_⟩⟩
  obtain⟨a',vs',e1,hq2,hl2⟩:=bo S2 (o1.mono s2 p2) ((show rd μ2 x=rd μ1 x from same).trans hr)
  cases e1
  refine⟨λi t hi=>?_,⟨vs',hq2,by rw[← hl2.length];exact Nat.le_refl _⟩⟩
  obtain⟨v,hv,rv⟩:=hl2.get hi
  exact⟨⟨vs',v,hq2,hv⟩,λy H3 cJ=>by
   obtain⟨e3,hy⟩:=cJ
   subst e3
   have:=hy vs' hq2
   rw[hv] at this;cases this
   exact⟨F2,bI.refl,rv⟩⟩
 | tup us =>
  cases ht
  obtain⟨a,vs,rfl,hq,hl⟩:=n1
  refine⟨a,rfl,.inr ⟨⟨vs,aU.lu S1.st.ext hq⟩,post _ H1 F1 α1 x1 S1 λF2 α2 μ2 H2 s2 p2 S2 same=>?_⟩⟩
  obtain⟨a',vs',e1,hq2,hl2⟩:=bo S2 (o1.mono s2 p2) ((show rd μ2 x=rd μ1 x from same).trans hr)
  have hq2:=aU.lu S2.ext hq2
  cases e1
  refine⟨λi t hi=>?_,⟨vs',hq2,by rw[← hl2.length];exact Nat.le_refl _⟩⟩
  obtain⟨v,hv,rv⟩:=hl2.get hi
  exact⟨⟨vs',v,hq2,hv⟩,λy H3 qx=>by
   obtain⟨e3,hy⟩:=qx
   subst e3
   have:=hy vs' hq2
   rw[hv] at this;cases this
   exact⟨F2,bI.refl,rv⟩⟩
 | _=>cases ht
theorem uo:∀{n:Nat}{lo:Int}{i:Nat}{t:T},(bq lo n)[i]?=some t→i<n∧t=.int (lo+i)
 | 0,lo,i,t,h=>by simp[bq] at h
 | n+1,lo,0,t,h=>by
  simp[bq] at h
  subst h
  exact⟨Nat.succ_pos _,by simp⟩
 | n+1,lo,i+1,t,h=>by
  have h:(bq (lo+1) n)[i]?=some t:=by simpa [bq] using h
  obtain⟨h1,h2⟩:=uo h
  exact⟨Nat.succ_lt_succ h1,by rw[h2];congr 1;omega⟩
theorem ot:∀(n:Nat) (lo:Int),(bq lo n).length=n
 | 0,_=>rfl
 | n+1,lo=>by rw[bq,List.length_cons,ot]
theorem Jl{K:PySem.W.Frag}{F:Hp}{α:List Addr}(lo:Int)(n:Nat):Lk K F α (Itr lo n) ⟨bq lo n,λ_=>True⟩:=λF2 α2 μ2 H2 s2 p2 S2 _=>by
 refine⟨λi t hi=>?_,?_⟩
 ·obtain⟨h1,rfl⟩:=uo hi
  exact⟨h1,λx H3 aq=>by obtain⟨e1,e2⟩:=aq;subst e1;subst e2;exact⟨F2,bI.refl,Rep.ip _⟩⟩
 ·show n≤(bq lo n).length
  rw[ot];exact Nat.le_refl _
theorem wJ{t:T}{i:Int}(h:lI t=some i):t=.int i:=by
 cases t<;>first|(cases h;rfl)|cases h
theorem bP{a:Expr}{da:D}{p pos:Pos}(hm:X.mg "range"=none)(h:CE X a da)(hg:Gl X "range":=by rfl)(hs:starEach [a] X.env=[(false,eval a X.env)]:=by rfl):CI X tg (.Call (.Name "range" p) [a] [] pos) (aV da) :=
 PI.imp (AZ hg hm (ag h ar hs) hs) λσ H R0 aq=>by
  obtain⟨F,α,e,μ,S,h⟩:=aq
  refine qX ⟨F,α,e,μ,S,(R.wp_bind h).mono (λx μ1 h v H1 F1 α1 x1 S1 o1=>?_) λ_ _ h=>h⟩
  obtain⟨j,ht,h⟩:=R.bK (R.wp_bind h)
  obtain⟨t,hr,ht⟩:=Option.bind_eq_some_iff.mp ht
  cases wJ ht
  by_cases hb':eO j=true
  ·rw[if_pos hb'] at h
   have hb:=Bi hb'
   cases (bo S1.st o1 hr).int
   exact⟨j,rfl,hb.1,hb.2,h _ H1 F1 α1 x1 S1 (Jl 0 j.toNat)⟩
  ·rw[if_neg hb'] at h;exact h.elim
theorem Lm{da db:D}{σ:L2.St}{H:Hp}{Q:List V→Hp→Prop}(h:∃F α e μ,Sim X.K F α e μ σ H∧(da e μ).wp (λx μ1=>(db e μ1).wp (λy μ2=>∀v u H' F' α',Ex F α H F' α' H'→Sim X.K F' α' e μ2 σ H'→iq X.K F' α' v x→iq X.K F' α' u y→Q [v,u] H') (hJ X F α H e)) (hJ X F α H e)):tDA X [da,db] σ H Q:=by
 obtain⟨F,α,e,μ,S,h⟩:=h
 refine⟨F,α,e,μ,S,?_⟩
 rw[br]
 cases q:da e μ with
 | err c μ1=>rw[q] at h;exact h
 | bad=>rw[q] at h;exact h
 | ok x μ1 =>
  rw[q] at h
  rw[R.aP,br]
  have h:(db e μ1).wp _ _:=h
  cases q2:db e μ1 with
  | err c μ2=>rw[q2] at h;exact h
  | bad=>rw[q2] at h;exact h
  | ok y μ2 =>
   rw[q2] at h
   intro vs H1 F1 α1 x1 S1 o1
   cases o1 with
   | cons o1 o2 =>
    cases o2 with
    | cons o2 o3=>cases o3;exact h _ _ H1 F1 α1 x1 S1 o1 o2
end
def tBd(K:PySem.W.Frag)(b:BD):TG:=λv σ H Q=>∃F α e μ t e',Sim K F α e μ σ H∧Rep K F t v∧b t e=some e'∧∀σ',Sim K F α e' μ σ' H→Q σ' H
def CB(X:Cx)(tg:Expr)(b:BD):Prop:=PG X tg (tBd X.K b)
theorem PG.imp{X:Cx}{tg:Expr}{t t':TG}(h:PG X tg t)(i:∀v σ H Q,t' v σ H Q→t v σ H Q):PG X tg t':=λpins s σ H v u Q I r q=>h pins s σ H v u Q I r (i v σ H Q q)
section
variable{X:Cx}{pos:Pos}
theorem bf(i:Nat){x:Str}(hN:X.N.Nodup)(hi:X.N[i]?=some x:=by rfl)(hx:Loc X.env.scope x:=by first|exact Or.inl rfl|exact Or.inr rfl)(hf:X.fn x=true∨X.env.scope.names.lookup x=some .local:=by first|exact .inl rfl|exact .inr rfl|assumption) :
  CB X (.Name x pos) (aD i):=PG.imp (mB hN hi hx hf) λv σ H Q aq=>by
 obtain⟨F,α,e,μ,t,e',S,r,hb,q⟩:=aq
 cases hb
 exact q _ (S.set (x:=.val t) r)
theorem fN(i j:Nat){x y:Str}{px py:Pos}{k:Nat}(hN:X.N.Nodup)(hc:X.calm=true)(hi:X.N[i]?=some x:=by rfl)(hj:X.N[j]?=some y:=by rfl)(hx:Loc X.env.scope x:=by first|exact Or.inl rfl|exact Or.inr rfl)
  (hy:Loc X.env.scope y:=by first|exact Or.inl rfl|exact Or.inr rfl)
  (hf:X.fn x=true∨X.env.scope.names.lookup x=some .local:=by first|exact .inl rfl|exact .inr rfl|assumption) (hf':X.fn y=true∨X.env.scope.names.lookup y=some .local:=by first|exact .inl rfl|exact .inr rfl|assumption)
  : CB X (.Tuple [.Name x px,.Name y py] k pos) (cR [i,j]) :=
 PG.imp (Cy hc (ly (mB hN hi hx hf) (ly (mB hN hj hy hf') zA))) λv σ H Q aq=>by
  obtain⟨F,α,e,μ,t,e',S,r,hb,q⟩:=aq
  cases t with
  | tup ts =>
   unfold cR at hb
   simp only at hb
   by_cases hl:ts.length=[i,j].length
   ·rw[if_pos hl] at hb
    rw[Rep] at r
    obtain⟨a,vs,rfl,hq,hr⟩:=r
    match ts,vs,hl,hr with
    | [t1,t2],vs,_,hr =>
     rw[aG] at hr
     obtain⟨v1,vs1,rfl,r1,hr⟩:=hr
     rw[aG] at hr
     obtain⟨v2,vs2,rfl,r2,hr⟩:=hr
     rw[aG] at hr
     subst hr
     cases hb
     exact⟨a,_,rfl,aU.lu S.st.ext hq,rfl,v1,[v2],rfl,v2,[],rfl,rfl,q _ ((S.set (x:=.val t1) r1).set (x:=.val t2) r2)⟩
   ·rw[if_neg hl] at hb;cases hb
  | _=>cases hb
end
section
variable{X:Cx}{tg iter c:Expr}{body:List Stmt}{di:DI}{b:BD}{d:DS}{dc:D}{pos:Pos}
theorem fX(hp:PassesOwn (model X.prog X.w) X.A X.env X.xe)(hc:X.calm=true)(hi:CI X tg iter di)(hg:CB X tg b)(hb:CSs X body d)(hs:∀x,foldedSetIterable iter X.env x=pure x:=by intro _;rfl) :
  CS X (.For tg iter body [] pos) (eQ di b d):=PS.imp (Ik hp hc hi hg hb hs) λD σ H aq=>by
 obtain⟨F,α,e,μ,S,h⟩:=aq
 refine⟨F,α,e,μ,S,(bh.toS h).mono (λW μ1 h J H1 F1 α1 x1 S1 ok=>?_) λ_ _ h=>h⟩
 refine⟨λi m σ H=>m=W.items.length-i∧i≤W.items.length∧∃F2 α2 e2 μ2,aU F1 F2∧α1 <+: α2∧Sim X.K F2 α2 e2 μ2 σ H∧bh X F2 α2 H D (forL W.same b d (W.items.drop i) e2 μ2),
  ⟨_,rfl,Nat.zero_le _,F1,α1,e,μ1,aU.refl _,List.prefix_refl _,S1,bh.mono x1 h⟩,?_⟩
 rintro i m σ2 H2 ⟨rfl,hi,F2,α2,e2,μ2,s2,p2,S2,h⟩
 by_cases hlt:i<W.items.length
 ·rw[List.drop_eq_getElem_cons hlt] at h
  unfold forL at h
  by_cases hs:W.same μ2
  ·rw[if_pos hs] at h
   obtain⟨g1,g2⟩:=ok F2 α2 μ2 H2 s2 p2 S2.st hs
   obtain⟨go,yl⟩:=g1 i W.items[i] (by simp[hlt])
   cases hb':b W.items[i] e2 with
   | none=>simp only[hb'] at h;exact h.elim
   | some e3 =>
    simp only[hb'] at h
    refine .inr ⟨go,λσ' H'=>∃F4 α4 e4 μ4,aU F1 F4∧α1 <+: α4∧Sim X.K F4 α4 e4 μ4 σ' H'∧bh X F4 α4 H' D (forL W.same b d (W.items.drop (i+1)) e4 μ4),
     λσ' H' q=>⟨W.items.length-(i+1),by omega,rfl,hlt,q⟩,λx H3 y=>?_⟩
    obtain⟨F3,gr,rp⟩:=yl x H3 y
    have x3:Ex F2 α2 H2 F3 α2 H3:=gr.ex S2.st.ext
    refine⟨F3,α2,e2,μ2,W.items[i],e3,S2.grow gr,rp,hb',λσ4 S4=>⟨F3,α2,e3,μ2,S4,?_⟩⟩
    cases q:d e3 μ2 with
    | nx e5 μ5 =>
     simp only[q] at h
     exact λσ' H' F' α' x S'=>⟨F',α',e5,μ5,s2.trans (x3.same.trans x.same),p2.trans x.pre,S',bh.mono (x3.trans x) h⟩
    | ct e5 μ5 =>
     simp only[q] at h
     exact λσ' H' F' α' x S'=>⟨F',α',e5,μ5,s2.trans (x3.same.trans x.same),p2.trans x.pre,S',bh.mono (x3.trans x) h⟩
    | bk e5 μ5 =>
     simp only[q] at h
     exact λσ' H' F' α' x S'=>h σ' H' F' α' (x3.trans x) S'
    | rt x μ5 =>
     simp only[q] at h
     exact λv H' F' α' x S'=>h v H' F' α' (x3.trans x) S'
    | err c e5 μ5=>simp only[q] at h;exact hJ.mono x3 h
    | bad=>simp only[q] at h;exact h
  ·rw[if_neg hs] at h;exact h.elim
 ·have e1:i=W.items.length:=by omega
  subst e1
  rw[List.drop_length] at h
  unfold forL at h
  by_cases hs:W.same μ2
  ·rw[if_pos hs] at h
   obtain⟨g1,g2⟩:=ok F2 α2 μ2 H2 s2 p2 S2.st hs
   exact .inl ⟨g2,h σ2 H2 F2 α2 Ex.refl S2⟩
  ·rw[if_neg hs] at h;exact h.elim
theorem Dq(hp:PassesOwn (model X.prog X.w) X.A X.env X.xe)(hc:CT X c dc)(hb:CSs X body d):CS X (.While c body [] pos) (m7 dc d):=PS.imp (CC hp hc hb) λD σ H aq=>by
 obtain⟨F,α,e,μ,S,h⟩:=aq
 unfold m7 at h
 by_cases hn:∃n,cT dc d n e μ≠.bad
 ·rw[dif_pos hn] at h
  refine⟨λm σ H=>∃F2 α2 e2 μ2,Sim X.K F2 α2 e2 μ2 σ H∧bh X F2 α2 H D (cT dc d m e2 μ2),⟨_,F,α,e,μ,S,h⟩,?_⟩
  rintro m σ H ⟨F2,α2,e2,μ2,S2,h⟩
  cases m with
  | zero=>exact h.elim
  | succ m =>
   unfold cT at h
   refine⟨F2,α2,e2,μ2,S2,(bh.asB h).mono (λx μ3 ⟨k,hx,h⟩=>⟨k,hx,λH3 F3 α3 x3 S3=>?_⟩) λ_ _ h=>h⟩
   cases k with
   | false =>
    rw[if_neg Bool.false_ne_true] at h ⊢
    exact h σ H3 F3 α3 x3 S3
   | true =>
    rw[if_pos rfl] at h ⊢
    refine⟨λσ' H'=>∃F4 α4 e4 μ4,Sim X.K F4 α4 e4 μ4 σ' H'∧bh X F4 α4 H' D (cT dc d m e4 μ4),λσ' H' q=>⟨m,Nat.lt_succ_self m,q⟩,F3,α3,e2,μ3,S3,?_⟩
    cases q:d e2 μ3 with
    | nx e5 μ5 =>
     rw[q] at h
     exact λσ' H' F' α' x S'=>⟨F',α',e5,μ5,S',bh.mono (x3.trans x) h⟩
    | ct e5 μ5 =>
     rw[q] at h
     exact λσ' H' F' α' x S'=>⟨F',α',e5,μ5,S',bh.mono (x3.trans x) h⟩
    | bk e5 μ5 =>
     rw[q] at h
     exact λσ' H' F' α' x S'=>h σ' H' F' α' (x3.trans x) S'
    | rt x μ5 =>
     rw[q] at h
     exact λσ' H' F' α' x S'=>h σ' H' F' α' (x3.trans x) S'
    | err c e5 μ5=>rw[q] at h;exact hJ.mono x3 h
    | bad=>rw[q] at h;exact h
 ·rw[dif_neg hn] at h;exact h.elim
end
end Fw
namespace L2
open PySem PySem.Spec PyProof.Rows
theorem u9{prog:Program}{w:World}{A:Around}{R:Result→Shared→Prop}{s:Shared}{elt target iter:Expr}{ifs:List Expr}{scope:Scope}{pos:Pos}{it acc:Value}{env:Env}(I:Nat→Shared→Prop)
  (turn:∀n s,I n s→wpAny (model prog w) A (pyNext it) (λr s₁=>match r with
   | none=>R (.ok .next) s₁
   | some v=>wpAny (model prog w) A (letOwnedTupleGo target it v) (λ_ s₁'=>wpAny (model prog w) A (assign target env v) (λ_ s₂ =>
     wpAny (model prog w) A (forIn ifs true λc r=>if r=true then do let ok ← isTrue c env (eval c env);pure (ForInStep.yield ok) else pure (ForInStep.yield r)) (λok s₃ =>
      if ok=true then wpAny (model prog w) A (eval elt env) (λx s₄ =>
       wpAny (model prog w) A (call (.builtin "list.append") [acc,x]) (λ_ s₅=>∃m,m<n∧I m s₅) (λ_ _=>False) s₄) (λ_ _=>False) s₃
      else ∃m,m<n∧I m s₃) (λ_ _=>False) s₂) (λ_ _=>False) s₁') (λ_ _=>False) s₁) (λ_ _=>False) s)
  (n:Nat) (h:I n s):codeAny (model prog w) A (.compLoop (.ListComp elt [⟨target,iter,ifs,0⟩] scope pos) 0 it acc env) R s:=by
 have no:∀{α:Type}{t:Sem α}{Q:α→Shared→Prop}{E:Value→Shared→Prop}{s:Shared},wpAny (model prog w) A t Q (λ_ _=>False) s→wpAny (model prog w) A t Q E s:=λh=>wpAny_mono h (λ_ _ x=>x) λ_ _ x=>x.elim
 refine codeAny_loop rfl I (λn s hI=>?_) n h
 show wpAny _ A ((compTurn (.ListComp elt [⟨target,iter,ifs,0⟩] scope pos) 0 it acc env).onRaise (λx=>do noteFrame x env;theTreesLotGoes x)) _ _ s
 refine wpAny_noted ?_
 rw[compTurn_list]
 refine wpAny_bind (wpAny_standAt (wpAny_bind (wpAny_mono (no (turn n s hI)) (λr s₁ h₁=>?_) λ_ _ h'=>h')))
 cases r with
 | none=>exact wpAny_pure h₁
 | some v =>
  refine wpAny_bind (wpAny_mono (no h₁) (λ_ s₁' h₁'=>?_) λ_ _ h'=>h')
  refine wpAny_bind (wpAny_mono (no h₁') (λ_ s₂ h₂=>wpAny_bind (wpAny_mono (no h₂) (λok s₃ h₃=>?_) λ_ _ h'=>h')) λ_ _ h'=>h')
  cases ok with
  | false=>exact wpAny_pure ⟨rfl,h₃⟩
  | true =>
   exact wpAny_bind (wpAny_bind (wpAny_mono (no h₃) (λx s₄ h₄=>wpAny_bind (wpAny_mono (no h₄) (λ_ s₅ h₅=>wpAny_pure (wpAny_pure ⟨rfl,h₅⟩)) λ_ _ h'=>h')) λ_ _ h'=>h'))
def cf(X:Cx)(N':List Str)(scope:Scope)(cl:List (Str×Addr))(C:Addr)(s₀:Shared)(H₀:Hp)(ex:List Addr):Cx :=
 { X with N:=N',s₀:=s₀,H₀:=H₀,env:=compEnvC scope cl C X.env,outer:=X.stack,stack:=X.stack,ex:=ex,fn:=λx=>(scope.names.lookup x==some NameKind.cell),pn:=[],xe:=λ_ _=>False }
def mN(X:Cx)(ifs:List Expr)(t:TT):Prop :=
 ∀(pins:List (Addr×Obj)) (s:Shared) (σ:St) (H:Hp) (Q:Bool→Hp→Prop),Inv X pins σ H s→t σ H Q →
  wpAny (model X.prog X.w) X.A (forIn ifs true λc r=>if r=true then do let ok ← isTrue c X.env (eval c X.env);pure (ForInStep.yield ok) else pure (ForInStep.yield r)) (TP X pins σ Q) X.xe s
theorem Dr{X:Cx}:mN X [] (λ_ H Q=>Q true H):=λ_ _ _ H _ I h=>wpAny_tests_nil ⟨H,I,h⟩
theorem Ds{X:Cx}{c:Expr}{t:TT}(h:PT X c t):mN X [c] t:=λpins s σ H Q I q=>wpAny_tests_one (h pins s σ H Q I q)
def sQ(mp:List (Option Nat))(σ:St):St:=mp.map λo=>o.bind λj=>(σ[j]?).bind id
structure gf(X:Cx)(N':List Str)(scope:Scope)(mp:List (Option Nat)):Prop where
 kind:scope.kind=.function
 cells:(scope.names.filter λy=>y.2==NameKind.cell).length≤1
 nd:(scope.names.map (·.1)).Nodup
 loc:∀x∈scope.names,x.2=.local→scope.names.lookup x.1=some .local
 free:∀y∈scope.names,y.2=.free→X.env.kindOf y.1=some .cell∨X.env.kindOf y.1=some .free
 len:mp.length=N'.length
 Ln:∀(i j:Nat),mp[i]?=some (some j)→∃x,N'[i]?=some x∧X.N[j]?=some x∧(x,NameKind.free)∈scope.names∧(X.env.scope.names.lookup x=some .cell∨X.env.scope.names.lookup x=some .free)
 seen:∀x,(x,NameKind.free)∈scope.names→(relabel scope X.env).names.lookup x=some .cell∨(relabel scope X.env).names.lookup x=some .free
 back:∀x,(relabel scope X.env).names.lookup x=some .cell∨(relabel scope X.env).names.lookup x=some .free→(x,NameKind.free)∈scope.names∨scope.names.lookup x=some .cell
inductive Gi(names:List (Str×NameKind))(n:Nat)(h:Heap)(acc:List (Str×Addr)):Prop where
 | no (h0:∀x,names.lookup x≠some .cell) (h1:cellsFrom n names acc=acc) (h2:pushCells h names=h)
 | one (y:Str) (h0:∀x,names.lookup x=some .cell→x=y) (hy:names.lookup y=some .cell) (h1:cellsFrom n names acc=(y,n)::acc) (h2:pushCells h names=h.push { cls:=.type "cell",data:=.cell none })
theorem wK:∀(names:List (Str×NameKind)) (n:Nat) (h:Heap) (acc:List (Str×Addr)),names.filter (λy=>y.2==NameKind.cell)=[]→(∀x,names.lookup x≠some .cell)∧cellsFrom n names acc=acc∧pushCells h names=h
 | [],n,h,acc,_=>⟨λx=>by simp,rfl,rfl⟩
 | (y,k)::names,n,h,acc,e=>by
  rw[List.filter_cons] at e
  cases hk:(k==NameKind.cell) with
  | true=>rw[if_pos (by exact hk)] at e;cases e
  | false =>
   rw[if_neg (by simp[hk])] at e
   obtain⟨h1,h2,h3⟩:=wK names n h acc e
   refine⟨λx hx=>?_,?_,?_⟩
   ·rw[List.lookup_cons] at hx
    cases hb:x==y with
    | true=>rw[hb] at hx;cases hx;simp at hk
    | false=>rw[hb] at hx;exact h1 x hx
   ·unfold cellsFrom;rw[if_neg (by simp[hk])];exact h2
   ·unfold pushCells;rw[if_neg (by simp[hk])];exact h3
theorem wL:∀(names:List (Str×NameKind)) (n:Nat) (h:Heap) (acc:List (Str×Addr)),(names.filter λy=>y.2==NameKind.cell).length≤1→(names.map (·.1)).Nodup→Gi names n h acc
 | [],n,h,acc,_,_=>.no (λx=>by simp) rfl rfl
 | (y,k)::names,n,h,acc,e,nd=>by
  rw[List.filter_cons] at e
  have nd':=List.nodup_cons.mp (by simpa using nd:(y::names.map (·.1)).Nodup)
  cases hk:(k==NameKind.cell) with
  | true =>
   rw[if_pos (by exact hk)] at e
   have e0:names.filter (λy=>y.2==NameKind.cell)=[]:=List.length_eq_zero_iff.mp (by simpa using e)
   obtain⟨h1,h2,h3⟩:=wK names (n+1) (h.push { cls:=.type "cell",data:=.cell none }) ((y,n)::acc) e0
   have ek:k=.cell:=by simpa using hk
   subst ek
   refine .one y (λx hx=>?_) (by simp) ?_ ?_
   ·rw[List.lookup_cons] at hx
    cases hb:x==y with
    | true=>exact eq_of_beq hb
    | false=>rw[hb] at hx;exact absurd hx (h1 x)
   ·unfold cellsFrom;rw[if_pos (by simp)];exact h2
   ·unfold pushCells;rw[if_pos (by simp)];exact h3
  | false =>
   rw[if_neg (by simp[hk])] at e
   have kn:k≠.cell:=by simpa using hk
   have lk:∀x,((y,k)::names).lookup x=some .cell→names.lookup x=some .cell:=λx hx=>by
    rw[List.lookup_cons] at hx
    cases hb:x==y with
    | true=>rw[hb] at hx;cases hx;exact absurd rfl kn
    | false=>rw[hb] at hx;exact hx
   cases wL names n h acc e nd'.2 with
   | no h0 h1 h2 =>
    refine .no (λx hx=>h0 x (lk x hx)) ?_ ?_
    ·unfold cellsFrom;rw[if_neg (by simp[hk])];exact h1
    ·unfold pushCells;rw[if_neg (by simp[hk])];exact h2
   | one z h0 hz h1 h2 =>
    have zne:(z==y)=false:=by
     have:z≠y:=λq=>by
      subst q
      exact nd'.1 (List.mem_map.mpr ⟨_,PySem.mem_of_lookup hz,rfl⟩)
     simpa using this
    refine .one z (λx hx=>h0 x (lk x hx)) (by rw[List.lookup_cons,zne];exact hz) ?_ ?_
    ·unfold cellsFrom;rw[if_neg (by simp[hk])];exact h1
    ·unfold pushCells;rw[if_neg (by simp[hk])];exact h2
theorem wM{M:Model}{A:Around}{E:Value→Shared→Prop}{s:Shared}{scope:Scope}{globals:Addr}{cl:List (Str×Addr)}{qual:Str}{outer:Env}{Q:Env→Shared→Prop}
  (hQ:Q (newEnv scope s.heap.objs.size globals (cellsFrom (s.heap.objs.size+1) scope.names cl) qual none .none (some outer) builtinsNs) { s with heap:=pushCells (s.heap.push { cls:=.type "dict",data:=.dict #[] }) scope.names }) :
  wpAny M A (newFunctionEnv scope globals cl [] qual none .none (some outer)) Q E s:=by
 simp only[newFunctionEnv,Option.isSome_some,if_true]
 refine wpAny_bind (wpAny_alloc ?_)
 refine wpAny_bind (wpAny_layCells _ (λname kind cells=>by cases hkc:kind==NameKind.cell<;>simp[hkc]) _ _ _ _ ?_)
 rw[show ({ s with heap:=s.heap.push { cls:=.type "dict",data:=.dict #[] } }:Shared).heap.objs.size=s.heap.objs.size+1 from Heap.size_push ..]
 simp only[List.forIn_nil]
 exact wpAny_bind (wpAny_pure (wpAny_pure hQ))
theorem kA{env:Env}:∀(names:List (Str×NameKind)) (acc:List (Str×Addr)),(∀y∈names,y.2=.free→∃c,env.cells.lookup y.1=some c) →
  ∃cl:List (Str×Addr),(forIn names acc λx r=>(if (x.2==NameKind.free)=true then do let c ← cellOf env x.1;pure (ForInStep.yield ((x.1,c)::r)) else pure (ForInStep.yield r):Sem (ForInStep (List (Str×Addr)))))=pure cl ∧
   (∀x c,cl.lookup x=some c→acc.lookup x=some c∨env.cells.lookup x=some c)∧(∀x,(x,NameKind.free)∈names∨(acc.lookup x).isSome=true→(cl.lookup x).isSome=true)
 | [],acc,_=>⟨acc,rfl,λx c h=>.inl h,λx h=>by
   rcases h with h|h
   ·simp at h
   ·exact h⟩
 | (n,k)::r,acc,h=>by
  by_cases hk:k=.free
  ·subst hk
   obtain⟨c,hc⟩:=h (n,.free) List.mem_cons_self rfl
   obtain⟨cl,e,h1,h2⟩:=kA r ((n,c)::acc) λy hy=>h y (List.mem_cons_of_mem _ hy)
   refine⟨cl,?_,λx d hx=>?_,λx hx=>h2 x ?_⟩
   ·rw[List.forIn_cons]
    have e1:(NameKind.free==NameKind.free)=true:=by decide
    simp only[e1,if_true]
    have e2:cellOf env n=pure c:=by simp only[cellOf,hc]
    rw[e2]
    exact e
   ·rcases h1 x d hx with g|g
    ·rw[List.lookup_cons] at g
     cases q:x==n with
     | true =>
      rw[q] at g
      cases g
      have:x=n:=by simpa using q
      subst this
      exact .inr hc
     | false=>rw[q] at g;exact .inl g
    ·exact .inr g
   ·rcases hx with hx|hx
    ·rcases List.mem_cons.mp hx with g|g
     ·cases g
      right
      simp[List.lookup_cons]
     ·exact .inl g
    ·right
     rw[List.lookup_cons]
     cases q:x==n with
     | true=>rfl
     | false=>exact hx
  ·obtain⟨cl,e,h1,h2⟩:=kA r acc λy hy=>h y (List.mem_cons_of_mem _ hy)
   refine⟨cl,?_,h1,λx hx=>h2 x ?_⟩
   ·rw[List.forIn_cons]
    have e1:(k==NameKind.free)=false:=by simpa using hk
    simp only[e1,Bool.false_eq_true,if_false]
    exact e
   ·rcases hx with hx|hx
    ·rcases List.mem_cons.mp hx with g|g
     ·cases g
      exact absurd rfl hk
     ·exact .inl g
    ·exact .inr hx
theorem qY{scope:Scope}{env:Env}(h:∀y∈scope.names,y.2=.free→∃c,env.cells.lookup y.1=some c) :
  ∃cl,closureFor scope env=pure cl∧(∀x c,cl.lookup x=some c→env.cells.lookup x=some c)∧(∀x,(x,NameKind.free)∈scope.names→(cl.lookup x).isSome=true):=by
 obtain⟨cl,e,h1,h2⟩:=kA (env:=env) scope.names [] h
 refine⟨cl,?_,λx c hx=>(h1 x c hx).elim (λg=>by simp at g) id,λx hx=>h2 x (.inl hx)⟩
 simp only[closureFor]
 rw[e]
 rfl
section
variable{X:Cx}{elt iter tg:Expr}{ifs:List Expr}{scope:Scope}{pos:Pos}{N':List Str}{g:TG}{tc:TT}{te:TE}{mp:List (Option Nat)}
def zX(J:It)(mp:List (Option Nat))(g:TG)(tc:TT)(te:TE)(σ:St)(H:Hp)(Q:VK):Prop:=∀p,H p=none→∃W:Nat→Nat→St→Hp→Prop,(∃m,W 0 m (sQ mp σ) (upd H p (.lst [])))∧∀i m σ H,W i m σ H →
 (J.stop i H∧Q (.ref p) H)∨(J.go i H∧∃N:St→Hp→Prop,(∀σ' H',N σ' H'→∃m',m'<m∧W (i+1) m' σ' H')∧∀x H',J.yld i H x H'→g x σ H' λσ2 H2=>tc σ2 H2 λb H3 =>
  if b=true then te σ2 H3 λy H4=>zI (.ref p) [y] H4 λ_ H5=>N σ2 H5 else N σ2 H3)
theorem Dt{mp:List (Option Nat)}{σ:St}{i:Nat}{v:V}(h:(sQ mp σ)[i]?=some (some v)):∃j,mp[i]?=some (some j)∧σ[j]?=some (some v):=by
 unfold sQ at h
 rw[List.getElem?_map] at h
 cases q:mp[i]? with
 | none=>rw[q] at h;cases h
 | some o =>
  cases o with
  | none=>rw[q] at h;cases h
  | some j =>
   rw[q] at h
   refine⟨j,rfl,?_⟩
   have h:(σ[j]?).bind id=some v:=by simpa using h
   cases z:σ[j]? with
   | none=>rw[z] at h;cases h
   | some y=>rw[z] at h;have h:y=some v:=h;rw[h]
theorem Du{pins:List (Addr×Obj)}{σ:St}{H:Hp}{s₀:Shared}{C:Addr}{h₁:Heap}{t':Nat}{cl:List (Str×Addr)}{fp:List Addr}(hS:gf X N' scope mp)(I:Inv X pins σ H s₀)
  (hcl:∀x c,cl.lookup x=some c→X.env.cells.lookup x=some c∨(scope.names.lookup x=some .cell∧c=C+1∧h₁.IsCell c none∧∀z,scope.names.lookup z=some .cell→z=x)) (hcs:∀x,(x,NameKind.free)∈scope.names→(cl.lookup x).isSome=true∧∀c,cl.lookup x=some c→X.env.cells.lookup x=some c)
  (hcn:∀x,scope.names.lookup x=some .cell→cl.lookup x=some (C+1))
  (hC:C=s₀.heap.objs.size) (keep:∀b o,s₀.heap.get? b=some o→h₁.get? b=some o) (ns:∃m,h₁.Ns C m) (hf:∀b∈fp,lA X pins H b) (hfp:∀b∈fp,b<s₀.heap.objs.size) :
  Inv (cf X N' scope cl C s₀ H fp) [] (sQ mp σ) H { s₀ with heap:=h₁,toks:=t' }:=by
 obtain⟨m0,ns⟩:=ns
 have cellK:∀c v,s₀.heap.IsCell c v→h₁.IsCell c v:=λc v ⟨o,ho,hd⟩=>⟨o,keep c o ho,hd⟩
 refine⟨⟨I.ok.mod,hS.kind,I.ok.glob,I.ok.blt,Nat.le_of_eq hC.symm,λx y c h1 h2=>?_,λx hx=>?_,λx c h hx=>?_,I.ok.hd,I.ok.frames,.inl rfl,λb hb=>⟨?_,λx c h=>?_⟩,I.bs,Nat.le_trans I.ok.bsz I.sz,
   λb o e hb=>?_,λb hb hs=>?_,I.stack,I.zw⟩,rfl,I.bare,Un.kept keep,⟨m0,ns,λi x v e1 e2 e3=>?_⟩,λx c h=>?_,?_,λx c h=>?_,λp hp=>absurd hp (by intro z;cases z),I.hok.kept keep,?_⟩
 ·have old:∀z,X.env.cells.lookup z=some c→c<s₀.heap.objs.size:=λz hz=>by
   obtain⟨v,q⟩:=I.cell z c hz
   exact q.lt
  rcases hcl x c h1 with a|⟨a,ca,_,ua⟩
  ·rcases hcl y c h2 with b|⟨b,cb,_⟩
   ·exact I.ok.inj x y c a b
   ·have:=old x a
    rw[cb,hC] at this
    exact absurd this (Nat.not_lt.mpr (Nat.le_succ _))
  ·rcases hcl y c h2 with b|⟨b,cb,_⟩
   ·have:=old y b
    rw[ca,hC] at this
    exact absurd this (Nat.not_lt.mpr (Nat.le_succ _))
   ·exact (ua y b).symm
 ·rcases hS.back x hx with q|q
  ·exact Option.isSome_iff_exists.mp (hcs x q).1
  ·exact⟨_,hcn x q⟩
 ·have q:scope.names.lookup x=some .cell:=by
   have h:(scope.names.lookup x==some NameKind.cell)=true:=h
   simpa using h
  have hx:cl.lookup x=some c:=hx
  rw[hcn x q] at hx
  cases hx
  rw[hC]
  exact Nat.le_succ _
 ·intro z
  have:=hfp b hb
  rw[z] at this
  have h2:C<s₀.heap.objs.size:=this
  rw[hC] at h2
  exact Nat.lt_irrefl _ h2
 ·rcases hcl x c h with a|⟨a,ca,_⟩
  ·exact (hf b hb).2.2.2.2.1 x c a
  ·have:=hfp b hb
   rw[ca,hC]
   exact λq=>absurd (q ▸ this) (Nat.not_lt.mpr (Nat.le_succ _))
 ·rcases (hf b hb).2.2.2.1 with z|z
  ·exact I.ok.AX b o e z
  ·exact absurd (Nat.lt_of_lt_of_le (Heap.lt_size e) (Nat.le_trans I.ok.bsz z)) (Nat.lt_irrefl _)
 ·rcases List.mem_cons.mp (I.uN b hs) with z|z
  ·exact (hf b hb).2.1 z
  ·exact (hf b hb).2.2.1 z
 ·obtain⟨j,hj,hv⟩:=Dt e2
  obtain⟨y,y1,y2,y3,y4⟩:=hS.Ln i j hj
  have hy:y=x:=by
   have:(cf X N' scope cl C s₀ H fp).N[i]?=some y:=y1
   rw[e1] at this
   exact (Option.some.inj this).symm
  subst hy
  obtain⟨m,hn,hl⟩:=I.loc
  obtain⟨u,ru,lk⟩:=hl j y v y2 hv (y4.elim (λz=>.inr (.inl z)) λz=>.inr (.inr z))
  refine⟨u,ru,?_⟩
  rcases lk with ⟨hk,_⟩|⟨hk,c,hc,t5⟩
  ·exfalso
   have hk:X.env.scope.names.lookup y=some .local:=hk
   rcases y4 with z|z
   ·rw[hk] at z;cases z
   ·rw[hk] at z;cases z
  ·obtain⟨c',hc'⟩:=Option.isSome_iff_exists.mp (hcs y y3).1
   have:c'=c:=by
    have q:=(hcs y y3).2 c' hc'
    rw[hc] at q
    exact (Option.some.inj q).symm
   subst this
   exact .inr ⟨hS.seen y y3,c',hc',cellK _ _ t5⟩
 ·rcases hcl x c h with a|⟨_,_,a,_⟩
  ·obtain⟨v,hv⟩:=I.cell x c a
   exact⟨v,cellK _ _ hv⟩
  ·exact⟨none,a⟩
 ·show H C=none
  rw[hC]
  exact I.hok.fresh (Nat.le_refl _)
 ·rcases hcl x c h with a|⟨_,a,_⟩
  ·exact I.mO x c a
  ·rw[a,hC];exact I.hok.fresh (Nat.le_succ _)
 ·show (sQ mp σ).length=N'.length
  unfold sQ
  rw[List.length_map,hS.len]
theorem uq{pins:List (Addr×Obj)}{s₂:Shared}{σ:St}{H₂:Hp}{it:Addr}{fp:List Addr}{tn:Nat→Heap→Prop}{J:It}{cl:List (Str×Addr)}{Q:VK}{RR:Value→Addr→Result→Shared→Prop}{E:Value→Shared→Prop}
  (hS:gf X N' scope mp) (ou:X.calm=true) (hg:∀cl C s₀ H₀ ex,PG (cf X N' scope cl C s₀ H₀ ex) tg g) (hc:∀cl C s₀ H₀ ex,mN (cf X N' scope cl C s₀ H₀ ex) ifs tc) (he:∀cl C s₀ H₀ ex,PE (cf X N' scope cl C s₀ H₀ ex) elt te)
  (hcl:∀x c,cl.lookup x=some c→X.env.cells.lookup x=some c) (hcs:∀x,(x,NameKind.free)∈scope.names→(cl.lookup x).isSome=true)
  (I:Inv X pins σ H₂ s₂) (T:Turn X.prog X.w X.K tg J fp it tn) (st:tn 0 s₂.heap) (hf:∀b∈fp,lA X pins H₂ b) (hq:zX J mp g tc te σ H₂ Q)
  (fin:∀p C s' H',Inv X pins σ H' s'→lA X pins H' C→(∃m,s'.heap.Ns C m)→Q (.ref p) H'→RR (.ref p) C (.ok .next) s') :
  wpAny (model X.prog X.w) X.A (newList []) (λacc s₃=>wpAny (model X.prog X.w) X.A (newFunctionEnv scope X.env.globals cl [] X.env.qual none .none (some X.env)) (λLo s₄ =>
   codeAny (model X.prog X.w) X.A (.compStart (.ListComp elt [⟨tg,iter,ifs,0⟩] scope pos) 0 (.ref it) acc { Lo with scope:=relabel scope X.env }) (RR acc Lo.locals) s₄) E s₃) E s₂:=by
 refine wpAny_newObj_type (wM ?_)
 dsimp only
 have I₃:Inv X pins σ (upd H₂ s₂.heap.objs.size (.lst [])) { s₂ with heap:=s₂.heap.push { cls:=.type "list",dict:=none,data:=.seq ([]:List Value).toArray } } :=
  I.IM (t':=s₂.toks) (ys:=[]) .nil (Nat.zero_le _)
 generalize hH2:s₂.heap.push { cls:=.type "list",dict:=none,data:=.seq ([]:List Value).toArray }=H2 at I₃ ⊢
 obtain⟨h₁,hh1⟩:∃h₁,h₁=pushCells (H2.push { cls:=.type "dict",data:=.dict #[] }) scope.names:=⟨_,rfl⟩
 rw[← hh1]
 have hns₁:h₁.Ns H2.objs.size (λ_=>none):=by rw[hh1];exact (Heap.Ns.new H2 (.type "dict")).keeps (pushCells_keeps _ _)
 obtain⟨cl',Bl⟩:∃cl',cl'=cellsFrom (H2.objs.size+1) scope.names cl:=⟨_,rfl⟩
 rw[← Bl]
 have Jm:=wL scope.names (H2.objs.size+1) (H2.push { cls:=.type "dict",data:=.dict #[] }) cl hS.cells hS.nd
 have fc:∀x,(x,NameKind.free)∈scope.names→scope.names.lookup x≠some .cell:=λx hx q=>by
  have nd:=hS.nd
  have m2:=PySem.mem_of_lookup q
  have key:∀l:List (Str×NameKind),(l.map (·.1)).Nodup→(x,NameKind.free)∈l→(x,NameKind.cell)∈l→False:=by
   intro l
   induction l with
   | nil=>intro _ h;cases h
   | cons a l ih =>
    intro nd h1 h2
    have nd':=List.nodup_cons.mp (by simpa using nd:(a.1::l.map (·.1)).Nodup)
    rcases List.mem_cons.mp h1 with e1|h1
    ·rcases List.mem_cons.mp h2 with e2|h2
     ·rw[← e1] at e2;cases e2
     ·exact nd'.1 (List.mem_map.mpr ⟨_,h2,by rw[← e1]⟩)
    ·rcases List.mem_cons.mp h2 with e2|h2
     ·exact nd'.1 (List.mem_map.mpr ⟨_,h1,by rw[← e2]⟩)
     ·exact ih nd'.2 h1 h2
  exact key _ nd hx m2
 have Lp:∀x c,cl'.lookup x=some c→X.env.cells.lookup x=some c∨(scope.names.lookup x=some .cell∧c=H2.objs.size+1∧h₁.IsCell c none∧∀z,scope.names.lookup z=some .cell→z=x):=λx c h=>by
  cases Jm with
  | no _ e1 _=>rw[Bl.trans e1] at h;exact .inl (hcl x c h)
  | one y h0 hy e1 e2 =>
   rw[Bl.trans e1,List.lookup_cons] at h
   cases hb:x==y with
   | true =>
    rw[hb] at h
    have hxy:x=y:=eq_of_beq hb
    have h:some (H2.objs.size+1)=some c:=h
    cases h
    subst hxy
    refine .inr ⟨hy,rfl,?_,λz hz=>h0 z hz⟩
    rw[hh1.trans e2,← Heap.size_push H2 { cls:=.type "dict",data:=.dict #[] }]
    exact⟨_,Heap.get?_push_size _ rfl,rfl⟩
   | false=>rw[hb] at h;exact .inl (hcl x c h)
 have Ny:∀x,(x,NameKind.free)∈scope.names→(cl'.lookup x).isSome=true∧∀c,cl'.lookup x=some c→X.env.cells.lookup x=some c:=λx hx=>by
  have el:cl'.lookup x=cl.lookup x:=by
   cases Jm with
   | no _ e1 _=>rw[Bl.trans e1]
   | one y h0 hy e1 e2 =>
    rw[Bl.trans e1,List.lookup_cons]
    cases hb:x==y with
    | true=>exact absurd ((eq_of_beq hb) ▸ hy) (fc x hx)
    | false=>rfl
  rw[el]
  exact⟨hcs x hx,λc hc=>hcl x c hc⟩
 have Nz:∀x,scope.names.lookup x=some .cell→cl'.lookup x=some (H2.objs.size+1):=λx hx=>by
  cases Jm with
  | no h0 _ _=>exact absurd hx (h0 x)
  | one y h0 hy e1 e2 =>
   rw[Bl.trans e1,h0 x hx,List.lookup_cons]
   simp
 have fresh:H₂ s₂.heap.objs.size=none:=I.hok.fresh (Nat.le_refl _)
 have fpl:∀b∈fp,b<s₂.heap.objs.size:=λb hb=>by
  obtain⟨o,ho,_⟩:=T.obj _ _ st b hb
  exact Heap.lt_size ho
 have Jn:s₂.heap.objs.size≤H2.objs.size:=by rw[← hH2,Heap.size_push];exact Nat.le_succ _
 have NA:∀b o,s₂.heap.get? b=some o→H2.get? b=some o:=λb o e=>by rw[← hH2];exact Heap.get?_push_of_some _ e
 have old:∀b o,H2.get? b=some o→h₁.get? b=some o:=λb o e=>by rw[hh1];exact pushCells_keeps _ _ _ _ (Heap.get?_push_of_some _ e)
 have hf3:∀b∈fp,lA X pins (upd H₂ s₂.heap.objs.size (.lst [])) b:=λb hb=>⟨by rw[aO (Nat.ne_of_lt (fpl b hb))];exact (hf b hb).1,(hf b hb).2⟩
 have I₄:=Du (t':=s₂.toks) (N':=N') (C:=H2.objs.size) (h₁:=h₁) hS I₃ Lp Ny Nz rfl old ⟨_,hns₁⟩ hf3 λb hb=>Nat.lt_of_lt_of_le (fpl b hb) Jn
 have st4:tn 0 h₁:=T.keep _ _ _ st λb hb o e=>old b o (NA b o e)
 obtain⟨W,⟨m0,w0⟩,turn⟩:=hq s₂.heap.objs.size fresh
 generalize hX':cf X N' scope cl' H2.objs.size { s₂ with heap:=H2 } (upd H₂ s₂.heap.objs.size (.lst [])) fp=X' at I₄
 have hg':PG X' tg g:=hX' ▸ hg _ _ _ _ _
 have hc':mN X' ifs tc:=hX' ▸ hc _ _ _ _ _
 have he':PE X' elt te:=hX' ▸ he _ _ _ _ _
 have e1:X'.prog=X.prog:=by rw[← hX'];rfl
 have e2:X'.w=X.w:=by rw[← hX'];rfl
 have e3:X'.K=X.K:=by rw[← hX'];rfl
 have e4:X'.calm=true:=by rw[← hX'];exact ou
 have e5:X'.A=X.A:=by rw[← hX'];rfl
 have e6:X'.env=compEnvC scope cl' H2.objs.size X.env:=by rw[← hX'];rfl
 have e7:X'.xe=λ_ _=>False:=by rw[← hX'];rfl
 have xQ:∀{H':Hp},(∀b∈fp,H' b=none)→∀b∈fp,lA X' [] H' b:=λ{H'} hn b hb=>by
  refine⟨hn b hb,?_,?_,?_,λx c h=>?_,λp hp=>?_⟩
  ·rw[e6];exact Nat.ne_of_lt (Nat.lt_of_lt_of_le (fpl b hb) Jn)
  ·rw[← hX']
   intro hs
   rcases List.mem_cons.mp (I.uN b hs) with z|z
   ·exact (hf b hb).2.1 z
   ·exact (hf b hb).2.2.1 z
  ·rw[← hX'];exact .inl hb
  ·rw[e6] at h
   rcases Lp x c h with a|⟨_,a,_⟩
   ·exact (hf b hb).2.2.2.2.1 x c a
   ·rw[a]
    have q1:=Nat.lt_of_lt_of_le (fpl b hb) Jn
    exact λq=>absurd (q ▸ q1) (Nat.not_lt.mpr (Nat.le_succ _))
  ·rw[← hX'] at hp;cases hp
 have loop:∀s₃:Shared,Inv X' [] (sQ mp σ) (upd H₂ s₂.heap.objs.size (.lst [])) s₃→tn 0 s₃.heap →
   codeAny (model X.prog X.w) X.A (.compLoop (.ListComp elt [⟨tg,iter,ifs,0⟩] scope pos) 0 (.ref it) (.ref s₂.heap.objs.size) (compEnvC scope cl' H2.objs.size X.env)) (RR (.ref s₂.heap.objs.size) H2.objs.size) s₃:=by
  intro s₃ I₃' st3
  refine u9 (λn s'=>∃i σ' H',Inv X' [] σ' H' s'∧tn i s'.heap∧(∀b∈fp,H' b=none)∧W i n σ' H') ?_ m0 ⟨0,_,_,I₃',st3,λb hb=>(hf3 b hb).1,w0⟩
  rintro n s4 ⟨i,σ4,H4,I4,st4,fr4,w4⟩
  rcases turn i n σ4 H4 w4 with ⟨stop,qn⟩|⟨go,N,hN,step⟩
  ·have q:=T.done X' e1 e2 e3 e4 i [] s4 σ4 H4 (λ_ _=>False) I4 (xQ fr4) st4 stop
   rw[e5] at q
   refine thn q λr s5 aq=>?_
   obtain⟨hr,I5⟩:=aq
   subst hr
   have I6:Inv X pins σ H4 s5:=by
    subst hX'
    exact I₃.Ku (ch:=fp) I5.os I5.base I5.hok I5.bare λb hb=>⟨(hf3 b hb).2.2.2.1,(hf3 b hb).2.1,(hf3 b hb).2.2.2.2.1,(hf3 b hb).2.2.2.2.2⟩
   have hC:H4 H2.objs.size=none:=by
    have:=I5.free
    rw[e6] at this
    exact this
   have hns:∃m,s5.heap.Ns H2.objs.size m:=by
    obtain⟨m,hm,_⟩:=I5.loc
    rw[e6] at hm
    exact⟨m,hm⟩
   exact fin _ _ s5 H4 I6 (I₃.xN (Nat.le_refl _) hC) hns qn
  ·have q:=T.item X' e1 e2 e3 e4 i [] s4 σ4 H4 (λ_ _=>False) I4 (xQ fr4) st4 go
   rw[e5] at q
   refine thn q λr s5 cJ=>?_
   obtain⟨u,hr,h5⟩:=cJ
   subst hr
   refine thn h5 λ_ s6 qx=>?_
   obtain⟨x,H6,I6,r6,y6,st6,fr6⟩:=qx
   have I6':=I6.pinned (xQ fr6) (T.obj _ _ st6)
   have g6:=hg' _ s6 σ4 H6 x u _ I6' r6 (step x H6 y6)
   rw[e1,e2,e5,e6,e7] at g6
   refine thn g6 λ_ s7 Lq=>?_
   obtain⟨σ7,H7,I7,q7⟩:=Lq
   have c7:=hc' _ s7 σ7 H7 _ I7 q7
   rw[e1,e2,e5,e6,e7] at c7
   refine thn c7 λok s8 Lr=>?_
   obtain⟨H8,I8,q8⟩:=Lr
   have again:∀{s9:Shared}{σ9:St}{H9:Hp},Inv X' ([]++qy fp s6.heap) σ9 H9 s9→N σ9 H9→∃m,m<n∧∃i σ' H',Inv X' [] σ' H' s9∧tn i s9.heap∧(∀b∈fp,H' b=none)∧W i m σ' H':=λ{s9 σ9 H9} I9 n9=>by
    obtain⟨m',hm,w9⟩:=hN σ9 H9 n9
    refine⟨m',hm,i+1,σ9,H9,I9.nU,T.keep _ _ _ st6 λb hb o e=>(I9.pin (b,o) (List.mem_append_right _ (List.mem_append_right _ (kl hb e)))).1,λb hb=>?_,w9⟩
    obtain⟨o,e,d⟩:=T.obj _ _ st6 b hb
    exact (I9.pin (b,o) (List.mem_append_right _ (List.mem_append_right _ (kl hb e)))).2.1
   cases ok with
   | false =>
    rw[if_neg Bool.false_ne_true] at q8 ⊢
    exact again I8 q8
   | true =>
    rw[if_pos rfl] at q8 ⊢
    have l8:=he' _ s8 σ7 H8 _ I8 q8
    rw[e1,e2,e5,e6,e7] at l8
    refine thn l8 λy s9 Ls=>?_
    obtain⟨z,H9,I9,r9,q9⟩:=Ls
    have a9:=(ud (X:=X')) _ s9 σ7 H9 (.ref s₂.heap.objs.size) [z] (.ref s₂.heap.objs.size) [y] _ I9 rfl (.cons r9 .nil) q9
    rw[e1,e2,e5,e7] at a9
    refine thn a9 λ_ s10 ⟨_,H10,I10,_,q10⟩=>again I10 q10
 refine codeAny_compStart_list (loop _ I₄ st4) ?_
 exact T.self X.A 0 _ _ _ st4 (loop _ I₄ st4)
theorem Gj{wi:TI}(hx:X.xe=λ_ _=>False)(hS:gf X N' scope mp)(ou:X.calm=true)(hi:PI X tg iter wi)(hg:∀cl C s₀ H₀ ex,PG (cf X N' scope cl C s₀ H₀ ex) tg g)(hc:∀cl C s₀ H₀ ex,mN (cf X N' scope cl C s₀ H₀ ex) ifs tc)
  (he:∀cl C s₀ H₀ ex,PE (cf X N' scope cl C s₀ H₀ ex) elt te) (hs:∀x,foldedSetIterable iter X.env x=pure x:=by intro _;rfl) :
  PE X (.ListComp elt [⟨tg,iter,ifs,0⟩] scope pos) (λσ H Q=>wi σ H λJ H1=>zX J mp g tc te σ H1 Q):=by
 intro pins s σ H Q I h
 have hfr:∀y∈scope.names,y.2=.free→∃c,X.env.cells.lookup y.1=some c:=λy hy hk=>I.ok.has y.1 (hS.free y hy hk)
 obtain⟨cl,hcl,h1,h2⟩:=qY hfr
 rw[eval_ListComp]
 refine wpAny_comprehension_free (use:=none) rfl hs hcl hS.kind hS.loc (thn (hi pins s σ H _ I h) λv s1 q1=>thn q1 λitv s2 aq=>?_)
 obtain⟨it,fp,tn,J,H2,e,I2,T,st2,f2,q2⟩:=aq
 subst e
 refine uq (RR:=λacc C=>compPost (model X.prog X.w) X.A X.xe none (EP X pins σ Q) acc C) hS ou hg hc he h1 h2 I2 T st2 f2 q2 λp C s' H' I' fp' ns q'=>?_
 obtain⟨m,hm⟩:=ns
 refine⟨m,hm,λh' sb=>⟨.ref p,H',?_,rfl,q'⟩⟩
 exact I'.turned (t':=s'.toks) (λb o hb e=>(sb.2 b hb).trans e) fp'.1 fp'.2.1 fp'.2.2.2.1 fp'.2.2.2.2.1 fp'.2.2.2.2.2
theorem wN{wi:TI}{i:Nat}{y:Str}{py Dv:Pos}(hx:X.xe=λ_ _=>False)(hS:gf X N' scope mp)(ou:X.calm=true)(hi:PI X tg iter wi)(hg:∀cl C s₀ H₀ ex,PG (cf X N' scope cl C s₀ H₀ ex) tg g)
  (hc:∀cl C s₀ H₀ ex,mN (cf X N' scope cl C s₀ H₀ ex) ifs tc) (he:∀cl C s₀ H₀ ex,PE (cf X N' scope cl C s₀ H₀ ex) elt te) (hN:X.N.Nodup) (hiN:X.N[i]?=some y) (hl:Loc X.env.scope y)
  (hsw:swapsWith (.ListComp elt [⟨tg,iter,ifs,0⟩] scope pos) (some (.Name y py)) Dv.line X.env=pure true) (hs:∀x,foldedSetIterable iter X.env x=pure x:=by intro _;rfl)
  (hf:X.fn y=true∨X.env.scope.names.lookup y=some .local:=by first|exact .inl rfl|exact .inr rfl|assumption) :
  PS X (.Assign [.Name y py] (.ListComp elt [⟨tg,iter,ifs,0⟩] scope pos) Dv) (Ih (λσ H Q=>wi σ H λJ H1=>zX J mp g tc te σ H1 Q) (Cw i)):=by
 intro pins s σ H D I h
 have hfr:∀y∈scope.names,y.2=.free→∃c,X.env.cells.lookup y.1=some c:=λy hy hk=>I.ok.has y.1 (hS.free y hy hk)
 obtain⟨cl,hcl,h1,h2⟩:=qY hfr
 rw[exec_Assign_Name_used _ _ _ _ hsw]
 refine wpAny_bind (wpAny_standAt (wpAny_bind ?_))
 show wpAny _ X.A (do let _ ← comprehension (.ListComp elt [⟨tg,iter,ifs,0⟩] scope pos) scope X.env _ (newList []) false (eval iter X.env) (some (assign (.Name y py) X.env))) _ _ s
 refine wpAny_bind (wpAny_mono (wpAny_comprehension_free (use:=some (assign (.Name y py) X.env)) (Q:=λ_ s'=>SP X pins D .next s') rfl hs hcl hS.kind hS.loc
  (thn (hi pins s σ H _ I h) λv s1 q1=>thn q1 λitv s2 ⟨it,fp,tn,J,H2,e,I2,T,st2,f2,q2⟩=>?_)) (λ_ s' hq=>wpAny_pure (wpAny_pure hq)) λ_ _ e=>e)
 subst e
 refine uq (RR:=λacc C=>compPost (model X.prog X.w) X.A X.xe (some (assign (.Name y py) X.env)) (λ_ s'=>SP X pins D .next s') acc C) hS ou hg hc he h1 h2 I2 T st2 f2 q2 λp C s' H' I' fp' ns q'=>?_
 obtain⟨m,hm⟩:=ns
 obtain⟨oC,es,ep,hoC,rC⟩:=id hm
 show wpAny _ X.A (assign (.Name y py) X.env (.ref p)) _ _ _
 refine wpAny_assign_Name (t4 I' hN hiN hl (v:=.ref p) rfl (λs'' I'' sb=>?_) hf)
 obtain⟨a,sb,ha⟩:=sb
 have hCa:C≠a:=by
  rcases ha with rfl|ha
  ·exact fp'.2.1
  ·exact λz=>fp'.2.2.2.2.1 y a ha z.symm
 refine⟨m,⟨oC,es,ep,(sb.2 C hCa).trans hoC,rC⟩,λh3 sb3=>⟨_,H',?_,q'⟩⟩
 exact I''.turned (t':=s''.toks) (λb o hb e=>(sb3.2 b hb).trans e) fp'.1 fp'.2.1 fp'.2.2.2.1 fp'.2.2.2.2.1 fp'.2.2.2.2.2
end
end L2
namespace Fw
open PySem PySem.Spec PyProof.Rows L2
section
variable{K:PySem.W.Frag}{F F' F1 F2 H H' H1 H2:Hp}{α α' α1 α2:List Addr}{μ μ':ah}{e:Slots}{σ:L2.St}
theorem qZ{mp:List (Option Nat)}{i:Nat}{x:SV}(h:slot (ini mp e) i=some x):∃j,mp[i]?=some (some j)∧slot e j=some x:=by
 unfold slot ini at h
 rw[List.getElem?_map] at h
 cases q:mp[i]? with
 | none=>rw[q] at h;cases h
 | some o =>
  cases o with
  | none=>rw[q] at h;cases h
  | some j =>
   rw[q] at h
   refine⟨j,rfl,?_⟩
   simp only[Option.map_some,Option.bind_some] at h
   cases z:slot e j with
   | none=>rw[z] at h;cases h
   | some y=>rw[z] at h;cases h;rfl
theorem Sim.ini(S:Sim K F α e μ σ H)(mp:List (Option Nat)):Sim K F α (Fw.ini mp e) μ (sQ mp σ) H:=by
 refine⟨S.st,λi x h=>?_,by unfold Fw.ini sQ;rw[List.length_map,List.length_map]⟩
 obtain⟨j,hj,hx⟩:=qZ h
 obtain⟨v,hv,ok⟩:=S.sl j x hx
 refine⟨v,?_,ok⟩
 unfold sQ
 rw[List.getElem?_map,hj]
 simp[hv]
theorem dY.Jo{p:Addr}{o:HO}(S:dY K F α μ H)(h1:F p=none)(h2:p∉α)(n:NT o:=by intro _ h;cases h):dY K F α μ (upd H p o):=by
 have na:∀{k:Nat}{a:Addr},α[k]?=some a→a≠p:=λ{k a} h q=>h2 (by rw[← q];exact List.mem_of_getElem? h)
 refine⟨λa z hz=>?_,S.len,S.nd,λk a g=>?_,λk b u a g1 g2=>?_,S.tps.upd n⟩
 ·rw[aO (λq=>by subst q;rw[h1] at hz;cases hz)];exact S.ext a z hz
 ·rw[aO (na g)];exact S.there k a g
 ·obtain⟨c1,c2⟩:=S.cell k b u a g1 g2
  refine⟨λhb=>⟨(c1 hb).1,?_⟩,c2⟩
  have d2:=(c1 hb).2
  cases u with
  | lst ts=>obtain⟨vs,w1,w2⟩:=d2;exact⟨vs,by rw[aO (na g2)];exact w1,w2⟩
  | dct ts=>obtain⟨vs,w1,w2⟩:=d2;exact⟨vs,by rw[aO (na g2)];exact w1,w2⟩
  | dtt fz ts=>exact⟨d2.1,(aO (na g2)).trans d2.2⟩
  | _=>exact d2.elim
theorem Ex.Jo{p:Addr}{o:HO}(x:Ex F α H F' α' H')(h:H p=none):Ex F α H F' α' (upd H' p o):=⟨x.same,x.pre,λb z h1 h2 h3=>by
 obtain⟨g1,g2,g3⟩:=x.fr b z h1 h2 h3
 exact⟨by rw[aO (λq=>by subst q;rw[h] at h1;cases h1)];exact g1,g2,g3⟩⟩
theorem Sim.back{e':Slots}(S:Sim K F α e' μ σ H)(hl:e.length=e'.length)(h:∀j x,slot e j=some x→slot e' j=some x):Sim K F α e μ σ H :=
 ⟨S.st,λi x g=>S.sl i x (h i x g),by rw[hl];exact S.len⟩
end
section
variable{X:Cx}{elt iter tg:Expr}{ifs:List Expr}{scope:Scope}{pos:Pos}{N':List Str}{mp:List (Option Nat)}{di:DI}{b:BD}{dc d:D}
def q5(mp:List (Option Nat))(b:BD):Prop:=∀t e e1,b t (ini mp e)=some e1→(ini mp e).length=e1.length∧∀j x,slot (ini mp e) j=some x→slot e1 j=some x
theorem slot_set_ne{e:Slots}{i j:Nat}{x:SV}(h:i≠j):slot (e.set i (some x)) j=slot e j:=by
 unfold slot
 rw[List.getElem?_set_ne h]
theorem aZ{i:Nat}(h:mp[i]?=some none):q5 mp (aD i):=λt e e1 hb=>by
 cases hb
 refine⟨by rw[List.length_set],λj x hx=>?_⟩
 obtain⟨k,hk,_⟩:=qZ hx
 rw[slot_set_ne (λq=>by subst q;rw[h] at hk;cases hk)];exact hx
theorem c_{i i':Nat}(h:mp[i]?=some none)(h':mp[i']?=some none):q5 mp (cR [i,i']):=λt e e1 hb=>by
 cases t with
 | tup ts =>
  unfold cR at hb
  simp only at hb
  by_cases hl:ts.length=[i,i'].length
  ·rw[if_pos hl] at hb
   match ts,hl with
   | [t1,t2],_ =>
    cases hb
    refine⟨by simp,λj x hx=>?_⟩
    obtain⟨k,hk,_⟩:=qZ hx
    have n1:i≠j:=λq=>by subst q;rw[h] at hk;cases hk
    have n2:i'≠j:=λq=>by subst q;rw[h'] at hk;cases hk
    simp only[List.zip_cons_cons,List.zip_nil_right,List.foldl_cons,List.foldl_nil]
    rw[slot_set_ne n2,slot_set_ne n1];exact hx
  ·rw[if_neg hl] at hb;cases hb
 | _=>cases hb
theorem bj{X':Cx}:mN X' [] (tDT X' (dC (.bl true))):=λpins s σ H Q I aq=>by
 obtain⟨F,α,e,μ,S,h⟩:=aq
 obtain⟨b,hb,h⟩:=h
 cases hb
 exact Dr pins s σ H Q I (h H F α Ex.refl S)
theorem hX{X':Cx}{c:Expr}(h:CT X' c dc):mN X' [c] (tDT X' dc):=Ds h
def oD(K:PySem.W.Frag)(d:D):TE:=λσ H Q=>∃F α e μ x μ',Sim K F α e μ σ H∧d e μ=.ok x μ'∧Jg K F α H e σ Q x μ'
def oDT(K:PySem.W.Frag)(d:D):TT:=λσ H Q=>∃F α e μ b μ',Sim K F α e μ σ H∧d e μ=.ok (.val (.bl b)) μ' ∧
 ∀H' F' α',Ex F α H F' α' H'→Sim K F' α' e μ' σ H'→Q b H'
theorem Hs{X':Cx}{σ:L2.St}{H:Hp}{Q:VK}(h:oD X'.K d σ H Q):tD X' d σ H Q:=by
 obtain⟨F,α,e,μ,x,μ',S,h,p⟩:=h
 exact⟨F,α,e,μ,S,by rw[h];exact p⟩
theorem Dw{X':Cx}{σ:L2.St}{H:Hp}{Q:Bool→Hp→Prop}(h:oDT X'.K d σ H Q):tDT X' d σ H Q:=by
 obtain⟨F,α,e,μ,b,μ',S,h,p⟩:=h
 exact⟨F,α,e,μ,S,by rw[h];exact⟨b,rfl,p⟩⟩
inductive CIv(K:PySem.W.Frag)(same:ah→Prop)(items:List T)(b:BD)(dc d:D)(e0:Slots)(us:List T)(μ':ah)(F1:Hp)(α1:List Addr)(H1:Hp)(p:Addr)(i:Nat)(σ':L2.St)(Hc:Hp):Prop
 | mk (F2:Hp) (α2:List Addr) (μ3:ah) (done rest:List T) (vs:List V) (x2:Ex F1 α1 H1 F2 α2 Hc) (S2:Sim K F2 α2 e0 μ3 σ' Hc) (n1:F2 p=none) (n2:p∉α2) (hv:Hc p=some (.lst vs)) (hr:aG K F2 done vs) (hdl:done.length≤i) (hL:bU same b dc d e0 (items.drop i) μ3=.ok rest μ') (hu:us=done++rest)
theorem ur{σ:L2.St}{H:Hp}{Q:VK}(hb:q5 mp b)(h:tF X (aT di mp b dc d) σ H Q):tDI X di σ H λJ H1=>zX J mp (tBd X.K b) (oDT X.K dc) (oD X.K d) σ H1 Q:=by
 obtain⟨F,α,e,μ,S,h⟩:=h
 refine⟨F,α,e,μ,S,(R.wp_bind h).mono (λW μ1 h J H1 F1 α1 x1 S1 ok=>?_) λ_ _ h=>h⟩
 cases hL:(bU W.same b dc d (ini mp e) W.items μ1).calm with
 | err c μ'=>cases q:bU W.same b dc d (ini mp e) W.items μ1<;>rw[q] at hL<;>cases hL
 | bad=>rw[hL] at h;exact h.elim
 | ok us μ' =>
 rw[hL] at h
 have hL:=R.calm_eq hL
 rw[R.aP] at h
 by_cases hz:W.items.length≤szL
 ·rw[if_pos hz] at h
  obtain⟨t,et,post⟩:=h
  cases et
  intro p hp
  refine⟨λi m σ' Hc=>m=W.items.length-i∧i≤W.items.length∧CIv X.K W.same W.items b dc d (ini mp e) us μ' F1 α1 H1 p i σ' Hc,
   ⟨_,rfl,Nat.zero_le _,.mk F1 α1 μ1 [] us [] (Ex.lay hp) ((S1.ini mp).of (aU.refl _) (List.prefix_refl _) (S1.st.lay hp)) (S1.st.ext.free hp) (cW S1.st hp) aL aG.lL (Nat.zero_le _) hL rfl⟩,?_⟩
  rintro i m σ2 H2 ⟨rfl,hi',hC⟩
  obtain⟨F2,α2,μ3,done,rest,vs,x2,S2,n1,n2,hv,hr,hdl,hL,hu⟩:=hC
  by_cases hlt:i<W.items.length
  ·rw[List.drop_eq_getElem_cons hlt] at hL
   unfold bU at hL
   by_cases hs:W.same μ3
   ·rw[if_pos hs] at hL
    obtain⟨g1,g2⟩:=ok F2 α2 μ3 H2 x2.same x2.pre S2.st hs
    obtain⟨go,yl⟩:=g1 i W.items[i] (by simp[hlt])
    cases hb':b W.items[i] (ini mp e) with
    | none=>simp only[hb'] at hL;cases hL
    | some e3 =>
     simp only[hb'] at hL
     obtain⟨y0,μ4,hy,hL⟩:=R.aX hL
     have hy:=R.calm_eq hy
     obtain⟨k,μ5,hk,hK⟩:=R.aX hL
     obtain⟨hk1,hk2⟩:=R.mX hk
     subst hk2
     have ek:=yo hk1
     rw[ek] at hy
     clear hL hk hk1 ek
     obtain⟨hl3,hb3⟩:=hb _ _ _ hb'
     refine .inr ⟨go,CIv X.K W.same W.items b dc d (ini mp e) us μ' F1 α1 H1 p (i+1),λσ' H' q=>⟨W.items.length-(i+1),by lia,rfl,hlt,q⟩,λx H3 yy=>?_⟩
     obtain⟨F3,gr,rp⟩:=yl x H3 yy
     have x3:Ex F2 α2 H2 F3 α2 H3:=gr.ex S2.st.ext
     refine⟨F3,α2,ini mp e,μ3,W.items[i],e3,S2.grow gr,rp,hb',λσ4 S4=>?_⟩
     refine⟨F3,α2,e3,μ3,k,μ4,S4,hy,λH5 F5 α5 x5 S5=>?_⟩
     obtain⟨v3,n3,m3⟩:=x3.fr p _ hv n1 n2
     obtain⟨v5,n5,m5⟩:=x5.fr p _ v3 n3 m3
     cases k with
     | false =>
      rw[if_neg Bool.false_ne_true] at hK ⊢
      exact .mk F5 α5 μ4 done rest vs (x2.trans (x3.trans x5)) (S5.back hl3 hb3) n5 m5 v5 (aG.mono (x3.same.trans x5.same) _ _ hr) (Nat.le_succ_of_le hdl) hK hu
     | true =>
      rw[if_pos rfl] at hK ⊢
      obtain⟨y2,μ6,hd,hK⟩:=R.aX hK
      have hd:=R.calm_eq hd
      obtain⟨u,μ7,hfz,hK⟩:=R.aX hK
      obtain⟨us',μ8,hL2,hK⟩:=R.aX hK
      cases hK
      refine⟨F5,α5,e3,μ4,y2,μ6,S5,hd,λv H6 F6 α6 x6 S6 o6=>?_⟩
      obtain⟨v6,n6,m6⟩:=x6.fr p _ v5 n5 m5
      obtain⟨F7,s7,ne7,S7,r7⟩:=pG S6.st o6 hfz
      have hvl:vs.length<sizeLine:=by
       have:=hr.length
       have hz':W.items.length≤sizeLine:=hz
       lia
      have n7:F7 p=none:=by rw[ne7 p m6];exact n6
      have x7:Ex F1 α1 H1 F7 α6 H6:=x2.trans (x3.trans (x5.trans (x6.trans (Ex.qU s7 ne7))))
      refine⟨p,vs,v,rfl,rfl,v6,hvl,.mk F7 α6 μ7 (done++[u]) us' (vs++[v]) (x7.Jo hp) ?_ n7 m6 aL ?_ ?_ hL2 ?_⟩
      ·exact ((S6.back hl3 hb3).of s7 (List.prefix_refl _) S7).of (aU.refl _) (List.prefix_refl _) (S7.Jo n7 m6)
      ·exact (aG.mono (x3.same.trans (x5.same.trans (x6.same.trans s7))) _ _ hr).append (aG.one r7)
      ·rw[List.length_append,List.length_singleton];lia
      ·rw[hu,List.append_assoc];rfl
   ·rw[if_neg hs] at hL;cases hL
  ·have e1:i=W.items.length:=by lia
   subst e1
   rw[List.drop_length] at hL
   unfold bU at hL
   by_cases hs:W.same μ3
   ·rw[if_pos hs] at hL
    cases hL
    obtain⟨g1,g2⟩:=ok F2 α2 _ H2 x2.same x2.pre S2.st hs
    refine .inl ⟨g2,post p H2 F2 α2 (x1.trans x2) (S1.of x2.same x2.pre S2.st) (x1.was S1.st hp) n1 n2 ⟨vs,hv,?_⟩⟩
    rw[hu,List.append_nil];exact hr
   ·rw[if_neg hs] at hL;cases hL
 ·rw[if_neg hz] at h;exact h.elim
theorem i8{e:Slots}{μ μ':ah}{x:SV}(h:aT di mp b dc d e μ=.ok x μ'):∃t,x=.val t:=by
 unfold aT at h
 obtain⟨W,μ1,hW,h⟩:=R.aX h
 obtain⟨us,μ2,hL,h⟩:=R.aX h
 by_cases hz:W.items.length≤szL
 ·rw[if_pos hz] at h;cases h;exact⟨_,rfl⟩
 ·rw[if_neg hz] at h;cases h
theorem mN.imp{X':Cx}{cs:List Expr}{t t':TT}(h:mN X' cs t)(i:∀σ H Q,t' σ H Q→t σ H Q):mN X' cs t':=λpins s σ H Q I q=>h pins s σ H Q I (i σ H Q q)
theorem bR(hx:X.xe=λ_ _=>False)(hS:gf X N' scope mp)(ou:X.calm=true)(hb:q5 mp b)(hi:CI X tg iter di)(hg:∀cl C s₀ H₀ ex,CB (cf X N' scope cl C s₀ H₀ ex) tg b)
  (hc:∀cl C s₀ H₀ ex,mN (cf X N' scope cl C s₀ H₀ ex) ifs (tDT (cf X N' scope cl C s₀ H₀ ex) dc)) (he:∀cl C s₀ H₀ ex,CE (cf X N' scope cl C s₀ H₀ ex) elt d) (hs:∀x,foldedSetIterable iter X.env x=pure x:=by intro _;rfl) :
  CF X (.ListComp elt [⟨tg,iter,ifs,0⟩] scope pos) (aT di mp b dc d) :=
 ⟨PE.imp (Gj hx hS ou hi (g:=tBd X.K b) hg (λcl C s₀ H₀ ex=>mN.imp (hc cl C s₀ H₀ ex) λσ H Q q=>Dw (X':=cf X N' scope cl C s₀ H₀ ex) q) (te:=oD X.K d) (λcl C s₀ H₀ ex=>PE.imp (he cl C s₀ H₀ ex) λσ H Q q=>Hs (X':=cf X N' scope cl C s₀ H₀ ex) q) hs) λσ H Q q=>ur hb q,λ_ _ _ _ h=>i8 h⟩
theorem ir(i:Nat){y:Str}{py Dv:Pos}(hx:X.xe=λ_ _=>False)(hS:gf X N' scope mp)(ou:X.calm=true)(hb:q5 mp b)(hi:CI X tg iter di)(hg:∀cl C s₀ H₀ ex,CB (cf X N' scope cl C s₀ H₀ ex) tg b)
  (hc:∀cl C s₀ H₀ ex,mN (cf X N' scope cl C s₀ H₀ ex) ifs (tDT (cf X N' scope cl C s₀ H₀ ex) dc)) (he:∀cl C s₀ H₀ ex,CE (cf X N' scope cl C s₀ H₀ ex) elt d) (hN:X.N.Nodup) (hiN:X.N[i]?=some y:=by rfl) (hl:Loc X.env.scope y:=by first|exact Or.inl rfl|exact Or.inr rfl)
  (hsw:swapsWith (.ListComp elt [⟨tg,iter,ifs,0⟩] scope pos) (some (.Name y py)) Dv.line X.env=pure true:=by rfl) (hs:∀x,foldedSetIterable iter X.env x=pure x:=by intro _;rfl)
  (hf:X.fn y=true∨X.env.scope.names.lookup y=some .local:=by first|exact .inl rfl|exact .inr rfl|assumption) :
  PS X (.Assign [.Name y py] (.ListComp elt [⟨tg,iter,ifs,0⟩] scope pos) Dv) (λD σ H=>tF X (aT di mp b dc d) σ H λv H1=>D.nx (σ.set i (some v)) H1) :=
 PS.imp (wN hx hS ou hi (g:=tBd X.K b) hg (λcl C s₀ H₀ ex=>mN.imp (hc cl C s₀ H₀ ex) λσ H Q q=>Dw (X':=cf X N' scope cl C s₀ H₀ ex) q) (te:=oD X.K d) (λcl C s₀ H₀ ex=>PE.imp (he cl C s₀ H₀ ex) λσ H Q q=>Hs (X':=cf X N' scope cl C s₀ H₀ ex) q) hN hiN hl hsw hs hf) λD σ H q=>ur hb q
theorem jc{st:Stmt}{i:Nat}{da:D}(h:PS X st (λD σ H=>tF X da σ H λv H1=>D.nx (σ.set i (some v)) H1))(hv:∀e μ x μ',da e μ=.ok x μ'→∃t,x=.val t):CS X st (aC i da) :=
 PS.imp h λD σ H ⟨F,α,e,μ,S,h⟩=>wI hv ⟨F,α,e,μ,S,(bh.toS h).mono (λx μ1 h v H1 F1 α1 x1 S1 o1=>h _ H1 F1 α1 x1 (S1.set o1)) λ_ _ h=>h⟩
end
def spD(K:PySem.W.Frag)(fn:FN)(n:Nat):Sp:=λvs H Q _=>vs.length=n∧∃F α μ xs r μ',dY K F α μ H∧Paired (λv x=>iq K F α v x) vs xs∧fn xs μ=.ok r μ' ∧
 ∀v H' F' α',Ex F α H F' α' H'→dY K F' α' μ' H'→iq K F' α' v r→Q v H'
section
variable{X:Cx}{f:Addr}{fd:FuncData}{ps:List Str}{x:Str}{p pos:Pos}{e:Expr}{es:List Expr}{ds:List D}{fn:FN}{k:Nat}
theorem Bm{σ:L2.St}{H:Hp}{Q:VK}(hl:ds.length=ps.length)(h:tD X (au (cal fn) ds) σ H Q):Hn (spD X.K fn ps.length) [] E0 (tDA X ds) σ H Q:=by
 obtain⟨F,α,e,μ,S,h⟩:=h
 refine⟨F,α,e,μ,S,(gn (R.wp_bind h)).mono (λxs μ1 aq vs H1 F1 α1 x1 S1 o1=>?_) λ_ _ h=>h⟩
 obtain⟨hn,h⟩:=aq
 show spD X.K fn ps.length (vs++[]) H1 Q E0
 rw[List.append_nil]
 have h:((fn xs μ1).calm).wp (Jg X.K F α H e σ Q) (hJ X F α H e):=h
 cases q:fn xs μ1 with
 | err c μ2=>rw[q] at h;exact h.elim
 | bad=>rw[q] at h;exact h.elim
 | ok r μ2 =>
  rw[q] at h
  exact⟨by rw[o1.length,hn,hl],F1,α1,μ1,xs,r,μ2,S1.st,o1,q,λv H2 F2 α2 x2 S2 o2=>h v H2 F2 α2 (x1.trans x2) (S1.of x2.same x2.pre S2) o2⟩
theorem aA(G:aN X.prog X.w X.K X.mg X.base CX0 k f fd ps (spD X.K fn ps.length))(hr:dQ k X.A)(hm:X.mg x=some (.ref f))(hk:PySem.W.keepIn X.K (.ref f)=true)(hb:Binds X.K fd ps [])(ha:CA X (e::es) ds)
  (hl:ds.length=ps.length:=by rfl) (hg:Gl X x:=by rfl) (hdb:(x==("__debug__":Str))=false:=by decide) (he:starEach (e::es) X.env=(false,eval e X.env)::starEach es X.env:=by rfl) (hpl:(backTo pos (starEach es X.env)).any (·.1)=false:=by rfl) :
  CE X (.Call (.Name x p) (e::es) [] pos) (au (cal fn) ds):=PE.imp (Fg G hr hg hm hk hb .nil La ha hdb he hpl) λσ H Q q=>Bm hl q
theorem qq{id:String}{r:List V→Hp→VK→Prop}{g:T→Option T}{d:D}(hc:fo X (.builtin id) r)(hs:qV X.K r g)(hm:X.mg x=none)(hv:bootBuiltins x=some (.builtin id))(ha:CE X e d)(hg:Gl X x:=by rfl)(hn:x≠"__name__":=by decide)
  (hdb:(x==("__debug__":Str))=false:=by decide) (hs1:starEach [e] X.env=(false,eval e X.env)::starEach [] X.env:=by rfl) (hpl:(backTo pos (starEach [] X.env)).any (·.1)=false:=by rfl):CE X (.Call (.Name x p) [e] [] pos) (dUn g d) :=
 PE.imp (qA hc hg hm hv (ag ha ar hs1) hn hdb hs1 hpl) (Hr hs)
theorem Dx{id:String}{r:List V→Hp→VK→Prop}{g:T→Option T}{d:D}(hc:fo X (.type id) r)(hs:qV X.K r g)(hm:X.mg x=none)(hv:bootBuiltins x=some (.type id))(ha:CE X e d)(hg:Gl X x:=by rfl)(hn:x≠"__name__":=by decide)
  (hdb:(x==("__debug__":Str))=false:=by decide) (hs1:starEach [e] X.env=(false,eval e X.env)::starEach [] X.env:=by rfl) (hpl:(backTo pos (starEach [] X.env)).any (·.1)=false:=by rfl):CE X (.Call (.Name x p) [e] [] pos) (dUn g d) :=
 PE.imp (ub hc hg hm hv (ag ha ar hs1) hn hdb hs1 hpl) (Hr hs)
theorem Dy{id:String}{r:List V→Hp→VK→Prop}{g:T→Option T}{d:D}(hc:fo X (.type id) r)(hs:wH X.K r g)(hm:X.mg x=none)(hv:bootBuiltins x=some (.type id))(ha:CE X e d)(hg:Gl X x:=by rfl)(hn:x≠"__name__":=by decide)
  (hdb:(x==("__debug__":Str))=false:=by decide) (hs1:starEach [e] X.env=(false,eval e X.env)::starEach [] X.env:=by rfl) (hpl:(backTo pos (starEach [] X.env)).any (·.1)=false:=by rfl):CF X (.Call (.Name x p) [e] [] pos) (dUn g d) :=
 ⟨PE.imp (ub hc hg hm hv (ag ha ar hs1) hn hdb hs1 hpl) (Jh hs),λ_ _ _ _ h=>Gg h⟩
end
inductive Md where
 | V|D|K
def Md.fn:Md→Nat→DS→FN
 | .V=>fnV
 | .D=>fnD
 | .K=>fnK
section
variable{P:Program}{w:World}{K:PySem.W.Frag}{mg:Str→Option Value}{base:Heap}
theorem Bn{F H:Hp}{α:List Addr}{μ:ah}{N:List Str}{vs:List V}{xs:List SV}(S:dY K F α μ H)(o:Paired (λv x=>iq K F α v x) vs xs):Sim K F α (starts N.length xs) μ (L2.start N vs) H:=by
 unfold starts
 have hl:=o.length
 refine⟨S,λi x h=>?_,by unfold L2.start;simp[hl]⟩
 have get:∀{vs:List V}{xs:List SV}{i:Nat}{x:SV},Paired (λv x=>iq K F α v x) vs xs→xs[i]?=some x→∃v,vs[i]?=some v∧iq K F α v x:=λ{vs}=>by
  intro xs i x o
  induction o generalizing i with
  | nil=>intro e;simp at e
  | cons r _ ih =>
   intro e
   cases i with
   | zero=>simp at e;subst e;exact⟨_,rfl,r⟩
   | succ i =>
    obtain⟨v,h1,h2⟩:=ih (i:=i) (by simpa using e)
    exact⟨v,by simpa using h1,h2⟩
 unfold slot at h
 by_cases hi:i<xs.length
 ·rw[List.getElem?_append_left (by simpa using hi),List.getElem?_map] at h
  cases q:xs[i]? with
  | none=>rw[q] at h;cases h
  | some y =>
   rw[q] at h
   cases h
   obtain⟨v,h1,h2⟩:=get o q
   refine⟨v,?_,h2⟩
   unfold L2.start
   rw[List.getElem?_append_left (by simpa [hl] using hi),List.getElem?_map,h1]
   rfl
 ·rw[List.getElem?_append_right (by simpa using hi),List.getElem?_replicate] at h
  split at h<;>rename_i q
  ·split at q<;>cases q
  ·cases h
theorem bF{x qual:Str}{st:Stmt}{f:Addr}{fd:FuncData}{N ps:List Str}{k:Nat}{d:DS}(md:Md)(F:Fun K x qual st f fd)(S:aM N ps (ai st))
  (hb:∀(cdv:Value) (A:Around) (outer:List Env) (s:Shared) (H:Hp) (E:XK),dQ k (A.deeper (envOfC qual (ai st) s.heap.objs.size f cdv))→CSs (xU CX0 P w K mg base N qual (ai st) f cdv A outer s H E).nox (aI st) d) :
  aN P w K mg base CX0 (k+1) f fd ps (spD K (md.fn N.length d) ps.length):=by
 refine F.ok S (λvs H Q E h=>h.1) λcdv A outer s H vs Q E hr h=>⟨_,hb cdv A outer s H E hr,?_⟩
 obtain⟨hl,F0,α,μ,xs,r,μ',S0,o,h,post⟩:=h
 refine⟨F0,α,_,μ,Bn S0 o,?_⟩
 have fin:∀{y:SV}{μ1:ah}{v:V}{H1 F1:Hp}{α1:List Addr},(match md with
   | .V=>ice μ.length y μ1
   | .D=>gc μ.length y μ1
   | .K=>.ok y μ1)=.ok r μ'→Ex F0 α H F1 α1 H1→dY K F1 α1 μ1 H1→iq K F1 α1 v y→Q v H1:=λ{y μ1 v H1 F1 α1} hg x1 S1 o1=>by
  cases md with
  | V =>
   obtain⟨F2,g1,g2,g3,g4⟩:=Jf S0.len x1.pre S1 o1 hg
   exact post v H1 F2 α ⟨x1.same.trans g1,List.prefix_refl _,λb z h1 h2 h3=>let ⟨a1,a2,a3⟩:=x1.fr b z h1 h2 h3;⟨a1,by rw[g2 b a3];exact a2,h3⟩⟩ g3 g4
  | D =>
   obtain⟨γ,g1,g2,g3,g4⟩:=Lf S0.len x1.pre S1 o1 hg
   exact post v H1 F1 γ ⟨x1.same,g1,λb z h1 h2 h3=>let ⟨a1,a2,a3⟩:=x1.fr b z h1 h2 h3;⟨a1,a2,λhm=>a3 (g2 b hm)⟩⟩ g3 g4
  | K =>
   cases hg
   exact post v H1 F1 α1 x1 S1 o1
 cases q:d (starts N.length xs) μ with
 | rt y μ1=>exact λv H1 F1 α1 x1 S1 o1=>fin (by cases md<;>(simp only[Md.fn,hU,m9,kr,q] at h;exact h)) x1 S1 o1
 | nx e1 μ1=>exact λσ1 H1 F1 α1 x1 S1=>fin (y:=.val .non) (by cases md<;>(simp only[Md.fn,hU,m9,kr,q] at h;exact h)) x1 S1.st (Rep.Le (K:=K) (F:=F1))
 | bk e1 μ1=>cases md<;>(simp only[Md.fn,hU,m9,kr,q] at h;cases h)
 | ct e1 μ1=>cases md<;>(simp only[Md.fn,hU,m9,kr,q] at h;cases h)
 | err c e1 μ1=>cases md<;>(simp only[Md.fn,hU,m9,kr,q] at h;cases h)
 | bad=>cases md<;>(simp only[Md.fn,hU,m9,kr,q] at h;cases h)
end
end Fw
namespace Fw
open PySem
section
variable{α:Type}{μ:List α}{a b c x:α}{l:List α}
@[simp] theorem gp:(μ++a::l)[μ.length]?=some a:=by simp
@[simp] theorem zY:(μ++a::b::l)[μ.length+1]?=some b:=by simp[List.getElem?_append_right]
@[simp] theorem kB:(μ++a::l).set μ.length x=μ++x::l:=by simp
@[simp] theorem Gk:(μ++a::b::l).set (μ.length+1) x=μ++a::x::l:=by simp[List.set_append]
@[simp] theorem u_:(μ++l).take μ.length=μ:=by simp
end
@[simp] theorem jN(μ:ah)(k:Nat):rd μ (.cel k)=(μ[k]?).map (·.2):=(rfl)
theorem va{μ:ah}{k:Nat}{b:Bool}{t:T}(h:μ[k]?=some (b,t)):frz (.cel k) μ=.ok t (μ.set k (false,t)):=by
 unfold frz;simp only[h]
@[simp] theorem MV(μ l:ah)(b:Bool)(t:T):frz (.cel μ.length) (μ++(b,t)::l)=.ok t (μ++(false,t)::l):=by
 rw[va (b:=b) (t:=t) (by simp)];simp
@[simp] theorem MW(μ l:ah)(a:Bool×T)(b:Bool)(t:T):frz (.cel (μ.length+1)) (μ++a::(b,t)::l)=.ok t (μ++a::(false,t)::l):=by
 rw[va (b:=b) (t:=t) (by simp)];simp
@[simp] theorem zZ(n:Nat)(t:T)(μ:ah):ice n (.val t) μ=.ok (.val t) (μ.take n):=(rfl)
@[simp] theorem MX(μ l:ah)(b:Bool)(t:T):ice μ.length (.cel μ.length) (μ++(b,t)::l)=.ok (.val t) μ:=by unfold ice;simp
@[simp] theorem NB(μ l:ah)(a:Bool×T):gc μ.length (.cel μ.length) (μ++a::l)=.ok (.cel μ.length) (μ++[a]):=by unfold gc;simp
@[simp] theorem ow(μ l:ah)(b:Bool)(ts:List T):oi (.cel μ.length) (μ++(b,.lst ts)::l)=some ():=zU (b:=b) (ts:=ts) (by simp)
@[simp] theorem Lu(μ l:ah)(a:Bool×T)(b:Bool)(ts:List T):oi (.cel (μ.length+1)) (μ++a::(b,.lst ts)::l)=some ():=zU (b:=b) (ts:=ts) (by simp)
theorem append_at{μ:ah}{k:Nat}{ts:List T}{t:T}(h:μ[k]?=some (true,.lst ts))(hl:ts.length<szL):appendAt (.cel k) t μ=some (μ.set k (true,.lst (ts++[t]))):=by
 unfold appendAt;simp only[h];rw[if_pos hl]
theorem nh(μ l:ah)(ts:List T)(t:T)(hl:ts.length<szL):appendAt (.cel μ.length) t (μ++(true,.lst ts)::l)=some (μ++(true,.lst (ts++[t]))::l):=by
 rw[append_at (ts:=ts) (by simp) hl];simp
theorem yp(μ l:ah)(a:Bool×T)(ts:List T)(t:T)(hl:ts.length<szL):appendAt (.cel (μ.length+1)) t (μ++a::(true,.lst ts)::l)=some (μ++a::(true,.lst (ts++[t]))::l):=by
 rw[append_at (ts:=ts) (by simp) hl];simp
theorem j5{μ:ah}{k:Nat}{ts:List T}{t:T}{i:Int}(h:μ[k]?=some (true,.lst ts))(h0:0≤i)(h1:i<ts.length):setAt (.cel k) (.int i) t μ=some (μ.set k (true,.lst (ts.set i.toNat t))):=by
 unfold setAt;simp only[h];unfold ixN;rw[if_pos h0,if_pos h1];rfl
@[simp] theorem uu(m:Nat)(xs:List SV):starts m xs=xs.map some++List.replicate (m-xs.length) none:=(rfl)
theorem qr{α:Type}{xs:List α}{i:Int}(h0:0≤i):atI xs i=xs[i.toNat]?:=by
 unfold atI ixN
 rw[if_pos h0]
 by_cases h:i<xs.length
 ·rw[if_pos h];rfl
 ·rw[if_neg h]
  exact (List.getElem?_eq_none (by lia)).symm
theorem kC{α β:Type}{xs:List α}{f:α→β}{i:Int}(h0:0≤i)(h1:i<xs.length):atI (xs.map f) i=some (f (xs[i.toNat]'(by lia))):=by
 rw[qr h0,List.getElem?_map,List.getElem?_eq_getElem (by lia)];rfl
@[simp] theorem wO{α:Type}(x:α)(xs:List α):atI (x::xs) 0=some x:=by rw[qr (by lia)];rfl
@[simp] theorem z_{α:Type}(x y:α)(xs:List α):atI (x::y::xs) 1=some y:=by rw[qr (by lia)];rfl
@[simp] theorem Gm{α:Type}(x y z:α)(xs:List α):atI (x::y::z::xs) 2=some z:=by rw[qr (by lia)];rfl
def bB(lo:Int)(n:Nat):List Int:=(List.range n).map λ(k:Nat)=>lo+(k:Int)
theorem fv(lo:Int)(n:Nat):bq lo n=(bB lo n).map T.int:=by
 unfold bB
 induction n generalizing lo with
 | zero=>rfl
 | succ n ih =>
  rw[bq,ih (lo+1),List.range_succ_eq_map]
  simp only[List.map_cons,List.map_map]
  congr 1
  ·simp
  ·apply List.map_congr_left
   intro k _
   simp only[Function.comp]
   congr 1
   lia
@[simp] theorem jO(lo:Int)(n:Nat):(bB lo n).length=n:=by simp[bB]
theorem ni{lo:Int}{n:Nat}{k:Int}:k∈bB lo n↔lo≤k∧k<lo+n:=by
 unfold bB
 rw[List.mem_map]
 constructor
 ·rintro⟨j,hj,rfl⟩
  rw[List.mem_range] at hj
  lia
 ·rintro⟨h1,h2⟩
  exact⟨(k-lo).toNat,by rw[List.mem_range];lia,by lia⟩
theorem yq{lo:Int}{n i:Nat}{k:Int}(h:(bB lo n)[i]?=some k):i<n∧k=lo+i:=by
 unfold bB at h
 rw[List.getElem?_map] at h
 by_cases hi:i<n
 ·rw[List.getElem?_range hi] at h
  cases h
  exact⟨hi,rfl⟩
 ·rw[List.getElem?_eq_none (by simpa using hi)] at h
  cases h
theorem q_{lo:Int}{n i:Nat}{t:T}(h:(bq lo n)[i]?=some t):i<n∧t=.int (lo+i):=by
 rw[fv,List.getElem?_map] at h
 cases q:(bB lo n)[i]? with
 | none=>rw[q] at h;cases h
 | some k =>
  rw[q] at h
  cases h
  obtain⟨h1,rfl⟩:=yq q
  exact⟨h1,rfl⟩
theorem ox{lo:Int}{n i:Nat}{t:T}(h:(bq lo n)[i]?=some t):∃k:Int,t=.int k∧i<n∧k=lo+i:=by
 obtain⟨h1,rfl⟩:=q_ h
 exact⟨_,rfl,h1,rfl⟩
@[simp] theorem cc(lo:Int)(n:Nat):(bq lo n).length=n:=by rw[fv];simp
theorem Dz{α:Type}(g:α→Bool)(xs:List α):Bh (.lst (xs.map λk=>T.bl (g k)))=some (.bl (xs.all g)):=by
 have e:(xs.map λk=>T.bl (g k))=(xs.map g).map T.bl:=by simp
 rw[e,Dh];simp[List.all_map]
theorem lN{α:Type}(g:α→Int)(xs:List α):mZ (.lst (xs.map λk=>T.int (g k)))=some (.int (xs.map g).sum):=by
 have e:(xs.map λk=>T.int (g k))=(xs.map g).map T.int:=by simp
 rw[e,Bf]
def RS.yr(r:RS)(J:Slots→ah→Prop)(P:RS→Prop):Prop:=match r with
 | .nx e μ=>J e μ
 | .ct e μ=>J e μ
 | .bk e μ=>P (.nx e μ)
 | r=>P r
@[simp] theorem Gn(e:Slots)(μ:ah)(J:Slots→ah→Prop)(P:RS→Prop):(RS.nx e μ).yr J P=J e μ:=(rfl)
@[simp] theorem Gp(x:SV)(μ:ah)(J:Slots→ah→Prop)(P:RS→Prop):(RS.rt x μ).yr J P=P (.rt x μ):=(rfl)
theorem oy{same:ah→Prop}{b:BD}{body:DS}(P:RS→Prop)(I:Nat→Slots→ah→Prop)(hs:∀i e μ,I i e μ→same μ){ts:List T}
  (step:∀i t e μ,ts[i]?=some t→I i e μ→∃e1,b t e=some e1∧(body e1 μ).yr (I (i+1)) P) (fin:∀e μ,I ts.length e μ→P (.nx e μ)) {e:Slots}{μ:ah} (h:I 0 e μ):P (forL same b body ts e μ):=by
 have all:∀(us:List T) (i:Nat) (e:Slots) (μ:ah),ts.drop i=us→I i e μ→i≤ts.length→P (forL same b body us e μ):=by
  intro us
  induction us with
  | nil =>
   intro i e μ hd hI hi
   have hl:ts.length≤i:=by
    have:=congrArg List.length hd
    simp at this
    lia
   have e1:i=ts.length:=by lia
   subst e1
   unfold forL
   rw[if_pos (hs _ _ _ hI)]
   exact fin e μ hI
  | cons t us ih =>
   intro i e μ hd hI hi
   have hlt:i<ts.length:=by
    have:=congrArg List.length hd
    simp at this
    lia
   have hg:ts[i]?=some t:=by
    have:(ts.drop i)[0]?=some t:=by rw[hd];rfl
    rw[List.getElem?_drop] at this
    simpa using this
   have hd':ts.drop (i+1)=us:=by
    rw[← List.tail_drop,hd];rfl
   obtain⟨e1,h1,h2⟩:=step i t e μ hg hI
   unfold forL
   rw[if_pos (hs _ _ _ hI)]
   simp only[h1]
   cases q:body e1 μ with
   | nx e2 μ2=>rw[q] at h2;exact ih (i+1) e2 μ2 hd' h2 hlt
   | ct e2 μ2=>rw[q] at h2;exact ih (i+1) e2 μ2 hd' h2 hlt
   | bk e2 μ2=>rw[q] at h2;exact h2
   | rt x μ2=>rw[q] at h2;exact h2
   | err c e2 μ2=>rw[q] at h2;exact h2
   | bad=>rw[q] at h2;exact h2
 exact all ts 0 e μ rfl h (Nat.zero_le _)
theorem fO{same:ah→Prop}{b:BD}{body:DS}(I:Nat→Slots→ah→Prop)(hs:∀i e μ,I i e μ→same μ){ts:List T}
  (step:∀i t e μ,ts[i]?=some t→I i e μ→∃e1 e2 μ2,b t e=some e1∧body e1 μ=.nx e2 μ2∧I (i+1) e2 μ2) {e:Slots}{μ:ah} (h:I 0 e μ):∃e' μ',forL same b body ts e μ=.nx e' μ'∧I ts.length e' μ' :=
 oy (P:=λr=>∃e' μ',r=.nx e' μ'∧I ts.length e' μ') I hs (λi t e μ ht hI=>by
  obtain⟨e1,e2,μ2,h1,h2,h3⟩:=step i t e μ ht hI
  exact⟨e1,h1,by rw[h2];exact h3⟩) (λe μ hI=>⟨e,μ,rfl,hI⟩) h
theorem kD{same:ah→Prop}{b:BD}{c d:D}{e:Slots}{μ:ah}(p:Int→Bool)(g:Int→T)(hs:same μ)(ns:List Int)
  (h:∀n∈ns,∃e1,b (.int n) e=some e1∧c e1 μ=.ok (.val (.bl (p n))) μ∧(p n=true→d e1 μ=.ok (.val (g n)) μ)):bU same b c d e (ns.map T.int) μ=.ok ((ns.filter p).map g) μ:=by
 induction ns with
 | nil=>unfold bU;rw[List.map_nil];simp only;rw[if_pos hs];rfl
 | cons n ns ih =>
  obtain⟨e1,h1,h2,h3⟩:=h n List.mem_cons_self
  have ih:=ih λu hu=>h u (List.mem_cons_of_mem _ hu)
  rw[List.map_cons]
  unfold bU
  rw[if_pos hs]
  simp only[h1,h2,R.cY,R.aP,ja,R.aY]
  cases q:p n with
  | true=>rw[if_pos rfl,h3 q];simp[q,ih]
  | false=>rw[if_neg Bool.false_ne_true,ih];simp[q]
theorem uv{same:ah→Prop}{b:BD}{d:D}{e:Slots}{μ:ah}(g:Int→T)(hs:same μ)(ns:List Int)
  (h:∀n∈ns,∃e1,b (.int n) e=some e1∧d e1 μ=.ok (.val (g n)) μ):bU same b (dC (.bl true)) d e (ns.map T.int) μ=.ok (ns.map g) μ:=by
 have:=kD (same:=same) (b:=b) (c:=dC (.bl true)) (d:=d) (e:=e) (μ:=μ) (λ_=>true) g hs ns λn hn=>by
  obtain⟨e1,h1,h2⟩:=h n hn
  exact⟨e1,h1,rfl,λ_=>h2⟩
 rw[this]
 congr 2
 exact List.filter_eq_self.mpr λ_ _=>rfl
theorem lO{α:Type}{same:ah→Prop}{b:BD}{c d:D}{e:Slots}{μ:ah}(f:α→T)(p:α→Bool)(g:α→T)(hs:same μ)(as:List α)
  (h:∀a∈as,∃e1,b (f a) e=some e1∧c e1 μ=.ok (.val (.bl (p a))) μ∧(p a=true→d e1 μ=.ok (.val (g a)) μ)):bU same b c d e (as.map f) μ=.ok ((as.filter p).map g) μ:=by
 induction as with
 | nil=>unfold bU;rw[List.map_nil];simp only;rw[if_pos hs];rfl
 | cons n ns ih =>
  obtain⟨e1,h1,h2,h3⟩:=h n List.mem_cons_self
  have ih:=ih λu hu=>h u (List.mem_cons_of_mem _ hu)
  rw[List.map_cons]
  unfold bU
  rw[if_pos hs]
  simp only[h1,h2,R.cY,R.aP,ja,R.aY]
  cases q:p n with
  | true=>rw[if_pos rfl,h3 q];simp[q,ih]
  | false=>rw[if_neg Bool.false_ne_true,ih];simp[q]
theorem bz{α:Type}{same:ah→Prop}{b:BD}{d:D}{e:Slots}{μ:ah}(f:α→T)(g:α→T)(hs:same μ)(as:List α)
  (h:∀a∈as,∃e1,b (f a) e=some e1∧d e1 μ=.ok (.val (g a)) μ):bU same b (dC (.bl true)) d e (as.map f) μ=.ok (as.map g) μ:=by
 have:=lO (same:=same) (b:=b) (c:=dC (.bl true)) (d:=d) (e:=e) (μ:=μ) f (λ_=>true) g hs as λn hn=>by
  obtain⟨e1,h1,h2⟩:=h n hn
  exact⟨e1,h1,rfl,λ_=>h2⟩
 rw[this]
 congr 2
 exact List.filter_eq_self.mpr λ_ _=>rfl
theorem j6(xs ys:List Int):g_ (xs.map T.int) (ys.map T.int)=(xs.zip ys).map λq=>.tup [.int q.1,.int q.2]:=by
 induction xs generalizing ys with
 | nil=>rfl
 | cons x xs ih =>
  cases ys with
  | nil=>rfl
  | cons y ys=>simp[g_,ih]
theorem lP(ts us:List T):(g_ ts us).length=min ts.length us.length:=by
 induction ts generalizing us with
 | nil=>simp[g_]
 | cons t ts ih =>
  cases us with
  | nil=>simp[g_]
  | cons u us=>simp[g_,ih]
theorem ju{c:D}{body:DS}:∀(n m:Nat) (e:Slots) (μ:ah),n≤m→cT c body n e μ≠.bad→cT c body m e μ=cT c body n e μ
 | 0,m,e,μ,_,h=>absurd rfl h
 | n+1,0,e,μ,h,_=>absurd h (by lia)
 | n+1,m+1,e,μ,hnm,h=>by
  unfold cT at h ⊢
  cases q:c e μ with
  | err x μ1=>simp only[R.FX]
  | bad=>rw[q] at h;exact absurd rfl h
  | ok x μ1 =>
   rw[q] at h
   simp only[R.cK] at h ⊢
   cases q2:asB x with
   | none=>rw[q2] at h;exact absurd rfl h
   | some k =>
    rw[q2] at h
    simp only[R.aY,R.cK] at h ⊢
    cases k with
    | false=>rfl
    | true =>
     rw[if_pos rfl] at h ⊢
     rw[if_pos rfl]
     cases q3:body e μ1 with
     | nx e2 μ2=>rw[q3] at h;simp only at h ⊢;exact ju n m e2 μ2 (by lia) h
     | ct e2 μ2=>rw[q3] at h;simp only at h ⊢;exact ju n m e2 μ2 (by lia) h
     | bk e2 μ2=>rfl
     | rt x μ2=>rfl
     | err x e2 μ2=>rfl
     | bad=>rfl
theorem Bo{c:D}{body:DS}{n:Nat}{e:Slots}{μ:ah}(h:cT c body n e μ≠.bad):m7 c body e μ=cT c body n e μ:=by
 have hn:∃n,cT c body n e μ≠.bad:=⟨n,h⟩
 unfold m7
 rw[dif_pos hn]
 have h2:=hn.choose_spec
 rcases Nat.le_total n hn.choose with z|z
 ·exact ju _ _ _ _ z h
 ·exact (ju _ _ _ _ z h2).symm
theorem yt{c:D}{body:DS}(P:RS→Prop)(hP:¬ P .bad)(I:Nat→Slots→ah→Prop)
  (step:∀m e μ,I m e μ→∃k μ1,c e μ=.ok (.val (.bl k)) μ1∧if k=true then (body e μ1).yr (λe2 μ2=>∃m',m'<m∧I m' e2 μ2) P else P (.nx e μ1)) :
  ∀(m:Nat) (e:Slots) (μ:ah),I m e μ→P (m7 c body e μ):=by
 have key:∀(m:Nat) (e:Slots) (μ:ah),I m e μ→∃n,P (cT c body n e μ):=by
  intro m
  induction m using Nat.strongRecOn with
  | ind m ih =>
   intro e μ hI
   obtain⟨k,μ1,h1,h2⟩:=step m e μ hI
   cases k with
   | false =>
    refine⟨1,?_⟩
    unfold cT
    simp only[h1,R.cK,ja,R.aY,Bool.false_eq_true,if_false]
    exact h2
   | true =>
    rw[if_pos rfl] at h2
    cases q:body e μ1 with
    | nx e2 μ2 =>
     rw[q] at h2
     obtain⟨m',hm,hI'⟩:=h2
     obtain⟨n,hn⟩:=ih m' hm e2 μ2 hI'
     refine⟨n+1,?_⟩
     unfold cT
     simp only[h1,R.cK,ja,R.aY,if_true,q]
     exact hn
    | ct e2 μ2 =>
     rw[q] at h2
     obtain⟨m',hm,hI'⟩:=h2
     obtain⟨n,hn⟩:=ih m' hm e2 μ2 hI'
     refine⟨n+1,?_⟩
     unfold cT
     simp only[h1,R.cK,ja,R.aY,if_true,q]
     exact hn
    | bk e2 μ2 =>
     rw[q] at h2
     refine⟨1,?_⟩
     unfold cT
     simp only[h1,R.cK,ja,R.aY,if_true,q]
     exact h2
    | rt x μ2 =>
     rw[q] at h2
     refine⟨1,?_⟩
     unfold cT
     simp only[h1,R.cK,ja,R.aY,if_true,q]
     exact h2
    | err x e2 μ2 =>
     rw[q] at h2
     refine⟨1,?_⟩
     unfold cT
     simp only[h1,R.cK,ja,R.aY,if_true,q]
     exact h2
    | bad=>rw[q] at h2;exact absurd h2 hP
 intro m e μ hI
 obtain⟨n,hn⟩:=key m e μ hI
 rw[Bo (n:=n) (λz=>hP (z ▸ hn))]
 exact hn
def SN:T→T→Option T
 | .int i,.int j=>some (.int (if j<i then j else i))
 | _,_=>none
def Gq:T→T→Option T
 | .int i,.int j=>some (.int (if j > i then j else i))
 | _,_=>none
@[simp] theorem DA(i j:Int):Gq (.int i) (.int j)=some (.int (if j > i then j else i)):=(rfl)
def oA:T→Option Key
 | .int i=>some (.inl i)
 | .str x=>some (.inr x)
 | _=>none
@[simp] theorem Bp(i:Int):oA (.int i)=some (.inl i):=(rfl)
def kE(kts:List (Key×T))(k:Key):Option T:=(kts.find? λkv=>decide (kv.1=k)).map (·.2)
def vb(kts:List (Key×T))(k:Key)(t:T):List (Key×T) :=
 if (kts.any λkv=>decide (kv.1=k))=true then kts.map (λkv=>if kv.1=k then (kv.1,t) else kv) else kts++[(k,t)]
def rg:T→T→Option T
 | .dct kts,u=>(oA u).bind λk=>kE kts k
 | _,_=>none
@[simp] theorem Bq(kts:List (Key×T))(i:Int):rg (.dct kts) (.int i)=kE kts (.inl i):=(rfl)
def SO:T→T→Option T
 | u,.dct kts=>(oA u).map λk=>.bl (kE kts k).isSome
 | _,_=>none
def uw:T→T→Option T
 | u,.dct kts=>(oA u).map λk=>.bl (!(kE kts k).isSome)
 | _,_=>none
@[simp] theorem Br(kts:List (Key×T))(i:Int):uw (.int i) (.dct kts)=some (.bl (!(kE kts (.inl i)).isSome)):=(rfl)
def nj(x:SV)(k:T)(t:T)(μ:ah):Option ah:=match x with
 | .cel c=>match μ[c]? with
  | some (true,.dct kts)=>(oA k).bind λkk=>if kts.length<szL then some (μ.set c (true,.dct (vb kts kk t))) else none
  | _=>none
 | _=>none
def p7(i:Nat)(dk dv:D):DS:=λe μ=>(dv e μ).toS e λy μ1=>(R.lift (slot e i) μ1).toS e λx μ1=>(dk e μ1).toS e λz μ2=>(R.lift (rd μ2 z) μ2).toS e λk μ2 =>
 (frz y μ2).toS e λt μ3=>(R.lift (nj x k t μ3) μ3).toS e λμ4 _=>.nx e μ4
@[simp] theorem rh(i:Nat)(dk dv:D)(e:Slots)(μ:ah):p7 i dk dv e μ=(dv e μ).toS e λy μ1=>(R.lift (slot e i) μ1).toS e λx μ1=>(dk e μ1).toS e λz μ2=>(R.lift (rd μ2 z) μ2).toS e λk μ2 =>
 (frz y μ2).toS e λt μ3=>(R.lift (nj x k t μ3) μ3).toS e λμ4 _=>.nx e μ4:=(rfl)
theorem ux{μ:ah}{c:Nat}{kts:List (Key×T)}{i:Int}{t:T}(h:μ[c]?=some (true,.dct kts))(hl:kts.length<szL):nj (.cel c) (.int i) t μ=some (μ.set c (true,.dct (vb kts (.inl i) t))):=by
 unfold nj
 simp only[h,Bp,Option.bind_some,hl,if_true]
def eL(kts:List (Key×T)):List T:=kts.map λp=>.tup [wD p.1,p.2]
def asD:T→Option (List (Key×T))
 | .dct kts=>some kts
 | _=>none
@[simp] theorem vc(kts:List (Key×T)):asD (.dct kts)=some kts:=(rfl)
def kF(d:D):DI:=λe μ=>(d e μ).bind λx μ1=>(R.lift ((rd μ1 x).bind asD) μ1).bind λkts μ1=>.ok ⟨eL kts,λμ'=>rd μ' x=rd μ1 x⟩ μ1
@[simp] theorem pJ(d:D)(e:Slots)(μ:ah):kF d e μ=(d e μ).bind λx μ1=>(R.lift ((rd μ1 x).bind asD) μ1).bind λkts μ1=>.ok ⟨eL kts,λμ'=>rd μ' x=rd μ1 x⟩ μ1:=(rfl)
def iL(i:Int):List T→List T
 | []=>[]
 | t::ts=>.tup [.int i,t]::iL (i+1) ts
theorem uy:∀(i:Int) (ts:List T),(iL i ts).length=ts.length
 | i,[]=>rfl
 | i,t::ts=>by simp[iL,uy (i+1) ts]
theorem uz:∀{i:Int}{ts:List T}{j:Nat}{t:T},(iL i ts)[j]?=some t→∃a,ts[j]?=some a∧t=.tup [.int (i+j),a]
 | i,[],j,t,h=>by simp[iL] at h
 | i,a::ts,0,t,h=>by simp[iL] at h;exact⟨a,rfl,by simp[← h]⟩
 | i,a::ts,j+1,t,h=>by
  obtain⟨b,h1,h2⟩:=uz (i:=i+1) (ts:=ts) (j:=j) (t:=t) (by simpa [iL] using h)
  refine⟨b,by simpa using h1,?_⟩
  rw[h2,show i+1+(j:Int)=i+((j+1:Nat):Int) by lia]
theorem wQ(i:Int)(ts:List T)(j:Nat):(iL i ts)[j]?=(ts[j]?).map λt=>.tup [.int (i+j),t]:=by
 induction ts generalizing i j with
 | nil=>simp[iL]
 | cons a ts ih =>
  cases j with
  | zero=>simp[iL]
  | succ j=>simp only[iL,List.getElem?_cons_succ,ih];congr 1;funext t;rw[show i+1+(j:Int)=i+((j+1:Nat):Int) by lia]
def uA(d:D):DI:=λe μ=>(d e μ).bind λx μ1=>(R.lift ((rd μ1 x).bind bg) μ1).bind λts μ1=>.ok ⟨iL 0 ts,λμ'=>rd μ' x=rd μ1 x⟩ μ1
@[simp] theorem DB(d:D)(e:Slots)(μ:ah):uA d e μ=(d e μ).bind λx μ1=>(R.lift ((rd μ1 x).bind bg) μ1).bind λts μ1=>.ok ⟨iL 0 ts,λμ'=>rd μ' x=rd μ1 x⟩ μ1:=(rfl)
def lQ:T→Bool
 | .non=>true
 | .bl _=>true
 | .int _=>true
 | .str _=>true
 | _=>false
def inT(t:T)(us:List T):Bool:=us.any λy=>eqT y t
def fIn(t u:T):Option T:=match bg u with
 | some us=>if (lQ t && us.all lQ)=true then some (.bl (inT t us)) else none
 | none=>none
@[simp] theorem sR(ns:List Int):(ns.map T.int).all lQ=true:=by simp[lQ]
theorem DC(i:Int)(ns:List Int):inT (.int i) (ns.map T.int)=decide (i∈ns):=by
 unfold inT
 rw[Bool.eq_iff_iff,decide_eq_true_iff,List.any_eq_true]
 constructor
 ·rintro⟨t,ht,he⟩
  obtain⟨j,hj,rfl⟩:=List.mem_map.mp ht
  rw[zP,beq_iff_eq] at he
  exact he ▸ hj
 ·intro h
  exact⟨_,List.mem_map.mpr ⟨i,h,rfl⟩,by rw[zP,beq_iff_eq]⟩
@[simp] theorem rj(i:Int)(ns:List Int):fIn (.int i) (.lst (ns.map T.int))=some (.bl (decide (i∈ns))):=by
 unfold fIn
 simp only[iR,sR,Bool.and_true,DC]
 rfl
def Lv:T→T→Option T
 | .int i,.int j=>if 0≤i∧j=1 then some (.int (i%2)) else none
 | _,_=>none
@[simp] theorem Bs(i:Int)(h:0≤i):Lv (.int i) (.int 1)=some (.int (i%2)):=if_pos ⟨h,rfl⟩
def Bt:T→Option T
 | .int i=>some (.int i)
 | .bl b=>some (.int (if b then 1 else 0))
 | _=>none
@[simp] theorem DD(i:Int):Bt (.int i)=some (.int i):=(rfl)
@[simp] theorem Gr(b:Bool):Bt (.bl b)=some (.int (if b then 1 else 0)):=(rfl)
def asV:SV→Option T
 | .val t=>some t
 | _=>none
@[simp] theorem Gs(t:T):asV (.val t)=some t:=(rfl)
def Gu(is:List Nat)(d:D):DS:=λe μ=>(d e μ).toS e λx μ1=>(R.lift ((asV x).bind λt=>cR is t e) μ1).toS e λe' μ1=>.nx e' μ1
@[simp] theorem Gv(is:List Nat)(d:D)(e:Slots)(μ:ah):Gu is d e μ=(d e μ).toS e λx μ1=>(R.lift ((asV x).bind λt=>cR is t e) μ1).toS e λe' μ1=>.nx e' μ1:=(rfl)
@[simp] theorem DE(i j k:Nat)(t u v:T)(e:Slots):cR [i,j,k] (.tup [t,u,v]) e=some (((e.set i (some (.val t))).set j (some (.val u))).set k (some (.val v))):=(rfl)
def Aa(x:SV)(μ:ah):Option ah:=match x with
 | .cel k=>match μ[k]? with
  | some (true,.lst _)=>some (μ.set k (true,.lst []))
  | _=>none
 | _=>none
def Jp(o:D):DS:=λe μ=>(o e μ).toS e λx μ0=>(R.lift (Aa x μ0) μ0).toS e λμ1 _=>.nx e μ1
@[simp] theorem Bu(o:D)(e:Slots)(μ:ah):Jp o e μ=(o e μ).toS e λx μ0=>(R.lift (Aa x μ0) μ0).toS e λμ1 _=>.nx e μ1:=(rfl)
def j7(x:SV)(t:T)(μ:ah):Option ah:=match x,t with
 | .cel k,.lst us=>match μ[k]? with
  | some (true,.lst ts)=>if ts.length+us.length≤szL then some (μ.set k (true,.lst (ts++us))) else none
  | _=>none
 | _,_=>none
def NC:T→Option T
 | .lst ts=>some (.lst ts.reverse)
 | _=>none
@[simp] theorem DF(ts:List T):NC (.lst ts)=some (.lst ts.reverse):=(rfl)
def oB(o d:D):DS:=λe μ=>(o e μ).toS e λx μ0=>(R.lift (oi x μ0) μ0).toS e λ_ μ0=>(d e μ0).toS e λy μ1=>(R.lift ((asV y).bind λt=>j7 x t μ1) μ1).toS e λμ2 _=>.nx e μ2
@[simp] theorem yu(o d:D)(e:Slots)(μ:ah):oB o d e μ=(o e μ).toS e λx μ0=>(R.lift (oi x μ0) μ0).toS e λ_ μ0=>(d e μ0).toS e λy μ1=>(R.lift ((asV y).bind λt=>j7 x t μ1) μ1).toS e λμ2 _=>.nx e μ2:=(rfl)
def uB:T→Option T
 | .lst ts=>((gj ts).bind λns=>ns.min?).map T.int
 | _=>none
theorem DG{ns:List Int}{m:Int}(h:m∈ns)(h2:∀a∈ns,m≤a):uB (.lst (ns.map T.int))=some (.int m):=by
 have:ns.min?=some m:=by rw[List.min?_eq_some_iff];exact⟨h,h2⟩
 simp[uB,ko,this]
theorem ia{us:List Value}{n:Nat}(h:us.length=n+1):∃a as,us=a::as:=by
 cases us with
 | nil=>cases h
 | cons a as=>exact⟨a,as,rfl⟩
def nq:T→T→Option T
 | .int i,.int j=>if j=1 then some (.int (i%2)) else none
 | _,_=>none
theorem yv(i:Int):nq (.int i) (.int 1)=some (.int (i%2)):=by unfold nq;exact if_pos rfl
def DH:T→Option (List T)
 | .lst ts=>some ts
 | _=>none
end Fw
namespace Fw
open PySem L2 PyProof.Rows
section
variable{P:Program}{w:World}{K:PySem.W.Frag}{mg:Str→Option Value}{base:Heap}
end
section
variable{X:Cx}{f:Addr}{fd:FuncData}{ps:List Str}{x:Str}{p pos:Pos}{e:Expr}{es:List Expr}{ds:List D}{fn:FN}{k:Nat}
end
section
variable{X:Cx}{pins:List (Addr×Obj)}{σ:L2.St}{H:Hp}{s:Shared}
end
end Fw
namespace L2
open PySem PySem.Spec PyProof.Rows
section
variable{prog:Program}{w:World}{A:Around}{E:Value→Shared→Prop}{s:Shared}{e C:Addr}{bm:List Value}{Q:Value→Shared→Prop}{c:Value}
end
end L2
namespace Fw
open PySem L2 PyProof.Rows
section
variable{X:Cx}{n x:Str}{C D:Addr}{np pos tp:Pos}{name:Option Str}{body tl:List Stmt}{b₀:Stmt}{rest:List ExceptHandler}{d:DS}
end
section
variable{X:Cx}{D:Addr}{T:String}{x:Str}{p p2 pos:Pos}{a:Expr}{da:Fw.D}{ns:List Str}
end
end Fw
namespace L2
open PySem PySem.Spec PySem.Calls PySem.W PyProof.Rows Builtin Builtin.ObjectAttr Builtin.Getset_descriptor
section
variable{prog:Program}{w:World}{A:Around}{E:Value→Shared→Prop}{s:Shared}{K:Frag}{x C:Addr}
end
end L2
namespace Fw
open PySem L2 PyProof.Rows
section
variable{X:Cx}{D:Addr}{Tn:String}{x:Str}{p p2 pos:Pos}{a:Expr}{da:Fw.D}{f:Str→Option Bool}
end
end Fw
namespace Fw.H
open PySem Fw
def iS(p:Int):Prop:=p∈([2,3,5,7,11,13,17,19,23,29,31,37,41,43,47,53,59,61,67,71,73,79,83,89,97]:List Int)
theorem iS.pos{p:Int}(h:iS p):2≤p∧p≤97:=by
 have key:∀p∈([2,3,5,7,11,13,17,19,23,29,31,37,41,43,47,53,59,61,67,71,73,79,83,89,97]:List Int),2≤p∧p≤97:=by decide +kernel
 exact key p h
end Fw.H
namespace Fw
open PySem PySem.Spec PyProof.Rows L2
structure Gf(K:PySem.W.Frag)(mg:Str→Option Value)(x:Str)(st:Stmt)(ps:List Str)(f:Addr)(fd:FuncData):Prop where
 F:Fun K x x st f fd
 b:Binds K fd ps []
 m:mg x=some (.ref f)
def jd(scope so:Scope):Scope:={ scope with names:=scope.names.map λ(n,k)=>if (k==.free && so.kind==.function && so.names.lookup n==some .cell) then (n,.cell) else (n,k) }
def vd(N N':List Str)(scope so:Scope)(mp:List (Option Nat)):Prop :=
 scope.kind=.function∧(scope.names.filter λy=>y.2==NameKind.cell).length≤1∧(scope.names.map (·.1)).Nodup∧(∀y∈scope.names,(y.2=.local→scope.names.lookup y.1=some .local)∧(y.2=.free→(so.names.lookup y.1=some .cell∨so.names.lookup y.1=some .free) ∧
  ((jd scope so).names.lookup y.1=some .cell∨(jd scope so).names.lookup y.1=some .free)))∧mp.length=N'.length ∧
 ∀q∈mp.zip N',match q.1 with
  | none=>True
  | some j=>N[j]?=some q.2∧(q.2,NameKind.free)∈scope.names∧(so.names.lookup q.2=some .cell∨so.names.lookup q.2=some .free)
noncomputable instance (N N' : List Str) (scope so : Scope) (mp : List (Option Nat)) : Decidable (vd N N' scope so mp) := by
 unfold vd
 have:∀q:Option Nat×Str,Decidable (match q.1 with
  | none=>True
  | some j=>N[j]?=some q.2∧(q.2,NameKind.free)∈scope.names∧(so.names.lookup q.2=some .cell∨so.names.lookup q.2=some .free)):=λq=>by
  cases q.1<;>infer_instance
 infer_instance
theorem mQ{α:Type}{x:Str}{k:α}:∀{l:List (Str×α)},(l.map (·.1)).Nodup→(x,k)∈l→l.lookup x=some k
 | [],_,h=>by cases h
 | (y,k')::l,nd,h=>by
  have nd':=List.nodup_cons.mp (by simpa using nd:(y::l.map (·.1)).Nodup)
  rw[List.lookup_cons]
  rcases List.mem_cons.mp h with e|h
  ·cases e;simp
  ·have:(x==y)=false:=by
    have:x≠y:=λq=>nd'.1 (List.mem_map.mpr ⟨_,h,q⟩)
    simpa using this
   rw[this]
   exact mQ nd'.2 h
theorem aE{X:Cx}{N':List Str}{scope:Scope}{mp:List (Option Nat)}(so:Scope)(hso:X.env.scope=so)(N:List Str)(hN:X.N=N)(h:vd N N' scope so mp):gf X N' scope mp:=by
 subst hso
 subst hN
 obtain⟨h1,hc1,hnd,h2,h3,h4⟩:=h
 have er:(relabel scope X.env).names=(jd scope X.env.scope).names:=rfl
 refine⟨h1,hc1,hnd,λy hy=>(h2 y hy).1,λy hy hf=>((h2 y hy).2 hf).1,h3,λi j hij=>?_,λx hx=>?_,λx hx=>?_⟩
 ·have hi:i<mp.length:=(List.getElem?_eq_some_iff.mp hij).1
  have hz:(mp.zip N')[i]?=some (some j,N'[i]'(by omega)):=by
   rw[List.getElem?_zip_eq_some]
   exact⟨hij,by simp⟩
  have:=h4 _ (List.mem_of_getElem? hz)
  exact⟨_,by simp,this⟩
 ·rw[er];exact ((h2 _ hx).2 rfl).2
 ·rw[er] at hx
  have mem:∀k,(jd scope X.env.scope).names.lookup x=some k→(k=.cell∨k=.free)→(x,NameKind.free)∈scope.names∨scope.names.lookup x=some .cell:=λk hk hkk=>by
   have hm:=PySem.mem_of_lookup hk
   unfold jd at hm
   obtain⟨⟨n,k'⟩,hm1,hm2⟩:=List.mem_map.mp hm
   by_cases hc:(k'==.free && X.env.scope.kind==.function && X.env.scope.names.lookup n==some .cell)=true
   ·simp only[hc,if_true] at hm2
    cases hm2
    have:k'=.free:=by
     simp only[Bool.and_eq_true,beq_iff_eq] at hc
     exact hc.1.1
    subst this
    exact .inl hm1
   ·simp only[hc,if_false] at hm2
    cases hm2
    rcases hkk with rfl|rfl
    ·exact .inr (mQ hnd hm1)
    ·exact .inl hm1
  rcases hx with hx|hx
  ·exact mem _ hx (.inl rfl)
  ·exact mem _ hx (.inr rfl)
theorem lR{X0:Cx}{N' N2:List Str}{scope DJ:Scope}{cl:List (Str×Addr)}{C:Addr}{s₀:Shared}{H₀:Hp}{ex:List Addr}{mp:List (Option Nat)}(so:Scope)(hso:X0.env.scope=so)(h:vd N' N2 DJ (jd scope so) mp) :
  gf (cf X0 N' scope cl C s₀ H₀ ex) N2 DJ mp:=aE (jd scope so) (by subst hso;rfl) N' rfl h
theorem Jq{K:PySem.W.Frag}{fn:FN}{H:Hp}{a:Addr}{ns:List Int}(Jr:∀ns:List Int,ns.length≤63→∃μ',fn [.val (.lst (ns.map T.int))] []=.ok (.val (.bl true)) μ')(hl:ns.length≤63)(hS:SqL K H a (ns.map V.int))(hO:Fz H) :
  spD K fn 1 [.ref a] H (λv _=>v=.bl true) (λ_ _ _=>False):=by
 obtain⟨μ',h⟩:=Jr ns hl
 refine⟨rfl,H,[],[],_,_,μ',⟨aU.refl _,rfl,List.nodup_nil,λk a h=>by simp at h,λk b t a h=>by simp at h,λb xs q=>by rcases hO b with z|⟨_,_,z⟩<;>(rw[z] at q;cases q)⟩,.cons ?_ .nil,h,λv H' F' α' _ _ o=>Rep.jt (K:=K) (F:=F') o⟩
 show Rep K H (.lst (ns.map T.int)) (.ref a)
 rw[Rep]
 exact⟨a,_,rfl,hS,aG.zV ns⟩
section
variable{K:PySem.W.Frag}
theorem Now.lS{F H:Hp}{v:V}{ts:List T}(h:Now K F H v (.lst ts)):∃a vs,v=.ref a∧SqL K H a vs∧aG K F ts vs:=h
theorem Now.ve{F H:Hp}{v:V}{ts:List T}(h:Now K F H v (.tup ts)):∃a vs,v=.ref a∧SqT K F a vs∧aG K F ts vs:=h
theorem lT{r:R2}{f:T→T→Option T}(g:Int→Int→T)(gV:Int→Int→V)(C:Int→Int→Prop)(hr:∀i j H Q,C i j→Q (gV i j) H→r (.int i) (.int j) H Q)
  (hf:∀t u w,f t u=some w→∃i j,t=.int i∧u=.int j∧w=g i j∧C i j) (hg:∀F i j,Rep K F (g i j) (gV i j)):gd K r f:=by
 intro F H v u t t' w Q s hv hu hw q
 obtain⟨i,j,rfl,rfl,rfl,hc⟩:=hf _ _ _ hw
 cases hv.int
 cases hu.int
 exact hr i j H Q hc (q _ H F bI.refl (hg F i j))
theorem Gw:gd K (rI0 λi j=>.int (i-j)) qK:=lT (λi j=>.int (i-j)) (λi j=>.int (i-j)) (λ_ _=>True) (λi j H Q _ q=>⟨i,j,rfl,rfl,q⟩)
 (λt u w h=>by cases t<;>cases u<;>first|(cases h;exact⟨_,_,rfl,rfl,rfl,trivial⟩)|cases h) λF i j=>Rep.ip _
theorem Gx:gd K (rI (λ_ j=>0<j) λi j=>.int (i%j)) aW:=lT (λi j=>.int (i%j)) (λi j=>.int (i%j)) (λ_ j=>0<j) (λi j H Q c q=>⟨i,j,rfl,rfl,c,q⟩)
 (λt u w h=>by
  cases t<;>cases u<;>first|cases h|skip
  rename_i i j
  by_cases hj:0<j
  ·have h:(if 0<j then some (T.int (i%j)) else none)=some w:=h
   rw[if_pos hj] at h
   cases h
   exact⟨_,_,rfl,rfl,rfl,hj⟩
  ·have h:(if 0<j then some (T.int (i%j)) else none)=some w:=h
   rw[if_neg hj] at h;cases h) λF i j=>Rep.ip _
theorem Gy:gd K (rI Io λi j=>.int (i / j)) iJ:=lT (λi j=>.int (i / j)) (λi j=>.int (i / j)) Io (λi j H Q c q=>⟨i,j,rfl,rfl,c,q⟩)
 (λt u w h=>by
  cases t<;>cases u<;>first|cases h|skip
  rename_i i j
  have h:(if 0<j∧j<1073741824 then some (T.int (i / j)) else none)=some w:=h
  by_cases hj:0<j∧j<1073741824
  ·rw[if_pos hj] at h
   cases h
   exact⟨_,_,rfl,rfl,rfl,hj⟩
  ·rw[if_neg hj] at h;cases h) λF i j=>Rep.ip _
theorem Gz:gd K (rI Ip λi j=>.int (i ^ j.toNat)) wA:=lT (λi j=>.int (i ^ j.toNat)) (λi j=>.int (i ^ j.toNat)) Ip (λi j H Q c q=>⟨i,j,rfl,rfl,c,q⟩)
 (λt u w h=>by
  cases t<;>cases u<;>first|cases h|skip
  rename_i i j
  have h:(if 0≤j∧j≤1000∧-(2 ^ 64)<i∧i<2 ^ 64 then some (T.int (i ^ j.toNat)) else none)=some w:=h
  by_cases hj:0≤j∧j≤1000∧-(2 ^ 64)<i∧i<2 ^ 64
  ·rw[if_pos hj] at h
   cases h
   exact⟨_,_,rfl,rfl,rfl,hj.1,by omega,by omega⟩
  ·rw[if_neg hj] at h;cases h) λF i j=>Rep.ip _
theorem GA:gd K (rI (λ_ j=>0≤j) λi j=>.int (i / 2 ^ j.toNat)) Bd:=lT (λi j=>.int (i / 2 ^ j.toNat)) (λi j=>.int (i / 2 ^ j.toNat)) (λ_ j=>0≤j) (λi j H Q c q=>⟨i,j,rfl,rfl,c,q⟩)
 (λt u w h=>by
  cases t<;>cases u<;>first|cases h|skip
  rename_i i j
  have h:(if 0≤j∧j≤64 then some (T.int (i / 2 ^ j.toNat)) else none)=some w:=h
  by_cases hj:0≤j∧j≤64
  ·rw[if_pos hj] at h
   cases h
   exact⟨_,_,rfl,rfl,rfl,hj.1⟩
  ·rw[if_neg hj] at h;cases h) λF i j=>Rep.ip _
theorem Js:gd K (rI0 λi j=>.bl (decide (i<j))) fLt:=lT (λi j=>.bl (decide (i<j))) (λi j=>.bl (decide (i<j))) (λ_ _=>True) (λi j H Q _ q=>⟨i,j,rfl,rfl,q⟩)
 (λt u w h=>by cases t<;>cases u<;>first|(cases h;exact⟨_,_,rfl,rfl,rfl,trivial⟩)|cases h) λF i j=>Rep.bl' _
theorem Jt:gd K (rI0 λi j=>.bl (decide (j<i))) fGt:=lT (λi j=>.bl (decide (j<i))) (λi j=>.bl (decide (j<i))) (λ_ _=>True) (λi j H Q _ q=>⟨i,j,rfl,rfl,q⟩)
 (λt u w h=>by cases t<;>cases u<;>first|(cases h;exact⟨_,_,rfl,rfl,rfl,trivial⟩)|cases h) λF i j=>Rep.bl' _
end
section
variable{X:Cx}{a b c:Expr}{da db dc:D}{pos p p2:Pos}
theorem vf(ha:CE X a da)(hb:CE X b db):CE X (.BinOp a .Sub b pos) (aj qK da db):=lM Ir Gw ha hb
theorem bu(ha:CE X a da)(hb:CE X b db):CE X (.BinOp a .Mod b pos) (aj aW da db):=lM Iv Gx ha hb
theorem kG(ha:CE X a da)(hb:CE X b db):CE X (.BinOp a .FloorDiv b pos) (aj iJ da db):=lM Fc Gy ha hb
theorem DK(ha:CE X a da)(hb:CE X b db):CE X (.BinOp a .Pow b pos) (aj wA da db):=lM Iw Gz ha hb
theorem Ju(ha:CE X a da)(hb:CE X b db):CE X (.BinOp a .RShift b pos) (aj Bd da db):=lM Iy GA ha hb
theorem Ht(ha:CE X a da)(hb:CE X b db):CT X (.Compare a [.Lt] [b] pos) (aj fLt da db):=ng KO Js (lB _) ha hb
theorem DL(ha:CE X a da)(hb:CE X b db):CT X (.Compare a [.Gt] [b] pos) (aj fGt da db):=ng KP Jt (lB _) ha hb
theorem DM(ha:CE X a da):CE X (.UnaryOp .USub a pos) (dUn yc da):=Lh IA (by
 intro F H v t w Q s hv hw q
 cases t<;>first|cases hw|skip
 cases hv.int
 exact⟨_,rfl,q _ H F bI.refl (Rep.ip _)⟩) ha
end
end Fw
namespace L2
open PySem PySem.Spec PyProof.Rows
section
variable{X:Cx}
def DN(K:PySem.W.Frag):R2:=λx y H Q=>∃a b xs ys,x=.ref a∧y=.ref b∧SqT K H a xs∧SqT K H b ys∧xs.length+ys.length≤sizeLine ∧
 (xs=[]→Q (.ref b) H)∧(xs≠[]→ys=[]→Q (.ref a) H)∧(xs≠[]→ys≠[]→∀p,H p=none→Q (.ref p) (upd H p (.tup (xs++ys))))
theorem DO:OpR X (binaryOp .Add) (DN X.K):=by
 intro pins s σ H x y v u Q I rx ry h
 obtain⟨a,b,xs,ys,hx0,hy0,ha,hb,hz,q0,q1,q2⟩:=h
 by_cases hx:xs=[]
 ·subst hx0;subst hy0
  cases rx
  cases ry
  obtain⟨its,r1,p1,_⟩:=I.tuple ha
  obtain⟨nW,r2,p2,_⟩:=I.tuple hb
  obtain⟨⟨cls,dd,data,sl⟩,ho,hc,n,hd⟩:=id p1
  obtain⟨⟨KW,dd2,data2,sl2⟩,ho2,hc2,n2,hd2⟩:=id p2
  simp only at hc hd hc2 hd2
  subst hc hd hc2 hd2
  have e:its=[]:=r1.qm.mpr hx
  exact concat_meets ⟨_,ho,rfl⟩ ⟨_,ho2,rfl⟩ noFill_tuple_add seq_tuple_add PySem.F.slot_tuple_add PySem.F.entry_tuple_add (PySem.F.args_tuple_add_2 _ _)
   (tuple_addW0 a b its.toArray nW.toArray n n2 dd dd2 sl sl2 (by simp[e])) ⟨ho,ho2,.ref b,H,I,rfl,q0 hx⟩
 ·exact Fm pins s σ H x y v u Q I rx ry ⟨a,b,xs,ys,hx0,hy0,ha,hb,hx,hz,q1 hx,q2 hx⟩
def Hu(K:PySem.W.Frag):R2:=λx y H Q=>∃l b xs zs,x=.ref l∧y=.ref b∧SqL K H l xs∧SqL K H b zs∧xs.length+zs.length≤sizeLine∧∀p,H p=none→Q (.ref p) (upd H p (.lst (xs++zs)))
theorem GB:OpR X (binaryOp .Add) (Hu X.K):=by
 intro pins s σ H x y v u Q I rx ry h
 obtain⟨l,b,xs,zs,rfl,rfl,hA,hB,hz,q⟩:=h
 cases rx
 cases ry
 obtain⟨its,r,p1,_⟩:=I.list hA
 obtain⟨nW,r2,p2,_⟩:=I.list hB
 obtain⟨⟨cls,dd,data,sl⟩,ho,hc,n,hd⟩:=id p1.isList
 obtain⟨⟨KW,dd2,data2,sl2⟩,ho2,hc2,n2,hd2⟩:=id p2.isList
 simp only at hc hd hc2 hd2
 subst hc hd hc2 hd2
 have hl:=r.length
 have hl2:=r2.length
 have e:its.toArray++nW.toArray=(its++nW).toArray:=by simp
 refine concat_meets ⟨_,ho,rfl⟩ ⟨_,ho2,rfl⟩ noFill_list_add seq_list_add PySem.F.slot_list_add PySem.F.entry_list_add (PySem.F.args_list_add_2 _ _)
  (list_addW l b its.toArray nW.toArray n n2 dd dd2 sl sl2 (by rw[List.size_toArray,List.size_toArray];lia)) ⟨ho,ho2,?_⟩
 rw[e]
 exact⟨.ref _,_,I.IM (t':=s.toks) (r.append r2) (by rw[List.length_append];lia),rfl,q _ I.fresh⟩
end
end L2
namespace Fw
open PySem PySem.Spec PyProof.Rows L2
section
variable{K:PySem.W.Frag}
theorem rk:szL=sizeLine:=rfl
theorem aG.nil_of{F:Hp}{ts:List T}{vs:List V}(h:aG K F ts vs)(e:vs=[]):ts=[]:=by
 have:=h.length
 subst e
 exact List.length_eq_zero_iff.mp (by simpa using this)
theorem Ab{F H:Hp}{ts:List T}{vs:List V}{Q:VK}{p:Addr}(s:aU F H)(hp:H p=none)(r:aG K F ts vs)(q:∀v' H' F',bI F H F' H'→Rep K F' (.lst ts) v'→Q v' H'):Q (.ref p) (upd H p (.lst vs)):=by
 have g:bI F H (upd F p (.lst vs)) (upd H p (.lst vs)):=bI.new hp
 refine q _ _ _ g ?_
 rw[Rep]
 exact⟨p,vs,rfl,SqL.of aL,aG.mono (g.same s) _ _ r⟩
theorem vg{F H:Hp}{ts:List T}{vs:List V}{Q:VK}{p:Addr}(s:aU F H)(hp:H p=none)(r:aG K F ts vs)(q:∀v' H' F',bI F H F' H'→Rep K F' (.tup ts) v'→Q v' H'):Q (.ref p) (upd H p (.tup vs)):=by
 have g:bI F H (upd F p (.tup vs)) (upd H p (.tup vs)):=bI.new hp
 refine q _ _ _ g ?_
 rw[Rep]
 exact⟨p,vs,rfl,SqT.of aL,aG.mono (g.same s) _ _ r⟩
theorem vh{F:Hp}{a:Addr}{ts:List T}{vs:List V}(h:SqT K F a vs)(r:aG K F ts vs):Rep K F (.tup ts) (.ref a):=by
 rw[Rep];exact⟨a,vs,rfl,h,r⟩
theorem GC:gd K (λx y H Q=>(rI0 λi j=>.int (i+j)) x y H Q∨(λx y H Q=>∃i j,x=.str i∧y=.str j∧i.length+j.length≤sizeLine∧Q (.str (i++j)) H) x y H Q∨DN K x y H Q∨Hu K x y H Q) bw:=by
 intro F H v u t t' w Q s hv hu hw q
 cases t with
 | int i =>
  cases t' with
  | int j =>
   cases hw
   cases hv.int
   cases hu.int
   exact .inl ⟨i,j,rfl,rfl,q _ H F bI.refl (Rep.ip _)⟩
  | _=>cases hw
 | str i =>
  cases t' with
  | str j =>
   have hw:(if i.length+j.length≤szL then some (T.str (i++j)) else none)=some w:=hw
   by_cases hz:i.length+j.length≤szL
   ·rw[if_pos hz] at hw
    cases hw
    cases hv.str
    cases hu.str
    exact .inr (.inl ⟨i,j,rfl,rfl,hz,q _ H F bI.refl (Rep.Gd _)⟩)
   ·rw[if_neg hz] at hw;cases hw
  | _=>cases hw
 | tup xs =>
  cases t' with
  | tup ys =>
   have hw:(if xs.length+ys.length≤szL then some (T.tup (xs++ys)) else none)=some w:=hw
   by_cases hz:xs.length+ys.length≤szL
   ·rw[if_pos hz] at hw
    cases hw
    obtain⟨a,vs,rfl,ha,ra⟩:=hv.ve
    obtain⟨b,us,rfl,hb,rb⟩:=hu.ve
    refine .inr (.inr (.inl ⟨a,b,vs,us,rfl,rfl,aU.lu s ha,aU.lu s hb,?_,λe=>?_,λe e2=>?_,λe e2 p hp=>?_⟩))
    ·have:=ra.length;have:=rb.length;rw[rk] at hz;lia
    ·refine q _ H F bI.refl ?_
     rw[ra.nil_of e,List.nil_append]
     exact vh hb rb
    ·refine q _ H F bI.refl ?_
     rw[rb.nil_of e2,List.append_nil]
     exact vh ha ra
    ·exact vg s hp (ra.append rb) q
   ·rw[if_neg hz] at hw;cases hw
  | _=>cases hw
 | lst xs =>
  cases t' with
  | lst ys =>
   have hw:(if xs.length+ys.length≤szL then some (T.lst (xs++ys)) else none)=some w:=hw
   by_cases hz:xs.length+ys.length≤szL
   ·rw[if_pos hz] at hw
    cases hw
    obtain⟨a,vs,rfl,ha,ra⟩:=hv.lS
    obtain⟨b,us,rfl,hb,rb⟩:=hu.lS
    exact .inr (.inr (.inr ⟨a,b,vs,us,rfl,rfl,ha,hb,by have:=ra.length;have:=rb.length;rw[rk] at hz;lia,λp hp=>Ab s hp (ra.append rb) q⟩))
   ·rw[if_neg hz] at hw;cases hw
  | _=>cases hw
 | _=>cases hw
end
section
variable{X:Cx}{a b c:Expr}{da db dc:D}{pos p p2:Pos}
theorem cV(ha:CE X a da)(hb:CE X b db):CE X (.BinOp a .Add b pos) (aj bw da db):=lM (Iq.or (xS.or (DO.or GB))) GC ha hb
end
section
variable{K:PySem.W.Frag}
theorem GD:gd K (rI CH λi j=>.int (i*j)) aQ:=lT (λi j=>.int (i*j)) (λi j=>.int (i*j)) CH (λi j H Q c q=>⟨i,j,rfl,rfl,c,q⟩)
 (λt u w h=>by
  unfold aQ at h
  cases t<;>cases u<;>first|cases h|skip
  rename_i i j
  have h:(if (-(2 ^ 64)<i∧i<2 ^ 64)∨(-(2 ^ 64)<j∧j<2 ^ 64) then some (T.int (i*j)) else none)=some w:=h
  by_cases hj:(-(2 ^ 64)<i∧i<2 ^ 64)∨(-(2 ^ 64)<j∧j<2 ^ 64)
  ·rw[if_pos hj] at h
   cases h
   exact⟨_,_,rfl,rfl,rfl,hj⟩
  ·rw[if_neg hj] at h;cases h) λF i j=>Rep.ip _
theorem aG.atI{F:Hp}{ts:List T}{vs:List V}{i:Int}{t:T}(h:aG K F ts vs)(e:Fw.atI ts i=some t):∃v,L2.atI vs i=some v∧Rep K F t v:=by
 have hl:=h.length
 unfold Fw.atI at e
 obtain⟨j,h1,h2⟩:=Option.bind_eq_some_iff.mp e
 obtain⟨v,hv,rv⟩:=h.get h2
 refine⟨v,?_,rv⟩
 unfold L2.atI
 have:L2.ixN vs.length i=some j:=by rw[← hl];exact h1
 rw[this]
 exact hv
theorem Paired.atI{α β:Type}{P:α→β→Prop}{xs:List α}{ys:List β}{i:Int}{y:β}(h:Paired P xs ys)(e:Fw.atI ys i=some y):∃x,L2.atI xs i=some x∧P x y:=by
 have hl:=h.length
 unfold Fw.atI at e
 obtain⟨j,h1,h2⟩:=Option.bind_eq_some_iff.mp e
 have get:∀{xs:List α}{ys:List β}{j:Nat}{y:β},Paired P xs ys→ys[j]?=some y→∃x,xs[j]?=some x∧P x y:=by
  intro xs ys j y o
  induction o generalizing j with
  | nil=>intro e;simp at e
  | cons r _ ih =>
   intro e
   cases j with
   | zero=>simp at e;subst e;exact⟨_,rfl,r⟩
   | succ j =>
    obtain⟨v,h1,h2⟩:=ih (j:=j) (by simpa using e)
    exact⟨v,by simpa using h1,h2⟩
 obtain⟨v,hv,rv⟩:=get h h2
 refine⟨v,?_,rv⟩
 unfold L2.atI
 have:L2.ixN xs.length i=some j:=by rw[hl];exact h1
 rw[this]
 exact hv
end
section
variable{X:Cx}{a b c:Expr}{da db dc:D}{pos p p2:Pos}
theorem eR(ha:CE X a da)(hb:CE X b db):CE X (.BinOp a .Mult b pos) (aj aQ da db):=lM Iu GD ha hb
theorem az(ha:CE X a da)(hb:CE X b db)(hp:zH b:=by intro _ _;rfl):CE X (.Subscript a b pos) (aw da db) :=
 PE.imp (K0 IH ha hb hp) λσ H Q aq=>by
  obtain⟨F,α,e,μ,S,h⟩:=aq
  refine⟨F,α,e,μ,S,?_⟩
  refine (R.wp_bind h).mono (λx μ1 h v H1 F1 α1 x1 S1 o1=>⟨F1,α1,e,μ1,S1,?_⟩) λ_ _ h=>h
  refine (R.wp_bind h).mono (λy μ2 h v2 H2 F2 α2 x2 S2 o2=>?_) λ_ _ h=>h.mono x1
  obtain⟨w,h9,post⟩:=R.bK h
  obtain⟨u,hu,h⟩:=Option.bind_eq_some_iff.mp h9
  have nu:=bo S2.st o2 hu
  have fin:∀{v'},iq X.K F2 α2 v' w→Q v' H2:=λ{v'} o=>post v' H2 F2 α2 (x1.trans x2) S2 o
  have o1':=o1.mono x2.same x2.pre
  have gen:∀t,rd μ2 x=some t→ap1 (λt=>Ja t u) (some t)=some w→rIx X.K v v2 H2 Q:=λt hr h=>by
   obtain⟨t',w',e1,h,rfl⟩:=mY h
   cases e1
   have nt:=bo S2.st o1' hr
   cases t with
   | lst ts =>
    cases u with
    | int i =>
     cases nu.int
     obtain⟨a,vs,rfl,hq,hl⟩:=nt.lS
     obtain⟨v',g1,g2⟩:=hl.atI h
     exact .inl ⟨a,vs,i,v',rfl,rfl,hq,g1,fin g2⟩
    | _=>cases h
   | tup ts =>
    cases u with
    | int i =>
     cases nu.int
     obtain⟨a,vs,rfl,hq,hl⟩:=nt.ve
     obtain⟨v',g1,g2⟩:=hl.atI h
     exact .inr (.inl ⟨a,vs,i,v',rfl,rfl,aU.lu S2.st.ext hq,g1,fin g2⟩)
    | _=>cases h
   | str z =>
    cases u with
    | int i =>
     cases nu.int
     cases nt.str
     have h:(if z.length≤szL then (Fw.atI z.cps.toList i).map λc=>T.str ⟨#[c]⟩ else none)=some w':=h
     by_cases hz:z.length≤szL
     ·rw[if_pos hz] at h
      obtain⟨ch,g1,rfl⟩:=Option.map_eq_some_iff.mp h
      exact .inr (.inr ⟨z,i,ch,rfl,rfl,hz,g1,fin (Rep.Gd (K:=X.K) (F:=F2) _)⟩)
     ·rw[if_neg hz] at h;cases h
    | _=>cases h
   | _=>cases u<;>cases h
  cases x with
  | val t=>exact gen t rfl (by unfold lq at h;exact h)
  | cel k =>
   cases q:rd μ2 (.cel k) with
   | none=>unfold lq at h;simp only at h;rw[q] at h;cases h
   | some t=>exact gen t q (by unfold lq at h;simp only at h;rw[q] at h;exact h)
  | box xs =>
   cases u with
   | int i =>
    cases nu.int
    obtain⟨y',h1,rfl⟩:=Option.map_eq_some_iff.mp (show (Fw.atI xs i).map pick=some w from h)
    obtain⟨a,vs,rfl,hq,hp⟩:=o1'
    obtain⟨v',g1,g2⟩:=Paired.atI hp h1
    refine .inr (.inl ⟨a,vs,i,v',rfl,rfl,aU.lu S2.st.ext hq,g1,fin ?_⟩)
    cases y' with
    | inl t=>exact g2
    | inr k=>exact g2
   | _=>cases h
theorem hZ(hm:X.mg "len"=none)(ha:CE X a da)(hg:Gl X "len":=by rfl)(hs1:starEach [a] X.env=(false,eval a X.env)::starEach [] X.env:=by rfl)(hpl:(backTo pos (starEach [] X.env)).any (·.1)=false:=by rfl) :
  CE X (.Call (.Name "len" p) [a] [] pos) (fV da) :=
 PE.imp (qA (uR.or (uS.or Bb)) hg hm PySem.boot_len (ag ha ar hs1) (by decide) (by decide) hs1 hpl) λσ H Q aq=>by
  obtain⟨F,α,e,μ,S,h⟩:=aq
  refine qX ⟨F,α,e,μ,S,(R.wp_bind h).mono (λx μ1 h v H1 F1 α1 x1 S1 o1=>?_) λ_ _ h=>h⟩
  obtain⟨w,h9,post⟩:=R.bK h
  obtain⟨w',h,rfl⟩:=Option.map_eq_some_iff.mp h9
  have fin:∀{v'},Rep X.K F1 w' v'→Q v' H1:=λ{v'} o=>post v' H1 F1 α1 x1 S1 o
  have gen:∀t,rd μ1 x=some t→Jb t=some w'→(∃p ys,[v]=[V.ref p]∧(SqL X.K H1 p ys∨SqT X.K H1 p ys)∧Q (.int ys.length) H1)∨(∃z,[v]=[V.str z]∧z.length≤sizeLine∧Q (.int z.length) H1) ∨
    ∃d kvs,[v]=[V.ref d]∧H1 d=some (.dK kvs)∧Q (.int kvs.length) H1:=λt hr h=>by
   have nt:=bo S1.st o1 hr
   cases t with
   | lst ts =>
    cases h
    obtain⟨a,vs,rfl,hq,hl⟩:=nt.lS
    exact .inl ⟨a,vs,rfl,.inl hq,fin (by rw[hl.length];exact Rep.ip _)⟩
   | tup ts =>
    cases h
    obtain⟨a,vs,rfl,hq,hl⟩:=nt.ve
    exact .inl ⟨a,vs,rfl,.inr (aU.lu S1.st.ext hq),fin (by rw[hl.length];exact Rep.ip _)⟩
   | str z =>
    cases nt.str
    have h:(if z.length≤szL then some (T.int z.length) else none)=some w':=h
    by_cases hz:z.length≤szL
    ·rw[if_pos hz] at h
     cases h
     exact .inr (.inl ⟨z,rfl,hz,fin (Rep.ip _)⟩)
    ·rw[if_neg hz] at h;cases h
   | dct kts =>
    cases h
    obtain⟨a,kvs,rfl,hq,hl⟩:=nt
    exact .inr (.inr ⟨a,kvs,rfl,hq,fin (by rw[hl.length];exact Rep.ip _)⟩)
   | _=>cases h
  cases x with
  | val t=>exact gen t rfl (by unfold mM at h;exact h)
  | cel k =>
   cases q:rd μ1 (.cel k) with
   | none=>unfold mM at h;simp only at h;rw[q] at h;cases h
   | some t=>exact gen t q (by unfold mM at h;simp only at h;rw[q] at h;exact h)
  | box xs =>
   cases h
   obtain⟨a,vs,rfl,hq,hp⟩:=o1
   exact .inl ⟨a,vs,rfl,.inr (aU.lu S1.st.ext hq),fin (by rw[hp.length];exact Rep.ip _)⟩
end
end Fw
set_option maxHeartbeats 4000000
namespace Fw
open PySem PySem.Spec PyProof.Rows L2
mutual
def toPy:T→PyData
 | .non=>.none
 | .bl b=>.bool b
 | .int i=>.int i
 | .str x=>.str x
 | .lst ts=>.list (fw ts)
 | .tup ts=>.tuple (fw ts)
 | .dct _=>.dict []
 | .exc _ _=>.dict []
 | .dtt _ _=>.dict []
def fw:List T→List PyData
 | []=>[]
 | t::ts=>toPy t::fw ts
end
mutual
theorem rq:∀(n:Nat) (t:T),okT n t=true→(toPy t).canLay0=true∧(toPy t).depth≤n
 | n,.non,_=>⟨by rw[toPy,PyData.canLay0],by rw[toPy,PyData.depth];exact Nat.zero_le _⟩
 | n,.bl _,_=>⟨by rw[toPy,PyData.canLay0],by rw[toPy,PyData.depth];exact Nat.zero_le _⟩
 | n,.int _,_=>⟨by rw[toPy,PyData.canLay0],by rw[toPy,PyData.depth];exact Nat.zero_le _⟩
 | n,.str x,h=>by
  unfold okT at h
  exact⟨by rw[toPy,PyData.canLay0];exact h,by rw[toPy,PyData.depth];exact Nat.zero_le _⟩
 | 0,.lst ts,h=>by rw[okT] at h;cases h
 | n+1,.lst ts,h=>by
  rw[okT] at h
  obtain⟨h1,h2⟩:=vi n ts h
  exact⟨by rw[toPy,PyData.canLay0];exact h1,by rw[toPy,PyData.depth];lia⟩
 | 0,.tup ts,h=>by rw[okT] at h;cases h
 | n+1,.tup ts,h=>by
  rw[okT] at h
  obtain⟨h1,h2⟩:=vi n ts h
  exact⟨by rw[toPy,PyData.canLay0];exact h1,by rw[toPy,PyData.depth];lia⟩
 | n,.dct _,h=>by unfold okT at h;cases h
 | n,.exc _ _,h=>by unfold okT at h;cases h
 | n,.dtt _ _,h=>by unfold okT at h;cases h
theorem vi:∀(n:Nat) (ts:List T),j0 n ts=true→PyData.canLayAll0 (fw ts)=true∧PyData.depthAll (fw ts)≤n
 | n,[],_=>⟨by rw[fw,PyData.canLayAll0],by rw[fw,PyData.depthAll];exact Nat.zero_le _⟩
 | n,t::ts,h=>by
  rw[j0,Bool.and_eq_true] at h
  obtain⟨h1,h2⟩:=rq n t h.1
  obtain⟨h3,h4⟩:=vi n ts h.2
  exact⟨by rw[fw,PyData.canLayAll0,h1,h3];rfl,by rw[fw,PyData.depthAll];lia⟩
end
mutual
theorem yw:∀(n:Nat) (t u:T),okT n t=true→okT n u=true→PyData.eqv (toPy t) (toPy u)=eqT t u
 | n,.non,u,_,h=>by cases u<;>first|(simp[toPy,eqT,PyData.eqv];done)|(unfold okT at h;cases h)
 | n,.bl a,u,_,h=>by cases u<;>first|(simp[toPy,eqT,PyData.eqv];done)|(unfold okT at h;cases h)
 | n,.int a,u,_,h=>by cases u<;>first|(simp[toPy,eqT,PyData.eqv];done)|(unfold okT at h;cases h)
 | n,.str a,u,_,h=>by cases u<;>first|(simp[toPy,eqT,PyData.eqv];done)|(unfold okT at h;cases h)
 | 0,.lst a,u,h,_=>by rw[okT] at h;cases h
 | n+1,.lst a,u,h1,h=>by
  cases u with
  | lst b=>rw[toPy,toPy,eqT,PyData.eqv];rw[okT] at h1 h;exact vj n a b h1 h
  | dct _=>unfold okT at h;cases h
  | exc _ _=>unfold okT at h;cases h
  | dtt _ _=>unfold okT at h;cases h
  | _=>simp[toPy,eqT,PyData.eqv]
 | 0,.tup a,u,h,_=>by rw[okT] at h;cases h
 | n+1,.tup a,u,h1,h=>by
  cases u with
  | tup b=>rw[toPy,toPy,eqT,PyData.eqv];rw[okT] at h1 h;exact vj n a b h1 h
  | dct _=>unfold okT at h;cases h
  | exc _ _=>unfold okT at h;cases h
  | dtt _ _=>unfold okT at h;cases h
  | _=>simp[toPy,eqT,PyData.eqv]
 | n,.dct _,u,h,_=>by unfold okT at h;cases h
 | n,.exc _ _,u,h,_=>by unfold okT at h;cases h
 | n,.dtt _ _,u,h,_=>by unfold okT at h;cases h
theorem vj:∀(n:Nat) (ts us:List T),j0 n ts=true→j0 n us=true→PyData.eqvAll (fw ts) (fw us)=jL ts us
 | n,[],[],_,_=>by rw[fw,PyData.eqvAll,jL]
 | n,[],u::us,_,_=>by rw[fw,fw,PyData.eqvAll,jL]
 | n,t::ts,[],_,_=>by rw[fw,fw,PyData.eqvAll,jL]
 | n,t::ts,u::us,h1,h2=>by
  rw[j0,Bool.and_eq_true] at h1 h2
  rw[fw,fw,PyData.eqvAll,jL,yw n t u h1.1 h2.1,vj n ts us h1.2 h2.2]
end
section
variable{X:Cx}{pins:List (Addr×Obj)}{σ:L2.St}{H:Hp}{s:Shared}
mutual
theorem lU(I:Inv X pins σ H s):∀(n:Nat) (t:T) (v:V) (u:Value),Rep X.K H t v→RelV v u→okT n t=true→∃as,Reads s.heap u (toPy t) as
 | n,.non,v,u,h,r,_=>by cases h.ku;cases r;rw[toPy];exact⟨_,.none⟩
 | n,.bl b,v,u,h,r,_=>by cases h.jt;cases r;rw[toPy];exact⟨_,.bool b⟩
 | n,.int i,v,u,h,r,_=>by cases h.lK;obtain⟨t,rfl⟩:=r;rw[toPy];exact⟨_,.int i t⟩
 | n,.str i,v,u,h,r,_=>by cases h.m_;obtain⟨t,rfl⟩:=r;rw[toPy];exact⟨_,.str i t⟩
 | 0,.lst ts,v,u,h,r,ok=>by rw[okT] at ok;cases ok
 | n+1,.lst ts,v,u,h,r,ok=>by
  rw[Rep] at h
  rw[okT] at ok
  obtain⟨a,vs,rfl,hq,hl⟩:=h
  cases r
  obtain⟨its,rv,pl,_⟩:=I.list hq
  obtain⟨o,ho,hc,m,hd⟩:=pl.isList
  obtain⟨as,ra⟩:=lV I n ts vs its hl rv ok
  rw[toPy]
  exact⟨_,.list ho hc hd (by simpa using ra)⟩
 | 0,.tup ts,v,u,h,r,ok=>by rw[okT] at ok;cases ok
 | n+1,.tup ts,v,u,h,r,ok=>by
  rw[Rep] at h
  rw[okT] at ok
  obtain⟨a,vs,rfl,hq,hl⟩:=h
  cases r
  obtain⟨its,rv,pl,_⟩:=I.tuple hq
  obtain⟨o,ho,hc,m,hd⟩:=pl
  obtain⟨as,ra⟩:=lV I n ts vs its hl rv ok
  rw[toPy]
  exact⟨_,.tuple ho hc hd (by simpa using ra)⟩
 | n,.dct _,v,u,h,r,ok=>by unfold okT at ok;cases ok
 | n,.exc _ _,v,u,h,r,ok=>by unfold okT at ok;cases ok
 | n,.dtt _ _,v,u,h,r,ok=>by unfold okT at ok;cases ok
theorem lV(I:Inv X pins σ H s):∀(n:Nat) (ts:List T) (vs:List V) (us:List Value),aG X.K H ts vs→Vals vs us→j0 n ts=true→∃as,ReadsAll s.heap us (fw ts) as
 | n,[],vs,us,h,r,_=>by
  rw[aG] at h;subst h;cases r
  rw[fw];exact⟨_,.nil⟩
 | n,t::ts,vs,us,h,r,ok=>by
  rw[aG] at h
  obtain⟨v,vs',rfl,q,hl⟩:=h
  rw[j0,Bool.and_eq_true] at ok
  cases r with
  | cons r1 r2 =>
   obtain⟨as,ra⟩:=lU I n t v _ q r1 ok.1
   obtain⟨bs,rb⟩:=lV I n ts vs' _ hl r2 ok.2
   rw[fw]
   exact⟨_,.cons ra rb⟩
end
end
theorem Now.rep{K:PySem.W.Frag}{F H:Hp}{v:V}{t:T}(s:aU F H)(h:Now K F H v t)(hx:(∀c n,t≠.exc c n)∧∀f k,t≠.dtt f k):Rep K H t v:=by
 cases t with
 | lst ts=>rw[Rep];obtain⟨a,vs,e,q,r⟩:=h;exact⟨a,vs,e,q,aG.mono s _ _ r⟩
 | tup ts=>rw[Rep];obtain⟨a,vs,e,q,r⟩:=h;exact⟨a,vs,e,aU.lu s q,aG.mono s _ _ r⟩
 | dct ts=>rw[Rep];obtain⟨a,vs,e,q,r⟩:=h;exact⟨a,vs,e,q,bx.mono s _ _ r⟩
 | dtt fz ts=>rw[Rep];exact absurd rfl (hx.2 fz ts)
 | exc c n=>exact absurd rfl (hx.1 c n)
 | _=>exact Rep.mono s _ _ h
def GF(K:PySem.W.Frag)(neg:Bool):R2:=λx y H Q=>∃t u,Rep K H t x∧Rep K H u y∧okT 100 t=true∧okT 100 u=true∧Q (.bl (if neg then !eqT t u else eqT t u)) H
section
variable{X:Cx}{a b c:Expr}{da db dc:D}{pos p p2:Pos}{k:Nat}
theorem DP(hr:dQ k X.A):OpR X (compareOp .Eq) (GF X.K false):=by
 intro pins s σ H x y v u Q I rx ry h
 obtain⟨t,t',h1,h2,o1,o2,q⟩:=h
 obtain⟨as,r1⟩:=lU I 100 t x v h1 rx o1
 obtain⟨bs,r2⟩:=lU I 100 t' y u h2 ry o2
 obtain⟨c1,d1⟩:=rq 100 t o1
 obtain⟨c2,d2⟩:=rq 100 t' o2
 refine SeqAt.compareEq_reads r1 r2 c1 c2 (by have:=hr.un;lia) ⟨.bl _,H,I,rfl,?_⟩
 rw[yw 100 t t' o1 o2]
 exact q
theorem Jv(hr:dQ k X.A):OpR X (compareOp .NotEq) (GF X.K true):=by
 intro pins s σ H x y v u Q I rx ry h
 obtain⟨t,t',h1,h2,o1,o2,q⟩:=h
 obtain⟨as,r1⟩:=lU I 100 t x v h1 rx o1
 obtain⟨bs,r2⟩:=lU I 100 t' y u h2 ry o2
 obtain⟨c1,d1⟩:=rq 100 t o1
 obtain⟨c2,d2⟩:=rq 100 t' o2
 refine SeqAt.compareNe_reads r1 r2 c1 c2 (by have:=hr.un;lia) ⟨.bl _,H,I,rfl,?_⟩
 rw[yw 100 t t' o1 o2]
 exact q
theorem oE{n:Nat}{t:T}(h:okT n t=true):(∀c m,t≠.exc c m)∧∀f k,t≠.dtt f k:=⟨λc m e=>(by subst e;unfold okT at h;cases h),λc m e=>(by subst e;unfold okT at h;cases h)⟩
theorem DQ{K:PySem.W.Frag}:gd K (λx y H Q=>GF K false x y H Q∨rEq x y H Q) fEq:=by
 intro F H v u t t' w Q s hv hu hw q
 by_cases hs:∃a b,t=.str a∧t'=.str b
 ·obtain⟨a,b,rfl,rfl⟩:=hs
  cases hw
  cases hv.str
  cases hu.str
  refine .inr ⟨rfl,?_⟩
  have e:decide (V.str a=V.str b)=(a==b):=ql
  rw[e]
  exact q _ H F bI.refl (Rep.bl' _)
 ·have hw:(if okT 100 t=true∧okT 100 t'=true then some (T.bl (eqT t t')) else none)=some w:=by
   unfold fEq at hw
   split at hw
   ·exact absurd ⟨_,_,rfl,rfl⟩ hs
   ·exact hw
  by_cases ho:okT 100 t=true∧okT 100 t'=true
  ·rw[if_pos ho] at hw
   cases hw
   exact .inl ⟨t,t',hv.rep s (oE ho.1),hu.rep s (oE ho.2),ho.1,ho.2,q _ H F bI.refl (Rep.bl' _)⟩
  ·rw[if_neg ho] at hw;cases hw
theorem Jw{K:PySem.W.Frag}:gd K (λx y H Q=>GF K true x y H Q∨rNe x y H Q) fNe:=by
 intro F H v u t t' w Q s hv hu hw q
 by_cases hs:∃a b,t=.str a∧t'=.str b
 ·obtain⟨a,b,rfl,rfl⟩:=hs
  cases hw
  cases hv.str
  cases hu.str
  refine .inr ⟨rfl,?_⟩
  have e:decide (V.str a=V.str b)=(a==b):=ql
  rw[e]
  exact q _ H F bI.refl (Rep.bl' _)
 ·have hw:(if okT 100 t=true∧okT 100 t'=true then some (T.bl (!eqT t t')) else none)=some w:=by
   unfold fNe at hw
   split at hw
   ·exact absurd ⟨_,_,rfl,rfl⟩ hs
   ·exact hw
  by_cases ho:okT 100 t=true∧okT 100 t'=true
  ·rw[if_pos ho] at hw
   cases hw
   exact .inl ⟨t,t',hv.rep s (oE ho.1),hu.rep s (oE ho.2),ho.1,ho.2,q _ H F bI.refl (Rep.bl' _)⟩
  ·rw[if_neg ho] at hw;cases hw
theorem lW(hr:dQ k X.A)(ha:CE X a da)(hb:CE X b db):CE X (.Compare a [.Eq] [b] pos) (aj fEq da db):=ym ((DP hr).or Hm) DQ (lB _) ha hb
theorem jv(hr:dQ k X.A)(ha:CE X a da)(hb:CE X b db):CT X (.Compare a [.Eq] [b] pos) (aj fEq da db):=ng ((DP hr).or Hm) DQ (lB _) ha hb
theorem wR(hr:dQ k X.A)(ha:CE X a da)(hb:CE X b db):CT X (.Compare a [.NotEq] [b] pos) (aj fNe da db):=ng ((Jv hr).or KN) Jw (lB _) ha hb
def Kd.name:Kd→String
 | .int=>"int"
 | .bool=>"bool"
 | .str=>"str"
 | .list=>"list"
 | .tuple=>"tuple"
 | .dict=>"dict"
end
theorem wU:∀{ts:List T}{bs:List Bool},qO ts=some bs→ts=bs.map T.bl
 | [],bs,h=>by cases h;rfl
 | t::ts,bs,h=>by
  cases t with
  | bl b =>
   obtain⟨cs,h1,rfl⟩:=Option.map_eq_some_iff.mp (show (qO ts).map (λbs=>b::bs)=some bs from h)
   rw[wU h1];rfl
  | _=>cases h
theorem j8:∀{ts:List T}{bs:List Int},gj ts=some bs→ts=bs.map T.int
 | [],bs,h=>by cases h;rfl
 | t::ts,bs,h=>by
  cases t with
  | int b =>
   obtain⟨cs,h1,rfl⟩:=Option.map_eq_some_iff.mp (show (gj ts).map (λbs=>b::bs)=some bs from h)
   rw[j8 h1];rfl
  | _=>cases h
theorem aG.bls{K:PySem.W.Frag}{F:Hp}:∀{bs:List Bool}{vs:List V},aG K F (bs.map T.bl) vs→vs=bs.map V.bl
 | [],vs,h=>by rw[List.map_nil,aG] at h;exact h
 | b::bs,vs,h=>by
  rw[List.map_cons,aG] at h
  obtain⟨v,vs',rfl,q,r⟩:=h
  rw[r.bls,q.jt];rfl
theorem aG.wV{K:PySem.W.Frag}{F:Hp}:∀{bs:List Int}{vs:List V},aG K F (bs.map T.int) vs→vs=bs.map V.int
 | [],vs,h=>by rw[List.map_nil,aG] at h;exact h
 | b::bs,vs,h=>by
  rw[List.map_cons,aG] at h
  obtain⟨v,vs',rfl,q,r⟩:=h
  rw[r.wV,q.lK];rfl
theorem wW:∀{bs:List Bool}{us:List Value},Vals (bs.map V.bl) us→us=bs.map Value.bool
 | [],us,h=>by cases h;rfl
 | b::bs,us,h=>by
  rw[List.map_cons] at h
  cases h with
  | cons r h=>rw[wW h,show _=Value.bool b from r];rfl
section
variable{X:Cx}{a b c:Expr}{da db dc:D}{pos p p2:Pos}{k:Nat}
theorem Bv{prog:Program}{w:World}{A:Around}{E:Value→Shared→Prop}{s:Shared}{l:Addr}{its:Array Value}{Q:Value→Shared→Prop}(hl:s.heap.IsList l its)
  (h:∀s₂:Shared,s₂={ s with heap:=s.heap.push { cls:=.type "list_iterator",data:=.fields #[.ref l,.int 0 0] } }→(s₂.heap.IsListIter s.heap.objs.size l 0∧s₂.heap.IsList l its)→l≠s.heap.objs.size→Q (.ref s.heap.objs.size) s₂) :
  wpAny (model prog w) A (pyIter (.ref l)) Q E s:=by
 have hlt:l<s.heap.objs.size:=by obtain⟨_,e,_⟩:=hl;exact Heap.lt_size e
 exact wpAny_pyIter_list hl (h _ rfl ⟨⟨_,Heap.get?_push_size _ rfl,rfl,rfl⟩,hl.push _⟩ (Nat.ne_of_lt hlt))
theorem range_all(bs:List Bool):(List.range bs.length).all (λi=>bs.getD i true)=bs.all id:=by
 rw[Bool.eq_iff_iff,List.all_eq_true,List.all_eq_true]
 constructor
 ·intro h x hx
  obtain⟨i,hi⟩:=List.mem_iff_getElem?.mp hx
  have hl:i<bs.length:=(List.getElem?_eq_some_iff.mp hi).1
  have:=h i (List.mem_range.mpr hl)
  rw[List.getD_eq_getElem?_getD,hi] at this
  exact this
 ·intro h i hi
  have hl:i<bs.length:=List.mem_range.mp hi
  rw[List.getD_eq_getElem?_getD,List.getElem?_eq_getElem hl]
  exact h _ (List.getElem_mem hl)
theorem Bw{prog:Program}{w:World}{A:Around}(bs:List Bool):TruthOf prog w A (λi v=>((bs.map Value.bool).toArray)[i]?=some v) (λi=>bs.getD i true):=by
 intro i v s Q E hP hQ
 have hP:(bs.map Value.bool)[i]?=some v:=by simpa using hP
 rw[List.getElem?_map] at hP
 cases q:bs[i]? with
 | none=>rw[q] at hP;cases hP
 | some y =>
  rw[q] at hP
  cases hP
  have hQ:Q (bs.getD i true) s:=hQ
  rw[List.getD_eq_getElem?_getD,q] at hQ
  exact wpAny_truthy_bool hQ
theorem Bx(hr:dQ k X.A):fo X (.builtin "all") (λxs H Q=>∃(p:Addr) (bs:List Bool),xs=[.ref p]∧SqL X.K H p (bs.map V.bl)∧Q (.bl (bs.all id)) H):=by
 intro pins s σ H xs us Q I r h
 obtain⟨p,bs,rfl,hq,q⟩:=h
 obtain⟨u,rfl,ru⟩:=vals1 r
 cases ru
 obtain⟨its,rv,pl,hz⟩:=I.list hq
 cases wW rv
 refine call_all_walk (Bv pl.isList λs₂ e st hne=>?_)
 subst e
 refine⟨_,_,_,_,_,_,_,rfl,Walks.list (A:=X.A.in1) hr.hd _ p hne _,st,Bw bs,λh' tk hk=>?_⟩
 rw[List.size_toArray,List.length_map,range_all]
 exact⟨.bl _,H,I.kept (t':=tk) (old_kept hk),rfl,q⟩
theorem By(hr:dQ k X.A):fo X (.builtin "sum") (λxs H Q=>∃(p:Addr) (ns:List Int),xs=[.ref p]∧SqL X.K H p (ns.map V.int)∧Q (.int ns.sum) H):=by
 intro pins s σ H xs us Q I r h
 obtain⟨p,ns,rfl,hq,q⟩:=h
 obtain⟨u,rfl,ru⟩:=vals1 r
 cases ru
 obtain⟨its,rv,pl,hz⟩:=I.list hq
 have hi:IntsAre its ns:=intsAre_of rv
 have lE:AllInts its.toArray:=hi.allInts
 obtain⟨xs,hxs⟩:=lE.items
 rw[hxs] at pl
 refine sum_intListG hr.hd pl.isList λh' tk t' hk=>⟨.int ns.sum,H,I.kept (t':=tk) hk,⟨t',?_⟩,q⟩
 rw[preSum_eq,List.take_of_length_le (by simp)]
 have e1:=hi.numsOf
 have e2:its=(intItems xs).toList:=by rw[← hxs]
 rw[e2,nums_intItems] at e1
 rw[e1]
theorem Jx(hr:dQ k X.A)(hm:X.mg "all"=none)(ha:CE X a da)(hg:Gl X "all":=by rfl)(hs1:starEach [a] X.env=(false,eval a X.env)::starEach [] X.env:=by rfl)(hpl:(backTo pos (starEach [] X.env)).any (·.1)=false:=by rfl) :
  CE X (.Call (.Name "all" p) [a] [] pos) (dUn Bh da):=qq (Bx hr) (by
 intro F H v t w Q s hv hw q
 cases t with
 | lst ts =>
  obtain⟨bs,h1,rfl⟩:=Option.map_eq_some_iff.mp (show (qO ts).map _=some w from hw)
  obtain⟨a,vs,rfl,hq,hl⟩:=hv.lS
  rw[wU h1] at hl
  rw[hl.bls] at hq
  exact⟨a,bs,rfl,hq,q _ H F bI.refl (Rep.bl' _)⟩
 | _=>cases hw) hm (by decide +kernel) ha hg (by decide) (by decide) hs1 hpl
theorem yx(hr:dQ k X.A)(hm:X.mg "sum"=none)(ha:CE X a da)(hg:Gl X "sum":=by rfl)(hs1:starEach [a] X.env=(false,eval a X.env)::starEach [] X.env:=by rfl)(hpl:(backTo pos (starEach [] X.env)).any (·.1)=false:=by rfl) :
  CE X (.Call (.Name "sum" p) [a] [] pos) (dUn mZ da):=qq (By hr) (by
 intro F H v t w Q s hv hw q
 cases t with
 | lst ts =>
  obtain⟨bs,h1,rfl⟩:=Option.map_eq_some_iff.mp (show (gj ts).map _=some w from hw)
  obtain⟨a,vs,rfl,hq,hl⟩:=hv.lS
  rw[j8 h1] at hl
  rw[hl.wV] at hq
  exact⟨a,bs,rfl,hq,q _ H F bI.refl (Rep.ip _)⟩
 | _=>cases hw) hm (by decide +kernel) ha hg (by decide) (by decide) hs1 hpl
theorem je(hm:X.mg "tuple"=none)(ha:CE X a da)(hg:Gl X "tuple":=by rfl)(hs1:starEach [a] X.env=(false,eval a X.env)::starEach [] X.env:=by rfl)(hpl:(backTo pos (starEach [] X.env)).any (·.1)=false:=by rfl) :
  CE X (.Call (.Name "tuple" p) [a] [] pos) (dUn dR da):=Dx sP (by
 intro F H v t w Q s hv hw q
 cases t with
 | lst ts =>
  cases hw
  obtain⟨a,vs,rfl,hq,hl⟩:=hv.lS
  exact⟨a,vs,rfl,.inl ⟨hq,λl hp=>vg s hp hl q⟩⟩
 | tup ts =>
  cases hw
  obtain⟨a,vs,rfl,hq,hl⟩:=hv.ve
  exact⟨a,vs,rfl,.inr ⟨aU.lu s hq,q _ H F bI.refl (vh hq hl)⟩⟩
 | _=>cases hw) hm (by decide +kernel) ha hg (by decide) (by decide) hs1 hpl
theorem qt(hm:X.mg "list"=none)(ha:CE X a da)(hg:Gl X "list":=by rfl)(hs1:starEach [a] X.env=(false,eval a X.env)::starEach [] X.env:=by rfl)(hpl:(backTo pos (starEach [] X.env)).any (·.1)=false:=by rfl) :
  CF X (.Call (.Name "list" p) [a] [] pos) (dUn j4 da):=Dy uT (by
 intro F H v t w Q s hv hw q
 cases t with
 | lst ts =>
  cases hw
  obtain⟨a,vs,rfl,hq,hl⟩:=hv.lS
  exact⟨a,vs,rfl,.inl hq,λl hp=>q l _ hp ⟨vs,aL,hl⟩⟩
 | tup ts =>
  cases hw
  obtain⟨a,vs,rfl,hq,hl⟩:=hv.ve
  exact⟨a,vs,rfl,.inr (aU.lu s hq),λl hp=>q l _ hp ⟨vs,aL,hl⟩⟩
 | _=>cases hw) hm (by decide +kernel) ha hg (by decide) (by decide) hs1 hpl
theorem Jy:CF X (.Dict [] [] pos) (dC (.dct [])):=by
 refine⟨PE.imp C5 λσ H Q ⟨F,α,e,μ,S,h⟩=>?_,λe μ x μ' h=>?_⟩
 ·obtain⟨t,et,post⟩:=h
  cases et
  intro d hd
  exact post d _ F α (Ex.lay hd) (S.of (aU.refl _) (List.prefix_refl _) (S.st.lay hd)) hd (S.st.ext.free hd) (cW S.st hd) ⟨[],aL,by rw[bx]⟩
 ·cases h;exact⟨_,rfl⟩
theorem kH{es:List Expr}{ds:List D}(h:CA X es ds)(hb:CE X b db)(hl:ds.length≤1000:=by decide):CF X (.BinOp (.List es p) .Mult b pos) (iP il ds db):=by
 refine⟨PE.imp (Hl IP (CN h) hb) λσ H Q ⟨F,α,e,μ,S,h⟩=>?_,λe μ x μ' h=>?_⟩
 ·refine⟨F,α,e,μ,S,(gn (R.wp_bind h)).mono (λxs μ1 ⟨hn,h⟩ vs H1 F1 α1 x1 S1 o1=>?_) λ_ _ h=>h⟩
  have h:=R.wp_bind h
  cases hz:fq xs μ1 with
  | err c μ2=>exact absurd hz (qo xs μ1 c μ2)
  | bad=>rw[hz] at h;exact h.elim
  | ok ts μ2 =>
   rw[hz] at h
   obtain⟨F2,s2,n2,S2,r2⟩:=qp S1.st o1 hz
   refine⟨mG hn o1 hl,λl hp=>?_⟩
   have x2:Ex F α H F2 α1 (upd H1 l (.lst vs)):=x1.trans ((Ex.qU s2 n2).trans (Ex.lay hp))
   refine⟨F2,α1,e,μ2,S1.of s2 (List.prefix_refl _) (S2.lay hp),(R.wp_bind h).mono (λy μ3 h v3 H3 F3 α3 x3 S3 o3=>?_) λ_ _ h=>h.mono x2⟩
   obtain⟨w,h9,t',e1,post⟩:=R.bK h
   obtain⟨t,w',ht,h,e2⟩:=mY h9
   subst e1
   cases e2
   cases t with
   | int i =>
    cases (bo S3.st o3 ht).int
    have h:(if -(2 ^ 63)≤i∧i<2 ^ 63∧ts.length*i.toNat≤szL then some (T.lst (List.replicate i.toNat ts).flatten) else none)=some t':=h
    by_cases hc:-(2 ^ 63)≤i∧i<2 ^ 63∧ts.length*i.toNat≤szL
    ·rw[if_pos hc] at h
     cases h
     obtain⟨g1,g2,g3⟩:=x3.fr l _ aL (S2.ext.free hp) (cW S2 hp)
     refine⟨l,i,vs,rfl,rfl,g1,hc.1,hc.2.1,by rw[← r2.length];exact hc.2.2,λp' hp'=>?_⟩
     exact post p' _ F3 α3 ((x2.trans x3).trans (Ex.lay hp')) (S3.of (aU.refl _) (List.prefix_refl _) (S3.st.lay hp')) ((x2.trans x3).was S3.st hp') (S3.st.ext.free hp') (cW S3.st hp')
      ⟨_,aL,(aG.mono x3.same _ _ r2).flat i.toNat⟩
    ·rw[if_neg hc] at h;cases h
   | _=>cases h
 ·unfold iP at h
  obtain⟨xs,μ1,hx,h⟩:=R.aX h
  obtain⟨ts,μ2,hz,h⟩:=R.aX h
  obtain⟨y,μ3,hy,h⟩:=R.aX h
  obtain⟨h9,rfl⟩:=R.mX h
  obtain⟨t,w',ht,h,rfl⟩:=mY h9
  exact⟨_,rfl⟩
theorem j9{o e1:Expr}{do_ de:D}{apos fU:Pos}(ho:CE X o do_)(he:CE X e1 de)(lC:attributeBase o "append" X.env (eval o X.env)=eval o X.env:=by rfl)
  (xY:((backTo fU (starEach [e1] X.env)).all (λx=>!x.1) && (backToKw fU (keywordEach [] X.env)).all (λx=>x.1.isSome) && decide (([e1]:List Expr).length+([]:List Keyword).length+(if ([]:List Keyword).isEmpty then 0 else 1)<30))=true:=by rfl)
  (lD:(apos.endLine==fU.line)=true:=by rfl) (hs1:starEach [e1] X.env=(false,eval e1 X.env)::starEach [] X.env:=by rfl) (hpl:(backTo fU (starEach [] X.env)).any (·.1)=false:=by rfl)
  (hs:swapsWith (.Call (.Attribute o "append" apos) [e1] [] fU) none pos.line X.env=pure false:=by rfl) :
  CS X (.Expr (.Call (.Attribute o "append" apos) [e1] [] fU) pos) (ee do_ de) :=
 PS.imp (zy (CY PySem.F.plainAttrs_list PySem.F.slot_list_append PySem.F.type_list_append ud ho (ag he ar hs1) lC xY lD hs1 hpl) hs) λD σ H aq=>by
  obtain⟨F,α,e,μ,S,h⟩:=aq
  refine⟨F,α,e,μ,S,(bh.toS h).mono (λx μ1 h v H1 F1 α1 x1 S1 o1=>?_) λ_ _ h=>h⟩
  obtain⟨_,hl,h⟩:=h.lift
  cases x with
  | cel j =>
   obtain⟨ad,ha,rfl⟩:=o1
   have hc:∃bb ts,μ1[j]?=some (bb,.lst ts):=by
    unfold oi at hl
    simp only at hl
    split at hl
    ·exact⟨_,_,by assumption⟩
    ·cases hl
   obtain⟨bb,ts,hj⟩:=hc
   have n1:=bo S1.st (x:=.cel j) (t:=.lst ts) ⟨ad,ha,rfl⟩ (by rw[jN,hj];rfl)
   obtain⟨a',vs,e1,hq,_⟩:=n1.lS
   cases e1
   refine⟨.inl ⟨rfl,vs,hq⟩,qX ⟨F1,α1,e,μ1,S1,(bh.toS h).mono (λy μ2 h v2 H2 F2 α2 x2 S2 o2=>?_) λ_ _ h=>h.mono x1⟩⟩
   have h:=h.toS
   cases hz:frz y μ2 with
   | err c μ3=>exact absurd hz (uW y μ2 c μ3)
   | bad=>rw[hz] at h;exact h.elim
   | ok t μ3 =>
    rw[hz] at h
    obtain⟨μ4,ha4,h⟩:=bh.lift h
    obtain⟨F3,s3,n3,S3,r3⟩:=pG S2.st o2 hz
    unfold appendAt at ha4
    simp only at ha4
    have hc:∃us,μ3[j]?=some (true,.lst us)∧us.length<szL∧μ4=μ3.set j (true,.lst (us++[t])):=by
     split at ha4
     ·rename_i us hjs
      by_cases hu:us.length<szL
      ·rw[if_pos hu] at ha4
       cases ha4
       exact⟨us,hjs,hu,rfl⟩
      ·rw[if_neg hu] at ha4;cases ha4
     ·cases ha4
    obtain⟨us,hj3,hu,rfl⟩:=hc
    have ha3:α2[j]?=some ad:=kx x2.pre ha
    obtain⟨_,ws,hw,rw'⟩:=(S3.cell j true _ ad hj3 ha3).1 rfl
    have el:=rw'.length
    refine⟨ad,ws,v2,rfl,rfl,hw,by rw[rk] at hu;omega,?_⟩
    have x3:Ex F α H F3 α2 H2:=x1.trans (x2.trans (Ex.qU s3 n3))
    exact h σ _ F3 α2 (x3.trans (Ex.put ha3)) ((S2.of s3 (List.prefix_refl _) S3).of (aU.refl _) (List.prefix_refl _) (u6 S3 hj3 ha3 ⟨_,aL,rw'.append (aG.one r3)⟩))
  | val t=>cases hl
  | box xs=>cases hl
end
end Fw
namespace Fw
open PySem L2 PyProof.Rows
section
variable{X:Cx}
end
end Fw
namespace L2
open PySem PySem.Spec PyProof.Rows
def KIt(k:Bool)(h:Heap)(i l:Addr)(n:Nat):Prop:=match k with
 | true=>h.IsListIter i l n
 | false=>h.IsTupleIter i l n
def KSq(k:Bool)(h:Heap)(l:Addr)(xs:Array Value):Prop:=match k with
 | true=>h.IsList l xs
 | false=>h.IsTuple l xs
theorem KIt.at{k:Bool}{h h':Heap}{i l:Addr}{n:Nat}(x:KIt k h i l n)(e:∀o,h.get? i=some o→h'.get? i=some o):KIt k h' i l n:=by
 cases k with
 | true=>exact Heap.IsListIter.at x e
 | false=>exact Heap.IsTupleIter.at x e
theorem KSq.at{k:Bool}{h h':Heap}{l:Addr}{xs:Array Value}(x:KSq k h l xs)(e:∀o,h.get? l=some o→h'.get? l=some o):KSq k h' l xs:=by
 cases k with
 | true=>exact Heap.IsList.at x e
 | false=>exact Heap.IsTuple.at x e
theorem KIt.ob{k:Bool}{h:Heap}{i l:Addr}{n:Nat}(x:KIt k h i l n):∃o,h.get? i=some o∧o.data=.fields #[.ref l,.int n 0]:=by
 cases k with
 | true=>obtain⟨o,a,_,b⟩:=x;exact⟨o,a,b⟩
 | false=>obtain⟨o,a,_,b⟩:=x;exact⟨o,a,b⟩
section
variable{prog:Program}{w:World}{A:Around}{E:Value→Shared→Prop}{s:Shared}
theorem yA{it t:Addr}{i:Nat}{items:Array Value}{x:Value}{Q:Value→Shared→Prop}(hit:s.heap.IsTupleIter it t i)(ht:s.heap.IsTuple t items)(hx:items[i]?=some x)
  (hQ:∀h',h'.IsTupleIter it t (i+1)→Heap.SameBut it s.heap h'→Q x { s with heap:=h' }):wpAny (model prog w) A (Builtin.SmallTypes.nextOf (.ref it)) Q E s:=by
 obtain⟨⟨o,ho,hc,hd⟩,⟨ol,hol,_,nl,hdl⟩⟩:=And.intro (id hit) ht
 unfold Builtin.SmallTypes.nextOf
 refine wpAny_bind (wpAny_callSpecial?_slot (name:=Str.ofString "__next__") hit.typeIs F.slot_tuple_iterator_next (wpAny_call_entry F.slot_tuple_iterator_next hit.typeIs F.entry_tuple_iterator_next ?_ (F.args_tuple_iterator_next_1 _)))
 show wpAny _ _ (field (.ref it) 0>>=_) _ _ s;refine wpAny_bind (wpAny_field ho hd (x:=.ref t) rfl ?_)
 show wpAny _ _ (if (Value.ref t==Value.none)=true then _ else _) _ _ s;rw[if_neg (show ¬ ((Value.ref t==Value.none)=true) from Bool.false_ne_true)]
 show wpAny _ _ (field (.ref it) 1>>=_) _ _ s;refine wpAny_bind (wpAny_field ho hd (x:=.int i 0) rfl ?_)
 show wpAny _ _ (seqItems? (.ref t)>>=_) _ _ s;refine wpAny_bind (wpAny_seqItems hol hdl ?_)
 simp only[Int.toNat_natCast,hx];refine wpAny_bind (wpAny_setField ho hd (by simp) (wpAny_pure ⟨x,rfl,wpAny_pure (hQ _ ?_ (Heap.SameBut.update ..))⟩))
 exact⟨_,Heap.get?_update_self _ ho (Obj.isFreed_of_fields (Obj.data_mapFields hd _)),(Obj.cls_mapFields ..).trans hc,by rw[Obj.data_mapFields hd];simp[rawInt]⟩
theorem Bz{it t:Addr}{i:Nat}{items:Array Value}{Q:Value→Shared→Prop}(hh:A.handled=none)(hit:s.heap.IsTupleIter it t i)(ht:s.heap.IsTuple t items)(hx:items[i]?=none)
  (hE:∀h' e,Heap.ExtBut it s.heap h'→(∃o,h'.get? e=some o∧o.cls=.type "StopIteration")→E (.ref e) { s with heap:=h' }):wpAny (model prog w) A (Builtin.SmallTypes.nextOf (.ref it)) Q E s:=by
 obtain⟨⟨o,ho,hc,hd⟩,⟨ol,hol,_,nl,hdl⟩⟩:=And.intro (id hit) ht
 unfold Builtin.SmallTypes.nextOf
 refine wpAny_bind (wpAny_callSpecial?_slot (name:=Str.ofString "__next__") hit.typeIs F.slot_tuple_iterator_next (wpAny_call_entry F.slot_tuple_iterator_next hit.typeIs F.entry_tuple_iterator_next ?_ (F.args_tuple_iterator_next_1 _)))
 show wpAny _ _ (field (.ref it) 0>>=_) _ _ s;refine wpAny_bind (wpAny_field ho hd (x:=.ref t) rfl ?_)
 show wpAny _ _ (if (Value.ref t==Value.none)=true then _ else _) _ _ s;rw[if_neg (show ¬ ((Value.ref t==Value.none)=true) from Bool.false_ne_true)]
 show wpAny _ _ (field (.ref it) 1>>=_) _ _ s;refine wpAny_bind (wpAny_field ho hd (x:=.int i 0) rfl ?_)
 show wpAny _ _ (seqItems? (.ref t)>>=_) _ _ s;refine wpAny_bind (wpAny_seqItems hol hdl ?_)
 simp only[Int.toNat_natCast,hx];refine wpAny_bind (wpAny_rule (wpAny_bind (wpAny_setField ho hd (by simp) ?_)))
 show wpAny _ _ (newExc (.type "StopIteration") []>>=_) _ _ _;refine wpAny_bind ?_
 simp only[newExc,newTuple];refine wpAny_bind (wpAny_newObj_type ?_ (by size_fits))
 refine wpAny_bind (m:=firstArgMember _ _) (wpAny_of_eq (a:=Value.none) (by first|rfl|(simp only[firstArgMember];rfl)) ?_);refine wpAny_newObj_type ?_ (by size_fits)
 simp only[raiseNew];refine wpAny_bind (wpAny_handled ?_);first|rw[show A.in1.handled=none from hh]|rw[hh]
 refine wpAny_bind (wpAny_pure (wpAny_throw ?_));exact hE _ _ (((Heap.SameBut.update ..).extBut.push _).push _) ⟨_,Heap.get?_push_size _ rfl,rfl⟩
theorem kI{k:Bool}{it t:Addr}{i:Nat}{items:Array Value}{x:Value}{Q:Value→Shared→Prop}(hit:KIt k s.heap it t i)(ht:KSq k s.heap t items)(hx:items[i]?=some x)
  (hQ:∀h',KIt k h' it t (i+1)→Heap.SameBut it s.heap h'→Q x { s with heap:=h' }):wpAny (model prog w) A (Builtin.SmallTypes.nextOf (.ref it)) Q E s:=by
 cases k with
 | true=>exact wpAny_nextOf_list_item hit ht hx hQ
 | false=>exact yA hit ht hx hQ
theorem pK{k:Bool}{it t:Addr}{i:Nat}{items:Array Value}{Q:Value→Shared→Prop}(hh:A.handled=none)(hit:KIt k s.heap it t i)(ht:KSq k s.heap t items)(hx:items[i]?=none)
  (hE:∀h' e,Heap.ExtBut it s.heap h'→(∃o,h'.get? e=some o∧o.cls=.type "StopIteration")→E (.ref e) { s with heap:=h' }):wpAny (model prog w) A (Builtin.SmallTypes.nextOf (.ref it)) Q E s:=by
 cases k with
 | true=>exact wpAny_nextOf_list_end hh hit ht hx hE
 | false=>exact Bz hh hit ht hx hE
theorem BA{k1 k2:Bool}{z TI TO i1 i2 l1 l2:Addr}{n1 n2:Nat}{xs ys:Array Value}{x y a b:Value}{Q:Value→Shared→Prop}(D:ZipApart z TI TO i1 i2 l1 l2)
  (hz:IsZip s.heap z TI TO .none) (hTI:IsPair s.heap TI (.ref i1) (.ref i2)) (hTO:IsPair s.heap TO a b) (h1:KIt k1 s.heap i1 l1 n1) (h2:KIt k2 s.heap i2 l2 n2) (hl1:KSq k1 s.heap l1 xs) (hl2:KSq k2 s.heap l2 ys) (hx:xs[n1]?=some x) (hy:ys[n2]?=some y)
  (hQ:∀h',IsZip h' z TI TO (rawInt s.heap.objs.size)→IsPair h' TO x y→KIt k1 h' i1 l1 (n1+1)→KIt k2 h' i2 l2 (n2+1)→IsPair h' s.heap.objs.size x y→h'.objs.size=s.heap.objs.size+1 →
   (∀c o,c≠z→c≠TO→c≠i1→c≠i2→s.heap.get? c=some o→h'.get? c=some o)→Q (.ref s.heap.objs.size) { s with heap:=h' }) :
  wpAny (model prog w) A (Builtin.«zip.__next__» ⟨[.ref z],[]⟩) (λfin s'=>∃v,fin=.done (.ret v)∧Q v s') E s:=by
 show wpAny _ _ (field (.ref z) 2>>=_) _ _ _;refine wpAny_bind (wpAny_field hz rfl (x:=.bool false) rfl ?_)
 show wpAny _ _ (field (.ref z) 3>>=_) _ _ _;refine wpAny_bind (wpAny_field hz rfl (x:=.ref TI) rfl ?_)
 refine wpAny_bind (wpAny_seqItems hTI rfl ?_);show wpAny _ _ (Builtin.SmallTypes.ownedTupleIsFree (.ref z)>>=_) _ _ _;refine wpAny_bind ?_
 unfold Builtin.SmallTypes.ownedTupleIsFree;refine wpAny_bind (wpAny_field hz rfl (x:=.none) rfl (wpAny_pure ?_))
 simp only[if_true];refine wpAny_bind (wpAny_rule ?_);refine wpAny_bind (wpAny_field hz rfl (x:=.ref TO) rfl ?_)
 refine wpAny_bind (wpAny_setField_rec hz (by simp) λg₁ hz₁ hs₁=>?_);replace hz₁:IsZip g₁ z TI TO .ellipsis:=hz₁
 refine wpAny_bind ?_;simp only[List.zipIdx_cons,List.zipIdx_nil,List.forIn_cons,List.forIn_nil];refine wpAny_bind (wpAny_bind (wpAny_onRaise ?_))
 show wpAny _ _ (Builtin.SmallTypes.nextOf (.ref i1)>>=_) _ _ _
 refine wpAny_bind (kI (h1.at λo e=>hs₁.extBut _ _ D.i1z e) (hl1.at λo e=>hs₁.extBut _ _ D.l1z e) hx λg₂ h1₂ hs₂=>wpAny_pure ?_)
 have hTO₂:IsPair g₂ TO a b:=hs₂.extBut _ _ D.TOi1 (hs₁.extBut _ _ D.TOz hTO)
 refine wpAny_bind (wpAny_seqItems hTO₂ rfl ?_);refine wpAny_bind (wpAny_updateSeq_pair hTO₂ λg₃ hTO₃ hs₃=>?_)
 replace hTO₃:IsPair g₃ TO x b:=hTO₃;refine wpAny_bind (wpAny_letGo (wpAny_pure ?_));refine wpAny_bind (wpAny_bind (wpAny_onRaise ?_))
 show wpAny _ _ (Builtin.SmallTypes.nextOf (.ref i2)>>=_) _ _ _
 refine wpAny_bind (kI (h2.at λo e=>hs₃.extBut _ _ D.TOi2.symm (hs₂.extBut _ _ D.i12.symm (hs₁.extBut _ _ D.i2z e))) (hl2.at λo e=>hs₃.extBut _ _ D.l2TO (hs₂.extBut _ _ D.l2i1 (hs₁.extBut _ _ D.l2z e))) hy λg₄ h2₄ hs₄=>wpAny_pure ?_)
 have hTO₄:IsPair g₄ TO x b:=hs₄.extBut _ _ D.TOi2 hTO₃
 refine wpAny_bind (wpAny_seqItems hTO₄ rfl ?_);refine wpAny_bind (wpAny_updateSeq_pair hTO₄ λg₅ hTO₅ hs₅=>?_)
 replace hTO₅:IsPair g₅ TO x y:=hTO₅;refine wpAny_bind (wpAny_letGo (wpAny_pure (wpAny_pure ?_)))
 refine wpAny_bind (wpAny_seqItems hTO₅ rfl ?_);refine wpAny_bind (wpAny_newTuple ?_)
 have hsz:g₅.objs.size=s.heap.objs.size:=by rw[hs₅.1,hs₄.1,hs₃.1,hs₂.1,hs₁.1]
 have hz₅:IsZip g₅ z TI TO .ellipsis:=hs₅.extBut _ _ D.TOz.symm (hs₄.extBut _ _ D.i2z.symm (hs₃.extBut _ _ D.TOz.symm (hs₂.extBut _ _ D.i1z.symm hz₁)))
 have hk₅:∀c o,c≠z→c≠TO→c≠i1→c≠i2→s.heap.get? c=some o→g₅.get? c=some o:=λc o c1 c2 c3 c4 e=>hs₅.extBut _ _ c2 (hs₄.extBut _ _ c4 (hs₃.extBut _ _ c2 (hs₂.extBut _ _ c3 (hs₁.extBut _ _ c1 e))))
 have h1₅:KIt k1 g₅ i1 l1 (n1+1):=h1₂.at λo e=>hs₅.extBut _ _ D.TOi1.symm (hs₄.extBut _ _ D.i12 (hs₃.extBut _ _ D.TOi1.symm e))
 have h2₅:KIt k2 g₅ i2 l2 (n2+1):=h2₄.at λo e=>hs₅.extBut _ _ D.TOi2.symm e
 have Lw:z<g₅.objs.size:=Heap.lt_size hz₅
 show wpAny _ _ (Builtin.SmallTypes.ownedTupleHandOut (.ref z) (.ref g₅.objs.size)>>=_) _ _ _;refine wpAny_bind ?_
 unfold Builtin.SmallTypes.ownedTupleHandOut
 have hz₆:IsZip (g₅.push { cls:=.type "tuple",data:=.seq #[x,y] }) z TI TO .ellipsis:=Heap.get?_push_of_some _ hz₅
 refine wpAny_bind (wpAny_setField_rec hz₆ (by simp) λg₇ hz₇ hs₇=>?_);replace hz₇:IsZip g₇ z TI TO (rawInt g₅.objs.size):=hz₇
 refine wpAny_setField_rec hz₇ (by simp) λg₈ hz₈ hs₈=>?_
 replace hz₈:IsZip g₈ z TI TO (rawInt g₅.objs.size):=hz₈
 have up:∀c o,c≠z→g₅.get? c=some o→g₈.get? c=some o:=λc o c1 e=>hs₈.extBut _ _ c1 (hs₇.extBut _ _ c1 (Heap.get?_push_of_some _ e))
 have hT₈:IsPair g₈ g₅.objs.size x y:=hs₈.extBut _ _ (Nat.ne_of_gt Lw) (hs₇.extBut _ _ (Nat.ne_of_gt Lw) (Heap.get?_push_size _ rfl))
 have hz8:g₈.objs.size=g₅.objs.size+1:=by rw[hs₈.1,hs₇.1,Heap.size_push]
 rw[hsz] at hz₈ hT₈ hz8
 refine wpAny_pure ⟨_,rfl,?_⟩
 show Q (.ref g₅.objs.size) _
 rw[hsz]
 exact hQ g₈ hz₈ (up _ _ D.TOz hTO₅) (h1₅.at λo e=>up _ o D.i1z e) (h2₅.at λo e=>up _ o D.i2z e) hT₈ hz8 λc o c1 c2 c3 c4 e=>up c o c1 (hk₅ c o c1 c2 c3 c4 e)
theorem DR{k1 k2:Bool}{z TI TO i1 i2 l1 l2:Addr}{n1 n2:Nat}{xs ys:Array Value}{a b:Value}{Q:Fin→Shared→Prop}(hh:A.handled=none)(D:ZipApart z TI TO i1 i2 l1 l2)
  (hz:IsZip s.heap z TI TO .none) (hTI:IsPair s.heap TI (.ref i1) (.ref i2)) (hTO:IsPair s.heap TO a b) (h1:KIt k1 s.heap i1 l1 n1) (h2:KIt k2 s.heap i2 l2 n2) (hl1:KSq k1 s.heap l1 xs) (hl2:KSq k2 s.heap l2 ys) (pH:xs[n1]?=none∨ys[n2]?=none)
  (hE:∀h' e,(∀c o,c≠z→c≠TO→c≠i1→c≠i2→s.heap.get? c=some o→h'.get? c=some o)→(∃o,h'.get? e=some o∧o.cls=.type "StopIteration")→E (.ref e) { s with heap:=h' }) :
  wpAny (model prog w) A (Builtin.«zip.__next__» ⟨[.ref z],[]⟩) Q E s:=by
 show wpAny _ _ (field (.ref z) 2>>=_) _ _ _;refine wpAny_bind (wpAny_field hz rfl (x:=.bool false) rfl ?_)
 show wpAny _ _ (field (.ref z) 3>>=_) _ _ _;refine wpAny_bind (wpAny_field hz rfl (x:=.ref TI) rfl ?_)
 refine wpAny_bind (wpAny_seqItems hTI rfl ?_);show wpAny _ _ (Builtin.SmallTypes.ownedTupleIsFree (.ref z)>>=_) _ _ _;refine wpAny_bind ?_
 unfold Builtin.SmallTypes.ownedTupleIsFree;refine wpAny_bind (wpAny_field hz rfl (x:=.none) rfl (wpAny_pure ?_))
 simp only[if_true];refine wpAny_bind (wpAny_rule ?_);refine wpAny_bind (wpAny_field hz rfl (x:=.ref TO) rfl ?_)
 refine wpAny_bind (wpAny_setField_rec hz (by simp) λg₁ hz₁ hs₁=>?_);replace hz₁:IsZip g₁ z TI TO .ellipsis:=hz₁
 refine wpAny_bind ?_;simp only[List.zipIdx_cons,List.zipIdx_nil,List.forIn_cons,List.forIn_nil];refine wpAny_bind (wpAny_bind (wpAny_onRaise ?_))
 show wpAny _ _ (Builtin.SmallTypes.nextOf (.ref i1)>>=_) _ _ _
 have h1':=h1.at λo e=>hs₁.extBut _ _ D.i1z e
 have Lx:=hl1.at λo e=>hs₁.extBut _ _ D.l1z e
 cases hx:xs[n1]? with
 | none =>
  refine wpAny_bind (pK hh h1' Lx hx λg₂ e hs₂ he=>?_)
  obtain⟨oe,hoe,hce⟩:=he
  have hz₂:IsZip g₂ z TI TO .ellipsis:=hs₂ _ _ D.i1z.symm hz₁
  have hez:e≠z:=λq=>by subst q;rw[hz₂] at hoe;cases hoe;simp at hce
  exact wpAny_setField_rec hz₂ (by simp) λg₃ _ hs₃=>hE g₃ e (λc o c1 _ c3 _ q=>hs₃.extBut _ _ c1 (hs₂ _ _ c3 (hs₁.extBut _ _ c1 q))) ⟨oe,hs₃.extBut _ _ hez hoe,hce⟩
 | some x =>
  have hy:ys[n2]?=none:=by
   rcases pH with h|h
   ·rw[hx] at h;cases h
   ·exact h
  refine wpAny_bind (kI h1' Lx hx λg₂ h1₂ hs₂=>wpAny_pure ?_)
  have hTO₂:IsPair g₂ TO a b:=hs₂.extBut _ _ D.TOi1 (hs₁.extBut _ _ D.TOz hTO)
  refine wpAny_bind (wpAny_seqItems hTO₂ rfl ?_);refine wpAny_bind (wpAny_updateSeq_pair hTO₂ λg₃ hTO₃ hs₃=>?_)
  refine wpAny_bind (wpAny_letGo (wpAny_pure ?_));refine wpAny_bind (wpAny_bind (wpAny_onRaise ?_))
  show wpAny _ _ (Builtin.SmallTypes.nextOf (.ref i2)>>=_) _ _ _
  refine wpAny_bind (pK hh (h2.at λo e=>hs₃.extBut _ _ D.TOi2.symm (hs₂.extBut _ _ D.i12.symm (hs₁.extBut _ _ D.i2z e))) (hl2.at λo e=>hs₃.extBut _ _ D.l2TO (hs₂.extBut _ _ D.l2i1 (hs₁.extBut _ _ D.l2z e))) hy λg₄ e hs₄ he=>?_)
  obtain⟨oe,hoe,hce⟩:=he
  have hz₄:IsZip g₄ z TI TO .ellipsis:=hs₄ _ _ D.i2z.symm (hs₃.extBut _ _ D.TOz.symm (hs₂.extBut _ _ D.i1z.symm hz₁))
  have hez:e≠z:=λq=>by subst q;rw[hz₄] at hoe;cases hoe;simp at hce
  exact wpAny_setField_rec hz₄ (by simp) λg₅ _ hs₅=>hE g₅ e (λc o c1 c2 c3 c4 q=>hs₅.extBut _ _ c1 (hs₄ _ _ c4 (hs₃.extBut _ _ c2 (hs₂.extBut _ _ c3 (hs₁.extBut _ _ c1 q))))) ⟨oe,hs₅.extBut _ _ hez hoe,hce⟩
theorem vk{k1 k2:Bool}{z TI TO i1 i2 l1 l2:Addr}{n1 n2:Nat}{xs ys:Array Value}{x y a b:Value}{Q:Option Value→Shared→Prop}(D:ZipApart z TI TO i1 i2 l1 l2)
  (hz:IsZip s.heap z TI TO .none) (hTI:IsPair s.heap TI (.ref i1) (.ref i2)) (hTO:IsPair s.heap TO a b) (h1:KIt k1 s.heap i1 l1 n1) (h2:KIt k2 s.heap i2 l2 n2) (hl1:KSq k1 s.heap l1 xs) (hl2:KSq k2 s.heap l2 ys) (hx:xs[n1]?=some x) (hy:ys[n2]?=some y)
  (hQ:∀h',IsZip h' z TI TO (rawInt s.heap.objs.size)→IsPair h' TO x y→KIt k1 h' i1 l1 (n1+1)→KIt k2 h' i2 l2 (n2+1)→IsPair h' s.heap.objs.size x y→h'.objs.size=s.heap.objs.size+1 →
   (∀c o,c≠z→c≠TO→c≠i1→c≠i2→s.heap.get? c=some o→h'.get? c=some o)→Q (some (.ref s.heap.objs.size)) { s with heap:=h' }):wpAny (model prog w) A (pyNext (.ref z)) Q E s:=by
 have hT:s.TypeIs (.ref z) "zip":=⟨_,hz,rfl⟩
 unfold pyNext
 exact wpAny_bind (wpAny_attempt (wpAny_callSpecial?_slot (name:=Str.ofString "__next__") hT F.slot_zip_next (wpAny_call_entry F.slot_zip_next hT F.entry_zip_next
  (BA D hz hTI hTO h1 h2 hl1 hl2 hx hy λh' a1 a2 a3 a4 a5 a6 a7=>wpAny_pure (hQ h' a1 a2 a3 a4 a5 a6 a7)) (F.args_zip_next_1 _))))
theorem wX{k1 k2:Bool}{z TI TO i1 i2 l1 l2:Addr}{n1 n2:Nat}{xs ys:Array Value}{a b:Value}{Q:Option Value→Shared→Prop}(hh:A.handled=none)(D:ZipApart z TI TO i1 i2 l1 l2)
  (hz:IsZip s.heap z TI TO .none) (hTI:IsPair s.heap TI (.ref i1) (.ref i2)) (hTO:IsPair s.heap TO a b) (h1:KIt k1 s.heap i1 l1 n1) (h2:KIt k2 s.heap i2 l2 n2) (hl1:KSq k1 s.heap l1 xs) (hl2:KSq k2 s.heap l2 ys) (pH:xs[n1]?=none∨ys[n2]?=none)
  (hQ:∀h',(∀c o,c≠z→c≠TO→c≠i1→c≠i2→s.heap.get? c=some o→h'.get? c=some o)→Q none { s with heap:=h' }):wpAny (model prog w) A (pyNext (.ref z)) Q E s:=by
 have hT:s.TypeIs (.ref z) "zip":=⟨_,hz,rfl⟩
 unfold pyNext
 refine wpAny_bind (wpAny_attempt (wpAny_callSpecial?_slot (name:=Str.ofString "__next__") hT F.slot_zip_next (wpAny_call_entry F.slot_zip_next hT F.entry_zip_next (DR hh D hz hTI hTO h1 h2 hl1 hl2 pH λh' e hk he=>?_) (F.args_zip_next_1 _))))
 obtain⟨o,ho,hc⟩:=he
 refine wpAny_bind (wpAny_isInstance (T:="StopIteration") (b:=true) ⟨o,ho,hc⟩ isSubtype_stop ?_);exact wpAny_pure (hQ _ hk)
end
def iM(k:Bool)(l:Addr):Obj:={ cls:=.type (if k then "list_iterator" else "tuple_iterator"),data:=.fields #[.ref l,.int 0 0] }
noncomputable abbrev zH2 (k1 k2 : Bool) (h : Heap) (l1 l2 : Addr) : Heap := (h.push (iM k1 l1)).push (iM k2 l2)
noncomputable abbrev zH4 (k1 k2 : Bool) (h : Heap) (l1 l2 : Addr) : Heap := ((zH2 k1 k2 h l1 l2).push { cls := .type "tuple", data := .seq #[.ref h.objs.size, .ref (h.push (iM k1 l1)).objs.size] }).push { cls := .type "tuple", data := .seq #[.none, .none] }
noncomputable abbrev zH5 (k1 k2 : Bool) (h : Heap) (l1 l2 : Addr) : Heap := (zH4 k1 k2 h l1 l2).push { cls := .type "zip", data := .fields #[.none, .bool false, .bool false, .ref (zH2 k1 k2 h l1 l2).objs.size, .ref ((zH2 k1 k2 h l1 l2).push { cls := .type "tuple", data := .seq #[.ref h.objs.size, .ref (h.push (iM k1 l1)).objs.size] }).objs.size] }
set_option maxHeartbeats 4000000 in
theorem GG(k1 k2:Bool)(l1 l2:Addr)(xs ys:Array Value) :
  Meets (Builtin.«zip.__new__» ⟨[.type "zip",.ref l1,.ref l2],[]⟩) (λ_ R s=>KSq k1 s.heap l1 xs∧KSq k2 s.heap l2 ys∧R (.ok (.ret (.ref (zH4 k1 k2 s.heap l1 l2).objs.size))) { s with heap:=zH5 k1 k2 s.heap l1 l2 }) :=
 .of_wp λprog w A R s h=>by
  obtain⟨hp,g,d,tk,os⟩:=s;obtain⟨hl1,hl2,h⟩:=h
  have ND:=sub_zip
  cases k1 with
  | true =>
   have hL1:Heap.IsList (Shared.heap ⟨hp,g,d,tk,os⟩) l1 xs:=hl1
   cases k2 with
   | true =>
    have hL2:Heap.IsList (Shared.heap ⟨hp.push { cls:=.type "list_iterator",data:=.fields #[.ref l1,.int 0 0] },g,d,tk,os⟩) l2 ys:=Heap.IsList.push hl2 _
    wp_walk using wpAny_pyIter_list hL1,wpAny_pyIter_list hL2
    exact⟨_,rfl,h⟩
   | false =>
    have hL2:Heap.IsTuple (Shared.heap ⟨hp.push { cls:=.type "list_iterator",data:=.fields #[.ref l1,.int 0 0] },g,d,tk,os⟩) l2 ys:=Heap.IsTuple.push hl2 _
    wp_walk using wpAny_pyIter_list hL1,wpAny_pyIter_tuple hL2
    exact⟨_,rfl,h⟩
  | false =>
   have hL1:Heap.IsTuple (Shared.heap ⟨hp,g,d,tk,os⟩) l1 xs:=hl1
   cases k2 with
   | true =>
    have hL2:Heap.IsList (Shared.heap ⟨hp.push { cls:=.type "tuple_iterator",data:=.fields #[.ref l1,.int 0 0] },g,d,tk,os⟩) l2 ys:=Heap.IsList.push hl2 _
    wp_walk using wpAny_pyIter_tuple hL1,wpAny_pyIter_list hL2
    exact⟨_,rfl,h⟩
   | false =>
    have hL2:Heap.IsTuple (Shared.heap ⟨hp.push { cls:=.type "tuple_iterator",data:=.fields #[.ref l1,.int 0 0] },g,d,tk,os⟩) l2 ys:=Heap.IsTuple.push hl2 _
    wp_walk using wpAny_pyIter_tuple hL1,wpAny_pyIter_tuple hL2
    exact⟨_,rfl,h⟩
theorem KIt.new{k:Bool}{h:Heap}{i l:Addr}(e:h.get? i=some (iM k l)):KIt k h i l 0:=by
 cases k with
 | true=>exact⟨_,e,rfl,rfl⟩
 | false=>exact⟨_,e,rfl,rfl⟩
section
variable{prog:Program}{w:World}{A:Around}{E:Value→Shared→Prop}{s:Shared}
theorem BB{k1 k2:Bool}{l1 l2:Addr}{xs ys:Array Value}{Q:Value→Shared→Prop}(hl1:KSq k1 s.heap l1 xs)(hl2:KSq k2 s.heap l2 ys)
  (h:∀h',IsZip h' (s.heap.objs.size+4) (s.heap.objs.size+2) (s.heap.objs.size+3) .none→IsPair h' (s.heap.objs.size+2) (.ref s.heap.objs.size) (.ref (s.heap.objs.size+1))→IsPair h' (s.heap.objs.size+3) .none .none →
   KIt k1 h' s.heap.objs.size l1 0→KIt k2 h' (s.heap.objs.size+1) l2 0→h'.objs.size=s.heap.objs.size+5→(∀c o,s.heap.get? c=some o→h'.get? c=some o)→Q (.ref (s.heap.objs.size+4)) { s with heap:=h' }) :
  wpAny (model prog w) A (call (.type "zip") [.ref l1,.ref l2]) Q E s:=by
 refine callType_new F.called_zip (by decide) (F.typeCall_zip_2 _ _) (F.newCall_zip_2 _ _) (λobj=>F.args_object_init_3 obj _ _) F.entry_zip_new (GG k1 k2 l1 l2 xs ys) ⟨hl1,hl2,?_⟩
 have z1:(s.heap.push (iM k1 l1)).objs.size=s.heap.objs.size+1:=Heap.size_push ..
 have z2:(zH2 k1 k2 s.heap l1 l2).objs.size=s.heap.objs.size+2:=by rw[Heap.size_push,z1]
 have z3:((zH2 k1 k2 s.heap l1 l2).push { cls:=.type "tuple",data:=.seq #[.ref s.heap.objs.size,.ref (s.heap.push (iM k1 l1)).objs.size] }).objs.size=s.heap.objs.size+3:=by rw[Heap.size_push,z2]
 have z4:(zH4 k1 k2 s.heap l1 l2).objs.size=s.heap.objs.size+4:=by rw[Heap.size_push,z3]
 have z5:(zH5 k1 k2 s.heap l1 l2).objs.size=s.heap.objs.size+5:=by rw[Heap.size_push,z4]
 have g5:(zH5 k1 k2 s.heap l1 l2).get? (zH4 k1 k2 s.heap l1 l2).objs.size=some _:=Heap.get?_push_size _ rfl
 have g4:(zH5 k1 k2 s.heap l1 l2).get? ((zH2 k1 k2 s.heap l1 l2).push { cls:=.type "tuple",data:=.seq #[.ref s.heap.objs.size,.ref (s.heap.push (iM k1 l1)).objs.size] }).objs.size=some _:=Heap.get?_push_of_some _ (Heap.get?_push_size _ rfl)
 have g3:(zH5 k1 k2 s.heap l1 l2).get? (zH2 k1 k2 s.heap l1 l2).objs.size=some _:=Heap.get?_push_of_some _ (Heap.get?_push_of_some _ (Heap.get?_push_size _ rfl))
 have g2:(zH5 k1 k2 s.heap l1 l2).get? (s.heap.push (iM k1 l1)).objs.size=some (iM k2 l2):=Heap.get?_push_of_some _ (Heap.get?_push_of_some _ (Heap.get?_push_of_some _ (Heap.get?_push_size _ rfl)))
 have g1:(zH5 k1 k2 s.heap l1 l2).get? s.heap.objs.size=some (iM k1 l1):=Heap.get?_push_of_some _ (Heap.get?_push_of_some _ (Heap.get?_push_of_some _ (Heap.get?_push_of_some _ (Heap.get?_push_size _ rfl))))
 show _∧_
 rw[z2,z3,z4] at g5;rw[z1,z2] at g3;rw[z3] at g4;rw[z1] at g2;rw[z4]
 exact⟨⟨_,g5,rfl⟩,h _ g5 g3 g4 (KIt.new g1) (KIt.new g2) z5 λc o q =>
  Heap.get?_push_of_some _ (Heap.get?_push_of_some _ (Heap.get?_push_of_some _ (Heap.get?_push_of_some _ (Heap.get?_push_of_some _ q))))⟩
end
def jP(K:PySem.W.Frag)(k:Bool)(H:Hp)(a:Addr)(xs:List V):Prop:=match k with
 | true=>SqL K H a xs
 | false=>SqT K H a xs
theorem Inv.ksq{X:Cx}{pins:List (Addr×Obj)}{σ:L2.St}{H:Hp}{s:Shared}{k:Bool}{a:Addr}{xs:List V}(I:Inv X pins σ H s)(h:jP X.K k H a xs):∃its:List Value,Vals xs its∧KSq k s.heap a its.toArray∧xs.length≤sizeLine:=by
 cases k with
 | true=>obtain⟨its,r,p,z⟩:=I.list h;exact⟨its,r,p.isList,z⟩
 | false=>obtain⟨its,r,p,z⟩:=I.tuple h;exact⟨its,r,p,z⟩
theorem Inv.vm{X:Cx}{pins:List (Addr×Obj)}{σ:L2.St}{H:Hp}{s:Shared}{k:Bool}{a:Addr}{xs ys:List V}(I:Inv X pins σ H s)(h:jP X.K k H a xs)(h':jP X.K k H a ys):xs=ys:=by
 cases k with
 | true=>exact I.wc h h'
 | false=>exact I.t6 h h'
def Itz(K:PySem.W.Frag)(k1 k2:Bool)(a b:Addr):It :=
 ⟨λi H=>∃xs ys x y,jP K k1 H a xs∧jP K k2 H b ys∧xs[i]?=some x∧ys[i]?=some y,
  λi H v H'=>∃p x y,v=.ref p∧H p=none∧H'=upd H p (.tup [x,y])∧(∀xs,jP K k1 H a xs→xs[i]?=some x)∧∀ys,jP K k2 H b ys→ys[i]?=some y,
  λi H=>∃xs ys,jP K k1 H a xs∧jP K k2 H b ys∧(xs.length≤i∨ys.length≤i)⟩
theorem jf{X:Cx}{pins:List (Addr×Obj)}{σ:L2.St}{H:Hp}{s:Shared}{k:Bool}{a c:Addr}{xs:List V}(I:Inv X pins σ H s)(h:jP X.K k H a xs)(hf:lA X pins H c):a≠c:=λe=>by
 subst e
 have key:∀o,X.K.lookup a=some o→False:=λo hk=>by
  have hb:=I.ok.mod.kin a o hk
  rcases hf.2.2.2.1 with z|z
  ·exact I.ok.AX a o hb z
  ·exact absurd (Nat.lt_of_lt_of_le (Heap.lt_size hb) (Nat.le_trans I.ok.bsz z)) (Nat.lt_irrefl _)
 cases k with
 | true =>
  rcases h with (h|⟨o,h⟩)|⟨o,its,n,hk,_⟩
  ·rw[hf.1] at h;cases h
  ·rw[hf.1] at h;cases h
  ·exact key o hk
 | false =>
  have h:H a=some (.tup xs):=h
  rw[hf.1] at h;cases h
section
variable{X:Cx}{pins:List (Addr×Obj)}{σ:L2.St}{H:Hp}{s:Shared}{h':Heap}{ch:List Addr}
theorem Ac{b:Addr}{u o:HO}{H':Hp}{tr:Addr}(I:Inv X pins σ H s)(k:∀b o,b∉ch→s.heap.get? b=some o→h'.get? b=some o)(hf:∀b∈ch,lA X pins H b)(e:H b=some u)
  (ho:∀c,H c=some (.own b)→H' c=some (.own b)) (ht:∀c xs,H c=some (.tup xs)→H' c=some (.tup xs)):eh X.prog X.w H' h' b u:=by
 refine (I.hok b u e).v_ (λc v hc q=>k c v (λz=>?_) q) ho ht
 have hn:=(hf c z).1
 rcases hc with rfl|hc
 ·rw[hn] at e;cases e
 ·rw[hn] at hc;cases hc
theorem Inv.vn{t':Nat}(I:Inv X pins σ H s)(k:∀b o,b∉ch→s.heap.get? b=some o→h'.get? b=some o)(hf:∀b∈ch,lA X pins H b):Inv X pins σ H { s with heap:=h',toks:=t' }:=by
 refine I.step (g':=s.gens) (d':=s.drawn) (ch:=ch) (λb hb=>⟨(hf b hb).2.2.2.1,(hf b hb).2.1,(hf b hb).2.2.2.2.1,(hf b hb).2.2.2.2.2⟩) (λb o _ _ hc e _=>k b o hc e) (λb o _ _ hc e _=>⟨o.slots,k b o hc e⟩) (λ_ _ _ _ n=>n)
  (λb o hc e=>⟨o,k b o hc e⟩) (λ_ _ e=>e) (λ_ _ _ e=>e) (λb ps e=>⟨#[],by rw[e];simp⟩) (λm hm=>?_) (λb u e=>Ac (o:=u) (tr:=b) I k hf e (λ_ q=>q) λ_ _ q=>q) I.bare
 obtain⟨o,es,ep,ho,r⟩:=hm
 exact⟨o,es,ep,k _ o (λz=>(hf _ z).2.1 rfl) ho,r⟩
theorem Inv.vo{o:HO}(I:Inv X pins σ H s)(k:∀b o,b∉ch→s.heap.get? b=some o→h'.get? b=some o)(hf:∀b∈ch,lA X pins H b)(new:eh X.prog X.w (upd H s.heap.objs.size o) h' s.heap.objs.size o) :
  Inv X pins σ (upd H s.heap.objs.size o) { s with heap:=h' }:=by
 have hn:H s.heap.objs.size=none:=I.hok.fresh (Nat.le_refl _)
 have ne:∀{b:Addr}{ob:Obj},s.heap.get? b=some ob→b≠s.heap.objs.size:=λe=>Nat.ne_of_lt (Heap.lt_size e)
 refine I.step (g':=s.gens) (d':=s.drawn) (t':=s.toks) (ch:=ch) (λb hb=>⟨(hf b hb).2.2.2.1,(hf b hb).2.1,(hf b hb).2.2.2.2.1,(hf b hb).2.2.2.2.2⟩) (λb o _ _ hc e _=>k b o hc e) (λb o _ _ hc e _=>⟨o.slots,k b o hc e⟩) (λb ob _ e n=>by rw[aO (ne e)];exact n)
  (λb o hc e=>⟨o,k b o hc e⟩) (λb xs q=>by rw[aO (dJ q hn)];exact q) (λb u xs q=>by rw[aO (dJ q hn)];exact q) (λb ps q=>⟨#[],by rw[aO (dJ q hn),q];simp⟩) (λm hm=>?_) (λb u e=>?_) I.bare
 ·obtain⟨o,es,ep,ho,r⟩:=hm
  exact⟨o,es,ep,k _ o (λz=>(hf _ z).2.1 rfl) ho,r⟩
 ·by_cases hb:b=s.heap.objs.size
  ·subst hb;rw[aL] at e;cases e;exact new
  ·rw[aO hb] at e
   exact Ac (o:=u) (tr:=b) I k hf e (λc q=>by rw[aO (dJ q hn)];exact q) λc xs q=>by rw[aO (dJ q hn)];exact q
end
structure ZSt(k1 k2:Bool)(z TI TO i1 i2 l1 l2:Addr)(i:Nat)(h:Heap):Prop where
 z:IsZip h z TI TO .none
 ti:IsPair h TI (.ref i1) (.ref i2)
 to:∃a b,IsPair h TO a b
 one:KIt k1 h i1 l1 i
 two:KIt k2 h i2 l2 i
theorem Ly{P:Addr→Prop}{a b c d e:Addr}(h1:P a)(h2:P b)(h3:P c)(h4:P d)(h5:P e):∀x∈[a,b,c,d,e],P x:=by
 simp[h1,h2,h3,h4,h5]
theorem Hv{a b c d e x:Addr}(h:x∈[a,c,d,e]):x∈[a,b,c,d,e]:=by
 simp at h ⊢
 rcases h with h|h|h|h<;>simp[h]
theorem Lz{a b c d x:Addr}(h:x∉[a,b,c,d]):x≠a∧x≠b∧x≠c∧x≠d:=by
 simpa using h
theorem DT {P : Program} {w : World} {K : PySem.W.Frag} {elts : List Expr} {x1 : Nat} {pos : Pos} {k1 k2 : Bool} {z TI TO i1 i2 l1 l2 : Addr} (d1 : TI ≠ TO) (d2 : i1 ≠ i2) :
    Turn P w K (.Tuple elts x1 pos) (Itz K k1 k2 l1 l2) [z, TI, TO, i1, i2] z (ZSt k1 k2 z TI TO i1 i2 l1 l2) := by
  have ap : ∀ {X : Cx} {pins : List (Addr × Obj)} {σ : L2.St} {H : Hp} {s : Shared} {i : Nat} {xs ys : List V}, X.K = K → Inv X pins σ H s → (∀ b ∈ [z, TI, TO, i1, i2], lA X pins H b) → ZSt k1 k2 z TI TO i1 i2 l1 l2 i s.heap → jP K k1 H l1 xs → jP K k2 H l2 ys → ZipApart z TI TO i1 i2 l1 l2 := by
    intro X pins σ H s i xs ys hK I hf st h1 h2
    subst hK
    obtain ⟨a, b, hto⟩ := st.to
    obtain ⟨o1, e1, q1⟩ := st.one.ob
    obtain ⟨o2, e2, q2⟩ := st.two.ob
    have neP : ∀ {c d : Addr} {o : Obj} {u v : Value} {vs : Array Value}, IsPair s.heap c u v → s.heap.get? d = some o → o.data = .fields vs → c ≠ d := fun {c d o u v vs} hp ho hd e => by
      subst e
      have hp : s.heap.get? c = some { cls := .type "tuple", data := .seq #[u, v] } := hp
      rw [hp] at ho; cases ho; cases hd
    have neZ : ∀ {d : Addr} {l : Addr} {o : Obj} {n : Nat}, s.heap.get? d = some o → o.data = .fields #[.ref l, .int n 0] → d ≠ z := fun {d l o n} ho hd e => by
      subst e
      have hz : s.heap.get? d = some _ := st.z
      rw [hz] at ho; cases ho
      have : (#[Value.none, .bool false, .bool false, .ref TI, .ref TO] : Array Value) = #[.ref l, .int n 0] := by injection hd
      exact absurd (congrArg Array.size this) (by simp)
    have w : ∀ c ∈ [z, TI, TO, i1, i2], l1 ≠ c ∧ l2 ≠ c := fun c hc => ⟨jf I h1 (hf c hc), jf I h2 (hf c hc)⟩
    exact { TIz := neP st.ti st.z rfl, TOz := neP hto st.z rfl, i1z := neZ e1 q1, i2z := neZ e2 q2, TITO := d1, TIi1 := neP st.ti e1 q1, TIi2 := neP st.ti e2 q2, TOi1 := neP hto e1 q1, TOi2 := neP hto e2 q2, i12 := d2,
            l1z := (w z (.head _)).1, l1TO := (w TO (.tail _ (.tail _ (.head _)))).1, l1i1 := (w i1 (.tail _ (.tail _ (.tail _ (.head _))))).1, l1i2 := (w i2 (.tail _ (.tail _ (.tail _ (.tail _ (.head _)))))).1, l2z := (w z (.head _)).2, l2TO := (w TO (.tail _ (.tail _ (.head _)))).2, l2i1 := (w i1 (.tail _ (.tail _ (.tail _ (.head _))))).2, l2i2 := (w i2 (.tail _ (.tail _ (.tail _ (.tail _ (.head _)))))).2 }
  refine ⟨by simp, fun i h st => ?_, fun i h h' st k => ?_, ?_, ?_, fun A i s Q E st hq => wpAny_pyIter_zip st.z hq⟩
  · obtain ⟨a, b', hto⟩ := st.to
    obtain ⟨o1, e1, q1⟩ := st.one.ob
    obtain ⟨o2, e2, q2⟩ := st.two.ob
    exact Ly ⟨_, st.z, fun v e => by cases e⟩ ⟨_, st.ti, fun v e => by cases e⟩ ⟨_, hto, fun v e => by cases e⟩ ⟨_, e1, fun v e => by rw [q1] at e; cases e⟩ ⟨_, e2, fun v e => by rw [q2] at e; cases e⟩
  · obtain ⟨a, b', hto⟩ := st.to
    exact ⟨k z (.head _) _ st.z, k TI (.tail _ (.head _)) _ st.ti, ⟨a, b', k TO (.tail _ (.tail _ (.head _))) _ hto⟩, st.one.at fun o e => k i1 (.tail _ (.tail _ (.tail _ (.head _)))) o e, st.two.at fun o e => k i2 (.tail _ (.tail _ (.tail _ (.tail _ (.head _))))) o e⟩
  · intro X hP hw hK hc i pins s σ H E I hf st hg
    obtain ⟨xs, ys, x, y, h1, h2, hx, hy⟩ := hg
    have D := ap hK I hf st h1 h2
    subst hP hw hK
    obtain ⟨sS, r1, s1, z1⟩ := I.ksq h1
    obtain ⟨nW, r2, s2, z2⟩ := I.ksq h2
    obtain ⟨u, hu, ru⟩ := r1.get hx
    obtain ⟨v, hv, rv⟩ := r2.get hy
    obtain ⟨a, b', hto⟩ := st.to
    refine vk D st.z st.ti hto st.one st.two s1 s2 (x := u) (y := v) (by simpa using hu) (by simpa using hv) fun h' g1 g2 g3 g4 g5 g6 g7 => ⟨_, rfl, ?_⟩
    refine wpAny_letOwnedTupleGo_zip g1 fun h'' q1 q2 => ?_
    have lt : ∀ {c : Addr} {o : Obj}, s.heap.get? c = some o → c ≠ s.heap.objs.size := fun e => Nat.ne_of_lt (Heap.lt_size e)
    have hTz : s.heap.objs.size ≠ z := (lt st.z).symm
    obtain ⟨o1, e1, _⟩ := st.one.ob
    obtain ⟨o2, e2, _⟩ := st.two.ob
    have new : IsPair h'' s.heap.objs.size u v := q2.extBut _ _ hTz g5
    refine ⟨.ref s.heap.objs.size, upd H s.heap.objs.size (.tup [x, y]), ?_, rfl, ⟨s.heap.objs.size, x, y, rfl, I.hok.fresh (Nat.le_refl _), rfl, fun ws hw => by rw [I.vm hw h1]; exact hx, fun ws hw => by rw [I.vm hw h2]; exact hy⟩, ?_, fun c hcm => ?_⟩
    · refine I.vo (ch := [z, TO, i1, i2]) (fun c o hcn e => ?_) (fun c hcm => hf c (Hv hcm)) ?_
      · have hcn := Lz hcn
        exact q2.extBut _ _ hcn.1 (g7 c o hcn.1 hcn.2.1 hcn.2.2.1 hcn.2.2.2 e)
      · exact ⟨by show 2 ≤ sizeLine; decide, [u, v], .cons ru (.cons rv .nil), ⟨_, new, rfl, 0, rfl⟩⟩
    · exact ⟨q1, q2.extBut _ _ D.TIz (g7 TI _ D.TIz D.TITO D.TIi1 D.TIi2 st.ti), ⟨_, _, q2.extBut _ _ D.TOz g2⟩, g3.at fun o e => q2.extBut _ _ D.i1z e, g4.at fun o e => q2.extBut _ _ D.i2z e⟩
    · rw [aO]
      · exact (hf c hcm).1
      · exact Ly (P := fun c => c ≠ s.heap.objs.size) (lt st.z) (lt st.ti) (lt hto) (lt e1) (lt e2) c hcm
  · intro X hP hw hK hc i pins s σ H E I hf st hg
    obtain ⟨xs, ys, h1, h2, hle⟩ := hg
    have D := ap hK I hf st h1 h2
    subst hP hw hK
    obtain ⟨sS, r1, s1, z1⟩ := I.ksq h1
    obtain ⟨nW, r2, s2, z2⟩ := I.ksq h2
    obtain ⟨a, b', hto⟩ := st.to
    have l1' := r1.length
    have l2' := r2.length
    refine wX (I.ok.hd hc) D st.z st.ti hto st.one st.two s1 s2 (by
      rcases hle with q | q
      · exact .inl (by simp; lia)
      · exact .inr (by simp; lia)) fun h' g7 => ⟨rfl, I.vn (t' := s.toks) (ch := [z, TO, i1, i2]) (fun c o hcn e => ?_) fun c hcm => hf c (Hv hcm)⟩
    have hcn := Lz hcn
    exact g7 c o hcn.1 hcn.2.1 hcn.2.2.1 hcn.2.2.2 e
def LA(K:PySem.W.Frag)(t:TA):TI:=λσ H R=>t σ H λvs H1=>∃a b k1 k2 xs ys,vs=[.ref a,.ref b]∧jP K k1 H1 a xs∧jP K k2 H1 b ys∧R (Itz K k1 k2 a b) H1
theorem Jz{X:Cx}{elts:List Expr}{x1:Nat}{iN p pos:Pos}{a b:Expr}{t:TA}(hg:Gl X "zip")(hm:X.mg "zip"=none)(ha:PA X [a,b] t)(he:starEach [a,b] X.env=(false,eval a X.env)::starEach [b] X.env)(hpl:(backTo pos (starEach [b] X.env)).any (·.1)=false) :
  PI X (.Tuple elts x1 iN) (.Call (.Name "zip" p) [a,b] [] pos) (LA X.K t):=by
 intro pins s σ H R I h
 refine wpAny_Call_Name_kw (qw I hg hm PyProof.Rows.boot_zip ?_ (by decide) (by decide))
 refine PyProof.Rows.callWith_type1 (thn (ha pos pins s σ H _ I h) λus s1 aq=>?_) he hpl
 obtain⟨vs,H1,I1,r1,q1⟩:=aq
 obtain⟨c,d,k1,k2,xs,ys,rfl,h1,h2,q⟩:=q1
 obtain⟨u1,u2,rfl,ru1,ru2⟩:=vals2 r1
 cases ru1
 cases ru2
 obtain⟨sS,_,s1',_⟩:=I1.ksq h1
 obtain⟨nW,_,s2',_⟩:=I1.ksq h2
 refine BB s1' s2' λh' g1 g2 g3 g4 g5 g6 g7=>wpAny_pyIter_zip g1 ?_
 have I2:Inv X pins σ H1 { s1 with heap:=h' }:=I1.kept (t':=s1.toks) g7
 refine⟨_,_,_,_,H1,rfl,I2,DT (k1:=k1) (k2:=k2) (TI:=s1.heap.objs.size+2) (TO:=s1.heap.objs.size+3) (i1:=s1.heap.objs.size) (i2:=s1.heap.objs.size+1) (l1:=c) (l2:=d) (λe=>by have e:s1.heap.objs.size+2=s1.heap.objs.size+3:=e;lia) (λe=>by have e:s1.heap.objs.size=s1.heap.objs.size+1:=e;lia),⟨g1,g2,⟨_,_,g3⟩,g4,g5⟩,λe he=>?_,q⟩
 have:s1.heap.objs.size≤e:=by
  simp only[List.mem_cons,List.not_mem_nil,or_false] at he
  rcases he with rfl|rfl|rfl|rfl|rfl
  ·exact Nat.le_add_right _ _
  ·exact Nat.le_add_right _ _
  ·exact Nat.le_add_right _ _
  ·exact Nat.le_refl _
  ·exact Nat.le_add_right _ _
 exact I1.xN this (I1.hok.fresh this)
end L2
namespace Fw
open PySem PySem.Spec PyProof.Rows L2
theorem wY:∀{ts us:List T}{i:Nat}{t:T},(g_ ts us)[i]?=some t→∃a b,ts[i]?=some a∧us[i]?=some b∧t=.tup [a,b]
 | [],us,i,t,h=>by simp[g_] at h
 | a::ts,[],i,t,h=>by simp[g_] at h
 | a::ts,b::us,0,t,h=>by simp[g_] at h;exact⟨a,b,rfl,rfl,h.symm⟩
 | a::ts,b::us,i+1,t,h=>by
  obtain⟨c,d,h1,h2,h3⟩:=wY (ts:=ts) (us:=us) (i:=i) (t:=t) (by simpa [g_] using h)
  exact⟨c,d,by simpa using h1,by simpa using h2,h3⟩
theorem kJ{K:PySem.W.Frag}{F H:Hp}{v:V}{t:T}{ts:List T}(s:aU F H)(h:Now K F H v t)(e:bg t=some ts):∃a vs k,v=.ref a∧jP K k H a vs∧aG K F ts vs∧(k=true↔∃l,t=.lst l):=by
 cases t with
 | lst us=>cases e;obtain⟨a,vs,rfl,q,r⟩:=h.lS;exact⟨a,vs,true,rfl,q,r,by simp⟩
 | tup us=>cases e;obtain⟨a,vs,rfl,q,r⟩:=h.ve;exact⟨a,vs,false,rfl,aU.lu s q,r,by simp⟩
 | _=>cases e
theorem pL{X:Cx}{elts:List Expr}{x1:Nat}{iN p pos:Pos}{a b:Expr}{da db:D}(hm:X.mg "zip"=none)(ha:CE X a da)(hb:CE X b db)(hg:Gl X "zip":=by rfl)(hs:starEach [a,b] X.env=(false,eval a X.env)::starEach [b] X.env:=by rfl)(hs2:starEach [b] X.env=(false,eval b X.env)::starEach [] X.env:=by rfl)(hpl:(backTo pos (starEach [b] X.env)).any (·.1)=false:=by rfl) :
  CI X (.Tuple elts x1 iN) (.Call (.Name "zip" p) [a,b] [] pos) (pE da db) :=
 PI.imp (Jz hg hm (ag ha (ag hb ar hs2) hs) hs hpl) λσ H R0 aq=>by
  obtain⟨F,α,e,μ,S,h⟩:=aq
  refine Lm ⟨F,α,e,μ,S,(R.wp_bind h).mono (λx μ1 h=>(R.wp_bind h).mono (λy μ2 h v u H1 F1 α1 x1 S1 o1 o2=>?_) λ_ _ h=>h) λ_ _ h=>h⟩
  obtain⟨ts,ht,h⟩:=R.bK (R.wp_bind h)
  obtain⟨us,hu,post⟩:=R.bK (R.wp_bind h)
  obtain⟨t,hr,ht⟩:=Option.bind_eq_some_iff.mp ht
  obtain⟨t2,hr2,hu⟩:=Option.bind_eq_some_iff.mp hu
  obtain⟨a1,vs1,k1,rfl,q1,r1,m1⟩:=kJ S1.st.ext (bo S1.st o1 hr) ht
  obtain⟨a2,vs2,k2,rfl,q2,r2,m2⟩:=kJ S1.st.ext (bo S1.st o2 hr2) hu
  refine⟨a1,a2,k1,k2,vs1,vs2,rfl,q1,q2,post _ H1 F1 α1 x1 S1 λF2 α2 μ3 H2 s2 p2 S2 same=>?_⟩
  obtain⟨e1,e2⟩:=(show rd μ3 x=rd μ2 x∧rd μ3 y=rd μ2 y from same)
  obtain⟨b1,ws1,j1,g1,n1,l1,m1'⟩:=kJ S2.ext (bo S2 (o1.mono s2 p2) (e1.trans hr)) ht
  obtain⟨b2,ws2,j2,g2,n2,l2,m2'⟩:=kJ S2.ext (bo S2 (o2.mono s2 p2) (e2.trans hr2)) hu
  cases g1
  cases g2
  have ej1:j1=k1:=by rw[Bool.eq_iff_iff,m1,m1']
  have ej2:j2=k2:=by rw[Bool.eq_iff_iff,m2,m2']
  subst ej1
  subst ej2
  refine⟨λi t hi=>?_,?_⟩
  ·obtain⟨c,d,hc,hd,rfl⟩:=wY hi
   obtain⟨v1,hv1,rv1⟩:=l1.get hc
   obtain⟨v2,hv2,rv2⟩:=l2.get hd
   refine⟨⟨ws1,ws2,v1,v2,n1,n2,hv1,hv2⟩,?_⟩
   rintro z H3 ⟨q,z1,z2,rfl,hq,rfl,f1,f2⟩
   have w1:=f1 ws1 n1
   have w2:=f2 ws2 n2
   rw[hv1] at w1
   rw[hv2] at w2
   cases w1
   cases w2
   have g:bI F2 H2 (upd F2 q (.tup [v1,v2])) (upd H2 q (.tup [v1,v2])):=bI.new hq
   refine⟨_,g,?_⟩
   rw[Rep]
   exact⟨q,_,rfl,SqT.of aL,aG.mono (g.same S2.ext) _ _ (.gm rv1 (.gm rv2 .lL))⟩
  ·refine⟨ws1,ws2,n1,n2,?_⟩
   have:=l1.length
   have:=l2.length
   show ws1.length≤(g_ ts us).length∨ws2.length≤(g_ ts us).length
   rw[lP]
   lia
def tDO(X:Cx)(o:Option D):TO:=λσ H Q=>∃F α e μ,Sim X.K F α e μ σ H∧(yh o e μ).wp (λi μ'=>∀H' F' α',Ex F α H F' α' H'→Sim X.K F' α' e μ' σ H'→Q i H') (hJ X F α H e)
def CO(X:Cx)(e:Option Expr)(o:Option D):Prop:=PO X e (tDO X o)
theorem PO.imp{X:Cx}{e:Option Expr}{t t':TO}(h:PO X e t)(i:∀σ H Q,t' σ H Q→t σ H Q):PO X e t':=λpins s σ H Q I q=>h pins s σ H Q I (i σ H Q q)
section
variable{X:Cx}{a b:Expr}{da db:D}{pos p2:Pos}
theorem Ad:CO X none none:=PO.imp Fj λσ H Q ⟨F,α,e,μ,S,h⟩=>h H F α Ex.refl S
theorem Ae(h:CE X a da):CO X (some a) (some da):=PO.imp (Fl h) λσ H Q aq=>by
 obtain⟨F,α,e,μ,S,h⟩:=aq
 refine⟨F,α,e,μ,S,(R.wp_bind h).mono (λx μ1 h v H1 F1 α1 x1 S1 o1=>?_) λ_ _ h=>h⟩
 obtain⟨i,hi,h⟩:=R.bK (R.wp_bind h)
 obtain⟨t,hr,ht⟩:=Option.bind_eq_some_iff.mp hi
 cases wJ ht
 cases (bo S1.st o1 hr).int
 exact⟨i,rfl,h H1 F1 α1 x1 S1⟩
theorem aG.cut{K:PySem.W.Frag}{F:Hp}{ts:List T}{vs:List V}(h:aG K F ts vs)(lo hi:Option Int):aG K F (yf ts lo hi) (we vs lo hi):=by
 have e:∀d o,Fw.sIx ts.length d o=HT.sIx vs.length d o:=λd o=>by rw[h.length];cases o<;>rfl
 unfold yf we
 rw[e,e,h.length]
 exact (h.drop _).take _
theorem DU{lo hi:Option Expr}{dl dh:Option D}(ha:CE X a da)(hl:CO X lo dl)(hh:CO X hi dh):CE X (.Subscript a (.Slice lo hi none p2) pos) (yi da dl dh) :=
 PE.imp (CU (Fo.or IE) ha hl hh) λσ H Q aq=>by
  obtain⟨F,α,e,μ,S,h⟩:=aq
  refine⟨F,α,e,μ,S,(R.wp_bind h).mono (λx μ1 h v H1 F1 α1 x1 S1 o1=>⟨F1,α1,e,μ1,S1,?_⟩) λ_ _ h=>h⟩
  refine (R.wp_bind h).mono (λl μ2 h H2 F2 α2 x2 S2=>⟨F2,α2,e,μ2,S2,?_⟩) λ_ _ h=>h.mono x1
  refine (R.wp_bind h).mono (λr μ3 h H3 F3 α3 x3 S3=>?_) λ_ _ h=>h.mono (x1.trans x2)
  obtain⟨w,h9,post⟩:=R.bK h
  obtain⟨t,w',ht,h,rfl⟩:=mY h9
  have nt:=bo S3.st (o1.mono (x2.trans x3).same (x2.trans x3).pre) ht
  have fin:∀v' H' F',bI F3 H3 F' H'→Rep X.K F' w' v'→Q v' H':=λv' H' F' g rp=>post v' H' F' α3 (x1.trans (x2.trans (x3.trans (g.ex S3.st.ext)))) (S3.grow g) rp
  cases t with
  | lst ts =>
   cases h
   obtain⟨c,vs,rfl,hq,hl⟩:=nt.lS
   exact .inl ⟨c,vs,rfl,hq,λq hq'=>Ab S3.st.ext hq' (hl.cut l r) fin⟩
  | tup ts =>
   have h:(if Fw.sIx ts.length 0 l=0∧Fw.sIx ts.length ts.length r=ts.length then none else some (T.tup (yf ts l r)))=some w':=h
   by_cases hc:Fw.sIx ts.length 0 l=0∧Fw.sIx ts.length ts.length r=ts.length
   ·rw[if_pos hc] at h;cases h
   ·rw[if_neg hc] at h
    cases h
    obtain⟨c,vs,rfl,hq,hl⟩:=nt.ve
    refine .inr ⟨c,vs,rfl,aU.lu S3.st.ext hq,?_,λq hq'=>vg S3.st.ext hq' (hl.cut l r) fin⟩
    have e:∀d o,HT.sIx vs.length d o=Fw.sIx ts.length d o:=λd o=>by rw[hl.length];cases o<;>rfl
    rw[e,e,← hl.length]
    exact hc
  | _=>cases h
end
section
variable{X:Cx}{a b c:Expr}{da db dc:D}{pos p p2:Pos}
theorem fY(i:Nat){y:Str}{py iN:Pos}{ik ev:Expr}{dk dv:D}(hk:CE X ik dk)(hv:CE X ev dv)(hN:X.N[i]?=some y:=by rfl)
  (hvs:Vis X.env.scope y:=by first|exact Or.inl rfl|exact Or.inr (Or.inl rfl)|exact Or.inr (Or.inr rfl)) (hd:(y==("__debug__":Str))=false:=by decide) (hcd:(y==("__classdict__":Str))=false:=by decide)
  (ha:∀v,assign (.Subscript (.Name y py) ik iN) X.env v=(do
   let ov ← holding [v] (eval (.Name y py) X.env)
   let iv ← holding [v,ov] (eval ik X.env)
   standAt iN
   holding [v,ov,iv] (setItem ov iv v)
   release [v,ov,iv] []):=by intro _;rfl)
  (hs:swapsWithSole [.Subscript (.Name y py) ik iN] ev pos.line X.env=pure false:=by rfl) (hw:swappedStores [.Subscript (.Name y py) ik iN] ev X.env=pure none:=by rfl)
  (h1:(assignEach [.Subscript (.Name y py) ik iN] X.env).map (·.2)=[assign (.Subscript (.Name y py) ik iN) X.env]:=by rfl) :
  CS X (.Assign [.Subscript (.Name y py) ik iN] ev pos) (bG i dk dv) :=
 PS.imp (Cz hv (Ig (xM hN hvs hd hcd) hk set_list ha) hs hw h1) λD σ H aq=>by
  obtain⟨F,α,e,μ,S,h⟩:=aq
  refine⟨F,α,e,μ,S,(bh.toS h).mono (λy μ1 h v H1 F1 α1 x1 S1 o1=>?_) λ_ _ h=>h⟩
  obtain⟨x,hx,h⟩:=bh.lift h
  obtain⟨ov,hov,oo⟩:=S1.sl i x hx
  refine⟨ov,hov,F1,α1,e,μ1,S1,(bh.toS h).mono (λz μ2 h v2 H2 F2 α2 x2 S2 o2=>?_) λ_ _ h=>h.mono x1⟩
  obtain⟨k,hk,h⟩:=bh.lift h
  have h:=h.toS
  have nk:=bo S2.st o2 hk
  cases hz:frz y μ2 with
  | err c μ3=>exact absurd hz (uW y μ2 c μ3)
  | bad=>rw[hz] at h;exact h.elim
  | ok t μ3 =>
   rw[hz] at h
   obtain⟨μ4,ha4,h⟩:=bh.lift h
   obtain⟨F3,s3,n3,S3,r3⟩:=pG S2.st (o1.mono x2.same x2.pre) hz
   cases x with
   | cel j =>
    obtain⟨ad,had,rfl⟩:=oo
    cases k with
    | int ki =>
     cases nk.int
     unfold setAt at ha4
     simp only at ha4
     have hc:∃us jj,μ3[j]?=some (true,.lst us)∧Fw.ixN us.length ki=some jj∧μ4=μ3.set j (true,.lst (us.set jj t)):=by
      split at ha4
      ·rename_i us hjs
       obtain⟨jj,e1,e2⟩:=Option.map_eq_some_iff.mp ha4
       exact⟨us,jj,hjs,e1,e2.symm⟩
      ·cases ha4
     obtain⟨us,jj,hj3,hjj,rfl⟩:=hc
     have ha3:α2[j]?=some ad:=kx x2.pre had
     obtain⟨_,ws,hw,rw'⟩:=(S3.cell j true _ ad hj3 ha3).1 rfl
     have el:=rw'.length
     refine⟨ad,ws,ki,jj,rfl,rfl,hw,by rw[← el];exact hjj,?_⟩
     have x3:Ex F α H F3 α2 H2:=x1.trans (x2.trans (Ex.qU s3 n3))
     exact h σ _ F3 α2 (x3.trans (Ex.put ha3)) ((S2.of s3 (List.prefix_refl _) S3).of (aU.refl _) (List.prefix_refl _) (u6 S3 hj3 ha3 ⟨_,aL,rw'.set jj r3⟩))
    | _=>unfold setAt at ha4;cases ha4
   | val t=>cases k<;>(unfold setAt at ha4;cases ha4)
   | box xs=>cases k<;>(unfold setAt at ha4;cases ha4)
theorem Af{K:PySem.W.Frag}{F H:Hp}{v:V}{t:T}(h:Now K F H v t):decide (v=.non)=(match t with|.non=>true|_=>false):=by
 cases t with
 | non=>have e:v=.non:=Rep.ku (K:=K) (F:=F) h;subst e;rfl
 | bl b=>have e:=h.bl;subst e;rfl
 | int b=>have e:=h.int;subst e;rfl
 | str b=>have e:=h.str;subst e;rfl
 | lst ts=>obtain⟨a,vs,rfl,_⟩:=h.lS;rfl
 | tup ts=>obtain⟨a,vs,rfl,_⟩:=h.ve;rfl
 | dct ts=>obtain⟨a,vs,rfl,_⟩:=h;rfl
 | exc c n=>have h:Rep K F (.exc c n) v:=h;rw[Rep] at h;obtain⟨a,rfl,_⟩:=h;rfl
 | dtt fz ts=>obtain⟨a,rfl,_⟩:=h;rfl
def LB:T→T→Option T:=λt u=>match u with
 | .non=>j3 t
 | _=>none
def Hw:T→T→Option T:=λt u=>match u with
 | .non=>gk t
 | _=>none
theorem Ag{K:PySem.W.Frag}:gd K (λx y H Q=>y=.non∧Q (.bl (decide (x=.non))) H) LB:=by
 intro F H v u t t' w Q s hv hu hw q
 cases t' with
 | non =>
  refine⟨Rep.ku (K:=K) (F:=F) hu,?_⟩
  rw[Af hv]
  refine q _ H F bI.refl ?_
  cases t<;>(cases hw;exact Rep.bl' _)
 | _=>cases hw
theorem DV{K:PySem.W.Frag}:gd K (λx y H Q=>y=.non∧Q (.bl (!decide (x=.non))) H) Hw:=by
 intro F H v u t t' w Q s hv hu hw q
 cases t' with
 | non =>
  refine⟨Rep.ku (K:=K) (F:=F) hu,?_⟩
  rw[Af hv]
  refine q _ H F bI.refl ?_
  cases t<;>(cases hw;exact Rep.bl' _)
 | _=>cases hw
theorem Ah:aj LB da (dC .non)=dUn j3 da:=by
 funext e μ
 rw[iO,qG]
 cases da e μ with
 | ok x μ1=>rw[R.aP,R.aP,p5,R.aP];cases rd μ1 x<;>rfl
 | err c μ1=>rfl
 | bad=>rfl
theorem DW:aj Hw da (dC .non)=dUn gk da:=by
 funext e μ
 rw[iO,qG]
 cases da e μ with
 | ok x μ1=>rw[R.aP,R.aP,p5,R.aP];cases rd μ1 x<;>rfl
 | err c μ1=>rfl
 | bad=>rfl
theorem JA{j}(ha:CE X a da):CE X (.Compare a [.Is] [.Constant .none j p] pos) (dUn j3 da):=Ah ▸ ym CK Ag (lB _) ha pI
theorem JB{j}(ha:CE X a da):CT X (.Compare a [.Is] [.Constant .none j p] pos) (dUn j3 da):=Ah ▸ ng CK Ag (lB _) ha pI
theorem pM{j}(ha:CE X a da):CT X (.Compare a [.IsNot] [.Constant .none j p] pos) (dUn gk da):=DW ▸ ng Fd DV (lB _) ha pI
end
section
variable{K:PySem.W.Frag}{F:Hp}
theorem bx.lL:bx K F [] []:=by rw[bx]
theorem bx.gm{k:Key}{t:T}{v:V}{kts:List (Key×T)}{kvs:List (Key×V)}(q:Rep K F t v)(r:bx K F kts kvs):bx K F ((k,t)::kts) ((k,v)::kvs):=by rw[bx];exact⟨v,kvs,rfl,q,r⟩
theorem DX{p:Key×T}{r:List (Key×T)}{k:Key}(e:p.1=k):kE (p::r) k=some p.2:=by simp[kE,List.find?_cons,e]
theorem DY{p:Key×T}{r:List (Key×T)}{k:Key}(e:¬ p.1=k):kE (p::r) k=kE r k:=by simp[kE,List.find?_cons,e]
theorem bx.val:∀{kts:List (Key×T)}{kvs:List (Key×V)} (k:Key),bx K F kts kvs→(kE kts k=none∧mW kvs k=none)∨∃t v,kE kts k=some t∧mW kvs k=some v∧Rep K F t v
 | [],kvs,k,h=>by rw[bx] at h;subst h;exact .inl ⟨rfl,rfl⟩
 | (k0,t)::kts,kvs,k,h=>by
  rw[bx] at h
  obtain⟨v,pF,rfl,q,r⟩:=h
  by_cases e:k0=k
  ·exact .inr ⟨t,v,DX (p:=(k0,t)) e,nX (p:=(k0,v)) e,q⟩
  ·rw[DY (p:=(k0,t)) e,nY (p:=(k0,v)) e]
   exact bx.val k r
theorem bx.any:∀{kts:List (Key×T)}{kvs:List (Key×V)} (k:Key),bx K F kts kvs→(kts.any λkv=>decide (kv.1=k))=(kvs.any λkv=>decide (kv.1=k))
 | [],kvs,k,h=>by rw[bx] at h;subst h;rfl
 | (k0,t)::kts,kvs,k,h=>by
  rw[bx] at h
  obtain⟨v,pF,rfl,q,r⟩:=h
  rw[List.any_cons,List.any_cons,bx.any k r]
theorem bx.xZ{t':T}{v':V}(q':Rep K F t' v')(k:Key):∀{kts:List (Key×T)}{kvs:List (Key×V)},bx K F kts kvs→bx K F (kts.map λkv=>if kv.1=k then (kv.1,t') else kv) (kvs.map λkv=>if kv.1=k then (kv.1,v') else kv)
 | [],kvs,h=>by rw[bx] at h;subst h;exact .lL
 | (k0,t)::kts,kvs,h=>by
  rw[bx] at h
  obtain⟨v,pF,rfl,q,r⟩:=h
  rw[List.map_cons,List.map_cons]
  by_cases e:k0=k
  ·simp only[e,if_true]
   exact .gm q' (bx.xZ q' k r)
  ·simp only[e,if_false]
   exact .gm q (bx.xZ q' k r)
theorem bx.append:∀{kts uts:List (Key×T)}{kvs uvs:List (Key×V)},bx K F kts kvs→bx K F uts uvs→bx K F (kts++uts) (kvs++uvs)
 | [],uts,kvs,uvs,h,g=>by rw[bx] at h;subst h;exact g
 | (k0,t)::kts,uts,kvs,uvs,h,g=>by
  rw[bx] at h
  obtain⟨v,pF,rfl,q,r⟩:=h
  exact .gm q (r.append g)
theorem bx.put{kts:List (Key×T)}{kvs:List (Key×V)}{t:T}{v:V}(h:bx K F kts kvs)(k:Key)(q:Rep K F t v):bx K F (vb kts k t) (putK kvs k v):=by
 unfold vb putK
 rw[h.any k]
 by_cases e:(kvs.any λkv=>decide (kv.1=k))=true
 ·rw[if_pos e,if_pos e];exact bx.xZ q k h
 ·rw[if_neg e,if_neg e];exact h.append (.gm q .lL)
theorem vp{H:Hp}{v:V}{t:T}{k:Key}(h:Now K F H v t)(e:oA t=some k):v=kV k:=by
 cases t with
 | int i=>cases e;exact h.int
 | str x=>cases e;exact h.str
 | _=>cases e
end
section
variable{X:Cx}{a b c:Expr}{da db dc:D}{pos p p2:Pos}{k:Nat}
theorem rz(hr:dQ k X.A):X.A.units+1<cLine:=by have:=hr.units;omega
theorem BC(σ:L2.St)(H:Hp)(Q:VK)(h:tD X (aj rg da db) σ H Q):Ho (tD X da) (tD X db) σ H Q:=by
 obtain⟨F,α,e,μ,S,h⟩:=h
 refine⟨F,α,e,μ,S,?_⟩
 refine (R.wp_bind h).mono (λx μ1 h v H1 F1 α1 x1 S1 o1=>⟨F1,α1,e,μ1,S1,?_⟩) λ_ _ h=>h
 refine (R.wp_bind h).mono (λy μ2 h v2 H2 F2 α2 x2 S2 o2=>?_) λ_ _ h=>h.mono x1
 obtain⟨w,h9,post⟩:=R.bK h
 obtain⟨t,u,w',ht,hu,h,rfl⟩:=qF h9
 have n1:=bo S2.st (o1.mono x2.same x2.pre) ht
 have n2:=bo S2.st o2 hu
 cases t with
 | dct kts =>
  obtain⟨kk,hk,h⟩:=Option.bind_eq_some_iff.mp (show (oA u).bind (λk=>kE kts k)=some w' from h)
  obtain⟨ad,kvs,rfl,hq,rd⟩:=n1
  have ek:=vp n2 hk
  subst ek
  rcases rd.val kk with ⟨g1,_⟩|⟨t,v,g1,g2,g3⟩
  ·rw[g1] at h;cases h
  ·rw[g1] at h
   cases h
   exact⟨ad,v,rfl,by rw[← g2];exact uV.k hq,post v H2 F2 α2 (x1.trans x2) S2 g3⟩
 | _=>cases u<;>cases h
theorem GH(hr:dQ k X.A)(ha:CE X a da)(hb:CE X b db)(hs:IT b:=by intro _ _;rfl):CE X (.Subscript a b pos) (aj rg da db):=PE.imp (Fv (rz hr) ha hb hs) BC
theorem BE(σ:L2.St)(H:Hp)(Q:VK)(h:tD X (aj uw da db) σ H Q):zN (tD X da) (tD X db) σ H Q:=by
 obtain⟨F,α,e,μ,S,h⟩:=h
 refine⟨F,α,e,μ,S,?_⟩
 refine (R.wp_bind h).mono (λx μ1 h v H1 F1 α1 x1 S1 o1=>⟨F1,α1,e,μ1,S1,?_⟩) λ_ _ h=>h
 refine (R.wp_bind h).mono (λy μ2 h v2 H2 F2 α2 x2 S2 o2=>?_) λ_ _ h=>h.mono x1
 obtain⟨w,h9,post⟩:=R.bK h
 obtain⟨u,t,w',hu,ht,h,rfl⟩:=qF h9
 have n1:=bo S2.st o2 ht
 have n2:=bo S2.st (o1.mono x2.same x2.pre) hu
 cases t with
 | dct kts =>
  have h:(oA u).map (λk=>T.bl (!(kE kts k).isSome))=some w':=by cases u<;>exact h
  obtain⟨kk,hk,rfl⟩:=Option.map_eq_some_iff.mp h
  obtain⟨ad,kvs,rfl,hq,rd⟩:=n1
  have ek:=vp n2 hk
  subst ek
  refine⟨ad,mW kvs kk,rfl,uV.k hq,?_⟩
  have e1:(kE kts kk).isSome=(mW kvs kk).isSome:=by
   rcases rd.val kk with ⟨g1,g2⟩|⟨t,v,g1,g2,g3⟩<;>rw[g1,g2]<;>rfl
  rw[← e1]
  exact post _ H2 F2 α2 (x1.trans x2) S2 (Rep.bl' (K:=X.K) (F:=F2) _)
 | _=>cases u<;>cases h
theorem Ai(hr:dQ k X.A)(i:Nat){y:Str}{py iN:Pos}{ik ev:Expr}{dk dv:D}(hk:CE X ik dk)(hv:CE X ev dv)(hN:X.N[i]?=some y:=by rfl)
  (hvs:Vis X.env.scope y:=by first|exact Or.inl rfl|exact Or.inr (Or.inl rfl)|exact Or.inr (Or.inr rfl)) (hd:(y==("__debug__":Str))=false:=by decide) (hcd:(y==("__classdict__":Str))=false:=by decide)
  (hs:swapsWith ev (some (.Subscript (.Name y py) ik iN)) pos.line X.env=pure false:=by rfl) :
  CS X (.Assign [.Subscript (.Name y py) ik iN] ev pos) (p7 i dk dv) :=
 PS.imp (Fx (rz hr) (xM hN hvs hd hcd) hk hv hs) λD σ H aq=>by
  obtain⟨F,α,e,μ,S,h⟩:=aq
  refine⟨F,α,e,μ,S,(bh.toS h).mono (λy μ1 h v H1 F1 α1 x1 S1 o1=>?_) λ_ _ h=>h⟩
  obtain⟨x,hx,h⟩:=bh.lift h
  obtain⟨ov,hov,oo⟩:=S1.sl i x hx
  refine⟨ov,hov,F1,α1,e,μ1,S1,(bh.toS h).mono (λz μ2 h v2 H2 F2 α2 x2 S2 o2=>?_) λ_ _ h=>h.mono x1⟩
  obtain⟨k,hk,h⟩:=bh.lift h
  have h:=h.toS
  have nk:=bo S2.st o2 hk
  cases hz:frz y μ2 with
  | err c μ3=>exact absurd hz (uW y μ2 c μ3)
  | bad=>rw[hz] at h;exact h.elim
  | ok t μ3 =>
   rw[hz] at h
   obtain⟨μ4,ha4,h⟩:=bh.lift h
   obtain⟨F3,s3,n3,S3,r3⟩:=pG S2.st (o1.mono x2.same x2.pre) hz
   cases x with
   | cel j =>
    obtain⟨ad,had,rfl⟩:=oo
    unfold nj at ha4
    simp only at ha4
    have hc:∃kts kk,μ3[j]?=some (true,.dct kts)∧oA k=some kk∧kts.length<szL∧μ4=μ3.set j (true,.dct (vb kts kk t)):=by
     split at ha4
     ·rename_i us hjs
      obtain⟨kk,e1,e2⟩:=Option.bind_eq_some_iff.mp ha4
      by_cases hl:us.length<szL
      ·rw[if_pos hl] at e2
       cases e2
       exact⟨us,kk,hjs,e1,hl,rfl⟩
      ·rw[if_neg hl] at e2;cases e2
     ·cases ha4
    obtain⟨kts,kk,hj3,hkk,hl,rfl⟩:=hc
    have ha3:α2[j]?=some ad:=kx x2.pre had
    obtain⟨_,kvs,hw,rw'⟩:=(S3.cell j true _ ad hj3 ha3).1 rfl
    have el:=rw'.length
    have ek:=vp nk hkk
    subst ek
    refine⟨ad,_,rfl,C3.k hw (by rw[rk] at hl;omega),?_⟩
    have x3:Ex F α H F3 α2 H2:=x1.trans (x2.trans (Ex.qU s3 n3))
    exact h σ _ F3 α2 (x3.trans (Ex.put ha3)) ((S2.of s3 (List.prefix_refl _) S3).of (aU.refl _) (List.prefix_refl _) (u6 S3 hj3 ha3 ⟨_,aL,rw'.put kk r3⟩))
   | val t=>unfold nj at ha4;cases ha4
   | box xs=>unfold nj at ha4;cases ha4
end
end Fw
namespace L2
open PySem PySem.Spec PyProof.Rows
theorem Hx{P:Program}{w:World}{k:Key}{u:Value}(h:(cX P w).is k u=true):RelV (kV k) u:=by
 rcases cx (show qv k u=true from h) with ⟨i,t,rfl,rfl⟩|⟨x,t,rfl,rfl⟩
 ·exact⟨t,rfl⟩
 ·exact⟨t,rfl⟩
theorem KV.get{kvs:List (Key×V)}{vs:List (Key×Value)}(r:KV kvs vs){i:Nat}{p:Key×V}(h:kvs[i]?=some p):∃u,vs[i]?=some (p.1,u)∧RelV p.2 u:=by
 unfold KV at r
 induction r generalizing i with
 | nil=>simp at h
 | @cons a b as bs h1 t ih =>
  cases i with
  | zero =>
   simp at h
   subst h
   refine⟨b.2,?_,h1.2⟩
   rw[h1.1]
   rfl
  | succ i=>simpa using ih (by simpa using h)
def Itd(d:Addr)(n:Nat):It :=
 ⟨λi H=>∃kvs p,H d=some (.dK kvs)∧kvs.length=n∧kvs[i]?=some p,
  λi H v H'=>∃q p,v=.ref q∧H q=none∧H'=upd H q (.tup [kV p.1,p.2])∧∀kvs,H d=some (.dK kvs)→kvs[i]?=some p,
  λi H=>∃kvs,H d=some (.dK kvs)∧kvs.length=n∧n≤i⟩
theorem yB{P:Program}{w:World}{K:PySem.W.Frag}{elts:List Expr}{x1:Nat}{pos:Pos}{it d:Addr}{n:Nat} :
  Turn P w K (.Tuple elts x1 pos) (Itd d n) [it] it (λi h=>∃ok ov,IsItemIter h it d i n n ok ov):=by
 refine⟨by simp,λi h ⟨ok,ov,st⟩ b hb=>?_,λi h h' ⟨ok,ov,st⟩ k=>⟨ok,ov,k it (by simp) _ st⟩,?_,?_,λA i s Q E ⟨ok,ov,st⟩ hq=>?_⟩
 ·simp at hb;subst hb
  exact⟨_,st,λv e=>by cases e⟩
 ·intro X hP hw hK hc i pins s σ H E I hf st hg
  obtain⟨kvs,p,hd,hn,hp⟩:=hg
  obtain⟨ok,ov,st⟩:=st
  subst hP hw hK
  obtain⟨z,hS,vs,rel,dd⟩:=wm I.hok (.inl hd)
  have hl:=rel.length
  obtain⟨u,hu,ru⟩:=rel.get hp
  have en:n=vs.length:=by lia
  rw[en] at st
  refine wpAny_pyNext_items_item st dd hu λkey h' hk NF ht hz LC=>⟨_,rfl,wpAny_letOwnedTupleGo_items NF λh'' hit hs=>?_⟩
  have hne:it≠s.heap.objs.size:=Nat.ne_of_lt (Heap.lt_size st)
  have ht2:h''.get? s.heap.objs.size=some { cls:=.type "tuple",data:=.seq #[key,u] }:=hs.extBut _ _ hne.symm ht
  refine⟨.ref s.heap.objs.size,upd H s.heap.objs.size (.tup [kV p.1,p.2]),?_,rfl,⟨s.heap.objs.size,p,rfl,I.hok.fresh (Nat.le_refl _),rfl,λws hw=>by rw[hd] at hw;cases hw;exact hp⟩,⟨_,_,by rw[en];exact hit⟩,λc hcm=>?_⟩
  ·refine I.vo (ch:=[it]) (λc o hcn e=>?_) (λc hcm=>hf c hcm) ?_
   ·simp at hcn
    exact hs.extBut _ _ hcn (LC c o hcn e)
   ·exact⟨by show 2≤sizeLine;decide,[key,u],.cons (Hx hk) (.cons ru .nil),⟨_,ht2,rfl,0,rfl⟩⟩
  ·simp at hcm
   subst hcm
   rw[aO hne]
   exact (hf c (by simp)).1
 ·intro X hP hw hK hc i pins s σ H E I hf st hg
  obtain⟨kvs,hd,hn,hle⟩:=hg
  obtain⟨ok,ov,st⟩:=st
  subst hP hw hK
  obtain⟨z,hS,vs,rel,dd⟩:=wm I.hok (.inl hd)
  have hl:=rel.length
  have en:n=vs.length:=by lia
  rw[en] at st
  refine wpAny_pyNext_items_end (I.ok.hd hc) st dd (List.getElem?_eq_none (by lia)) λh' hx=>⟨rfl,I.vn (t':=s.toks) (ch:=[it]) (λc o hcn e=>?_) λc hcm=>hf c hcm⟩
  simp at hcn
  exact hx c o hcn e
 ·exact PySem.W.kcp_self st hq
def GI(tl:TE):TI:=λσ H R=>tl σ H λx H1=>∃d kvs,x=.ref d∧H1 d=some (.dK kvs)∧R (Itd d kvs.length) H1
theorem DZ{X:Cx}{elts:List Expr}{x1:Nat}{iN apos pos:Pos}{o:Expr}{tl:TE}(ho:PE X o tl)(lC:attributeBase o "items" X.env (eval o X.env)=eval o X.env)(lD:(apos.endLine==pos.line)=true) :
  PI X (.Tuple elts x1 iN) (.Call (.Attribute o "items" apos) [] [] pos) (GI tl):=by
 intro pins s σ H R I h
 refine wpAny_Call_method (T:="dict") (id:="dict.items") lC rfl lD PySem.F.plainAttrs_dict PySem.F.slot_dict_items PySem.F.type_dict_items (thn (ho pins s σ H _ I h) λv s1 aq=>?_)
 obtain⟨x,H1,I1,r1,q1⟩:=aq
 obtain⟨d,kvs,rfl,hd,q⟩:=q1
 cases r1
 obtain⟨z,hS,vs,rel,dd⟩:=wm I1.hok (.inl hd)
 have hl:=rel.length
 refine⟨dd.dictOf.typeIs,dd.dictOf.mapOf.noDict,?_⟩
 show wpAny _ _ (callWith pos (.builtin "dict.items") [.ref d] [] []) _ _ s1
 refine method_meetsIn PySem.F.slot_dict_items PySem.F.entry_dict_items rfl (PySem.evalArgs_none ⟨rfl,dd.dictOf.typeIs,PySem.F.args_dict_items_1 _,_,meets_dict_items (cX X.prog X.w) d hS,⟨vs,dd.dictOf⟩,?_⟩)
 refine wpAny_pyIter_items (d:=d) (kvs:=vs) (ep:=vs.length) ⟨_,Heap.get?_push_size _ rfl,rfl,rfl⟩ (dd.push _) ?_
 have I2:Inv X pins σ H1 { s1 with heap:=(s1.heap.push { cls:=.type "dict_items",data:=.fields #[.ref d] }).push { cls:=.type "dict_itemiterator",data:=.fields #[.none,.bool false,.ref d,.int 0 0,.int vs.length 0,.int vs.length 0,.none,.none] } } :=
  I1.kept (t':=s1.toks) λb o e=>Heap.get?_push_of_some _ (Heap.get?_push_of_some _ e)
 refine⟨_,[_],_,Itd d kvs.length,H1,rfl,I2,yB,⟨.none,.none,by rw[hl];exact Heap.get?_push_size _ rfl⟩,λb hb=>?_,q⟩
 have e:s1.heap.objs.size≤b:=by
  simp at hb
  subst hb
  exact Nat.le_succ _
 exact I1.xN e (I1.hok.fresh e)
theorem BF{P:Program}{w:World}{kvs:List (Key×V)}{vs:List (Key×Value)}(r:KV kvs vs){acc:List Value}(hl:acc.length=vs.length)(h:∀(i:Nat) (v:Value),acc[i]?=some v→∃(k:Key) (x:Value),vs[i]?=some (k,x)∧(cX P w).is k v=true):Vals (kvs.map λp=>kV p.1) acc:=by
 unfold KV at r
 induction r generalizing acc with
 | nil=>cases acc with
  | nil=>exact .nil
  | cons a l=>simp at hl
 | @cons p q ps qs h1 t ih =>
  cases acc with
  | nil=>simp at hl
  | cons a l =>
   obtain⟨k,x,e,hk⟩:=h 0 a rfl
   simp at e
   refine .cons ?_ (ih (by simpa using hl) λi v e=>by simpa using h (i+1) v (by simpa using e))
   have:p.1=k:=by rw[h1.1,e]
   show RelV (kV p.1) a
   rw[this]
   exact Hx hk
theorem yC{X:Cx}(hc:X.calm=true):fo X (.type "list") (λxs H Q=>∃d kvs,xs=[.ref d]∧H d=some (.dK kvs)∧∀l,H l=none→Q (.ref l) (upd H l (.lst (kvs.map λp=>kV p.1)))):=by
 intro pins s σ H xs us Q I r h
 obtain⟨d,kvs,rfl,hd,q⟩:=h
 obtain⟨u,rfl,ru⟩:=vals1 r
 cases ru
 obtain⟨z,hS,vs,rel,dd⟩:=wm I.hok (.inl hd)
 have hl:=rel.length
 refine PySem.W.kdl_call (PySem.W.kdl_dict (knd:=cX X.prog X.w) (kvs:=vs) (ep:=vs.length) hS) (I.ok.hd hc) dd (by lia) λh' tk LD c' hk hD D0=>?_
 have hv:Vals (kvs.map λp=>kV p.1) LD.toList:=BF rel (by rw[Array.length_toList];exact D0.1) λj v e=>D0.2 j v (by rw[← Array.getElem?_toList];exact e)
 exact⟨.ref s.heap.objs.size,_,I.laid (a:=s.heap.objs.size) (o:=.lst (kvs.map λp=>kV p.1)) (h':=h') (t':=tk) hk (Nat.le_refl _) ⟨by rw[List.length_map];exact z,LD.toList,c',hv,hD⟩,rfl,q _ I.fresh⟩
end L2
namespace Fw
open PySem PySem.Spec PyProof.Rows L2
section
variable{K:PySem.W.Frag}{F:Hp}
theorem Aj(k:Key):Rep K F (wD k) (kV k):=by
 cases k with
 | inl i=>exact Rep.ip i
 | inr x=>exact Rep.Gd x
theorem bx.get:∀{kts:List (Key×T)}{kvs:List (Key×V)}{i:Nat}{p:Key×T},bx K F kts kvs→kts[i]?=some p→∃v,kvs[i]?=some (p.1,v)∧Rep K F p.2 v
 | [],_,_,_,_,e=>by simp at e
 | (k,t)::kts,kvs,0,p,h,e=>by
  rw[bx] at h
  obtain⟨v,pF,rfl,q,_⟩:=h
  simp at e;subst e
  exact⟨v,rfl,q⟩
 | (k,t)::kts,kvs,i+1,p,h,e=>by
  rw[bx] at h
  obtain⟨v,pF,rfl,q,r⟩:=h
  obtain⟨v',h1,h2⟩:=bx.get (i:=i) r (by simpa using e)
  exact⟨v',by simpa using h1,h2⟩
theorem bx.keys:∀{kts:List (Key×T)}{kvs:List (Key×V)},bx K F kts kvs→aG K F (kts.map λp=>wD p.1) (kvs.map λp=>kV p.1)
 | [],kvs,h=>by rw[bx] at h;subst h;exact .lL
 | (k,t)::kts,kvs,h=>by
  rw[bx] at h
  obtain⟨v,pF,rfl,q,r⟩:=h
  exact .gm (Aj k) r.keys
end
section
variable{X:Cx}{a b:Expr}{da db:D}{pos p:Pos}
theorem rA{elts:List Expr}{x1:Nat}{iN apos fU:Pos}(ha:CE X a da)(lC:attributeBase a "items" X.env (eval a X.env)=eval a X.env:=by rfl)(lD:(apos.endLine==fU.line)=true:=by rfl) :
  CI X (.Tuple elts x1 iN) (.Call (.Attribute a "items" apos) [] [] fU) (kF da) :=
 PI.imp (DZ ha lC lD) λσ H R0 aq=>by
  obtain⟨F,α,e,μ,S,h⟩:=aq
  refine⟨F,α,e,μ,S,(R.wp_bind h).mono (λx μ1 h v H1 F1 α1 x1 S1 o1=>?_) λ_ _ h=>h⟩
  obtain⟨kts,ht,post⟩:=R.bK (R.wp_bind h)
  obtain⟨t,hr,ht⟩:=Option.bind_eq_some_iff.mp ht
  have n1:=bo S1.st o1 hr
  cases t with
  | dct us =>
   cases ht
   obtain⟨d,kvs,rfl,hq,hl⟩:=n1
   have hlen:=hl.length
   refine⟨d,kvs,rfl,hq,post _ H1 F1 α1 x1 S1 λF2 α2 μ2 H2 s2 p2 S2 same=>?_⟩
   obtain⟨d',pF,e1,hq2,hl2⟩:=bo S2 (o1.mono s2 p2) ((show rd μ2 x=rd μ1 x from same).trans hr)
   cases e1
   have Hy:=hl2.length
   refine⟨λi t hi=>?_,⟨pF,hq2,by lia,?_⟩⟩
   ·unfold eL at hi
    rw[List.getElem?_map] at hi
    obtain⟨p,hp,rfl⟩:=Option.map_eq_some_iff.mp hi
    obtain⟨v,hv,rv⟩:=hl2.get hp
    refine⟨⟨pF,(p.1,v),hq2,by lia,hv⟩,?_⟩
    rintro z H3 ⟨q,p',rfl,hq',rfl,f⟩
    have w1:=f pF hq2
    rw[hv] at w1
    cases w1
    have g:bI F2 H2 (upd F2 q (.tup [kV p.1,v])) (upd H2 q (.tup [kV p.1,v])):=bI.new hq'
    refine⟨_,g,?_⟩
    rw[Rep]
    exact⟨q,_,rfl,SqT.of aL,.gm (Aj p.1) (.gm (Rep.mono (g.same S2.ext) _ _ rv) .lL)⟩
   ·show kvs.length≤(eL kts).length
    unfold eL
    rw[List.length_map]
    lia
  | _=>cases ht
theorem D1(hm:X.mg "list"=none)(ha:CE X a da)(hc:X.calm=true:=by rfl)(hg:Gl X "list":=by rfl)(hs1:starEach [a] X.env=(false,eval a X.env)::starEach [] X.env:=by rfl)(hpl:(backTo pos (starEach [] X.env)).any (·.1)=false:=by rfl) :
  CF X (.Call (.Name "list" p) [a] [] pos) (dUn zS da):=Dy (yC hc) (by
 intro F H v t w Q s hv hw q
 cases t with
 | dct ts =>
  cases hw
  obtain⟨a,vs,rfl,hq,hl⟩:=hv
  exact⟨a,vs,rfl,hq,λl hp=>q l _ hp ⟨_,aL,hl.keys⟩⟩
 | _=>cases hw) hm (by decide +kernel) ha hg (by decide) (by decide) hs1 hpl
theorem GJ{id:String}{x:Str}{r:List V→Hp→VK→Prop}{g:T→T→Option T}(hc:fo X (.builtin id) r)(hs:wG X.K r g)(hm:X.mg x=none)(hv:bootBuiltins x=some (.builtin id))(ha:CE X a da)(hb:CE X b db)(hg:Gl X x:=by rfl)(hn:x≠"__name__":=by decide)
  (hdb:(x==("__debug__":Str))=false:=by decide) (hs1:starEach [a,b] X.env=(false,eval a X.env)::starEach [b] X.env:=by rfl) (hs2:starEach [b] X.env=(false,eval b X.env)::starEach [] X.env:=by rfl) (hpl:(backTo pos (starEach [b] X.env)).any (·.1)=false:=by rfl):CE X (.Call (.Name x p) [a,b] [] pos) (aj g da db) :=
 PE.imp (qA hc hg hm hv (ag ha (ag hb ar hs2) hs1) hn hdb hs1 hpl) (call2 hs)
theorem JC(hm:X.mg "max"=none)(ha:CE X a da)(hb:CE X b db)(hc:X.calm=true:=by rfl)(hg:Gl X "max":=by rfl)(hs1:starEach [a,b] X.env=(false,eval a X.env)::starEach [b] X.env:=by rfl)(hs2:starEach [b] X.env=(false,eval b X.env)::starEach [] X.env:=by rfl)(hpl:(backTo pos (starEach [b] X.env)).any (·.1)=false:=by rfl) :
  CE X (.Call (.Name "max" p) [a,b] [] pos) (aj Gq da db):=GJ (A1 hc) (by
 intro F H v u t t' w Q s hv hu hw q
 cases t<;>cases t'<;>first|cases hw|skip
 exact⟨_,_,by rw[hv.int,hu.int],q _ H F bI.refl (Rep.ip _)⟩) hm (by decide +kernel) ha hb hg (by decide) (by decide) hs1 hs2 hpl
end
section
variable{X:Cx}{a b:Expr}{da db:D}{pos p:Pos}{k:Nat}
theorem D2{t:TE}{d:D}(h:PT X a (tB t))(i:∀σ H Q,tD X d σ H Q→t σ H Q):CT X a d:=PT.imp h λσ H Q aq=>by
 obtain⟨F,α,e,μ,S,q⟩:=aq
 refine i σ H _ ⟨F,α,e,μ,S,q.mono (λx μ1 cJ v H1 F1 α1 x1 S1 o1=>?_) λ_ _ h=>h⟩
 obtain⟨k,e1,q⟩:=cJ
 subst e1
 exact⟨k,Rep.jt (K:=X.K) (F:=F1) o1,q H1 F1 α1 x1 S1⟩
theorem GK(hr:dQ k X.A)(ha:CE X a da)(hb:CE X b db)(hm:behindInMarks .NotIn b=false:=by with_unfolding_all rfl):CT X (.Compare a [.NotIn] [b] pos) (aj uw da db):=D2 (HW (A8 (rz hr) ha hb) hm) BE
end
end Fw
namespace L2
open PySem PySem.Spec PyProof.Rows
open AutoSeq1 (wpAny_loadPart')
theorem D3{prog:Program}{w:World}{A:Around}{k:Bool}(hh:A.handled=none)(it l:Addr)(hne:l≠it)(items:Array Value) :
  Draws prog w A it [it,l] items.size (λi v=>items[i]?=some v) (λi h=>KIt k h it l i∧KSq k h l items) where
 live:=λ_ _ st=>by obtain⟨o,ho,_⟩:=st.1.ob;exact⟨o,ho⟩
 frame:=λ_ _ _ st hk=>⟨st.1.at λo e=>hk it (by simp) o e,st.2.at λo e=>hk l (by simp) o e⟩
 item:=λi s Q E hi st hQ=>kI st.1 st.2 (x:=items[i]) (by simp[hi]) λh' NG hs'=>hQ _ h' s.toks (by simp[hi]) ⟨NG,st.2.at λo e=>hs'.extBut _ _ hne e⟩ hs'
 done:=λs Q E st hE=>pK hh st.1 st.2 (by simp) hE
noncomputable abbrev eH (k : Bool) (h : Heap) (l : Addr) : Heap := (h.push (iM k l)).push { cls := .type "enumerate", data := .fields #[.none, .bool false, .ref h.objs.size, rawInt 0, .none, .none] }
set_option maxHeartbeats 4000000 in
theorem BG(l:Addr)(items:Array Value)(n:Nat)(dct:Option Addr)(sl:Array (Option Value)) :
  Meets (Builtin.«enumerate.__new__» ⟨[.type "enumerate",.ref l],[]⟩) (λ_ R s=>s.heap.get? l=some { cls:=.type "tuple",dict:=dct,data:=.seq items n,slots:=sl } ∧
   R (.ok (.ret (.ref (s.heap.push (iM false l)).objs.size))) { s with heap:=eH false s.heap l }) :=
 .of_wp λprog w A R s h=>by
  obtain⟨hp,g,d,tk,os⟩:=s
  obtain⟨hl,h⟩:=h
  have ND:=sub_enumerate
  have hT:Heap.IsTuple (Shared.heap ⟨hp,g,d,tk,os⟩) l items:=⟨_,hl,rfl,n,rfl⟩
  wp_walk using wpAny_loadPart' hl
  refine wpAny_stack_any λst=>wpAny_pure ?_
  split
  ·rename_i c _ _ _ _ _
   cases (c==Value.type "enumerate")
   ·(wp_walk using wpAny_loadPart' hl,wpAny_pyIter_tuple hT);exact⟨_,rfl,h⟩
   ·(wp_walk using wpAny_loadPart' hl,wpAny_pyIter_tuple hT);exact⟨_,rfl,h⟩
  ·(wp_walk using wpAny_loadPart' hl,wpAny_pyIter_tuple hT);exact⟨_,rfl,h⟩
section
variable{prog:Program}{w:World}{A:Around}{E:Value→Shared→Prop}{s:Shared}
theorem yD{k:Bool}{l:Addr}{xs:Array Value}{Q:Value→Shared→Prop}(hl:KSq k s.heap l xs)
  (h:∀h',IsEnum h' (s.heap.objs.size+1) s.heap.objs.size 0 .none→KIt k h' s.heap.objs.size l 0→h'.objs.size=s.heap.objs.size+2→(∀c o,s.heap.get? c=some o→h'.get? c=some o)→Q (.ref (s.heap.objs.size+1)) { s with heap:=h' }) :
  wpAny (model prog w) A (call (.type "enumerate") [.ref l]) Q E s:=by
 cases k with
 | true=>exact call_enumerate_list hl h
 | false =>
  obtain⟨⟨c,dct,dt,sl⟩,hg,hc,n,hd⟩:=hl
  simp only at hc hd
  subst hc hd
  refine callType_new F.called_enumerate (by decide) (F.typeCall_enumerate_1 _) (F.newCall_enumerate_1 _) (λobj=>F.args_object_init_2 obj _) F.entry_enumerate_new (BG l xs n dct sl) ⟨hg,?_⟩
  have z1:(s.heap.push (iM false l)).objs.size=s.heap.objs.size+1:=Heap.size_push ..
  have g2:(eH false s.heap l).get? (s.heap.push (iM false l)).objs.size=some _:=Heap.get?_push_size _ rfl
  have g1:(eH false s.heap l).get? s.heap.objs.size=some (iM false l):=Heap.get?_push_of_some _ (Heap.get?_push_size _ rfl)
  show _∧_
  rw[z1] at g2
  rw[z1]
  exact⟨⟨_,g2,rfl⟩,h _ g2 (KIt.new g1) (by rw[Heap.size_push,z1]) λc o q=>Heap.get?_push_of_some _ (Heap.get?_push_of_some _ q)⟩
end
def Ite(K:PySem.W.Frag)(k:Bool)(a:Addr):It :=
 ⟨λi H=>∃xs x,jP K k H a xs∧xs[i]?=some x,
  λi H v H'=>∃p x,v=.ref p∧H p=none∧H'=upd H p (.tup [.int (i:Int),x])∧∀xs,jP K k H a xs→xs[i]?=some x,
  λi H=>∃xs,jP K k H a xs∧xs.length=i⟩
structure ESt(k:Bool)(z i1 l1:Addr)(i:Nat)(h:Heap):Prop where
 z:∃old,IsEnum h z i1 (i:Int) old
 one:KIt k h i1 l1 i
theorem BH{P:Program}{w:World}{K:PySem.W.Frag}{elts:List Expr}{x1:Nat}{pos:Pos}{k:Bool}{z i1 l1:Addr}(d:z≠i1) :
  Turn P w K (.Tuple elts x1 pos) (Ite K k l1) [z,i1] z (ESt k z i1 l1):=by
 refine⟨by simp,λi h st b hb=>?_,λi h h' st k'=>?_,?_,?_,λA i s Q E st hq=>?_⟩
 ·obtain⟨old,hz⟩:=st.z
  obtain⟨o1,e1,q1⟩:=st.one.ob
  simp only[List.mem_cons,List.not_mem_nil,or_false] at hb
  rcases hb with rfl|rfl
  ·exact⟨_,hz,λv e=>by cases e⟩
  ·exact⟨_,e1,λv e=>by rw[q1] at e;cases e⟩
 ·obtain⟨old,hz⟩:=st.z
  exact⟨⟨old,k' z (by simp) _ hz⟩,st.one.at λo e=>k' i1 (by simp) o e⟩
 ·intro X hP hw hK hc i pins s σ H E I hf st hg
  obtain⟨xs,x,h1,hx⟩:=hg
  subst hP hw hK
  obtain⟨sS,r1,s1,z1⟩:=I.ksq h1
  obtain⟨u,hu,ru⟩:=r1.get hx
  obtain⟨old,hz⟩:=st.z
  have hli:l1≠i1:=jf I h1 (hf i1 (by simp))
  have hlz:l1≠z:=jf I h1 (hf z (by simp))
  obtain⟨o1,e1,_⟩:=st.one.ob
  have hlt:i<sS.toArray.size:=by
   have:=(List.getElem?_eq_some_iff.mp hu).1
   simpa using this
  have hne:z∉[i1,l1]:=by
   simp only[List.mem_cons,List.not_mem_nil,or_false,not_or]
   exact⟨d,λe=>hlz e.symm⟩
  refine wpAny_pyNext_enum_itemD (D3 (k:=k) (A:=X.A.in1) (I.ok.hd hc) i1 l1 hli sS.toArray) hz ⟨st.one,s1⟩ hlt d hne λy h' tk hy g1 g2 g3 g4 g5=>⟨_,rfl,?_⟩
  have ey:y=u:=by
   have hy:sS[i]?=some y:=by simpa using hy
   rw[hu] at hy
   exact (Option.some.inj hy).symm
  subst ey
  refine wpAny_letOwnedTupleGo_enum g1 λh'' q1 q2=>?_
  have lt:∀{c:Addr}{o:Obj},s.heap.get? c=some o→c≠s.heap.objs.size:=λe=>Nat.ne_of_lt (Heap.lt_size e)
  have hTz:s.heap.objs.size≠z:=(lt hz).symm
  have new:h''.get? s.heap.objs.size=some { cls:=.type "tuple",data:=.seq #[.int i tk,y] }:=q2.extBut _ _ hTz g3
  refine⟨.ref s.heap.objs.size,upd H s.heap.objs.size (.tup [.int (i:Int),x]),?_,rfl,⟨s.heap.objs.size,x,rfl,I.hok.fresh (Nat.le_refl _),rfl,λws hw=>by rw[I.vm hw h1];exact hx⟩,?_,λc hcm=>?_⟩
  ·refine (I.vo (ch:=[z,i1]) (h':=h'') (λc o hcn e=>?_) (λc hcm=>hf c hcm) ?_).tok _
   ·simp at hcn
    exact q2.extBut _ _ hcn.1 (g5 c o hcn.1 hcn.2 e)
   ·exact⟨by show 2≤sizeLine;decide,[.int i tk,y],.cons ⟨tk,rfl⟩ (.cons ru .nil),⟨_,new,rfl,0,rfl⟩⟩
  ·exact⟨⟨_,by simpa using q1⟩,g2.1.at λo e=>q2.extBut _ _ d.symm e⟩
  ·rw[aO]
   ·exact (hf c hcm).1
   ·simp only[List.mem_cons,List.not_mem_nil,or_false] at hcm
    rcases hcm with rfl|rfl
    ·exact lt hz
    ·exact lt e1
 ·intro X hP hw hK hc i pins s σ H E I hf st hg
  obtain⟨xs,h1,hle⟩:=hg
  subst hP hw hK
  obtain⟨sS,r1,s1,z1⟩:=I.ksq h1
  obtain⟨old,hz⟩:=st.z
  have hli:l1≠i1:=jf I h1 (hf i1 (by simp))
  have l1':=r1.length
  have en:sS.toArray.size=i:=by simp;lia
  refine wpAny_pyNext_enum_endD (D3 (k:=k) (A:=X.A.in1) (I.ok.hd hc) i1 l1 hli sS.toArray) hz ⟨by rw[en];exact st.one,s1⟩ λh' g7=>⟨rfl,I.vn (t':=s.toks) (ch:=[z,i1]) (λc o hcn e=>?_) λc hcm=>hf c hcm⟩
  simp at hcn
  exact g7 c o hcn.2 e
 ·obtain⟨old,hz⟩:=st.z
  exact wpAny_pyIter_enum hz hq
def JD(K:PySem.W.Frag)(t:TA):TI:=λσ H R=>t σ H λvs H1=>∃a k xs,vs=[.ref a]∧jP K k H1 a xs∧R (Ite K k a) H1
theorem GL{X:Cx}{elts:List Expr}{x1:Nat}{iN p pos:Pos}{a:Expr}{t:TA}(hg:Gl X "enumerate")(hm:X.mg "enumerate"=none)(ha:PA X [a] t)(he:starEach [a] X.env=(false,eval a X.env)::starEach [] X.env)(hpl:(backTo pos (starEach [] X.env)).any (·.1)=false) :
  PI X (.Tuple elts x1 iN) (.Call (.Name "enumerate" p) [a] [] pos) (JD X.K t):=by
 intro pins s σ H R I h
 refine wpAny_Call_Name_kw (qw I hg hm PyProof.Rows.boot_enumerate ?_ (by decide) (by decide))
 refine PyProof.Rows.callWith_type1 (thn (ha pos pins s σ H _ I h) λus s1 aq=>?_) he hpl
 obtain⟨vs,H1,I1,r1,q1⟩:=aq
 obtain⟨c,k,xs,rfl,h1,q⟩:=q1
 obtain⟨u1,rfl,ru1⟩:=vals1 r1
 cases ru1
 obtain⟨sS,_,s1',_⟩:=I1.ksq h1
 refine yD s1' λh' g1 g2 g6 g7=>wpAny_pyIter_enum g1 ?_
 have I2:Inv X pins σ H1 { s1 with heap:=h' }:=I1.kept (t':=s1.toks) g7
 refine⟨_,_,_,_,H1,rfl,I2,BH (k:=k) (i1:=s1.heap.objs.size) (l1:=c) (λe=>by have e:s1.heap.objs.size+1=s1.heap.objs.size:=e;lia),⟨⟨_,g1⟩,g2⟩,λe he=>?_,q⟩
 have:s1.heap.objs.size≤e:=by
  simp only[List.mem_cons,List.not_mem_nil,or_false] at he
  rcases he with rfl|rfl
  ·exact Nat.le_add_right _ _
  ·exact Nat.le_refl _
 exact I1.xN this (I1.hok.fresh this)
end L2
namespace Fw
open PySem PySem.Spec PyProof.Rows L2
theorem Ak{X:Cx}{elts:List Expr}{x1:Nat}{iN p pos:Pos}{a:Expr}{da:D}(hm:X.mg "enumerate"=none)(ha:CE X a da)(hg:Gl X "enumerate":=by rfl)(hs:starEach [a] X.env=(false,eval a X.env)::starEach [] X.env:=by rfl)(hpl:(backTo pos (starEach [] X.env)).any (·.1)=false:=by rfl) :
  CI X (.Tuple elts x1 iN) (.Call (.Name "enumerate" p) [a] [] pos) (uA da) :=
 PI.imp (GL hg hm (ag ha ar hs) hs hpl) λσ H R0 aq=>by
  obtain⟨F,α,e,μ,S,h⟩:=aq
  refine qX ⟨F,α,e,μ,S,(R.wp_bind h).mono (λx μ1 h v H1 F1 α1 x1 S1 o1=>?_) λ_ _ h=>h⟩
  obtain⟨ts,ht,post⟩:=R.bK (R.wp_bind h)
  obtain⟨t,hr,ht⟩:=Option.bind_eq_some_iff.mp ht
  obtain⟨a1,vs1,k1,rfl,q1,r1,m1⟩:=kJ S1.st.ext (bo S1.st o1 hr) ht
  refine⟨a1,k1,vs1,rfl,q1,post _ H1 F1 α1 x1 S1 λF2 α2 μ3 H2 s2 p2 S2 same=>?_⟩
  have e1:rd μ3 x=rd μ1 x:=same
  obtain⟨b1,ws1,j1,g1,n1,l1,m1'⟩:=kJ S2.ext (bo S2 (o1.mono s2 p2) (e1.trans hr)) ht
  cases g1
  have ej1:j1=k1:=by rw[Bool.eq_iff_iff,m1,m1']
  subst ej1
  refine⟨λi t hi=>?_,?_⟩
  ·obtain⟨c,hc,rfl⟩:=uz hi
   obtain⟨v1,hv1,rv1⟩:=l1.get hc
   refine⟨⟨ws1,v1,n1,hv1⟩,?_⟩
   rintro z H3 ⟨q,z1,rfl,hq,rfl,f1⟩
   have w1:=f1 ws1 n1
   rw[hv1] at w1
   cases w1
   have g:bI F2 H2 (upd F2 q (.tup [.int (i:Int),v1])) (upd H2 q (.tup [.int (i:Int),v1])):=bI.new hq
   refine⟨_,g,?_⟩
   rw[Rep]
   rw[Int.zero_add]
   exact⟨q,_,rfl,SqT.of aL,aG.mono (g.same S2.ext) _ _ (.gm (Rep.ip _) (.gm rv1 .lL))⟩
  ·refine⟨ws1,n1,?_⟩
   have:=l1.length
   show ws1.length=(iL 0 ts).length
   rw[uy]
   lia
end Fw
namespace L2
open PySem PySem.Spec PyProof.Rows
end L2
namespace Fw
open PySem PySem.Spec PyProof.Rows L2
section
variable{K:PySem.W.Frag}
theorem wZ{F:Hp}{t:T}{v:V}(h:Rep K F t v)(f:lQ t=true):mP v=true∧∀{t':T}{v':V},Rep K F t' v'→lQ t'=true→eqV v v'=eqT t t':=by
 cases t with
 | non=>cases h.ku;exact⟨rfl,λ{t' v'} h' f'=>by
   cases t' with
   | non=>cases h'.ku;simp[eqV,eqT]
   | bl b=>cases h'.jt;simp[eqV,eqT]
   | int b=>cases h'.lK;simp[eqV,eqT]
   | str b=>cases h'.m_;simp[eqV,eqT]
   | _=>cases f'⟩
 | bl c=>cases h.jt;exact⟨rfl,λ{t' v'} h' f'=>by
   cases t' with
   | non=>cases h'.ku;simp[eqV,eqT]
   | bl b=>cases h'.jt;simp[eqV,eqT]
   | int b=>cases h'.lK;simp[eqV,eqT]
   | str b=>cases h'.m_;simp[eqV,eqT]
   | _=>cases f'⟩
 | int c=>cases h.lK;exact⟨rfl,λ{t' v'} h' f'=>by
   cases t' with
   | non=>cases h'.ku;simp[eqV,eqT]
   | bl b=>cases h'.jt;simp[eqV,eqT]
   | int b=>cases h'.lK;simp[eqV,eqT]
   | str b=>cases h'.m_;simp[eqV,eqT]
   | _=>cases f'⟩
 | str c=>cases h.m_;exact⟨rfl,λ{t' v'} h' f'=>by
   cases t' with
   | non=>cases h'.ku;simp[eqV,eqT]
   | bl b=>cases h'.jt;simp[eqV,eqT]
   | int b=>cases h'.lK;simp[eqV,eqT]
   | str b=>cases h'.m_;simp[eqV,eqT]
   | _=>cases f'⟩
 | _=>cases f
theorem uC{F:Hp}{t:T}{v:V}(h:Rep K F t v)(f:lQ t=true):∀{us:List T}{vs:List V},aG K F us vs→us.all lQ=true→vs.all mP=true∧inV v vs=inT t us
 | [],vs,r,_=>by rw[aG] at r;subst r;exact⟨rfl,rfl⟩
 | u::us,vs,r,hf=>by
  rw[aG] at r
  obtain⟨v1,vs1,rfl,r1,r2⟩:=r
  rw[List.all_cons,Bool.and_eq_true] at hf
  obtain⟨a,b⟩:=uC h f r2 hf.2
  obtain⟨c,d⟩:=wZ r1 hf.1
  refine⟨by rw[List.all_cons,c,a];rfl,?_⟩
  unfold inV inT at b ⊢
  rw[List.any_cons,List.any_cons,b,d h f]
theorem Now.flat{F H:Hp}{v:V}{t:T}(h:Now K F H v t)(f:lQ t=true):Rep K F t v:=by
 cases t with
 | non=>exact h
 | bl b=>exact h
 | int b=>exact h
 | str b=>exact h
 | _=>cases f
theorem D4:gd K (rIn K false) fIn:=by
 intro F H v u t t' w Q s hv hu hw q
 unfold fIn at hw
 cases e:bg t' with
 | none=>rw[e] at hw;cases hw
 | some us =>
  rw[e] at hw
  simp only at hw
  by_cases hf:(lQ t && us.all lQ)=true
  ·rw[if_pos hf] at hw
   cases hw
   rw[Bool.and_eq_true] at hf
   obtain⟨a,vs,k,rfl,hq,hl,_⟩:=kJ s hu e
   obtain⟨f1,f2⟩:=uC (hv.flat hf.1) hf.1 hl hf.2
   have fx:=(wZ (hv.flat hf.1) hf.1).1
   refine⟨a,vs,rfl,?_,fx,f1,?_⟩
   ·cases k with
    | true=>exact .inl hq
    | false=>exact .inr hq
   ·rw[f2];exact q _ H F bI.refl (Rep.bl' _)
  ·rw[if_neg hf] at hw;cases hw
theorem D5(i:Int)(h:0≤i):Builtin.bitAnd i 1=i%2:=by
 obtain⟨n,rfl⟩:=Int.eq_ofNat_of_zero_le h
 unfold Builtin.bitAnd
 simp[Nat.and_one_is_mod]
end
section
variable{X:Cx}{a b c:Expr}{da db dc:D}{pos p p2:Pos}{k:Nat}
theorem LF(hr:dQ k X.A)(ha:CE X a da)(hb:CE X b db)(hm:behindInMarks .In b=false:=by with_unfolding_all rfl):CE X (.Compare a [.In] [b] pos) (aj fIn da db):=ym uc D4 hm ha hb
theorem Hz(hr:dQ k X.A)(ha:CE X a da)(hb:CE X b db)(hm:behindInMarks .In b=false:=by with_unfolding_all rfl):CT X (.Compare a [.In] [b] pos) (aj fIn da db):=ng uc D4 hm ha hb
theorem GN(hm:X.mg "int"=none)(ha:CE X a da)(hg:Gl X "int":=by rfl)(hs1:starEach [a] X.env=(false,eval a X.env)::starEach [] X.env:=by rfl)(hpl:(backTo pos (starEach [] X.env)).any (·.1)=false:=by rfl) :
  CE X (.Call (.Name "int" p) [a] [] pos) (dUn Bt da):=Dx A2 (by
 intro F H v t w Q s hv hw q
 cases t with
 | int i=>cases hw;cases hv.int;exact .inl ⟨i,rfl,q _ H F bI.refl (Rep.ip _)⟩
 | bl i=>cases hw;cases Rep.jt (K:=X.K) (F:=F) hv;exact .inr ⟨i,rfl,q _ H F bI.refl (Rep.ip _)⟩
 | _=>cases hw) hm (by decide +kernel) ha hg (by decide) (by decide) hs1 hpl
theorem JE(i j l:Nat){x y z:Str}{px py pz:Pos}{k:Nat}(hN:X.N.Nodup)(hc:X.calm=true)(hi:X.N[i]?=some x:=by rfl)(hj:X.N[j]?=some y:=by rfl)(hl:X.N[l]?=some z:=by rfl)(hx:Loc X.env.scope x:=by first|exact Or.inl rfl|exact Or.inr rfl)
  (hy:Loc X.env.scope y:=by first|exact Or.inl rfl|exact Or.inr rfl) (hz:Loc X.env.scope z:=by first|exact Or.inl rfl|exact Or.inr rfl)
  (hf:X.fn x=true∨X.env.scope.names.lookup x=some .local:=by first|exact .inl rfl|exact .inr rfl|assumption) (hf':X.fn y=true∨X.env.scope.names.lookup y=some .local:=by first|exact .inl rfl|exact .inr rfl|assumption)
  (NH:X.fn z=true∨X.env.scope.names.lookup z=some .local:=by first|exact .inl rfl|exact .inr rfl|assumption)
  : CB X (.Tuple [.Name x px,.Name y py,.Name z pz] k pos) (cR [i,j,l]) :=
 PG.imp (Cy hc (ly (mB hN hi hx hf) (ly (mB hN hj hy hf') (ly (mB hN hl hz NH) zA)))) λv σ H Q aq=>by
  obtain⟨F,α,e,μ,t,e',S,r,hb,q⟩:=aq
  cases t with
  | tup ts =>
   unfold cR at hb
   simp only at hb
   by_cases hl:ts.length=[i,j,l].length
   ·rw[if_pos hl] at hb
    rw[Rep] at r
    obtain⟨a,vs,rfl,hq,hr⟩:=r
    match ts,vs,hl,hr with
    | [t1,t2,t3],vs,_,hr =>
     rw[aG] at hr
     obtain⟨v1,vs1,rfl,r1,hr⟩:=hr
     rw[aG] at hr
     obtain⟨v2,vs2,rfl,r2,hr⟩:=hr
     rw[aG] at hr
     obtain⟨v3,vs3,rfl,r3,hr⟩:=hr
     rw[aG] at hr
     subst hr
     cases hb
     exact⟨a,_,rfl,aU.lu S.st.ext hq,rfl,v1,[v2,v3],rfl,v2,[v3],rfl,v3,[],rfl,rfl,q _ (((S.set (x:=.val t1) r1).set (x:=.val t2) r2).set (x:=.val t3) r3)⟩
   ·rw[if_neg hl] at hb;cases hb
  | _=>cases hb
theorem JF{tg:Expr}{is:List Nat}(hg:CB X tg (cR is))(he:CE X a da)(hs:swapsWithSole [tg] a pos.line X.env=pure false:=by rfl)(hw:swappedStores [tg] a X.env=pure none:=by rfl)
  (h1:(assignEach [tg] X.env).map (·.2)=[assign tg X.env]:=by rfl):CS X (.Assign [tg] a pos) (Gu is da) :=
 PS.imp (Cz he hg hs hw h1) λD σ H ⟨F,α,e,μ,S,h⟩ =>
  ⟨F,α,e,μ,S,(bh.toS h).mono (λx μ1 h v H1 F1 α1 x1 S1 o1=>by
   obtain⟨e',hb,hp⟩:=bh.lift h
   obtain⟨t,ht,hb⟩:=Option.bind_eq_some_iff.mp hb
   cases x with
   | val t'=>cases ht;exact⟨F1,α1,e,μ1,t,e',S1,o1,hb,λσ' S'=>hp σ' H1 F1 α1 x1 S'⟩
   | cel _=>cases ht
   | box _=>cases ht) λ_ _ h=>h⟩
end
end Fw
namespace L2
open PySem PySem.Spec PyProof.Rows
end L2
namespace Fw
open PySem PySem.Spec PyProof.Rows L2
section
variable{X:Cx}{a b c:Expr}{da db dc:D}{pos p p2 pu pc:Pos}{k:Nat}
end
section
variable{X:Cx}{a b c:Expr}{da db dc:D}{pos p p2 pu pc:Pos}{k:Nat}
end
section
variable{X:Cx}{pos:Pos}
theorem BI{o e1:Expr}{do_ de:D}{apos fU:Pos}(ho:CE X o do_)(he:CF X e1 de)(lC:attributeBase o "extend" X.env (eval o X.env)=eval o X.env:=by rfl)
  (xY:((backTo fU (starEach [e1] X.env)).all (λx=>!x.1) && (backToKw fU (keywordEach [] X.env)).all (λx=>x.1.isSome) && decide (([e1]:List Expr).length+([]:List Keyword).length+(if ([]:List Keyword).isEmpty then 0 else 1)<30))=true:=by rfl)
  (lD:(apos.endLine==fU.line)=true:=by rfl) (hs1:starEach [e1] X.env=(false,eval e1 X.env)::starEach [] X.env:=by rfl) (hpl:(backTo fU (starEach [] X.env)).any (·.1)=false:=by rfl)
  (hs:swapsWith (.Call (.Attribute o "extend" apos) [e1] [] fU) none pos.line X.env=pure false:=by rfl) :
  CS X (.Expr (.Call (.Attribute o "extend" apos) [e1] [] fU) pos) (oB do_ de) :=
 PS.imp (zy (CY PySem.F.plainAttrs_list PySem.F.slot_list_extend PySem.F.type_list_extend A4 ho (zD he.1 CL hs1) lC xY lD hs1 hpl) hs) λD σ H aq=>by
  obtain⟨F,α,e,μ,S,h⟩:=aq
  refine⟨F,α,e,μ,S,(bh.toS h).mono (λx μ1 h v H1 F1 α1 x1 S1 o1=>?_) λ_ _ h=>h⟩
  obtain⟨_,hl,h⟩:=h.lift
  cases x with
  | cel j =>
   obtain⟨ad,ha,rfl⟩:=o1
   have hc:∃bb ts,μ1[j]?=some (bb,.lst ts):=by
    unfold oi at hl
    simp only at hl
    split at hl
    ·exact⟨_,_,by assumption⟩
    ·cases hl
   obtain⟨bb,ts,hj⟩:=hc
   have n1:=bo S1.st (x:=.cel j) (t:=.lst ts) ⟨ad,ha,rfl⟩ (by rw[jN,hj];rfl)
   obtain⟨a',vs,e1,hq,_⟩:=n1.lS
   cases e1
   refine⟨.inl ⟨rfl,vs,hq⟩,F1,α1,e,μ1,S1,(R.yn (bh.toS h)).mono (λy μ2 cJ=>?_) λ_ _ h=>h.mono x1⟩
   obtain⟨hy,h⟩:=cJ
   obtain⟨t,rfl⟩:=he.2 _ _ _ _ hy
   refine⟨t,rfl,λp H2 F2 α2 x2 S2 hp1 hp2 hp3 t5=>?_⟩
   obtain⟨μ3,hx3,LG⟩:=bh.lift h
   have hx3:j7 (.cel j) t μ2=some μ3:=hx3
   cases t with
   | lst us =>
    obtain⟨vs2,hv2,hr2⟩:=t5
    have hcc:∃ts2,μ2[j]?=some (true,.lst ts2)∧ts2.length+us.length≤szL∧μ3=μ2.set j (true,.lst (ts2++us)):=by
     unfold j7 at hx3
     simp only at hx3
     split at hx3
     ·rename_i ts2 hj2
      by_cases hz:ts2.length+us.length≤szL
      ·rw[if_pos hz] at hx3
       cases hx3
       exact⟨ts2,hj2,hz,rfl⟩
      ·rw[if_neg hz] at hx3;cases hx3
     ·cases hx3
    obtain⟨ts2,hj2,hz,rfl⟩:=hcc
    have ha2:α2[j]?=some ad:=kx x2.pre ha
    obtain⟨_,ws,hw,rw'⟩:=(S2.st.cell j true _ ad hj2 ha2).1 rfl
    have l1:=rw'.length
    have l2:=hr2.length
    refine⟨ad,p,ws,vs2,rfl,rfl,hw,hv2,by rw[rk] at hz;lia,?_⟩
    exact LG σ _ F2 α2 ((x1.trans x2).trans (Ex.put ha2)) (S2.of (aU.refl _) (List.prefix_refl _) (u6 S2.st hj2 ha2 ⟨_,aL,rw'.append hr2⟩))
   | _=>cases hx3
  | val t=>cases hl
  | box xs=>cases hl
end
section
variable{X:Cx}{pos p:Pos}{k:Nat}{a:Expr}{da:D}
theorem BJ(hr:dQ k X.A):fo X (.builtin "min") (λxs H Q=>∃(p:Addr) (ns:List Int) (m:Int),xs=[.ref p]∧SqL X.K H p (ns.map V.int)∧m∈ns∧(∀a∈ns,m≤a)∧Q (.int m) H):=by
 intro pins s σ H xs us Q I r h
 obtain⟨p,ns,m,rfl,hq,hm,hle,q⟩:=h
 obtain⟨u,rfl,ru⟩:=vals1 r
 cases ru
 obtain⟨its,rv,pl,hz⟩:=I.list hq
 have hi:IntsAre its ns:=intsAre_of rv
 have lE:AllInts its.toArray:=hi.allInts
 obtain⟨xs,hxs⟩:=lE.items
 have hns:ns=xs.toList.map (·.1):=by rw[← hi.numsOf,← nums_intItems,← hxs]
 have hsz:0<xs.size:=by
  have h3:=List.length_pos_of_mem hm
  rw[hns,List.length_map,Array.length_toList] at h3;exact h3
 rw[hxs] at pl
 refine min_intList hr.hd pl.isList hsz λv h' tk hv hk=>?_
 obtain⟨t,rfl⟩:=intItems_at hv
 obtain⟨h1,h2⟩:=argBest_lt (numAt xs) (xs.size-1)
 have e1:numAt xs (argBest (λi j=>decide (numAt xs i<numAt xs j)) (xs.size-1))=m:=by
  refine Int.le_antisymm ?_ (hle _ ?_)
  ·rw[hns] at hm
   obtain⟨j,hj,e⟩:=mem_getD hm
   rw[List.length_map,Array.length_toList] at hj
   rw[← e,← numAt_eq]
   exact h2 j (by omega)
  ·rw[hns,numAt_eq];exact getD_mem (by rw[List.length_map,Array.length_toList];omega)
 rw[e1]
 exact⟨.int m,H,I.kept (t':=tk) hk,⟨t,rfl⟩,q⟩
theorem GO(hr:dQ k X.A)(hm:X.mg "min"=none)(ha:CE X a da)(hg:Gl X "min":=by rfl)(hs1:starEach [a] X.env=(false,eval a X.env)::starEach [] X.env:=by rfl)(hpl:(backTo pos (starEach [] X.env)).any (·.1)=false:=by rfl) :
  CE X (.Call (.Name "min" p) [a] [] pos) (dUn uB da):=qq (BJ hr) (by
 intro F H v t w Q s hv hw q
 cases t with
 | lst ts =>
  obtain⟨m,h1,rfl⟩:=Option.map_eq_some_iff.mp (show ((gj ts).bind λns=>ns.min?).map _=some w from hw)
  obtain⟨bs,h1,h3⟩:=Option.bind_eq_some_iff.mp h1
  obtain⟨a,vs,rfl,hq,hl⟩:=hv.lS
  rw[j8 h1] at hl
  rw[hl.wV] at hq
  rw[List.min?_eq_some_iff] at h3
  exact⟨a,bs,m,rfl,hq,h3.1,h3.2,q _ H F bI.refl (Rep.ip _)⟩
 | _=>cases hw) hm (by decide +kernel) ha hg (by decide) (by decide) hs1 hpl
end
section
variable{X:Cx}{a b:Expr}{da db:D}{pos p:Pos}{k:Nat}
end
section
variable{X:Cx}{a b:Expr}{da db:D}{pos:Pos}
end
theorem BK(i:Int):Builtin.bitAnd i 1=i%2:=by
 by_cases h:0≤i
 ·exact D5 i h
 ·unfold Builtin.bitAnd
  rw[decide_eq_false h,decide_eq_true (show (0:Int)≤1 by omega)]
  show (1:Int)-(((1:Int).toNat &&& (Builtin.bitNot i).toNat:Nat):Int)=_
  rw[show (1:Int).toNat=1 from rfl,Nat.and_comm,Nat.and_one_is_mod]
  unfold Builtin.bitNot
  omega
theorem BL{K:PySem.W.Frag}:gd K (rI0 λi j=>.int (Builtin.bitAnd i j)) nq:=by
 intro F H v u t t' w Q s hv hu hw q
 cases t<;>cases t'<;>first|cases hw|skip
 rename_i i j
 have hw:(if j=1 then some (T.int (i%2)) else none)=some w:=hw
 by_cases hc:j=1
 ·rw[if_pos hc] at hw
  cases hw
  subst hc
  cases hv.int
  cases hu.int
  refine⟨i,1,rfl,rfl,?_⟩
  show Q (V.int (Builtin.bitAnd i 1)) H
  rw[BK i]
  exact q _ H F bI.refl (Rep.ip _)
 ·rw[if_neg hc] at hw;cases hw
theorem D6{X:Cx}{a b:Expr}{da db:D}{pos:Pos}(ha:CE X a da)(hb:CE X b db):CE X (.BinOp a .BitAnd b pos) (aj nq da db):=lM Iz BL ha hb
section
variable{X:Cx}{body:List Stmt}{es:List Expr}{ds:List D}{d:DS}{pos np lp:Pos}
end
end Fw
namespace L2
open PySem PySem.Spec PyProof.Rows
section
variable{prog:Program}{w:World}{A:Around}{E:Value→Shared→Prop}{s:Shared}
end
section
variable{prog:Program}{w:World}{A:Around}{E:Value→Shared→Prop}{s:Shared}
end
end L2
namespace Fw
open PySem PySem.Spec PyProof.Rows L2
end Fw
namespace L2
open PySem PySem.Spec PyProof.Rows
open AutoSeq1 (wpAny_loadPart')
section
variable{prog:Program}{w:World}{A:Around}{E:Value→Shared→Prop}{s:Shared}
end
end L2
namespace HT
open PySem PySem.Spec PyProof.Rows L2
section
variable{prog:Program}{w:World}{A:Around}{E:Value→Shared→Prop}{s:Shared}
end
end HT
namespace L2
open PySem PySem.Spec PyProof.Rows
end L2
namespace Fw
open PySem PySem.Spec PyProof.Rows L2
end Fw
namespace Fw
open PySem L2 PyProof.Rows
section
variable{X:Cx}{pins:List (Addr×Obj)}{σ:L2.St}{H:Hp}{s:Shared}
end
section
variable{X:Cx}{a:Expr}{da:D}{p pos:Pos}{b:Bool}
end
section
variable{X:Cx}{E:Value→Shared→Prop}{pins:List (Addr×Obj)}{σ:L2.St}{H:Hp}{s:Shared}
end
end Fw
namespace L2
open PySem PySem.Spec PyProof.Rows Fw
section
variable{X:Cx}
end
end L2
namespace Fw
open PySem PySem.Spec PyProof.Rows L2
section
variable{X:Cx}{a:Expr}{da:D}{p pos:Pos}
end
section
variable{X:Cx}{pins:List (Addr×Obj)}{σ:L2.St}{H:Hp}{s:Shared}{k:Nat}
end
section
variable{X:Cx}{a b:Expr}{da db:D}{pos:Pos}{k:Nat}
end
end Fw
namespace L2
open PySem PySem.Spec PyProof.Rows
end L2
namespace Fw
open PySem PySem.Spec PyProof.Rows L2
end Fw
namespace L2
open PySem PySem.Spec PyProof.Rows
section
variable{prog:Program}{w:World}{A:Around}{E:Value→Shared→Prop}{s:Shared}
noncomputable abbrev JG (h : Heap) (z TI TO a : Addr) (f : Bool) : Prop := h.get? z = some { cls := .type "zip", dict := none, data := .fields #[rawInt a, .bool f, .bool false, .ref TI, .ref TO], slots := #[] }
structure ZOA(z TI i1 i2 l1 l2:Addr):Prop where
 TIz:TI≠z
 i1z:i1≠z
 i2z:i2≠z
 i12:i1≠i2
 l1z:l1≠z
 l1i1:l1≠i1
 l2z:l2≠z
 l2i1:l2≠i1
end
section
variable{X:Cx}{pins:List (Addr×Obj)}{σ:L2.St}{H:Hp}{s:Shared}
structure ZO(k1 k2:Bool)(z TI TO i1 i2 l1 l2:Addr)(i:Nat)(H:Hp)(h:Heap):Prop where
 zz:IsZip h z TI TO .none∨∃a f ws,H a=some (.tup ws)∧JG h z TI TO a f
 ti:IsPair h TI (.ref i1) (.ref i2)
 to:∃a b,IsPair h TO a b
 one:KIt k1 h i1 l1 i
 two:KIt k2 h i2 l2 i
theorem ZO.keep{k1 k2:Bool}{z TI TO i1 i2 l1 l2:Addr}{i:Nat}{h h':Heap}(st:ZO k1 k2 z TI TO i1 i2 l1 l2 i H h)(k:∀b∈[z,TI,TO,i1,i2],∀o,h.get? b=some o→h'.get? b=some o):ZO k1 k2 z TI TO i1 i2 l1 l2 i H h':=by
 obtain⟨a,b,hto⟩:=st.to
 refine⟨?_,k TI (.tail _ (.head _)) _ st.ti,⟨a,b,k TO (.tail _ (.tail _ (.head _))) _ hto⟩,st.one.at λo e=>k i1 (.tail _ (.tail _ (.tail _ (.head _)))) o e,st.two.at λo e=>k i2 (.tail _ (.tail _ (.tail _ (.tail _ (.head _))))) o e⟩
 rcases st.zz with hz|⟨c,f,ws,hc,hz⟩
 ·exact .inl (k z (.head _) _ hz)
 ·exact .inr ⟨c,f,ws,hc,k z (.head _) _ hz⟩
theorem ZO.apart{k1 k2:Bool}{z TI TO i1 i2 l1 l2:Addr}{i:Nat}{xs ys:List V}(d1:TI≠TO)(d2:i1≠i2)(I:Inv X pins σ H s)(hf:∀b∈[z,TI,TO,i1,i2],lA X pins H b)(st:ZO k1 k2 z TI TO i1 i2 l1 l2 i H s.heap)(h1:jP X.K k1 H l1 xs)(h2:jP X.K k2 H l2 ys) :
  ZipApart z TI TO i1 i2 l1 l2∧ZOA z TI i1 i2 l1 l2:=by
 obtain⟨a,b,hto⟩:=st.to
 obtain⟨o1,e1,q1⟩:=st.one.ob
 obtain⟨o2,e2,q2⟩:=st.two.ob
 obtain⟨oz,vz,ez,qz,sz⟩:∃(oz:Obj) (vz:Array Value),s.heap.get? z=some oz∧oz.data=.fields vz∧vz.size=5:=by
  rcases st.zz with hz|⟨c,f,ws,hc,hz⟩
  ·exact⟨_,_,hz,rfl,rfl⟩
  ·exact⟨_,_,hz,rfl,rfl⟩
 have neP:∀{c d:Addr}{o:Obj}{u v:Value}{vs:Array Value},IsPair s.heap c u v→s.heap.get? d=some o→o.data=.fields vs→c≠d:=λ{c d o u v vs} hp ho hd e=>by
  subst e
  have hp:s.heap.get? c=some { cls:=.type "tuple",data:=.seq #[u,v] }:=hp
  rw[hp] at ho;cases ho;cases hd
 have neZ:∀{d:Addr}{l:Addr}{o:Obj}{n:Nat},s.heap.get? d=some o→o.data=.fields #[.ref l,.int n 0]→d≠z:=λ{d l o n} ho hd e=>by
  subst e
  rw[ez] at ho;cases ho
  rw[qz] at hd
  have:vz=#[.ref l,.int n 0]:=by injection hd
  rw[this] at sz
  exact absurd sz (by simp)
 have w:∀c∈[z,TI,TO,i1,i2],l1≠c∧l2≠c:=λc hc=>⟨jf I h1 (hf c hc),jf I h2 (hf c hc)⟩
 have D:ZipApart z TI TO i1 i2 l1 l2:={ TIz:=neP st.ti ez qz,TOz:=neP hto ez qz,i1z:=neZ e1 q1,i2z:=neZ e2 q2,TITO:=d1,TIi1:=neP st.ti e1 q1,TIi2:=neP st.ti e2 q2,TOi1:=neP hto e1 q1,TOi2:=neP hto e2 q2,i12:=d2,l1z:=(w z (.head _)).1,l1TO:=(w TO (.tail _ (.tail _ (.head _)))).1,l1i1:=(w i1 (.tail _ (.tail _ (.tail _ (.head _))))).1,l1i2:=(w i2 (.tail _ (.tail _ (.tail _ (.tail _ (.head _)))))).1,l2z:=(w z (.head _)).2,l2TO:=(w TO (.tail _ (.tail _ (.head _)))).2,l2i1:=(w i1 (.tail _ (.tail _ (.tail _ (.head _))))).2,l2i2:=(w i2 (.tail _ (.tail _ (.tail _ (.tail _ (.head _)))))).2 }
 exact⟨D,⟨D.TIz,D.i1z,D.i2z,D.i12,D.l1z,D.l1i1,D.l2z,D.l2i1⟩⟩
end
end L2
namespace Fw
open PySem PySem.Spec PyProof.Rows L2
end Fw
namespace L2
open PySem PySem.Spec PyProof.Rows
end L2
namespace Fw
open PySem PySem.Spec PyProof.Rows L2
end Fw
namespace L2
open PySem PySem.Spec PyProof.Rows
section
variable{prog:Program}{w:World}{A:Around}{E:Value→Shared→Prop}{s:Shared}{d it:Addr}{es:Array DictEntry}{ep i:Nat}
end
section
variable{X:Cx}{pins:List (Addr×Obj)}{σ:List (Option V)}{H:Hp}{s:Shared}{d:Addr}{kvs:List (List Key×V)}
end
end L2
namespace Fw
open PySem
end Fw
namespace Fw
open PySem PySem.Spec PyProof.Rows L2
section
variable{X:Cx}{a b c:Expr}{da db dc:D}{pos p p2:Pos}{k:Nat}
end
end Fw
namespace HT
open PySem PyProof.Rows
section
open PySem.SeqAt
open PySem.AutoSeq1 (wpAny_loadPart')
open PySem.MeetsSeq PySem.MeetsSeq2 PySem.MeetsSeq3
end
section
variable{prog:Program}{w:World}{A:Around}{E:Value→Shared→Prop}{s:Shared}
end
end HT
namespace HT
open PySem PySem.W PySem.Calls PyProof.Rows
section
variable{n:Nat}{p:Array Nat}
end
section
variable{prog:Program}{w:World}{A:Around}{E:Value→Shared→Prop}{s:Shared}
end
end HT
namespace Fw
open PySem
end Fw
namespace HT
open PySem PySem.W PySem.Calls PyProof.Rows
section
variable{prog:Program}{w:World}{A:Around}{E:Value→Shared→Prop}{s:Shared}
end
end HT
namespace L2
open PySem PySem.Spec PyProof.Rows Fw
section
variable{X:Cx}
def LsI(K:PySem.W.Frag)(H:Hp):List V→List (List Int)→Prop
 | [],[]=>True
 | v::vs,ns::nss=>(∃a,v=.ref a∧SqL K H a (ns.map V.int))∧LsI K H vs nss
 | _,_=>False
theorem LsI.len{K:PySem.W.Frag}{H:Hp}:∀{vs:List V}{nss:List (List Int)},LsI K H vs nss→vs.length=nss.length
 | [],[],_=>rfl
 | _::_,_::_,h=>by rw[List.length_cons,List.length_cons,LsI.len h.2]
end
end L2
namespace Fw
open PySem PySem.Spec PyProof.Rows L2
section
variable{K:PySem.W.Frag}{F H:Hp}
end
section
variable{X:Cx}{a:Expr}{da:D}{p pos:Pos}{k:Nat}
end
end Fw
namespace Fw
open PySem
end Fw
namespace Fw
open PySem PySem.Spec PyProof.Rows L2
section
variable{K:PySem.W.Frag}{F H:Hp}{α:List Addr}{μ:ah}
end
section
variable{X:Cx}{a b:Expr}{da db:D}{pos:Pos}{k:Nat}
end
section
variable{X:Cx}{body:List Stmt}{it:Expr}{dv:D}{d:DS}{pos np:Pos}
end
end Fw
namespace HT
open PySem PySem.Calls PyProof.Rows
section
variable{prog:Program}{w:World}{A:Around}{E:Value→Shared→Prop}{s:Shared}
end
end HT
namespace L2
open PySem PySem.Spec PyProof.Rows Fw
section
variable{X:Cx}
end
end L2
namespace Fw
open PySem PySem.Spec PyProof.Rows L2
section
variable{X:Cx}{a:Expr}{da:D}{p pos:Pos}
end
end Fw
namespace Fw
open PySem
end Fw
namespace L2
open PySem PySem.Spec PyProof.Rows
end L2
namespace Fw
open PySem PySem.Spec PyProof.Rows L2
section
variable{X:Cx}{a b:Expr}{da db:D}{pos:Pos}{k:Nat}
end
section
variable{X:Cx}{a b:Expr}{da db:D}{pos:Pos}{k:Nat}
end
end Fw
namespace Fw
open PySem
def oF:T→Option T
 | .lst ts=>((gj ts).bind λns=>ns.max?).map T.int
 | _=>none
theorem w5{ns:List Int}{m:Int}(h:m∈ns)(h2:∀a∈ns,a≤m):oF (.lst (ns.map T.int))=some (.int m):=by
 have:ns.max?=some m:=List.max?_eq_some_iff.mpr ⟨h,h2⟩
 simp[oF,ko,this]
def D7:T→T→Option T
 | .lst ts,.int k=>(gj ts).bind λns=>if k∈ns then some (.int (ns.idxOf k:Nat)) else none
 | _,_=>none
def Al(do_ de:D):D:=λe μ=>(do_ e μ).bind λx μ1=>(R.lift ((rd μ1 x).bind DH) μ1).bind λ_ μ1=>(de e μ1).bind λy μ2=>R.lift (ap2 D7 (rd μ2 x) (rd μ2 y)) μ2
theorem D8(do_ de:D)(e:Slots)(μ:ah):Al do_ de e μ=(do_ e μ).bind λx μ1=>(R.lift ((rd μ1 x).bind DH) μ1).bind λ_ μ1=>(de e μ1).bind λy μ2=>R.lift (ap2 D7 (rd μ2 x) (rd μ2 y)) μ2:=(rfl)
end Fw
namespace Fw
open PySem PySem.Spec PyProof.Rows L2
theorem argBest_gt(f:Nat→Int)(n:Nat):argBest (λi j=>decide (f i > f j)) n≤n∧∀j,j≤n→f j≤f (argBest (λi j=>decide (f i > f j)) n):=by
 have e:(λi j=>decide (f i > f j))=λi j=>decide ((λk=>- f k) i<(λk=>- f k) j):=by
  funext i j
  rw[decide_eq_decide]
  show f j<f i↔- f i< - f j
  omega
 obtain⟨h1,h2⟩:=argBest_lt (λk=>- f k) n
 rw[← e] at h1 h2
 refine⟨h1,λj hj=>?_⟩
 have:=h2 j hj
 have:- f (argBest (λi j=>decide (f i > f j)) n)≤- f j:=this
 omega
section
variable{X:Cx}{pos p:Pos}{k:Nat}{a:Expr}{da:D}
theorem BM(hr:dQ k X.A):fo X (.builtin "max") (λxs H Q=>∃(p:Addr) (ns:List Int) (m:Int),xs=[.ref p]∧SqL X.K H p (ns.map V.int)∧m∈ns∧(∀a∈ns,a≤m)∧Q (.int m) H):=by
 intro pins s σ H xs us Q I r h
 obtain⟨p,ns,m,rfl,hq,hm,hle,q⟩:=h
 obtain⟨u,rfl,ru⟩:=vals1 r
 cases ru
 obtain⟨its,rv,pl,hz⟩:=I.list hq
 have hi:IntsAre its ns:=intsAre_of rv
 have lE:AllInts its.toArray:=hi.allInts
 obtain⟨xs,hxs⟩:=lE.items
 have hns:ns=xs.toList.map (·.1):=by rw[← hi.numsOf,← nums_intItems,← hxs]
 have hsz:0<xs.size:=by
  have h3:=List.length_pos_of_mem hm
  rw[hns,List.length_map,Array.length_toList] at h3;exact h3
 rw[hxs] at pl
 refine max_intList hr.hd pl.isList hsz λv h' tk hv hk=>?_
 obtain⟨t,rfl⟩:=intItems_at hv
 obtain⟨h1,h2⟩:=argBest_gt (numAt xs) (xs.size-1)
 have e1:numAt xs (argBest (λi j=>decide (numAt xs i > numAt xs j)) (xs.size-1))=m:=by
  refine Int.le_antisymm (hle _ ?_) ?_
  ·rw[hns,numAt_eq];exact getD_mem (by rw[List.length_map,Array.length_toList];omega)
  ·rw[hns] at hm
   obtain⟨j,hj,e⟩:=mem_getD hm
   rw[List.length_map,Array.length_toList] at hj
   rw[← e,← numAt_eq]
   exact h2 j (by omega)
 rw[e1]
 exact⟨.int m,H,I.kept (t':=tk) hk,⟨t,rfl⟩,q⟩
theorem Am(hr:dQ k X.A)(hm:X.mg "max"=none)(ha:CE X a da)(hg:Gl X "max":=by rfl)(hs1:starEach [a] X.env=(false,eval a X.env)::starEach [] X.env:=by rfl)(hpl:(backTo pos (starEach [] X.env)).any (·.1)=false:=by rfl) :
  CE X (.Call (.Name "max" p) [a] [] pos) (dUn oF da):=qq (BM hr) (by
 intro F H v t w Q s hv hw q
 cases t with
 | lst ts =>
  obtain⟨m,h1,rfl⟩:=Option.map_eq_some_iff.mp (show ((gj ts).bind λns=>ns.max?).map _=some w from hw)
  obtain⟨bs,h1,h3⟩:=Option.bind_eq_some_iff.mp h1
  obtain⟨a,vs,rfl,hq,hl⟩:=hv.lS
  rw[j8 h1] at hl
  rw[hl.wV] at hq
  rw[List.max?_eq_some_iff] at h3
  exact⟨a,bs,m,rfl,hq,h3.1,h3.2,q _ H F bI.refl (Rep.ip _)⟩
 | _=>cases hw) hm (by decide +kernel) ha hg (by decide) (by decide) hs1 hpl
end
theorem GP{prog:Program}{w:World}{A:Around}{E:Value→Shared→Prop}{s:Shared}{l:Addr}{vs:List Value}{ns:List Int}{k:Int}{t:Tok}{Q:Value→Shared→Prop}(hl:s.heap.IsList l vs.toArray)(hi:IntsAre vs ns)(hz:vs.length≤sizeLine)(hk:k∈ns)
  (h:Q (.int (ns.idxOf k:Nat) s.toks) { s with toks:=s.toks+1 }):wpAny (model prog w) A (call (.builtin "list.index") [.ref l,.int k t]) Q E s:=by
 obtain⟨ob,ho,hc,n,hd⟩:=id hl
 obtain⟨c1,dd,d1,sl⟩:=ob
 cases hc
 cases hd
 have len:=hi.length
 have lt:ns.idxOf k<ns.length:=List.idxOf_lt_length_iff.mpr hk
 have hz2:vs.length<2 ^ 62:=Nat.lt_of_le_of_lt hz (by rw[sizeLine_eq];decide)
 have e1:isInt k (vs[ns.idxOf k]'(by omega))=true:=by
  rw[isInt_at k hi _ (by omega) lt]
  simpa using List.getElem_idxOf lt
 have e2:∀(j:Nat) (hj:j<vs.length),j<ns.idxOf k→isInt k vs[j]=false:=λj hj hlt=>by
  rw[isInt_at k hi j hj (by omega)]
  exact ne_of_lt_idxOf hlt _
 have m:=SeqAt.list_indexAt l vs.toArray n dd sl (.int k t) (isInt k) (ns.idxOf k) (by simpa [len] using lt) (by omega) e1 λj hj hlt=>e2 j (by simpa using hj) hlt
 exact call_meets PySem.F.slot_list_index ⟨_,ho,rfl⟩ PySem.F.entry_list_index (PySem.F.args_list_index_2 _ _) m ⟨ho,λy hy=>(eq_isInt k t hi y (by simpa using hy)).at _ _,h⟩
section
variable{X:Cx}
theorem GQ:MtR X "list.index" (λx vs H Q=>∃(p:Addr) (ns:List Int) (m:Int),x=.ref p∧vs=[.int m]∧SqL X.K H p (ns.map V.int)∧m∈ns∧Q (.int (ns.idxOf m:Nat)) H):=by
 intro pins s σ H x vs v us Q I rx rv h
 obtain⟨p,ns,m,rfl,rfl,hq,hm,q⟩:=h
 cases rx
 obtain⟨u,rfl,ru⟩:=rv.one
 obtain⟨t,rfl⟩:=ru
 obtain⟨its,rv,pl,hz⟩:=I.list hq
 have hi:IntsAre its ns:=intsAre_of rv
 exact GP pl.isList hi (by rw[hi.length];simpa using hz) hm ⟨.int _,H,I.kept (t':=s.toks+1) λb o e=>e,⟨_,rfl⟩,q⟩
theorem GR{o e1:Expr}{do_ de:D}{apos fU:Pos}(ho:CE X o do_)(he:CE X e1 de)(lC:attributeBase o "index" X.env (eval o X.env)=eval o X.env:=by rfl)
  (xY:((backTo fU (starEach [e1] X.env)).all (λx=>!x.1) && (backToKw fU (keywordEach [] X.env)).all (λx=>x.1.isSome) && decide (([e1]:List Expr).length+([]:List Keyword).length+(if ([]:List Keyword).isEmpty then 0 else 1)<30))=true:=by rfl)
  (lD:(apos.endLine==fU.line)=true:=by rfl) (hs1:starEach [e1] X.env=(false,eval e1 X.env)::starEach [] X.env:=by rfl) (hpl:(backTo fU (starEach [] X.env)).any (·.1)=false:=by rfl) :
  CE X (.Call (.Attribute o "index" apos) [e1] [] fU) (Al do_ de) :=
 PE.imp (CY PySem.F.plainAttrs_list PySem.F.slot_list_index PySem.F.type_list_index GQ ho (ag he ar hs1) lC xY lD hs1 hpl) λσ H Q aq=>by
  obtain⟨F,α,e,μ,S,h⟩:=aq
  refine⟨F,α,e,μ,S,(R.wp_bind h).mono (λx μ1 h v H1 F1 α1 x1 S1 o1=>?_) λ_ _ h=>h⟩
  obtain⟨us,hl,h⟩:=R.bK (R.wp_bind h)
  obtain⟨t,ht,hl⟩:=Option.bind_eq_some_iff.mp hl
  cases t with
  | lst ts =>
   have n1:=bo S1.st o1 ht
   obtain⟨a',vs,e1,hq,_⟩:=n1.lS
   subst e1
   refine⟨.inl ⟨rfl,vs,hq⟩,qX ⟨F1,α1,e,μ1,S1,(R.wp_bind h).mono (λy μ2 h v2 H2 F2 α2 x2 S2 o2=>?_) λ_ _ h=>h.mono x1⟩⟩
   obtain⟨w,h9,post⟩:=R.bK h
   obtain⟨t,u,w',ht2,hu,hw,rfl⟩:=qF h9
   cases t with
   | lst ts2 =>
    cases u with
    | int m =>
     obtain⟨ns,h3,h4⟩:=Option.bind_eq_some_iff.mp (show ((gj ts2).bind λns=>if m∈ns then some (T.int (ns.idxOf m:Nat)) else none)=some w' from hw)
     by_cases hm:m∈ns
     ·rw[if_pos hm] at h4
      cases h4
      have n2:=bo S2.st (o1.mono x2.same x2.pre) ht2
      obtain⟨a2,vs2,e2,hq2,hl2⟩:=n2.lS
      cases e2
      rw[j8 h3] at hl2
      rw[hl2.wV] at hq2
      cases (bo S2.st o2 hu).int
      exact⟨a',ns,m,rfl,rfl,hq2,hm,post _ H2 F2 α2 (x1.trans x2) S2 (Rep.ip (K:=X.K) (F:=F2) _)⟩
     ·rw[if_neg hm] at h4;cases h4
    | _=>cases hw
   | _=>cases hw
  | _=>cases hl
end
end Fw
namespace Fw.k95
open PySem Fw
def nr:DS :=
 (ax (aC 3 (aj aW (ae 2) (ae 0)))
 (ax (sIf (aj fEq (ae 3) (dC (.int 0))) Jd b_)
 (ax (aC 4 (aj aW (ae 1) (ae 0)))
 (ax (m7 (aj fNe (ae 3) (dC (.int 1))) (ax (aC 4 (aj aW (aj aQ (dUn yc (ae 4)) (aj iJ (ae 0) (ae 3))) (ae 0)))
 (aC 3 (aj aW (ae 0) (ae 3)))))
 (aH (ae 4))))))
def oG:FN:=fnV 5 nr
def kK:DS :=
 (aH (aj aW (dUn mZ (aT (pE (ae 1) (ae 2)) [none,none] (cR [0,1]) (dC (.bl true)) (aj aQ (ae 0) (ae 1)))) (ae 0)))
def b3:FN:=fnV 3 kK
def kL:DS :=
 (aH (aT (fh (ae 2)) [none,some 0,some 1] (aD 0) (dC (.bl true)) (aj aW (aj aQ (ae 2) (ae 0)) (ae 1))))
def lX:FN:=fnV 3 kL
def ib:DS :=
 (ax (aC 4 (aw (ae 1) (ae 3)))
 (ax (sIf (aj fEq (ae 4) (dC (.int 0))) (aH (ae 1)) b_)
 (aH (aT (pE (ae 1) (ae 2)) [none,none,some 0,some 4] (cR [0,1]) (dC (.bl true)) (aj aW (aj qK (ae 0) (aj aQ (ae 3) (ae 1))) (ae 2))))))
def oH:FN:=fnV 5 ib
def dM:DS :=
 (ax (eQ (aV (ae 1)) (aD 2) (sIf (aj fNe (aw (ae 0) (ae 2)) (dC (.int 0))) (aH (ae 2)) b_))
 (aH (dC (.non))))
def jg:FN:=fnV 3 dM
def mH:DS :=
 (ax (aC 3 (cS (dC (.dct []))))
 (ax (aC 4 (cS (ft [])))
 (ax (eQ (fh (ae 1)) (aD 5) (ax (aC 6 (ae 5))
 (ax (eQ (kF (ae 3)) (cR [7,8]) (aC 6 (au (cal oH) [(ae 0),(ae 6),(ae 8),(ae 7)])))
 (ax (aC 9 (au (cal jg) [(ae 6),(ae 2)]))
 (sIf (dUn j3 (ae 9)) (ee (ae 4) (ae 6)) (ax (aC 10 (au (cal lX) [(ae 0),(au (cal oG) [(ae 0),(dC (.int 1)),(aw (ae 6) (ae 9))]),(ae 6)]))
 (ax (eQ (fh (dUn zS (ae 3))) (aD 7) (p7 3 (ae 7) (au (cal oH) [(ae 0),(aj rg (ae 3) (ae 7)),(ae 10),(ae 9)])))
 (p7 3 (ae 9) (ae 10)))))))))
 (aH (jK [(ae 3),(ae 4)])))))
def iu:FN:=fnV 11 mH
def cj:DS :=
 (aH (aT (fh (ae 1)) [none,some 0,some 2] (aD 0) (dC (.bl true)) (aj aW (aw (ae 0) (ae 2)) (ae 1))))
def bV:FN:=fnV 3 cj
def jQ:DS :=
 (ax (aC 2 (cS (iP il [(dC (.int 0))] (ae 0))))
 (ax (bG 2 (ae 1) (dC (.int 1)))
 (aH (ae 2))))
def mI:FN:=fnD 3 jQ
def jw:FN:=fnV 3 jQ
def kM:DS :=
 (ax (aC 4 (fV (ae 2)))
 (ax (aC 5 (cS (ft [])))
 (ax (eQ (aV (ae 1)) (aD 6) (ee (ae 5) (aj bw (aj bw (au (cal bV) [(ae 0),(ae 2),(ae 6)]) (ft [(aj aW (aw (ae 3) (ae 6)) (ae 0))])) (au (cal jw) [(ae 1),(ae 6)]))))
 (ax (aC 7 (au (cal iu) [(ae 0),(ae 5),(ae 4)]))
 (ax (eQ (fh (aw (ae 7) (dC (.int 1)))) (aD 8) (sIf (aj fNe (aw (ae 8) (ae 4)) (dC (.int 0))) (aH (lj [(dC (.str "turn")),(dUn dR (au (cal lX) [(ae 0),(au (cal oG) [(ae 0),(dC (.int 1)),(aw (ae 8) (ae 4))]),(yi (ae 8) (some (aj bw (ae 4) (dC (.int 1)))) none)]))])) b_))
 (ax (aC 9 (cS (iP il [(dC (.int 0))] (ae 4))))
 (ax (eQ (kF (aw (ae 7) (dC (.int 0)))) (cR [6,10]) (bG 9 (ae 6) (aw (ae 10) (ae 4))))
 (aH (lj [(dC (.str "sum")),(ae 9)])))))))))
def ic:FN:=fnK 11 kM
def iT:DS :=
 (ax (aC 4 (au (cal mI) [(ae 2),(ae 3)]))
 (ax (eQ (kF (ae 1)) (cR [5,6]) (bG 4 (ae 5) (aj aW (dUn yc (aw (ae 6) (ae 3))) (ae 0))))
 (aH (ae 4))))
def cy:FN:=fnV 7 iT
def eF:DS :=
 (ax (aC 3 (fV (ae 2)))
 (ax (aC 4 (aw (au (cal iu) [(ae 0),(aT (aV (ae 1)) [none,some 0,some 2] (aD 0) (dC (.bl true)) (au (cal bV) [(ae 1),(ae 2),(ae 0)])),(ae 3)]) (dC (.int 0))))
 (aH (aT (aV (ae 3)) [none,some 0,some 4,some 3] (aD 0) (aj uw (ae 0) (ae 2)) (au (cal cy) [(ae 1),(ae 2),(ae 3),(ae 0)])))))
def dU:FN:=fnV 5 eF
def GS:DS :=
 (aH (aT (fh (aw (ae 0) (dC (.int 2)))) [none,some 1,some 0] (aD 0) (dC (.bl true)) (au (cal b3) [(aw (ae 2) (dC (.int 0))),(aw (ae 0) (dC (.int 1))),(ae 1)])))
def oI:FN:=fnV 2 GS
def BN:DS :=
 (aH (aT (uA (aw (ae 0) (dC (.int 2)))) [none,none,some 1] (cR [0,1]) (aj fIn (aw (ae 1) (dC (.int 0))) (ae 2)) (ae 0)))
def fZ:FN:=fnV 2 BN
def kN:DS :=
 (aH (aT (fh (ae 1)) [none,some 0] (aD 0) (dC (.bl true)) (aw (aw (aw (ae 1) (dC (.int 2))) (ae 0)) (dC (.int 1)))))
def bH:FN:=fnV 2 kN
def ie:DS :=
 (aH (dUn dR (aT (aV (ae 0)) [none] (aD 0) (dC (.bl true)) (FE (aj fEq (ae 0) (dC (.int 0))) (dC (.int 1)) (dC (.int 0))))))
def cL:FN:=fnV 1 ie
def jx:DS :=
 (ax (aC 2 (au (cal ic) [(aw (ae 0) (dC (.int 0))),(aw (ae 0) (dC (.int 1))),(au (cal bH) [(ae 0),(ae 1)]),(au (cal cL) [(aw (ae 0) (dC (.int 1)))])]))
 (ax (sIf (aj fEq (aw (ae 2) (dC (.int 0))) (dC (.str "sum"))) (aH (lj [(dC (.str "open")),(aw (ae 2) (dC (.int 1)))])) b_)
 (aH (lj [(dC (.str "shut")),(aw (ae 2) (dC (.int 1)))]))))
def bD:FN:=fnK 3 jx
def kO:DS :=
 (aH (au (cal bD) [(ae 0),(au (cal fZ) [(ae 0),(ae 1)])]))
def dW:FN:=fnV 2 kO
def jy:DS :=
 (aH (aT (uA (ae 0)) [none,none] (cR [0,1]) (dUn gk (ae 1)) (ae 0)))
def bW:FN:=fnV 1 jy
def j_:DS :=
 (ax (aC 3 (aw (ae 0) (dC (.int 1))))
 (ax (aC 4 (aT (pE (au (cal bH) [(ae 0),(ae 1)]) (ae 2)) [none,none] (cR [0,1]) (dC (.bl true)) (aj bw (dUn dR (ae 0)) (jK [(ae 1)]))))
 (ax (aC 5 (au (cal ic) [(aw (ae 0) (dC (.int 0))),(aj bw (ae 3) (dC (.int 1))),(ae 4),(dUn dR (au (cal jw) [(aj bw (ae 3) (dC (.int 1))),(ae 3)]))]))
 (ax (sIf (aj fEq (aw (ae 5) (dC (.int 0))) (dC (.str "sum"))) (aH (aw (ae 5) (dC (.int 1)))) b_)
 (aH (dC (.non)))))))
def i9:FN:=fnD 6 j_
def jh:DS :=
 (ax (aC 2 (au (cal bW) [(ae 1)]))
 (ax (aC 3 (aT (fh (ae 2)) [none,some 1] (aD 0) (dC (.bl true)) (aw (ae 1) (ae 0))))
 (ax (aC 4 (au (cal i9) [(ae 0),(ae 2),(ae 3)]))
 (ax (sIf (dUn gk (ae 4)) (aH (lj [(dC (.str "none")),(ae 4)])) b_)
 (ax (aC 5 (au (cal bD) [(ae 0),(ae 2)]))
 (ax (sIf (aj fEq (aw (ae 5) (dC (.int 0))) (dC (.str "shut"))) (aH (lj [(dC (.str "any")),(aw (ae 5) (dC (.int 1)))])) b_)
 (aH (lj [(dC (.str "one")),(au (cal b3) [(aw (ae 0) (dC (.int 0))),(aw (ae 5) (dC (.int 1))),(ae 3)]),(aw (ae 5) (dC (.int 1)))]))))))))
def eP:FN:=fnV 6 jh
def gq:DS :=
 (ax (aC 2 (dC (.int 1)))
 (ax (eQ (aV (ae 1)) (aD 3) (aC 2 (aj aQ (ae 2) (ae 0))))
 (aH (ae 2))))
def bp:FN:=fnV 4 gq
def gu:DS :=
 (ax (aC 2 (au (cal bH) [(ae 0),(au (cal bW) [(ae 1)])]))
 (aH (aj bw (aj qK (aw (ae 0) (dC (.int 1))) (fV (ae 2))) (fV (au (cal dU) [(aw (ae 0) (dC (.int 0))),(aw (ae 0) (dC (.int 1))),(ae 2)])))))
def cg:FN:=fnV 3 gu
def w6:DS :=
 (ax (aC 2 (aw (ae 0) (dC (.int 0))))
 (ax (aC 3 (au (cal eP) [(ae 0),(ae 1)]))
 (ax (sIf (aj fEq (aw (ae 3) (dC (.int 0))) (dC (.str "none"))) (aH (iP il [(dC (.int 0))] (ae 2))) b_)
 (ax (aC 4 (au (cal cg) [(ae 0),(ae 1)]))
 (ax (sIf (aj fEq (aw (ae 3) (dC (.int 0))) (dC (.str "any"))) (aH (iP il [(au (cal bp) [(ae 2),(aj qK (ae 4) (dC (.int 1)))])] (ae 2))) b_)
 (ax (aC 5 (cS (iP il [(dC (.int 0))] (ae 2))))
 (ax (bG 5 (aw (ae 3) (dC (.int 1))) (au (cal bp) [(ae 2),(ae 4)]))
 (aH (ae 5)))))))))
def gv:FN:=fnV 6 w6
def An:DS :=
 (aH (aT (pE (ae 1) (ae 2)) [none,none,some 0] (cR [0,1]) (dC (.bl true)) (aj aW (aj bw (ae 0) (ae 1)) (ae 2))))
def lY:FN:=fnV 3 An
def iU:DS :=
 (aH (aj bw (jK [(ae 0)]) (dUn dR (ae 1))))
def dN:FN:=fnV 2 iU
def uD:DS :=
 (aH (au (cal lY) [(aw (ae 0) (dC (.int 0))),(ae 1),(au (cal oI) [(ae 0),(au (cal dN) [(dC (.int 0)),(ae 2)])])]))
def h7:FN:=fnV 3 uD
def oJ:DS :=
 (ax (aC 3 (au (cal dW) [(ae 0),(ae 1)]))
 (ax (sIf (aj fEq (aw (ae 3) (dC (.int 0))) (dC (.str "open"))) (aH (jK [(dC (.str "open")),(dC (.int 0)),(aw (ae 3) (dC (.int 1)))])) b_)
 (ax (aC 4 (au (cal dW) [(ae 0),(ae 2)]))
 (ax (sIf (aj fEq (aw (ae 4) (dC (.int 0))) (dC (.str "open"))) (aH (jK [(dC (.str "open")),(dC (.int 1)),(aw (ae 4) (dC (.int 1)))])) b_)
 (aH (jK [(dC (.str "shut")),(aw (ae 3) (dC (.int 1))),(aw (ae 4) (dC (.int 1)))]))))))
def eG:FN:=fnV 5 oJ
def w8:DS :=
 (ax (sIf (aj fLt (ae 1) (fV (ae 0))) (aH (aw (ae 0) (ae 1))) b_)
 (ax (aC 2 (aj bw (aj aQ (ae 1) (dC (.int 48271))) (dC (.int 977))))
 (ax (sIf (aj fGt (fV (ae 0)) (dC (.int 0))) (aC 2 (aj bw (ae 2) (aj aQ (aj aW (aw (ae 0) (aj aW (aj aQ (ae 1) (dC (.int 3))) (fV (ae 0)))) (dC (.int 2147483647))) (dC (.int 40692))))) b_)
 (aH (aj aW (aj aQ (aj aW (aj aQ (ae 2) (ae 2)) (dC (.int 2147483629))) (dC (.int 69621))) (dC (.int 2147483587)))))))
def aS:FN:=fnV 3 w8
def vq:DS :=
 (ax (aC 2 (aj aW (aj aQ (aj bw (aj aW (ae 0) (dC (.int 2147483647))) (dC (.int 1))) (aj bw (dC (.int 48271)) (aj aQ (ae 1) (ae 1)))) (dC (.int 2147483629))))
 (aH (aj aW (aj aQ (aj aW (aj aQ (ae 2) (aj bw (ae 2) (aj aQ (dC (.int 977)) (ae 1)))) (dC (.int 2147483587))) (dC (.int 40692))) (dC (.int 2147483399)))))
def jR:FN:=fnV 3 vq
def rB:DS :=
 (ax (aC 4 (cS (ft [])))
 (ax (eQ (aV (ae 2)) (aD 5) (sIf (ae 3) (ax (ee (ae 4) (aj aW (ae 0) (ae 1)))
 (aC 0 (aj iJ (ae 0) (ae 1)))) (ee (ae 4) (aj aW (aj iJ (au (cal jR) [(ae 0),(ae 5)]) (dC (.int 7))) (ae 1)))))
 (aH (ae 4))))
def ba:FN:=fnV 6 rB
def vt:DS :=
 (aH (aT (aV (dC (.int 6))) [none,some 0] (aD 0) (aj fEq (aj nq (aj Bd (ae 1) (ae 0)) (dC (.int 1))) (dC (.int 1))) (ae 0)))
def eI:FN:=fnV 1 vt
def w_:DS :=
 (aH (aT (aV (fV (aw (ae 0) (dC (.int 2))))) [none,some 1,some 0] (aD 0) (aj fIn (aw (aw (aw (ae 2) (dC (.int 2))) (ae 0)) (dC (.int 0))) (ae 1)) (ae 0)))
def iV:FN:=fnV 2 w_
def vv:DS :=
 (aH (aT (fh (aw (ae 0) (dC (.int 2)))) [none,none,some 0,some 1] (cR [0,1]) (dC (.bl true)) (aj aW (dUn mZ (aT (pE (ae 1) (ae 3)) [none,none] (cR [0,1]) (dC (.bl true)) (aj aQ (ae 0) (ae 1)))) (aw (ae 2) (dC (.int 0))))))
def cz:FN:=fnV 2 vv
def oK:DS :=
 (ax (aC 1 (aj aW (au (cal aS) [(ae 0),(dC (.int 0))]) (aj wA (dC (.int 10)) (dC (.int 9)))))
 (ax (aC 2 (aw (ft [(dC (.int 2)),(dC (.int 3)),(dC (.int 5)),(dC (.int 7))]) (aj aW (ae 1) (dC (.int 4)))))
 (ax (aC 3 (aj bw (dC (.int 1)) (aj aW (aj iJ (ae 1) (dC (.int 4))) (aw (ft [(dC (.int 6)),(dC (.int 5)),(dC (.int 4)),(dC (.int 3))]) (aj aW (ae 1) (dC (.int 4)))))))
 (ax (aC 4 (aj bw (dC (.int 1)) (aj aW (aj iJ (ae 1) (dC (.int 64))) (dC (.int 4)))))
 (ax (aC 5 (cS (ft [])))
 (ax (eQ (aV (aj aW (aj iJ (ae 1) (dC (.int 512))) (dC (.int 6)))) (aD 6) (ax (aC 7 (au (cal aS) [(ae 0),(aj bw (dC (.int 10)) (ae 6))]))
 (ee (ae 5) (jK [(aj aW (ae 7) (ae 4)),(dUn dR (au (cal ba) [(aj iJ (ae 7) (dC (.int 8))),(ae 2),(ae 3),(aj fEq (aj aW (aj iJ (ae 1) (dC (.int 4096))) (dC (.int 2))) (dC (.int 0)))]))]))))
 (aH (jK [(ae 2),(ae 3),(dUn dR (ae 5))]))))))))
def ny:DS:=(aC 1 (aj aW (au (cal aS) [(ae 0),(dC (.int 0))]) (aj wA (dC (.int 10)) (dC (.int 9)))))
def nz:DS:=(aC 2 (aw (ft [(dC (.int 2)),(dC (.int 3)),(dC (.int 5)),(dC (.int 7))]) (aj aW (ae 1) (dC (.int 4)))))
def nA:DS:=(aC 3 (aj bw (dC (.int 1)) (aj aW (aj iJ (ae 1) (dC (.int 4))) (aw (ft [(dC (.int 6)),(dC (.int 5)),(dC (.int 4)),(dC (.int 3))]) (aj aW (ae 1) (dC (.int 4)))))))
def nB:DS:=(aC 4 (aj bw (dC (.int 1)) (aj aW (aj iJ (ae 1) (dC (.int 64))) (dC (.int 4)))))
def nC:DS:=(aC 5 (cS (ft [])))
def nD:DS:=(eQ (aV (aj aW (aj iJ (ae 1) (dC (.int 512))) (dC (.int 6)))) (aD 6) (ax (aC 7 (au (cal aS) [(ae 0),(aj bw (dC (.int 10)) (ae 6))]))
 (ee (ae 5) (jK [(aj aW (ae 7) (ae 4)),(dUn dR (au (cal ba) [(aj iJ (ae 7) (dC (.int 8))),(ae 2),(ae 3),(aj fEq (aj aW (aj iJ (ae 1) (dC (.int 4096))) (dC (.int 2))) (dC (.int 0)))]))]))))
def nE:DS:=(aH (jK [(ae 2),(ae 3),(dUn dR (ae 5))]))
def nF:DS:=nE
def nG:DS:=ax nD nF
def nH:DS:=ax nC nG
def nI:DS:=ax nB nH
def nJ:DS:=ax nA nI
def nK:DS:=ax nz nJ
def rD:DS:=ax ny nK
theorem yE:oK=rD:=rfl
theorem sU(e:Slots)(μ:ah):rD e μ=(ny e μ).seq nK:=rfl
theorem sV(e:Slots)(μ:ah):nK e μ=(nz e μ).seq nJ:=rfl
theorem sW(e:Slots)(μ:ah):nJ e μ=(nA e μ).seq nI:=rfl
theorem sX(e:Slots)(μ:ah):nI e μ=(nB e μ).seq nH:=rfl
theorem sY(e:Slots)(μ:ah):nH e μ=(nC e μ).seq nG:=rfl
theorem sZ(e:Slots)(μ:ah):nG e μ=(nD e μ).seq nF:=rfl
theorem s_(e:Slots)(μ:ah):nF e μ=nE e μ:=rfl
def eJ:FN:=fnV 8 oK
def la:DS :=
 (ax (aC 2 (ft [(ft [])]))
 (ax (eQ (aV (ae 1)) (aD 3) (ax (aC 4 (cS (ft [])))
 (ax (eQ (fh (ae 2)) (aD 5) (oB (ae 4) (aT (aV (ae 0)) [none,some 5] (aD 0) (dC (.bl true)) (aj bw (ae 1) (ft [(ae 0)])))))
 (aC 2 (ae 4)))))
 (aH (ae 2))))
def cH:FN:=fnV 6 la
def p8:DS :=
 (ax (aC 3 (au (cal iV) [(ae 0),(ae 1)]))
 (aH (aT (aV (fV (ae 2))) [none,some 2,some 3] (aD 0) (dC (.bl true)) (aw (ft [(dC (.non)),(aw (ae 1) (ae 0))]) (dUn Bt (aj fIn (ae 0) (ae 2)))))))
def df:FN:=fnV 4 p8
def rE:DS :=
 (ax (aC 3 (cS (iP il [(dC (.int 0))] (aw (ae 0) (dC (.int 0))))))
 (ax (eQ (fh (ae 1)) (aD 4) (ax (aC 5 (au (cal cz) [(ae 0),(ae 4)]))
 (sIf (dUn Bh (aT (aV (fV (ae 2))) [none,some 2,some 5] (aD 0) (dC (.bl true)) (dOr (dUn j3 (aw (ae 1) (ae 0))) (aj fEq (aw (ae 1) (ae 0)) (aw (ae 2) (ae 0)))))) (bG 3 (aw (ae 4) (dC (.int 0))) (aj bw (aw (ae 3) (aw (ae 4) (dC (.int 0)))) (dC (.int 1)))) b_)))
 (aH (ae 3))))
def bQ:FN:=fnV 6 rE
def oM:DS :=
 (ax (aC 3 (au (cal eP) [(ae 0),(dUn j4 (ae 2))]))
 (ax (sIf (aj fNe (au (cal gv) [(ae 0),(dUn j4 (ae 2))]) (ae 1)) (aH (dC (.bl false))) b_)
 (ax (sIf (aj fEq (dUn mZ (ae 1)) (dC (.int 0))) (aH (aj fEq (aw (ae 3) (dC (.int 0))) (dC (.str "none")))) b_)
 (ax (sIf (aj fEq (fV (aT (fh (ae 1)) [none] (aD 0) (aj fGt (ae 0) (dC (.int 0))) (ae 0))) (dC (.int 1))) (aH (aj fEq (yi (ae 3) none (some (dC (.int 2)))) (jK [(dC (.str "one")),(Al (ae 1) (dUn oF (ae 1)))]))) b_)
 (aH (C7 (aj fEq (aw (ae 3) (dC (.int 0))) (dC (.str "any"))) (aj fEq (dUn uB (ae 1)) (dUn oF (ae 1)))))))))
def ji:DS:=(aC 3 (au (cal eP) [(ae 0),(dUn j4 (ae 2))]))
def jk:DS:=(sIf (aj fNe (au (cal gv) [(ae 0),(dUn j4 (ae 2))]) (ae 1)) (aH (dC (.bl false))) b_)
def jl:DS:=(sIf (aj fEq (dUn mZ (ae 1)) (dC (.int 0))) (aH (aj fEq (aw (ae 3) (dC (.int 0))) (dC (.str "none")))) b_)
def kP:DS:=(sIf (aj fEq (fV (aT (fh (ae 1)) [none] (aD 0) (aj fGt (ae 0) (dC (.int 0))) (ae 0))) (dC (.int 1))) (aH (aj fEq (yi (ae 3) none (some (dC (.int 2)))) (jK [(dC (.str "one")),(Al (ae 1) (dUn oF (ae 1)))]))) b_)
def nL:DS:=(aH (C7 (aj fEq (aw (ae 3) (dC (.int 0))) (dC (.str "any"))) (aj fEq (dUn uB (ae 1)) (dUn oF (ae 1)))))
def nM:DS:=nL
def nN:DS:=ax kP nM
def nO:DS:=ax jl nN
def nP:DS:=ax jk nO
def rF:DS:=ax ji nP
theorem yF:oM=rF:=rfl
theorem tj(e:Slots)(μ:ah):rF e μ=(ji e μ).seq nP:=rfl
theorem jS(e:Slots)(μ:ah):nP e μ=(jk e μ).seq nO:=rfl
theorem jT(e:Slots)(μ:ah):nO e μ=(jl e μ).seq nN:=rfl
theorem mR(e:Slots)(μ:ah):nN e μ=(kP e μ).seq nM:=rfl
theorem tq(e:Slots)(μ:ah):nM e μ=nL e μ:=rfl
def bX:FN:=fnV 4 oM
def mS:DS :=
 (ax (aC 3 (cS (dUn j4 (ae 0))))
 (ax (aC 4 (aj aW (ae 1) (aj Gq (dC (.int 1)) (fV (ae 0)))))
 (ax (sIf (aj fGt (fV (ae 0)) (dC (.int 0))) (ax (aC 5 (aj iJ (ae 1) (dC (.int 64))))
 (ax (sIf (dUn gk (aw (ae 0) (ae 4))) (aC 5 (aj bw (aj bw (ae 5) (aw (ae 0) (ae 4))) (dC (.int 1)))) b_)
 (bG 3 (ae 4) (aj aW (ae 5) (ae 2))))) b_)
 (aH (ae 3)))))
def lZ:DS:=(aC 3 (cS (dUn j4 (ae 0))))
def l_:DS:=(aC 4 (aj aW (ae 1) (aj Gq (dC (.int 1)) (fV (ae 0)))))
def ma:DS:=(sIf (aj fGt (fV (ae 0)) (dC (.int 0))) (ax (aC 5 (aj iJ (ae 1) (dC (.int 64))))
 (ax (sIf (dUn gk (aw (ae 0) (ae 4))) (aC 5 (aj bw (aj bw (ae 5) (aw (ae 0) (ae 4))) (dC (.int 1)))) b_)
 (bG 3 (ae 4) (aj aW (ae 5) (ae 2))))) b_)
def iw:DS:=(aH (ae 3))
def me:DS:=iw
def mf:DS:=ax ma me
def mh:DS:=ax l_ mf
def p9:DS:=ax lZ mh
theorem xa:mS=p9:=rfl
theorem rG(e:Slots)(μ:ah):p9 e μ=(lZ e μ).seq mh:=rfl
theorem rH(e:Slots)(μ:ah):mh e μ=(l_ e μ).seq mf:=rfl
theorem rJ(e:Slots)(μ:ah):mf e μ=(ma e μ).seq me:=rfl
theorem jm(e:Slots)(μ:ah):me e μ=iw e μ:=rfl
def dX:FN:=fnV 6 mS
def oN:DS :=
 (aH (aT (pE (ae 1) (ae 2)) [none,none] (cR [0,1]) (dC (.bl true)) (aj aQ (ae 0) (ae 1))))
def eK:FN:=fnV 3 oN
def D9:DS :=
 (ax (aC 1 (au (cal eJ) [(ae 0)]))
 (ax (Gu [2,3,4] (ae 1))
 (ax (aC 5 (au (cal cH) [(ae 2),(ae 3)]))
 (ax (aC 6 (au (cal ba) [(au (cal aS) [(ae 0),(dC (.int 1))]),(ae 2),(ae 3),(dC (.bl true))]))
 (ax (aC 7 (au (cal cz) [(ae 1),(ae 6)]))
 (ax (aC 8 (aT (aV (dC (.int 2))) [none,some 0] (aD 0) (dC (.bl true)) (aT (fh (au (cal eI) [(au (cal aS) [(ae 1),(aj bw (dC (.int 2)) (ae 0))])])) [none] (aD 0) (aj fLt (ae 0) (dC (.int 4))) (ae 0))))
 (ax (aC 9 (aT (fh (ae 8)) [none,some 1] (aD 0) (dC (.bl true)) (aw (au (cal dW) [(ae 1),(ae 0)]) (dC (.int 0)))))
 (ax (aC 10 (au (cal h7) [(ae 1),(dUn j4 (ae 7)),(au (cal ba) [(au (cal aS) [(ae 0),(dC (.int 4))]),(ae 2),(aj qK (ae 3) (dC (.int 1))),(dC (.bl true))])]))
 (ax (aC 11 (ft [(au (cal df) [(ae 1),(aw (ae 8) (dC (.int 0))),(ae 7)]),(au (cal df) [(ae 1),(aw (ae 8) (dC (.int 1))),(ae 10)])]))
 (ax (aC 12 (aT (fh (ae 11)) [none,some 1,some 5] (aD 0) (dC (.bl true)) (au (cal bQ) [(ae 1),(ae 2),(ae 0)])))
 (ax (eQ (aV (dC (.int 2))) (aD 13) (ax (sIf (aj fNe (aj fEq (aw (ae 12) (ae 13)) (iP il [(aw (aw (ae 12) (ae 13)) (dC (.int 0)))] (ae 2))) (aj fEq (aw (ae 9) (ae 13)) (dC (.str "shut")))) (aH (dC (.bl false))) b_)
 (sIf (dOr (aj fEq (aw (aw (ae 12) (ae 13)) (aw (ae 6) (dC (.int 0)))) (dC (.int 0))) (wu (au (cal bX) [(ae 1),(aw (ae 12) (ae 13)),(aw (ae 11) (ae 13))]))) (aH (dC (.bl false))) b_)))
 (ax (aC 14 (au (cal dX) [(aw (ae 11) (dC (.int 0))),(aj aW (au (cal aS) [(ae 0),(dC (.int 5))]) (aj wA (dC (.int 10)) (dC (.int 9)))),(ae 2)]))
 (ax (sIf (wu (au (cal bX) [(ae 1),(au (cal bQ) [(ae 1),(ae 5),(ae 14)]),(ae 14)])) (aH (dC (.bl false))) b_)
 (ax (aC 15 (au (cal eK) [(ae 1),(aw (ae 12) (dC (.int 0))),(aw (ae 12) (dC (.int 1)))]))
 (aH (aj fEq (aj fEq (aw (au (cal eG) [(ae 1),(aw (ae 8) (dC (.int 0))),(aw (ae 8) (dC (.int 1)))]) (dC (.int 0))) (dC (.str "shut"))) (aj fEq (ae 15) (iP il [(aw (ae 15) (dC (.int 0)))] (ae 2)))))))))))))))))))
def yG:DS:=(aC 1 (au (cal eJ) [(ae 0)]))
def yH:DS:=(Gu [2,3,4] (ae 1))
def yI:DS:=(aC 5 (au (cal cH) [(ae 2),(ae 3)]))
def yJ:DS:=(aC 6 (au (cal ba) [(au (cal aS) [(ae 0),(dC (.int 1))]),(ae 2),(ae 3),(dC (.bl true))]))
def yK:DS:=(aC 7 (au (cal cz) [(ae 1),(ae 6)]))
def yL:DS:=(aC 8 (aT (aV (dC (.int 2))) [none,some 0] (aD 0) (dC (.bl true)) (aT (fh (au (cal eI) [(au (cal aS) [(ae 1),(aj bw (dC (.int 2)) (ae 0))])])) [none] (aD 0) (aj fLt (ae 0) (dC (.int 4))) (ae 0))))
def yM:DS:=(aC 9 (aT (fh (ae 8)) [none,some 1] (aD 0) (dC (.bl true)) (aw (au (cal dW) [(ae 1),(ae 0)]) (dC (.int 0)))))
def yN:DS:=(aC 10 (au (cal h7) [(ae 1),(dUn j4 (ae 7)),(au (cal ba) [(au (cal aS) [(ae 0),(dC (.int 4))]),(ae 2),(aj qK (ae 3) (dC (.int 1))),(dC (.bl true))])]))
def yO:DS:=(aC 11 (ft [(au (cal df) [(ae 1),(aw (ae 8) (dC (.int 0))),(ae 7)]),(au (cal df) [(ae 1),(aw (ae 8) (dC (.int 1))),(ae 10)])]))
def yP:DS:=(aC 12 (aT (fh (ae 11)) [none,some 1,some 5] (aD 0) (dC (.bl true)) (au (cal bQ) [(ae 1),(ae 2),(ae 0)])))
def vw:DS:=(eQ (aV (dC (.int 2))) (aD 13) (ax (sIf (aj fNe (aj fEq (aw (ae 12) (ae 13)) (iP il [(aw (aw (ae 12) (ae 13)) (dC (.int 0)))] (ae 2))) (aj fEq (aw (ae 9) (ae 13)) (dC (.str "shut")))) (aH (dC (.bl false))) b_)
 (sIf (dOr (aj fEq (aw (aw (ae 12) (ae 13)) (aw (ae 6) (dC (.int 0)))) (dC (.int 0))) (wu (au (cal bX) [(ae 1),(aw (ae 12) (ae 13)),(aw (ae 11) (ae 13))]))) (aH (dC (.bl false))) b_)))
def vx:DS:=(aC 14 (au (cal dX) [(aw (ae 11) (dC (.int 0))),(aj aW (au (cal aS) [(ae 0),(dC (.int 5))]) (aj wA (dC (.int 10)) (dC (.int 9)))),(ae 2)]))
def vy:DS:=(sIf (wu (au (cal bX) [(ae 1),(au (cal bQ) [(ae 1),(ae 5),(ae 14)]),(ae 14)])) (aH (dC (.bl false))) b_)
def vA:DS:=(aC 15 (au (cal eK) [(ae 1),(aw (ae 12) (dC (.int 0))),(aw (ae 12) (dC (.int 1)))]))
def vB:DS:=(aH (aj fEq (aj fEq (aw (au (cal eG) [(ae 1),(aw (ae 8) (dC (.int 0))),(aw (ae 8) (dC (.int 1)))]) (dC (.int 0))) (dC (.str "shut"))) (aj fEq (ae 15) (iP il [(aw (ae 15) (dC (.int 0)))] (ae 2)))))
def vC:DS:=vB
def vD:DS:=ax vA vC
def vE:DS:=ax vy vD
def vF:DS:=ax vx vE
def vG:DS:=ax vw vF
def yQ:DS:=ax yP vG
def yR:DS:=ax yO yQ
def yS:DS:=ax yN yR
def yT:DS:=ax yM yS
def yU:DS:=ax yL yT
def yV:DS:=ax yK yU
def yW:DS:=ax yJ yV
def yX:DS:=ax yI yW
def yY:DS:=ax yH yX
def D_:DS:=ax yG yY
theorem JH:D9=D_:=rfl
theorem BO(e:Slots)(μ:ah):D_ e μ=(yG e μ).seq yY:=rfl
theorem BP(e:Slots)(μ:ah):yY e μ=(yH e μ).seq yX:=rfl
theorem BQ(e:Slots)(μ:ah):yX e μ=(yI e μ).seq yW:=rfl
theorem BR(e:Slots)(μ:ah):yW e μ=(yJ e μ).seq yV:=rfl
theorem BS(e:Slots)(μ:ah):yV e μ=(yK e μ).seq yU:=rfl
theorem BU(e:Slots)(μ:ah):yU e μ=(yL e μ).seq yT:=rfl
theorem BV(e:Slots)(μ:ah):yT e μ=(yM e μ).seq yS:=rfl
theorem BW(e:Slots)(μ:ah):yS e μ=(yN e μ).seq yR:=rfl
theorem BX(e:Slots)(μ:ah):yR e μ=(yO e μ).seq yQ:=rfl
theorem BY(e:Slots)(μ:ah):yQ e μ=(yP e μ).seq vG:=rfl
theorem yZ(e:Slots)(μ:ah):vG e μ=(vw e μ).seq vF:=rfl
theorem y9(e:Slots)(μ:ah):vF e μ=(vx e μ).seq vE:=rfl
theorem y_(e:Slots)(μ:ah):vE e μ=(vy e μ).seq vD:=rfl
theorem za(e:Slots)(μ:ah):vD e μ=(vA e μ).seq vC:=rfl
theorem zb(e:Slots)(μ:ah):vC e μ=vB e μ:=rfl
def pN:FN:=fnV 16 D9
end Fw.k95
section
set_option maxHeartbeats 4000000
namespace Fw.k95
open PySem L2 Fw
seal Fw.CE Fw.CT Fw.CA Fw.CS Fw.CSs Fw.CI Fw.CB Fw.CF Fw.CW Fw.CO L2.mN
def top(i:Nat):Stmt:=PySem.Challenge.pw_fewopen_k95_whole_equally_often.main.body.getD i (.Pass ⟨0,0,0,0⟩)
noncomputable abbrev kQ : Stmt := top 4
noncomputable abbrev dO : Stmt := top 5
noncomputable abbrev ig : Stmt := top 7
noncomputable abbrev iW : Stmt := top 8
noncomputable abbrev cA : Stmt := top 9
noncomputable abbrev iX : Stmt := top 10
noncomputable abbrev bY : Stmt := top 11
noncomputable abbrev jn : Stmt := top 12
noncomputable abbrev kR : Stmt := top 13
noncomputable abbrev dg : Stmt := top 14
noncomputable abbrev bJ : Stmt := top 15
noncomputable abbrev iY : Stmt := top 17
noncomputable abbrev fj : Stmt := top 18
noncomputable abbrev cM : Stmt := top 20
noncomputable abbrev bZ : Stmt := top 21
noncomputable abbrev dj : Stmt := top 22
noncomputable abbrev iZ : Stmt := top 23
noncomputable abbrev cB : Stmt := top 24
noncomputable abbrev gw : Stmt := top 25
noncomputable abbrev jU : Stmt := top 26
noncomputable abbrev b4 : Stmt := top 28
noncomputable abbrev b5 : Stmt := top 29
noncomputable abbrev dZ : Stmt := top 30
noncomputable abbrev i4 : Stmt := top 32
noncomputable abbrev dm : Stmt := top 34
noncomputable abbrev gh : Stmt := top 35
noncomputable abbrev dn : Stmt := top 36
noncomputable abbrev dq : Stmt := top 38
noncomputable abbrev du : Stmt := top 39
noncomputable abbrev bM : Stmt := top 40
noncomputable abbrev ck : Stmt := top 43
noncomputable abbrev dw : Stmt := top 44
noncomputable abbrev bN : Stmt := top 45
noncomputable abbrev dy : Stmt := top 50
noncomputable abbrev bE : Stmt := top 51
noncomputable abbrev dz : Stmt := top 52
noncomputable abbrev bO : Stmt := top 53
noncomputable abbrev cm : Stmt := top 54
noncomputable abbrev cC : Stmt := top 55
noncomputable abbrev cn : Stmt := top 56
noncomputable abbrev jz : Stmt := top 57
structure Tx(K:PySem.W.Frag)(mg:Str→Option Value):Prop where
 LH:mg "all"=none
 p_:mg "enumerate"=none
 LI:mg "int"=none
 ka:mg "len"=none
 rK:mg "list"=none
 Ea:mg "max"=none
 LJ:mg "min"=none
 dP:mg "range"=none
 Eb:mg "sum"=none
 kS:mg "tuple"=none
 uE:mg "zip"=none
noncomputable abbrev n0 : List Str := ["left", "right"]
noncomputable abbrev n1 : List Str := ["p", "one", "other"]
noncomputable abbrev n2 : List Str := ["entry", "p", "number"]
noncomputable abbrev n3 : List Str := ["p", "number", "row"]
noncomputable abbrev n4 : List Str := ["entry", "other", "p", "number"]
noncomputable abbrev n5 : List Str := ["p", "row", "lead", "place", "number"]
noncomputable abbrev n6 : List Str := ["line", "p", "place"]
noncomputable abbrev n7 : List Str := ["p", "lines", "place"]
noncomputable abbrev n8 : List Str := ["place", "p", "lines"]
noncomputable abbrev n9 : List Str := ["p", "width", "lines", "many", "leads"]
noncomputable abbrev n10 : List Str := ["free", "p", "leads", "many"]
noncomputable abbrev n11 : List Str := ["row", "filling", "table"]
noncomputable abbrev n12 : List Str := ["table", "filling"]
noncomputable abbrev n13 : List Str := ["number", "row", "hands"]
noncomputable abbrev n14 : List Str := ["table", "hands"]
noncomputable abbrev n15 : List Str := ["number", "table"]
noncomputable abbrev n16 : List Str := ["table", "numbers"]
noncomputable abbrev n17 : List Str := ["place"]
noncomputable abbrev n18 : List Str := ["wide"]
noncomputable abbrev n19 : List Str := ["number", "part"]
noncomputable abbrev n20 : List Str := ["seen"]
noncomputable abbrev n21 : List Str := ["line", "part"]
noncomputable abbrev n22 : List Str := ["table", "numbers", "seen_parts", "wide", "lines", "found"]
noncomputable abbrev n23 : List Str := ["number", "seen"]
noncomputable abbrev n24 : List Str := ["table", "seen", "numbers", "seen_parts", "against", "found"]
noncomputable abbrev n25 : List Str := ["left", "right", "p"]
noncomputable abbrev n26 : List Str := ["_law_hand", "_law_cell_here"]
noncomputable abbrev n27 : List Str := ["_law_cell_here"]
noncomputable abbrev n28 : List Str := ["_law_k", "_law_hands_here", "_law_table_here"]
noncomputable abbrev n29 : List Str := ["_law_table_here", "_law_hands_here"]
noncomputable abbrev n30 : List Str := ["_law_a", "_law_b"]
noncomputable abbrev n31 : List Str := ["_law_hand", "_law_line", "_law_table_here", "_law_filling"]
noncomputable abbrev n32 : List Str := ["_law_table_here", "_law_filling"]
noncomputable abbrev n33 : List Str := ["_law_number", "_law_one"]
noncomputable abbrev n34 : List Str := ["_law_p_here", "_law_wide", "_law_found", "_law_place", "_law_longer", "_law_one"]
noncomputable abbrev n35 : List Str := ["_law_k", "_law_given_here", "_law_numbers_here"]
noncomputable abbrev n36 : List Str := ["_law_table_here", "_law_hands_here", "_law_given_here", "_law_numbers_here"]
noncomputable abbrev n37 : List Str := ["_law_k", "_law_seen_here", "_law_given_here"]
noncomputable abbrev n38 : List Str := ["_law_table_here", "_law_everything", "_law_seen_here", "_law_counts", "_law_filling", "_law_given_here"]
noncomputable abbrev n39 : List Str := ["_law_count"]
noncomputable abbrev n40 : List Str := ["_law_table_here", "_law_counts", "_law_seen_here", "_law_found"]
noncomputable abbrev n41 : List Str := ["_law_table_here", "_law_one_counts", "_law_other_counts"]
noncomputable abbrev n42 : List Str := ["_law_hand"]
noncomputable abbrev n43 : List Str := ["_law_k", "_law_script"]
noncomputable abbrev n44 : List Str := ["_law_script", "_law_table_here", "_law_p_here", "_law_wide", "_law_rows_here", "_law_everything", "_law_filling", "_law_given_here", "_law_sets", "_law_words", "_law_again", "_law_seen_here", "_law_counts", "_law_k", "_law_spoilt_here", "_law_pairs_here"]
noncomputable abbrev n45 : List Str := ["_law_hands_here", "_law_table_here"]
noncomputable abbrev n46 : List Str := ["_law_one", "_law_table_here", "_law_everything"]
noncomputable abbrev n47 : List Str := ["p", "one", "other", "rest", "told"]
noncomputable abbrev n48 : List Str := ["p", "row", "lead", "place"]
noncomputable abbrev n49 : List Str := ["row", "many", "place"]
noncomputable abbrev n50 : List Str := ["row", "many"]
noncomputable abbrev n51 : List Str := ["p", "rows", "many", "leads", "noughts", "row", "rest", "place", "lead", "found", "fresh"]
noncomputable abbrev n52 : List Str := ["p", "rows", "many"]
noncomputable abbrev n53 : List Str := ["width", "place", "row"]
noncomputable abbrev n54 : List Str := ["width", "place"]
noncomputable abbrev n55 : List Str := ["p", "width", "lines", "wished", "many", "rows", "place", "parted", "row", "multipliers", "lead"]
noncomputable abbrev n56 : List Str := ["p", "width", "lines", "wished"]
noncomputable abbrev n57 : List Str := ["p", "leads", "many", "free", "multipliers", "place", "lead"]
noncomputable abbrev n58 : List Str := ["p", "leads", "many", "free"]
noncomputable abbrev n59 : List Str := ["p", "width", "lines"]
noncomputable abbrev n60 : List Str := ["table", "numbers", "found"]
noncomputable abbrev n61 : List Str := ["table", "numbers", "seen_parts"]
noncomputable abbrev n62 : List Str := ["table", "seen"]
noncomputable abbrev n63 : List Str := ["number", "many", "power", "step"]
noncomputable abbrev n64 : List Str := ["number", "many"]
noncomputable abbrev n65 : List Str := ["table", "seen", "lines"]
noncomputable abbrev n66 : List Str := ["table", "seen", "p", "found", "free", "counts"]
noncomputable abbrev n67 : List Str := ["number", "chances"]
noncomputable abbrev n68 : List Str := ["table", "some", "chances"]
noncomputable abbrev n69 : List Str := ["table", "ones", "others", "first", "second"]
noncomputable abbrev n70 : List Str := ["table", "ones", "others"]
noncomputable abbrev n71 : List Str := ["_law_script", "_law_k", "_law_number"]
noncomputable abbrev n72 : List Str := ["_law_script", "_law_k"]
noncomputable abbrev n73 : List Str := ["_law_cell_here", "_law_k", "_law_number"]
noncomputable abbrev n74 : List Str := ["_law_cell_here", "_law_k"]
noncomputable abbrev n75 : List Str := ["_law_cell_here", "_law_p_here", "_law_count", "_law_by_digits", "_law_found", "_law_k"]
noncomputable abbrev n76 : List Str := ["_law_cell_here", "_law_p_here", "_law_count", "_law_by_digits"]
noncomputable abbrev n77 : List Str := ["_law_script", "_law_cell_here", "_law_p_here", "_law_wide", "_law_many", "_law_rows_here", "_law_k", "_law_one"]
noncomputable abbrev n78 : List Str := ["_law_script"]
noncomputable abbrev n79 : List Str := ["_law_p_here", "_law_wide"]
noncomputable abbrev n80 : List Str := ["_law_table_here", "_law_hands_here", "_law_given_here"]
noncomputable abbrev n81 : List Str := ["_law_table_here", "_law_everything", "_law_seen_here"]
noncomputable abbrev n82 : List Str := ["_law_table_here", "_law_counts", "_law_seen_here"]
noncomputable abbrev n83 : List Str := ["_law_seen_here", "_law_cell_here", "_law_p_here", "_law_found", "_law_at", "_law_number"]
noncomputable abbrev n84 : List Str := ["_law_seen_here", "_law_cell_here", "_law_p_here"]
section
variable{P:Program}{w:World}{K:PySem.W.Frag}{mg:Str→Option Value}{base:Heap}
theorem oO:aM n47 n1 (ai kQ):=⟨rfl,rfl,rfl,by decide +kernel,rfl,by decide +kernel,by decide +kernel⟩
theorem Ec{mi:Addr}{mj:FuncData}(T:Tx K mg)(kT:Gf K mg "over" kQ n1 mi mj) :
  aN P w K mg base CX0 1 mi mj n1 (spD K oG 3) :=
 bF .V kT.F oO λcdv A outer s H E hr=>(ak (aF 3 oO.nd (bu (af 2) (af 0)))
 (ak (eA (jv hr (af 3) ao) (av Jk) bL)
 (ak (aF 4 oO.nd (bu (af 1) (af 0)))
 (ak (Dq PassesOwn.never (wR hr (af 3) ao) (ak (aF 4 oO.nd (bu (eR (DM (af 4)) (kG (af 0) (af 3))) (af 0)))
 (av (aF 3 oO.nd (bu (af 0) (af 3))))))
 (av (aJ (af 4)))))))
theorem xb:aM n1 n1 (ai dO):=⟨rfl,rfl,rfl,by decide +kernel,rfl,by decide +kernel,by decide +kernel⟩
theorem vH{eS:Addr}{eT:FuncData}(T:Tx K mg)(ef:Gf K mg "comes_to" dO n1 eS eT) :
  aN P w K mg base CX0 1 eS eT n1 (spD K b3 3) :=
 bF .V ef.F xb λcdv A outer s H E hr=>(av (aJ (bu (yx hr T.Eb (CF.ce (bR (N':=n0) rfl (aE (ai dO) rfl n1 rfl (by decide +kernel)) rfl (c_ rfl rfl) (pL T.uE (af 1) (af 2)) (λ_ _ _ _ _=>(fN 0 1 (show n0.Nodup by decide +kernel) rfl)) (λ_ _ _ _ _=>bj) (λ_ _ _ _ _=>(eR (af 0) (af 1)))))) (af 0))))
theorem Ed:aM n3 n3 (ai ig):=⟨rfl,rfl,rfl,by decide +kernel,rfl,by decide +kernel,by decide +kernel⟩
theorem BZ{jA:Addr}{jB:FuncData}(T:Tx K mg)(i5:Gf K mg "times" ig n3 jA jB) :
  aN P w K mg base CX0 1 jA jB n3 (spD K lX 3) :=
 bF .V i5.F Ed λcdv A outer s H E hr=>(av (aJ (CF.ce (bR (N':=n2) rfl (aE (ai ig) rfl n3 rfl (by decide +kernel)) rfl (aZ rfl) (fW (af 2)) (λ_ _ _ _ _=>(bf 0 (show n2.Nodup by decide +kernel))) (λ_ _ _ _ _=>bj) (λ_ _ _ _ _=>(bu (eR (af 2) (af 0)) (af 1)))))))
theorem xc:aM n5 n48 (ai iW):=⟨rfl,rfl,rfl,by decide +kernel,rfl,by decide +kernel,by decide +kernel⟩
theorem B0{oP:Addr}{oQ:FuncData}(T:Tx K mg)(jC:Gf K mg "freed" iW n48 oP oQ) :
  aN P w K mg base CX0 1 oP oQ n48 (spD K oH 4) :=
 bF .V jC.F xc λcdv A outer s H E hr=>(ak (aF 4 xc.nd (az (af 1) (af 3)))
 (ak (eA (jv hr (af 4) ao) (av (aJ (af 1))) bL)
 (av (aJ (CF.ce (bR (N':=n4) rfl (aE (ai iW) rfl n5 rfl (by decide +kernel)) rfl (c_ rfl rfl) (pL T.uE (af 1) (af 2)) (λ_ _ _ _ _=>(fN 0 1 (show n4.Nodup by decide +kernel) rfl)) (λ_ _ _ _ _=>bj) (λ_ _ _ _ _=>(bu (vf (af 0) (eR (af 3) (af 1))) (af 2)))))))))
theorem ml:aM n49 n50 (ai cA):=⟨rfl,rfl,rfl,by decide +kernel,rfl,by decide +kernel,by decide +kernel⟩
theorem qg{fA:Addr}{fB:FuncData}(T:Tx K mg)(fC:Gf K mg "first_place" cA n50 fA fB) :
  aN P w K mg base CX0 1 fA fB n50 (spD K jg 2) :=
 bF .V fC.F ml λcdv A outer s H E hr=>(ak (fX PassesOwn.never rfl (bP T.dP (af 1)) (bf 2 ml.nd) (av (eA (wR hr (az (af 0) (af 2)) ao) (av (aJ (af 2))) bL)))
 (av (aJ pI)))
theorem fD:aM n51 n52 (ai iX):=⟨rfl,rfl,rfl,by decide +kernel,rfl,by decide +kernel,by decide +kernel⟩
theorem B1{jD:Addr}{jE:FuncData}(T:Tx K mg)(i6:Gf K mg "eased" iX n52 jD jE)
  {oP:Addr}{oQ:FuncData} (jC:Gf K mg "freed" iW n48 oP oQ)
  (xf:aN P w K mg base CX0 1 oP oQ n48 (spD K oH 4))
  {fA:Addr}{fB:FuncData} (fC:Gf K mg "first_place" cA n50 fA fB)
  (rL:aN P w K mg base CX0 1 fA fB n50 (spD K jg 2))
  {mi:Addr}{mj:FuncData} (kT:Gf K mg "over" kQ n1 mi mj)
  (vI:aN P w K mg base CX0 1 mi mj n1 (spD K oG 3))
  {jA:Addr}{jB:FuncData} (i5:Gf K mg "times" ig n3 jA jB)
  (rM:aN P w K mg base CX0 1 jA jB n3 (spD K lX 3)) :
  aN P w K mg base CX0 2 jD jE n52 (spD K iu 3) :=
 bF .V i6.F fD λcdv A outer s H E hr=>(ak (aF 3 fD.nd (CF.cell Jy))
 (ak (aF 4 fD.nd (CF.cell (hV ar)))
 (ak (fX PassesOwn.never rfl (fW (af 1)) (bf 5 fD.nd) (ak (aF 6 fD.nd (af 5))
 (ak (fX PassesOwn.never rfl (rA (af 3)) (fN 7 8 fD.nd rfl) (av (aF 6 fD.nd (aA xf (hr.mono (by decide)) jC.m jC.F.kp jC.b (ag (af 0) (ag (af 6) (ag (af 8) (ag (af 7) ar))))))))
 (ak (aF 9 fD.nd (aA rL (hr.mono (by decide)) fC.m fC.F.kp fC.b (ag (af 6) (ag (af 2) ar))))
 (av (eA (JB (af 9)) (av (j9 (af 4) (af 6))) (ak (aF 10 fD.nd (aA rM (hr.mono (by decide)) i5.m i5.F.kp i5.b (ag (af 0) (ag (aA vI (hr.mono (by decide)) kT.m kT.F.kp kT.b (ag (af 0) (ag ao (ag (az (af 6) (af 9)) ar)))) (ag (af 6) ar)))))
 (ak (fX PassesOwn.never rfl (fW (CF.ce (D1 T.rK (af 3)))) (bf 7 fD.nd) (av (Ai hr 3 (af 7) (aA xf (hr.mono (by decide)) jC.m jC.F.kp jC.b (ag (af 0) (ag (GH hr (af 3) (af 7)) (ag (af 10) (ag (af 9) ar))))))))
 (av (Ai hr 3 (af 9) (af 10)))))))))))
 (av (aJ (ky (ag (af 3) (ag (af 4) ar))))))))
theorem tw:aM n7 n7 (ai bY):=⟨rfl,rfl,rfl,by decide +kernel,rfl,by decide +kernel,by decide +kernel⟩
theorem rN{dA:Addr}{dB:FuncData}(T:Tx K mg)(cq:Gf K mg "numbers_at" bY n7 dA dB) :
  aN P w K mg base CX0 1 dA dB n7 (spD K bV 3) :=
 bF .V cq.F tw λcdv A outer s H E hr=>(av (aJ (CF.ce (bR (N':=n6) rfl (aE (ai bY) rfl n7 rfl (by decide +kernel)) rfl (aZ rfl) (fW (af 1)) (λ_ _ _ _ _=>(bf 0 (show n6.Nodup by decide +kernel))) (λ_ _ _ _ _=>bj) (λ_ _ _ _ _=>(bu (az (af 0) (af 2)) (af 1)))))))
theorem qu:aM n53 n54 (ai jn):=⟨rfl,rfl,rfl,by decide +kernel,rfl,by decide +kernel,by decide +kernel⟩
theorem Ee{gx:Addr}{gy:FuncData}(T:Tx K mg)(f_:Gf K mg "unit" jn n54 gx gy) :
  aN P w K mg base CX0 1 gx gy n54 (spD K mI 2) :=
 bF .D f_.F qu λcdv A outer s H E hr=>(ak (aF 2 qu.nd (CF.cell (kH (ag ao ar) (af 0))))
 (ak (fY 2 (af 1) ao)
 (av (aJ (af 2)))))
theorem Ef{gx:Addr}{gy:FuncData}(T:Tx K mg)(f_:Gf K mg "unit" jn n54 gx gy) :
  aN P w K mg base CX0 1 gx gy n54 (spD K jw 2) :=
 bF .V f_.F qu λcdv A outer s H E hr=>(ak (aF 2 qu.nd (CF.cell (kH (ag ao ar) (af 0))))
 (ak (fY 2 (af 1) ao)
 (av (aJ (af 2)))))
theorem jF:aM n55 n56 (ai kR):=⟨rfl,rfl,rfl,by decide +kernel,rfl,by decide +kernel,by decide +kernel⟩
theorem Eg{mm:Addr}{mq:FuncData}(T:Tx K mg)(kU:Gf K mg "held" kR n56 mm mq)
  {dA:Addr}{dB:FuncData} (cq:Gf K mg "numbers_at" bY n7 dA dB)
  (jV:aN P w K mg base CX0 1 dA dB n7 (spD K bV 3))
  {gx:Addr}{gy:FuncData} (f_:Gf K mg "unit" jn n54 gx gy)
  (vJ:aN P w K mg base CX0 1 gx gy n54 (spD K jw 2))
  {jD:Addr}{jE:FuncData} (i6:Gf K mg "eased" iX n52 jD jE)
  (rO:aN P w K mg base CX0 2 jD jE n52 (spD K iu 3))
  {mi:Addr}{mj:FuncData} (kT:Gf K mg "over" kQ n1 mi mj)
  (vI:aN P w K mg base CX0 1 mi mj n1 (spD K oG 3))
  {jA:Addr}{jB:FuncData} (i5:Gf K mg "times" ig n3 jA jB)
  (rM:aN P w K mg base CX0 1 jA jB n3 (spD K lX 3)) :
  aN P w K mg base CX0 3 mm mq n56 (spD K ic 4) :=
 bF .K kU.F jF λcdv A outer s H E hr=>(ak (aF 4 jF.nd (hZ T.ka (af 2)))
 (ak (aF 5 jF.nd (CF.cell (hV ar)))
 (ak (fX PassesOwn.never rfl (bP T.dP (af 1)) (bf 6 jF.nd) (av (j9 (af 5) (cV (cV (aA jV (hr.mono (by decide)) cq.m cq.F.kp cq.b (ag (af 0) (ag (af 2) (ag (af 6) ar)))) (CF.ce (hV (ag (bu (az (af 3) (af 6)) (af 0)) ar)))) (aA vJ (hr.mono (by decide)) f_.m f_.F.kp f_.b (ag (af 1) (ag (af 6) ar)))))))
 (ak (aF 7 jF.nd (aA rO (hr.mono (by decide)) i6.m i6.F.kp i6.b (ag (af 0) (ag (af 5) (ag (af 4) ar)))))
 (ak (fX PassesOwn.never rfl (fW (az (af 7) ao)) (bf 8 jF.nd) (av (eA (wR hr (az (af 8) (af 4)) ao) (av (aJ (nc (ag cU (ag (je T.kS (aA rM (hr.mono (by decide)) i5.m i5.F.kp i5.b (ag (af 0) (ag (aA vI (hr.mono (by decide)) kT.m kT.F.kp kT.b (ag (af 0) (ag ao (ag (az (af 8) (af 4)) ar)))) (ag (DU (af 8) (Ae (cV (af 4) ao)) Ad) ar))))) ar))))) bL)))
 (ak (aF 9 jF.nd (CF.cell (kH (ag ao ar) (af 4))))
 (ak (fX PassesOwn.never rfl (rA (az (af 7) ao)) (fN 6 10 jF.nd rfl) (av (fY 9 (af 6) (az (af 10) (af 4)))))
 (av (aJ (nc (ag cU (ag (af 9) ar))))))))))))
theorem jW:aM n57 n58 (ai dg):=⟨rfl,rfl,rfl,by decide +kernel,rfl,by decide +kernel,by decide +kernel⟩
theorem rP{gz:Addr}{gA:FuncData}(T:Tx K mg)(gB:Gf K mg "nought_sum" dg n58 gz gA)
  {gx:Addr}{gy:FuncData} (f_:Gf K mg "unit" jn n54 gx gy)
  (GU:aN P w K mg base CX0 1 gx gy n54 (spD K mI 2)) :
  aN P w K mg base CX0 2 gz gA n58 (spD K cy 4) :=
 bF .V gB.F jW λcdv A outer s H E hr=>(ak (aF 4 jW.nd (aA GU (hr.mono (by decide)) f_.m f_.F.kp f_.b (ag (af 2) (ag (af 3) ar))))
 (ak (fX PassesOwn.never rfl (rA (af 1)) (fN 5 6 jW.nd rfl) (av (fY 4 (af 5) (bu (DM (az (af 6) (af 3))) (af 0)))))
 (av (aJ (af 4)))))
theorem jo:aM n9 n59 (ai bJ):=⟨rfl,rfl,rfl,by decide +kernel,rfl,by decide +kernel,by decide +kernel⟩
theorem qh{fE:Addr}{fF:FuncData}(T:Tx K mg)(fG:Gf K mg "nought_sums" bJ n59 fE fF)
  {dA:Addr}{dB:FuncData} (cq:Gf K mg "numbers_at" bY n7 dA dB)
  (jV:aN P w K mg base CX0 1 dA dB n7 (spD K bV 3))
  {jD:Addr}{jE:FuncData} (i6:Gf K mg "eased" iX n52 jD jE)
  (rO:aN P w K mg base CX0 2 jD jE n52 (spD K iu 3))
  {gz:Addr}{gA:FuncData} (gB:Gf K mg "nought_sum" dg n58 gz gA)
  (tE:aN P w K mg base CX0 2 gz gA n58 (spD K cy 4)) :
  aN P w K mg base CX0 3 fE fF n59 (spD K dU 3) :=
 bF .V fG.F jo λcdv A outer s H E hr=>(ak (aF 3 jo.nd (hZ T.ka (af 2)))
 (ak (aF 4 jo.nd (az (aA rO (hr.mono (by decide)) i6.m i6.F.kp i6.b (ag (af 0) (ag (CF.ce (bR (N':=n8) rfl (aE (ai bJ) rfl n9 rfl (by decide +kernel)) rfl (aZ rfl) (bP T.dP (af 1)) (λ_ _ _ _ _=>(bf 0 (show n8.Nodup by decide +kernel))) (λ_ _ _ _ _=>bj) (λ_ _ _ _ _=>(aA jV (hr.mono (by decide)) cq.m cq.F.kp cq.b (ag (af 1) (ag (af 2) (ag (af 0) ar))))))) (ag (af 3) ar)))) ao))
 (av (aJ (CF.ce (bR (N':=n10) rfl (aE (ai bJ) rfl n9 rfl (by decide +kernel)) rfl (aZ rfl) (bP T.dP (af 3)) (λ_ _ _ _ _=>(bf 0 (show n10.Nodup by decide +kernel))) (λ_ _ _ _ _=>(hX (GK hr (af 0) (af 2)))) (λ_ _ _ _ _=>(aA tE (hr.mono (by decide)) gB.m gB.F.kp gB.b (ag (af 1) (ag (af 2) (ag (af 3) (ag (af 0) ar))))))))))))
theorem Eh:aM n12 n12 (ai iY):=⟨rfl,rfl,rfl,by decide +kernel,rfl,by decide +kernel,by decide +kernel⟩
theorem B2{oR:Addr}{oS:FuncData}(T:Tx K mg)(oT:Gf K mg "parts" iY n12 oR oS)
  {eS:Addr}{eT:FuncData} (ef:Gf K mg "comes_to" dO n1 eS eT)
  (mr:aN P w K mg base CX0 1 eS eT n1 (spD K b3 3)) :
  aN P w K mg base CX0 2 oR oS n12 (spD K oI 2) :=
 bF .V oT.F Eh λcdv A outer s H E hr=>(av (aJ (CF.ce (bR (N':=n11) rfl (aE (ai iY) rfl n12 rfl (by decide +kernel)) rfl (aZ rfl) (fW (az (af 0) ao)) (λ_ _ _ _ _=>(bf 0 (show n11.Nodup by decide +kernel))) (λ_ _ _ _ _=>bj) (λ_ _ _ _ _=>(aA mr (hr.mono (by decide)) ef.m ef.F.kp ef.b (ag (az (af 2) ao) (ag (az (af 0) ao) (ag (af 1) ar)))))))))
theorem zc:aM n14 n14 (ai fj):=⟨rfl,rfl,rfl,by decide +kernel,rfl,by decide +kernel,by decide +kernel⟩
theorem xg{kb:Addr}{kc:FuncData}(T:Tx K mg)(kd:Gf K mg "rows_of" fj n14 kb kc) :
  aN P w K mg base CX0 1 kb kc n14 (spD K fZ 2) :=
 bF .V kd.F zc λcdv A outer s H E hr=>(av (aJ (CF.ce (bR (N':=n13) rfl (aE (ai fj) rfl n14 rfl (by decide +kernel)) rfl (c_ rfl rfl) (Ak T.p_ (az (af 0) ao)) (λ_ _ _ _ _=>(fN 0 1 (show n13.Nodup by decide +kernel) rfl)) (λ_ _ _ _ _=>(hX (Hz hr (az (af 1) ao) (af 2)))) (λ_ _ _ _ _=>(af 0))))))
theorem xh:aM n16 n16 (ai cM):=⟨rfl,rfl,rfl,by decide +kernel,rfl,by decide +kernel,by decide +kernel⟩
theorem vK{cN:Addr}{cO:FuncData}(T:Tx K mg)(bT:Gf K mg "lines_at" cM n16 cN cO) :
  aN P w K mg base CX0 1 cN cO n16 (spD K bH 2) :=
 bF .V bT.F xh λcdv A outer s H E hr=>(av (aJ (CF.ce (bR (N':=n15) rfl (aE (ai cM) rfl n16 rfl (by decide +kernel)) rfl (aZ rfl) (fW (af 1)) (λ_ _ _ _ _=>(bf 0 (show n15.Nodup by decide +kernel))) (λ_ _ _ _ _=>bj) (λ_ _ _ _ _=>(az (az (az (af 1) ao) (af 0)) ao))))))
theorem rQ:aM n18 n18 (ai bZ):=⟨rfl,rfl,rfl,by decide +kernel,rfl,by decide +kernel,by decide +kernel⟩
theorem qi{fH:Addr}{fI:FuncData}(T:Tx K mg)(fJ:Gf K mg "hidden_line" bZ n18 fH fI) :
  aN P w K mg base CX0 1 fH fI n18 (spD K cL 1) :=
 bF .V fJ.F rQ λcdv A outer s H E hr=>(av (aJ (je T.kS (CF.ce (bR (N':=n17) rfl (aE (ai bZ) rfl n18 rfl (by decide +kernel)) rfl (aZ rfl) (bP T.dP (af 0)) (λ_ _ _ _ _=>(bf 0 (show n17.Nodup by decide +kernel))) (λ_ _ _ _ _=>bj) (λ_ _ _ _ _=>(Jj (jv hr (af 0) ao) ao ao)))))))
theorem oU:aM n60 n16 (ai dj):=⟨rfl,rfl,rfl,by decide +kernel,rfl,by decide +kernel,by decide +kernel⟩
theorem tG{d5:Addr}{d6:FuncData}(T:Tx K mg)(dD:Gf K mg "opened_by" dj n16 d5 d6)
  {cN:Addr}{cO:FuncData} (bT:Gf K mg "lines_at" cM n16 cN cO)
  (ix:aN P w K mg base CX0 1 cN cO n16 (spD K bH 2))
  {fH:Addr}{fI:FuncData} (fJ:Gf K mg "hidden_line" bZ n18 fH fI)
  (rR:aN P w K mg base CX0 1 fH fI n18 (spD K cL 1))
  {mm:Addr}{mq:FuncData} (kU:Gf K mg "held" kR n56 mm mq)
  (vL:aN P w K mg base CX0 3 mm mq n56 (spD K ic 4)) :
  aN P w K mg base CX0 4 d5 d6 n16 (spD K bD 2) :=
 bF .K dD.F oU λcdv A outer s H E hr=>(ak (aF 2 oU.nd (aA vL (hr.mono (by decide)) kU.m kU.F.kp kU.b (ag (az (af 0) ao) (ag (az (af 0) ao) (ag (aA ix (hr.mono (by decide)) bT.m bT.F.kp bT.b (ag (af 0) (ag (af 1) ar))) (ag (aA rR (hr.mono (by decide)) fJ.m fJ.F.kp fJ.b (ag (az (af 0) ao) ar)) ar))))))
 (ak (eA (jv hr (az (af 2) ao) cU) (av (aJ (nc (ag cU (ag (az (af 2) ao) ar))))) bL)
 (av (aJ (nc (ag cU (ag (az (af 2) ao) ar)))))))
theorem Ei:aM n14 n14 (ai iZ):=⟨rfl,rfl,rfl,by decide +kernel,rfl,by decide +kernel,by decide +kernel⟩
theorem B3{jG:Addr}{jH:FuncData}(T:Tx K mg)(fP:Gf K mg "opens" iZ n14 jG jH)
  {kb:Addr}{kc:FuncData} (kd:Gf K mg "rows_of" fj n14 kb kc)
  (zd:aN P w K mg base CX0 1 kb kc n14 (spD K fZ 2))
  {d5:Addr}{d6:FuncData} (dD:Gf K mg "opened_by" dj n16 d5 d6)
  (kW:aN P w K mg base CX0 4 d5 d6 n16 (spD K bD 2)) :
  aN P w K mg base CX0 5 jG jH n14 (spD K dW 2) :=
 bF .V fP.F Ei λcdv A outer s H E hr=>(av (aJ (aA kW (hr.mono (by decide)) dD.m dD.F.kp dD.b (ag (af 0) (ag (aA zd (hr.mono (by decide)) kd.m kd.F.kp kd.b (ag (af 0) (ag (af 1) ar))) ar)))))
theorem vM:aM n20 n20 (ai cB):=⟨rfl,rfl,rfl,by decide +kernel,rfl,by decide +kernel,by decide +kernel⟩
theorem tH{d7:Addr}{d8:FuncData}(T:Tx K mg)(dE:Gf K mg "rows_seen" cB n20 d7 d8) :
  aN P w K mg base CX0 1 d7 d8 n20 (spD K bW 1) :=
 bF .V dE.F vM λcdv A outer s H E hr=>(av (aJ (CF.ce (bR (N':=n19) rfl (aE (ai cB) rfl n20 rfl (by decide +kernel)) rfl (c_ rfl rfl) (Ak T.p_ (af 0)) (λ_ _ _ _ _=>(fN 0 1 (show n19.Nodup by decide +kernel) rfl)) (λ_ _ _ _ _=>(hX (pM (af 1)))) (λ_ _ _ _ _=>(af 0))))))
theorem mJ:aM n22 n61 (ai gw):=⟨rfl,rfl,rfl,by decide +kernel,rfl,by decide +kernel,by decide +kernel⟩
theorem ze{mv:Addr}{mw:FuncData}(T:Tx K mg)(mx:Gf K mg "misfit" gw n61 mv mw)
  {cN:Addr}{cO:FuncData} (bT:Gf K mg "lines_at" cM n16 cN cO)
  (ix:aN P w K mg base CX0 1 cN cO n16 (spD K bH 2))
  {gx:Addr}{gy:FuncData} (f_:Gf K mg "unit" jn n54 gx gy)
  (vJ:aN P w K mg base CX0 1 gx gy n54 (spD K jw 2))
  {mm:Addr}{mq:FuncData} (kU:Gf K mg "held" kR n56 mm mq)
  (vL:aN P w K mg base CX0 3 mm mq n56 (spD K ic 4)) :
  aN P w K mg base CX0 4 mv mw n61 (spD K i9 3) :=
 bF .D mx.F mJ λcdv A outer s H E hr=>(ak (aF 3 mJ.nd (az (af 0) ao))
 (ak (jc (ir 4 (N':=n21) rfl (aE (ai gw) rfl n22 rfl (by decide +kernel)) rfl (c_ rfl rfl) (pL T.uE (aA ix (hr.mono (by decide)) bT.m bT.F.kp bT.b (ag (af 0) (ag (af 1) ar))) (af 2)) (λ_ _ _ _ _=>(fN 0 1 (show n21.Nodup by decide +kernel) rfl)) (λ_ _ _ _ _=>bj) (λ_ _ _ _ _=>(cV (je T.kS (af 0)) (ky (ag (af 1) ar)))) mJ.nd) λ_ _ _ _ h=>i8 h)
 (ak (aF 5 mJ.nd (aA vL (hr.mono (by decide)) kU.m kU.F.kp kU.b (ag (az (af 0) ao) (ag (cV (af 3) ao) (ag (af 4) (ag (je T.kS (aA vJ (hr.mono (by decide)) f_.m f_.F.kp f_.b (ag (cV (af 3) ao) (ag (af 3) ar)))) ar))))))
 (ak (eA (jv hr (az (af 5) ao) cU) (av (aJ (az (af 5) ao))) bL)
 (av (aJ pI))))))
theorem oV:aM n24 n62 (ai jU):=⟨rfl,rfl,rfl,by decide +kernel,rfl,by decide +kernel,by decide +kernel⟩
theorem Ej{my:Addr}{mz:FuncData}(T:Tx K mg)(kX:Gf K mg "told" jU n62 my mz)
  {d7:Addr}{d8:FuncData} (dE:Gf K mg "rows_seen" cB n20 d7 d8)
  (kY:aN P w K mg base CX0 1 d7 d8 n20 (spD K bW 1))
  {mv:Addr}{mw:FuncData} (mx:Gf K mg "misfit" gw n61 mv mw)
  (B4:aN P w K mg base CX0 4 mv mw n61 (spD K i9 3))
  {d5:Addr}{d6:FuncData} (dD:Gf K mg "opened_by" dj n16 d5 d6)
  (kW:aN P w K mg base CX0 4 d5 d6 n16 (spD K bD 2))
  {eS:Addr}{eT:FuncData} (ef:Gf K mg "comes_to" dO n1 eS eT)
  (mr:aN P w K mg base CX0 1 eS eT n1 (spD K b3 3)) :
  aN P w K mg base CX0 5 my mz n62 (spD K eP 2) :=
 bF .V kX.F oV λcdv A outer s H E hr=>(ak (aF 2 oV.nd (aA kY (hr.mono (by decide)) dE.m dE.F.kp dE.b (ag (af 1) ar)))
 (ak (jc (ir 3 (N':=n23) rfl (aE (ai jU) rfl n24 rfl (by decide +kernel)) rfl (aZ rfl) (fW (af 2)) (λ_ _ _ _ _=>(bf 0 (show n23.Nodup by decide +kernel))) (λ_ _ _ _ _=>bj) (λ_ _ _ _ _=>(az (af 1) (af 0))) oV.nd) λ_ _ _ _ h=>i8 h)
 (ak (aF 4 oV.nd (aA B4 (hr.mono (by decide)) mx.m mx.F.kp mx.b (ag (af 0) (ag (af 2) (ag (af 3) ar)))))
 (ak (eA (pM (af 4)) (av (aJ (nc (ag cU (ag (af 4) ar))))) bL)
 (ak (aF 5 oV.nd (aA kW (hr.mono (by decide)) dD.m dD.F.kp dD.b (ag (af 0) (ag (af 2) ar))))
 (ak (eA (jv hr (az (af 5) ao) cU) (av (aJ (nc (ag cU (ag (az (af 5) ao) ar))))) bL)
 (av (aJ (nc (ag cU (ag (aA mr (hr.mono (by decide)) ef.m ef.F.kp ef.b (ag (az (af 0) ao) (ag (az (af 5) ao) (ag (af 3) ar)))) (ag (az (af 5) ao) ar))))))))))))
theorem fQ:aM n63 n64 (ai b4):=⟨rfl,rfl,rfl,by decide +kernel,rfl,by decide +kernel,by decide +kernel⟩
theorem pO{eU:Addr}{eV:FuncData}(T:Tx K mg)(b6:Gf K mg "to_the_power" b4 n64 eU eV) :
  aN P w K mg base CX0 1 eU eV n64 (spD K bp 2) :=
 bF .V b6.F fQ λcdv A outer s H E hr=>(ak (aF 2 fQ.nd ao)
 (ak (fX PassesOwn.never rfl (bP T.dP (af 1)) (bf 3 fQ.nd) (av (aF 2 fQ.nd (eR (af 2) (af 0)))))
 (av (aJ (af 2)))))
theorem lb:aM n65 n62 (ai b5):=⟨rfl,rfl,rfl,by decide +kernel,rfl,by decide +kernel,by decide +kernel⟩
theorem pP{eW:Addr}{eX:FuncData}(T:Tx K mg)(eY:Gf K mg "free_numbers" b5 n62 eW eX)
  {d7:Addr}{d8:FuncData} (dE:Gf K mg "rows_seen" cB n20 d7 d8)
  (kY:aN P w K mg base CX0 1 d7 d8 n20 (spD K bW 1))
  {cN:Addr}{cO:FuncData} (bT:Gf K mg "lines_at" cM n16 cN cO)
  (ix:aN P w K mg base CX0 1 cN cO n16 (spD K bH 2))
  {fE:Addr}{fF:FuncData} (fG:Gf K mg "nought_sums" bJ n59 fE fF)
  (rS:aN P w K mg base CX0 3 fE fF n59 (spD K dU 3)) :
  aN P w K mg base CX0 4 eW eX n62 (spD K cg 2) :=
 bF .V eY.F lb λcdv A outer s H E hr=>(ak (aF 2 lb.nd (aA ix (hr.mono (by decide)) bT.m bT.F.kp bT.b (ag (af 0) (ag (aA kY (hr.mono (by decide)) dE.m dE.F.kp dE.b (ag (af 1) ar)) ar))))
 (av (aJ (cV (vf (az (af 0) ao) (hZ T.ka (af 2))) (hZ T.ka (aA rS (hr.mono (by decide)) fG.m fG.F.kp fG.b (ag (az (af 0) ao) (ag (az (af 0) ao) (ag (af 2) ar)))))))))
theorem gC:aM n66 n62 (ai dZ):=⟨rfl,rfl,rfl,by decide +kernel,rfl,by decide +kernel,by decide +kernel⟩
theorem tI{iy:Addr}{iz:FuncData}(T:Tx K mg)(iA:Gf K mg "how_often" dZ n62 iy iz)
  {my:Addr}{mz:FuncData} (kX:Gf K mg "told" jU n62 my mz)
  (vN:aN P w K mg base CX0 5 my mz n62 (spD K eP 2))
  {eW:Addr}{eX:FuncData} (eY:Gf K mg "free_numbers" b5 n62 eW eX)
  (qj:aN P w K mg base CX0 4 eW eX n62 (spD K cg 2))
  {eU:Addr}{eV:FuncData} (b6:Gf K mg "to_the_power" b4 n64 eU eV)
  (lg:aN P w K mg base CX0 1 eU eV n64 (spD K bp 2)) :
  aN P w K mg base CX0 6 iy iz n62 (spD K gv 2) :=
 bF .V iA.F gC λcdv A outer s H E hr=>(ak (aF 2 gC.nd (az (af 0) ao))
 (ak (aF 3 gC.nd (aA vN (hr.mono (by decide)) kX.m kX.F.kp kX.b (ag (af 0) (ag (af 1) ar))))
 (ak (eA (jv hr (az (af 3) ao) cU) (av (aJ (CF.ce (kH (ag ao ar) (af 2))))) bL)
 (ak (aF 4 gC.nd (aA qj (hr.mono (by decide)) eY.m eY.F.kp eY.b (ag (af 0) (ag (af 1) ar))))
 (ak (eA (jv hr (az (af 3) ao) cU) (av (aJ (CF.ce (kH (ag (aA lg (hr.mono (by decide)) b6.m b6.F.kp b6.b (ag (af 2) (ag (vf (af 4) ao) ar))) ar) (af 2))))) bL)
 (ak (aF 5 gC.nd (CF.cell (kH (ag ao ar) (af 2))))
 (ak (fY 5 (az (af 3) ao) (aA lg (hr.mono (by decide)) b6.m b6.F.kp b6.b (ag (af 2) (ag (af 4) ar))))
 (av (aJ (af 5))))))))))
theorem Ek:aM n1 n1 (ai i4):=⟨rfl,rfl,rfl,by decide +kernel,rfl,by decide +kernel,by decide +kernel⟩
theorem B5{oW:Addr}{oX:FuncData}(T:Tx K mg)(oY:Gf K mg "added" i4 n1 oW oX) :
  aN P w K mg base CX0 1 oW oX n1 (spD K lY 3) :=
 bF .V oY.F Ek λcdv A outer s H E hr=>(av (aJ (CF.ce (bR (N':=n25) rfl (aE (ai i4) rfl n1 rfl (by decide +kernel)) rfl (c_ rfl rfl) (pL T.uE (af 1) (af 2)) (λ_ _ _ _ _=>(fN 0 1 (show n25.Nodup by decide +kernel) rfl)) (λ_ _ _ _ _=>bj) (λ_ _ _ _ _=>(bu (cV (af 0) (af 1)) (af 2)))))))
theorem tJ:aM n67 n67 (ai dm):=⟨rfl,rfl,rfl,by decide +kernel,rfl,by decide +kernel,by decide +kernel⟩
theorem rT{gD:Addr}{gE:FuncData}(T:Tx K mg)(gF:Gf K mg "filling_of" dm n67 gD gE) :
  aN P w K mg base CX0 1 gD gE n67 (spD K dN 2) :=
 bF .V gF.F tJ λcdv A outer s H E hr=>(av (aJ (cV (ky (ag (af 0) ar)) (je T.kS (af 1)))))
theorem zf:aM n68 n68 (ai gh):=⟨rfl,rfl,rfl,by decide +kernel,rfl,by decide +kernel,by decide +kernel⟩
theorem xi{ke:Addr}{kg:FuncData}(T:Tx K mg)(kh:Gf K mg "renewed" gh n68 ke kg)
  {gD:Addr}{gE:FuncData} (gF:Gf K mg "filling_of" dm n67 gD gE)
  (tK:aN P w K mg base CX0 1 gD gE n67 (spD K dN 2))
  {oR:Addr}{oS:FuncData} (oT:Gf K mg "parts" iY n12 oR oS)
  (El:aN P w K mg base CX0 2 oR oS n12 (spD K oI 2))
  {oW:Addr}{oX:FuncData} (oY:Gf K mg "added" i4 n1 oW oX)
  (Em:aN P w K mg base CX0 1 oW oX n1 (spD K lY 3)) :
  aN P w K mg base CX0 3 ke kg n68 (spD K h7 3) :=
 bF .V kh.F zf λcdv A outer s H E hr=>(av (aJ (aA Em (hr.mono (by decide)) oY.m oY.F.kp oY.b (ag (az (af 0) ao) (ag (af 1) (ag (aA El (hr.mono (by decide)) oT.m oT.F.kp oT.b (ag (af 0) (ag (aA tK (hr.mono (by decide)) gF.m gF.F.kp gF.b (ag ao (ag (af 2) ar))) ar))) ar))))))
theorem jX:aM n69 n70 (ai dn):=⟨rfl,rfl,rfl,by decide +kernel,rfl,by decide +kernel,by decide +kernel⟩
theorem rV{gG:Addr}{gH:FuncData}(T:Tx K mg)(gI:Gf K mg "seen_twice" dn n70 gG gH)
  {jG:Addr}{jH:FuncData} (fP:Gf K mg "opens" iZ n14 jG jH)
  (oZ:aN P w K mg base CX0 5 jG jH n14 (spD K dW 2)) :
  aN P w K mg base CX0 6 gG gH n70 (spD K eG 3) :=
 bF .V gI.F jX λcdv A outer s H E hr=>(ak (aF 3 jX.nd (aA oZ (hr.mono (by decide)) fP.m fP.F.kp fP.b (ag (af 0) (ag (af 1) ar))))
 (ak (eA (jv hr (az (af 3) ao) cU) (av (aJ (ky (ag cU (ag ao (ag (az (af 3) ao) ar)))))) bL)
 (ak (aF 4 jX.nd (aA oZ (hr.mono (by decide)) fP.m fP.F.kp fP.b (ag (af 0) (ag (af 2) ar))))
 (ak (eA (jv hr (az (af 4) ao) cU) (av (aJ (ky (ag cU (ag ao (ag (az (af 4) ao) ar)))))) bL)
 (av (aJ (ky (ag cU (ag (az (af 3) ao) (ag (az (af 4) ao) ar))))))))))
theorem kZ:aM n71 n72 (ai dq):=⟨rfl,rfl,rfl,by decide +kernel,rfl,by decide +kernel,by decide +kernel⟩
theorem tL{d9:Addr}{d_:FuncData}(T:Tx K mg)(aR:Gf K mg "_law_cell" dq n72 d9 d_) :
  aN P w K mg base CX0 1 d9 d_ n72 (spD K aS 2) :=
 bF .V aR.F kZ λcdv A outer s H E hr=>(ak (eA (Ht (af 1) (hZ T.ka (af 0))) (av (aJ (az (af 0) (af 1)))) bL)
 (ak (aF 2 kZ.nd (cV (eR (af 1) ao) ao))
 (ak (eA (DL (hZ T.ka (af 0)) ao) (av (aF 2 kZ.nd (cV (af 2) (eR (bu (az (af 0) (bu (eR (af 1) ao) (hZ T.ka (af 0)))) ao) ao)))) bL)
 (av (aJ (bu (eR (bu (eR (af 2) (af 2)) ao) ao) ao))))))
theorem mT:aM n73 n74 (ai du):=⟨rfl,rfl,rfl,by decide +kernel,rfl,by decide +kernel,by decide +kernel⟩
theorem rW{gJ:Addr}{gK:FuncData}(T:Tx K mg)(gL:Gf K mg "_law_mixed" du n74 gJ gK) :
  aN P w K mg base CX0 1 gJ gK n74 (spD K jR 2) :=
 bF .V gL.F mT λcdv A outer s H E hr=>(ak (aF 2 mT.nd (bu (eR (cV (bu (af 0) ao) ao) (cV ao (eR (af 1) (af 1)))) ao))
 (av (aJ (bu (eR (bu (eR (af 2) (cV (af 2) (eR ao (af 1)))) ao) ao) ao))))
theorem fR:aM n75 n76 (ai bM):=⟨rfl,rfl,rfl,by decide +kernel,rfl,by decide +kernel,by decide +kernel⟩
theorem pQ{b7:Addr}{b8:FuncData}(T:Tx K mg)(bc:Gf K mg "_law_numbers" bM n76 b7 b8)
  {gJ:Addr}{gK:FuncData} (gL:Gf K mg "_law_mixed" du n74 gJ gK)
  (tM:aN P w K mg base CX0 1 gJ gK n74 (spD K jR 2)) :
  aN P w K mg base CX0 2 b7 b8 n76 (spD K ba 4) :=
 bF .V bc.F fR λcdv A outer s H E hr=>(ak (aF 4 fR.nd (CF.cell (hV ar)))
 (ak (fX PassesOwn.never rfl (bP T.dP (af 2)) (bf 5 fR.nd) (av (eA (u7 (af 3)) (ak (j9 (af 4) (bu (af 0) (af 1)))
 (av (aF 0 fR.nd (kG (af 0) (af 1))))) (av (j9 (af 4) (bu (kG (aA tM (hr.mono (by decide)) gL.m gL.F.kp gL.b (ag (af 0) (ag (af 5) ar))) ao) (af 1)))))))
 (av (aJ (af 4)))))
theorem tN:aM n27 n27 (ai ck):=⟨rfl,rfl,rfl,by decide +kernel,rfl,by decide +kernel,by decide +kernel⟩
theorem rX{gM:Addr}{gN:FuncData}(T:Tx K mg)(gO:Gf K mg "_law_hands" ck n27 gM gN) :
  aN P w K mg base CX0 1 gM gN n27 (spD K eI 1) :=
 bF .V gO.F tN λcdv A outer s H E hr=>(av (aJ (CF.ce (bR (N':=n26) rfl (aE (ai ck) rfl n27 rfl (by decide +kernel)) rfl (aZ rfl) (bP T.dP ao) (λ_ _ _ _ _=>(bf 0 (show n26.Nodup by decide +kernel))) (λ_ _ _ _ _=>(hX (jv hr (D6 (Ju (af 1) (af 0)) ao) ao))) (λ_ _ _ _ _=>(af 0))))))
theorem vO:aM n29 n29 (ai dw):=⟨rfl,rfl,rfl,by decide +kernel,rfl,by decide +kernel,by decide +kernel⟩
theorem tO{iB:Addr}{iC:FuncData}(T:Tx K mg)(iD:Gf K mg "_law_rows" dw n29 iB iC) :
  aN P w K mg base CX0 1 iB iC n29 (spD K iV 2) :=
 bF .V iD.F vO λcdv A outer s H E hr=>(av (aJ (CF.ce (bR (N':=n28) rfl (aE (ai dw) rfl n29 rfl (by decide +kernel)) rfl (aZ rfl) (bP T.dP (hZ T.ka (az (af 0) ao))) (λ_ _ _ _ _=>(bf 0 (show n28.Nodup by decide +kernel))) (λ_ _ _ _ _=>(hX (Hz hr (az (az (az (af 2) ao) (af 0)) ao) (af 1)))) (λ_ _ _ _ _=>(af 0))))))
theorem tP:aM n32 n32 (ai bN):=⟨rfl,rfl,rfl,by decide +kernel,rfl,by decide +kernel,by decide +kernel⟩
theorem rY{dF:Addr}{dG:FuncData}(T:Tx K mg)(cu:Gf K mg "_law_given" bN n32 dF dG) :
  aN P w K mg base CX0 1 dF dG n32 (spD K cz 2) :=
 bF .V cu.F tP λcdv A outer s H E hr=>(av (aJ (CF.ce (bR (N':=n31) rfl (aE (ai bN) rfl n32 rfl (by decide +kernel)) rfl (c_ rfl rfl) (fW (az (af 0) ao)) (λ_ _ _ _ _=>(fN 0 1 (show n31.Nodup by decide +kernel) rfl)) (λ_ _ _ _ _=>bj) (λ_ _ _ _ _=>(bu (yx hr T.Eb (CF.ce (bR (N':=n30) rfl (lR (ai bN) rfl (by decide +kernel)) rfl (c_ rfl rfl) (pL T.uE (af 1) (af 3)) (λ_ _ _ _ _=>(fN 0 1 (show n30.Nodup by decide +kernel) rfl)) (λ_ _ _ _ _=>bj) (λ_ _ _ _ _=>(eR (af 0) (af 1)))))) (az (af 2) ao)))))))
theorem cD:aM n77 n78 (ai dy):=⟨rfl,rfl,rfl,by decide +kernel,rfl,by decide +kernel,by decide +kernel⟩
theorem rZ{gP:Addr}{gQ:FuncData}(T:Tx K mg)(gR:Gf K mg "_law_small" dy n78 gP gQ)
  {d9:Addr}{d_:FuncData} (aR:Gf K mg "_law_cell" dq n72 d9 d_)
  (eg:aN P w K mg base CX0 1 d9 d_ n72 (spD K aS 2))
  {b7:Addr}{b8:FuncData} (bc:Gf K mg "_law_numbers" bM n76 b7 b8)
  (fS:aN P w K mg base CX0 2 b7 b8 n76 (spD K ba 4)) :
  aN P w K mg base CX0 3 gP gQ n78 (spD K eJ 1) :=
 bF .V gR.F cD λcdv A outer s H E hr=>(ak (aF 1 cD.nd (bu (aA eg (hr.mono (by decide)) aR.m aR.F.kp aR.b (ag (af 0) (ag ao ar))) (DK ao ao)))
 (ak (aF 2 cD.nd (az (CF.ce (hV (ag ao (ag ao (ag ao (ag ao ar)))))) (bu (af 1) ao)))
 (ak (aF 3 cD.nd (cV ao (bu (kG (af 1) ao) (az (CF.ce (hV (ag ao (ag ao (ag ao (ag ao ar)))))) (bu (af 1) ao)))))
 (ak (aF 4 cD.nd (cV ao (bu (kG (af 1) ao) ao)))
 (ak (aF 5 cD.nd (CF.cell (hV ar)))
 (ak (fX PassesOwn.never rfl (bP T.dP (bu (kG (af 1) ao) ao)) (bf 6 cD.nd) (ak (aF 7 cD.nd (aA eg (hr.mono (by decide)) aR.m aR.F.kp aR.b (ag (af 0) (ag (cV ao (af 6)) ar))))
 (av (j9 (af 5) (ky (ag (bu (af 7) (af 4)) (ag (je T.kS (aA fS (hr.mono (by decide)) bc.m bc.F.kp bc.b (ag (kG (af 7) ao) (ag (af 2) (ag (af 3) (ag (lW hr (bu (kG (af 1) ao) ao) ao) ar)))))) ar)))))))
 (av (aJ (ky (ag (af 2) (ag (af 3) (ag (je T.kS (af 5)) ar))))))))))))
theorem cI:aM n34 n79 (ai bE):=⟨rfl,rfl,rfl,by decide +kernel,rfl,by decide +kernel,by decide +kernel⟩
theorem o4{eB:Addr}{eC:FuncData}(T:Tx K mg)(eD:Gf K mg "_law_fillings" bE n79 eB eC) :
  aN P w K mg base CX0 1 eB eC n79 (spD K cH 2) :=
 bF .V eD.F cI λcdv A outer s H E hr=>(ak (aF 2 cI.nd (CF.ce (hV (ag (CF.ce (hV ar)) ar))))
 (ak (fX PassesOwn.never rfl (bP T.dP (af 1)) (bf 3 cI.nd) (ak (aF 4 cI.nd (CF.cell (hV ar)))
 (ak (fX PassesOwn.never rfl (fW (af 2)) (bf 5 cI.nd) (av (BI (af 4) (bR (N':=n33) rfl (aE (ai bE) rfl n34 rfl (by decide +kernel)) rfl (aZ rfl) (bP T.dP (af 0)) (λ_ _ _ _ _=>(bf 0 (show n33.Nodup by decide +kernel))) (λ_ _ _ _ _=>bj) (λ_ _ _ _ _=>(cV (af 1) (CF.ce (hV (ag (af 0) ar)))))))))
 (av (aF 2 cI.nd (af 4))))))
 (av (aJ (af 2)))))
theorem o5:aM n36 n80 (ai dz):=⟨rfl,rfl,rfl,by decide +kernel,rfl,by decide +kernel,by decide +kernel⟩
theorem tQ{iE:Addr}{iF:FuncData}(T:Tx K mg)(ed:Gf K mg "_law_seen" dz n80 iE iF)
  {iB:Addr}{iC:FuncData} (iD:Gf K mg "_law_rows" dw n29 iB iC)
  (vP:aN P w K mg base CX0 1 iB iC n29 (spD K iV 2)) :
  aN P w K mg base CX0 2 iE iF n80 (spD K df 3) :=
 bF .V ed.F o5 λcdv A outer s H E hr=>(ak (aF 3 o5.nd (aA vP (hr.mono (by decide)) iD.m iD.F.kp iD.b (ag (af 0) (ag (af 1) ar))))
 (av (aJ (CF.ce (bR (N':=n35) rfl (aE (ai dz) rfl n36 rfl (by decide +kernel)) rfl (aZ rfl) (bP T.dP (hZ T.ka (af 2))) (λ_ _ _ _ _=>(bf 0 (show n35.Nodup by decide +kernel))) (λ_ _ _ _ _=>bj) (λ_ _ _ _ _=>(az (CF.ce (hV (ag pI (ag (az (af 1) (af 0)) ar)))) (GN T.LI (LF hr (af 0) (af 2))))))))))
theorem fT:aM n38 n81 (ai bO):=⟨rfl,rfl,rfl,by decide +kernel,rfl,by decide +kernel,by decide +kernel⟩
theorem pR{eZ:Addr}{e8:FuncData}(T:Tx K mg)(b9:Gf K mg "_law_counted" bO n81 eZ e8)
  {dF:Addr}{dG:FuncData} (cu:Gf K mg "_law_given" bN n32 dF dG)
  (jY:aN P w K mg base CX0 1 dF dG n32 (spD K cz 2)) :
  aN P w K mg base CX0 2 eZ e8 n81 (spD K bQ 3) :=
 bF .V b9.F fT λcdv A outer s H E hr=>(ak (aF 3 fT.nd (CF.cell (kH (ag ao ar) (az (af 0) ao))))
 (ak (fX PassesOwn.never rfl (fW (af 1)) (bf 4 fT.nd) (ak (aF 5 fT.nd (aA jY (hr.mono (by decide)) cu.m cu.F.kp cu.b (ag (af 0) (ag (af 4) ar))))
 (av (eA (u7 (Jx hr T.LH (CF.ce (bR (N':=n37) rfl (aE (ai bO) rfl n38 rfl (by decide +kernel)) rfl (aZ rfl) (bP T.dP (hZ T.ka (af 2))) (λ_ _ _ _ _=>(bf 0 (show n37.Nodup by decide +kernel))) (λ_ _ _ _ _=>bj) (λ_ _ _ _ _=>(Lj (JA (az (af 1) (af 0))) (Dp (lW hr (az (af 1) (af 0)) (az (af 2) (af 0)))))))))) (av (fY 3 (az (af 4) ao) (cV (az (af 3) (az (af 4) ao)) ao))) bL))))
 (av (aJ (af 3)))))
theorem mU:aM n40 n82 (ai cm):=⟨rfl,rfl,rfl,by decide +kernel,rfl,by decide +kernel,by decide +kernel⟩
theorem r8{gS:Addr}{gT:FuncData}(T:Tx K mg)(dH:Gf K mg "_law_right" cm n82 gS gT)
  {my:Addr}{mz:FuncData} (kX:Gf K mg "told" jU n62 my mz)
  (vN:aN P w K mg base CX0 5 my mz n62 (spD K eP 2))
  {iy:Addr}{iz:FuncData} (iA:Gf K mg "how_often" dZ n62 iy iz)
  (vQ:aN P w K mg base CX0 6 iy iz n62 (spD K gv 2)) :
  aN P w K mg base CX0 7 gS gT n82 (spD K bX 3) :=
 bF .V dH.F mU λcdv A outer s H E hr=>(ak (aF 3 mU.nd (aA vN (hr.mono (by decide)) kX.m kX.F.kp kX.b (ag (af 0) (ag (CF.ce (qt T.rK (af 2))) ar))))
 (ak (eA (wR hr (aA vQ (hr.mono (by decide)) iA.m iA.F.kp iA.b (ag (af 0) (ag (CF.ce (qt T.rK (af 2))) ar))) (af 1)) (av (aJ uj)) bL)
 (ak (eA (jv hr (yx hr T.Eb (af 1)) ao) (av (aJ (lW hr (az (af 3) ao) cU))) bL)
 (ak (eA (jv hr (hZ T.ka (CF.ce (bR (N':=n39) rfl (aE (ai cm) rfl n40 rfl (by decide +kernel)) rfl (aZ rfl) (fW (af 1)) (λ_ _ _ _ _=>(bf 0 (show n39.Nodup by decide +kernel))) (λ_ _ _ _ _=>(hX (DL (af 0) ao))) (λ_ _ _ _ _=>(af 0))))) ao) (av (aJ (lW hr (DU (af 3) Ad (Ae ao)) (ky (ag cU (ag (GR (af 1) (Am hr T.Ea (af 1))) ar)))))) bL)
 (av (aJ (Ji (lW hr (az (af 3) ao) cU) (Dp (lW hr (GO hr T.LJ (af 1)) (Am hr T.Ea (af 1)))))))))))
theorem e_:aM n83 n84 (ai cC):=⟨rfl,rfl,rfl,by decide +kernel,rfl,by decide +kernel,by decide +kernel⟩
theorem qk{fK:Addr}{fL:FuncData}(T:Tx K mg)(fM:Gf K mg "_law_spoilt" cC n84 fK fL) :
  aN P w K mg base CX0 1 fK fL n84 (spD K dX 3) :=
 bF .V fM.F e_ λcdv A outer s H E hr=>(ak (aF 3 e_.nd (CF.cell (qt T.rK (af 0))))
 (ak (aF 4 e_.nd (bu (af 1) (JC T.Ea ao (hZ T.ka (af 0)))))
 (ak (eA (DL (hZ T.ka (af 0)) ao) (ak (aF 5 e_.nd (kG (af 1) ao))
 (ak (eA (pM (az (af 0) (af 4))) (av (aF 5 e_.nd (cV (cV (af 5) (az (af 0) (af 4))) ao))) bL)
 (av (fY 3 (af 4) (bu (af 5) (af 2)))))) bL)
 (av (aJ (af 3))))))
theorem tR:aM n41 n41 (ai cn):=⟨rfl,rfl,rfl,by decide +kernel,rfl,by decide +kernel,by decide +kernel⟩
theorem r_{gU:Addr}{gW:FuncData}(T:Tx K mg)(gX:Gf K mg "_law_pairs" cn n41 gU gW) :
  aN P w K mg base CX0 1 gU gW n41 (spD K eK 3) :=
 bF .V gX.F tR λcdv A outer s H E hr=>(av (aJ (CF.ce (bR (N':=n30) rfl (aE (ai cn) rfl n41 rfl (by decide +kernel)) rfl (c_ rfl rfl) (pL T.uE (af 1) (af 2)) (λ_ _ _ _ _=>(fN 0 1 (show n30.Nodup by decide +kernel) rfl)) (λ_ _ _ _ _=>bj) (λ_ _ _ _ _=>(eR (af 0) (af 1)))))))
theorem gY:aM n44 n78 (ai jz):=⟨rfl,rfl,rfl,by decide +kernel,rfl,by decide +kernel,by decide +kernel⟩
theorem GV{HA:Addr}{HB:FuncData}(T:Tx K mg)(LK:Gf K mg "law" jz n78 HA HB)
  {gP:Addr}{gQ:FuncData} (gR:Gf K mg "_law_small" dy n78 gP gQ)
  (tS:aN P w K mg base CX0 3 gP gQ n78 (spD K eJ 1))
  {eB:Addr}{eC:FuncData} (eD:Gf K mg "_law_fillings" bE n79 eB eC)
  (pS:aN P w K mg base CX0 1 eB eC n79 (spD K cH 2))
  {d9:Addr}{d_:FuncData} (aR:Gf K mg "_law_cell" dq n72 d9 d_)
  (eg:aN P w K mg base CX0 1 d9 d_ n72 (spD K aS 2))
  {b7:Addr}{b8:FuncData} (bc:Gf K mg "_law_numbers" bM n76 b7 b8)
  (fS:aN P w K mg base CX0 2 b7 b8 n76 (spD K ba 4))
  {dF:Addr}{dG:FuncData} (cu:Gf K mg "_law_given" bN n32 dF dG)
  (jY:aN P w K mg base CX0 1 dF dG n32 (spD K cz 2))
  {gM:Addr}{gN:FuncData} (gO:Gf K mg "_law_hands" ck n27 gM gN)
  (tT:aN P w K mg base CX0 1 gM gN n27 (spD K eI 1))
  {jG:Addr}{jH:FuncData} (fP:Gf K mg "opens" iZ n14 jG jH)
  (oZ:aN P w K mg base CX0 5 jG jH n14 (spD K dW 2))
  {ke:Addr}{kg:FuncData} (kh:Gf K mg "renewed" gh n68 ke kg)
  (zh:aN P w K mg base CX0 3 ke kg n68 (spD K h7 3))
  {iE:Addr}{iF:FuncData} (ed:Gf K mg "_law_seen" dz n80 iE iF)
  (o7:aN P w K mg base CX0 2 iE iF n80 (spD K df 3))
  {eZ:Addr}{e8:FuncData} (b9:Gf K mg "_law_counted" bO n81 eZ e8)
  (lh:aN P w K mg base CX0 2 eZ e8 n81 (spD K bQ 3))
  {gS:Addr}{gT:FuncData} (dH:Gf K mg "_law_right" cm n82 gS gT)
  (mV:aN P w K mg base CX0 7 gS gT n82 (spD K bX 3))
  {fK:Addr}{fL:FuncData} (fM:Gf K mg "_law_spoilt" cC n84 fK fL)
  (sa:aN P w K mg base CX0 1 fK fL n84 (spD K dX 3))
  {gU:Addr}{gW:FuncData} (gX:Gf K mg "_law_pairs" cn n41 gU gW)
  (tU:aN P w K mg base CX0 1 gU gW n41 (spD K eK 3))
  {gG:Addr}{gH:FuncData} (gI:Gf K mg "seen_twice" dn n70 gG gH)
  (tV:aN P w K mg base CX0 6 gG gH n70 (spD K eG 3)) :
  aN P w K mg base CX0 8 HA HB n78 (spD K pN 1) :=
 bF .V LK.F gY λcdv A outer s H E hr=>(ak (aF 1 gY.nd (aA tS (hr.mono (by decide)) gR.m gR.F.kp gR.b (ag (af 0) ar)))
 (ak (JF (JE 2 3 4 gY.nd rfl) (af 1))
 (ak (aF 5 gY.nd (aA pS (hr.mono (by decide)) eD.m eD.F.kp eD.b (ag (af 2) (ag (af 3) ar))))
 (ak (aF 6 gY.nd (aA fS (hr.mono (by decide)) bc.m bc.F.kp bc.b (ag (aA eg (hr.mono (by decide)) aR.m aR.F.kp aR.b (ag (af 0) (ag ao ar))) (ag (af 2) (ag (af 3) (ag uj ar))))))
 (ak (aF 7 gY.nd (aA jY (hr.mono (by decide)) cu.m cu.F.kp cu.b (ag (af 1) (ag (af 6) ar))))
 (ak (jc (ir 8 (N':=n43) rfl (aE (ai jz) rfl n44 rfl (by decide +kernel)) rfl (aZ rfl) (bP T.dP ao) (λ_ _ _ _ _=>(bf 0 (show n43.Nodup by decide +kernel))) (λ_ _ _ _ _=>bj) (λ_ _ _ _ _=>(CF.ce (bR (N':=n42) rfl (lR (ai jz) rfl (by decide +kernel)) rfl (aZ rfl) (fW (aA tT (hr.mono (by decide)) gO.m gO.F.kp gO.b (ag (aA eg (hr.mono (by decide)) aR.m aR.F.kp aR.b (ag (af 1) (ag (cV ao (af 0)) ar))) ar))) (λ_ _ _ _ _=>(bf 0 (show n42.Nodup by decide +kernel))) (λ_ _ _ _ _=>(hX (Ht (af 0) ao))) (λ_ _ _ _ _=>(af 0))))) gY.nd) λ_ _ _ _ h=>i8 h)
 (ak (jc (ir 9 (N':=n45) rfl (aE (ai jz) rfl n44 rfl (by decide +kernel)) rfl (aZ rfl) (fW (af 8)) (λ_ _ _ _ _=>(bf 0 (show n45.Nodup by decide +kernel))) (λ_ _ _ _ _=>bj) (λ_ _ _ _ _=>(az (aA oZ (hr.mono (by decide)) fP.m fP.F.kp fP.b (ag (af 1) (ag (af 0) ar))) ao)) gY.nd) λ_ _ _ _ h=>i8 h)
 (ak (aF 10 gY.nd (aA zh (hr.mono (by decide)) kh.m kh.F.kp kh.b (ag (af 1) (ag (CF.ce (qt T.rK (af 7))) (ag (aA fS (hr.mono (by decide)) bc.m bc.F.kp bc.b (ag (aA eg (hr.mono (by decide)) aR.m aR.F.kp aR.b (ag (af 0) (ag ao ar))) (ag (af 2) (ag (vf (af 3) ao) (ag uj ar))))) ar)))))
 (ak (aF 11 gY.nd (CF.ce (hV (ag (aA o7 (hr.mono (by decide)) ed.m ed.F.kp ed.b (ag (af 1) (ag (az (af 8) ao) (ag (af 7) ar)))) (ag (aA o7 (hr.mono (by decide)) ed.m ed.F.kp ed.b (ag (af 1) (ag (az (af 8) ao) (ag (af 10) ar)))) ar)))))
 (ak (jc (ir 12 (N':=n46) rfl (aE (ai jz) rfl n44 rfl (by decide +kernel)) rfl (aZ rfl) (fW (af 11)) (λ_ _ _ _ _=>(bf 0 (show n46.Nodup by decide +kernel))) (λ_ _ _ _ _=>bj) (λ_ _ _ _ _=>(aA lh (hr.mono (by decide)) b9.m b9.F.kp b9.b (ag (af 1) (ag (af 2) (ag (af 0) ar))))) gY.nd) λ_ _ _ _ h=>i8 h)
 (ak (fX PassesOwn.never rfl (bP T.dP ao) (bf 13 gY.nd) (ak (eA (wR hr (lW hr (az (af 12) (af 13)) (CF.ce (kH (ag (az (az (af 12) (af 13)) ao) ar) (af 2)))) (lW hr (az (af 9) (af 13)) cU)) (av (aJ uj)) bL)
 (av (eA (CW.ct (Li (jv hr (az (az (af 12) (af 13)) (az (af 6) ao)) ao) (Bk (Dn (u7 (aA mV (hr.mono (by decide)) dH.m dH.F.kp dH.b (ag (af 1) (ag (az (af 12) (af 13)) (ag (az (af 11) (af 13)) ar))))))))) (av (aJ uj)) bL))))
 (ak (aF 14 gY.nd (aA sa (hr.mono (by decide)) fM.m fM.F.kp fM.b (ag (az (af 11) ao) (ag (bu (aA eg (hr.mono (by decide)) aR.m aR.F.kp aR.b (ag (af 0) (ag ao ar))) (DK ao ao)) (ag (af 2) ar)))))
 (ak (eA (Dn (u7 (aA mV (hr.mono (by decide)) dH.m dH.F.kp dH.b (ag (af 1) (ag (aA lh (hr.mono (by decide)) b9.m b9.F.kp b9.b (ag (af 1) (ag (af 5) (ag (af 14) ar)))) (ag (af 14) ar)))))) (av (aJ uj)) bL)
 (ak (aF 15 gY.nd (aA tU (hr.mono (by decide)) gX.m gX.F.kp gX.b (ag (af 1) (ag (az (af 12) ao) (ag (az (af 12) ao) ar)))))
 (av (aJ (lW hr (lW hr (az (aA tV (hr.mono (by decide)) gI.m gI.F.kp gI.b (ag (af 1) (ag (az (af 8) ao) (ag (az (af 8) ao) ar)))) ao) cU) (lW hr (af 15) (CF.ce (kH (ag (az (af 15) ao) ar) (af 2)))))))))))))))))))))
theorem us1{us:List Value}(h:us.length=1):∃a0,us=[a0]:=by
 obtain⟨a0,us,rfl⟩:=ia h;rw[List.length_cons] at h;replace h:=Nat.succ.inj h;cases List.eq_nil_of_length_eq_zero h;exact⟨_,rfl⟩
theorem us2{us:List Value}(h:us.length=2):∃a0 a1,us=[a0,a1]:=by
 obtain⟨a0,us,rfl⟩:=ia h;rw[List.length_cons] at h;replace h:=Nat.succ.inj h;obtain⟨a1,us,rfl⟩:=ia h;rw[List.length_cons] at h;replace h:=Nat.succ.inj h;cases List.eq_nil_of_length_eq_zero h;exact⟨_,_,rfl⟩
theorem us3{us:List Value}(h:us.length=3):∃a0 a1 a2,us=[a0,a1,a2]:=by
 obtain⟨a0,us,rfl⟩:=ia h;rw[List.length_cons] at h;replace h:=Nat.succ.inj h;obtain⟨a1,us,rfl⟩:=ia h;rw[List.length_cons] at h;replace h:=Nat.succ.inj h;obtain⟨a2,us,rfl⟩:=ia h;rw[List.length_cons] at h;replace h:=Nat.succ.inj h;cases List.eq_nil_of_length_eq_zero h;exact⟨_,_,_,rfl⟩
theorem us4{us:List Value}(h:us.length=4):∃a0 a1 a2 a3,us=[a0,a1,a2,a3]:=by
 obtain⟨a0,us,rfl⟩:=ia h;rw[List.length_cons] at h;replace h:=Nat.succ.inj h;obtain⟨a1,us,rfl⟩:=ia h;rw[List.length_cons] at h;replace h:=Nat.succ.inj h;obtain⟨a2,us,rfl⟩:=ia h;rw[List.length_cons] at h;replace h:=Nat.succ.inj h;obtain⟨a3,us,rfl⟩:=ia h;rw[List.length_cons] at h;replace h:=Nat.succ.inj h;cases List.eq_nil_of_length_eq_zero h;exact⟨_,_,_,_,rfl⟩
theorem all_mk{l:PySem.W.OpenLaw}{w:World}{K:PySem.W.Frag}{h:Heap}{mg:Str→Option Value}{fa:Addr}(X:K.In h)(G:h.Ns mainGlobals mg)(hfa:mg "law"=some (.ref fa))
  {f0 f1 f2 f3 f4 f5 f6 f7 f8 f9 f10 f11 f12 f13 f14 f15 f16 f17 f18 f19 f20 f21 f22 f23 f24 f25 f26 f27 f28 f29 f30 f31 f32 f33 f34 f35 f36 f37 f38 f39 f40:Addr}{od0 an0 od1 an1 od2 an2 od3 an3 od4 an4 od5 an5 od6 an6 od7 an7 od8 an8 od9 an9 NI NJ NK NL NM NN NO NP NQ NR NS NU NV NW NX NY NZ N0 N1 N3 N4 N5 N6 N7 N8 N9 N_ Oa Ob Oc Od Oe Of Og Oh Oi Oj Ol Om Oo Oq Ot Ou Ov Ow Ox Oy Oz OA OB OC OD OE OF OG OH OI OJ OK OL OM LL:Option Addr}{sl0 sl1 sl2 sl3 sl4 sl5 sl6 sl7 sl8 sl9 ON OO OP OQ OR OS OT OU OV OW OX OY OZ O0 O1 O2 O3 O4 O5 O6 O7 O8 O9 O_ Pa Pb Pc Pd Pe Pf Pg:Array (Option Value)}{oc0 kV0 dc0 pm0 cd0 ct0 oc1 kV1 dc1 pm1 cd1 ct1 oc2 kV2 dc2 pm2 cd2 ct2 oc3 kV3 dc3 pm3 cd3 ct3 oc4 kV4 dc4 pm4 cd4 ct4 oc5 kV5 dc5 pm5 cd5 ct5 oc6 kV6 dc6 pm6 cd6 ct6 oc7 kV7 dc7 pm7 cd7 ct7 oc8 kV8 dc8 pm8 cd8 ct8 oc9 kV9 dc9 pm9 cd9 ct9 Ph Pj Pk Pl LM Pm Pn Po Pp Pq LN Pr Pt Pu Pw Px LO Py Pz PB PD PF LP PH PJ PK PL PM LQ PN PQ PR PU PV LR PX PY PZ P0 P1 LS P2 P4 P5 P6 P7 LU P8 P9 P_ Qa Qb LV Qc Qd Qe Qf Qg LW Qh Qi Qj Qk Ql LX Qm Qn Qo Qp Qq LY Qr Qs Qt Qu Qv LZ Qw Qx Qy Qz QA L0 QB QC QD QE QF L1 QG QH QI QJ QK L3 QL QM QN QO QP L4 QQ QR QS QT QU L5 QV QW QX QY QZ L6 Q0 Q1 Q2 Q3 Q4 L7 Q5 Q6 Q7 Q8 Q9 L8 Q_ Ra Rb Rc Rf L9 Rg Rh Ri Rj Rk L_ Rl Rm Rn Ro Rq Ma Rr Rt Ru Rv Rx Mb Ry Rz RA RB RC Mc RD RE RF RG RH Me RI RJ RK RL RM Mf RN RO RP RQ RT Mg RU RV RW RX RY Mh RZ R1 Mi Mj Mk JI Ml:Value}
  (a0:PySem.W.nsIn K mainGlobals "over"=some (some (.ref f0))) (l0:K.lookup f0=some ⟨oc0,od0,.func (PySem.W.fnOf "over" "over" (aK kQ) (aI kQ) (ai kQ) .none kV0 dc0 pm0 an0 cd0 ct0),sl0⟩) (c0:PySem.W.codeIn K cd0 "over"=true) (k0:PySem.W.keepIn K (.ref f0)=true)
  (a1:PySem.W.nsIn K mainGlobals "comes_to"=some (some (.ref f1))) (l1:K.lookup f1=some ⟨oc1,od1,.func (PySem.W.fnOf "comes_to" "comes_to" (aK dO) (aI dO) (ai dO) .none kV1 dc1 pm1 an1 cd1 ct1),sl1⟩) (c1:PySem.W.codeIn K cd1 "comes_to"=true) (k1:PySem.W.keepIn K (.ref f1)=true)
  (a2:PySem.W.nsIn K mainGlobals "times"=some (some (.ref f2))) (l2:K.lookup f2=some ⟨oc2,od2,.func (PySem.W.fnOf "times" "times" (aK ig) (aI ig) (ai ig) .none kV2 dc2 pm2 an2 cd2 ct2),sl2⟩) (c2:PySem.W.codeIn K cd2 "times"=true) (k2:PySem.W.keepIn K (.ref f2)=true)
  (a3:PySem.W.nsIn K mainGlobals "freed"=some (some (.ref f3))) (l3:K.lookup f3=some ⟨oc3,od3,.func (PySem.W.fnOf "freed" "freed" (aK iW) (aI iW) (ai iW) .none kV3 dc3 pm3 an3 cd3 ct3),sl3⟩) (c3:PySem.W.codeIn K cd3 "freed"=true) (k3:PySem.W.keepIn K (.ref f3)=true)
  (a4:PySem.W.nsIn K mainGlobals "first_place"=some (some (.ref f4))) (l4:K.lookup f4=some ⟨oc4,od4,.func (PySem.W.fnOf "first_place" "first_place" (aK cA) (aI cA) (ai cA) .none kV4 dc4 pm4 an4 cd4 ct4),sl4⟩) (c4:PySem.W.codeIn K cd4 "first_place"=true) (k4:PySem.W.keepIn K (.ref f4)=true)
  (a5:PySem.W.nsIn K mainGlobals "eased"=some (some (.ref f5))) (l5:K.lookup f5=some ⟨oc5,od5,.func (PySem.W.fnOf "eased" "eased" (aK iX) (aI iX) (ai iX) .none kV5 dc5 pm5 an5 cd5 ct5),sl5⟩) (c5:PySem.W.codeIn K cd5 "eased"=true) (k5:PySem.W.keepIn K (.ref f5)=true)
  (a6:PySem.W.nsIn K mainGlobals "numbers_at"=some (some (.ref f6))) (l6:K.lookup f6=some ⟨oc6,od6,.func (PySem.W.fnOf "numbers_at" "numbers_at" (aK bY) (aI bY) (ai bY) .none kV6 dc6 pm6 an6 cd6 ct6),sl6⟩) (c6:PySem.W.codeIn K cd6 "numbers_at"=true) (k6:PySem.W.keepIn K (.ref f6)=true)
  (a7:PySem.W.nsIn K mainGlobals "unit"=some (some (.ref f7))) (l7:K.lookup f7=some ⟨oc7,od7,.func (PySem.W.fnOf "unit" "unit" (aK jn) (aI jn) (ai jn) .none kV7 dc7 pm7 an7 cd7 ct7),sl7⟩) (c7:PySem.W.codeIn K cd7 "unit"=true) (k7:PySem.W.keepIn K (.ref f7)=true)
  (a8:PySem.W.nsIn K mainGlobals "held"=some (some (.ref f8))) (l8:K.lookup f8=some ⟨oc8,od8,.func (PySem.W.fnOf "held" "held" (aK kR) (aI kR) (ai kR) .none kV8 dc8 pm8 an8 cd8 ct8),sl8⟩) (c8:PySem.W.codeIn K cd8 "held"=true) (k8:PySem.W.keepIn K (.ref f8)=true)
  (a9:PySem.W.nsIn K mainGlobals "nought_sum"=some (some (.ref f9))) (l9:K.lookup f9=some ⟨oc9,od9,.func (PySem.W.fnOf "nought_sum" "nought_sum" (aK dg) (aI dg) (ai dg) .none kV9 dc9 pm9 an9 cd9 ct9),sl9⟩) (c9:PySem.W.codeIn K cd9 "nought_sum"=true) (k9:PySem.W.keepIn K (.ref f9)=true)
  (a10:PySem.W.nsIn K mainGlobals "nought_sums"=some (some (.ref f10))) (l10:K.lookup f10=some ⟨Ph,NI,.func (PySem.W.fnOf "nought_sums" "nought_sums" (aK bJ) (aI bJ) (ai bJ) .none Pj Pk Pl NJ LM Pm),ON⟩) (c10:PySem.W.codeIn K LM "nought_sums"=true) (k10:PySem.W.keepIn K (.ref f10)=true)
  (a11:PySem.W.nsIn K mainGlobals "parts"=some (some (.ref f11))) (l11:K.lookup f11=some ⟨Pn,NK,.func (PySem.W.fnOf "parts" "parts" (aK iY) (aI iY) (ai iY) .none Po Pp Pq NL LN Pr),OO⟩) (c11:PySem.W.codeIn K LN "parts"=true) (k11:PySem.W.keepIn K (.ref f11)=true)
  (a12:PySem.W.nsIn K mainGlobals "rows_of"=some (some (.ref f12))) (l12:K.lookup f12=some ⟨Pt,NM,.func (PySem.W.fnOf "rows_of" "rows_of" (aK fj) (aI fj) (ai fj) .none Pu Pw Px NN LO Py),OP⟩) (c12:PySem.W.codeIn K LO "rows_of"=true) (k12:PySem.W.keepIn K (.ref f12)=true)
  (a13:PySem.W.nsIn K mainGlobals "lines_at"=some (some (.ref f13))) (l13:K.lookup f13=some ⟨Pz,NO,.func (PySem.W.fnOf "lines_at" "lines_at" (aK cM) (aI cM) (ai cM) .none PB PD PF NP LP PH),OQ⟩) (c13:PySem.W.codeIn K LP "lines_at"=true) (k13:PySem.W.keepIn K (.ref f13)=true)
  (a14:PySem.W.nsIn K mainGlobals "hidden_line"=some (some (.ref f14))) (l14:K.lookup f14=some ⟨PJ,NQ,.func (PySem.W.fnOf "hidden_line" "hidden_line" (aK bZ) (aI bZ) (ai bZ) .none PK PL PM NR LQ PN),OR⟩) (c14:PySem.W.codeIn K LQ "hidden_line"=true) (k14:PySem.W.keepIn K (.ref f14)=true)
  (a15:PySem.W.nsIn K mainGlobals "opened_by"=some (some (.ref f15))) (l15:K.lookup f15=some ⟨PQ,NS,.func (PySem.W.fnOf "opened_by" "opened_by" (aK dj) (aI dj) (ai dj) .none PR PU PV NU LR PX),OS⟩) (c15:PySem.W.codeIn K LR "opened_by"=true) (k15:PySem.W.keepIn K (.ref f15)=true)
  (a16:PySem.W.nsIn K mainGlobals "opens"=some (some (.ref f16))) (l16:K.lookup f16=some ⟨PY,NV,.func (PySem.W.fnOf "opens" "opens" (aK iZ) (aI iZ) (ai iZ) .none PZ P0 P1 NW LS P2),OT⟩) (c16:PySem.W.codeIn K LS "opens"=true) (k16:PySem.W.keepIn K (.ref f16)=true)
  (a17:PySem.W.nsIn K mainGlobals "rows_seen"=some (some (.ref f17))) (l17:K.lookup f17=some ⟨P4,NX,.func (PySem.W.fnOf "rows_seen" "rows_seen" (aK cB) (aI cB) (ai cB) .none P5 P6 P7 NY LU P8),OU⟩) (c17:PySem.W.codeIn K LU "rows_seen"=true) (k17:PySem.W.keepIn K (.ref f17)=true)
  (a18:PySem.W.nsIn K mainGlobals "misfit"=some (some (.ref f18))) (l18:K.lookup f18=some ⟨P9,NZ,.func (PySem.W.fnOf "misfit" "misfit" (aK gw) (aI gw) (ai gw) .none P_ Qa Qb N0 LV Qc),OV⟩) (c18:PySem.W.codeIn K LV "misfit"=true) (k18:PySem.W.keepIn K (.ref f18)=true)
  (a19:PySem.W.nsIn K mainGlobals "told"=some (some (.ref f19))) (l19:K.lookup f19=some ⟨Qd,N1,.func (PySem.W.fnOf "told" "told" (aK jU) (aI jU) (ai jU) .none Qe Qf Qg N3 LW Qh),OW⟩) (c19:PySem.W.codeIn K LW "told"=true) (k19:PySem.W.keepIn K (.ref f19)=true)
  (a20:PySem.W.nsIn K mainGlobals "to_the_power"=some (some (.ref f20))) (l20:K.lookup f20=some ⟨Qi,N4,.func (PySem.W.fnOf "to_the_power" "to_the_power" (aK b4) (aI b4) (ai b4) .none Qj Qk Ql N5 LX Qm),OX⟩) (c20:PySem.W.codeIn K LX "to_the_power"=true) (k20:PySem.W.keepIn K (.ref f20)=true)
  (a21:PySem.W.nsIn K mainGlobals "free_numbers"=some (some (.ref f21))) (l21:K.lookup f21=some ⟨Qn,N6,.func (PySem.W.fnOf "free_numbers" "free_numbers" (aK b5) (aI b5) (ai b5) .none Qo Qp Qq N7 LY Qr),OY⟩) (c21:PySem.W.codeIn K LY "free_numbers"=true) (k21:PySem.W.keepIn K (.ref f21)=true)
  (a22:PySem.W.nsIn K mainGlobals "how_often"=some (some (.ref f22))) (l22:K.lookup f22=some ⟨Qs,N8,.func (PySem.W.fnOf "how_often" "how_often" (aK dZ) (aI dZ) (ai dZ) .none Qt Qu Qv N9 LZ Qw),OZ⟩) (c22:PySem.W.codeIn K LZ "how_often"=true) (k22:PySem.W.keepIn K (.ref f22)=true)
  (a23:PySem.W.nsIn K mainGlobals "added"=some (some (.ref f23))) (l23:K.lookup f23=some ⟨Qx,N_,.func (PySem.W.fnOf "added" "added" (aK i4) (aI i4) (ai i4) .none Qy Qz QA Oa L0 QB),O0⟩) (c23:PySem.W.codeIn K L0 "added"=true) (k23:PySem.W.keepIn K (.ref f23)=true)
  (a24:PySem.W.nsIn K mainGlobals "filling_of"=some (some (.ref f24))) (l24:K.lookup f24=some ⟨QC,Ob,.func (PySem.W.fnOf "filling_of" "filling_of" (aK dm) (aI dm) (ai dm) .none QD QE QF Oc L1 QG),O1⟩) (c24:PySem.W.codeIn K L1 "filling_of"=true) (k24:PySem.W.keepIn K (.ref f24)=true)
  (a25:PySem.W.nsIn K mainGlobals "renewed"=some (some (.ref f25))) (l25:K.lookup f25=some ⟨QH,Od,.func (PySem.W.fnOf "renewed" "renewed" (aK gh) (aI gh) (ai gh) .none QI QJ QK Oe L3 QL),O2⟩) (c25:PySem.W.codeIn K L3 "renewed"=true) (k25:PySem.W.keepIn K (.ref f25)=true)
  (a26:PySem.W.nsIn K mainGlobals "seen_twice"=some (some (.ref f26))) (l26:K.lookup f26=some ⟨QM,Of,.func (PySem.W.fnOf "seen_twice" "seen_twice" (aK dn) (aI dn) (ai dn) .none QN QO QP Og L4 QQ),O3⟩) (c26:PySem.W.codeIn K L4 "seen_twice"=true) (k26:PySem.W.keepIn K (.ref f26)=true)
  (a27:PySem.W.nsIn K mainGlobals "_law_cell"=some (some (.ref f27))) (l27:K.lookup f27=some ⟨QR,Oh,.func (PySem.W.fnOf "_law_cell" "_law_cell" (aK dq) (aI dq) (ai dq) .none QS QT QU Oi L5 QV),O4⟩) (c27:PySem.W.codeIn K L5 "_law_cell"=true) (k27:PySem.W.keepIn K (.ref f27)=true)
  (a28:PySem.W.nsIn K mainGlobals "_law_mixed"=some (some (.ref f28))) (l28:K.lookup f28=some ⟨QW,Oj,.func (PySem.W.fnOf "_law_mixed" "_law_mixed" (aK du) (aI du) (ai du) .none QX QY QZ Ol L6 Q0),O5⟩) (c28:PySem.W.codeIn K L6 "_law_mixed"=true) (k28:PySem.W.keepIn K (.ref f28)=true)
  (a29:PySem.W.nsIn K mainGlobals "_law_numbers"=some (some (.ref f29))) (l29:K.lookup f29=some ⟨Q1,Om,.func (PySem.W.fnOf "_law_numbers" "_law_numbers" (aK bM) (aI bM) (ai bM) .none Q2 Q3 Q4 Oo L7 Q5),O6⟩) (c29:PySem.W.codeIn K L7 "_law_numbers"=true) (k29:PySem.W.keepIn K (.ref f29)=true)
  (a30:PySem.W.nsIn K mainGlobals "_law_hands"=some (some (.ref f30))) (l30:K.lookup f30=some ⟨Q6,Oq,.func (PySem.W.fnOf "_law_hands" "_law_hands" (aK ck) (aI ck) (ai ck) .none Q7 Q8 Q9 Ot L8 Q_),O7⟩) (c30:PySem.W.codeIn K L8 "_law_hands"=true) (k30:PySem.W.keepIn K (.ref f30)=true)
  (a31:PySem.W.nsIn K mainGlobals "_law_rows"=some (some (.ref f31))) (l31:K.lookup f31=some ⟨Ra,Ou,.func (PySem.W.fnOf "_law_rows" "_law_rows" (aK dw) (aI dw) (ai dw) .none Rb Rc Rf Ov L9 Rg),O8⟩) (c31:PySem.W.codeIn K L9 "_law_rows"=true) (k31:PySem.W.keepIn K (.ref f31)=true)
  (a32:PySem.W.nsIn K mainGlobals "_law_given"=some (some (.ref f32))) (l32:K.lookup f32=some ⟨Rh,Ow,.func (PySem.W.fnOf "_law_given" "_law_given" (aK bN) (aI bN) (ai bN) .none Ri Rj Rk Ox L_ Rl),O9⟩) (c32:PySem.W.codeIn K L_ "_law_given"=true) (k32:PySem.W.keepIn K (.ref f32)=true)
  (a33:PySem.W.nsIn K mainGlobals "_law_small"=some (some (.ref f33))) (l33:K.lookup f33=some ⟨Rm,Oy,.func (PySem.W.fnOf "_law_small" "_law_small" (aK dy) (aI dy) (ai dy) .none Rn Ro Rq Oz Ma Rr),O_⟩) (c33:PySem.W.codeIn K Ma "_law_small"=true) (k33:PySem.W.keepIn K (.ref f33)=true)
  (a34:PySem.W.nsIn K mainGlobals "_law_fillings"=some (some (.ref f34))) (l34:K.lookup f34=some ⟨Rt,OA,.func (PySem.W.fnOf "_law_fillings" "_law_fillings" (aK bE) (aI bE) (ai bE) .none Ru Rv Rx OB Mb Ry),Pa⟩) (c34:PySem.W.codeIn K Mb "_law_fillings"=true) (k34:PySem.W.keepIn K (.ref f34)=true)
  (a35:PySem.W.nsIn K mainGlobals "_law_seen"=some (some (.ref f35))) (l35:K.lookup f35=some ⟨Rz,OC,.func (PySem.W.fnOf "_law_seen" "_law_seen" (aK dz) (aI dz) (ai dz) .none RA RB RC OD Mc RD),Pb⟩) (c35:PySem.W.codeIn K Mc "_law_seen"=true) (k35:PySem.W.keepIn K (.ref f35)=true)
  (a36:PySem.W.nsIn K mainGlobals "_law_counted"=some (some (.ref f36))) (l36:K.lookup f36=some ⟨RE,OE,.func (PySem.W.fnOf "_law_counted" "_law_counted" (aK bO) (aI bO) (ai bO) .none RF RG RH OF Me RI),Pc⟩) (c36:PySem.W.codeIn K Me "_law_counted"=true) (k36:PySem.W.keepIn K (.ref f36)=true)
  (a37:PySem.W.nsIn K mainGlobals "_law_right"=some (some (.ref f37))) (l37:K.lookup f37=some ⟨RJ,OG,.func (PySem.W.fnOf "_law_right" "_law_right" (aK cm) (aI cm) (ai cm) .none RK RL RM OH Mf RN),Pd⟩) (c37:PySem.W.codeIn K Mf "_law_right"=true) (k37:PySem.W.keepIn K (.ref f37)=true)
  (a38:PySem.W.nsIn K mainGlobals "_law_spoilt"=some (some (.ref f38))) (l38:K.lookup f38=some ⟨RO,OI,.func (PySem.W.fnOf "_law_spoilt" "_law_spoilt" (aK cC) (aI cC) (ai cC) .none RP RQ RT OJ Mg RU),Pe⟩) (c38:PySem.W.codeIn K Mg "_law_spoilt"=true) (k38:PySem.W.keepIn K (.ref f38)=true)
  (a39:PySem.W.nsIn K mainGlobals "_law_pairs"=some (some (.ref f39))) (l39:K.lookup f39=some ⟨RV,OK,.func (PySem.W.fnOf "_law_pairs" "_law_pairs" (aK cn) (aI cn) (ai cn) .none RW RX RY OL Mh RZ),Pf⟩) (c39:PySem.W.codeIn K Mh "_law_pairs"=true) (k39:PySem.W.keepIn K (.ref f39)=true)
  (a40:PySem.W.nsIn K mainGlobals "law"=some (some (.ref f40))) (l40:K.lookup f40=some ⟨R1,OM,.func (PySem.W.fnOf "law" "law" (aK jz) (aI jz) (ai jz) .none Mi Mj Mk LL JI Ml),Pg⟩) (c40:PySem.W.codeIn K JI "law"=true) (k40:PySem.W.keepIn K (.ref f40)=true)
  (z0:PySem.W.nsIn K mainGlobals "all"=some none)
  (z1:PySem.W.nsIn K mainGlobals "enumerate"=some none)
  (z2:PySem.W.nsIn K mainGlobals "int"=some none)
  (z3:PySem.W.nsIn K mainGlobals "len"=some none)
  (z4:PySem.W.nsIn K mainGlobals "list"=some none)
  (z5:PySem.W.nsIn K mainGlobals "max"=some none)
  (z6:PySem.W.nsIn K mainGlobals "min"=some none)
  (z7:PySem.W.nsIn K mainGlobals "range"=some none)
  (z8:PySem.W.nsIn K mainGlobals "sum"=some none)
  (z9:PySem.W.nsIn K mainGlobals "tuple"=some none)
  (z10:PySem.W.nsIn K mainGlobals "zip"=some none)
  : ∃fd:FuncData,(∀(s:Shared) (v:Value),BindsTo s fd ⟨[v],[]⟩ [("_law_script",v)])∧∀base:Heap,K.In base→base.Ns mainGlobals mg→aN l.prog w K mg base CX0 8 fa fd ["_law_script"] (spD K pN 1):=by
 have e:=hfa.symm.trans (PySem.W.mg_of X G a40)
 cases e
 have T:Tx K mg:=⟨PySem.W.mg_none_of X G z0,PySem.W.mg_none_of X G z1,PySem.W.mg_none_of X G z2,PySem.W.mg_none_of X G z3,PySem.W.mg_none_of X G z4,PySem.W.mg_none_of X G z5,PySem.W.mg_none_of X G z6,PySem.W.mg_none_of X G z7,PySem.W.mg_none_of X G z8,PySem.W.mg_none_of X G z9,PySem.W.mg_none_of X G z10⟩
 have F0:=a_ (st:=kQ) l0 c0 k0
 have g0:Gf K mg "over" kQ ["p","one","other"] _ _:=⟨F0,F0.binds (ps:=["p","one","other"]) λ_ _ _ _ _ _ us hl=>by obtain⟨_,_,_,rfl⟩:=us3 hl;rfl,PySem.W.mg_of X G a0⟩
 have F1:=a_ (st:=dO) l1 c1 k1
 have g1:Gf K mg "comes_to" dO ["p","one","other"] _ _:=⟨F1,F1.binds (ps:=["p","one","other"]) λ_ _ _ _ _ _ us hl=>by obtain⟨_,_,_,rfl⟩:=us3 hl;rfl,PySem.W.mg_of X G a1⟩
 have F2:=a_ (st:=ig) l2 c2 k2
 have g2:Gf K mg "times" ig ["p","number","row"] _ _:=⟨F2,F2.binds (ps:=["p","number","row"]) λ_ _ _ _ _ _ us hl=>by obtain⟨_,_,_,rfl⟩:=us3 hl;rfl,PySem.W.mg_of X G a2⟩
 have F3:=a_ (st:=iW) l3 c3 k3
 have g3:Gf K mg "freed" iW ["p","row","lead","place"] _ _:=⟨F3,F3.binds (ps:=["p","row","lead","place"]) λ_ _ _ _ _ _ us hl=>by obtain⟨_,_,_,_,rfl⟩:=us4 hl;rfl,PySem.W.mg_of X G a3⟩
 have F4:=a_ (st:=cA) l4 c4 k4
 have g4:Gf K mg "first_place" cA ["row","many"] _ _:=⟨F4,F4.binds (ps:=["row","many"]) λ_ _ _ _ _ _ us hl=>by obtain⟨_,_,rfl⟩:=us2 hl;rfl,PySem.W.mg_of X G a4⟩
 have F5:=a_ (st:=iX) l5 c5 k5
 have g5:Gf K mg "eased" iX ["p","rows","many"] _ _:=⟨F5,F5.binds (ps:=["p","rows","many"]) λ_ _ _ _ _ _ us hl=>by obtain⟨_,_,_,rfl⟩:=us3 hl;rfl,PySem.W.mg_of X G a5⟩
 have F6:=a_ (st:=bY) l6 c6 k6
 have g6:Gf K mg "numbers_at" bY ["p","lines","place"] _ _:=⟨F6,F6.binds (ps:=["p","lines","place"]) λ_ _ _ _ _ _ us hl=>by obtain⟨_,_,_,rfl⟩:=us3 hl;rfl,PySem.W.mg_of X G a6⟩
 have F7:=a_ (st:=jn) l7 c7 k7
 have g7:Gf K mg "unit" jn ["width","place"] _ _:=⟨F7,F7.binds (ps:=["width","place"]) λ_ _ _ _ _ _ us hl=>by obtain⟨_,_,rfl⟩:=us2 hl;rfl,PySem.W.mg_of X G a7⟩
 have F8:=a_ (st:=kR) l8 c8 k8
 have g8:Gf K mg "held" kR ["p","width","lines","wished"] _ _:=⟨F8,F8.binds (ps:=["p","width","lines","wished"]) λ_ _ _ _ _ _ us hl=>by obtain⟨_,_,_,_,rfl⟩:=us4 hl;rfl,PySem.W.mg_of X G a8⟩
 have F9:=a_ (st:=dg) l9 c9 k9
 have g9:Gf K mg "nought_sum" dg ["p","leads","many","free"] _ _:=⟨F9,F9.binds (ps:=["p","leads","many","free"]) λ_ _ _ _ _ _ us hl=>by obtain⟨_,_,_,_,rfl⟩:=us4 hl;rfl,PySem.W.mg_of X G a9⟩
 have F10:=a_ (st:=bJ) l10 c10 k10
 have g10:Gf K mg "nought_sums" bJ ["p","width","lines"] _ _:=⟨F10,F10.binds (ps:=["p","width","lines"]) λ_ _ _ _ _ _ us hl=>by obtain⟨_,_,_,rfl⟩:=us3 hl;rfl,PySem.W.mg_of X G a10⟩
 have F11:=a_ (st:=iY) l11 c11 k11
 have g11:Gf K mg "parts" iY ["table","filling"] _ _:=⟨F11,F11.binds (ps:=["table","filling"]) λ_ _ _ _ _ _ us hl=>by obtain⟨_,_,rfl⟩:=us2 hl;rfl,PySem.W.mg_of X G a11⟩
 have F12:=a_ (st:=fj) l12 c12 k12
 have g12:Gf K mg "rows_of" fj ["table","hands"] _ _:=⟨F12,F12.binds (ps:=["table","hands"]) λ_ _ _ _ _ _ us hl=>by obtain⟨_,_,rfl⟩:=us2 hl;rfl,PySem.W.mg_of X G a12⟩
 have F13:=a_ (st:=cM) l13 c13 k13
 have g13:Gf K mg "lines_at" cM ["table","numbers"] _ _:=⟨F13,F13.binds (ps:=["table","numbers"]) λ_ _ _ _ _ _ us hl=>by obtain⟨_,_,rfl⟩:=us2 hl;rfl,PySem.W.mg_of X G a13⟩
 have F14:=a_ (st:=bZ) l14 c14 k14
 have g14:Gf K mg "hidden_line" bZ ["wide"] _ _:=⟨F14,F14.binds (ps:=["wide"]) λ_ _ _ _ _ _ us hl=>by obtain⟨_,rfl⟩:=us1 hl;rfl,PySem.W.mg_of X G a14⟩
 have F15:=a_ (st:=dj) l15 c15 k15
 have g15:Gf K mg "opened_by" dj ["table","numbers"] _ _:=⟨F15,F15.binds (ps:=["table","numbers"]) λ_ _ _ _ _ _ us hl=>by obtain⟨_,_,rfl⟩:=us2 hl;rfl,PySem.W.mg_of X G a15⟩
 have F16:=a_ (st:=iZ) l16 c16 k16
 have g16:Gf K mg "opens" iZ ["table","hands"] _ _:=⟨F16,F16.binds (ps:=["table","hands"]) λ_ _ _ _ _ _ us hl=>by obtain⟨_,_,rfl⟩:=us2 hl;rfl,PySem.W.mg_of X G a16⟩
 have F17:=a_ (st:=cB) l17 c17 k17
 have g17:Gf K mg "rows_seen" cB ["seen"] _ _:=⟨F17,F17.binds (ps:=["seen"]) λ_ _ _ _ _ _ us hl=>by obtain⟨_,rfl⟩:=us1 hl;rfl,PySem.W.mg_of X G a17⟩
 have F18:=a_ (st:=gw) l18 c18 k18
 have g18:Gf K mg "misfit" gw ["table","numbers","seen_parts"] _ _:=⟨F18,F18.binds (ps:=["table","numbers","seen_parts"]) λ_ _ _ _ _ _ us hl=>by obtain⟨_,_,_,rfl⟩:=us3 hl;rfl,PySem.W.mg_of X G a18⟩
 have F19:=a_ (st:=jU) l19 c19 k19
 have g19:Gf K mg "told" jU ["table","seen"] _ _:=⟨F19,F19.binds (ps:=["table","seen"]) λ_ _ _ _ _ _ us hl=>by obtain⟨_,_,rfl⟩:=us2 hl;rfl,PySem.W.mg_of X G a19⟩
 have F20:=a_ (st:=b4) l20 c20 k20
 have g20:Gf K mg "to_the_power" b4 ["number","many"] _ _:=⟨F20,F20.binds (ps:=["number","many"]) λ_ _ _ _ _ _ us hl=>by obtain⟨_,_,rfl⟩:=us2 hl;rfl,PySem.W.mg_of X G a20⟩
 have F21:=a_ (st:=b5) l21 c21 k21
 have g21:Gf K mg "free_numbers" b5 ["table","seen"] _ _:=⟨F21,F21.binds (ps:=["table","seen"]) λ_ _ _ _ _ _ us hl=>by obtain⟨_,_,rfl⟩:=us2 hl;rfl,PySem.W.mg_of X G a21⟩
 have F22:=a_ (st:=dZ) l22 c22 k22
 have g22:Gf K mg "how_often" dZ ["table","seen"] _ _:=⟨F22,F22.binds (ps:=["table","seen"]) λ_ _ _ _ _ _ us hl=>by obtain⟨_,_,rfl⟩:=us2 hl;rfl,PySem.W.mg_of X G a22⟩
 have F23:=a_ (st:=i4) l23 c23 k23
 have g23:Gf K mg "added" i4 ["p","one","other"] _ _:=⟨F23,F23.binds (ps:=["p","one","other"]) λ_ _ _ _ _ _ us hl=>by obtain⟨_,_,_,rfl⟩:=us3 hl;rfl,PySem.W.mg_of X G a23⟩
 have F24:=a_ (st:=dm) l24 c24 k24
 have g24:Gf K mg "filling_of" dm ["number","chances"] _ _:=⟨F24,F24.binds (ps:=["number","chances"]) λ_ _ _ _ _ _ us hl=>by obtain⟨_,_,rfl⟩:=us2 hl;rfl,PySem.W.mg_of X G a24⟩
 have F25:=a_ (st:=gh) l25 c25 k25
 have g25:Gf K mg "renewed" gh ["table","some","chances"] _ _:=⟨F25,F25.binds (ps:=["table","some","chances"]) λ_ _ _ _ _ _ us hl=>by obtain⟨_,_,_,rfl⟩:=us3 hl;rfl,PySem.W.mg_of X G a25⟩
 have F26:=a_ (st:=dn) l26 c26 k26
 have g26:Gf K mg "seen_twice" dn ["table","ones","others"] _ _:=⟨F26,F26.binds (ps:=["table","ones","others"]) λ_ _ _ _ _ _ us hl=>by obtain⟨_,_,_,rfl⟩:=us3 hl;rfl,PySem.W.mg_of X G a26⟩
 have F27:=a_ (st:=dq) l27 c27 k27
 have g27:Gf K mg "_law_cell" dq ["_law_script","_law_k"] _ _:=⟨F27,F27.binds (ps:=["_law_script","_law_k"]) λ_ _ _ _ _ _ us hl=>by obtain⟨_,_,rfl⟩:=us2 hl;rfl,PySem.W.mg_of X G a27⟩
 have F28:=a_ (st:=du) l28 c28 k28
 have g28:Gf K mg "_law_mixed" du ["_law_cell_here","_law_k"] _ _:=⟨F28,F28.binds (ps:=["_law_cell_here","_law_k"]) λ_ _ _ _ _ _ us hl=>by obtain⟨_,_,rfl⟩:=us2 hl;rfl,PySem.W.mg_of X G a28⟩
 have F29:=a_ (st:=bM) l29 c29 k29
 have g29:Gf K mg "_law_numbers" bM ["_law_cell_here","_law_p_here","_law_count","_law_by_digits"] _ _:=⟨F29,F29.binds (ps:=["_law_cell_here","_law_p_here","_law_count","_law_by_digits"]) λ_ _ _ _ _ _ us hl=>by obtain⟨_,_,_,_,rfl⟩:=us4 hl;rfl,PySem.W.mg_of X G a29⟩
 have F30:=a_ (st:=ck) l30 c30 k30
 have g30:Gf K mg "_law_hands" ck ["_law_cell_here"] _ _:=⟨F30,F30.binds (ps:=["_law_cell_here"]) λ_ _ _ _ _ _ us hl=>by obtain⟨_,rfl⟩:=us1 hl;rfl,PySem.W.mg_of X G a30⟩
 have F31:=a_ (st:=dw) l31 c31 k31
 have g31:Gf K mg "_law_rows" dw ["_law_table_here","_law_hands_here"] _ _:=⟨F31,F31.binds (ps:=["_law_table_here","_law_hands_here"]) λ_ _ _ _ _ _ us hl=>by obtain⟨_,_,rfl⟩:=us2 hl;rfl,PySem.W.mg_of X G a31⟩
 have F32:=a_ (st:=bN) l32 c32 k32
 have g32:Gf K mg "_law_given" bN ["_law_table_here","_law_filling"] _ _:=⟨F32,F32.binds (ps:=["_law_table_here","_law_filling"]) λ_ _ _ _ _ _ us hl=>by obtain⟨_,_,rfl⟩:=us2 hl;rfl,PySem.W.mg_of X G a32⟩
 have F33:=a_ (st:=dy) l33 c33 k33
 have g33:Gf K mg "_law_small" dy ["_law_script"] _ _:=⟨F33,F33.binds (ps:=["_law_script"]) λ_ _ _ _ _ _ us hl=>by obtain⟨_,rfl⟩:=us1 hl;rfl,PySem.W.mg_of X G a33⟩
 have F34:=a_ (st:=bE) l34 c34 k34
 have g34:Gf K mg "_law_fillings" bE ["_law_p_here","_law_wide"] _ _:=⟨F34,F34.binds (ps:=["_law_p_here","_law_wide"]) λ_ _ _ _ _ _ us hl=>by obtain⟨_,_,rfl⟩:=us2 hl;rfl,PySem.W.mg_of X G a34⟩
 have F35:=a_ (st:=dz) l35 c35 k35
 have g35:Gf K mg "_law_seen" dz ["_law_table_here","_law_hands_here","_law_given_here"] _ _:=⟨F35,F35.binds (ps:=["_law_table_here","_law_hands_here","_law_given_here"]) λ_ _ _ _ _ _ us hl=>by obtain⟨_,_,_,rfl⟩:=us3 hl;rfl,PySem.W.mg_of X G a35⟩
 have F36:=a_ (st:=bO) l36 c36 k36
 have g36:Gf K mg "_law_counted" bO ["_law_table_here","_law_everything","_law_seen_here"] _ _:=⟨F36,F36.binds (ps:=["_law_table_here","_law_everything","_law_seen_here"]) λ_ _ _ _ _ _ us hl=>by obtain⟨_,_,_,rfl⟩:=us3 hl;rfl,PySem.W.mg_of X G a36⟩
 have F37:=a_ (st:=cm) l37 c37 k37
 have g37:Gf K mg "_law_right" cm ["_law_table_here","_law_counts","_law_seen_here"] _ _:=⟨F37,F37.binds (ps:=["_law_table_here","_law_counts","_law_seen_here"]) λ_ _ _ _ _ _ us hl=>by obtain⟨_,_,_,rfl⟩:=us3 hl;rfl,PySem.W.mg_of X G a37⟩
 have F38:=a_ (st:=cC) l38 c38 k38
 have g38:Gf K mg "_law_spoilt" cC ["_law_seen_here","_law_cell_here","_law_p_here"] _ _:=⟨F38,F38.binds (ps:=["_law_seen_here","_law_cell_here","_law_p_here"]) λ_ _ _ _ _ _ us hl=>by obtain⟨_,_,_,rfl⟩:=us3 hl;rfl,PySem.W.mg_of X G a38⟩
 have F39:=a_ (st:=cn) l39 c39 k39
 have g39:Gf K mg "_law_pairs" cn ["_law_table_here","_law_one_counts","_law_other_counts"] _ _:=⟨F39,F39.binds (ps:=["_law_table_here","_law_one_counts","_law_other_counts"]) λ_ _ _ _ _ _ us hl=>by obtain⟨_,_,_,rfl⟩:=us3 hl;rfl,PySem.W.mg_of X G a39⟩
 have F40:=a_ (st:=jz) l40 c40 k40
 have g40:Gf K mg "law" jz ["_law_script"] _ _:=⟨F40,F40.binds (ps:=["_law_script"]) λ_ _ _ _ _ _ us hl=>by obtain⟨_,rfl⟩:=us1 hl;rfl,PySem.W.mg_of X G a40⟩
 refine⟨PySem.W.fnOf "law" "law" (aK jz) (aI jz) (ai jz) .none Mi Mj Mk LL JI Ml,λs v=>.of_eq rfl,λbase _ _=>?_⟩
 have oV0:=Ec (P:=l.prog) (w:=w) (base:=base) T g0
 have oV1:=vH (P:=l.prog) (w:=w) (base:=base) T g1
 have oV2:=BZ (P:=l.prog) (w:=w) (base:=base) T g2
 have oV3:=B0 (P:=l.prog) (w:=w) (base:=base) T g3
 have oV4:=qg (P:=l.prog) (w:=w) (base:=base) T g4
 have oV5:=B1 (P:=l.prog) (w:=w) (base:=base) T g5 g3 oV3 g4 oV4 g0 oV0 g2 oV2
 have oV6:=rN (P:=l.prog) (w:=w) (base:=base) T g6
 have oD7:=Ee (P:=l.prog) (w:=w) (base:=base) T g7
 have oV7:=Ef (P:=l.prog) (w:=w) (base:=base) T g7
 have oK8:=Eg (P:=l.prog) (w:=w) (base:=base) T g8 g6 oV6 g7 oV7 g5 oV5 g0 oV0 g2 oV2
 have oV9:=rP (P:=l.prog) (w:=w) (base:=base) T g9 g7 oD7
 have R3:=qh (P:=l.prog) (w:=w) (base:=base) T g10 g6 oV6 g5 oV5 g9 oV9
 have R4:=B2 (P:=l.prog) (w:=w) (base:=base) T g11 g1 oV1
 have R5:=xg (P:=l.prog) (w:=w) (base:=base) T g12
 have JJ:=vK (P:=l.prog) (w:=w) (base:=base) T g13
 have R6:=qi (P:=l.prog) (w:=w) (base:=base) T g14
 have Mm:=tG (P:=l.prog) (w:=w) (base:=base) T g15 g13 JJ g14 R6 g8 oK8
 have Mn:=B3 (P:=l.prog) (w:=w) (base:=base) T g16 g12 R5 g15 Mm
 have Mo:=tH (P:=l.prog) (w:=w) (base:=base) T g17
 have R7:=ze (P:=l.prog) (w:=w) (base:=base) T g18 g13 JJ g7 oV7 g8 oK8
 have Mp:=Ej (P:=l.prog) (w:=w) (base:=base) T g19 g17 Mo g18 R7 g15 Mm g1 oV1
 have R8:=pO (P:=l.prog) (w:=w) (base:=base) T g20
 have R9:=pP (P:=l.prog) (w:=w) (base:=base) T g21 g17 Mo g13 JJ g10 R3
 have R_:=tI (P:=l.prog) (w:=w) (base:=base) T g22 g19 Mp g21 R9 g20 R8
 have Sa:=B5 (P:=l.prog) (w:=w) (base:=base) T g23
 have Sb:=rT (P:=l.prog) (w:=w) (base:=base) T g24
 have Sd:=xi (P:=l.prog) (w:=w) (base:=base) T g25 g24 Sb g11 R4 g23 Sa
 have Se:=rV (P:=l.prog) (w:=w) (base:=base) T g26 g16 Mn
 have Mq:=tL (P:=l.prog) (w:=w) (base:=base) T g27
 have Sf:=rW (P:=l.prog) (w:=w) (base:=base) T g28
 have Mr:=pQ (P:=l.prog) (w:=w) (base:=base) T g29 g28 Sf
 have Sg:=rX (P:=l.prog) (w:=w) (base:=base) T g30
 have Sh:=tO (P:=l.prog) (w:=w) (base:=base) T g31
 have Ms:=rY (P:=l.prog) (w:=w) (base:=base) T g32
 have Si:=rZ (P:=l.prog) (w:=w) (base:=base) T g33 g27 Mq g29 Mr
 have Sj:=o4 (P:=l.prog) (w:=w) (base:=base) T g34
 have Sk:=tQ (P:=l.prog) (w:=w) (base:=base) T g35 g31 Sh
 have Sl:=pR (P:=l.prog) (w:=w) (base:=base) T g36 g32 Ms
 have Sm:=r8 (P:=l.prog) (w:=w) (base:=base) T g37 g19 Mp g22 R_
 have Sn:=qk (P:=l.prog) (w:=w) (base:=base) T g38
 have So:=r_ (P:=l.prog) (w:=w) (base:=base) T g39
 have Sr:=GV (P:=l.prog) (w:=w) (base:=base) T g40 g33 Si g34 Sj g27 Mq g29 Mr g32 Ms g30 Sg g16 Mn g25 Sd g35 Sk g36 Sl g37 Sm g38 Sn g39 So g26 Se
 exact Sr
end
theorem walk{l:PySem.W.OpenLaw}{q:Program}{loose:List Str}{XP:(Str→Option Value)→Heap→Prop}{YP:World→Heap→Prop}{d:DefRec}{K:Params→PySem.W.Frag}(hn:l.most=some 63)(hdf:d.params.defaults=[])
  (Jr:∀ns:List Int,ns.length≤63→∃μ',pN [.val (.lst (ns.map T.int))] []=.ok (.val (.bl true)) μ')
  (hY:∀(w:World) (h:Heap),YP w h→(K w.params).In h)
  (F:∀(w:World) (mg:Str→Option Value) (fa:Addr) (h:Heap),(K w.params).In h→h.Ns mainGlobals mg→mg d.name=some (.ref fa) →
   ∃fd:FuncData,(∀(s:Shared) (u:Value),BindsTo s fd ⟨[u],[]⟩ [("_law_script",u)])∧∀base:Heap,(K w.params).In base→base.Ns mainGlobals mg→aN l.prog w (K w.params) mg base CX0 8 fa fd ["_law_script"] (spD (K w.params) pN 1)) :
  PySem.W.WalkO q loose XP YP l.row.toRowW d [] (λf vs=>PySem.call f vs) :=
 L2.FA (n:=63) (k:=8) (x:="_law_script") (CX:=λ_=>CX0) (sp:=λw=>spD (K w.params) pN 1) hn (by decide) hdf ⟨rfl,by decide,by decide⟩ hY F (λw H a ns hl hO hS=>Jq Jr hl hS hO) λ_ _ _ _ _ z=>z
end Fw.k95
end
namespace Fw
open PySem Fw Fw.H
theorem Kb(a b:DS)(e:Slots)(μ:ah):ax a b e μ=(a e μ).seq b:=rfl
theorem Kc(i:Nat)(d:D)(e:Slots)(μ:ah):aC i d e μ=(d e μ).toS e λx μ1=>.nx (e.set i (some x)) μ1:=rfl
theorem Ke(d:D)(e:Slots)(μ:ah):aH d e μ=(d e μ).toS e λx μ1=>.rt x μ1:=rfl
theorem Mt(c:D)(a b:DS)(e:Slots)(μ:ah):sIf c a b e μ=(c e μ).toS e λx μ1=>(R.lift (asB x) μ1).toS e λk μ1=>if k=true then a e μ1 else b e μ1:=rfl
theorem Kf(e:Slots)(μ:ah):b_ e μ=.nx e μ:=rfl
theorem Mu(f:T→Option T)(a:D)(e:Slots)(μ:ah):dUn f a e μ=(a e μ).bind λx μ1=>R.lift (ap1 f (rd μ1 x)) μ1:=rfl
theorem Kg(f:T→T→Option T)(a b:D)(e:Slots)(μ:ah):aj f a b e μ=(a e μ).bind λx μ1=>(b e μ1).bind λy μ2=>R.lift (ap2 f (rd μ2 x) (rd μ2 y)) μ2:=rfl
theorem Kh(i:Nat)(e:Slots)(μ:ah):ae i e μ=R.lift (slot e i) μ:=rfl
theorem MY(t:T)(e:Slots)(μ:ah):dC t e μ=.ok (.val t) μ:=rfl
theorem JK(f:FN)(ds:List D)(e:Slots)(μ:ah):au f ds e μ=(ei ds e μ).bind λxs μ1=>f xs μ1:=rfl
theorem GW(d:D)(ds:List D)(e:Slots)(μ:ah):ei (d::ds) e μ=(d e μ).bind λx μ1=>(ei ds e μ1).bind λxs μ2=>.ok (x::xs) μ2:=rfl
theorem HC(e:Slots)(μ:ah):ei [] e μ=.ok [] μ:=rfl
theorem Ki(ds:List D)(e:Slots)(μ:ah):jK ds e μ=(ei ds e μ).bind λxs μ1=>(fq xs μ1).bind λts μ2=>.ok (.val (.tup ts)) μ2:=rfl
theorem Kj(ds:List D)(e:Slots)(μ:ah):ft ds e μ=(ei ds e μ).bind λxs μ1=>(fq xs μ1).bind λts μ2=>.ok (.val (.lst ts)) μ2:=rfl
theorem Kk(a b:D)(e:Slots)(μ:ah):aw a b e μ=(a e μ).bind λx μ1=>(b e μ1).bind λy μ2=>R.lift ((rd μ2 y).bind λu=>lq μ2 x u) μ2:=rfl
theorem Kl(a:D)(e:Slots)(μ:ah):fV a e μ=(a e μ).bind λx μ1=>R.lift ((mM μ1 x).map SV.val) μ1:=rfl
theorem Mv(f:FN)(xs:List SV)(μ:ah):cal f xs μ=(f xs μ).calm:=rfl
theorem HD(x:Option SV)(e:Slots)(i:Nat):slot (x::e) (i+1)=slot e i:=rfl
theorem HE(x:SV)(e:Slots):slot (some x::e) 0=some x:=rfl
theorem JL{α:Type}(a:α)(e:Slots)(μ:ah)(f:α→ah→RS):(R.ok a μ).toS e f=f a μ:=rfl
theorem Mw(μ:ah)(t:T):rd μ (.val t)=some t:=rfl
theorem JM(f:T→Option T)(t:T):ap1 f (some t)=(f t).map SV.val:=rfl
theorem JN(f:T→T→Option T)(t u:T):ap2 f (some t) (some u)=(f t u).map SV.val:=rfl
theorem Mx(b:Bool):asB (.val (.bl b))=some b:=rfl
theorem Km(μ:ah)(t:T):frz (.val t) μ=.ok t μ:=rfl
theorem JO(μ:ah):fq [] μ=.ok [] μ:=rfl
theorem HF(x:SV)(xs:List SV)(μ:ah):fq (x::xs) μ=(frz x μ).bind λt μ1=>(fq xs μ1).bind λts μ2=>.ok (t::ts) μ2:=rfl
theorem HG(e:Slots)(μ:ah)(f:Slots→ah→RS):(RS.nx e μ).seq f=f e μ:=rfl
theorem E5{α:Type}(a:α)(μ:ah):R.lift (some a) μ=.ok a μ:=rfl
theorem HH{α β:Type}(a:α)(μ:ah)(f:α→ah→R β):(R.ok a μ).bind f=f a μ:=rfl
theorem HI{α:Type}(a:α)(μ:ah):(R.ok a μ).calm=.ok a μ:=rfl
theorem Kn(a b:D)(e:Slots)(μ:ah):C7 a b e μ=(a e μ).bind λx μ1=>(R.lift (asB x) μ1).bind λk μ1=>if k=true then b e μ1 else .ok (.val (.bl false)) μ1:=rfl
theorem My(a b:D)(e:Slots)(μ:ah):dOr a b e μ=(a e μ).bind λx μ1=>(R.lift (asB x) μ1).bind λk μ1=>if k=true then .ok (.val (.bl true)) μ1 else b e μ1:=rfl
theorem Ko(a:D)(e:Slots)(μ:ah):wu a e μ=(a e μ).bind λx μ1=>(R.lift (asB x) μ1).bind λk μ1=>.ok (.val (.bl (!k))) μ1:=rfl
theorem Kp(d:D)(e:Slots)(μ:ah):fh d e μ=(d e μ).bind λx μ1=>(R.lift ((rd μ1 x).bind bg) μ1).bind λts μ1=>.ok ⟨ts,λμ'=>rd μ' x=rd μ1 x⟩ μ1:=rfl
theorem Kq(it:DI)(b:BD)(body:DS)(e:Slots)(μ:ah):eQ it b body e μ=(it e μ).toS e λW μ1=>forL W.same b body W.items e μ1:=rfl
theorem Kr(e:Slots):ini [] e=[]:=rfl
theorem JP(mp:List (Option Nat))(e:Slots):ini (none::mp) e=none::ini mp e:=rfl
theorem JQ(j:Nat)(mp:List (Option Nat))(e:Slots):ini (some j::mp) e=slot e j::ini mp e:=rfl
theorem JR(i:Nat)(t:T)(e:Slots):aD i t e=some (e.set i (some (.val t))):=rfl
end Fw
local macro_rules
 | `(tactic| simp_all! only [$ls,*]) => do
  let mut xs:Array (Lean.TSyntax `Lean.Parser.Tactic.simpLemma):=#[]
  for n in "Kb Kc Ke Mt Kf Mu Kg Kh MY JK GW HC Ki Kj Kk Kl Mv HD HE JL Mw JM JN Mx Km JO HF HG E5 HH HI Kn My Ko Kp Kq Kr JP JQ JR".splitOn " " do xs := xs.push (← `(Lean.Parser.Tactic.simpLemma| $(Lean.mkIdent (`Fw ++ n.toName)):term))
  `(tactic| try dsimp only [$(xs),*, Nat.reduceAdd, Nat.reduceSub, List.set_cons_succ, List.set_cons_zero, $ls,*])
namespace Fw.E
open PySem Fw Fw.H
structure Rw(p:Int)(L:Nat)(r:List Int):Prop where
 len:r.length=L
 lo:∀x∈r,0≤x
 hi:∀x∈r,x<p
def g(r:List Int)(k:Nat):Int:=r.getD k 0
theorem iK(x:Int)(r:List Int):g (x::r) 0=x:=by simp[g]
theorem fg(x:Int)(r:List Int)(k:Nat):g (x::r) (k+1)=g r k:=by simp[g]
theorem tW(r:List Int)(k:Nat)(h:k<r.length):g r k=r[k]:=by simp[g,h]
theorem Rw.g0{p:Int}{L:Nat}{r:List Int}(h:Rw p L r)(hp:0<p)(k:Nat):0≤g r k∧g r k<p:=by
 by_cases hk:k<r.length
 ·rw[tW r k hk];exact⟨h.lo _ (List.getElem_mem hk),h.hi _ (List.getElem_mem hk)⟩
 ·have:g r k=0:=by simp[g,Nat.le_of_not_lt hk]
  lia
def dot:List Int→List Int→Int
 | x::xs,y::ys=>x*y+dot xs ys
 | _,_=>0
@[simp] theorem MZ(ys:List Int):dot [] ys=0:=by cases ys<;>rfl
@[simp] theorem En(ys:List Int):dot ys []=0:=by cases ys<;>rfl
@[simp] theorem bS(x y:Int)(xs ys:List Int):dot (x::xs) (y::ys)=x*y+dot xs ys:=rfl
theorem iG(xs ys:List Int):dot xs ys=dot ys xs:=by
 induction xs generalizing ys with
 | nil=>cases ys<;>rfl
 | cons x xs ih=>cases ys with
  | nil=>rfl
  | cons y ys=>simp[ih,Int.mul_comm]
theorem sd(c1 c2 r1 r2:List Int)(h:c1.length=r1.length):dot (c1++c2) (r1++r2)=dot c1 r1+dot c2 r2:=by
 induction c1 generalizing r1 with
 | nil=>cases r1 with
  | nil=>simp
  | cons x r1=>simp at h
 | cons x c1 ih=>cases r1 with
  | nil=>simp at h
  | cons y r1=>simp[ih r1 (by simpa using h)];lia
theorem md(x p:Int):∃t,x%p=x-p*t:=⟨x / p,Int.emod_def x p⟩
def sub(p n:Int)(row lead:List Int):List Int:=(row.zip lead).map λq=>(q.1-n*q.2)%p
theorem mK(p n:Int):∀(row lead c:List Int),row.length=lead.length→∃t,dot c (sub p n row lead)=dot c row-n*dot c lead+p*t
 | [],lead,c,h=>by cases lead with
  | nil=>exact⟨0,by simp[sub]⟩
  | cons x l=>simp at h
 | e::row,[],c,h=>by simp at h
 | e::row,o::lead,[],h=>⟨0,by simp[sub]⟩
 | e::row,o::lead,c0::c,h=>by
  obtain⟨s,hs⟩:=mK p n row lead c (by simpa using h)
  obtain⟨t,ht⟩:=md (e-n*o) p
  refine⟨s-c0*t,?_⟩
  have e1:sub p n (e::row) (o::lead)=(e-n*o)%p::sub p n row lead:=rfl
  rw[e1,bS,bS,bS,hs,ht]
  grind
theorem Ao(p n:Int):∀(row lead:List Int) (k:Nat),row.length=lead.length→g (sub p n row lead) k=(g row k-n*g lead k)%p
 | [],lead,k,h=>by cases lead with
  | nil=>simp[sub,g]
  | cons x l=>simp at h
 | e::row,[],k,h=>by simp at h
 | e::row,o::lead,0,h=>by simp[sub,g]
 | e::row,o::lead,k+1,h=>by
  have e1:sub p n (e::row) (o::lead)=(e-n*o)%p::sub p n row lead:=rfl
  rw[e1,fg,fg,fg]
  exact Ao p n row lead k (by simpa using h)
theorem pT{p:Int}{L:Nat}{row lead:List Int}(hp:0<p)(n:Int)(h1:row.length=L)(h2:lead.length=L):Rw p L (sub p n row lead):=by
 refine⟨by simp[sub,h1,h2],λx hx=>?_,λx hx=>?_⟩
 ·obtain⟨q,_,rfl⟩:=List.mem_map.mp hx
  exact Int.emod_nonneg _ (by lia)
 ·obtain⟨q,_,rfl⟩:=List.mem_map.mp hx
  exact Int.emod_lt_of_pos _ hp
def fr(p:Int)(row lead:List Int)(q:Nat):List Int:=if g row q=0 then row else sub p (g row q) row lead
theorem Eo{p:Int}{L:Nat}{row lead:List Int}(hp:0<p)(q:Nat)(h1:Rw p L row)(h2:Rw p L lead):Rw p L (fr p row lead q):=by
 unfold fr
 split
 ·exact h1
 ·exact pT hp _ h1.len h2.len
theorem Mz{p:Int}{L:Nat}{row lead:List Int}(hp:0<p)(q k:Nat)(h1:Rw p L row)(h2:Rw p L lead):g (fr p row lead q) k=(g row k-g row q*g lead k)%p:=by
 unfold fr
 split
 ·rename_i h
  have:=h1.g0 hp k
  rw[h]
  simp
  rw[Int.emod_eq_of_lt this.1 this.2]
 ·exact Ao p _ row lead k (by rw[h1.len,h2.len])
def Z(p:Int)(c r:List Int):Prop:=p ∣ dot c r
theorem MA{p:Int}{L:Nat}{row lead c:List Int}(q:Nat)(h1:Rw p L row)(h2:Rw p L lead)(hz:Z p c lead):Z p c (fr p row lead q)↔Z p c row:=by
 unfold fr
 split
 ·exact Iff.rfl
 ·obtain⟨t,ht⟩:=mK p (g row q) row lead c (by rw[h1.len,h2.len])
  obtain⟨s,hs⟩:=hz
  unfold Z
  rw[ht,hs]
  constructor
  ·rintro⟨u,hu⟩;exact⟨u+g row q*s-t,by grind⟩
  ·rintro⟨u,hu⟩;exact⟨u-g row q*s+t,by grind⟩
def tm(p n:Int)(row:List Int):List Int:=row.map λe=>n*e%p
theorem se(p n:Int):∀(row c:List Int),∃t,dot c (tm p n row)=n*dot c row+p*t
 | [],c=>⟨0,by simp[tm]⟩
 | e::row,[]=>⟨0,by simp[tm]⟩
 | e::row,c0::c=>by
  obtain⟨s,hs⟩:=se p n row c
  obtain⟨t,ht⟩:=md (n*e) p
  refine⟨s-c0*t,?_⟩
  have e1:tm p n (e::row)=n*e%p::tm p n row:=rfl
  rw[e1,bS,bS,hs,ht]
  grind
theorem MB(p n:Int)(row:List Int)(k:Nat):g (tm p n row) k=n*g row k%p:=by
 induction row generalizing k with
 | nil=>simp[tm,g]
 | cons e row ih =>
  have e1:tm p n (e::row)=n*e%p::tm p n row:=rfl
  cases k with
  | zero=>rw[e1,iK,iK]
  | succ k=>rw[e1,fg,fg];exact ih k
theorem Ap{p:Int}{L:Nat}{row:List Int}(hp:0<p)(n:Int)(h:row.length=L):Rw p L (tm p n row):=by
 refine⟨by simp[tm,h],λx hx=>?_,λx hx=>?_⟩
 ·obtain⟨q,_,rfl⟩:=List.mem_map.mp hx
  exact Int.emod_nonneg _ (by lia)
 ·obtain⟨q,_,rfl⟩:=List.mem_map.mp hx
  exact Int.emod_lt_of_pos _ hp
def Inv(p n a:Int):Prop:=n*a%p=1%p
theorem Ss{p n a:Int}(row c:List Int)(hi:Inv p n a):Z p c (tm p n row)↔Z p c row:=by
 obtain⟨t,ht⟩:=se p n row c
 unfold Z
 rw[ht]
 constructor
 ·rintro⟨u,hu⟩
  obtain⟨m1,e1⟩:=md (n*a) p
  obtain⟨m2,e2⟩:=md 1 p
  have e3:n*a-p*m1=1-p*m2:=by rw[← e1,← e2];exact hi
  exact⟨a*(u-t)+(m2-m1)*dot c row,by grind⟩
 ·rintro⟨u,hu⟩;exact⟨n*u+t,by grind⟩
theorem MC{p:Int}(h:iS p)(r:Int)(h1:1<r)(h2:r<p):p%r≠0:=by
 have hb:=h.pos
 have key:∀p∈([2,3,5,7,11,13,17,19,23,29,31,37,41,43,47,53,59,61,67,71,73,79,83,89,97]:List Int),∀r:Nat,r<97→1<r→(r:Int)<p→p%(r:Int)≠0:=by decide +kernel
 have:=key p h r.toNat (by lia) (by lia) (by lia)
 rwa [show (r.toNat:Int)=r by lia] at this
noncomputable abbrev Ld := Nat × List Int
def frees(p:Int)(ls:List Ld)(row:List Int):List Int:=ls.foldl (λr q=>fr p r q.2 q.1) row
structure jZ(p:Int)(L m:Nat)(ls:List Ld)(ns:List (List Int))(rows:List (List Int)):Prop where
 nd:(ls.map (·.1)).Nodup
 key:∀q∈ls,q.1<m
 rl:∀q∈ls,Rw p L q.2
 rn:∀r∈ns,Rw p L r
 one:∀q∈ls,g q.2 q.1=1
 off:∀q∈ls,∀q'∈ls,q'.1≠q.1→g q.2 q'.1=0
 no:∀r∈ns,∀j,j<m→g r j=0
 eq:∀c,(∀r∈rows,Z p c r)↔((∀q∈ls,Z p c q.2)∧∀r∈ns,Z p c r)
theorem jZ.start(p:Int)(L m:Nat):jZ p L m [] [] []:=⟨by simp,by simp,by simp,by simp,by simp,by simp,by simp,by simp⟩
theorem xj{p:Int}{L:Nat}{ls:List Ld}(hp:1<p)(rl:∀q∈ls,Rw p L q.2)(one:∀q∈ls,g q.2 q.1=1)(off:∀q∈ls,∀q'∈ls,q'.1≠q.1→g q.2 q'.1=0) :
  ∀(l D:List Ld) (row:List Int),(∀q∈l,q∈ls)→(∀q∈D,q∈ls)→Rw p L row→(∀q∈D,g row q.1=0) →
   Rw p L (frees p l row)∧(∀q∈D++l,g (frees p l row) q.1=0)∧∀c,(∀q∈l,Z p c q.2)→(Z p c (frees p l row)↔Z p c row)
 | [],D,row,_,_,hr,hd=>⟨hr,λq hq=>hd q (by simpa using hq),λc _=>Iff.rfl⟩
 | a::l,D,row,hl,hD,hr,hd=>by
  have ha:a∈ls:=hl a (by simp)
  have r1:=Eo (by lia) a.1 hr (rl a ha)
  have hg:∀k,g (fr p row a.2 a.1) k=(g row k-g row a.1*g a.2 k)%p:=λk=>Mz (by lia) a.1 k hr (rl a ha)
  have h1:g (fr p row a.2 a.1) a.1=0:=by rw[hg,one a ha];simp
  obtain⟨i1,i2,i3⟩:=xj hp rl one off l (D++[a]) (fr p row a.2 a.1) (λq hq=>hl q (by simp[hq])) (λq hq=>by
   rcases List.mem_append.mp hq with h|h
   ·exact hD q h
   ·simp at h;subst h;exact ha) r1 (λq hq=>by
   rcases List.mem_append.mp hq with h|h
   ·by_cases e:q.1=a.1
    ·rw[e];exact h1
    ·rw[hg,hd q h,off a ha q (hD q h) e];simp
   ·simp at h;subst h;exact h1)
  refine⟨i1,λq hq=>i2 q (by simpa using hq),λc hc=>?_⟩
  exact (i3 c λq hq=>hc q (by simp[hq])).trans (MA a.1 hr (rl a ha) (hc a (by simp)))
theorem jZ.rest{p:Int}{L m:Nat}{ls:List Ld}{ns rows:List (List Int)}{row:List Int}(hp:1<p)(E:jZ p L m ls ns rows)(hr:Rw p L row) :
  Rw p L (frees p ls row)∧(∀q∈ls,g (frees p ls row) q.1=0)∧∀c,(∀q∈ls,Z p c q.2)→(Z p c (frees p ls row)↔Z p c row):=by
 obtain⟨h1,h2,h3⟩:=xj hp E.rl E.one E.off ls [] row (λq h=>h) (by simp) hr (by simp)
 exact⟨h1,by simpa using h2,h3⟩
theorem jZ.JS{p:Int}{L m:Nat}{ls:List Ld}{ns rows:List (List Int)}{row:List Int}(hp:1<p)(E:jZ p L m ls ns rows)(hr:Rw p L row)(h0:∀j,j<m→g (frees p ls row) j=0) :
  jZ p L m ls (ns++[frees p ls row]) (rows++[row]):=by
 obtain⟨h1,h2,h3⟩:=E.rest hp hr
 refine⟨E.nd,E.key,E.rl,λr h=>?_,E.one,E.off,λr h j hj=>?_,λc=>?_⟩
 ·rcases List.mem_append.mp h with h|h
  ·exact E.rn r h
  ·simp at h;subst h;exact h1
 ·rcases List.mem_append.mp h with h|h
  ·exact E.no r h j hj
  ·simp at h;subst h;exact h0 j hj
 ·constructor
  ·intro h
   have a:=(E.eq c).mp λr hr=>h r (by simp[hr])
   refine⟨a.1,λr hr=>?_⟩
   rcases List.mem_append.mp hr with hr|hr
   ·exact a.2 r hr
   ·simp at hr;subst hr;exact (h3 c a.1).mpr (h row (by simp))
  ·rintro⟨a,b⟩ r hr
   rcases List.mem_append.mp hr with hr|hr
   ·exact (E.eq c).mpr ⟨a,λr h=>b r (by simp[h])⟩ r hr
   ·simp at hr;subst hr;exact (h3 c a).mp (b _ (by simp))
def led(p:Int)(ls:List Ld)(fresh:List Int)(f:Nat):List Ld:=ls.map λq=>(q.1,fr p q.2 fresh f)
theorem jZ.lead{p:Int}{L m:Nat}{ls:List Ld}{ns rows:List (List Int)}{row:List Int}{n:Int}{f:Nat}(hp:1<p)(E:jZ p L m ls ns rows)(hr:Rw p L row)(hf:f<m)(h0:g (frees p ls row) f≠0)(hi:Inv p n (g (frees p ls row) f)) :
  jZ p L m (led p ls (tm p n (frees p ls row)) f++[(f,tm p n (frees p ls row))]) ns (rows++[row]):=by
 obtain⟨h1,h2,h3⟩:=E.rest hp hr
 have k1:Rw p L (tm p n (frees p ls row)):=Ap (by lia) n h1.len
 have kz:∀c,Z p c (tm p n (frees p ls row))↔Z p c (frees p ls row):=λc=>Ss _ c hi
 have kf:g (tm p n (frees p ls row)) f=1:=by
  rw[MB]
  have:n*g (frees p ls row) f%p=1%p:=hi
  rw[this]
  exact Int.emod_eq_of_lt (by lia) hp
 have k0:∀q∈ls,g (tm p n (frees p ls row)) q.1=0:=λq hq=>by rw[MB,h2 q hq];simp
 generalize tm p n (frees p ls row)=u at k1 kz kf k0
 have fne:∀q∈ls,q.1≠f:=λq hq e=>h0 (by rw[← e];exact h2 q hq)
 have hg:∀q∈ls,∀k,g (fr p q.2 u f) k=(g q.2 k-g q.2 f*g u k)%p:=λq hq k=>Mz (by lia) f k (E.rl q hq) k1
 have mem:∀q,q∈led p ls u f++[(f,u)]→(∃q0∈ls,q=(q0.1,fr p q0.2 u f))∨q=(f,u):=λq hq=>by
  rcases List.mem_append.mp hq with h|h
  ·obtain⟨q0,h1,h2⟩:=List.mem_map.mp h
   exact .inl ⟨q0,h1,h2.symm⟩
  ·simp at h;exact .inr h
 have up:∀q0∈ls,(q0.1,fr p q0.2 u f)∈led p ls u f++[(f,u)]:=λq0 h=>List.mem_append_left _ (List.mem_map.mpr ⟨q0,h,rfl⟩)
 refine⟨?_,λq hq=>?_,λq hq=>?_,E.rn,λq hq=>?_,λq hq q' hq' hne=>?_,E.no,λc=>?_⟩
 ·have e1:(led p ls u f++[(f,u)]).map (·.1)=ls.map (·.1)++[f]:=by simp[led]
  rw[e1,List.nodup_append]
  refine⟨E.nd,by simp,λa ha b hb=>?_⟩
  simp at hb
  obtain⟨q,hq,rfl⟩:=List.mem_map.mp ha
  rw[hb]
  exact fne q hq
 ·rcases mem q hq with ⟨q0,h,rfl⟩|rfl
  ·exact E.key q0 h
  ·exact hf
 ·rcases mem q hq with ⟨q0,h,rfl⟩|rfl
  ·exact Eo (by lia) f (E.rl q0 h) k1
  ·exact k1
 ·rcases mem q hq with ⟨q0,h,rfl⟩|rfl
  ·show g (fr p q0.2 u f) q0.1=1
   rw[hg q0 h,E.one q0 h,k0 q0 h]
   simp
   exact Int.emod_eq_of_lt (by lia) hp
  ·exact kf
 ·rcases mem q hq with ⟨q0,h,rfl⟩|rfl
  ·show g (fr p q0.2 u f) q'.1=0
   rcases mem q' hq' with ⟨q1,h',rfl⟩|rfl
   ·have hne:q1.1≠q0.1:=hne
    show g (fr p q0.2 u f) q1.1=0
    rw[hg q0 h,E.off q0 h q1 h' hne,k0 q1 h']
    simp
   ·show g (fr p q0.2 u f) f=0
    rw[hg q0 h,kf]
    simp
  ·rcases mem q' hq' with ⟨q1,h',rfl⟩|rfl
   ·exact k0 q1 h'
   ·exact absurd rfl hne
 ·have key:∀q0∈ls,Z p c u→(Z p c (fr p q0.2 u f)↔Z p c q0.2):=λq0 h hz=>MA f (E.rl q0 h) k1 hz
  constructor
  ·intro h
   have a:=(E.eq c).mp λr hr=>h r (by simp[hr])
   have hz:Z p c u:=(kz c).mpr ((h3 c a.1).mpr (h row (by simp)))
   refine⟨λq hq=>?_,a.2⟩
   rcases mem q hq with ⟨q0,h',rfl⟩|rfl
   ·exact (key q0 h' hz).mpr (a.1 q0 h')
   ·exact hz
  ·rintro⟨a,b⟩ r hr
   have hz:Z p c u:=a (f,u) (by simp)
   have al:∀q∈ls,Z p c q.2:=λq hq=>(key q hq hz).mp (a _ (up q hq))
   rcases List.mem_append.mp hr with hr|hr
   ·exact (E.eq c).mpr ⟨al,b⟩ r hr
   ·simp at hr;subst hr
    exact (h3 c al).mp ((kz c).mp hz)
def nr:DS :=
 (ax (aC 3 (aj aW (ae 2) (ae 0)))
 (ax (sIf (aj fEq (ae 3) (dC (.int 0))) Jd b_)
 (ax (aC 4 (aj aW (ae 1) (ae 0)))
 (ax (m7 (aj fNe (ae 3) (dC (.int 1))) (ax (aC 4 (aj aW (aj aQ (dUn yc (ae 4)) (aj iJ (ae 0) (ae 3))) (ae 0)))
 (aC 3 (aj aW (ae 0) (ae 3)))))
 (aH (ae 4))))))
def kL:DS :=
 (aH (aT (fh (ae 2)) [none,some 0,some 1] (aD 0) (dC (.bl true)) (aj aW (aj aQ (ae 2) (ae 0)) (ae 1))))
def ib:DS :=
 (ax (aC 4 (aw (ae 1) (ae 3)))
 (ax (sIf (aj fEq (ae 4) (dC (.int 0))) (aH (ae 1)) b_)
 (aH (aT (pE (ae 1) (ae 2)) [none,none,some 0,some 4] (cR [0,1]) (dC (.bl true)) (aj aW (aj qK (ae 0) (aj aQ (ae 3) (ae 1))) (ae 2))))))
def dM:DS :=
 (ax (eQ (aV (ae 1)) (aD 2) (sIf (aj fNe (aw (ae 0) (ae 2)) (dC (.int 0))) (aH (ae 2)) b_))
 (aH (dC (.non))))
def mH:DS :=
 (ax (aC 3 (cS (dC (.dct []))))
 (ax (aC 4 (cS (ft [])))
 (ax (eQ (fh (ae 1)) (aD 5) (ax (aC 6 (ae 5))
 (ax (eQ (kF (ae 3)) (cR [7,8]) (aC 6 (au (cal (fnV 5 ib)) [(ae 0),(ae 6),(ae 8),(ae 7)])))
 (ax (aC 9 (au (cal (fnV 3 dM)) [(ae 6),(ae 2)]))
 (sIf (dUn j3 (ae 9)) (ee (ae 4) (ae 6)) (ax (aC 10 (au (cal (fnV 3 kL)) [(ae 0),(au (cal (fnV 5 nr)) [(ae 0),(dC (.int 1)),(aw (ae 6) (ae 9))]),(ae 6)]))
 (ax (eQ (fh (dUn zS (ae 3))) (aD 7) (p7 3 (ae 7) (au (cal (fnV 5 ib)) [(ae 0),(aj rg (ae 3) (ae 7)),(ae 10),(ae 9)])))
 (p7 3 (ae 9) (ae 10)))))))))
 (aH (jK [(ae 3),(ae 4)])))))
noncomputable abbrev li (r : List Int) : T := .lst (r.map T.int)
theorem Aq{p:Int}(hP:iS p)(one other:Int)(μ:ah)(h0:other%p≠0) :
  ∃y,fnV 5 nr [.val (.int p),.val (.int one),.val (.int other)] μ=.ok (.val (.int y)) μ∧0≤y∧y<p∧(y*other-one)%p=0:=by
 have hb:=hP.pos
 have hp0:0<p:=Int.lt_of_lt_of_le (by decide) hb.1
 unfold nr
 have hp:0<p:=by lia
 have z:(other%p==0)=false:=by simpa using h0
 (try simp_all! only[]);simp[hp,z]
 have r0:=Int.emod_nonneg other (Int.ne_of_gt hp0)
 have r1:=Int.emod_lt_of_pos other hp
 refine yt (P:=λr=>∃y,RS.qS μ.length (r.seq (aH (ae 4)))=R.ok (SV.val (T.int y)) μ∧0≤y∧y<p∧(y*other-one)%p=0) ?_
  (λn e μ'=>μ'=μ∧∃rest told:Int,e=[some (.val (.int p)),some (.val (.int one)),some (.val (.int other)),some (.val (.int rest)),some (.val (.int told))]∧rest.toNat=n∧1≤rest∧rest<p∧0≤told∧told<p∧∃t,told*other=one*rest+p*t) ?_ (other%p).toNat _ _ ?_
 ·rintro⟨y,h,_⟩;cases h
 ·rintro m e μ' ⟨rfl,rest,told,rfl,hm,q1,q2,q3,q4,t,ht⟩
  by_cases e1:rest=1
  ·subst e1
   refine⟨false,μ',by simp,?_⟩
   rw[if_neg (by simp)]
   refine⟨told,by simp,q3,q4,?_⟩
   rw[ht]
   simp
   exact Int.emod_eq_zero_of_dvd ⟨t,by lia⟩
  ·refine⟨true,μ',by simp[e1],?_⟩
   rw[if_pos rfl]
   have d1:0≤p / rest:=Int.ediv_nonneg (by lia) (by lia)
   have d2:p / rest≤p:=Int.ediv_le_self _ (by lia)
   have hm2:aQ (.int (-told)) (.int (p / rest))=some (.int (-told*(p / rest))):=iQ _ _ (by lia) (by lia)
   have hr:0<rest:=by lia
   have hr2:rest<1073741824:=by lia
   (try simp_all! only[]);simp[hp,hr,hr2,hm2]
   have m0:=Int.emod_nonneg p (show rest≠0 by lia)
   have m1:=Int.emod_lt_of_pos p hr
   have m2:=MC hP rest (by lia) q2
   have t0:=Int.emod_nonneg (-told*(p / rest)) (Int.ne_of_gt hp0)
   have t1:=Int.emod_lt_of_pos (-told*(p / rest)) hp
   refine⟨(p%rest).toNat,by lia,p%rest,-told*(p / rest)%p,⟨rfl,rfl⟩,rfl,by lia,by lia,t0,t1,?_⟩
   obtain⟨u,hu⟩:=md (-told*(p / rest)) p
   have e3:p%rest=p-rest*(p / rest):=Int.emod_def p rest
   rw[hu,e3]
   refine⟨-(u*other)-(p / rest)*t-one,?_⟩
   generalize p / rest=d
   grind
 ·have b0:=Int.emod_nonneg one (Int.ne_of_gt hp0)
  have b1:=Int.emod_lt_of_pos one hp
  refine⟨rfl,_,_,rfl,rfl,by lia,r1,b0,b1,?_⟩
  obtain⟨u,hu⟩:=md one p
  obtain⟨v,hv⟩:=md other p
  exact⟨one*v-u*other,by rw[hu,hv];grind⟩
theorem xk{p:Int}{L:Nat}(hp:0<p)(hp2:p<1000000)(n:Int)(r:List Int)(μ:ah)(h:Rw p L r)(hl:L≤1000) :
  fnV 3 kL [.val (.int p),.val (.int n),.val (li r)] μ=.ok (.val (li (tm p n r))) μ:=by
 unfold kL
 simp
 rw[bz _ (λe:Int=>.int (n*e%p)) (by simp)]
 ·rw[R.cY,R.aP,if_pos (by have:=h.len;simp[szL];lia)]
  (try simp_all! only[]);simp[tm,Function.comp_def]
 ·intro e he
  have h1:=h.lo e he
  have h2:=h.hi e he
  refine⟨_,rfl,?_⟩
  have:aQ (.int n) (.int e)=some (.int (n*e)):=h_ _ _ (by lia) (by lia)
  (try simp_all! only[]);simp[this,hp]
theorem atg{r:List Int}{k:Int}(h0:0≤k)(h1:k<r.length):atI (r.map T.int) k=some (.int (g r k.toNat)):=by
 rw[kC h0 h1,tW r k.toNat (by lia)]
theorem xl{p:Int}{L:Nat}(hp:0<p)(hp2:p<1000000)(q:Nat)(row lead:List Int)(μ:ah)(h1:Rw p L row)(h2:Rw p L lead)(hl:L≤1000)(hq:q<L) :
  fnV 5 ib [.val (.int p),.val (li row),.val (li lead),.val (.int q)] μ=.ok (.val (li (fr p row lead q))) μ:=by
 unfold ib
 have ha:atI (row.map T.int) (q:Int)=some (.int (g row q)):=atg (by lia) (by have:=h1.len;lia)
 simp[ha]
 by_cases e:g row q=0
 ·simp[e,fr]
 ·have e':(g row q==0)=false:=by simpa using e
  simp[e,e']
  rw[j6,bz _ (λz:Int×Int=>.int ((z.1-g row q*z.2)%p)) (by simp)]
  ·rw[R.cY,R.aP,if_pos (by have:=h1.len;simp[szL];lia)]
   (try simp_all! only[]);simp[fr,e,sub,Function.comp_def]
  ·rintro⟨x,y⟩ hz
   have b:=h1.g0 hp q
   refine⟨_,rfl,?_⟩
   have:aQ (.int (g row q)) (.int y)=some (.int (g row q*y)):=iQ _ _ (by lia) (by lia)
   simp[this,hp]
theorem Ep{p:Int}{L m:Nat}(r:List Int)(μ:ah)(h:Rw p L r)(hm:m≤L)(hl:L≤1000) :
  (fnV 3 dM [.val (li r),.val (.int m)] μ=.ok (.val .non) μ∧∀j,j<m→g r j=0) ∨
  ∃f:Nat,fnV 3 dM [.val (li r),.val (.int m)] μ=.ok (.val (.int f)) μ∧f<m∧g r f≠0:=by
 unfold dM
 simp (disch:=lia)
 refine oy (P:=λx=>(RS.qS μ.length (x.seq (aH (dC .non)))=R.ok (SV.val .non) μ∧∀j,j<m→g r j=0)∨∃f:Nat,RS.qS μ.length (x.seq (aH (dC .non)))=R.ok (SV.val (.int f)) μ∧f<m∧g r f≠0)
  (λi e μ'=>μ'=μ∧(∀j,j<i→g r j=0)∧∃x,e=[some (.val (li r)),some (.val (.int m)),x]) (λ_ _ _ _=>trivial) ?_ ?_ ⟨rfl,by simp,none,rfl⟩
 ·rintro i t e μ' ht ⟨rfl,hz,x,rfl⟩
  obtain⟨hi,rfl⟩:=q_ ht
  refine⟨_,rfl,?_⟩
  have hi':i<m:=by lia
  have ha:atI (r.map T.int) ((0:Int)+i)=some (.int (g r i)):=by
   have:=atg (r:=r) (k:=(0:Int)+i) (by lia) (by have:=h.len;lia)
   rwa [show ((0:Int)+i).toNat=i by lia] at this
  simp at ha
  (try simp_all! only[]);simp[ha]
  by_cases e:g r i=0
  ·(try simp_all! only[]);simp[e]
   intro j hj
   by_cases ej:j=i
   ·rw[ej];exact e
   ·exact hz j (by lia)
  ·have e':(g r i==0)=false:=by simpa using e
   (try simp_all! only[]);simp[e,e']
   exact⟨i,rfl,hi',e⟩
 ·rintro e μ' ⟨rfl,hz,x,rfl⟩
  left
  refine⟨by simp,?_⟩
  rw[cc] at hz
  intro j hj
  exact hz j (by lia)
def dk(ls:List Ld):List (Key×T):=ls.map λq=>((.inl (q.1:Int):Key),li q.2)
theorem pU(a b:List Ld):dk (a++b)=dk a++dk b:=by simp[dk]
theorem Er(a:List Ld):(dk a).length=a.length:=by simp[dk]
theorem pV{ls:List Ld}{i:Nat}{t:T}(h:(eL (dk ls))[i]?=some t):∃q,ls[i]?=some q∧i<ls.length∧t=.tup [.int (q.1:Int),li q.2]:=by
 unfold eL dk at h
 rw[List.map_map,List.getElem?_map] at h
 obtain⟨q,h1,rfl⟩:=Option.map_eq_some_iff.mp h
 exact⟨q,h1,(List.getElem?_eq_some_iff.mp h1).1,rfl⟩
theorem zi(p:Int)(ls:List Ld)(row:List Int)(i:Nat)(q:Ld)(h:ls[i]?=some q):frees p (ls.take (i+1)) row=fr p (frees p (ls.take i) row) q.2 q.1:=by
 unfold frees
 rw[List.take_add_one,h]
 simp
theorem xm{p:Int}{L:Nat}(hp:0<p):∀(ls:List Ld) (row:List Int),(∀q∈ls,Rw p L q.2)→Rw p L row→Rw p L (frees p ls row)
 | [],row,_,h=>h
 | q::ls,row,hq,h=>xm hp ls _ (λq' h'=>hq q' (by simp[h'])) (Eo hp q.1 h (hq q (by simp)))
theorem GX{ls:List Ld}{q:Ld}(hn:(ls.map (·.1)).Nodup)(h:q∈ls):kE (dk ls) (.inl (q.1:Int))=some (li q.2):=by
 induction ls with
 | nil=>simp at h
 | cons a ls ih =>
  have hn':(a.1::ls.map (·.1)).Nodup:=hn
  obtain⟨h1,h2⟩:=List.nodup_cons.mp hn'
  have e:dk (a::ls)=((.inl (a.1:Int):Key),li a.2)::dk ls:=rfl
  rw[e]
  unfold kE
  rw[List.find?_cons]
  by_cases ea:a.1=q.1
  ·have:q=a:=by
    rcases List.mem_cons.mp h with h|h
    ·exact h
    ·exact absurd (List.mem_map.mpr ⟨q,h,ea.symm⟩) h1
   subst this
   simp
  ·have hne:¬ ((Sum.inl (a.1:Int):Key)=.inl (q.1:Int)):=λz=>ea (by have:=Sum.inl.inj z;lia)
   have:q∈ls:=by
    rcases List.mem_cons.mp h with h|h
    ·subst h;exact absurd rfl ea
    ·exact h
   simp only[hne,decide_false]
   exact ih h2 this
theorem zj(ls:List Ld)(f:Nat):((dk ls).any λkv=>decide (kv.1=(.inl (f:Int):Key)))=ls.any λq=>decide (q.1=f):=by
 unfold dk
 rw[List.any_map]
 congr 1
 funext q
 show decide ((Sum.inl (q.1:Int):Key)=.inl (f:Int))=decide (q.1=f)
 by_cases e:q.1=f
 ·simp[e]
 ·have:¬ ((Sum.inl (q.1:Int):Key)=.inl (f:Int)):=λz=>e (by have:=Sum.inl.inj z;lia)
  simp[e,this]
theorem Es{ls:List Ld}{f:Nat}(r:List Int)(h:∀q∈ls,q.1≠f):vb (dk ls) (.inl (f:Int)) (li r)=dk (ls++[(f,r)]):=by
 unfold vb
 rw[zj,if_neg,pU]
 ·rfl
 ·intro hc
  obtain⟨q,hq,e⟩:=List.any_eq_true.mp hc
  exact h q hq (of_decide_eq_true e)
theorem Et{a b:List Ld}{q:Ld}(r:List Int)(hn:((a++q::b).map (·.1)).Nodup):vb (dk (a++q::b)) (.inl (q.1:Int)) (li r)=dk (a++(q.1,r)::b):=by
 unfold vb
 rw[zj,if_pos (List.any_eq_true.mpr ⟨q,by simp,by simp⟩)]
 have ne:∀x∈a++b,¬ ((Sum.inl (x.1:Int):Key)=.inl (q.1:Int)):=λx hx z=>by
  have e:x.1=q.1:=by have:=Sum.inl.inj z;lia
  rw[List.map_append,List.nodup_append] at hn
  obtain⟨_,n2,n3⟩:=hn
  rcases List.mem_append.mp hx with h|h
  ·exact n3 x.1 (List.mem_map.mpr ⟨x,h,rfl⟩) q.1 (by simp) e
  ·have n2':(q.1::b.map (·.1)).Nodup:=n2
   exact (List.nodup_cons.mp n2').1 (List.mem_map.mpr ⟨x,h,e⟩)
 have same:∀l:List Ld,(∀x∈l,x∈a++b)→(dk l).map (λkv=>if kv.1=(.inl (q.1:Int):Key) then (kv.1,li r) else kv)=dk l:=λl hl=>by
  unfold dk
  rw[List.map_map]
  refine List.map_congr_left λx hx=>?_
  show (if (Sum.inl (x.1:Int):Key)=.inl (q.1:Int) then _ else _)=_
  rw[if_neg (ne x (hl x hx))]
 rw[pU,List.map_append,same a (λx h=>by simp[h]),pU]
 congr 1
 show (if (Sum.inl (q.1:Int):Key)=.inl (q.1:Int) then _ else _)::(dk b).map _=_
 rw[if_pos rfl,same b (λx h=>by simp[h])]
 rfl
section
variable{p:Int}{L m:Nat}
theorem JT(hP:iS p)(hl:L≤1000)(hmL:m≤L){ls:List Ld}{row:List Int}(hk:∀q∈ls,q.1<m)(rl:∀q∈ls,Rw p L q.2)(hr:Rw p L row)(same:ah→Prop)(μ:ah)(hs:same μ)(x1 x2 x3 x4 x5 x7 x8 x9 x10:Option SV) :
  ∃y7 y8,forL same (cR [7,8]) (aC 6 (au (cal (fnV 5 ib)) [(ae 0),(ae 6),(ae 8),(ae 7)])) (eL (dk ls)) [some (.val (.int p)),x1,x2,x3,x4,x5,some (.val (li row)),x7,x8,x9,x10] μ =
   .nx [some (.val (.int p)),x1,x2,x3,x4,x5,some (.val (li (frees p ls row))),y7,y8,x9,x10] μ:=by
 have hb:=hP.pos
 have hp0:0<p:=Int.lt_of_lt_of_le (by decide) hb.1
 obtain⟨e',μ',h1,y7,y8,h2,h3⟩:=fO (same:=same) (b:=cR [7,8]) (body:=aC 6 (au (cal (fnV 5 ib)) [(ae 0),(ae 6),(ae 8),(ae 7)])) (ts:=eL (dk ls))
  (e:=[some (.val (.int p)),x1,x2,x3,x4,x5,some (.val (li row)),x7,x8,x9,x10]) (μ:=μ)
  (λi e μ'=>∃y7 y8,μ'=μ∧e=[some (.val (.int p)),x1,x2,x3,x4,x5,some (.val (li (frees p (ls.take i) row))),y7,y8,x9,x10])
  (λi e μ' aq=>by obtain⟨_,_,h,_⟩:=aq;rw[h];exact hs) (λi t e μ' ht cJ=>by
   obtain⟨y7,y8,hμ,he⟩:=cJ
   subst hμ he
   obtain⟨q,hq,hi,rfl⟩:=pV ht
   have hm:q∈ls:=List.mem_of_getElem? hq
   have hf:=xl (p:=p) (L:=L) (by lia) (by lia) q.1 (frees p (ls.take i) row) q.2 μ' (xm (by lia) _ _ (λq' h'=>rl q' (List.mem_of_mem_take h')) hr) (rl q hm) hl (by have:=hk q hm;lia)
   refine⟨_,_,_,dS _ _ _ _ _,?_,some (.val (.int q.1)),some (.val (li q.2)),rfl,rfl⟩
   rw[zi p ls row i q hq]
   simp only[kq,ij,br,eN,eE,List.set_cons_succ,List.set_cons_zero,cG,cF,R.aY,R.aP,lF]
   rw[hf]
   rfl) ⟨x7,x8,rfl,rfl⟩
 refine⟨y7,y8,?_⟩
 rw[h1,h2,h3]
 have:(eL (dk ls)).length=ls.length:=by simp[eL,dk]
 rw[this,List.take_length]
theorem Eu(u:List Int)(f:Nat)(ls:List Ld)(i:Nat)(q:Ld)(h:ls[i]?=some q):led p (ls.take (i+1)) u f=led p (ls.take i) u f++[(q.1,fr p q.2 u f)]:=by
 unfold led
 rw[List.take_add_one,h]
 simp
theorem Ew{ls:List Ld}{i:Nat}{t:T}(h:((dk ls).map λp=>wD p.1)[i]?=some t):∃q,ls[i]?=some q∧i<ls.length∧t=.int (q.1:Int):=by
 unfold dk at h
 rw[List.map_map,List.getElem?_map] at h
 obtain⟨q,h1,rfl⟩:=Option.map_eq_some_iff.mp h
 exact⟨q,h1,(List.getElem?_eq_some_iff.mp h1).1,rfl⟩
theorem JU(hP:iS p)(hl:L≤1000)(hmL:m≤L){ls:List Ld}{u:List Int}{f:Nat}(hn:(ls.map (·.1)).Nodup)(hf:f<m)(rl:∀q∈ls,Rw p L q.2)(hu:Rw p L u)(hsz:ls.length<szL)(same:ah→Prop)(hs:∀μ,same μ)(μ tl:ah)(x1 x2 x4 x5 x6 x7 x8:Option SV) :
  ∃y7,forL same (aD 7) (p7 3 (ae 7) (au (cal (fnV 5 ib)) [(ae 0),(aj rg (ae 3) (ae 7)),(ae 10),(ae 9)])) ((dk ls).map λp=>wD p.1)
   [some (.val (.int p)),x1,x2,some (.cel μ.length),x4,x5,x6,x7,x8,some (.val (.int f)),some (.val (li u))] (μ++(true,.dct (dk ls))::tl) =
   .nx [some (.val (.int p)),x1,x2,some (.cel μ.length),x4,x5,x6,y7,x8,some (.val (.int f)),some (.val (li u))] (μ++(true,.dct (dk (led p ls u f)))::tl):=by
 have hb:=hP.pos
 have hp0:0<p:=Int.lt_of_lt_of_le (by decide) hb.1
 obtain⟨e',μ',h1,y7,h2,h3⟩:=fO (same:=same) (b:=aD 7) (body:=p7 3 (ae 7) (au (cal (fnV 5 ib)) [(ae 0),(aj rg (ae 3) (ae 7)),(ae 10),(ae 9)])) (ts:=(dk ls).map λp=>wD p.1)
  (e:=[some (.val (.int p)),x1,x2,some (.cel μ.length),x4,x5,x6,x7,x8,some (.val (.int f)),some (.val (li u))]) (μ:=μ++(true,.dct (dk ls))::tl)
  (λi e μ'=>∃y7,μ'=μ++(true,.dct (dk (led p (ls.take i) u f++ls.drop i)))::tl∧e=[some (.val (.int p)),x1,x2,some (.cel μ.length),x4,x5,x6,y7,x8,some (.val (.int f)),some (.val (li u))])
  (λi e μ' _=>hs μ') (λi t e μ' ht aq=>by
   obtain⟨y7,hμ,he⟩:=aq
   subst hμ he
   obtain⟨q,hq,hi,rfl⟩:=Ew ht
   have hm:q∈ls:=List.mem_of_getElem? hq
   have hd:ls.drop i=q::ls.drop (i+1):=by
    rw[List.drop_eq_getElem_cons hi]
    congr 1
    rw[List.getElem?_eq_getElem hi] at hq
    exact Option.some.inj hq
   have HJ:(led p (ls.take i) u f++q::ls.drop (i+1)).map (·.1)=ls.map (·.1):=by
    rw[← hd,List.map_append]
    have:(led p (ls.take i) u f).map (·.1)=(ls.take i).map (·.1):=by unfold led;rw[List.map_map];rfl
    rw[this,← List.map_append,List.take_append_drop]
   have hnd:((led p (ls.take i) u f++q::ls.drop (i+1)).map (·.1)).Nodup:=by rw[HJ];exact hn
   have hlen:(dk (led p (ls.take i) u f++q::ls.drop (i+1))).length<szL:=by
    have:=congrArg List.length HJ
    simp only[List.length_map] at this
    rw[Er,this];exact hsz
   have hv:=GX hnd (q:=q) (by simp)
   have hfr:=xl (p:=p) (L:=L) (by lia) (by lia) f q.2 u (μ++(true,.dct (dk (led p (ls.take i) u f++q::ls.drop (i+1))))::tl) (rl q hm) hu hl (by lia)
   rw[hd]
   refine⟨_,_,_,lJ _ _ _,?_,some (.val (.int q.1)),rfl,rfl⟩
   rw[Eu u f ls i q hq,List.append_assoc,List.singleton_append,← Et (fr p q.2 u f) hnd]
   simp only[rh,ij,br,eN,eE,List.set_cons_succ,List.set_cons_zero,cG,cF,R.aY,R.aP,R.cK,lF,iO,jN,i_,gp,Option.map_some,n_,Bq,hv]
   rw[hfr]
   simp only[R.cY,R.cK,mC]
   rw[ux (kts:=dk (led p (ls.take i) u f++q::ls.drop (i+1))) (by simp) hlen]
   simp) ⟨x7,by simp[led],rfl⟩
 refine⟨y7,?_⟩
 rw[h1,h2,h3]
 have:((dk ls).map λp=>wD p.1).length=ls.length:=by simp[dk]
 rw[this,List.take_length,List.drop_length,List.append_nil]
end
seal RS.yr
theorem xn{r:RS}{k:Slots→ah→RS}{I:Slots→ah→Prop}{P:RS→Prop}{e':Slots}{μ':ah}(h:r=.nx e' μ')(hk:(k e' μ').yr I P):(r.seq k).yr I P:=by rw[h];exact hk
section
variable{p:Int}{L m:Nat}
theorem xo(hP:iS p)(hl:L≤1000)(hmL:m≤L)(rows:List (List Int))(hR:∀r∈rows,Rw p L r)(hrn:rows.length≤1000)(x:SV)(μ:ah)(hx:∀l,rd (μ++l) x=some (.lst (rows.map li))) :
  ∃ls ns,fnV 11 mH [.val (.int p),x,.val (.int m)] μ=.ok (.val (.tup [.dct (dk ls),.lst (ns.map li)])) μ∧jZ p L m ls ns rows∧ls.length+ns.length=rows.length:=by
 have hb:=hP.pos
 have hp0:0<p:=Int.lt_of_lt_of_le (by decide) hb.1
 unfold mH
 simp[hx]
 refine oy (P:=λr=>∃ls ns,RS.qS μ.length (r.seq (aH (jK [ae 3,ae 4])))=R.ok (SV.val (.tup [.dct (dk ls),.lst (ns.map li)])) μ∧jZ p L m ls ns rows∧ls.length+ns.length=rows.length)
  (λi e μ'=>∃ls ns x5 x6 x7 x8 x9 x10,e=[some (.val (.int p)),some x,some (.val (.int m)),some (.cel μ.length),some (.cel (μ.length+1)),x5,x6,x7,x8,x9,x10]∧μ'=μ++[(true,.dct (dk ls)),(true,.lst (ns.map li))]∧jZ p L m ls ns (rows.take i)∧ls.length+ns.length=i)
  ?_ ?_ ?_ ⟨[],[],none,none,none,none,none,none,rfl,rfl,jZ.start p L m,rfl⟩
 ·rintro i e μ' ⟨ls,ns,_,_,_,_,_,_,_,h,_⟩
  rw[h];exact hx _
 ·rintro i t e μ' ht ⟨ls,ns,x5,x6,x7,x8,x9,x10,rfl,rfl,E,hlen⟩
  rw[List.getElem?_map] at ht
  obtain⟨row,JV,rfl⟩:=Option.map_eq_some_iff.mp ht
  have hi:i<rows.length:=(List.getElem?_eq_some_iff.mp JV).1
  have hr:Rw p L row:=hR row (List.mem_of_getElem? JV)
  have htk:rows.take (i+1)=rows.take i++[row]:=by rw[List.take_add_one,JV];rfl
  obtain⟨r1,r2,r3⟩:=E.rest (by lia) hr
  refine⟨_,lJ _ _ _,?_⟩
  (try simp_all! only[]);simp only[js,kq,eN,List.set_cons_succ,List.set_cons_zero,cG,cF,R.aY,R.cK,RS.jM,mF,pJ,R.aP,jN,gp,Option.map_some,Option.bind_some,vc]
  obtain⟨y7,y8,h⟩:=JT hP hl hmL E.key E.rl hr (λμ'=>Option.map (λx=>x.snd) μ'[List.length μ]?=some (T.dct (dk ls))) (μ++[(true,T.dct (dk ls)),(true,T.lst (ns.map li))]) (by simp) (some x) (some (.val (.int m))) (some (.cel μ.length)) (some (.cel (μ.length+1))) (some (.val (li row))) x7 x8 x9 x10
  refine xn h ?_
  clear h
  simp only[js,kq,eN,ij,br,eE,lF,List.set_cons_succ,List.set_cons_zero,cG,cF,R.aY,R.aP,R.cK,RS.jM]
  have hfo:=Ep (m:=m) (frees p ls row) (μ++[(true,T.dct (dk ls)),(true,T.lst (ns.map li))]) r1 hmL hl
  generalize fnV 3 dM [.val (li (frees p ls row)),.val (.int m)] (μ++[(true,T.dct (dk ls)),(true,T.lst (ns.map li))])=G at hfo ⊢
  rcases hfo with ⟨rfl,hz⟩|⟨f,rfl,hfm,hne⟩
  ·skip
   have hsz:(ns.map li).length<szL:=by rw[List.length_map];unfold szL;lia
   (try simp_all! only[]);simp[yp _ _ _ _ _ hsz]
   refine⟨ls,ns++[frees p ls row],⟨rfl,by simp⟩,?_,by simp;lia⟩
   rw[htk]
   exact E.JS (by lia) hr hz
  ·skip
   have ha:atI ((frees p ls row).map T.int) (f:Int)=some (.int (g (frees p ls row) f)):=atg (by lia) (by rw[r1.len];lia)
   have gb:=r1.g0 (p:=p) (by lia) f
   have xp:g (frees p ls row) f%p≠0:=by rw[Int.emod_eq_of_lt gb.1 gb.2];exact hne
   obtain⟨y,ho,y0,y1,yz⟩:=Aq hP 1 (g (frees p ls row) f) (μ++[(true,T.dct (dk ls)),(true,T.lst (ns.map li))]) xp
   have ht:=xk (p:=p) (L:=L) (by lia) (by lia) y (frees p ls row) (μ++[(true,T.dct (dk ls)),(true,T.lst (ns.map li))]) r1 hl
   have hinv:Inv p y (g (frees p ls row) f):=by
    unfold Inv
    exact Int.emod_eq_emod_iff_emod_sub_eq_zero.mpr yz
   have hE:=E.lead (by lia) hr hfm hne hinv
   have fne:∀q∈ls,q.1≠f:=λq hq e=>hne (by rw[← e];exact r2 q hq)
   generalize hu:tm p y (frees p ls row)=u at ht hE
   have hu2:Rw p L u:=by rw[← hu];exact Ap (by lia) y r1.len
   (try simp_all! only[]);simp only[R.cY,R.cK,yj,qG,eN,List.set_cons_succ,List.set_cons_zero,cG,cF,R.aY,R.aP,i_,nZ,ug,Option.map_some,ja,Bool.false_eq_true,if_false,js,kq,ij,br,eE,lF,p5,km,Option.bind_some,lG,ha,ho,ht,RS.jM,mF,u3,jN,gp,zS,iR]
   refine (JU hP hl hmL E.nd hfm E.rl hu2 (by unfold szL;lia) _ ?_ _ _ _ _ _ _ _ _ _).elim λy7 h=>xn h ?_
   ·intro μ'';trivial
   have hkl:(dk (led p ls u f)).length<szL:=by rw[Er];simp[led];unfold szL;lia
   simp only[rh,eN,cG,cF,R.aY,R.cK,i_,mC]
   rw[ux (kts:=dk (led p ls u f)) (by simp) hkl]
   (try simp_all! only[]);simp only[R.aY,R.cK,Gn,kB]
   rw[Es u (λq hq=>by
    obtain⟨q0,h0,rfl⟩:=List.mem_map.mp hq
    exact fne q0 h0)]
   refine⟨_,ns,_,_,_,_,_,_,rfl,rfl,?_,?_⟩
   ·rw[htk];exact hE
   ·simp[led];lia
 ·rintro e μ' ⟨ls,ns,x5,x6,x7,x8,x9,x10,rfl,rfl,E,hlen⟩
  rw[List.length_map,List.take_length] at E
  rw[List.length_map] at hlen
  exact⟨ls,ns,by simp,E,hlen⟩
end
def eu(n k:Nat):List Int:=(List.replicate n 0).set k 1
theorem h8(n:Nat)(r:List Int):dot (List.replicate n 0) r=0:=by
 induction n generalizing r with
 | zero=>simp
 | succ n ih=>cases r with
  | nil=>simp
  | cons x r=>rw[List.replicate_succ,bS,ih];simp
theorem gZ:∀(n k:Nat) (r:List Int),k<n→dot (eu n k) r=g r k
 | 0,k,r,h=>by lia
 | n+1,0,r,h=>by
  cases r with
  | nil=>simp[g]
  | cons x r =>
   have:eu (n+1) 0=1::List.replicate n 0:=by simp[eu,List.replicate_succ]
   rw[this,bS,h8,iK];lia
 | n+1,k+1,r,h=>by
  have e:eu (n+1) (k+1)=0::eu n k:=by simp[eu,List.replicate_succ]
  cases r with
  | nil=>simp[g]
  | cons x r=>rw[e,bS,fg,gZ n k r (by lia)];lia
theorem vR(l r:List Int):dot (l.map λx=>-x) r=- dot l r:=by
 induction l generalizing r with
 | nil=>simp
 | cons x l ih=>cases r with
  | nil=>simp
  | cons y r=>simp only[List.map_cons,bS,ih];rw[Int.neg_mul];lia
theorem o8:∀(xs ys:List Int),(∀i,g xs i*g ys i=0)→dot xs ys=0
 | [],ys,h=>by simp
 | x::xs,[],h=>by simp
 | x::xs,y::ys,h=>by
  rw[bS,o8 xs ys λi=>by simpa [fg] using h (i+1)]
  have:=h 0
  rw[iK,iK] at this
  lia
theorem sf:∀(xs ys:List Int) (k:Nat),(∀i,i≠k→g xs i*g ys i=0)→dot xs ys=g xs k*g ys k
 | [],ys,k,h=>by simp[g]
 | x::xs,[],k,h=>by simp[g]
 | x::xs,y::ys,0,h=>by
  rw[bS,o8 xs ys λi=>by simpa [fg] using h (i+1) (by lia),iK,iK];lia
 | x::xs,y::ys,k+1,h=>by
  have:=h 0 (by lia)
  rw[iK,iK] at this
  rw[bS,this,sf xs ys k λi hi=>by simpa [fg] using h (i+1) (by lia),fg,fg];lia
theorem vS(r:List Int)(n k:Nat)(h:k<n):g (r.take n) k=g r k:=by
 simp[g,List.getD_eq_getElem?_getD,List.getElem?_take,h]
theorem zk(r:List Int)(n k:Nat)(h:n≤k):g (r.take n) k=0:=by
 simp[g,List.getD_eq_getElem?_getD,List.getElem?_take,Nat.not_lt.mpr h]
theorem uF(r:List Int)(k j:Nat)(v:Int)(h:k<r.length):g (r.set k v) j=if j=k then v else g r j:=by
 by_cases e:j=k
 ·subst e;simp[g,List.getD_eq_getElem?_getD,h]
 ·simp[g,List.getD_eq_getElem?_getD,List.getElem?_set,e,Ne.symm e]
theorem o9(r:List Int)(m:Nat)(h:m<r.length):r=r.take m++g r m::r.drop (m+1):=by
 rw[tW r m h,← List.drop_eq_getElem_cons h,List.take_append_drop]
theorem kj(a c r:List Int)(b:Int)(m:Nat)(ha:a.length=m)(h:m<r.length):dot (a++b::c) r=dot a (r.take m)+b*g r m+dot c (r.drop (m+1)):=by
 have e:=o9 r m h
 have:dot (a++b::c) (r.take m++g r m::r.drop (m+1))=dot a (r.take m)+(b*g r m+dot c (r.drop (m+1))):=by
  rw[sd _ _ _ _ (by simp[ha];lia),bS]
 rw[← e] at this
 rw[this];lia
theorem zl(n k:Nat):(eu n k).length=n:=by simp[eu]
theorem o_{p:Int}(hp:1<p)(n:Nat):Rw p n (List.replicate n 0):=⟨by simp,λx hx=>by have:=(List.mem_replicate.mp hx).2;lia,λx hx=>by have:=(List.mem_replicate.mp hx).2;lia⟩
theorem Rw.set{p:Int}{n k:Nat}{r:List Int}{v:Int}(h:Rw p n r)(h0:0≤v)(h1:v<p):Rw p n (r.set k v):=by
 refine⟨by simp[h.len],λx hx=>?_,λx hx=>?_⟩
 ·rcases List.mem_or_eq_of_mem_set hx with z|z
  ·exact h.lo x z
  ·lia
 ·rcases List.mem_or_eq_of_mem_set hx with z|z
  ·exact h.hi x z
  ·lia
theorem Rw.append{p:Int}{n k:Nat}{r s:List Int}(h:Rw p n r)(h':Rw p k s):Rw p (n+k) (r++s):=by
 refine⟨by simp[h.len,h'.len],λx hx=>?_,λx hx=>?_⟩
 ·rcases List.mem_append.mp hx with z|z
  ·exact h.lo x z
  ·exact h'.lo x z
 ·rcases List.mem_append.mp hx with z|z
  ·exact h.hi x z
  ·exact h'.hi x z
theorem Rw.drop{p:Int}{n k:Nat}{r:List Int}(h:Rw p n r):Rw p (n-k) (r.drop k) :=
 ⟨by simp[h.len],λx hx=>h.lo x (List.mem_of_mem_drop hx),λx hx=>h.hi x (List.mem_of_mem_drop hx)⟩
def col(lines:List (List Int))(j:Nat):List Int:=lines.map λl=>g l j
def aug(w:Nat)(lines:List (List Int))(ws:List Int)(j:Nat):List Int:=(col lines j++[g ws j])++eu w j
section
variable{p:Int}{w:Nat}{lines:List (List Int)}{ws:List Int}
theorem Ey(hp:0<p)(hl:∀l∈lines,Rw p w l)(j:Nat):Rw p lines.length (col lines j):=by
 refine⟨by simp[col],λx hx=>?_,λx hx=>?_⟩
 ·obtain⟨l,h,rfl⟩:=List.mem_map.mp hx
  exact ((hl l h).g0 hp j).1
 ·obtain⟨l,h,rfl⟩:=List.mem_map.mp hx
  exact ((hl l h).g0 hp j).2
theorem JW(hp:1<p)(hl:∀l∈lines,Rw p w l)(hw:Rw p w ws)(j:Nat):Rw p (lines.length+1+w) (aug w lines ws j):=by
 have g0:=hw.g0 (by lia) j
 have h1:Rw p 1 [g ws j]:=⟨rfl,λx hx=>by simp at hx;lia,λx hx=>by simp at hx;lia⟩
 exact ((Ey (by lia) hl j).append h1).append ((o_ hp w).set (by lia) hp)
theorem MD(k j:Nat)(h:k<lines.length):g (col lines j) k=g lines[k] j:=by
 rw[tW _ _ (by simp[col,h])];simp[col]
theorem uG(j:Nat):(aug w lines ws j).take lines.length=col lines j∧g (aug w lines ws j) lines.length=g ws j∧(aug w lines ws j).drop (lines.length+1)=eu w j:=by
 have hc:(col lines j).length=lines.length:=by simp[col]
 refine⟨?_,?_,?_⟩
 ·unfold aug;rw[List.append_assoc,List.take_append_of_le_length (by lia),List.take_of_length_le (by lia)]
 ·unfold aug;rw[tW _ _ (by simp[hc])];simp[hc]
 ·unfold aug;rw[List.drop_append_of_le_length (by simp[hc]),List.drop_of_length_le (by simp[hc]),List.nil_append]
theorem told{ls:List Ld}{ns:List (List Int)}(hp:1<p)(E:jZ p (lines.length+1+w) lines.length ls ns ((List.range w).map λj=>aug w lines ws j)){r:List Int}(hr:r∈ns)(hw:ws.length=w)(hl:∀l∈lines,l.length=w) :
  (∀l∈lines,p ∣ dot l (r.drop (lines.length+1)))∧p ∣ g r lines.length-dot ws (r.drop (lines.length+1)):=by
 have hrl:=(E.rn r hr).len
 have use:∀(a v:List Int) (b:Int),a.length=lines.length→(∀j,j<w→dot a (col lines j)+b*g ws j=g v j)→p ∣ dot a (r.take lines.length)+b*g r lines.length-dot v (r.drop (lines.length+1)):=λa v b ha hv=>by
  have hz:=((E.eq (a++b::v.map λx=>-x)).mp λq hq=>by
   obtain⟨j,hj,rfl⟩:=List.mem_map.mp hq
   have hj:j<w:=List.mem_range.mp hj
   obtain⟨e1,e2,e3⟩:=uG (w:=w) (lines:=lines) (ws:=ws) j
   unfold Z
   rw[kj a _ _ b lines.length ha (by simp[aug,col]),e1,e2,e3,vR,iG v (eu w j),gZ w j v hj,hv j hj]
   exact⟨0,by lia⟩).2 r hr
  unfold Z at hz
  rw[kj a _ _ b lines.length ha (by lia),vR] at hz
  exact hz
 refine⟨λl hl'=>?_,?_⟩
 ·obtain⟨k,hk,rfl⟩:=List.mem_iff_getElem.mp hl'
  have:=use (eu lines.length k) lines[k] 0 (zl _ _) λj hj=>by rw[gZ _ _ _ hk,MD k j hk];lia
  rw[gZ _ _ _ hk,vS _ _ _ hk,E.no r hr k hk] at this
  obtain⟨t,ht⟩:=this
  exact⟨-t,by rw[Int.mul_neg];lia⟩
 ·have:=use (List.replicate lines.length 0) ws 1 (by simp) λj hj=>by rw[h8];lia
  rw[h8] at this
  simpa using this
theorem JX{ls:List Ld}{ns:List (List Int)}(hp:1<p)(E:jZ p (lines.length+1+w) lines.length ls ns ((List.range w).map λj=>aug w lines ws j))(h0:∀r∈ns,g r lines.length=0){ms:List Int}(hm:ms.length=lines.length)
  (h1:∀q∈ls,g ms q.1=g q.2 lines.length) (h2:∀i,(∀q∈ls,q.1≠i)→g ms i=0) (j:Nat) (hj:j<w):p ∣ dot ms (col lines j)-g ws j:=by
 have hz:=(E.eq (ms++(-1)::List.replicate w 0)).mpr ⟨λq hq=>?_,λr hr=>?_⟩ (aug w lines ws j) (List.mem_map.mpr ⟨j,List.mem_range.mpr hj,rfl⟩)
 ·obtain⟨e1,e2,e3⟩:=uG (w:=w) (lines:=lines) (ws:=ws) j
  unfold Z at hz
  rw[kj ms _ _ _ lines.length hm (by simp[aug,col]),e1,e2,h8] at hz
  obtain⟨t,ht⟩:=hz
  exact⟨t,by lia⟩
 ·unfold Z
  rw[kj ms _ _ _ lines.length hm (by rw[(E.rl q hq).len];lia),h8,sf ms (q.2.take lines.length) q.1,vS _ _ _ (E.key q hq),E.one q hq,h1 q hq]
  ·exact⟨0,by lia⟩
  ·intro i hi
   by_cases hk:∃q'∈ls,q'.1=i
   ·obtain⟨q',hq',rfl⟩:=hk
    rw[vS _ _ _ (E.key q' hq'),E.off q hq q' hq' hi];simp
   ·rw[h2 i λq' hq' e=>hk ⟨q',hq',e⟩];simp
 ·unfold Z
  rw[kj ms _ _ _ lines.length hm (by rw[(E.rn r hr).len];lia),h8,h0 r hr,o8]
  ·exact⟨0,by lia⟩
  ·intro i
   by_cases hi:i<lines.length
   ·rw[vS _ _ _ hi,E.no r hr i hi];simp
   ·rw[zk _ _ _ (by lia)];simp
end
def cj:DS :=
 (aH (aT (fh (ae 1)) [none,some 0,some 2] (aD 0) (dC (.bl true)) (aj aW (aw (ae 0) (ae 2)) (ae 1))))
def jQ:DS :=
 (ax (aC 2 (cS (iP il [(dC (.int 0))] (ae 0))))
 (ax (bG 2 (ae 1) (dC (.int 1)))
 (aH (ae 2))))
def kM:DS :=
 (ax (aC 4 (fV (ae 2)))
 (ax (aC 5 (cS (ft [])))
 (ax (eQ (aV (ae 1)) (aD 6) (ee (ae 5) (aj bw (aj bw (au (cal (fnV 3 cj)) [(ae 0),(ae 2),(ae 6)]) (ft [(aj aW (aw (ae 3) (ae 6)) (ae 0))])) (au (cal (fnV 3 jQ)) [(ae 1),(ae 6)]))))
 (ax (aC 7 (au (cal (fnV 11 mH)) [(ae 0),(ae 5),(ae 4)]))
 (ax (eQ (fh (aw (ae 7) (dC (.int 1)))) (aD 8) (sIf (aj fNe (aw (ae 8) (ae 4)) (dC (.int 0))) (aH (lj [(dC (.str "turn")),(dUn dR (au (cal (fnV 3 kL)) [(ae 0),(au (cal (fnV 5 nr)) [(ae 0),(dC (.int 1)),(aw (ae 8) (ae 4))]),(yi (ae 8) (some (aj bw (ae 4) (dC (.int 1)))) none)]))])) b_))
 (ax (aC 9 (cS (iP il [(dC (.int 0))] (ae 4))))
 (ax (eQ (kF (aw (ae 7) (dC (.int 0)))) (cR [6,10]) (bG 9 (ae 6) (aw (ae 10) (ae 4))))
 (aH (lj [(dC (.str "sum")),(ae 9)])))))))))
noncomputable abbrev tu (r : List Int) : T := .tup (r.map T.int)
theorem Ar{μ:ah}{x:SV}{ts:List T}(h:rd μ x=some (.lst ts)):mM μ x=some (.int ts.length):=by
 cases x with
 | val t=>cases h;rfl
 | cel k=>rw[Dg,h];rfl
 | box xs=>cases h
theorem As{μ:ah}{x:SV}{ts:List T}{i:Int}(h:rd μ x=some (.lst ts)):lq μ x (.int i)=(atI ts i).map SV.val:=by
 cases x with
 | val t=>cases h;rfl
 | cel k=>rw[De,h];rfl
 | box xs=>cases h
section
variable{p:Int}{w:Nat}{lines:List (List Int)}{ws:List Int}
def mdl(p:Int)(l:List Int):List Int:=l.map (·%p)
theorem Su(p:Int)(l:List Int)(j:Nat):g (mdl p l) j=g l j%p:=by
 unfold g mdl
 rw[List.getD_eq_getElem?_getD,List.getD_eq_getElem?_getD,List.getElem?_map]
 cases l[j]? with
 | none=>simp
 | some x=>simp
theorem ME{l:List Int}(hp:0<p)(h:l.length=w):Rw p w (mdl p l):=by
 refine⟨by unfold mdl;rw[List.length_map];exact h,λx hx=>?_,λx hx=>?_⟩
 ·obtain⟨y,_,rfl⟩:=List.mem_map.mp hx;exact Int.emod_nonneg _ (by lia)
 ·obtain⟨y,_,rfl⟩:=List.mem_map.mp hx;exact Int.emod_lt_of_pos _ hp
theorem MF{l:List Int}(h:Rw p w l):mdl p l=l:=by
 unfold mdl
 exact (List.map_congr_left λx hx=>Int.emod_eq_of_lt (h.2 x hx) (h.3 x hx)).trans (List.map_id' l)
theorem Ez(hl:∀l∈lines,Rw p w l):lines.map (mdl p)=lines:=(List.map_congr_left λl h=>MF (hl l h)).trans (List.map_id' lines)
theorem qa(hp:0<p)(hl:∀l∈lines,l.length=w)(hn:lines.length≤1000)(j:Nat)(hj:j<w)(x:SV)(μ:ah)(hx:rd μ x=some (.lst (lines.map tu))) :
  fnV 3 cj [.val (.int p),x,.val (.int j)] μ=.ok (.val (li (col (lines.map (mdl p)) j))) μ:=by
 unfold cj
 (try simp_all! only[]);simp[hx]
 rw[bz _ (λl:List Int=>.int (g l j%p)) (by simp[hx])]
 ·rw[R.cY,R.aP,if_pos (by simp[szL];lia)]
  (try simp_all! only[]);simp[col,Function.comp_def,Su]
 ·intro l hm
  have h:=hl l hm
  refine⟨_,rfl,?_⟩
  have ha:atI (l.map T.int) (j:Int)=some (.int (g l j)):=by
   have:=atg (r:=l) (k:=(j:Int)) (by lia) (by rw[h];lia)
   simpa using this
  (try simp_all! only[]);simp[ha,hp]
theorem jq(hp:0<p)(hl:∀l∈lines,Rw p w l)(hn:lines.length≤1000)(j:Nat)(hj:j<w)(x:SV)(μ:ah)(hx:rd μ x=some (.lst (lines.map tu))) :
  fnV 3 cj [.val (.int p),x,.val (.int j)] μ=.ok (.val (li (col lines j))) μ:=by
 rw[qa hp (λl h=>(hl l h).1) hn j hj x μ hx,Ez hl]
theorem Au(xs:List T)(k:Int)(h:-(2 ^ 63)≤k∧k<2 ^ 63∧xs.length*k.toNat≤szL):il (.lst xs) (.int k)=some (.lst (List.replicate k.toNat xs).flatten):=if_pos h
theorem rep0(n:Nat)(h:n≤1000):il (.lst [.int 0]) (.int (n:Int))=some (li (List.replicate n 0)):=by
 have hn:(n:Int).toNat=n:=by lia
 have hz:[T.int 0].length*(n:Int).toNat≤szL:=by
  rw[hn]
  unfold szL
  simp
  lia
 rw[Au _ _ ⟨by lia,by lia,hz⟩,hn,List.flatten_replicate_singleton,li,List.map_replicate]
theorem hs_(w j:Nat)(hj:j<w)(μ:ah):setAt (.cel μ.length) (.int (j:Int)) (.int 1) (μ++[(true,li (List.replicate w 0))])=some (μ++[(true,li (eu w j))]):=by
  rw[j5 (ts:=(List.replicate w 0).map T.int) gp (by lia) (by rw[List.length_map,List.length_replicate];lia),kB]
  have:(j:Int).toNat=j:=by lia
  rw[this]
  unfold eu li
  rw[List.map_set]
theorem JY(f:T→T→Option T)(x y:Int)(z z2:T)(μ:ah)(hr:f (.lst [.int 0]) (.int x)=some z)(hs:setAt (.cel μ.length) (.int y) (.int 1) (μ++[(true,z)])=some (μ++[(true,z2)])):fnV 3 (ax (aC 2 (cS (iP f [(dC (.int 0))] (ae 0))))
 (ax (bG 2 (ae 1) (dC (.int 1)))
 (aH (ae 2)))) [.val (.int x),.val (.int y)] μ=.ok (.val z2) μ:=by
 simp[hr,hs]
theorem Av(j:Nat)(hj:j<w)(hw:w≤1000)(μ:ah):fnV 3 jQ [.val (.int w),.val (.int j)] μ=.ok (.val (li (eu w j))) μ :=
 JY il w j _ _ μ (rep0 w hw) (hs_ w j hj μ)
theorem EA(f:T→T→Option T)(i j:Nat)(e:Slots)(μ:ah)(k:Int)(t:T)(hs:slot e j=some (.val (.int k)))(h:f (.lst [.int 0]) (.int k)=some t):aC i (cS (iP f [dC (.int 0)] (ae j))) e μ=.nx (e.set i (some (.cel μ.length))) (μ++[(true,t)]):=by
 (try simp_all! only[]);simp[hs,h]
theorem pb{raw:List (List Int)}(hP:iS p)(hl:∀l∈raw,l.length=w)(B6:raw.map (mdl p)=lines)(hw:Rw p w ws)(hn:lines.length≤200)(hw2:w≤100)(x:SV)(μ:ah)(hx:∀l,rd (μ++l) x=some (.lst (raw.map tu)))(same:ah→Prop)(EB:∀μ',same μ')(x4 x6 x7 x8 x9 x10:Option SV) :
  ∃y6,forL same (aD 6) (ee (ae 5) (aj bw (aj bw (au (cal (fnV 3 cj)) [(ae 0),(ae 2),(ae 6)]) (ft [(aj aW (aw (ae 3) (ae 6)) (ae 0))])) (au (cal (fnV 3 jQ)) [(ae 1),(ae 6)]))) (bq 0 w)
   [some (.val (.int p)),some (.val (.int w)),some x,some (.val (tu ws)),x4,some (.cel μ.length),x6,x7,x8,x9,x10] (μ++[(true,.lst [])]) =
   .nx [some (.val (.int p)),some (.val (.int w)),some x,some (.val (tu ws)),x4,some (.cel μ.length),y6,x7,x8,x9,x10] (μ++[(true,.lst (((List.range w).map λj=>aug w lines ws j).map li))]):=by
 have hb:=hP.pos
 have hp0:0<p:=Int.lt_of_lt_of_le (by decide) hb.1
 have hrl:raw.length=lines.length:=by rw[← B6,List.length_map]
 obtain⟨e',μ',h1,y6,h2,h3⟩:=fO (same:=same) (b:=aD 6) (body:=ee (ae 5) (aj bw (aj bw (au (cal (fnV 3 cj)) [(ae 0),(ae 2),(ae 6)]) (ft [(aj aW (aw (ae 3) (ae 6)) (ae 0))])) (au (cal (fnV 3 jQ)) [(ae 1),(ae 6)]))) (ts:=bq 0 w)
  (e:=[some (.val (.int p)),some (.val (.int w)),some x,some (.val (tu ws)),x4,some (.cel μ.length),x6,x7,x8,x9,x10]) (μ:=μ++[(true,.lst [])])
  (λi e μ'=>∃y6,e=[some (.val (.int p)),some (.val (.int w)),some x,some (.val (tu ws)),x4,some (.cel μ.length),y6,x7,x8,x9,x10]∧μ'=μ++[(true,.lst (((List.range i).map λj=>aug w lines ws j).map li))])
  (λi e μ' _=>EB μ') (λi t e μ' ht aq=>by
   obtain⟨y6,he,hμ⟩:=aq
   subst he hμ
   obtain⟨hi,rfl⟩:=q_ ht
   have e0:(0:Int)+(i:Int)=(i:Int):=by lia
   rw[e0]
   generalize hc:(true,T.lst (((List.range i).map λj=>aug w lines ws j).map li))=c
   have GY:=qa (p:=p) (w:=w) (by lia) hl (by lia) i (by lia) x (μ++[c]) (hx _)
   rw[B6] at GY
   have hun:=Av (w:=w) i (by lia) (by lia) (μ++[c])
   have gb:=hw.g0 (p:=p) (by lia) i
   have ha:atI (ws.map T.int) (i:Int)=some (.int (g ws i)):=by
    have:=atg (r:=ws) (k:=(i:Int)) (by lia) (by rw[hw.len];lia)
    simpa using this
   have xp:g ws i%p=g ws i:=Int.emod_eq_of_lt gb.1 gb.2
   have a1:bw (li (col lines i)) (.lst [.int (g ws i)])=some (li (col lines i++[g ws i])):=by
    rw[qJ _ _ (by simp[col,szL];lia)];simp
   have a2:bw (li (col lines i++[g ws i])) (li (eu w i))=some (li (aug w lines ws i)):=by
    rw[qJ _ _ (by simp[col,szL,eu];lia)];simp[aug]
   have hls:oi (.cel μ.length) (μ++[c])=some ():=by rw[← hc];exact ow _ _ _ _
   have hap:∀t,appendAt (.cel μ.length) t (μ++[c])=some (μ++[(true,T.lst (((List.range i).map λj=>aug w lines ws j).map li++[t]))]):=λt=>by rw[← hc];exact nh _ _ _ _ (by simp[szL];lia)
   refine⟨_,_,_,lJ _ _ _,?_,some (.val (.int i)),rfl,rfl⟩
   simp only[hls,hap,qQ,ij,br,eE,eN,lF,iO,uX,km,mD,qE,mC,List.set_cons_succ,List.set_cons_zero,cG,cF,R.aY,R.aP,R.cK,i_,n_,Option.bind_some,oh,ha,Option.map_some,fu _ _ hp0,xp,GY,hun,R.cY,a1,a2]
   rw[List.range_succ,List.map_append,List.map_append]
   rfl) ⟨x6,rfl,rfl⟩
 refine⟨y6,?_⟩
 rw[h1,h2,h3,cc]
end
theorem Sv(r:List Int)(i:Int)(h0:0≤i)(h1:i≤r.length):FW (li r) (some i) none=some (li (r.drop i.toNat)):=by
 have e1:sIx (r.map T.int).length 0 (some i)=i.toNat:=by show (if i<0 then _ else min i.toNat (r.map T.int).length)=_;rw[if_neg (by omega),List.length_map];omega
 have e2:sIx (r.map T.int).length (r.map T.int).length none=(r.map T.int).length:=rfl
 show some (T.lst (yf (r.map T.int) (some i) none))=_
 unfold yf
 rw[e1,e2,List.take_of_length_le (by simp)]
 simp
theorem atn{r:List Int}{k:Nat}(h:k<r.length):atI (r.map T.int) (k:Int)=some (.int (g r k)):=by
 have:=atg (r:=r) (k:=(k:Int)) (by omega) (by omega)
 simpa using this
section
variable{p:Int}{w:Nat}{lines:List (List Int)}{ws:List Int}
theorem GZ{L m:Nat}(hp:0<p){ls:List Ld}(hn:(ls.map (·.1)).Nodup)(hk:∀q∈ls,q.1<m)(rl:∀q∈ls,Rw p L q.2)(hmL:m<L)(hp1:1<p)(same:ah→Prop)(EB:∀μ',same μ')(μ:ah)(c:Bool×T)(x0 x1 x2 x3 x5 x6 x7 x8 x10:Option SV) :
  ∃y6 y10 ms,forL same (cR [6,10]) (bG 9 (ae 6) (aw (ae 10) (ae 4))) (eL (dk ls)) [x0,x1,x2,x3,some (.val (.int m)),x5,x6,x7,x8,some (.cel (μ.length+1)),x10] (μ++[c,(true,li (List.replicate m 0))]) =
   .nx [x0,x1,x2,x3,some (.val (.int m)),x5,y6,x7,x8,some (.cel (μ.length+1)),y10] (μ++[c,(true,li ms)])∧Rw p m ms∧(∀q∈ls,g ms q.1=g q.2 m)∧∀j,(∀q∈ls,q.1≠j)→g ms j=0:=by
 obtain⟨e',μ',h1,y6,y10,ms,h2,h3,h4,h5,h6⟩:=fO (same:=same) (b:=cR [6,10]) (body:=bG 9 (ae 6) (aw (ae 10) (ae 4))) (ts:=eL (dk ls))
  (e:=[x0,x1,x2,x3,some (.val (.int m)),x5,x6,x7,x8,some (.cel (μ.length+1)),x10]) (μ:=μ++[c,(true,li (List.replicate m 0))])
  (λi e μ'=>∃y6 y10 ms,e=[x0,x1,x2,x3,some (.val (.int m)),x5,y6,x7,x8,some (.cel (μ.length+1)),y10]∧μ'=μ++[c,(true,li ms)]∧Rw p m ms∧(∀q∈ls.take i,g ms q.1=g q.2 m)∧∀j,(∀q∈ls.take i,q.1≠j)→g ms j=0)
  (λi e μ' _=>EB μ') (λi t e μ' ht aq=>by
   obtain⟨y6,y10,ms,he,hμ,hr,h5,h6⟩:=aq
   subst he hμ
   obtain⟨q,hq,hi,rfl⟩:=pV ht
   have hm:q∈ls:=List.mem_of_getElem? hq
   have hkq:=hk q hm
   have ha:=atn (r:=q.2) (k:=m) (by rw[(rl q hm).len];exact hmL)
   have gb:=(rl q hm).g0 hp m
   have tX:setAt (.cel (μ.length+1)) (.int (q.1:Int)) (.int (g q.2 m)) (μ++[c,(true,li ms)])=some (μ++[c,(true,li (ms.set q.1 (g q.2 m)))]):=by
    rw[j5 (ts:=ms.map T.int) zY (by omega) (by rw[List.length_map,hr.len];omega),Gk]
    have:(q.1:Int).toNat=q.1:=by omega
    rw[this,← List.map_set]
   have htk:ls.take (i+1)=ls.take i++[q]:=by rw[List.take_add_one,hq];rfl
   have hne:∀q'∈ls.take i,q'.1≠q.1:=λq' hq' e=>by
    have hd:ls=ls.take i++q::ls.drop (i+1):=by
     have:ls.drop i=q::ls.drop (i+1):=by
      rw[List.drop_eq_getElem_cons hi]
      congr 1
      rw[List.getElem?_eq_getElem hi] at hq
      exact Option.some.inj hq
     rw[← this,List.take_append_drop]
    rw[hd,List.map_append,List.nodup_append] at hn
    exact hn.2.2 q'.1 (List.mem_map.mpr ⟨q',hq',rfl⟩) q.1 (by simp) e
   have hlen:q.1<ms.length:=by rw[hr.len];exact hkq
   refine⟨_,_,_,dS _ _ _ _ _,?_,some (.val (.int q.1)),some (.val (li q.2)),ms.set q.1 (g q.2 m),rfl,rfl,hr.set gb.1 gb.2,λq' hq'=>?_,λj hj=>?_⟩
   ·simp only[p6,km,eN,List.set_cons_succ,List.set_cons_zero,cG,cF,R.aY,R.aP,R.cK,i_,Option.bind_some,lG,ha,Option.map_some,mC,tX]
   ·rw[uF _ _ _ _ hlen]
    rw[htk] at hq'
    rcases List.mem_append.mp hq' with h|h
    ·rw[if_neg (hne q' h)];exact h5 q' h
    ·simp at h;subst h;rw[if_pos rfl]
   ·rw[uF _ _ _ _ hlen,if_neg (λe=>hj q (by rw[htk];simp) e.symm)]
    exact h6 j λq' hq'=>hj q' (by rw[htk];simp[hq'])) ⟨x6,x10,_,rfl,rfl,o_ hp1 m,by simp,λj _=>by
     by_cases hj:j<m
     ·rw[tW _ _ (by simp[hj])];simp
     ·simp[g,List.getD_eq_getElem?_getD,hj]⟩
 have hil:(eL (dk ls)).length=ls.length:=by simp[eL,dk]
 rw[hil,List.take_length] at h5 h6
 exact⟨y6,y10,ms,by rw[h1,h2,h3],h4,h5,h6⟩
end
inductive B7(p:Int)(w:Nat)(lines:List (List Int))(ws:List Int)(μ:ah):RS→Prop where
 | turn (c:T) (tv:List Int) (h:Rw p w tv) (h1:∀l∈lines,p ∣ dot l tv) (h2:p ∣ dot ws tv-1):B7 p w lines ws μ (.rt (.box [.inl (.str "turn"),.inl (tu tv)]) (μ++[(true,c)]))
 | sum (c:T) (ms:List Int) (h:Rw p lines.length ms) (h1:∀j,j<w→p ∣ dot ms (col lines j)-g ws j):B7 p w lines ws μ (.rt (.box [.inl (.str "sum"),.inr (μ.length+1)]) (μ++[(true,c),(true,li ms)]))
section
variable{p:Int}{w:Nat}{lines:List (List Int)}{ws:List Int}
theorem EC{raw:List (List Int)}(hP:iS p)(hrw:∀l∈raw,l.length=w)(B6:raw.map (mdl p)=lines)(hw:Rw p w ws)(hn:lines.length≤200)(hw2:w≤100)(x:SV)(μ:ah)(hx:∀l,rd (μ++l) x=some (.lst (raw.map tu))) :
  B7 p w lines ws μ (kM (starts 11 [.val (.int p),.val (.int w),x,.val (tu ws)]) μ):=by
 have hb:=hP.pos
 have hp0:0<p:=Int.lt_of_lt_of_le (by decide) hb.1
 have hl:∀l∈lines,Rw p w l:=λl h=>by
  rw[← B6] at h
  obtain⟨r,hr,rfl⟩:=List.mem_map.mp h
  exact ME hp0 (hrw r hr)
 have hx0:rd μ x=some (.lst (raw.map tu)):=by simpa using hx []
 have hlen:=Ar hx0
 rw[List.length_map,show raw.length=lines.length by rw[← B6,List.length_map]] at hlen
 unfold kM
 simp only[uu,js,kq,zR,eN,List.map_cons,List.map_nil,List.length_cons,List.length_nil,List.cons_append,List.nil_append,Nat.reduceAdd,Nat.reduceSub,List.replicate_succ,List.replicate_zero,cG,cF,R.aY,R.aP,R.cK,hlen,Option.map_some,List.set_cons_succ,List.set_cons_zero,RS.jM,qI,uX,eE,qE,qH,mF,qR,i_,Option.bind_some,pD,cZ (show (0:Int)≤(w:Int) by lia) (show (w:Int)≤1000000 by lia),if_true,Int.toNat_natCast]
 obtain⟨y6,h1⟩:=pb hP hrw B6 hw hn hw2 x μ hx (λ_=>True) (λ_=>trivial) (some (.val (.int lines.length))) none none none none none
 rw[h1,RS.jM]
 clear h1
 have ED:∀r∈(List.range w).map λj=>aug w lines ws j,Rw p (lines.length+1+w) r:=λr hr=>by
  obtain⟨j,_,rfl⟩:=List.mem_map.mp hr
  exact JW (by lia) hl hw j
 obtain⟨ls,ns,h2,E,_⟩:=xo (m:=lines.length) hP (L:=lines.length+1+w) (by lia) (by lia) ((List.range w).map λj=>aug w lines ws j) ED (by simp;lia) (.cel μ.length) (μ++[(true,.lst (((List.range w).map λj=>aug w lines ws j).map li))]) (λl=>by simp)
 generalize hc:T.lst (((List.range w).map λj=>aug w lines ws j).map li)=c at h2 ⊢
 (try simp_all! only[]);simp only[js,kq,eN,ij,br,eE,lF,List.set_cons_succ,List.set_cons_zero,cG,cF,R.aY,R.aP,R.cK,h2,R.cY,RS.jM,mF,u3,km,p5,i_,Option.bind_some,oh,z_,Option.map_some,iR]
 refine oy (P:=λr=>B7 p w lines ws μ (r.seq (ax (aC 9 (cS (iP il [dC (.int 0)] (ae 4))))
  (ax (eQ (kF (aw (ae 7) (dC (.int 0)))) (cR [6,10]) (bG 9 (ae 6) (aw (ae 10) (ae 4)))) (aH (lj [dC (.str "sum"),ae 9]))))))
  (λi e μ'=>∃y8,e=[some (.val (.int p)),some (.val (.int w)),some x,some (.val (tu ws)),some (.val (.int lines.length)),some (.cel μ.length),y6,some (.val (.tup [.dct (dk ls),.lst (ns.map li)])),y8,none,none]∧μ'=μ++[(true,c)]∧∀r∈ns.take i,g r lines.length=0)
  ?_ ?_ ?_ ⟨none,rfl,rfl,by simp⟩
 ·intro i e μ' _;trivial
 ·rintro i t e μ' ht ⟨y8,rfl,rfl,hz⟩
  rw[List.getElem?_map] at ht
  obtain⟨r,hr,rfl⟩:=Option.map_eq_some_iff.mp ht
  have hm:r∈ns:=List.mem_of_getElem? hr
  have hR:=E.rn r hm
  have ha:=atn (r:=r) (k:=lines.length) (by rw[hR.len];lia)
  refine⟨_,lJ _ _ _,?_⟩
  by_cases e0:g r lines.length=0
  ·(try simp_all! only[]);simp[ha,e0]
   intro r' hr'
   rw[List.take_add_one,hr] at hr'
   rcases List.mem_append.mp hr' with h|h
   ·exact hz r' h
   ·simp at h;subst h;exact e0
  ·have gb:=hR.g0 (p:=p) (by lia) lines.length
   obtain⟨y,ho,y0,y1,yz⟩:=Aq hP 1 (g r lines.length) (μ++[(true,c)]) (by rw[Int.emod_eq_of_lt gb.1 gb.2];exact e0)
   have hR2:Rw p w (r.drop (lines.length+1)):=by
    have:=hR.drop (k:=lines.length+1)
    rwa [show lines.length+1+w-(lines.length+1)=w by lia] at this
   have ht2:=xk (p:=p) (L:=w) (by lia) (by lia) y (r.drop (lines.length+1)) (μ++[(true,c)]) hR2 (by lia)
   have MG:=Sv r ((lines.length:Int)+1) (by lia) (by rw[hR.len];lia)
   rw[show ((lines.length:Int)+1).toNat=lines.length+1 by lia] at MG
   have e1:(g r lines.length==0)=false:=by simpa using e0
   have tl:=told (by lia) E hm hw.len λl h=>(hl l h).len
   obtain⟨t,hts⟩:∃t,g r lines.length-dot ws (r.drop (lines.length+1))=p*t:=tl.2
   obtain⟨s,hs⟩:∃s,y*g r lines.length-1=p*s:=Int.dvd_of_emod_eq_zero yz
   have MH:B7 p w lines ws μ (.rt (.box [.inl (.str "turn"),.inl (tu (tm p y (r.drop (lines.length+1))))]) (μ++[(true,c)])):=by
    refine .turn c _ (Ap (by lia) y hR2.len) (λl h=>?_) ?_
    ·obtain⟨u,hu⟩:=se p y (r.drop (lines.length+1)) l
     obtain⟨v,hv⟩:=tl.1 l h
     rw[hu,hv]
     exact⟨y*v+u,by grind⟩
    ·obtain⟨u,hu⟩:=se p y (r.drop (lines.length+1)) ws
     rw[hu]
     exact⟨s-y*t+u,by grind⟩
   have hb2:fNe (.int (g r lines.length)) (.int 0)=some (.bl true):=by rw[zQ,e1];rfl
   have goal:∀(e:Slots),slot e 0=some (.val (.int p))→slot e 4=some (.val (.int lines.length))→slot e 8=some (.val (li r)) →
     sIf (aj fNe (aw (ae 8) (ae 4)) (dC (.int 0))) (aH (lj [(dC (.str "turn")),(dUn dR (au (cal (fnV 3 kL)) [(ae 0),(au (cal (fnV 5 nr)) [(ae 0),(dC (.int 1)),(aw (ae 8) (ae 4))]),(yi (ae 8) (some (aj bw (ae 4) (dC (.int 1)))) none)]))])) b_ e (μ++[(true,c)]) =
     .rt (.box [.inl (.str "turn"),.inl (tu (tm p y (r.drop (lines.length+1))))]) (μ++[(true,c)]):=λe q0 q4 q8=>by
    (try simp_all! only[]);simp only[yj,iO,km,eN,p5,q0,q4,q8,R.aY,R.aP,R.cK,i_,Option.bind_some,lG,ha,Option.map_some,n_,hb2,ja,if_true,uZ,uY,br,eE,qG,ij,lF,ho,R.cY,zT,ui,uh,wy,pD,nZ,MG,ht2,qN,boxed]
   rw[goal _ rfl rfl rfl,Gp]
   exact MH
 ·rintro e μ' ⟨y8,rfl,rfl,hz⟩
  rw[List.length_map,List.take_length] at hz
  rw[RS.jM,js,EA il 9 4 _ _ (lines.length:Int) _ rfl (rep0 lines.length (by lia)),RS.jM]
  obtain⟨z6,z10,ms,h3,h4,h5,h6⟩:=GZ (p:=p) (L:=lines.length+1+w) (m:=lines.length) (by lia) E.nd E.key E.rl (by lia) (by lia) (λ_=>True) (λ_=>trivial) μ (true,c) (some (.val (.int p))) (some (.val (.int w))) (some x) (some (.val (tu ws))) (some (.cel μ.length)) y6 (some (.val (.tup [.dct (dk ls),.lst (ns.map li)]))) y8 none
  have Hy:(μ++[(true,c)]).length=μ.length+1:=by simp
  have hap:μ++[(true,c)]++[(true,li (List.replicate lines.length 0))]=μ++[(true,c),(true,li (List.replicate lines.length 0))]:=by simp
  rw[Hy,hap]
  (try simp_all! only[]);simp only[js,mF,pJ,km,eN,p5,List.set_cons_succ,List.set_cons_zero,cG,cF,R.aY,R.aP,R.cK,i_,Option.bind_some,oh,wO,Option.map_some,vc]
  rw[h3,RS.jM]
  (try simp_all! only[]);simp only[uZ,uY,br,eE,p5,eN,cG,cF,R.aY,R.aP,R.cK,boxed,Option.map_some]
  exact .sum c ms h4 λj hj=>JX (by lia) E hz h4.len h5 h6 j hj
theorem vT(hP:iS p)(hl:∀l∈lines,Rw p w l)(hw:Rw p w ws)(hn:lines.length≤100)(hw2:w≤100)(x:SV)(μ:ah)(hx:∀l,rd (μ++l) x=some (.lst (lines.map tu))) :
  B7 p w lines ws μ (kM (starts 11 [.val (.int p),.val (.int w),x,.val (tu ws)]) μ):=EC hP (λl h=>(hl l h).1) (Ez hl) hw (by lia) hw2 x μ hx
end
def less(n:Int)(v l:List Int):List Int:=(v.zip l).map λq=>q.1-n*q.2
theorem si(n:Int):∀(v l t:List Int),v.length=l.length→dot (less n v l) t=dot v t-n*dot l t
 | [],l,t,h=>by cases l with
  | nil=>simp[less]
  | cons x l=>simp at h
 | a::v,[],t,h=>by simp at h
 | a::v,b::l,[],h=>by simp[less]
 | a::v,b::l,c::t,h=>by
  have e:less n (a::v) (b::l)=(a-n*b)::less n v l:=rfl
  rw[e,bS,bS,bS,si n v l t (by simpa using h)]
  grind
theorem zm(n:Int):∀(v l:List Int) (j:Nat),v.length=l.length→g (less n v l) j=g v j-n*g l j
 | [],l,j,h=>by cases l with
  | nil=>simp[less,g]
  | cons x l=>simp at h
 | a::v,[],j,h=>by simp at h
 | a::v,b::l,0,h=>by simp[less,g]
 | a::v,b::l,j+1,h=>by
  have e:less n (a::v) (b::l)=(a-n*b)::less n v l:=rfl
  rw[e,fg,fg,fg]
  exact zm n v l j (by simpa using h)
theorem vU(p:Int):∀(v t:List Int),(∀j,j<v.length→p ∣ g v j)→p ∣ dot v t
 | [],t,_=>⟨0,by simp⟩
 | a::v,[],_=>⟨0,by simp⟩
 | a::v,b::t,h=>by
  rw[bS]
  have h0:=h 0 (by simp)
  rw[iK] at h0
  obtain⟨s,hs⟩:=h0
  obtain⟨u,hu⟩:=vU p v t λj hj=>by have:=h (j+1) (by simp;lia);rwa [fg] at this
  exact⟨s*b+u,by rw[hs,hu];grind⟩
theorem sj(p:Int)(w:Nat)(t:List Int):∀(lines:List (List Int)) (ms v:List Int),ms.length=lines.length→(∀l∈lines,l.length=w)→v.length=w→(∀j,j<w→p ∣ dot ms (col lines j)-g v j)→(∀l∈lines,p ∣ dot l t)→p ∣ dot v t
 | [],ms,v,_,_,hv,h,_=>vU p v t λj hj=>by
  obtain⟨s,hs⟩:=h j (by lia)
  rw[show col ([]:List (List Int)) j=[] from rfl,En] at hs
  exact⟨-s,by rw[Int.mul_neg];lia⟩
 | l::lines,[],v,h,_,_,_,_=>by simp at h
 | l::lines,m::ms,v,hm,hl,hv,h,ht=>by
  have hl0:=hl l (by simp)
  have ih:=sj p w t lines ms (less m v l) (by simpa using hm) (λl' h'=>hl l' (by simp[h'])) (by simp[less,hv,hl0]) (λj hj=>by
   obtain⟨s,hs⟩:=h j hj
   rw[show col (l::lines) j=g l j::col lines j from rfl,bS] at hs
   rw[zm _ _ _ _ (by lia)]
   exact⟨s,by grind⟩) λl' h'=>ht l' (by simp[h'])
  rw[si _ _ _ _ (by lia)] at ih
  obtain⟨s,hs⟩:=ih
  obtain⟨u,hu⟩:=ht l (by simp)
  exact⟨s+m*u,by grind⟩
theorem EE{p:Int}{w:Nat}{a b:List Int}(ha:Rw p w a)(hb:Rw p w b)(h:∀j,j<w→g a j=g b j):a=b:=by
 refine List.ext_getElem (by rw[ha.len,hb.len]) λi h1 h2=>?_
 have:=h i (by rw[← ha.len];exact h1)
 rwa [tW a i h1,tW b i h2] at this
theorem fk(n:Nat):bB 0 n=(List.range n).map λ(i:Nat)=>(i:Int):=by simp[bB]
def cP(p:Int):Nat→List (List Int)
 | 0=>[[]]
 | n+1=>(cP p n).flatMap λs=>(bB 0 p.toNat).map λa=>s++[a]
theorem qb{n:Nat}{x:Int}:x∈bB 0 n↔0≤x∧x<n:=by
 rw[fk,List.mem_map]
 constructor
 ·rintro⟨i,hi,rfl⟩;have:=List.mem_range.mp hi;omega
 ·rintro⟨h0,h1⟩;exact⟨x.toNat,List.mem_range.mpr (by omega),by omega⟩
theorem tY(n:Nat):(bB 0 n).Nodup:=by
 rw[fk]
 unfold List.Nodup
 rw[List.pairwise_map]
 exact List.Pairwise.imp (λ{a b} h q=>h (by omega)) (List.nodup_range (n:=n))
theorem Rw.snoc{p:Int}{n:Nat}{r:List Int}{a:Int}(h:Rw p n r)(h0:0≤a)(h1:a<p):Rw p (n+1) (r++[a]) :=
 Rw.append h (k:=1) ⟨rfl,by simp;exact h0,by simp;exact h1⟩
theorem dI{p:Int}(hp:0<p):∀{n:Nat}{x:List Int},x∈cP p n↔Rw p n x
 | 0,x=>by
  simp only[cP,List.mem_singleton]
  constructor
  ·rintro rfl;exact⟨rfl,by simp,by simp⟩
  ·intro h;exact List.length_eq_zero_iff.mp h.1
 | n+1,x=>by
  simp only[cP,List.mem_flatMap,List.mem_map]
  constructor
  ·rintro⟨s,hs,a,ha,rfl⟩
   have ha:=qb.mp ha
   exact Rw.snoc ((dI hp).mp hs) ha.1 (by omega)
  ·intro h
   have hl:n<x.length:=by rw[h.1];omega
   have e:x=x.take n++[g x n]:=by
    have:=o9 x n hl
    rw[List.drop_of_length_le (by rw[h.1];omega)] at this
    exact this
   have gb:=h.g0 hp n
   refine⟨x.take n,(dI hp).mpr ⟨by rw[List.length_take,h.1];omega,λy hy=>h.2 y (List.mem_of_mem_take hy),λy hy=>h.3 y (List.mem_of_mem_take hy)⟩,g x n,qb.mpr ⟨gb.1,by omega⟩,e.symm⟩
theorem xq{p:Int}{n:Nat}{x:List Int}(hp:0<p)(h:x∈cP p n):x.length=n:=((dI hp).mp h).1
theorem nQ{p:Int}(hp:0<p):∀n,(cP p n).Nodup
 | 0=>by simp[cP]
 | n+1=>by
  unfold cP List.Nodup
  rw[List.pairwise_flatMap]
  refine⟨λs hs=>?_,?_⟩
  ·rw[List.pairwise_map]
   exact List.Pairwise.imp (λ{a b} h q=>h (by simpa using q)) (tY p.toNat)
  ·have key:∀l:List (List Int),l.Nodup→(∀s∈l,s.length=n)→List.Pairwise (λa₁ a₂=>∀x∈(bB 0 p.toNat).map λa=>a₁++[a],∀y∈(bB 0 p.toNat).map λa=>a₂++[a],x≠y) l:=by
    intro l hn hl
    induction l with
    | nil=>exact .nil
    | cons s l ih =>
     have hn':=List.nodup_cons.mp hn
     refine List.Pairwise.cons (λs' hs' x hx y hy=>?_) (ih hn'.2 λs hs=>hl s (by simp[hs]))
     obtain⟨a,_,rfl⟩:=List.mem_map.mp hx
     obtain⟨b,_,rfl⟩:=List.mem_map.mp hy
     intro q
     have:=(List.append_inj q (by rw[hl s (by simp),hl s' (by simp[hs'])])).1
     exact hn'.1 (this ▸ hs')
   exact key _ (nQ hp n) λs hs=>xq hp hs
theorem mL(p:Int):∀n,(cP p n).length=p.toNat ^ n
 | 0=>rfl
 | n+1=>by
  have:∀l:List (List Int),(l.flatMap λs=>(bB 0 p.toNat).map λa=>s++[a]).length=l.length*p.toNat:=by
   intro l
   induction l with
   | nil=>simp
   | cons s l ih=>rw[List.flatMap_cons,List.length_append,ih,List.length_map,fk,List.length_map,List.length_range,List.length_cons,Nat.succ_mul];omega
  rw[cP,this,mL p n,Nat.pow_succ]
theorem sk{p:Int}{w:Nat}{x t:List Int}(hp:0<p)(n:Int)(hx:Rw p w x)(ht:t.length=w):sub p (-n) (sub p n x t) t=x:=by
 have h1:=pT (p:=p) (L:=w) hp n hx.1 ht
 refine EE (pT hp (-n) h1.1 ht) hx λj hj=>?_
 rw[Ao p (-n) _ _ _ (by rw[h1.1,ht]),Ao p n _ _ _ (by rw[hx.1,ht])]
 have b:=hx.g0 hp j
 have e:(g x j-n*g t j)%p- -n*g t j=(g x j-n*g t j)%p+n*g t j:=by grind
 rw[e,Int.emod_add_emod,show g x j-n*g t j+n*g t j=g x j by omega,Int.emod_eq_of_lt b.1 b.2]
theorem moved{p:Int}{w:Nat}(hp:0<p)(n:Int){t:List Int}(ht:t.length=w):((cP p w).map λx=>sub p n x t).Perm (cP p w):=by
 refine (List.perm_ext_iff_of_nodup ?_ (nQ hp w)).mpr λx=>?_
 ·unfold List.Nodup
  rw[List.pairwise_map]
  have key:∀l:List (List Int),l.Nodup→(∀s∈l,Rw p w s)→List.Pairwise (λa b=>sub p n a t≠sub p n b t) l:=by
   intro l hn hl
   induction l with
   | nil=>exact .nil
   | cons s l ih =>
    have hn':=List.nodup_cons.mp hn
    refine List.Pairwise.cons (λs' hs' q=>?_) (ih hn'.2 λs hs=>hl s (by simp[hs]))
    have:s=s':=by rw[← sk hp n (hl s (by simp)) ht,q,sk hp n (hl s' (by simp[hs'])) ht]
    exact hn'.1 (this ▸ hs')
  exact key _ (nQ hp w) λs hs=>(dI hp).mp hs
 ·rw[List.mem_map,dI hp]
  constructor
  ·rintro⟨y,hy,rfl⟩;exact pT hp n ((dI hp).mp hy).1 ht
  ·intro hx
   refine⟨sub p (-n) x t,(dI hp).mpr (pT hp (-n) hx.1 ht),?_⟩
   have:=sk hp (-n) hx ht
   rw[Int.neg_neg] at this
   exact this
def cnt(p:Int)(w:Nat)(P:List Int→Bool):Nat:=(cP p w).countP P
theorem uH{p:Int}{w:Nat}(hp:0<p)(n:Int){t:List Int}(ht:t.length=w)(P Q:List Int→Bool)(h:∀x,Rw p w x→(P (sub p n x t)=true↔Q x=true)):cnt p w P=cnt p w Q:=by
 unfold cnt
 rw[← (moved hp n ht).countP_eq P,List.countP_map]
 exact List.countP_congr λx hx=>h x ((dI hp).mp hx)
theorem gi{p:Int}{w:Nat}(hp:0<p){P Q:List Int→Bool}(h:∀x,Rw p w x→(P x=true↔Q x=true)):cnt p w P=cnt p w Q :=
 List.countP_congr λx hx=>h x ((dI hp).mp hx)
theorem pW(k:Nat)(f:Nat→Nat)(c:Nat)(h:∀i,i<k→f i=c):((List.range k).map f).sum=k*c:=by
 induction k with
 | zero=>simp
 | succ k ih=>rw[List.range_succ,List.map_append,List.sum_append,ih λi hi=>h i (by omega)];simp[h k (by omega)];rw[Nat.succ_mul]
theorem pd{α:Type}(P:α→Bool)(v:α→Int)(m:Nat):∀l:List α,(∀x∈l,0≤v x∧v x<m)→l.countP P=(((List.range m).map λ(i:Nat)=>l.countP λx=>P x && decide (v x=(i:Int))).sum)
 | [],_=>by rw[pW m _ 0 λ_ _=>List.countP_nil];simp
 | x::l,h=>by
  have ih:=pd P v m l λy hy=>h y (by simp[hy])
  have hx:=h x (by simp)
  have one:∀(k:Nat) (f:Nat→Nat) (i:Nat),i<k→(((List.range k).map λj=>f j+if j=i then 1 else 0).sum)=((List.range k).map f).sum+1:=by
   intro k f i hi
   induction k with
   | zero=>omega
   | succ k ihk =>
    rw[List.range_succ,List.map_append,List.map_append,List.sum_append,List.sum_append]
    by_cases e:i=k
    ·subst e
     have:((List.range i).map λj=>f j+if j=i then 1 else 0)=(List.range i).map f:=List.map_congr_left λj hj=>by
      have:=List.mem_range.mp hj
      rw[if_neg (by omega)];rfl
     rw[this];simp;omega
    ·rw[ihk (by omega)];simp[show k≠i by omega];omega
  rw[List.countP_cons,ih]
  by_cases hP:P x=true
  ·rw[if_pos hP,← one m (λ(i:Nat)=>l.countP λx=>P x && decide (v x=(i:Int))) (v x).toNat (by omega)]
   congr 1
   refine List.map_congr_left λj hj=>?_
   rw[List.countP_cons]
   congr 1
   by_cases e:j=(v x).toNat
   ·rw[if_pos e,if_pos (by simp[hP];omega)]
   ·rw[if_neg e,if_neg (by simp[hP];omega)]
  ·rw[if_neg hP,Nat.add_zero]
   congr 1
   refine List.map_congr_left λj hj=>?_
   rw[List.countP_cons,if_neg (by simp[hP]),Nat.add_zero]
def sq(p:Int)(S:List (List Int))(x:List Int):Bool:=S.all λr=>decide (p ∣ dot r x)
theorem eM{p:Int}{S:List (List Int)}{x:List Int}:sq p S x=true↔∀r∈S,p ∣ dot r x:=by unfold sq;simp
theorem Aw{p n:Int}{x t r:List Int}(hl:x.length=t.length):p ∣ dot r (sub p n x t)-(dot r x-n*dot r t):=by
 obtain⟨k,hk⟩:=mK p n x t r hl
 rw[hk]
 exact⟨k,by grind⟩
theorem EF{p:Int}{w:Nat}(hp:0<p){r t:List Int}(ht:t.length=w)(hr:p ∣ dot r t-1)(B:List Int→Bool)(hB:∀n x,Rw p w x→(B (sub p n x t)=B x))(a b:Int) :
  cnt p w (λx=>B x && decide (p ∣ dot r x-a))=cnt p w (λx=>B x && decide (p ∣ dot r x-b)):=by
 refine uH hp (b-a) ht _ _ λx hx=>?_
 simp only[Bool.and_eq_true,decide_eq_true_eq,hB _ _ hx]
 have d:=Aw (p:=p) (n:=b-a) (r:=r) (x:=x) (t:=t) (by rw[hx.1,ht])
 obtain⟨u,hu⟩:=d
 obtain⟨v,hv⟩:=hr
 have e:dot r (sub p (b-a) x t)-a=(dot r x-b)+p*(u-(b-a)*v):=by grind
 rw[e]
 exact and_congr_right λ_=>Int.dvd_add_left (Int.dvd_mul_right _ _)
theorem EG{p n:Int}{w:Nat}{S:List (List Int)}{x t:List Int}(ht:t.length=w)(hs:∀q∈S,p ∣ dot q t)(hx:Rw p w x):sq p S (sub p n x t)=sq p S x:=by
 rw[Bool.eq_iff_iff,eM,eM]
 refine forall_congr' λq=>imp_congr_right λhq=>?_
 have d:=Aw (p:=p) (n:=n) (r:=q) (x:=x) (t:=t) (by rw[hx.1,ht])
 obtain⟨u,hu⟩:=d
 obtain⟨v,hv⟩:=hs q hq
 have e:dot q (sub p n x t)=dot q x+p*(u-n*v):=by grind
 rw[e]
 exact Int.dvd_add_left (Int.dvd_mul_right _ _)
theorem Ax{p:Int}{w:Nat}(hp:0<p)(B:List Int→Bool)(r:List Int):cnt p w B=(((List.range p.toNat).map λ(i:Nat)=>cnt p w λx=>B x && decide (p ∣ dot r x-(i:Int))).sum):=by
 unfold cnt
 rw[pd B (λx=>dot r x%p) p.toNat (cP p w) λx _=>⟨Int.emod_nonneg _ (by omega),by have:=Int.emod_lt_of_pos (dot r x) hp;omega⟩]
 congr 1
 refine List.map_congr_left λi hi=>?_
 have hi:=List.mem_range.mp hi
 refine List.countP_congr λx _=>?_
 simp only[Bool.and_eq_true,decide_eq_true_eq]
 refine and_congr_right λ_=>?_
 constructor
 ·intro h
  exact⟨dot r x / p,by have:=Int.emod_def (dot r x) p;omega⟩
 ·rintro⟨k,hk⟩
  have:dot r x=(i:Int)+p*k:=by omega
  rw[this,Int.add_mul_emod_self_left,Int.emod_eq_of_lt (by omega) (by omega)]
theorem vV{p:Int}{w:Nat}(hp:0<p){S:List (List Int)}{r t:List Int}(ht:t.length=w)(hs:∀q∈S,p ∣ dot q t)(hr:p ∣ dot r t-1):cnt p w (sq p S)=p.toNat*cnt p w (sq p (r::S)):=by
 rw[Ax hp (sq p S) r,pW p.toNat _ (cnt p w (sq p (r::S))) λi hi=>?_]
 rw[EF hp ht hr (sq p S) (λn x hx=>EG ht hs hx) (i:Int) 0]
 refine gi hp λx _=>?_
 rw[eM,Bool.and_eq_true,eM,decide_eq_true_eq,Int.sub_zero,List.forall_mem_cons]
 exact And.comm
theorem Ay{p:Int}{w:Nat}(hp:0<p){S:List (List Int)}{r:List Int}(h:∀x,Rw p w x→(∀q∈S,p ∣ dot q x)→p ∣ dot r x):cnt p w (sq p (r::S))=cnt p w (sq p S):=by
 refine gi hp λx hx=>?_
 rw[eM,eM,List.forall_mem_cons]
 exact⟨λq=>q.2,λq=>⟨h x hx q,q⟩⟩
theorem cnt_none(p:Int)(w:Nat):cnt p w (sq p [])=p.toNat ^ w:=by
 have e:sq p []=λ_=>true:=by funext x;rfl
 unfold cnt
 rw[e,List.countP_true,mL]
theorem Az{p:Int}{w:Nat}(hp:0<p):∀ls:List Ld,(∀q∈ls,q.1<w∧q.2.length=w∧p ∣ g q.2 q.1-1)→ls.Pairwise (λa b=>p ∣ g b.2 a.1)→cnt p w (sq p (ls.map (·.2)))*p.toNat ^ ls.length=p.toNat ^ w
 | [],_,_=>by rw[List.map_nil,cnt_none];simp
 | q::ls,h,hd=>by
  have ih:=Az hp ls (λq' hq=>h q' (by simp[hq])) (List.pairwise_cons.mp hd).2
  have hq:=h q (by simp)
  have:=vV (p:=p) (w:=w) hp (S:=ls.map (·.2)) (r:=q.2) (t:=eu w q.1) (zl _ _) (λr hr=>by
   obtain⟨b,hb,rfl⟩:=List.mem_map.mp hr
   rw[iG,gZ _ _ _ hq.1]
   exact (List.pairwise_cons.mp hd).1 b hb) (by rw[iG,gZ _ _ _ hq.1];exact hq.2.2)
  rw[this] at ih
  rw[List.map_cons,List.length_cons,Nat.pow_succ,← ih]
  generalize cnt p w _=c
  generalize p.toNat=n
  grind
theorem xr{p:Int}{w:Nat}{lines:List (List Int)}{ws:List Int}(hP:iS p)(hl:∀l∈lines,Rw p w l)(hw:Rw p w ws)(hn:lines.length≤100)(hw2:w≤100) :
  (∃ms,Rw p lines.length ms∧∀j,j<w→p ∣ dot ms (col lines j)-g ws j)∨∃tv,Rw p w tv∧(∀l∈lines,p ∣ dot l tv)∧p ∣ dot ws tv-1:=by
 have h:=vT hP hl hw hn hw2 (.val (.lst (lines.map tu))) [] λl=>rfl
 generalize kM (starts 11 [.val (.int p),.val (.int w),.val (.lst (lines.map tu)),.val (tu ws)]) []=r at h
 cases h with
 | turn c tv h h1 h2=>exact .inr ⟨tv,h,h1,h2⟩
 | sum c ms h h1=>exact .inl ⟨ms,h,h1⟩
def cols(w:Nat)(lines:List (List Int)):List (List Int):=(List.range w).map λj=>col lines j
theorem sm(lines:List (List Int))(l:List Int)(j:Nat):col (lines++[l]) j=col lines j++[g l j]:=by simp[col]
theorem vW(lines:List (List Int))(j:Nat):(col lines j).length=lines.length:=by simp[col]
theorem pe(c r:List Int)(a b:Int)(h:c.length=r.length):dot (c++[a]) (r++[b])=dot c r+a*b:=by
 rw[sd _ _ _ _ h];simp[dot]
theorem G0(p:Int)(S:List (List Int))(r:List Int):sq p (S++[r])=sq p (r::S):=by
 funext x
 rw[Bool.eq_iff_iff,eM,eM]
 simp only[List.mem_append,List.mem_singleton,List.mem_cons,List.not_mem_nil,or_false]
 exact⟨λh q hq=>h q (hq.symm),λh q hq=>h q (hq.symm)⟩
theorem AA{α:Type}(P:α→Bool):∀l:List α,(l.map λx=>if P x=true then 1 else 0).sum=l.countP P
 | []=>rfl
 | x::l=>by
  rw[List.map_cons,List.sum_cons,AA P l,List.countP_cons]
  omega
theorem JZ(c:Int)(l:List Int)(j:Nat):g (l.map λy=>c*y) j=c*g l j:=by
 unfold g
 rw[List.getD_eq_getElem?_getD,List.getD_eq_getElem?_getD,List.getElem?_map]
 cases l[j]? with
 | none=>simp
 | some y=>simp
theorem EH(c:Int)(u v:List Int):dot (u.map λy=>c*y) v=c*dot u v:=by
 induction u generalizing v with
 | nil=>simp[dot]
 | cons a u ih=>cases v with
  | nil=>simp[dot]
  | cons b v=>simp only[List.map_cons,dot,ih];grind
theorem EI{p:Int}{n:Nat}(hp:0<p)(P:List Int→Bool)(Q:List Int→Bool)(h:∀s a,Rw p n s→0≤a→a<p→(P (s++[a])=true↔a=0∧Q s=true)):cnt p (n+1) P=cnt p n Q:=by
 unfold cnt
 rw[cP,List.countP_flatMap,← AA Q]
 congr 1
 refine List.map_congr_left λs hs=>?_
 have hs:=(dI hp).mp hs
 rw[Function.comp,List.countP_map]
 have hz:bB 0 p.toNat=0::bB 1 (p.toNat-1):=by
  obtain⟨m,hm⟩:∃m,p.toNat=m+1:=⟨p.toNat-1,by omega⟩
  rw[hm,bB,List.range_succ_eq_map,List.map_cons,List.map_map,bB,Nat.add_sub_cancel]
  congr 1
  refine List.map_congr_left λk _=>?_
  simp only[Function.comp];omega
 rw[hz,List.countP_cons]
 have h0:List.countP (P ∘ λa=>s++[a]) (bB 1 (p.toNat-1))=0:=by
  rw[List.countP_eq_zero]
  intro a ha
  have ha:=ni.mp ha
  intro q
  have:=((h s a hs (by omega) (by omega)).mp q).1
  omega
 rw[h0,Nat.zero_add,Function.comp]
 by_cases hq:Q s=true
 ·rw[if_pos hq,if_pos ((h s 0 hs (by omega) (by omega)).mpr ⟨rfl,hq⟩)]
 ·rw[if_neg hq,if_neg λq=>hq ((h s 0 hs (by omega) (by omega)).mp q).2]
theorem zo{p:Int}{w:Nat}(hP:iS p)(hw2:w≤100):∀(n:Nat) (lines:List (List Int)),lines.length=n→n≤100→(∀l∈lines,Rw p w l) →
  ∃r,cnt p w (sq p lines)*p.toNat ^ r=p.toNat ^ w∧cnt p n (sq p (cols w lines))*p.toNat ^ r=p.toNat ^ n
 | 0,lines,hl,_,_=>by
  have e:lines=[]:=List.length_eq_zero_iff.mp hl
  subst e
  have hp:=hP.pos
  refine⟨0,by rw[cnt_none];simp,?_⟩
  rw[Nat.pow_zero,Nat.mul_one,show (1:Nat)=cnt p 0 (sq p []) by rw[cnt_none,Nat.pow_zero]]
  refine gi (by omega) λx hx=>?_
  have:x=[]:=List.length_eq_zero_iff.mp hx.1
  subst this
  rw[eM,eM]
  refine⟨λ_ r hr=>by simp at hr,λ_ r hr=>?_⟩
  obtain⟨j,_,rfl⟩:=List.mem_map.mp hr
  simp[col,dot]
 | n+1,lines,hl,hn,hR=>by
  have hp:=hP.pos
  obtain⟨ls,l,rfl⟩:∃ls l,lines=ls++[l]:=⟨lines.dropLast,lines.getLast (by intro e;subst e;simp at hl),(List.dropLast_concat_getLast _).symm⟩
  have hln:ls.length=n:=by simp at hl;exact hl
  obtain⟨r,h1,h2⟩:=zo hP hw2 n ls hln (by omega) λq hq=>hR q (by simp[hq])
  have hRl:=hR l (by simp)
  have hRs:∀q∈ls,Rw p w q:=λq hq=>hR q (by simp[hq])
  have sqc:∀s a,s.length=n→((sq p (cols w (ls++[l])) (s++[a])=true)↔∀j,j<w→p ∣ dot (col ls j) s+g l j*a):=λs a hs=>by
   rw[eM]
   constructor
   ·intro h j hj
    have:=h _ (List.mem_map.mpr ⟨j,List.mem_range.mpr hj,rfl⟩)
    rw[sm,pe _ _ _ _ (by rw[vW,hln,hs])] at this
    exact this
   ·intro h q hq
    obtain⟨j,hj,rfl⟩:=List.mem_map.mp hq
    rw[sm,pe _ _ _ _ (by rw[vW,hln,hs])]
    exact h j (List.mem_range.mp hj)
  have last:cnt p (n+1) (sq p (eu (n+1) n::cols w (ls++[l])))=cnt p n (sq p (cols w ls)):=by
   refine EI (by omega) _ _ λs a hs h0 h1=>?_
   have e:(sq p (eu (n+1) n::cols w (ls++[l])) (s++[a])=true)↔p ∣ a∧sq p (cols w (ls++[l])) (s++[a])=true:=by
    rw[eM,eM,List.forall_mem_cons,gZ _ _ _ (by omega)]
    have:g (s++[a]) n=a:=by rw[g,List.getD_eq_getElem?_getD,List.getElem?_append_right (by rw[hs.1];omega),hs.1];simp
    rw[this]
   rw[e,sqc s a hs.1,eM]
   constructor
   ·rintro⟨ha,h⟩
    obtain⟨k,hk⟩:=ha
    have a0:a=0:=by
     rcases Int.lt_trichotomy k 0 with z|z|z
     ·have:p*k≤p*(-1):=Int.mul_le_mul_of_nonneg_left (by omega) (by omega)
      omega
     ·subst z;omega
     ·have:p*1≤p*k:=Int.mul_le_mul_of_nonneg_left (by omega) (by omega)
      omega
    subst a0
    refine⟨rfl,λq hq=>?_⟩
    obtain⟨j,hj,rfl⟩:=List.mem_map.mp hq
    have:=h j (List.mem_range.mp hj)
    rwa [Int.mul_zero,Int.add_zero] at this
   ·rintro⟨rfl,h⟩
    refine⟨Int.dvd_zero _,λj hj=>?_⟩
    rw[Int.mul_zero,Int.add_zero]
    exact h _ (List.mem_map.mpr ⟨j,List.mem_range.mpr hj,rfl⟩)
  rw[G0]
  rcases xr hP hRs hRl (by omega) hw2 with ⟨ms,hm,hs⟩|⟨tv,ht,hs,h1t⟩
  ·refine⟨r,?_,?_⟩
   ·rw[Ay (by omega) λx hx hq=>sj p w x ls ms l (by rw[hm.1]) (λq hq=>(hRs q hq).1) hRl.1 hs hq]
    exact h1
   ·have:=vV (p:=p) (w:=n+1) (by omega) (S:=cols w (ls++[l])) (r:=eu (n+1) n) (t:=(ms.map λx=>-x)++[1]) (by simp[hm.1,hln]) (λq hq=>by
     obtain⟨j,hj,rfl⟩:=List.mem_map.mp hq
     have hj:=List.mem_range.mp hj
     rw[sm,pe _ _ _ _ (by rw[vW,List.length_map,hm.1]),iG,vR]
     obtain⟨k,hk⟩:=hs j hj
     exact⟨-k,by grind⟩) (by
     rw[gZ _ _ _ (by omega)]
     have:g ((ms.map λx=>-x)++[1]) n=1:=by rw[g,List.getD_eq_getElem?_getD,List.getElem?_append_right (by simp[hm.1,hln]),List.length_map,hm.1,hln];simp
     rw[this];exact⟨0,by omega⟩)
    rw[this,last,Nat.pow_succ,← h2]
    generalize cnt p n _=c
    generalize p.toNat=m
    grind
  ·refine⟨r+1,?_,?_⟩
   ·rw[← h1,vV (by omega) ht.1 hs h1t]
    generalize cnt p w _=c
    generalize p.toNat=m
    grind
   ·have:cnt p (n+1) (sq p (cols w (ls++[l])))=cnt p n (sq p (cols w ls)):=by
     rw[← last]
     refine (Ay (by omega) λx hx hq=>?_).symm
     rw[gZ _ _ _ (by omega)]
     have hl:n<x.length:=by rw[hx.1];omega
     have e:x=x.take n++[g x n]:=by
      have:=o9 x n hl
      rw[List.drop_of_length_le (by rw[hx.1];omega)] at this
      exact this
     have hk:=(sqc (x.take n) (g x n) (by rw[List.length_take,hx.1];omega)).mp (by rw[← e,eM];exact hq)
     have comb:=sj p w tv ls (x.take n) (l.map λy=>-(g x n)*y) (by rw[List.length_take,hx.1,hln];omega) (λq hq=>(hRs q hq).1) (by rw[List.length_map];exact hRl.1) (λj hj=>by
      have:=hk j hj
      rw[iG]
      rw[JZ]
      obtain⟨k,hk⟩:=this
      exact⟨k,by grind⟩) hs
     rw[EH] at comb
     obtain⟨k,hk⟩:=comb
     obtain⟨m,hm⟩:=h1t
     exact⟨-k-g x n*m,by grind⟩
    rw[this,Nat.pow_succ p.toNat n,← h2]
    generalize cnt p n _=c
    generalize p.toNat=m
    grind
theorem xt{p:Int}{w c r r':Nat}(hp:2≤p)(h:c*p.toNat ^ r=p.toNat ^ w)(h':c*p.toNat ^ r'=p.toNat ^ w):r=r':=by
 have hc:0<c:=by
  rcases Nat.eq_zero_or_pos c with z|z
  ·subst z
   have:0<p.toNat ^ w:=Nat.pow_pos (by omega)
   omega
  ·exact z
 exact (Nat.pow_right_inj (show 1<p.toNat by omega)).mp (Nat.eq_of_mul_eq_mul_left hc (h.trans h'.symm))
theorem jZ.count{p:Int}{m:Nat}{ls:List Ld}{ns rows:List (List Int)}(hp:2≤p)(E:jZ p m m ls ns rows):cnt p m (sq p rows)*p.toNat ^ ls.length=p.toNat ^ m:=by
 rw[← Az (w:=m) (by omega) ls (λq hq=>⟨E.key q hq,(E.rl q hq).1,⟨0,by rw[E.one q hq];omega⟩⟩) ?_]
 ·congr 1
  refine gi (by omega) λx hx=>?_
  rw[eM,eM]
  have:=E.eq x
  have e1:(∀r∈rows,p ∣ dot r x)↔∀r∈rows,Z p x r:=forall_congr' λr=>imp_congr_right λ_=>by rw[Z,iG]
  rw[e1,this]
  constructor
  ·rintro⟨h,_⟩ r hr
   obtain⟨q,hq,rfl⟩:=List.mem_map.mp hr
   rw[iG];exact h q hq
  ·intro h
   refine⟨λq hq=>?_,λr hr=>?_⟩
   ·have:=h q.2 (List.mem_map.mpr ⟨q,hq,rfl⟩)
    rw[iG] at this;exact this
   ·have:dot x r=0:=o8 _ _ λi=>by
     by_cases hi:i<m
     ·rw[E.no r hr i hi,Int.mul_zero]
     ·have:g r i=0:=by rw[g,List.getD_eq_getElem?_getD,List.getElem?_eq_none (by rw[(E.rn r hr).1];omega)];rfl
      rw[this,Int.mul_zero]
    rw[Z,this];exact Int.dvd_zero _
 ·have key:∀l:List Ld,(∀q∈l,q∈ls)→(l.map (·.1)).Nodup→l.Pairwise (λa b=>p ∣ g b.2 a.1):=by
   intro l hl hn
   induction l with
   | nil=>exact .nil
   | cons q l ih =>
    have hn':=List.nodup_cons.mp (by simpa using hn:(q.1::l.map (·.1)).Nodup)
    refine List.Pairwise.cons (λb hb=>?_) (ih (λq' hq=>hl q' (by simp[hq])) hn'.2)
    have hne:q.1≠b.1:=λe=>hn'.1 (e ▸ List.mem_map.mpr ⟨b,hb,rfl⟩)
    rw[E.off b (hl b (by simp[hb])) q (hl q (by simp)) hne]
    exact Int.dvd_zero _
  exact key ls (λ_ h=>h) E.nd
theorem zp{p:Int}{w r:Nat}{lines:List (List Int)}{ls:List Ld}{ns:List (List Int)}(hP:iS p)(hw2:w≤100)(hn:lines.length≤100)(hR:∀l∈lines,Rw p w l)(h:cnt p w (sq p lines)*p.toNat ^ r=p.toNat ^ w)(E:jZ p lines.length lines.length ls ns (cols w lines)):ls.length=r:=by
 have hp:=hP.pos
 obtain⟨r',h1,h2⟩:=zo hP hw2 lines.length lines rfl hn hR
 have e1:=xt hp.1 h h1
 have e2:=xt hp.1 (E.count hp.1) h2
 omega
end Fw.E
namespace Fw.F
open PySem Fw Fw.H Fw.E
noncomputable abbrev Rows := List (Int × List Int)
def rt(q:Int×List Int):T:=.tup [.int q.1,tu q.2]
def tb(p:Int)(w:Nat)(rows:Rows):T:=.tup [.int p,.int w,.tup (rows.map rt)]
structure Tbl(p:Int)(w:Nat)(rows:Rows):Prop where
 pr:iS p
 w0:0<w
 w1:w≤12
 n:rows.length≤24
 li:∀q∈rows,Rw p w q.2
def kK:DS :=
 (aH (aj aW (dUn mZ (aT (pE (ae 1) (ae 2)) [none,none] (cR [0,1]) (dC (.bl true)) (aj aQ (ae 0) (ae 1)))) (ae 0)))
def b3:FN:=fnV 3 kK
theorem AB(xs ys:List Int):((xs.zip ys).map λq=>q.1*q.2).sum=dot xs ys:=by
 induction xs generalizing ys with
 | nil=>rfl
 | cons x xs ih =>
  cases ys with
  | nil=>rfl
  | cons y ys=>simp[dot,ih]
theorem xu(p:Int)(xs ys:List Int)(x y:SV)(μ:ah)(hp:0<p)(hx:∀a∈xs,0≤a∧a<1000)(hl:xs.length≤1000)(h1:(rd μ x).bind bg=some (xs.map T.int))(h2:(rd μ y).bind bg=some (ys.map T.int)) :
  b3 [.val (.int p),x,y] μ=.ok (.val (.int (dot xs ys%p))) μ:=by
 unfold b3 kK
 simp[h1,h2]
 rw[j6,bz _ (λq:Int×Int=>.int (q.1*q.2)) (by simp)]
 ·rw[R.cY,R.aP,if_pos (by simp[szL];lia)]
  simp only[R.aP,i_,nZ]
  rw[lN,AB]
  simp[hp]
 ·rintro⟨a,b⟩ hq
  have hm:=hx a (List.of_mem_zip hq).1
  refine⟨_,rfl,?_⟩
  have:aQ (.int a) (.int b)=some (.int (a*b)):=iQ _ _ (by lia) (by lia)
  simp[this]
def parts(p:Int)(rows:Rows)(fs:List Int):List Int:=rows.map λq=>dot q.2 fs%p
def hG(rows:Rows)(i:Nat):Int×List Int:=rows.getD i (0,[])
def rowsOf(rows:Rows)(cE:List Int):List Nat:=(List.range rows.length).filter λi=>decide ((hG rows i).1∈cE)
theorem enum_rows(rows:Rows):iL 0 (rows.map rt)=(List.range rows.length).map λ(i:Nat)=>.tup [.int (i:Int),rt (hG rows i)]:=by
 apply List.ext_getElem?
 intro i
 rw[wQ,List.getElem?_map,List.getElem?_map]
 by_cases h:i<rows.length
 ·rw[List.getElem?_range h,List.getElem?_eq_getElem h]
  simp[hG,h]
 ·rw[List.getElem?_eq_none (by lia),List.getElem?_eq_none (by simp;lia)]
  rfl
theorem J0(μ:ah)(t:T):gc μ.length (.cel μ.length) (μ++[(true,t)])=.ok (.cel μ.length) (μ++[(true,t)]):=by
 unfold gc
 simp
theorem k_(μ:ah)(t:T):ice μ.length (.cel μ.length) (μ++[(true,t)])=.ok (.val t) μ:=by
 unfold ice
 rw[va (b:=true) (t:=t) (by simp),R.aP]
 simp
def nums(is:List Nat):List Int:=is.map λ(i:Nat)=>(i:Int)
theorem su(is:List Nat):(is.map λ(i:Nat)=>T.int (i:Int))=(nums is).map T.int:=by simp[nums]
end Fw.F
namespace Fw
open PySem Fw Fw.H Fw.E
theorem G1:fEq (.lst []) (.lst [])=some (.bl true):=qL [] []
theorem G2:fNe (.lst []) (.lst [])=some (.bl false):=qM [] []
theorem J1(x:SV)(μ:ah):R.ok x (μ.take μ.length)=R.ok x μ:=by rw[List.take_length]
def stw:=And.intro @js <| And.intro @kq <| And.intro @uZ <| And.intro @yj <| And.intro @Di <| And.intro @FY <| And.intro @qQ <| And.intro @Gv <| And.intro @Bu <| And.intro @p6 <| And.intro @rh <| And.intro @mF <| And.intro @qI <| And.intro @qG <| And.intro @iO <| And.intro @eN <| And.intro @p5 <| And.intro @ij <| And.intro @br <| And.intro @eE <| And.intro @FG <| And.intro @FF <| And.intro @IY <| And.intro @FH <| And.intro @FI <| And.intro @uX <| And.intro @km <| And.intro @zR <| And.intro @Dj <| And.intro @zT <| And.intro @uh <| And.intro @ui <| And.intro @uY <| And.intro @u3 <| And.intro @qR <| And.intro @yk <| And.intro @F_ <| And.intro @DB <| And.intro @pJ <| And.intro @Ga <| And.intro @Dk <| And.intro @Dl <| And.intro @lJ <| And.intro @dS <| And.intro @DE <| And.intro @lF <| And.intro @hU <| And.intro @m9 <| And.intro @kr <| And.intro @uu <| And.intro @cG <| And.intro @cF <| And.intro @Bc <| And.intro @R.cK <| And.intro @i_ <| And.intro @jN <| And.intro @Gs <| And.intro @nZ <| And.intro @n_ <| And.intro @qH <| And.intro @ja <| And.intro @pD <| And.intro @mC <| And.intro @qE <| And.intro @mD <| And.intro @RS.jM <| And.intro @RS.Jc <| And.intro @oj <| And.intro @Gb <| And.intro @u4 <| And.intro @zZ <| And.intro @Be <| And.intro @qN <| And.intro @ye <| And.intro @iR <| And.intro @u0 <| And.intro @lH <| And.intro @Df <| And.intro @lG <| And.intro @oh <| And.intro @Dd <| And.intro @wy <| And.intro @C8 <| And.intro @fu <| And.intro @wz <| And.intro @C9 <| And.intro @iQ <| And.intro @h_ <| And.intro @FJ <| And.intro @FK <| And.intro @og <| And.intro @FL <| And.intro @FT <| And.intro @zQ <| And.intro @FU <| And.intro @FV <| And.intro @qL <| And.intro @qM <| And.intro @G1 <| And.intro @G2 <| And.intro @J1 <| And.intro @Bs <| And.intro @DD <| And.intro @Gr <| And.intro @yg <| And.intro @qP <| And.intro @DF <| And.intro @R.aY <| And.intro @R.aP <| And.intro @R.cY <| And.intro @wO <| And.intro @z_ <| @Gm
def stc:=And.intro @Option.bind_some.{0,0} <| And.intro @Option.map_some.{0,0} <| And.intro @List.map_cons.{0,0} <| And.intro @List.map_nil.{0,0} <| And.intro @List.length_cons.{0} <| And.intro @List.length_nil.{0} <| And.intro @List.cons_append.{0} <| And.intro @List.nil_append.{0} <| And.intro @List.replicate_succ.{0} <| And.intro @List.replicate_zero.{0} <| And.intro @List.set_cons_succ.{0} <| And.intro @List.set_cons_zero.{0} <| And.intro @List.getElem?_cons_zero.{0} <| And.intro @List.getElem?_cons_succ.{0} <| And.intro @List.take_zero.{0} <| And.intro @List.take_nil.{0} <| And.intro @beq_self_eq_true.{0} <| And.intro @if_false.{1} <| And.intro @if_true.{1} <| And.intro @Bool.false_eq_true <| And.intro @Bool.not_true <| @Bool.not_false
end Fw
local macro_rules
  | `(tactic| simp?! only [$ls,*]) => `(tactic| simp (disch := first | decide | omega | assumption) only [Fw.stw, Fw.stc, Nat.reduceAdd, Nat.reduceSub, $ls,*])
namespace Fw
open PySem Fw Fw.H Fw.E
end Fw
local macro_rules
 | `(tactic| simp! only [$ls,*]) => do
  let mut xs:Array (Lean.TSyntax `Lean.Parser.Tactic.simpLemma):=#[]
  for n in "Kb Kc Ke Mt Kf Mu Kg Kh MY JK GW HC Ki Kj Kk Kl Mv HD HE JL Mw JM JN Mx Km JO HF HG E5 HH HI Kn My Ko Kp Kq Kr JP JQ JR Di qQ Gv Bu p6 rh qI FH Dj zT uh ui uY qR yk F_ DB pJ dS DE hU m9 kr uu Bc jN Gs qH pD RS.Jc oj Gb u4 zZ Be qN ye iR u0 lH Df lG oh Dd wy C8 fu wz C9 iQ h_ FJ FK og FL FT zQ FU FV qL qM G1 G2 J1 Bs DD Gr yg qP DF wO z_ Gm".splitOn " " do xs := xs.push (← `(Lean.Parser.Tactic.simpLemma| $(Lean.mkIdent (`Fw ++ n.toName)):term))
  `(tactic| simp (disch := first | decide | omega | assumption) only [$(xs),*, Fw.stc, Nat.reduceAdd, Nat.reduceSub, $ls,*])
local macro_rules
 | `(tactic| dsimp! only [$ls,*]) => do
  let mut xs:Array (Lean.TSyntax `Lean.Parser.Tactic.simpLemma):=#[]
  for n in "HD HE Kh MY Mw Km Mx js kq uZ yj Di FY qQ Gv Bu p6 rh mF qI qG iO ij br eE FG FF IY FH FI uX km zR Dj zT uh ui uY u3 qR yk F_ DB pJ Ga Dk Dl lJ dS DE lF hU m9 kr uu Bc R.cK jN Gs nZ n_ qH pD qE mD RS.jM RS.Jc oj Gb u4 zZ Be qN ye iR u0 lH Df lG oh Dd wy C8 fu wz C9 iQ h_ FJ FK og FL FT zQ FU FV qL qM G1 G2 J1 Bs DD Gr yg qP DF R.aY R.aP R.cY wO z_ Gm".splitOn " " do xs := xs.push (← `(Lean.Parser.Tactic.simpLemma| $(Lean.mkIdent (`Fw ++ n.toName)):term))
  `(tactic| simp (disch := first | decide | omega | assumption) only [$(xs),*, Fw.stc, Nat.reduceAdd, Nat.reduceSub, $ls,*])
namespace Fw.F
open PySem Fw Fw.H Fw.E
def ic:FN:=fnK 11 E.kM
def sx:DS :=
 (aH (aT (uA (aw (ae 0) (dC (.int 2)))) [none,none,some 1] (cR [0,1]) (aj fIn (aw (ae 1) (dC (.int 0))) (ae 2)) (ae 0)))
def fZ:FN:=fnV 2 sx
def kN:DS :=
 (aH (aT (fh (ae 1)) [none,some 0] (aD 0) (dC (.bl true)) (aw (aw (aw (ae 1) (dC (.int 2))) (ae 0)) (dC (.int 1)))))
def bH:FN:=fnV 2 kN
def ie:DS :=
 (aH (dUn dR (aT (aV (ae 0)) [none] (aD 0) (dC (.bl true)) (FE (aj fEq (ae 0) (dC (.int 0))) (dC (.int 1)) (dC (.int 0))))))
def cL:FN:=fnV 1 ie
def jx:DS :=
 (ax (aC 2 (au (cal ic) [(aw (ae 0) (dC (.int 0))),(aw (ae 0) (dC (.int 1))),(au (cal bH) [(ae 0),(ae 1)]),(au (cal cL) [(aw (ae 0) (dC (.int 1)))])]))
 (ax (sIf (aj fEq (aw (ae 2) (dC (.int 0))) (dC (.str "sum"))) (aH (lj [(dC (.str "open")),(aw (ae 2) (dC (.int 1)))])) b_)
 (aH (lj [(dC (.str "shut")),(aw (ae 2) (dC (.int 1)))]))))
def bD:FN:=fnK 3 jx
def kO:DS :=
 (aH (au (cal bD) [(ae 0),(au (cal fZ) [(ae 0),(ae 1)])]))
theorem B8{p:Int}{w:Nat}{rows:Rows}(hn:rows.length≤24)(cE:List Int)(y:SV)(μ:ah)(h2:rd μ y=some (.lst (cE.map T.int))) :
  fZ [.val (tb p w rows),y] μ=.ok (.val (li (nums (rowsOf rows cE)))) μ:=by
 unfold fZ sx tb
 simp! only[h2]
 rw[enum_rows,lO (λ(i:Nat)=>.tup [.int (i:Int),rt (hG rows i)]) (λi=>decide ((hG rows i).1∈cE)) (λ(i:Nat)=>.int (i:Int)) (by simp)]
 ·rw[R.cY,R.aP,if_pos (by simp[szL];lia)]
  simp! only[]
  rw[su]
  rfl
 ·intro i hi
  refine⟨_,dS 0 1 _ _ _,?_,λ_=>?_⟩
  ·simp! only[rt,h2,rj]
  ·simp! only[]
def linesAt(rows:Rows)(is:List Nat):List (List Int):=is.map λi=>(hG rows i).2
theorem sy{p:Int}{w:Nat}{rows:Rows}(is:List Nat)(hi:∀i∈is,i<rows.length)(hl:is.length≤1000)(y:SV)(μ:ah)(h2:rd μ y=some (li (nums is))) :
  bH [.val (tb p w rows),y] μ=.ok (.val (.lst ((linesAt rows is).map tu))) μ:=by
 unfold bH kN
 simp! only[h2]
 rw[← su,bz (λ(i:Nat)=>.int (i:Int)) (λ(i:Nat)=>tu (hG rows i).2) (by simp[h2])]
 ·rw[R.cY,R.aP,if_pos (by simp[szL];lia)]
  simp! only[]
  simp[linesAt,Function.comp_def]
 ·intro i hm
  have hlt:=hi i hm
  have a1:atI (rows.map rt) (i:Int)=some (rt (hG rows i)):=by
   rw[kC (by lia) (by lia)]
   simp[hG,hlt]
  refine⟨_,rfl,?_⟩
  unfold tb
  simp! only[a1,rt]
theorem G3(w:Nat)(h:0<w):eu w 0=1::List.replicate (w-1) 0:=by
 obtain⟨n,rfl⟩:∃n,w=n+1:=⟨w-1,by lia⟩
 simp[eu,List.replicate_succ]
theorem B9(w:Nat)(h:0<w)(h2:w≤1000)(μ:ah):cL [.val (.int w)] μ=.ok (.val (tu (eu w 0))) μ:=by
 unfold cL ie
 have hr:eO (w:Int)=true:=cZ (by lia) (by lia)
 dsimp! only[hr]
 rw[fv,uv (λk=>.int (if k=0 then 1 else 0)) trivial]
 ·rw[R.cY,R.aP,if_pos (by simp[szL];lia)]
  dsimp! only[]
  have e:((bB 0 (w:Int).toNat).map λk=>T.int (if k=0 then 1 else 0))=(eu w 0).map T.int:=by
   rw[fk,Int.toNat_natCast,G3 w h]
   obtain⟨n,rfl⟩:∃n,w=n+1:=⟨w-1,by lia⟩
   rw[List.range_succ_eq_map]
   simp only[List.map_cons,List.map_map,Nat.add_sub_cancel,List.map_replicate]
   refine congr (congrArg _ rfl) ?_
   refine List.eq_replicate_iff.mpr ⟨by simp,λb hb=>?_⟩
   obtain⟨k,_,rfl⟩:=List.mem_map.mp hb
   show T.int (if ((Nat.succ k:Nat):Int)=0 then 1 else 0)=_
   rw[if_neg (by lia)]
  rw[e]
 ·intro k hk
  refine⟨_,rfl,?_⟩
  dsimp! only[]
  by_cases hk0:k=0
  ·subst hk0;rfl
  ·rw[if_neg (by simpa using hk0),if_neg hk0]
inductive Opened(p:Int)(w:Nat)(lines:List (List Int))(μ:ah):R SV→Prop where
 | EJ (c:T) (tv:List Int) (h:Rw p w tv) (h1:∀l∈lines,p ∣ dot l tv) (h2:g tv 0=1):Opened p w lines μ (.ok (.box [.inl (.str "shut"),.inl (tu tv)]) (μ++[(true,c)]))
 | opn (c:T) (ms:List Int) (h:Rw p lines.length ms) (h1:∀j,j<w→p ∣ dot ms (col lines j)-g (eu w 0) j):Opened p w lines μ (.ok (.box [.inl (.str "open"),.inr (μ.length+1)]) (μ++[(true,c),(true,li ms)]))
theorem G4{p:Int}{w:Nat}{rows:Rows}(H:Tbl p w rows){i:Nat}(h:i<rows.length):Rw p w (hG rows i).2:=by
 have:hG rows i=rows[i]:=by simp[hG,h]
 rw[this];exact H.li _ (List.getElem_mem h)
theorem nR{p:Int}{w:Nat}{rows:Rows}(H:Tbl p w rows){is:List Nat}(hi:∀i∈is,i<rows.length):∀l∈linesAt rows is,Rw p w l:=λl hl=>by
 obtain⟨i,hm,rfl⟩:=List.mem_map.mp hl
 exact G4 H (hi i hm)
theorem HK{p:Int}(hp:1<p)(w k:Nat):Rw p w (eu w k):=Rw.set (o_ hp w) (by lia) (by lia)
theorem J2{p x:Int}(hp:1<p)(h0:0≤x)(h1:x<p)(h:p ∣ x-1):x=1:=by
 obtain⟨k,hk⟩:=h
 rcases Int.lt_trichotomy k 0 with z|z|z
 ·have:p*k≤p*(-1):=Int.mul_le_mul_of_nonneg_left (by lia) (by lia)
  lia
 ·subst z;lia
 ·have:p*1≤p*k:=Int.mul_le_mul_of_nonneg_left (by lia) (by lia)
  lia
theorem AD{p:Int}{w:Nat}{rows:Rows}(H:Tbl p w rows)(is:List Nat)(hi:∀i∈is,i<rows.length)(hl:is.length≤100)(y:SV)(μ:ah)(h2:rd μ y=some (li (nums is))) :
  Opened p w (linesAt rows is) μ (bD [.val (tb p w rows),y] μ):=by
 have hb:=H.pr.pos
 have hp0:0<p:=Int.lt_of_lt_of_le (by decide) hb.1
 have hw:=H.w1
 have e1:=sy (p:=p) (w:=w) is hi (by lia) y μ h2
 have e2:=B9 w H.w0 (by lia) μ
 have hL:=nR H hi
 have hh:=vT H.pr hL (HK (by lia) w 0) (by simp[linesAt];lia) (by lia) (.val (.lst ((linesAt rows is).map tu))) μ (λ_=>rfl)
 unfold bD jx tb
 unfold tb at e1
 dsimp! only[e1,e2]
 generalize hr:E.kM (starts 11 [.val (.int p),.val (.int w),.val (.lst ((linesAt rows is).map tu)),.val (tu (eu w 0))]) μ=r at hh
 have hf:∀r',r.m8=r'→ic [.val (.int p),.val (.int w),.val (.lst ((linesAt rows is).map tu)),.val (tu (eu w 0))] μ=r':=λr' h=>by
  rw[← h,← hr];rfl
 cases hh with
 | turn c tv h h1 h3 =>
  rw[hf _ rfl]
  have hp0:tv.length=w:=h.1
  have h4:g tv 0=1:=by
   rw[gZ w 0 tv H.w0] at h3
   have:=h.g0 (p:=p) (by lia) 0
   exact J2 (by lia) this.1 this.2 h3
  have s1:((Str.ofString "turn")==(Str.ofString "sum"))=false:=by decide
  dsimp! only[pick,s1]
  exact .EJ c tv h h1 h4
 | sum c ms h h1 =>
  rw[hf _ rfl]
  dsimp! only[pick]
  exact .opn c ms h h1
structure Sq(μ:ah)(x:SV)(xs:List Int):Prop where
 len:mM μ x=some (.int xs.length)
 at_:∀k:Int,0≤k→k<xs.length→lq μ x (.int k)=some (.val (.int (g xs k.toNat)))
 it:(rd μ x).bind bg=some (xs.map T.int)
theorem MI(μ:ah)(xs:List Int):Sq μ (.val (li xs)) xs:=⟨by simp,λk h0 h1=>by rw[lG,atg h0 h1];rfl,rfl⟩
theorem sA(p:Int)(w:Nat)(fs:List Int):∀(lines:List (List Int)) (ms v:List Int),ms.length=lines.length→(∀l∈lines,l.length=w)→v.length=w→(∀j,j<w→p ∣ dot ms (col lines j)-g v j)→p ∣ dot ms (lines.map λl=>dot l fs)-dot v fs
 | [],ms,v,hm,_,hv,h=>by
  have e:ms=[]:=List.length_eq_zero_iff.mp (by simpa using hm)
  subst e
  have:=vU p v fs λj hj=>by
   obtain⟨k,hk⟩:=h j (by lia)
   exact⟨-k,by simp[col,dot] at hk;grind⟩
  obtain⟨k,hk⟩:=this
  exact⟨-k,by simp[dot];grind⟩
 | l::lines,[],v,hm,_,_,_=>by simp at hm
 | l::lines,m::ms,v,hm,hl,hv,h=>by
  have hll:=hl l (by simp)
  have ih:=sA p w fs lines ms (less m v l) (by simpa using hm) (λl' h'=>hl l' (by simp[h'])) (by simp[less,hv,hll]) λj hj=>by
   obtain⟨k,hk⟩:=h j hj
   rw[zm m v l j (by rw[hv,hll])]
   simp only[col,List.map_cons,dot] at hk
   exact⟨k,by simp only[col];grind⟩
  obtain⟨k,hk⟩:=ih
  rw[si m v l fs (by rw[hv,hll])] at hk
  exact⟨k,by rw[List.map_cons,dot];grind⟩
theorem toNat_mod(a b:Int)(h:0<b):∃n:Nat,a%b=(n:Int)∧(n:Int)<b:=⟨(a%b).toNat,by have:=Int.emod_nonneg a (show b≠0 by lia);lia,by have:=Int.emod_nonneg a (show b≠0 by lia);have:=Int.emod_lt_of_pos a h;lia⟩
theorem B_{rows:Rows}{cE:List Int}:∀i∈rowsOf rows cE,i<rows.length:=λi hi=>List.mem_range.mp (List.mem_filter.mp hi).1
theorem zq(rows:Rows)(cE:List Int):(rowsOf rows cE).length≤rows.length:=Nat.le_trans (List.length_filter_le _ _) (by simp)
theorem J3{p:Int}{w:Nat}{rows:Rows}(H:Tbl p w rows)(cE:List Int)(y:SV)(μ:ah)(h2:rd μ y=some (li cE)) :
  Opened p w (linesAt rows (rowsOf rows cE)) μ (fnK 2 kO [.val (tb p w rows),y] μ):=by
 have hn:=H.n
 have e1:=B8 (p:=p) (w:=w) H.n cE y μ h2
 have ho:=AD H (rowsOf rows cE) B_ (by have:=zq rows cE;lia) (.val (li (nums (rowsOf rows cE)))) μ rfl
 unfold kO
 simp! only[e1]
 generalize bD [.val (tb p w rows),.val (li (nums (rowsOf rows cE)))] μ=r at ho
 cases ho with
 | EJ c tv h h1 h2=>exact .EJ c tv h h1 h2
 | opn c ms h h1=>exact .opn c ms h h1
theorem J4{p:Int}{w:Nat}{rows:Rows}(H:Tbl p w rows)(cE:List Int)(y:SV)(μ:ah)(h2:rd μ y=some (li cE)) :
  (∃tv,fnV 2 kO [.val (tb p w rows),y] μ=.ok (.val (.tup [.str "shut",tu tv])) μ∧Rw p w tv∧(∀l∈linesAt rows (rowsOf rows cE),p ∣ dot l tv)∧g tv 0=1) ∨
  ∃ms,fnV 2 kO [.val (tb p w rows),y] μ=.ok (.val (.tup [.str "open",li ms])) μ∧Rw p (linesAt rows (rowsOf rows cE)).length ms∧∀j,j<w→p ∣ dot ms (col (linesAt rows (rowsOf rows cE)) j)-g (eu w 0) j:=by
 have h:=J3 H cE y μ h2
 rw[kr] at h
 rw[hU]
 generalize kO (starts 2 [.val (tb p w rows),y]) μ=r at h ⊢
 cases r with
 | rt x μ' =>
  rw[u4] at h
  rw[oj]
  generalize hq:R.ok x μ'=q at h
  cases h with
  | EJ c tv h h1 h2 =>
   cases hq
   exact .inl ⟨tv,by simp[ice,frz,jr,qD],h,h1,h2⟩
  | opn c ms h h1 =>
   cases hq
   exact .inr ⟨ms,by simp[ice,frz,jr,qD],h,h1⟩
 | nx e μ'=>generalize hq:(RS.nx e μ').m8=q at h;cases h<;>cases hq
 | bk e μ'=>generalize hq:(RS.bk e μ').m8=q at h;cases h<;>cases hq
 | ct e μ'=>generalize hq:(RS.ct e μ').m8=q at h;cases h<;>cases hq
 | err c e μ'=>generalize hq:(RS.err c e μ').m8=q at h;cases h<;>cases hq
 | bad=>generalize hq:RS.bad.m8=q at h;cases h<;>cases hq
def sT:Option Int→T
 | some i=>.int i
 | none=>.non
def jy:DS :=
 (aH (aT (uA (ae 0)) [none,none] (cR [0,1]) (dUn gk (ae 1)) (ae 0)))
def bW:FN:=fnV 1 jy
def cQ(seen:List (Option Int))(i:Nat):Option Int:=seen.getD i none
def ay(seen:List (Option Int)):List Nat:=(List.range seen.length).filter λi=>(cQ seen i).isSome
def aB(seen:List (Option Int)):List Int:=(ay seen).map λi=>(cQ seen i).getD 0
theorem Ca(seen:List (Option Int)):iL 0 (seen.map sT)=(List.range seen.length).map λ(i:Nat)=>.tup [.int (i:Int),sT (cQ seen i)]:=by
 apply List.ext_getElem?
 intro i
 rw[wQ,List.getElem?_map,List.getElem?_map]
 by_cases h:i<seen.length
 ·rw[List.getElem?_range h,List.getElem?_eq_getElem h]
  simp[cQ,h]
 ·rw[List.getElem?_eq_none (by omega),List.getElem?_eq_none (by simp;omega)]
  rfl
theorem Cb(o:Option Int):gk (sT o)=some (.bl o.isSome):=by cases o<;>rfl
theorem pf(seen:List (Option Int))(hn:seen.length≤1000)(y:SV)(μ:ah)(h:rd μ y=some (.lst (seen.map sT))):bW [y] μ=.ok (.val (li (nums (ay seen)))) μ:=by
 unfold bW jy
 simp?! only[h]
 rw[Ca,lO (λ(i:Nat)=>.tup [.int (i:Int),sT (cQ seen i)]) (λi=>(cQ seen i).isSome) (λ(i:Nat)=>.int (i:Int)) (by simp[h])]
 ·rw[R.cY,R.aP,if_pos (by simp[szL];omega)]
  simp?! only[]
  rw[su]
  rfl
 ·intro i hi
  refine⟨_,dS 0 1 _ _ _,?_,λ_=>?_⟩
  ·simp?! only[Cb]
  ·simp?! only[]
theorem iH{seen:List (Option Int)}{i:Nat}(h:i∈ay seen):i<seen.length∧(cQ seen i).isSome=true:=by
 unfold ay at h
 rw[List.mem_filter,List.mem_range] at h
 exact h
theorem xv{α β:Type}(f:α→T)(g:β→T):∀(xs:List α) (ys:List β),g_ (xs.map f) (ys.map g)=(xs.zip ys).map λq=>.tup [f q.1,g q.2]
 | [],ys=>by simp[g_]
 | x::xs,[]=>by simp[g_]
 | x::xs,y::ys=>by simp[g_,xv f g xs ys]
def jw:FN:=fnV 3 E.jQ
def j_:DS :=
 (ax (aC 3 (aw (ae 0) (dC (.int 1))))
 (ax (aC 4 (aT (pE (au (cal bH) [(ae 0),(ae 1)]) (ae 2)) [none,none] (cR [0,1]) (dC (.bl true)) (aj bw (dUn dR (ae 0)) (jK [(ae 1)]))))
 (ax (aC 5 (au (cal ic) [(aw (ae 0) (dC (.int 0))),(aj bw (ae 3) (dC (.int 1))),(ae 4),(dUn dR (au (cal jw) [(aj bw (ae 3) (dC (.int 1))),(ae 3)]))]))
 (ax (sIf (aj fEq (aw (ae 5) (dC (.int 0))) (dC (.str "sum"))) (aH (aw (ae 5) (dC (.int 1)))) b_)
 (aH (dC (.non)))))))
def longer(lines:List (List Int))(ps:List Int):List (List Int):=(lines.zip ps).map λq=>q.1++[q.2]
theorem sC{lines:List (List Int)}{ps:List Int}(h:ps.length=lines.length):(longer lines ps).length=lines.length:=by simp[longer,h]
theorem Cc{p:Int}{w:Nat}{lines:List (List Int)}{ps:List Int}(hl:∀l∈lines,Rw p w l)(hp:∀x∈ps,0≤x∧x<p):∀l∈longer lines ps,Rw p (w+1) l:=λl h=>by
 obtain⟨⟨a,b⟩,hq,rfl⟩:=List.mem_map.mp h
 have hm:=List.of_mem_zip hq
 have hb:=hp b hm.2
 exact Rw.snoc (hl a hm.1) hb.1 hb.2
theorem Cd(l:List Int)(x:Int)(j:Nat)(h:j<l.length):g (l++[x]) j=g l j:=by
 unfold g;rw[List.getD_eq_getElem?_getD,List.getD_eq_getElem?_getD,List.getElem?_append_left h]
theorem Ce(l:List Int)(x:Int)(w:Nat)(h:l.length=w):g (l++[x]) w=x:=by
 unfold g;rw[List.getD_eq_getElem?_getD,List.getElem?_append_right (by omega)];simp[h]
theorem sD{w:Nat}:∀{lines:List (List Int)}{ps:List Int},(∀l∈lines,l.length=w)→ps.length=lines.length→(∀j,j<w→col (longer lines ps) j=col lines j)∧col (longer lines ps) w=ps
 | [],ps,_,h=>by
  have e:ps=[]:=List.length_eq_zero_iff.mp (by simpa using h)
  subst e;exact⟨λ_ _=>rfl,rfl⟩
 | l::lines,[],_,h=>by simp at h
 | l::lines,q::ps,hl,h=>by
  obtain⟨h1,h2⟩:=sD (lines:=lines) (ps:=ps) (λx hx=>hl x (by simp[hx])) (by simpa using h)
  have hll:=hl l (by simp)
  have e:longer (l::lines) (q::ps)=(l++[q])::longer lines ps:=rfl
  rw[e]
  refine⟨λj hj=>?_,?_⟩
  ·show g (l++[q]) j::col (longer lines ps) j=g l j::col lines j
   rw[h1 j hj,Cd _ _ _ (by omega)]
  ·show g (l++[q]) w::col (longer lines ps) w=q::ps
   rw[h2,Ce _ _ _ hll]
def Fit(p:Int)(lines:List (List Int))(ps:List Int)(x:List Int):Prop:=∀q∈lines.zip ps,p ∣ dot q.1 x-q.2
inductive Mis(p:Int)(w:Nat)(lines:List (List Int))(ps:List Int)(μ:ah):R SV→Prop where
 | no (x:List Int) (h:Rw p w x) (h1:Fit p lines ps x):Mis p w lines ps μ (.ok (.val .non) μ)
 | mis (ms:List Int) (h:Rw p lines.length ms) (h1:∀j,j<w→p ∣ dot ms (col lines j)) (h2:p ∣ dot ms ps-1):Mis p w lines ps μ (.ok (.cel μ.length) (μ++[(true,li ms)]))
theorem Sw:(("sum":Str)=="sum")=true:=by decide +kernel
theorem Sx:(("turn":Str)=="sum")=false:=by decide +kernel
theorem J5(μ:ah)(c t:T):gc μ.length (.cel (μ.length+1)) (μ++[(true,c),(true,t)])=.ok (.cel μ.length) (μ++[(true,t)]):=by
 unfold gc
 simp
theorem Cf{p:Int}{w:Nat}{rows:Rows}(H:Tbl p w rows)(is:List Nat)(hi:∀i∈is,i<rows.length)(hl:is.length≤24)(ps:List Int)(hps:ps.length=is.length)(hpb:∀x∈ps,0≤x∧x<p)(y z:SV)(μ:ah)(h2:rd μ y=some (li (nums is)))(h3:rd μ z=some (li ps)) :
  Mis p w (linesAt rows is) ps μ (fnD 6 j_ [.val (tb p w rows),y,z] μ):=by
 have hb:=H.pr.pos
 have hw:=H.w1
 have hw0:=H.w0
 have e1:=sy (p:=p) (w:=w) is hi (by omega) y μ h2
 have hL:=nR H hi
 have hLl:(linesAt rows is).length=is.length:=by simp[linesAt]
 generalize linesAt rows is=lines at *
 have e2:∀same:ah→Prop,same μ→bU same (cR [0,1]) (dC (.bl true)) (aj bw (dUn dR (ae 0)) (jK [(ae 1)])) [none,none] (g_ (lines.map tu) (ps.map T.int)) μ=.ok ((longer lines ps).map tu) μ:=λsame hs=>by
  rw[xv,bz (λq:List Int×Int=>.tup [tu q.1,.int q.2]) (λq=>tu (q.1++[q.2])) hs]
  ·simp[longer]
  ·rintro⟨l,q⟩ hq
   have hR:=hL l (List.of_mem_zip hq).1
   have fa:bw (tu l) (.tup [.int q])=some (tu (l++[q])):=by
    rw[wx _ _ (by rw[List.length_map,hR.1];simp[szL];omega)];simp
   refine⟨_,dS 0 1 _ _ _,?_⟩
   simp?! only[fa]
 have lz:(g_ (lines.map tu) (ps.map T.int)).length≤szL:=by rw[lP,List.length_map,List.length_map];unfold szL;omega
 have eu1:jw [.val (.int ((w:Int)+1)),.val (.int w)] μ=.ok (.val (li (eu (w+1) w))) μ:=E.Av (w:=w+1) w (by omega) (by omega) μ
 have hh:=vT (w:=w+1) (lines:=longer lines ps) H.pr (Cc hL hpb) (HK (by omega) (w+1) w) (by rw[sC (by omega)];omega) (by omega) (.val (.lst ((longer lines ps).map tu))) μ (λ_=>rfl)
 obtain⟨lc1,lc2⟩:=sD (w:=w) (lines:=lines) (ps:=ps) (λl h=>(hL l h).1) (by omega)
 unfold tb at *
 unfold j_
 simp?! only[e1,h3,lz]
 rw[e2 _ ⟨trivial,h3⟩,R.cY,R.aP]
 simp?! only[lz,eu1]
 generalize hr:E.kM (starts 11 [.val (.int p),.val (.int ((w+1:Nat):Int)),.val (.lst ((longer lines ps).map tu)),.val (tu (eu (w+1) w))]) μ=r at hh
 have hf:∀r',r.m8=r'→ic [.val (.int p),.val (.int ((w:Int)+1)),.val (.lst ((longer lines ps).map tu)),.val (tu (eu (w+1) w))] μ=r':=λr' h=>by
  rw[← h,← hr];rfl
 cases hh with
 | turn c tv h h1 h3' =>
  rw[hf _ rfl]
  simp?! only[pick,Sx]
  have e:(R.ok (SV.val T.non) ((μ++[(true,c)]).take μ.length))=R.ok (SV.val T.non) μ:=by rw[u_]
  show Mis p w lines ps μ (R.ok (SV.val T.non) ((μ++[(true,c)]).take μ.length))
  rw[e]
  have hx:=Ap (p:=p) (L:=w) (row:=tv.take w) (by omega) (-1) (by rw[List.length_take,h.1];omega)
  refine .no _ hx ?_
  rintro⟨l,q⟩ hq
  have hm:=List.of_mem_zip hq
  have hll:l.length=w:=(hL l hm.1).1
  have a1:=h1 (l++[q]) (List.mem_map.mpr ⟨(l,q),hq,rfl⟩)
  have et:tv=tv.take w++[g tv w]:=by
   have:=o9 tv w (by rw[h.1];omega)
   rw[List.drop_of_length_le (by rw[h.1];omega)] at this
   exact this
  rw[et,pe _ _ _ _ (by rw[hll,List.length_take,h.1];omega)] at a1
  rw[gZ _ _ _ (by omega)] at h3'
  obtain⟨t,ht⟩:=se p (-1) (tv.take w) l
  obtain⟨u,hu⟩:=a1
  obtain⟨v,hv⟩:=h3'
  rw[ht]
  exact⟨t-u+q*v,by grind⟩
 | sum c ms h h1 =>
  rw[hf _ rfl]
  simp?! only[pick,Sw]
  rw[J5]
  rw[sC (by omega)] at h
  refine .mis ms h (λj hj=>?_) ?_
  ·have:=h1 j (by omega)
   rw[lc1 j hj] at this
   have e0:g (eu (w+1) w) j=0:=by
    unfold eu
    rw[uF _ _ _ _ (by simp),if_neg (by omega)]
    unfold g
    rw[List.getD_eq_getElem?_getD,List.getElem?_replicate,if_pos (by omega)]
    rfl
   rw[e0,Int.sub_zero] at this
   exact this
  ·have:=h1 w (by omega)
   rw[lc2] at this
   have e0:g (eu (w+1) w) w=1:=by
    unfold eu
    rw[uF _ _ _ _ (by simp),if_pos rfl]
   rw[e0] at this
   exact this
def i9:FN:=fnD 6 j_
def jh:DS :=
 (ax (aC 2 (au (cal bW) [(ae 1)]))
 (ax (aC 3 (aT (fh (ae 2)) [none,some 1] (aD 0) (dC (.bl true)) (aw (ae 1) (ae 0))))
 (ax (aC 4 (au (cal i9) [(ae 0),(ae 2),(ae 3)]))
 (ax (sIf (dUn gk (ae 4)) (aH (lj [(dC (.str "none")),(ae 4)])) b_)
 (ax (aC 5 (au (cal bD) [(ae 0),(ae 2)]))
 (ax (sIf (aj fEq (aw (ae 5) (dC (.int 0))) (dC (.str "shut"))) (aH (lj [(dC (.str "any")),(aw (ae 5) (dC (.int 1)))])) b_)
 (aH (lj [(dC (.str "one")),(au (cal b3) [(aw (ae 0) (dC (.int 0))),(aw (ae 5) (dC (.int 1))),(ae 3)]),(aw (ae 5) (dC (.int 1)))]))))))))
inductive Tld(p:Int)(w:Nat)(lines:List (List Int))(ps:List Int)(μ:ah):R SV→Prop where
 | none (ms:List Int) (h:Rw p lines.length ms) (h1:∀j,j<w→p ∣ dot ms (col lines j)) (h2:p ∣ dot ms ps-1):Tld p w lines ps μ (.ok (.box [.inl (.str "none"),.inr μ.length]) (μ++[(true,li ms)]))
 | any (c:T) (tv x:List Int) (hx:Rw p w x) (hf:Fit p lines ps x) (h:Rw p w tv) (h1:∀l∈lines,p ∣ dot l tv) (h2:g tv 0=1):Tld p w lines ps μ (.ok (.box [.inl (.str "any"),.inl (tu tv)]) (μ++[(true,c)]))
 | one (c:T) (ms x:List Int) (hx:Rw p w x) (hf:Fit p lines ps x) (h:Rw p lines.length ms) (h1:∀j,j<w→p ∣ dot ms (col lines j)-g (eu w 0) j):Tld p w lines ps μ (.ok (.box [.inl (.str "one"),.inl (.int (dot ms ps%p)),.inr (μ.length+1)]) (μ++[(true,c),(true,li ms)]))
theorem AE:(("open":Str)=="shut")=false:=by decide +kernel
theorem MJ:(("shut":Str)=="shut")=true:=by decide +kernel
structure Seen(p:Int)(rows:Rows)(seen:List (Option Int)):Prop where
 len:seen.length=rows.length
 by_:∀i,some i∈seen→0≤i∧i<p
theorem Seen.parts{p:Int}{rows:Rows}{seen:List (Option Int)}(h:Seen p rows seen):∀x∈aB seen,0≤x∧x<p:=λx hx=>by
 obtain⟨i,hi,rfl⟩:=List.mem_map.mp hx
 obtain⟨h1,h2⟩:=iH hi
 obtain⟨v,hv⟩:=Option.isSome_iff_exists.mp h2
 rw[hv]
 refine h.by_ v ?_
 have:seen[i]?=some (some v):=by
  unfold cQ at hv
  rw[List.getD_eq_getElem?_getD,List.getElem?_eq_getElem h1] at hv
  rw[List.getElem?_eq_getElem h1]
  exact congrArg some hv
 exact List.mem_of_getElem? this
theorem MK{p:Int}{w:Nat}{rows:Rows}(H:Tbl p w rows){seen:List (Option Int)}(hs:Seen p rows seen)(y:SV)(μ:ah)(hy:rd μ y=some (.lst (seen.map sT))) :
  Tld p w (linesAt rows (ay seen)) (aB seen) μ (fnK 6 jh [.val (tb p w rows),y] μ):=by
 have hb:=H.pr.pos
 have hw:=H.w1
 have hn:=H.n
 have hsl:=hs.len
 have e0:=pf seen (by omega) y μ hy
 have hil:(ay seen).length≤24:=Nat.le_trans (List.length_filter_le _ _) (by rw[List.length_range];omega)
 have hlt:∀i∈ay seen,i<rows.length:=λi h=>by have:=(iH h).1;omega
 have e1:bU (λ_=>True) (aD 0) (dC (.bl true)) (aw (ae 1) (ae 0)) [none,some y] ((nums (ay seen)).map T.int) μ=.ok ((aB seen).map T.int) μ:=by
  rw[← su,bz (λ(i:Nat)=>T.int (i:Int)) (λi=>T.int ((cQ seen i).getD 0)) trivial]
  ·rw[aB,List.map_map];rfl
  ·intro i hm
   obtain⟨h1,h2⟩:=iH hm
   obtain⟨v,hv⟩:=Option.isSome_iff_exists.mp h2
   have a1:lq μ y (.int (i:Int))=some (.val (.int v)):=by
    rw[As hy,kC (by omega) (by omega)]
    have:seen[(i:Int).toNat]'(by simpa using h1)=some v:=by
     have:cQ seen i=seen[i]:=by simp[cQ,h1]
     rw[hv] at this
     simpa using this.symm
    rw[this];rfl
   refine⟨_,rfl,?_⟩
   rw[hv]
   simp?! only[a1,Option.getD_some]
 have lp:((nums (ay seen)).map T.int).length≤szL:=by unfold nums;rw[List.length_map,List.length_map];unfold szL;omega
 have hml:(aB seen).length=(ay seen).length:=by simp[aB]
 have hm:=Cf H (ay seen) hlt hil (aB seen) hml hs.parts (.val (li (nums (ay seen)))) (.val (li (aB seen))) μ rfl rfl
 have ho:=AD H (ay seen) hlt (by omega) (.val (li (nums (ay seen)))) μ rfl
 have hLl:(linesAt rows (ay seen)).length=(ay seen).length:=by simp[linesAt]
 generalize hq1:fnD 6 j_ [.val (tb p w rows),.val (li (nums (ay seen))),.val (li (aB seen))] μ=q1 at hm
 have hq1:i9 [.val (tb p w rows),.val (li (nums (ay seen))),.val (li (aB seen))] μ=q1:=hq1
 generalize linesAt rows (ay seen)=lines at *
 generalize aB seen=ps at *
 generalize nums (ay seen)=is at *
 have nnl:∀ms,gk (li ms)=some (.bl true):=λms=>rfl
 cases hm with
 | mis ms h h1 h2 =>
  have hg:(μ++[(true,li ms)])[μ.length]?=some (true,li ms):=gp
  unfold jh
  simp?! only[e0,e1,lp,hq1,hg,nnl]
  exact .none ms h h1 h2
 | no x hx wj =>
  generalize hq2:bD [.val (tb p w rows),.val (li is)] μ=q2 at ho
  cases ho with
  | EJ c tv h h1 h2 =>
   unfold jh
   simp?! only[e0,e1,lp,hq1,hq2,pick,MJ]
   exact .any c tv x hx wj h h1 h2
  | opn c ms h h1 =>
   have hg:(μ++[(true,c),(true,li ms)])[μ.length+1]?=some (true,li ms):=zY
   have hc:=xu p ms ps (.cel (μ.length+1)) (.val (li ps)) (μ++[(true,c),(true,li ms)]) (by omega) (λa ha=>⟨h.2 a ha,by have:=h.3 a ha;omega⟩) (by rw[h.1];omega) (by rw[jN,hg];rfl) rfl
   have tb0:lq (μ++[(true,c),(true,li ms)]) (.val (tb p w rows)) (.int 0)=some (.val (.int p)):=rfl
   unfold jh
   simp?! only[e0,e1,lp,hq1,hq2,pick,AE,tb0,hc]
   exact .one c ms x hx wj h h1
theorem ML{p:Int}{w:Nat}{rows:Rows}(H:Tbl p w rows){seen:List (Option Int)}(hs:Seen p rows seen)(y:SV)(μ:ah)(hy:rd μ y=some (.lst (seen.map sT))) :
  (∃ms,fnV 6 jh [.val (tb p w rows),y] μ=.ok (.val (.tup [.str "none",li ms])) μ∧Rw p (linesAt rows (ay seen)).length ms∧(∀j,j<w→p ∣ dot ms (col (linesAt rows (ay seen)) j))∧p ∣ dot ms (aB seen)-1) ∨
  (∃tv x,fnV 6 jh [.val (tb p w rows),y] μ=.ok (.val (.tup [.str "any",tu tv])) μ∧Rw p w x∧Fit p (linesAt rows (ay seen)) (aB seen) x∧Rw p w tv∧(∀l∈linesAt rows (ay seen),p ∣ dot l tv)∧g tv 0=1) ∨
  ∃ms x,fnV 6 jh [.val (tb p w rows),y] μ=.ok (.val (.tup [.str "one",.int (dot ms (aB seen)%p),li ms])) μ∧Rw p w x∧Fit p (linesAt rows (ay seen)) (aB seen) x∧Rw p (linesAt rows (ay seen)).length ms∧∀j,j<w→p ∣ dot ms (col (linesAt rows (ay seen)) j)-g (eu w 0) j:=by
 have h:=MK H hs y μ hy
 rw[kr] at h
 rw[hU]
 generalize jh (starts 6 [.val (tb p w rows),y]) μ=r at h ⊢
 cases r with
 | rt x μ' =>
  rw[u4] at h
  rw[oj]
  generalize hq:R.ok x μ'=q at h
  cases h with
  | none ms h h1 h2 =>
   cases hq
   exact .inl ⟨ms,by simp[ice,frz,jr,qD],h,h1,h2⟩
  | any c tv x hx hf h h1 h2 =>
   cases hq
   exact .inr (.inl ⟨tv,x,by simp[ice,frz,jr,qD],hx,hf,h,h1,h2⟩)
  | one c ms x hx hf h h1 =>
   cases hq
   exact .inr (.inr ⟨ms,x,by simp[ice,frz,jr,qD],hx,hf,h,h1⟩)
 | nx e μ'=>generalize hq:(RS.nx e μ').m8=q at h;cases h<;>cases hq
 | bk e μ'=>generalize hq:(RS.bk e μ').m8=q at h;cases h<;>cases hq
 | ct e μ'=>generalize hq:(RS.ct e μ').m8=q at h;cases h<;>cases hq
 | err c e μ'=>generalize hq:(RS.err c e μ').m8=q at h;cases h<;>cases hq
 | bad=>generalize hq:RS.bad.m8=q at h;cases h<;>cases hq
end Fw.F
namespace Fw.E
open PySem Fw Fw.H
theorem G5(f:T→T→Option T)(x y:Int)(z z2:T)(μ:ah)(hr:f (.lst [.int 0]) (.int x)=some z)(hs:setAt (.cel μ.length) (.int y) (.int 1) (μ++[(true,z)])=some (μ++[(true,z2)])):fnD 3 (ax (aC 2 (cS (iP f [(dC (.int 0))] (ae 0))))
 (ax (bG 2 (ae 1) (dC (.int 1)))
 (aH (ae 2)))) [.val (.int x),.val (.int y)] μ=.ok (.cel μ.length) (μ++[(true,z2)]):=by
 simp[hr,hs,F.J0]
theorem EK{w:Nat}(j:Nat)(hj:j<w)(hw:w≤1000)(μ:ah):fnD 3 jQ [.val (.int w),.val (.int j)] μ=.ok (.cel μ.length) (μ++[(true,li (eu w j))]) :=
 G5 il w j _ _ μ (rep0 w hw) (hs_ w j hj μ)
def mI:FN:=fnD 3 jQ
def iu:FN:=fnV 11 mH
def bV:FN:=fnV 3 cj
def iT:DS :=
 (ax (aC 4 (au (cal mI) [(ae 2),(ae 3)]))
 (ax (eQ (kF (ae 1)) (cR [5,6]) (bG 4 (ae 5) (aj aW (dUn yc (aw (ae 6) (ae 3))) (ae 0))))
 (aH (ae 4))))
def cy:FN:=fnV 7 iT
def nv(p:Int)(m:Nat)(ls:List Ld)(f:Nat):List Int:=(List.range m).map λj=>match ls.find? (λq=>q.1==j) with
 | some q=>(-g q.2 f)%p
 | none=>if j=f then 1 else 0
theorem MM{p:Int}(hp:1<p)(m:Nat)(ls:List Ld)(f:Nat):Rw p m (nv p m ls f):=by
 have b:∀x∈nv p m ls f,0≤x∧x<p:=λx hx=>by
  obtain⟨j,_,rfl⟩:=List.mem_map.mp hx
  cases ls.find? (λq=>q.1==j) with
  | some q=>exact⟨Int.emod_nonneg _ (by omega),Int.emod_lt_of_pos _ (by omega)⟩
  | none=>simp only;split<;>omega
 exact⟨by simp[nv],λx hx=>(b x hx).1,λx hx=>(b x hx).2⟩
theorem Sy(p:Int)(m:Nat)(ls:List Ld)(f j:Nat)(hj:j<m):g (nv p m ls f) j=match ls.find? (λq=>q.1==j) with
  | some q=>(-g q.2 f)%p
  | none=>if j=f then 1 else 0:=by
 unfold g nv
 rw[List.getD_eq_getElem?_getD,List.getElem?_map,List.getElem?_range hj]
 rfl
theorem pX{ls:List Ld}{q:Ld}(hn:(ls.map (·.1)).Nodup)(h:q∈ls):ls.find? (λa=>a.1==q.1)=some q:=by
 induction ls with
 | nil=>simp at h
 | cons a ls ih =>
  have hn':=List.nodup_cons.mp (by simpa using hn:(a.1::ls.map (·.1)).Nodup)
  rw[List.find?_cons]
  rcases List.mem_cons.mp h with rfl|h
  ·simp
  ·have:a.1≠q.1:=λe=>hn'.1 (e ▸ List.mem_map.mpr ⟨q,h,rfl⟩)
   rw[show (a.1==q.1)=false by simpa using this]
   exact ih hn'.2 h
theorem find_none{ls:List Ld}{j:Nat}(h:∀q∈ls,q.1≠j):ls.find? (λa=>a.1==j)=none:=by
 rw[List.find?_eq_none]
 intro q hq
 simpa using h q hq
theorem tZ{p:Int}{m:Nat}(hP:iS p){ls:List Ld}(hn:(ls.map (·.1)).Nodup)(hk:∀q∈ls,q.1<m)(rl:∀q∈ls,Rw p m q.2)(hm:m≤1000)(f:Nat)(hf:f<m)(hfl:∀q∈ls,q.1≠f)(μ:ah) :
  cy [.val (.int p),.val (.dct (dk ls)),.val (.int m),.val (.int f)] μ=.ok (.val (li (nv p m ls f))) μ:=by
 have hb:=hP.pos
 have hu:mI [.val (.int m),.val (.int f)] μ=.ok (.cel μ.length) (μ++[(true,li (eu m f))]):=EK f hf hm μ
 obtain⟨e',μ',h1,y5,y6,ms,h2,h3,h4,h5,h6⟩:=fO (same:=λ_=>True) (b:=cR [5,6]) (body:=bG 4 (ae 5) (aj aW (dUn yc (aw (ae 6) (ae 3))) (ae 0))) (ts:=eL (dk ls))
  (e:=[some (.val (.int p)),some (.val (.dct (dk ls))),some (.val (.int m)),some (.val (.int f)),some (.cel μ.length),none,none]) (μ:=μ++[(true,li (eu m f))])
  (λi e μ'=>∃y5 y6 ms,e=[some (.val (.int p)),some (.val (.dct (dk ls))),some (.val (.int m)),some (.val (.int f)),some (.cel μ.length),y5,y6]∧μ'=μ++[(true,li ms)]∧Rw p m ms∧(∀q∈ls.take i,g ms q.1=(-g q.2 f)%p)∧∀j,(∀q∈ls.take i,q.1≠j)→g ms j=g (eu m f) j)
  (λi e μ' _=>trivial) (λi t e μ' ht aq=>by
   obtain⟨y5,y6,ms,he,hμ,hr,h5,h6⟩:=aq
   subst he hμ
   obtain⟨q,hq,hi,rfl⟩:=pV ht
   have hmm:q∈ls:=List.mem_of_getElem? hq
   have hkq:=hk q hmm
   have ha:=atn (r:=q.2) (k:=f) (by rw[(rl q hmm).len];exact hf)
   have v0:=Int.emod_nonneg (-g q.2 f) (show p≠0 by omega)
   have v1:=Int.emod_lt_of_pos (-g q.2 f) (show 0<p by omega)
   have tX:∀v,setAt (.cel μ.length) (.int (q.1:Int)) (.int v) (μ++[(true,li ms)])=some (μ++[(true,li (ms.set q.1 v))]):=λv=>by
    rw[j5 (ts:=ms.map T.int) gp (by omega) (by rw[List.length_map,hr.len];omega),kB]
    have:(q.1:Int).toNat=q.1:=by omega
    rw[this,← List.map_set]
   have htk:ls.take (i+1)=ls.take i++[q]:=by rw[List.take_add_one,hq];rfl
   have gs:∀j,g (ms.set q.1 ((-g q.2 f)%p)) j=if j=q.1 then (-g q.2 f)%p else g ms j:=λj=>uF ms q.1 j _ (by rw[hr.len];omega)
   refine⟨_,_,_,dS 5 6 (.int (q.1:Int)) (li q.2) _,?_,some (.val (.int (q.1:Int))),some (.val (li q.2)),ms.set q.1 ((-g q.2 f)%p),rfl,rfl,Rw.set hr v0 v1,?_,?_⟩
   ·simp?! only[ha,tX]
   ·intro q' hq'
    rw[htk] at hq'
    rw[gs]
    rcases List.mem_append.mp hq' with h|h
    ·by_cases e:q'.1=q.1
     ·have eq':q'=q:=by
       have a1:=pX hn (List.mem_of_mem_take h)
       have a2:=pX hn hmm
       rw[e,a2] at a1
       exact (Option.some.inj a1).symm
      subst eq';rw[if_pos rfl]
     ·rw[if_neg e];exact h5 q' h
    ·simp at h;subst h;rw[if_pos rfl]
   ·intro j hj
    rw[htk] at hj
    rw[gs,if_neg λe=>hj q (by simp) e.symm]
    exact h6 j λq' hq'=>hj q' (by simp[hq']))
  ⟨none,none,eu m f,rfl,rfl,Rw.set (o_ (by omega) m) (by omega) (by omega),by simp,λj _=>rfl⟩
 subst h2 h3
 have hlen:(eL (dk ls)).length=ls.length:=by simp[eL,dk]
 rw[hlen,List.take_length] at h5 h6
 have hms:ms=nv p m ls f:=EE h4 (MM (by omega) m ls f) λj hj=>by
  rw[Sy p m ls f j hj]
  by_cases h:∃q∈ls,q.1=j
  ·obtain⟨q,hq,rfl⟩:=h
   rw[pX hn hq,h5 q hq]
  ·have h':∀q∈ls,q.1≠j:=λq hq e=>h ⟨q,hq,e⟩
   rw[find_none h',h6 j h']
   unfold eu
   rw[uF _ _ _ _ (by simp;exact hf)]
   by_cases e:j=f
   ·simp[e]
   ·simp[e,g,List.getElem?_replicate,hj]
 subst hms
 unfold cy iT
 simp?! only[hu,vc,h1,F.k_]
theorem Cg(ls:List Ld)(j:Nat):(kE (dk ls) (.inl (j:Int))).isSome=ls.any λq=>decide (q.1=j):=by
 rw[← zj]
 unfold kE
 rw[Option.isSome_map]
 induction dk ls with
 | nil=>rfl
 | cons a l ih =>
  rw[List.find?_cons,List.any_cons]
  cases decide (a.1=(.inl (j:Int):Key)) with
  | true=>rfl
  | false=>simpa using ih
def freeOf(m:Nat)(ls:List Ld):List Nat:=(List.range m).filter λj=>!(ls.any λq=>decide (q.1=j))
theorem EL{m:Nat}{ls:List Ld}(hn:(ls.map (·.1)).Nodup)(hk:∀q∈ls,q.1<m):(freeOf m ls).length+ls.length=m:=by
 have h1:((List.range m).filter λj=>ls.any λq=>decide (q.1=j)).Perm (ls.map (·.1)):=by
  refine (List.perm_ext_iff_of_nodup (List.nodup_range.sublist List.filter_sublist) hn).mpr λj=>?_
  rw[List.mem_filter,List.mem_map,List.mem_range,List.any_eq_true]
  constructor
  ·rintro⟨_,q,hq,e⟩;exact⟨q,hq,by simpa using e⟩
  ·rintro⟨q,hq,rfl⟩;exact⟨hk q hq,q,hq,by simp⟩
 have h2:=h1.length_eq
 rw[List.length_map] at h2
 have h3:=List.length_eq_countP_add_countP (λj=>ls.any λq=>decide (q.1=j)) (l:=List.range m)
 rw[List.length_range,List.countP_eq_length_filter,List.countP_eq_length_filter,h2] at h3
 unfold freeOf
 have e:(List.range m).filter (λj=>!(ls.any λq=>decide (q.1=j)))=(List.range m).filter (λa=>decide ¬ (ls.any λq=>decide (q.1=a))=true):=by
  congr 1;funext j;cases (ls.any λq=>decide (q.1=j))<;>rfl
 rw[e]
 omega
def eF:DS :=
 (ax (aC 3 (fV (ae 2)))
 (ax (aC 4 (aw (au (cal iu) [(ae 0),(aT (aV (ae 1)) [none,some 0,some 2] (aD 0) (dC (.bl true)) (au (cal bV) [(ae 1),(ae 2),(ae 0)])),(ae 3)]) (dC (.int 0))))
 (aH (aT (aV (ae 3)) [none,some 0,some 4,some 3] (aD 0) (aj uw (ae 0) (ae 2)) (au (cal cy) [(ae 1),(ae 2),(ae 3),(ae 0)])))))
theorem sE{p:Int}{w:Nat}{lines:List (List Int)}(hP:iS p)(hl:∀l∈lines,Rw p w l)(hn:lines.length≤100)(hw2:w≤100)(x:SV)(μ:ah)(hx:rd μ x=some (.lst (lines.map tu))) :
  ∃ls ns,eF (starts 5 [.val (.int p),.val (.int w),x]) μ=.rt (.val (.lst ((freeOf lines.length ls).map λf=>li (nv p lines.length ls f)))) μ∧jZ p lines.length lines.length ls ns (cols w lines):=by
 have hb:=hP.pos
 have hlen:=Ar hx
 rw[List.length_map] at hlen
 have rw_:eO (w:Int)=true:=cZ (by omega) (by omega)
 have lw:(bq 0 (w:Int).toNat).length≤szL:=by rw[cc];unfold szL;omega
 have rm:eO (lines.length:Int)=true:=cZ (by omega) (by omega)
 have lm:(bq 0 (lines.length:Int).toNat).length≤szL:=by rw[cc];unfold szL;omega
 have ED:∀r∈cols w lines,Rw p lines.length r:=λr hr=>by
  obtain⟨j,_,rfl⟩:=List.mem_map.mp hr
  exact Ey (by omega) hl j
 obtain⟨ls,ns,h2,E,_⟩:=xo (m:=lines.length) hP (L:=lines.length) (by omega) (Nat.le_refl _) (cols w lines) ED (by simp[cols];omega) (.val (.lst ((cols w lines).map li))) μ (λl=>rfl)
 have h2:iu [.val (.int p),.val (.lst ((cols w lines).map li)),.val (.int lines.length)] μ=_:=h2
 refine⟨ls,ns,?_,E⟩
 have e1:bU (λ_=>True) (aD 0) (dC (.bl true)) (au (cal bV) [(ae 1),(ae 2),(ae 0)]) [none,some (.val (.int p)),some x] (bq 0 (w:Int).toNat) μ=.ok ((cols w lines).map li) μ:=by
  rw[fv,Int.toNat_natCast,fk,List.map_map]
  rw[show (List.map (T.int ∘ λ(i:Nat)=>(i:Int)) (List.range w))=(List.range w).map λ(i:Nat)=>T.int (i:Int) from rfl]
  rw[bz (λ(i:Nat)=>T.int (i:Int)) (λj=>li (col lines j)) trivial]
  ·rw[cols,List.map_map];rfl
  ·intro j hj
   have hj:=List.mem_range.mp hj
   have GY:bV [.val (.int p),x,.val (.int j)] μ=.ok (.val (li (col lines j))) μ:=jq (by omega) hl (by omega) j hj x μ hx
   refine⟨_,rfl,?_⟩
   simp?! only[GY]
 have e2:bU (λ_=>True) (aD 0) (aj uw (ae 0) (ae 2)) (au (cal cy) [(ae 1),(ae 2),(ae 3),(ae 0)]) [none,some (.val (.int p)),some (.val (.dct (dk ls))),some (.val (.int lines.length))] (bq 0 (lines.length:Int).toNat) μ=.ok ((freeOf lines.length ls).map λf=>li (nv p lines.length ls f)) μ:=by
  rw[fv,Int.toNat_natCast,fk,List.map_map]
  rw[show (List.map (T.int ∘ λ(i:Nat)=>(i:Int)) (List.range lines.length))=(List.range lines.length).map λ(i:Nat)=>T.int (i:Int) from rfl]
  rw[lO (λ(i:Nat)=>T.int (i:Int)) (λj=>!(ls.any λq=>decide (q.1=j))) (λf=>li (nv p lines.length ls f)) trivial]
  ·rfl
  ·intro j hj
   have hj:=List.mem_range.mp hj
   refine⟨_,rfl,?_,λh=>?_⟩
   ·simp?! only[Br,Cg]
   ·have hfl:∀q∈ls,q.1≠j:=λq hq e=>by
     rw[Bool.not_eq_true',List.any_eq_false] at h
     exact h q hq (by simp[e])
    have hs:=tZ hP E.nd E.key E.rl (by omega) j hj hfl μ
    simp?! only[hs]
 unfold eF
 simp?! only[hlen,rw_,lw,e1,h2,rm,lm,e2]
theorem xw{p:Int}{w r:Nat}{lines:List (List Int)}{ls:List Ld}{ns:List (List Int)}(hP:iS p)(hw2:w≤100)(hn:lines.length≤100)(hR:∀l∈lines,Rw p w l)(h:cnt p w (sq p lines)*p.toNat ^ r=p.toNat ^ w)(E:jZ p lines.length lines.length ls ns (cols w lines)):(freeOf lines.length ls).length+r=lines.length:=by
 have:=EL E.nd E.key
 rw[zp hP hw2 hn hR h E] at this
 exact this
end Fw.E
namespace Fw.F
open PySem Fw Fw.H Fw.E
def gq:DS :=
 (ax (aC 2 (dC (.int 1)))
 (ax (eQ (aV (ae 1)) (aD 3) (aC 2 (aj aQ (ae 2) (ae 0))))
 (aH (ae 2))))
def bp:FN:=fnV 4 gq
theorem xx(p:Int)(hp:0≤p∧p≤1000)(n:Nat)(hn:n≤1000)(μ:ah):bp [.val (.int p),.val (.int n)] μ=.ok (.val (.int (p ^ n))) μ:=by
 have rn:eO (n:Int)=true:=cZ (by omega) (by omega)
 obtain⟨e',μ',h1,y3,rfl,rfl⟩:=fO (same:=λ_=>True) (b:=aD 3) (ts:=bq 0 (n:Int).toNat) (body:=(aC 2 (aj aQ (ae 2) (ae 0))))
  (I:=λi e μ1=>∃y3,e=[some (.val (.int p)),some (.val (.int n)),some (.val (.int (p ^ i))),y3]∧μ=μ1)
  (λ_ _ _ _=>trivial) (λi t e μ1 ht aq=>by
   obtain⟨y3,he,hμ⟩:=aq
   subst he hμ
   obtain⟨k,rfl,_,_⟩:=ox ht
   have hm:aQ (.int (p ^ i)) (.int p)=some (.int (p ^ i*p)):=h_ _ _ (by omega) (by omega)
   refine⟨_,_,_,rfl,?_,some (.val (.int k)),rfl,rfl⟩
   simp?! only[hm,Int.pow_succ])
  (e:=[some (.val (.int p)),some (.val (.int n)),some (.val (.int 1)),none]) (μ:=μ) ⟨none,by simp,rfl⟩
 rw[cc,Int.toNat_natCast] at h1
 have h1:forL (λ_=>True) (aD 3) (aC 2 (aj aQ (ae 2) (ae 0))) (bq 0 n) [some (.val (.int p)),some (.val (.int n)),some (.val (.int 1)),none] μ=.nx [some (.val (.int p)),some (.val (.int n)),some (.val (.int (p ^ n))),y3] μ:=h1
 unfold bp gq
 simp?! only[rn,Int.toNat_natCast,h1]
theorem HL(t:T)(n:Nat)(h:n≤1000):il (.lst [t]) (.int (n:Int))=some (.lst (List.replicate n t)):=by
 have hz:([t]:List T).length*(n:Int).toNat≤szL:=by rw[List.length_singleton,Int.toNat_natCast];unfold szL;omega
 rw[Au _ _ ⟨by omega,by omega,hz⟩,Int.toNat_natCast,List.flatten_replicate_singleton]
def dU:FN:=fnV 5 E.eF
def eP:FN:=fnV 6 jh
def gu:DS :=
 (ax (aC 2 (au (cal bH) [(ae 0),(au (cal bW) [(ae 1)])]))
 (aH (aj bw (aj qK (aw (ae 0) (dC (.int 1))) (fV (ae 2))) (fV (au (cal dU) [(aw (ae 0) (dC (.int 0))),(aw (ae 0) (dC (.int 1))),(ae 2)])))))
def cg:FN:=fnV 3 gu
theorem nS{p:Int}{w:Nat}{rows:Rows}{seen:List (Option Int)}(H:Tbl p w rows)(hs:Seen p rows seen):(∀i∈ay seen,i<rows.length)∧(ay seen).length≤24∧(∀l∈linesAt rows (ay seen),Rw p w l)∧(aB seen).length=(linesAt rows (ay seen)).length∧(linesAt rows (ay seen)).length≤24:=by
 have hsl:=hs.len
 have hn:=H.n
 have hlt:∀i∈ay seen,i<rows.length:=λi h=>by have:=(iH h).1;omega
 have hil:(ay seen).length≤24:=Nat.le_trans (List.length_filter_le _ _) (by rw[List.length_range];omega)
 exact⟨hlt,hil,nR H hlt,by simp[aB,linesAt],by unfold linesAt;rw[List.length_map];exact hil⟩
theorem G6{p:Int}{w r c:Nat}(hp:2≤p)(h:c*p.toNat ^ r=p.toNat ^ w):r≤w∧c=p.toNat ^ (w-r):=by
 have hp1:1<p.toNat:=by omega
 have EM:∀n,0<p.toNat ^ n:=λn=>Nat.pow_pos (by omega)
 have hle:r≤w:=by
  rcases Nat.lt_or_ge w r with h1|h1
  ·exfalso
   have h2:p.toNat ^ w<p.toNat ^ r:=(Nat.pow_lt_pow_iff_right hp1).mpr h1
   have hc:0<c:=by
    rcases Nat.eq_zero_or_pos c with z|z
    ·subst z;have:=EM w;omega
    ·exact z
   have:p.toNat ^ r≤c*p.toNat ^ r:=Nat.le_mul_of_pos_left _ hc
   omega
  ·exact h1
 refine⟨hle,?_⟩
 have e:p.toNat ^ w=p.toNat ^ (w-r)*p.toNat ^ r:=by rw[← Nat.pow_add];congr 1;omega
 rw[e] at h
 exact Nat.eq_of_mul_eq_mul_right (EM r) h
theorem vX{p:Int}{w:Nat}{rows:Rows}{seen:List (Option Int)}(H:Tbl p w rows)(hs:Seen p rows seen)(y:SV)(μ:ah)(hy:rd μ y=some (.lst (seen.map sT))) :
  ∃f:Nat,cg [.val (tb p w rows),y] μ=.ok (.val (.int (f:Int))) μ∧cnt p w (sq p (linesAt rows (ay seen)))=p.toNat ^ f∧f≤w:=by
 have hb:=H.pr.pos
 have hw:=H.w1
 have hn:=H.n
 obtain⟨f0,f1,f2,f3,f4⟩:=nS H hs
 have e0:=pf seen (by rw[hs.len];omega) y μ hy
 have e1:=sy (p:=p) (w:=w) (ay seen) f0 (by omega) (.val (li (nums (ay seen)))) μ rfl
 generalize linesAt rows (ay seen)=lines at *
 obtain⟨ls,ns,e2,E⟩:=sE H.pr f2 (by omega) (show w≤100 by omega) (.val (.lst (lines.map tu))) μ rfl
 obtain⟨r,hr,_⟩:=zo H.pr (show w≤100 by omega) lines.length lines rfl (by omega) f2
 have hm:=xw H.pr (show w≤100 by omega) (by omega) f2 hr E
 obtain⟨hle,hc⟩:=G6 hb.1 hr
 have e2:dU [.val (.int p),.val (.int w),.val (.lst (lines.map tu))] μ=.ok (.val (.lst ((freeOf lines.length ls).map λf=>li (nv p lines.length ls f)))) μ:=by
  show (eF (starts 5 [.val (.int p),.val (.int w),.val (.lst (lines.map tu))]) μ).qS μ.length=_
  rw[e2,oj,zZ,List.take_length]
 refine⟨w-r,?_,hc,by omega⟩
 unfold cg gu tb
 unfold tb at e1
 simp?! only[e0,e1,e2,List.length_map]
 rw[show (w:Int)-(lines.length:Int)+((freeOf lines.length ls).length:Int)=((w-r:Nat):Int) by omega]
def fits(p:Int)(lines:List (List Int))(ps:List Int)(x:List Int):Bool:=(lines.zip ps).all λq=>decide (p ∣ dot q.1 x-q.2)
theorem iI{p:Int}{lines:List (List Int)}{ps x:List Int}:fits p lines ps x=true↔Fit p lines ps x:=by unfold fits Fit;simp
def jI(p:Int)(w:Nat)(lines:List (List Int))(ps:List Int)(h:Nat):Nat:=cnt p w λx=>fits p lines ps x && decide (g x 0=(h:Int))
theorem G7{p:Int}{w:Nat}{lines:List (List Int)}{ps x t:List Int}(hl:∀l∈lines,Rw p w l)(hx:x.length=w)(ht:t.length=w)(n:Int)(h:∀l∈lines,p ∣ dot l t):Fit p lines ps (E.sub p n x t)↔Fit p lines ps x:=by
 refine forall_congr' λq=>imp_congr_right λhq=>?_
 obtain⟨k,hk⟩:=mK p n x t q.1 (by rw[hx,ht])
 obtain⟨u,hu⟩:=h q.1 (List.of_mem_zip hq).1
 rw[show dot q.1 (E.sub p n x t)-q.2=(dot q.1 x-q.2)+p*(k-n*u) by rw[hk,hu];grind]
 exact Int.dvd_add_left (Int.dvd_mul_right _ _)
theorem xy{p:Int}{w:Nat}{lines:List (List Int)}{ps x:List Int}(hp:0<p)(hl:∀l∈lines,Rw p w l)(hps:ps.length=lines.length)(hx:Rw p w x)(hf:Fit p lines ps x):cnt p w (fits p lines ps)=cnt p w (sq p lines):=by
 refine uH hp (-1) hx.1 _ _ λy hy=>?_
 rw[iI,eM]
 have key:∀q∈lines.zip ps,(p ∣ dot q.1 (E.sub p (-1) y x)-q.2↔p ∣ dot q.1 y):=λq hq=>by
  obtain⟨k,hk⟩:=mK p (-1) y x q.1 (by rw[hy.1,hx.1])
  obtain⟨u,hu⟩:=hf q hq
  rw[show dot q.1 (E.sub p (-1) y x)-q.2=dot q.1 y+p*(k+u) by rw[hk];grind]
  exact Int.dvd_add_left (Int.dvd_mul_right _ _)
 constructor
 ·intro h l hlm
  obtain⟨i,hi,rfl⟩:=List.mem_iff_getElem.mp hlm
  have hz:(lines[i],ps[i]'(by omega))∈lines.zip ps:=List.mem_iff_getElem.mpr ⟨i,by simp;omega,by simp⟩
  exact (key _ hz).mp (h _ hz)
 ·intro h q hq
  exact (key q hq).mpr (h q.1 (List.of_mem_zip hq).1)
theorem vY{p:Int}{w:Nat}{x:List Int}(hp:0<p)(hw:0<w)(hx:Rw p w x)(h:Nat)(hh:(h:Int)<p):g x 0=(h:Int)↔p ∣ dot (eu w 0) x-(h:Int):=by
 rw[gZ w 0 x hw]
 have b:=hx.g0 hp 0
 constructor
 ·intro e;rw[e];exact⟨0,by omega⟩
 ·rintro⟨k,hk⟩
  rcases Int.lt_trichotomy k 0 with z|z|z
  ·have:p*k≤p*(-1):=Int.mul_le_mul_of_nonneg_left (by omega) (by omega)
   omega
  ·subst z;omega
  ·have:p*1≤p*k:=Int.mul_le_mul_of_nonneg_left (by omega) (by omega)
   omega
section
variable{p:Int}{w:Nat}
theorem xA(p:Int):∀(ms ps qs:List Int),ps.length=qs.length→(∀i,p ∣ g ps i-g qs i)→p ∣ dot ms ps-dot ms qs
 | [],ps,qs,_,_=>⟨0,by cases ps<;>cases qs<;>simp[dot]⟩
 | m::ms,[],[],_,_=>⟨0,by simp[dot]⟩
 | m::ms,[],q::qs,h,_=>by simp at h
 | m::ms,a::ps,[],h,_=>by simp at h
 | m::ms,a::ps,b::qs,h,hd=>by
  obtain⟨k,hk⟩:=xA p ms ps qs (by simpa using h) λi=>by have:=hd (i+1);rwa [fg,fg] at this
  obtain⟨t,ht⟩:=hd 0
  rw[iK,iK] at ht
  exact⟨k+m*t,by rw[dot,dot];grind⟩
theorem xB{lines:List (List Int)}{ps x:List Int}(hps:ps.length=lines.length)(hf:Fit p lines ps x)(ms:List Int):p ∣ dot ms ps-dot ms (lines.map λl=>dot l x):=by
 refine xA p ms ps _ (by rw[List.length_map,hps]) λi=>?_
 by_cases hi:i<lines.length
 ·have hz:(lines[i],ps[i]'(by omega))∈lines.zip ps:=List.mem_iff_getElem.mpr ⟨i,by simp;omega,by simp⟩
  obtain⟨k,hk⟩:=hf _ hz
  rw[tW _ _ (show i<ps.length by omega),tW _ _ (show i<(lines.map λl=>dot l x).length by simpa using hi),List.getElem_map]
  exact⟨-k,by simp only at hk;grind⟩
 ·have e1:g ps i=0:=by unfold g;rw[List.getD_eq_getElem?_getD,List.getElem?_eq_none (by omega)];rfl
  have e2:g (lines.map λl=>dot l x) i=0:=by unfold g;rw[List.getD_eq_getElem?_getD,List.getElem?_eq_none (by simp;omega)];rfl
  rw[e1,e2];exact⟨0,by omega⟩
theorem G8{lines:List (List Int)}{ps ms x:List Int}(hp:1<p)(hl:∀l∈lines,Rw p w l)(hps:ps.length=lines.length)(hm:ms.length=lines.length)(h1:∀j,j<w→p ∣ dot ms (col lines j))(h2:p ∣ dot ms ps-1)(hf:Fit p lines ps x):False:=by
 have a:=sA p w x lines ms (List.replicate w 0) hm (λl h=>(hl l h).1) (by simp) λj hj=>by
  have e0:g (List.replicate w 0) j=0:=by unfold g;rw[List.getD_eq_getElem?_getD,List.getElem?_replicate];split<;>rfl
  rw[e0,Int.sub_zero];exact h1 j hj
 rw[h8] at a
 obtain⟨k,hk⟩:=a
 obtain⟨t,ht⟩:=xB hps hf ms
 obtain⟨u,hu⟩:=h2
 have:=Int.le_of_dvd (by omega) (show p ∣ 1 from ⟨k+t-u,by grind⟩)
 omega
theorem zr{lines:List (List Int)}{ps ms:List Int}(hp:1<p)(hl:∀l∈lines,Rw p w l)(hps:ps.length=lines.length)(hm:ms.length=lines.length)(h1:∀j,j<w→p ∣ dot ms (col lines j))(h2:p ∣ dot ms ps-1)(h:Nat):jI p w lines ps h=0:=by
 unfold jI cnt
 rw[List.countP_eq_zero]
 intro x _ hx
 rw[Bool.and_eq_true,iI] at hx
 exact G8 hp hl hps hm h1 h2 hx.1
theorem Ci(hp:0<p)(hw:0<w)(lines:List (List Int))(ps:List Int):cnt p w (fits p lines ps)=((List.range p.toNat).map λ(i:Nat)=>jI p w lines ps i).sum:=by
 rw[Ax hp (fits p lines ps) (eu w 0)]
 congr 1
 refine List.map_congr_left λi hi=>?_
 have hi:=List.mem_range.mp hi
 refine gi hp λx hx=>?_
 rw[Bool.and_eq_true,Bool.and_eq_true,decide_eq_true_eq,decide_eq_true_eq,vY hp hw hx i (by omega)]
theorem uI{lines:List (List Int)}{ps x tv:List Int}{f:Nat}(hp:1<p)(hw:0<w)(hl:∀l∈lines,Rw p w l)(hps:ps.length=lines.length)(hx:Rw p w x)(hf:Fit p lines ps x)(ht:Rw p w tv)(h1:∀l∈lines,p ∣ dot l tv)(h2:g tv 0=1)(hc:cnt p w (sq p lines)=p.toNat ^ f)(h:Nat)(hh:(h:Int)<p):1≤f∧jI p w lines ps h=p.toNat ^ (f-1):=by
 have ev:∀a b:Nat,(a:Int)<p→(b:Int)<p→jI p w lines ps a=jI p w lines ps b:=λa b ha hb=>by
  have:=EF (p:=p) (w:=w) (r:=eu w 0) (by omega) ht.1 (by rw[gZ w 0 tv hw,h2];exact⟨0,by omega⟩) (fits p lines ps) (λn y hy=>by
   rw[Bool.eq_iff_iff,iI,iI];exact G7 hl hy.1 ht.1 n h1) (a:Int) (b:Int)
  unfold jI
  rw[gi (p:=p) (w:=w) (by omega) (Q:=λx=>fits p lines ps x && decide (p ∣ dot (eu w 0) x-(a:Int))) (λy hy=>by rw[Bool.and_eq_true,Bool.and_eq_true,decide_eq_true_eq,decide_eq_true_eq,vY (by omega) hw hy a ha]),this]
  exact (gi (p:=p) (w:=w) (by omega) (λy hy=>by rw[Bool.and_eq_true,Bool.and_eq_true,decide_eq_true_eq,decide_eq_true_eq,vY (by omega) hw hy b hb])).symm
 have hs:=Ci (p:=p) (w:=w) (by omega) hw lines ps
 rw[xy (by omega) hl hps hx hf,hc,pW p.toNat _ (jI p w lines ps h) λi hi=>ev i h (by omega) hh] at hs
 have hp1:1<p.toNat:=by omega
 have hf1:1≤f:=by
  cases f with
  | zero =>
   exfalso
   rw[Nat.pow_zero] at hs
   have:p.toNat ∣ 1:=⟨_,hs⟩
   have:=Nat.le_of_dvd (by omega) this
   omega
  | succ f=>omega
 refine⟨hf1,?_⟩
 have e:p.toNat ^ f=p.toNat*p.toNat ^ (f-1):=by
  obtain⟨k,rfl⟩:∃k,f=k+1:=⟨f-1,by omega⟩
  rw[Nat.pow_succ,Nat.add_sub_cancel,Nat.mul_comm]
 rw[e] at hs
 exact (Nat.eq_of_mul_eq_mul_left (by omega) hs).symm
theorem uJ{lines:List (List Int)}{ps x ms:List Int}{f:Nat}(hp:1<p)(hw:0<w)(hl:∀l∈lines,Rw p w l)(hps:ps.length=lines.length)(hx:Rw p w x)(hf:Fit p lines ps x)(hm:ms.length=lines.length)(h1:∀j,j<w→p ∣ dot ms (col lines j)-g (eu w 0) j)(hc:cnt p w (sq p lines)=p.toNat ^ f)(h:Nat):jI p w lines ps h=if (h:Int)=dot ms ps%p then p.toNat ^ f else 0:=by
 have hid:∀y,Rw p w y→Fit p lines ps y→g y 0=dot ms ps%p:=λy hy hfy=>by
  obtain⟨k,hk⟩:=sA p w y lines ms (eu w 0) hm (λl h=>(hl l h).1) (zl _ _) h1
  obtain⟨t,ht⟩:=xB hps hfy ms
  rw[gZ w 0 y hw] at hk
  have gb:=hy.g0 (by omega) 0
  rw[show dot ms ps=g y 0+p*(k+t) by grind,Int.add_mul_emod_self_left]
  exact (Int.emod_eq_of_lt gb.1 gb.2).symm
 by_cases e:(h:Int)=dot ms ps%p
 ·rw[if_pos e,← hc,← xy (by omega) hl hps hx hf]
  refine gi (by omega) λy hy=>?_
  rw[Bool.and_eq_true,iI,decide_eq_true_eq]
  exact⟨λq=>q.1,λq=>⟨q,by rw[hid y hy q,e]⟩⟩
 ·rw[if_neg e]
  unfold jI cnt
  rw[List.countP_eq_zero]
  intro y hy hq
  rw[Bool.and_eq_true,iI,decide_eq_true_eq] at hq
  have:=hid y ((dI (by omega)).mp hy) hq.1
  exact e (by rw[← this,hq.2])
end
theorem nn:(("none":Str)=="none")=true:=by decide +kernel
theorem on:(("one":Str)=="none")=false:=by decide +kernel
theorem an:(("any":Str)=="none")=false:=by decide +kernel
theorem aa:(("any":Str)=="any")=true:=by decide +kernel
theorem oa:(("one":Str)=="any")=false:=by decide +kernel
theorem vZ(n:Nat)(a:Int):T.lst (List.replicate n (T.int a))=li (List.replicate n a):=by rw[li,List.map_replicate]
def cw(p:Int)(w:Nat)(lines:List (List Int))(ps:List Int):List Int:=(List.range p.toNat).map λh=>(jI p w lines ps h:Int)
theorem sF{p:Int}{w:Nat}{rows:Rows}{seen:List (Option Int)}(H:Tbl p w rows)(hs:Seen p rows seen)(y:SV)(μ:ah)(hy:rd μ y=some (.lst (seen.map sT))){fr:Nat}(hc:cnt p w (sq p (linesAt rows (ay seen)))=p.toNat ^ fr) :
  (∃ms,eP [.val (tb p w rows),y] μ=.ok (.val (.tup [.str "none",li ms])) μ∧cw p w (linesAt rows (ay seen)) (aB seen)=List.replicate p.toNat 0) ∨
  (∃tv,eP [.val (tb p w rows),y] μ=.ok (.val (.tup [.str "any",tu tv])) μ∧1≤fr∧cw p w (linesAt rows (ay seen)) (aB seen)=List.replicate p.toNat (p ^ (fr-1))) ∨
  (∃(d:Int) (ms:List Int),eP [.val (tb p w rows),y] μ=.ok (.val (.tup [.str "one",.int d,li ms])) μ∧0≤d∧d<p∧cw p w (linesAt rows (ay seen)) (aB seen)=(List.replicate p.toNat 0).set d.toNat (p ^ fr)):=by
 have hb:=H.pr.pos
 have hw0:=H.w0
 obtain⟨f0,f1,f2,f3,f4⟩:=nS H hs
 have hp2:(p.toNat:Int)=p:=by omega
 have cp:∀n:Nat,((p.toNat ^ n:Nat):Int)=p ^ n:=λn=>by rw[Int.natCast_pow,hp2]
 rcases ML H hs y μ hy with ⟨ms,e,a1,a2,a3⟩|⟨tv,x,e,hx,hf,a1,a2,a3⟩|⟨ms,x,e,hx,hf,a1,a2⟩
 ·refine .inl ⟨ms,e,?_⟩
  unfold cw
  refine List.eq_replicate_iff.mpr ⟨by simp,λb hb2=>?_⟩
  obtain⟨h,_,rfl⟩:=List.mem_map.mp hb2
  rw[zr (by omega) f2 f3 a1.1 a2 a3];rfl
 ·have lE:∀h:Nat,(h:Int)<p→_:=λh hh=>uI (by omega) hw0 f2 f3 hx hf a1 a2 a3 hc h hh
  refine .inr (.inl ⟨tv,e,(lE 0 (by omega)).1,?_⟩)
  unfold cw
  refine List.eq_replicate_iff.mpr ⟨by simp,λb hb2=>?_⟩
  obtain⟨h,hm,rfl⟩:=List.mem_map.mp hb2
  have hm:=List.mem_range.mp hm
  rw[(lE h (by omega)).2,cp]
 ·have lE:=λh:Nat=>uJ (by omega) hw0 f2 f3 hx hf a1.1 a2 hc h
  have v0:=Int.emod_nonneg (dot ms (aB seen)) (show p≠0 by omega)
  have v1:=Int.emod_lt_of_pos (dot ms (aB seen)) (show 0<p by omega)
  refine .inr (.inr ⟨_,ms,e,v0,v1,?_⟩)
  generalize dot ms (aB seen)%p=d at *
  apply List.ext_getElem?
  intro i
  unfold cw
  rw[List.getElem?_map,List.getElem?_set,List.length_replicate]
  by_cases hi:i<p.toNat
  ·rw[List.getElem?_range hi,Option.map_some,lE i]
   by_cases hd:d.toNat=i
   ·rw[if_pos (show (i:Int)=d by omega),if_pos hd,if_pos (by omega),cp]
   ·rw[if_neg (show ¬ (i:Int)=d by omega),if_neg hd,List.getElem?_replicate,if_pos hi];rfl
  ·rw[List.getElem?_eq_none (by simp;omega),if_neg (by omega),List.getElem?_replicate,if_neg hi];rfl
end Fw.F
namespace Fw.J
open PySem Fw Fw.H Fw.E Fw.F
def pY(p:Int)(xs ys:List Int):List Int:=(xs.zip ys).map λq=>(q.1+q.2)%p
theorem sG(p:Int)(xs ys:List Int):pY p xs ys=sub p (-1) xs ys:=by
 unfold pY sub
 refine List.map_congr_left λq _=>?_
 rw[show q.1- -1*q.2=q.1+q.2 by lia]
def xC:DS :=
 (aH (aT (fh (aw (ae 0) (dC (.int 2)))) [none,some 1,some 0] (aD 0) (dC (.bl true)) (au (cal b3) [(aw (ae 2) (dC (.int 0))),(aw (ae 0) (dC (.int 1))),(ae 1)])))
theorem G9{p:Int}{w:Nat}{rows:Rows}(H:Tbl p w rows)(fs:List Int)(y:SV)(μ:ah)(h2:(rd μ y).bind bg=some (fs.map T.int)) :
  fnV 2 xC [.val (tb p w rows),y] μ=.ok (.val (li (parts p rows fs))) μ:=by
 have hb:=H.pr.pos
 have hn:=H.n
 have hw:=H.w1
 have e:bU (λ_=>True) (aD 0) (dC (.bl true)) (au (cal b3) [(aw (ae 2) (dC (.int 0))),(aw (ae 0) (dC (.int 1))),(ae 1)]) [none,some y,some (.val (.tup [.int p,.int w,.tup (rows.map rt)]))] (rows.map rt) μ=.ok ((parts p rows fs).map T.int) μ:=by
  rw[bz rt (λq:Int×List Int=>.int (dot q.2 fs%p)) trivial]
  ·simp[parts,Function.comp_def]
  ·rintro⟨h,l⟩ hq
   refine⟨_,rfl,?_⟩
   have hR:=H.li _ hq
   have:=xu p l fs (.val (tu l)) y μ (by lia) (λa ha=>⟨hR.2 a ha,by have:=hR.3 a ha;lia⟩) (by have h3:l.length=w:=hR.1;lia) rfl h2
   simp?! only[rt,this]
 have ls:(rows.map rt).length≤szL:=by rw[List.length_map];unfold szL;lia
 unfold xC tb
 simp?! only[e,ls]
theorem Cj(p m:Int)(rows:Rows)(fs gs:List Int)(h:fs.length=gs.length):parts p rows (sub p m fs gs)=sub p m (parts p rows fs) (parts p rows gs):=by
 unfold parts
 induction rows with
 | nil=>rfl
 | cons q rows ih =>
  rw[List.map_cons,List.map_cons,List.map_cons,ih]
  show _=_::_
  refine congr (congrArg _ ?_) rfl
  obtain⟨t,ht⟩:=mK p m fs gs q.2 h
  show dot q.2 (sub p m fs gs)%p=(dot q.2 fs%p-m*(dot q.2 gs%p))%p
  rw[ht]
  obtain⟨t1,h1⟩:=md (dot q.2 fs) p
  obtain⟨t2,h2⟩:=md (dot q.2 gs) p
  rw[show dot q.2 fs-m*dot q.2 gs+p*t=(dot q.2 fs%p-m*(dot q.2 gs%p))+p*(t+t1-m*t2) by rw[h1,h2];grind,Int.add_mul_emod_self_left]
theorem Ck(p:Int)(rows:Rows)(fs gs:List Int)(h:fs.length=gs.length):parts p rows (pY p fs gs)=pY p (parts p rows fs) (parts p rows gs):=by
 rw[sG,sG,Cj p (-1) rows fs gs h]
theorem G_{p:Int}{n:Nat}{xs ys:List Int}(hp:0<p)(h1:xs.length=n)(h2:ys.length=n):Rw p n (pY p xs ys):=by rw[sG];exact pT hp _ h1 h2
end Fw.J
namespace Fw.K
open PySem Fw Fw.H Fw.E Fw.F Fw.J
def EN:DS :=
 (ax (sIf (aj fLt (ae 1) (fV (ae 0))) (aH (aw (ae 0) (ae 1))) b_)
 (ax (aC 2 (aj bw (aj aQ (ae 1) (dC (.int 48271))) (dC (.int 977))))
 (ax (sIf (aj fGt (fV (ae 0)) (dC (.int 0))) (aC 2 (aj bw (ae 2) (aj aQ (aj aW (aw (ae 0) (aj aW (aj aQ (ae 1) (dC (.int 3))) (fV (ae 0)))) (dC (.int 2147483647))) (dC (.int 40692))))) b_)
 (aH (aj aW (aj aQ (aj aW (aj aQ (ae 2) (ae 2)) (dC (.int 2147483629))) (dC (.int 69621))) (dC (.int 2147483587)))))))
def AF:FN:=fnV 3 EN
theorem EO{k:Int}(h0:0≤k)(h1:k≤1000)(a:Int):-18446744073709551616<k*48271+977+a%2147483647*40692∧k*48271+977+a%2147483647*40692<18446744073709551616:=by omega
theorem Cm{k:Int}(h0:0≤k)(h1:k≤1000):-18446744073709551616<k*48271+977∧k*48271+977<18446744073709551616:=by omega
def ER:DS:=(aH (aj aW (aj aQ (aj aW (aj aQ (ae 2) (ae 2)) (dC (.int 2147483629))) (dC (.int 69621))) (dC (.int 2147483587))))
theorem xD(ns:T)(k y:Int)(h:-18446744073709551616<y∧y<18446744073709551616)(μ:ah):ER [some (.val ns),some (.val (.int k)),some (.val (.int y))] μ=.rt (.val (.int (y*y%2147483629*69621%2147483587))) μ:=by
 unfold ER
 have hyy:aQ (.int y) (.int y)=some (.int (y*y)):=h_ _ _ h.1 h.2
 have m4:∀a,aQ (.int a) (.int 69621)=some (.int (a*69621)):=λa=>h_ _ _ (by decide) (by decide)
 simp?! only[hyy,m4]
theorem Cn:EN=(ax (sIf (aj fLt (ae 1) (fV (ae 0))) (aH (aw (ae 0) (ae 1))) b_)
 (ax (aC 2 (aj bw (aj aQ (ae 1) (dC (.int 48271))) (dC (.int 977))))
 (ax (sIf (aj fGt (fV (ae 0)) (dC (.int 0))) (aC 2 (aj bw (ae 2) (aj aQ (aj aW (aw (ae 0) (aj aW (aj aQ (ae 1) (dC (.int 3))) (fV (ae 0)))) (dC (.int 2147483647))) (dC (.int 40692))))) b_)
 ER))):=rfl
theorem i7(ns:List Int)(k:Int)(h0:0≤k)(h1:k≤1000):∃c,∀μ,AF [.val (.lst (ns.map T.int)),.val (.int k)] μ=.ok (.val (.int c)) μ:=by
 unfold AF
 rw[Cn]
 have m1:aQ (.int k) (.int 48271)=some (.int (k*48271)):=h_ _ _ (by decide) (by decide)
 by_cases h:k<ns.length
 ·have hl:decide (k<(ns.length:Int))=true:=decide_eq_true h
  exact⟨_,λμ=>by simp?! only[List.length_map,hl,kC h0 h];rfl⟩
 ·have hl:decide (k<(ns.length:Int))=false:=decide_eq_false h
  by_cases h2:0<ns.length
  ·have hp:(0:Int)<ns.length:=Int.ofNat_lt.mpr h2
   have p1:k*3%(ns.length:Int)<ns.length:=Int.emod_lt_of_pos _ hp
   have n0:decide ((ns.length:Int) > 0)=true:=decide_eq_true hp
   have n0':decide (0<(ns.length:Int))=true:=decide_eq_true hp
   obtain⟨a,ht⟩:∃a,atI (ns.map T.int) (k*3%(ns.length:Int))=some (.int a):=⟨_,kC (xs:=ns) (f:=T.int) (Int.emod_nonneg _ (Int.ne_of_gt hp)) p1⟩
   have m3:aQ (.int k) (.int 3)=some (.int (k*3)):=h_ _ _ (by decide) (by decide)
   have hmm:aW (.int (k*3)) (.int (ns.length:Int))=some (.int (k*3%(ns.length:Int))):=fu _ _ hp
   have hma:aQ (.int (a%2147483647)) (.int 40692)=some (.int (a%2147483647*40692)):=h_ _ _ (by decide) (by decide)
   exact⟨_,λμ=>by simp?! only[List.length_map,hl,m1,m3,n0,n0',hmm,ht,hma,xD _ _ _ (EO h0 h1 a)];rfl⟩
  ·have hp:¬ (0:Int)<ns.length:=λh=>h2 (Int.ofNat_lt.mp h)
   have n0:decide ((ns.length:Int) > 0)=false:=decide_eq_false hp
   have n0':decide (0<(ns.length:Int))=false:=decide_eq_false hp
   exact⟨_,λμ=>by simp?! only[List.length_map,hl,m1,n0,n0',xD _ _ _ (Cm h0 h1)];rfl⟩
def AG:DS :=
 (ax (aC 2 (aj aW (aj aQ (aj bw (aj aW (ae 0) (dC (.int 2147483647))) (dC (.int 1))) (aj bw (dC (.int 48271)) (aj aQ (ae 1) (ae 1)))) (dC (.int 2147483629))))
 (aH (aj aW (aj aQ (aj aW (aj aQ (ae 2) (aj bw (ae 2) (aj aQ (dC (.int 977)) (ae 1)))) (dC (.int 2147483587))) (dC (.int 40692))) (dC (.int 2147483399)))))
def sH:FN:=fnV 3 AG
theorem ES(c k:Int)(h0:0≤k)(h1:k≤1000):∃d,∀μ,sH [.val (.int c),.val (.int k)] μ=.ok (.val (.int d)) μ:=by
 unfold sH AG
 have m1:aQ (.int k) (.int k)=some (.int (k*k)):=h_ _ _ (by omega) (by omega)
 have m2:∀b,aQ (.int (c%2147483647+1)) (.int b)=some (.int ((c%2147483647+1)*b)):=λb=>iQ _ _ (by omega) (by omega)
 have m3:aQ (.int 977) (.int k)=some (.int (977*k)):=iQ _ _ (by decide) (by decide)
 have m4:∀a b,aQ (.int (a%2147483629)) (.int b)=some (.int (a%2147483629*b)):=λa b=>iQ _ _ (by omega) (by omega)
 have m5:∀a,aQ (.int (a%2147483587)) (.int 40692)=some (.int (a%2147483587*40692)):=λa=>h_ _ _ (by decide) (by decide)
 exact⟨_,λμ=>by simp?! only[m1,m2,m3,m4,m5];rfl⟩
def pg:DS:=(sIf (ae 3) (ax (ee (ae 4) (aj aW (ae 0) (ae 1)))
 (aC 0 (aj iJ (ae 0) (ae 1)))) (ee (ae 4) (aj aW (aj iJ (au (cal sH) [(ae 0),(ae 5)]) (dC (.int 7))) (ae 1))))
def pZ:DS :=
 (ax (aC 4 (cS (ft [])))
 (ax (eQ (aV (ae 2)) (aD 5) pg)
 (aH (ae 4))))
theorem zt(c base:Int)(n:Nat)(bd:Bool)(hm:0<base)(hm2:base<1000000)(hn:n≤1000)(μ:ah) :
  ∃r,pZ (starts 6 [.val (.int c),.val (.int base),.val (.int n),.val (.bl bd)]) μ=.rt (.cel μ.length) (μ++[(true,li r)])∧Rw base n r:=by
 have rn:eO (n:Int)=true:=cZ (by omega) (by omega)
 obtain⟨e',μ',h1,x0,x5,r,rfl,rfl,hR⟩:=fO (same:=λ_=>True) (b:=aD 5) (ts:=bq 0 (n:Int).toNat) (body:=pg)
  (I:=λi e μ1=>∃x0 x5 r,e=[some (.val (.int x0)),some (.val (.int base)),some (.val (.int n)),some (.val (.bl bd)),some (.cel μ.length),x5]∧μ1=μ++[(true,li r)]∧Rw base i r)
  (λ_ _ _ _=>trivial) (λi t e μ1 ht aq=>by
   obtain⟨x0,x5,r,he,hμ,hR⟩:=aq
   subst he hμ
   obtain⟨k,rfl,hi,hk⟩:=ox ht
   have hi:i<n:=by simpa using hi
   have hl:(r.map T.int).length<szL:=by have:=hR.1;unfold szL;simp;omega
   generalize hq:(true,li r)=q
   have hls:oi (.cel μ.length) (μ++[q])=some ():=by rw[← hq];exact ow _ _ _ _
   have hap:∀t,appendAt (.cel μ.length) t (μ++[q])=some (μ++[(true,T.lst (r.map T.int++[t]))]):=λt=>by rw[← hq];exact nh _ _ _ _ hl
   have xp:∀a:Int,aW (.int a) (.int base)=some (.int (a%base)):=λa=>fu _ _ (by omega)
   have hdiv:∀a:Int,iJ (.int a) (.int base)=some (.int (a / base)):=λa=>wz _ _ (by omega) (by omega)
   cases bd with
   | true =>
    refine⟨_,_,_,rfl,?_,x0 / base,some (.val (.int k)),r++[x0%base],rfl,rfl,E.Rw.snoc hR (Int.emod_nonneg _ (by omega)) (Int.emod_lt_of_pos _ hm)⟩
    unfold pg
    simp?! only[hls,hap,xp,hdiv]
    simp
   | false =>
    obtain⟨d,hd⟩:=ES x0 k (by omega) (by omega)
    refine⟨_,_,_,rfl,?_,x0,some (.val (.int k)),r++[d / 7%base],rfl,rfl,E.Rw.snoc hR (Int.emod_nonneg _ (by omega)) (Int.emod_lt_of_pos _ hm)⟩
    unfold pg
    simp?! only[hd,hls,hap,xp]
    simp)
  (e:=[some (.val (.int c)),some (.val (.int base)),some (.val (.int n)),some (.val (.bl bd)),some (.cel μ.length),none]) (μ:=μ++[(true,li [])]) ⟨c,none,[],rfl,rfl,rfl,by simp,by simp⟩
 rw[cc,Int.toNat_natCast] at hR
 refine⟨r,?_,hR⟩
 unfold pZ
 simp?! only[rn]
 rw[show (true,T.lst [])=(true,li []) from rfl,h1]
 simp?! only[]
theorem ET(c base:Int)(n:Nat)(bd:Bool)(hm:0<base)(hm2:base<1000000)(hn:n≤1000)(μ:ah) :
  ∃r,fnV 6 pZ [.val (.int c),.val (.int base),.val (.int n),.val (.bl bd)] μ=.ok (.val (li r)) μ∧Rw base n r:=by
 obtain⟨r,h,hR⟩:=zt c base n bd hm hm2 hn μ
 exact⟨r,by rw[hU,h,oj,k_],hR⟩
theorem Ha(i k:Int)(h0:0≤k)(h1:k≤64):Bd (.int i) (.int k)=some (.int (i / 2 ^ k.toNat)):=if_pos ⟨h0,h1⟩
def AH:DS :=
 (aH (aT (aV (dC (.int 6))) [none,some 0] (aD 0) (aj fEq (aj nq (aj Bd (ae 1) (ae 0)) (dC (.int 1))) (dC (.int 1))) (ae 0)))
theorem ph(c:Int):∃hs:List Int,hs.length≤6∧(∀h∈hs,0≤h∧h<6)∧∀μ,fnV 1 AH [.val (.int c)] μ=.ok (.val (li hs)) μ:=by
 have e9:∀μ,bU (λ_=>True) (aD 0) (aj fEq (aj nq (aj Bd (ae 1) (ae 0)) (dC (.int 1))) (dC (.int 1))) (ae 0) [none,some (.val (.int c))] (bq 0 (6:Int).toNat) μ=.ok (((bB 0 6).filter λj=>(c / 2 ^ j.toNat%2==1)).map T.int) μ:=λμ=>by
  rw[fv,kD (λj=>(c / 2 ^ j.toNat%2==1)) T.int trivial]
  ·rfl
  intro j hj
  have hj:=ni.mp hj
  have s1:=Ha c j hj.1 (by simp at hj;omega)
  refine⟨_,rfl,?_,λ_=>?_⟩
  ·simp?! only[s1,yv]
  ·simp?! only[]
 have r6:eO 6=true:=cZ (by omega) (by omega)
 have l6:(bq 0 (6:Int).toNat).length≤szL:=by rw[cc];unfold szL;decide
 refine⟨(bB 0 6).filter λj=>(c / 2 ^ j.toNat%2==1),Nat.le_trans (List.length_filter_le _ _) (by rw[jO];exact Nat.le_refl _),λh hh=>?_,λμ=>by unfold AH;simp?! only[r6,e9,l6]⟩
 have:=ni.mp (List.mem_filter.mp hh).1
 omega
def EU:DS :=
 (aH (aT (aV (fV (aw (ae 0) (dC (.int 2))))) [none,some 1,some 0] (aD 0) (aj fIn (aw (aw (aw (ae 2) (dC (.int 2))) (ae 0)) (dC (.int 0))) (ae 1)) (ae 0)))
theorem pb{p:Int}{w:Nat}{rows:Rows}(hn:rows.length≤24)(cE:List Int)(y:SV)(μ:ah)(h2:rd μ y=some (li cE)) :
  fnV 2 EU [.val (tb p w rows),y] μ=.ok (.val (li (nums (rowsOf rows cE)))) μ:=by
 have Sz:(List.map rt rows).length=rows.length:=List.length_map ..
 have rn:eO (rows.length:Int)=true:=cZ (by omega) (by omega)
 have ln:(bq 0 (rows.length:Int).toNat).length≤szL:=by rw[cc];unfold szL;omega
 have e12:bU (λ_=>True) (aD 0) (aj fIn (aw (aw (aw (ae 2) (dC (.int 2))) (ae 0)) (dC (.int 0))) (ae 1)) (ae 0) [none,some y,some (.val (.tup [.int p,.int w,.tup (rows.map rt)]))] (bq 0 (rows.length:Int).toNat) μ=.ok ((nums (rowsOf rows cE)).map T.int) μ:=by
  have e0:bq 0 (rows.length:Int).toNat=(List.range rows.length).map λ(i:Nat)=>T.int (i:Int):=by rw[fv,fk,Int.toNat_natCast,List.map_map];rfl
  rw[e0,lO (λ(i:Nat)=>T.int (i:Int)) (λi=>decide ((hG rows i).1∈cE)) (λ(i:Nat)=>T.int (i:Int)) trivial]
  ·rw[← su];rfl
  ·intro i hi
   have hi:=List.mem_range.mp hi
   have a1:atI (rows.map rt) (i:Int)=some (rt (hG rows i)):=by
    rw[kC (by omega) (by omega)]
    simp[hG,hi]
   refine⟨_,rfl,?_,λ_=>?_⟩
   ·simp?! only[a1,rt,h2,rj]
   ·simp?! only[]
 unfold EU tb
 simp?! only[Sz,rn,ln,e12]
def AI:DS :=
 (aH (aT (fh (aw (ae 0) (dC (.int 2)))) [none,none,some 0,some 1] (cR [0,1]) (dC (.bl true)) (aj aW (dUn mZ (aT (pE (ae 1) (ae 3)) [none,none] (cR [0,1]) (dC (.bl true)) (aj aQ (ae 0) (ae 1)))) (aw (ae 2) (dC (.int 0))))))
theorem EV{p:Int}{w:Nat}{l:List Int}(hR:Rw p w l)(hp:p≤97)(fs:List Int)(S:ah→Prop)(μ:ah)(hS:S μ) :
  bU S (cR [0,1]) (dC (.bl true)) (aj aQ (ae 0) (ae 1)) [none,none] (g_ (l.map T.int) (fs.map T.int)) μ=.ok ((l.zip fs).map λq=>T.int (q.1*q.2)) μ:=by
 rw[j6,bz _ (λq:Int×Int=>.int (q.1*q.2)) hS]
 rintro⟨a,b⟩ hq
 have hm:=(List.of_mem_zip hq).1
 have b0:=hR.2 a hm
 have b1:=hR.3 a hm
 have:aQ (.int a) (.int b)=some (.int (a*b)):=iQ _ _ (by omega) (by omega)
 refine⟨_,dS 0 1 _ _ _,?_⟩
 simp?! only[this]
theorem pj{p:Int}{w:Nat}{rows:Rows}(H:Tbl p w rows)(fs:List Int)(y:SV)(μ:ah)(h2:(rd μ y).bind bg=some (fs.map T.int)) :
  fnV 2 AI [.val (tb p w rows),y] μ=.ok (.val (li (parts p rows fs))) μ:=by
 have hb:=H.pr.pos
 have hp0:0<p:=Int.lt_of_lt_of_le (by decide) hb.1
 have hn:=H.n
 have hw:=H.w1
 have xp:∀a:Int,aW (.int a) (.int p)=some (.int (a%p)):=λa=>fu _ _ (by omega)
 have e:bU (λ_=>True) (cR [0,1]) (dC (.bl true)) (aj aW (dUn mZ (aT (pE (ae 1) (ae 3)) [none,none] (cR [0,1]) (dC (.bl true)) (aj aQ (ae 0) (ae 1)))) (aw (ae 2) (dC (.int 0)))) [none,none,some (.val (.tup [.int p,.int w,.tup (rows.map rt)])),some y] (rows.map rt) μ=.ok ((parts p rows fs).map T.int) μ:=by
  rw[bz rt (λq:Int×List Int=>T.int (dot q.2 fs%p)) trivial]
  ·simp[parts]
  ·rintro⟨h,l⟩ hq
   have hR:=H.li _ hq
   have hlw:l.length=w:=hR.1
   have ls:(g_ (l.map T.int) (fs.map T.int)).length≤szL:=by rw[lP,List.length_map];unfold szL;omega
   have hz:=λS hS=>EV hR hb.2 fs S μ hS
   have hs:mZ (.lst ((l.zip fs).map λq=>T.int (q.1*q.2)))=some (.int (dot l fs)):=by rw[lN,AB]
   refine⟨_,dS 0 1 (.int h) (tu l) _,?_⟩
   simp?! only[h2]
   rw[hz _ (by simp)]
   simp?! only[ls,hs,xp]
 have lr:(rows.map rt).length≤szL:=by rw[List.length_map];unfold szL;omega
 unfold AI tb
 simp?! only[e,lr]
section
variable{p:Int}{w:Nat}{rows:Rows}{is:List Nat}
end
theorem J6:(("open":Str)=="open")=true:=by decide +kernel
theorem MN:(("shut":Str)=="open")=false:=by decide +kernel
theorem EW:(("shut":Str)=="shut")=true:=by decide +kernel
def iU:DS :=
 (aH (aj bw (jK [(ae 0)]) (dUn dR (ae 1))))
def dN:FN:=fnV 2 iU
theorem zu(a:Int)(cs:List Int)(y:SV)(μ:ah)(hl:cs.length≤1000)(h:rd μ y=some (li cs)):dN [.val (.int a),y] μ=.ok (.val (tu (a::cs))) μ:=by
 have fa:bw (.tup [.int a]) (.tup (cs.map T.int))=some (tu (a::cs)):=by
  rw[wx _ _ (by simp[szL];omega)];rfl
 unfold dN iU
 simp?! only[h,fa]
theorem uK(p:Int)(rows:Rows)(fs:List Int):(parts p rows fs).length=rows.length:=by unfold parts;rw[List.length_map]
theorem sI{p:Int}(hp:0<p)(rows:Rows)(fs:List Int):Rw p rows.length (parts p rows fs):=by
 refine⟨uK p rows fs,λx hx=>?_,λx hx=>?_⟩
 ·obtain⟨q,_,rfl⟩:=List.mem_map.mp hx;exact Int.emod_nonneg _ (by omega)
 ·obtain⟨q,_,rfl⟩:=List.mem_map.mp hx;exact Int.emod_lt_of_pos _ hp
end Fw.K
namespace Fw.k95
open PySem Fw Fw.H Fw.E Fw.F Fw.J
theorem i7(ns:List Int)(k:Int)(h0:0≤k)(h1:k≤1000):∃c,∀μ,aS [.val (.lst (ns.map T.int)),.val (.int k)] μ=.ok (.val (.int c)) μ:=K.i7 ns k h0 h1
theorem jq(c base:Int)(n:Nat)(bd:Bool)(hm:0<base)(hm2:base<1000000)(hn:n≤1000)(μ:ah) :
  ∃r,ba [.val (.int c),.val (.int base),.val (.int n),.val (.bl bd)] μ=.ok (.val (li r)) μ∧Rw base n r:=K.ET c base n bd hm hm2 hn μ
theorem ph(c:Int):∃hs:List Int,hs.length≤6∧(∀h∈hs,0≤h∧h<6)∧∀μ,eI [.val (.int c)] μ=.ok (.val (li hs)) μ:=K.ph c
theorem xE{p:Int}(hP:iS p)(w:Nat)(hw:w≤100)(hpw:p.toNat ^ w≤1000)(μ:ah):cH [.val (.int p),.val (.int w)] μ=.ok (.val (.lst ((cP p w).map li))) μ:=by
 have hb:=hP.pos
 have rw_:eO (w:Int)=true:=cZ (by omega) (by omega)
 have rp:eO p=true:=cZ (by omega) (by omega)
 have lp:(bq 0 p.toNat).length≤szL:=by rw[cc];unfold szL;omega
 obtain⟨e',μ',h1,sv,G,x3,x4,x5,rfl,rfl,hsv,hsk⟩:=fO (same:=λ_=>True) (b:=aD 3) (ts:=bq 0 (w:Int).toNat) (body:=(ax (aC 4 (cS (ft [])))
 (ax (eQ (fh (ae 2)) (aD 5) (oB (ae 4) (aT (aV (ae 0)) [none,some 5] (aD 0) (dC (.bl true)) (aj bw (ae 1) (ft [(ae 0)])))))
 (aC 2 (ae 4)))))
  (I:=λi e μ1=>∃(sv:SV) (G:ah) (x3 x4 x5:Option SV),e=[some (.val (.int p)),some (.val (.int w)),some sv,x3,x4,x5]∧μ1=μ++G∧(∀tl,rd (μ++G++tl) sv=some (.lst ((cP p i).map li)))∧∀k,sv=.cel k→μ.length≤k)
  (λ_ _ _ _=>trivial) (λi t e μ1 ht aq=>by
   obtain⟨sv,G,x3,x4,x5,he,hμ,hsv,_⟩:=aq
   subst he hμ
   obtain⟨k,rfl,hi,hk⟩:=ox ht
   have hi:i<w:=by simpa using hi
   generalize hM:μ++G=M at hsv
   have hpi:p.toNat ^ (i+1)≤1000:=Nat.le_trans (Nat.pow_le_pow_right (by omega) hi) hpw
   have hsz:=mL p i
   have fl:∀l:List (List Int),(l.flatMap λs=>(bB 0 p.toNat).map λa=>s++[a]).length=l.length*p.toNat:=by
    intro l
    induction l with
    | nil=>simp
    | cons s l ih=>rw[List.flatMap_cons,List.length_append,ih,List.length_map,jO,List.length_cons,Nat.succ_mul];omega
   obtain⟨e2,μ2,g1,z5,rfl,rfl⟩:=fO (same:=λμ'=>rd μ' sv=some (.lst ((cP p i).map li))) (b:=aD 5) (ts:=(cP p i).map li) (body:=(oB (ae 4) (aT (aV (ae 0)) [none,some 5] (aD 0) (dC (.bl true)) (aj bw (ae 1) (ft [(ae 0)])))))
    (I:=λj e μ1=>∃z5,e=[some (.val (.int p)),some (.val (.int w)),some sv,some (.val (.int k)),some (.cel M.length),z5]∧M++[(true,T.lst ((((cP p i).take j).flatMap λs=>(bB 0 p.toNat).map λa=>s++[a]).map li))]=μ1)
    (λj e μ1 cJ=>by obtain⟨_,_,h⟩:=cJ;rw[← h];exact hsv _) (λj t e μ1 ht qx=>by
     obtain⟨z5,he,hμ⟩:=qx
     subst he hμ
     rw[List.getElem?_map] at ht
     obtain⟨s,hs,rfl⟩:=Option.map_eq_some_iff.mp ht
     have hj:j<(cP p i).length:=(List.getElem?_eq_some_iff.mp hs).1
     have hsl:=xq (p:=p) (by omega) (List.mem_of_getElem? hs)
     have htk:(cP p i).take (j+1)=(cP p i).take j++[s]:=by rw[List.take_add_one,hs];rfl
     generalize D0:(((cP p i).take j).flatMap λs=>(bB 0 p.toNat).map λa=>s++[a])=acc
     have hal:acc.length=j*p.toNat:=by rw[← D0,fl,List.length_take,Nat.min_eq_left (by omega)]
     have hle:(j+1)*p.toNat≤1000:=by
      refine Nat.le_trans (Nat.mul_le_mul_right p.toNat (show j+1≤p.toNat ^ i by omega)) ?_
      rw[← Nat.pow_succ];exact hpi
     rw[Nat.succ_mul] at hle
     have ec:∀M',bU (λ_=>True) (aD 0) (dC (.bl true)) (aj bw (ae 1) (ft [(ae 0)])) [none,some (.val (li s))] (bq 0 p.toNat) M'=.ok (((bB 0 p.toNat).map λa=>s++[a]).map li) M':=λM'=>by
      rw[fv,uv (λa=>li (s++[a])) trivial]
      ·rw[List.map_map];rfl
      ·intro a ha
       have fa:bw (li s) (.lst [.int a])=some (li (s++[a])):=by
        rw[qJ _ _ (by rw[List.length_map,hsl];simp[szL];omega)];simp
       refine⟨_,rfl,?_⟩
       simp?! only[fa]
     have hls:oi (.cel M.length) (M++[(true,T.lst (acc.map li))])=some ():=ow _ _ _ _
     have hex:j7 (.cel M.length) (.lst (((bB 0 p.toNat).map λa=>s++[a]).map li)) (M++[(true,T.lst (acc.map li))])=some (M++[(true,T.lst ((acc++(bB 0 p.toNat).map λa=>s++[a]).map li))]):=by
      unfold j7
      simp only[gp]
      rw[if_pos (by rw[List.length_map,List.length_map,List.length_map,jO,hal];unfold szL;omega),kB,List.map_append]
     refine⟨_,_,M++[(true,T.lst ((acc++(bB 0 p.toNat).map λa=>s++[a]).map li))],rfl,?_,some (.val (li s)),rfl,?_⟩
     ·simp?! only[yu,hls,rp,ec,lp,hex]
     ·rw[htk,List.flatMap_append,D0];simp)
    (e:=[some (.val (.int p)),some (.val (.int w)),some sv,some (.val (.int k)),some (.cel M.length),x5]) (μ:=M++[(true,.lst [])]) ⟨x5,rfl,by simp⟩
   rw[List.length_map,List.take_length] at g1
   have SA:rd (M++[(true,T.lst [])]) sv=some (.lst ((cP p i).map li)):=hsv _
   refine⟨_,_,M++[(true,T.lst ((cP p (i+1)).map li))],rfl,?_,.cel M.length,G++[(true,T.lst ((cP p (i+1)).map li))],some (.val (.int k)),some (.cel M.length),z5,rfl,?_,λtl=>?_,λk e=>?_⟩
   ·simp?! only[SA,g1]
    rfl
   ·rw[← hM,List.append_assoc]
   ·rw[← List.append_assoc,hM,jN,List.append_assoc];simp
   ·cases e;rw[← hM];simp)
  (e:=[some (.val (.int p)),some (.val (.int w)),some (.val (.lst [.lst []])),none,none,none]) (μ:=μ) ⟨.val (.lst [.lst []]),[],none,none,none,rfl,by simp,λtl=>rfl,λk e=>by cases e⟩
 rw[cc,Int.toNat_natCast] at hsv
 have pH:ice μ.length sv (μ++G)=.ok (.val (.lst ((cP p w).map li))) μ:=by
  have h0:=hsv []
  rw[List.append_nil] at h0
  unfold ice
  cases sv with
  | val t =>
   rw[mC,R.aP,u_]
   have h0:some t=some (T.lst ((cP p w).map li)):=h0
   cases h0;rfl
  | cel k =>
   rw[jN] at h0
   obtain⟨⟨b,t⟩,hk,ht⟩:=Option.map_eq_some_iff.mp h0
   have ht:t=T.lst ((cP p w).map li):=ht
   subst ht
   rw[va hk,R.aP]
   have hkl:=hsk k rfl
   rw[List.set_append_right _ _ (by omega)]
   simp
  | box xs=>cases h0
 unfold cH la
 simp?! only[rw_,h1,pH]
section
variable{p:Int}{w:Nat}{rows:Rows}{seen:List (Option Int)}
theorem xF(hs:Seen p rows seen)(i:Nat)(hi:i<rows.length):atI (seen.map sT) (i:Int)=some (sT (cQ seen i)):=by
 have:=hs.len
 rw[kC (by omega) (by omega)]
 have:cQ seen i=seen[i]'(by omega):=by simp[cQ,show i<seen.length by omega]
 rw[this];simp
theorem Seen.set(hs:Seen p rows seen)(k:Nat)(v:Int)(h:0≤v∧v<p):Seen p rows (seen.set k (some v)) :=
 ⟨by rw[List.length_set];exact hs.len,λi hi=>by
  rcases List.mem_or_eq_of_mem_set hi with q|q
  ·exact hs.by_ i q
  ·cases q;exact h⟩
theorem xG(hs:Seen p rows seen)(x:List Int):Fit p (linesAt rows (ay seen)) (aB seen) x↔∀i,i<rows.length→∀v,cQ seen i=some v→p ∣ dot (hG rows i).2 x-v:=by
 have hl:=hs.len
 unfold Fit linesAt aB
 rw[List.zip_map']
 constructor
 ·intro h i hi v hv
  have:=h ((hG rows i).2,(cQ seen i).getD 0) (List.mem_map.mpr ⟨i,List.mem_filter.mpr ⟨List.mem_range.mpr (by omega),by rw[hv];rfl⟩,rfl⟩)
  rw[hv] at this
  exact this
 ·intro h q hq
  obtain⟨i,hi,rfl⟩:=List.mem_map.mp hq
  obtain⟨h1,h2⟩:=iH hi
  obtain⟨v,hv⟩:=Option.isSome_iff_exists.mp h2
  have:=h i (by omega) v hv
  rw[hv]
  exact this
def upTo(p:Int)(w:Nat)(lines:List (List Int))(ps:List Int)(i:Nat):List Int:=(List.range p.toNat).map λ(h:Nat)=>((((cP p w).take i).countP λx=>fits p lines ps x && decide (g x 0=(h:Int))):Int)
theorem Co{lines:List (List Int)}{ps x:List Int}{i:Nat}(hp:0<p)(hw:0<w)(hx:(cP p w)[i]?=some x):upTo p w lines ps (i+1)=if fits p lines ps x=true then (upTo p w lines ps i).set (g x 0).toNat (g (upTo p w lines ps i) (g x 0).toNat+1) else upTo p w lines ps i:=by
 have hR:Rw p w x:=(dI hp).mp (List.mem_of_getElem? hx)
 have hb:=hR.g0 hp 0
 have htk:(cP p w).take (i+1)=(cP p w).take i++[x]:=by rw[List.take_add_one,hx];rfl
 have hg:∀h:Nat,h<p.toNat→g (upTo p w lines ps i) h=((((cP p w).take i).countP λx=>fits p lines ps x && decide (g x 0=(h:Int))):Int):=λh hh=>by
  unfold upTo
  rw[g,List.getD_eq_getElem?_getD,List.getElem?_map,List.getElem?_range hh];rfl
 apply List.ext_getElem?
 intro h
 by_cases hh:h<p.toNat
 ·have l1:(upTo p w lines ps (i+1))[h]?=some ((((cP p w).take (i+1)).countP λx=>fits p lines ps x && decide (g x 0=(h:Int))):Int):=by
   unfold upTo;rw[List.getElem?_map,List.getElem?_range hh];rfl
  have l2:(upTo p w lines ps i)[h]?=some ((((cP p w).take i).countP λx=>fits p lines ps x && decide (g x 0=(h:Int))):Int):=by
   unfold upTo;rw[List.getElem?_map,List.getElem?_range hh];rfl
  rw[l1,htk,List.countP_append,List.countP_singleton]
  cases hf:fits p lines ps x with
  | false =>
   rw[if_neg Bool.false_ne_true,l2]
   simp
  | true =>
   rw[if_pos rfl,List.getElem?_set]
   by_cases e:(g x 0).toNat=h
   ·have n1:h<(upTo p w lines ps i).length:=by unfold upTo;rw[List.length_map,List.length_range];exact hh
    have:g x 0=(h:Int):=by omega
    rw[if_pos e,e,if_pos n1,hg _ hh]
    simp[this]
   ·rw[if_neg e,l2]
    have:¬ g x 0=(h:Int):=by omega
    simp[this]
 ·have n1:∀j,(upTo p w lines ps j).length=p.toNat:=λj=>by unfold upTo;simp
  rw[List.getElem?_eq_none (by rw[n1];omega)]
  split
  ·rw[List.getElem?_eq_none (by rw[List.length_set,n1];omega)]
  ·rw[List.getElem?_eq_none (by rw[n1];omega)]
theorem J7(f:T→T→Option T)(H:Tbl p w rows)(hs:Seen p rows seen)(y:SV)(μ:ah)(hy:rd μ y=some (.lst (seen.map sT)))(hr:∀t,f (.lst [t]) (.int p)=some (.lst (List.replicate p.toNat t))) :
  ((ax (aC 2 (aw (ae 0) (dC (.int 0))))
 (ax (aC 3 (au (cal F.eP) [(ae 0),(ae 1)]))
 (ax (sIf (aj fEq (aw (ae 3) (dC (.int 0))) (dC (.str "none"))) (aH (iP f [(dC (.int 0))] (ae 2))) b_)
 (ax (aC 4 (au (cal F.cg) [(ae 0),(ae 1)]))
 (ax (sIf (aj fEq (aw (ae 3) (dC (.int 0))) (dC (.str "any"))) (aH (iP f [(au (cal F.bp) [(ae 2),(aj qK (ae 4) (dC (.int 1)))])] (ae 2))) b_)
 (ax (aC 5 (cS (iP f [(dC (.int 0))] (ae 2))))
 (ax (bG 5 (aw (ae 3) (dC (.int 1))) (au (cal F.bp) [(ae 2),(ae 4)]))
 (aH (ae 5)))))))):DS) [some (.val (tb p w rows)),some y,none,none,none,none] μ).qS μ.length=.ok (.val (li (cw p w (linesAt rows (ay seen)) (aB seen)))) μ:=by
 have hb:=H.pr.pos
 have hw1:=H.w1
 obtain⟨fr,e4,hc,hfr⟩:=vX H hs y μ hy
 have tb0:lq μ (.val (tb p w rows)) (.int 0)=some (.val (.int p)):=rfl
 rcases sF H hs y μ hy hc with ⟨ms,e,eo⟩|⟨tv,e,hf1,eo⟩|⟨d,ms,e,v0,v1,eo⟩
 ·rw[eo]
  simp?! only[tb0,e,nn,mE,hr]
  rw[vZ]
 ·have pw:=F.xx p (by omega) (fr-1) (by omega) μ
  rw[show ((fr-1:Nat):Int)=(fr:Int)-1 by omega] at pw
  rw[eo]
  simp?! only[tb0,e,an,aa,e4,pw,mE,hr]
  rw[vZ]
 ·have tX:∀v,setAt (.cel μ.length) (.int d) (.int v) (μ++[(true,li (List.replicate p.toNat 0))])=some (μ++[(true,li ((List.replicate p.toNat 0).set d.toNat v))]):=λv=>by
   rw[j5 (ts:=(List.replicate p.toNat 0).map T.int) gp v0 (by rw[List.length_map,List.length_replicate];omega),kB,← List.map_set]
  have pw':∀c,F.bp [.val (.int p),.val (.int fr)] (μ++[c])=.ok (.val (.int (p ^ fr))) (μ++[c]):=λc=>F.xx p (by omega) fr (by omega) _
  have z0:T.lst (List.replicate p.toNat (T.int 0))=li (List.replicate p.toNat 0):=by rw[li,List.map_replicate]
  rw[eo]
  simp?! only[tb0,e,on,oa,e4,mE,hr,z0,pw',tX,k_]
theorem Hb(H:Tbl p w rows)(hs:Seen p rows seen)(y:SV)(μ:ah)(hy:rd μ y=some (.lst (seen.map sT))) :
  gv [.val (tb p w rows),y] μ=.ok (.val (li (cw p w (linesAt rows (ay seen)) (aB seen)))) μ:=by
 have hb:=H.pr.pos
 exact J7 il H hs y μ hy λt=>by
  have:=HL t p.toNat (by omega)
  rwa [show ((p.toNat:Nat):Int)=p by omega] at this
end
def smB:DS:=(ax (aC 7 (au (cal aS) [(ae 0),(aj bw (dC (.int 10)) (ae 6))]))
 (ee (ae 5) (jK [(aj aW (ae 7) (ae 4)),(dUn dR (au (cal ba) [(aj iJ (ae 7) (dC (.int 8))),(ae 2),(ae 3),(aj fEq (aj aW (aj iJ (ae 1) (dC (.int 4096))) (dC (.int 2))) (dC (.int 0)))]))])))
theorem Hd(ns:List Int)(c:Int){p:Int}(hP:iS p)(w m:Nat)(mn:Int)(hw:0<w∧w≤12)(hmn:0<mn∧mn≤4)(hm:m≤6)(μ:ah) :
  ∃rows x6 x7,forL (λ_=>True) (aD 6) smB (bq 0 m) [some (.val (.lst (ns.map T.int))),some (.val (.int c)),some (.val (.int p)),some (.val (.int w)),some (.val (.int mn)),some (.cel μ.length),none,none] (μ++[(true,.lst [])]) =
   .nx [some (.val (.lst (ns.map T.int))),some (.val (.int c)),some (.val (.int p)),some (.val (.int w)),some (.val (.int mn)),some (.cel μ.length),x6,x7] (μ++[(true,.lst (rows.map rt))])∧Tbl p w rows:=by
 have hb:=hP.pos
 obtain⟨e',M',hf,rows,x6,x7,rfl,rfl,h2,h3⟩:=fO (same:=λ_=>True) (b:=aD 6) (ts:=bq 0 m) (body:=smB)
  (I:=λi e M=>∃(rows:Rows) (x6 x7:Option SV),e=[some (.val (.lst (ns.map T.int))),some (.val (.int c)),some (.val (.int p)),some (.val (.int w)),some (.val (.int mn)),some (.cel μ.length),x6,x7]∧M=μ++[(true,.lst (rows.map rt))]∧rows.length=i∧∀q∈rows,Rw p w q.2)
  (λ_ _ _ _=>trivial) (λi t e M ht aq=>by
   obtain⟨rows,x6,x7,he,hM,h2,h3⟩:=aq
   subst he hM
   obtain⟨k,rfl,hi,hk⟩:=ox ht
   obtain⟨one,ho⟩:=i7 ns (10+k) (by omega) (by omega)
   obtain⟨r,hr,R⟩:=jq (one / 8) p w (c / 4096%2==0) (by omega) (by omega) (by omega) (μ++[(true,.lst (rows.map rt))])
   have ho:=ho (μ++[(true,.lst (rows.map rt))])
   have hmo:∀a,aW (.int a) (.int mn)=some (.int (a%mn)):=λa=>fu _ _ (by omega)
   have hls:oi (.cel μ.length) (μ++[(true,.lst (rows.map rt))])=some ():=ow _ _ _ _
   have hap:∀t,appendAt (.cel μ.length) t (μ++[(true,.lst (rows.map rt))])=some (μ++[(true,.lst (rows.map rt++[t]))]):=λt=>nh _ _ _ _ (by rw[List.length_map];unfold szL;omega)
   refine⟨_,_,μ++[(true,.lst ((rows++[(one%mn,r)]).map rt))],rfl,?_,rows++[(one%mn,r)],some (.val (.int k)),some (.val (.int one)),rfl,rfl,by simp[h2],?_⟩
   ·unfold smB
    simp?! only[ho,hr,hmo,hls,hap]
    rw[List.map_append]
    rfl
   ·intro q hq
    rcases List.mem_append.mp hq with hq|hq
    ·exact h3 q hq
    ·simp at hq;subst hq;exact R)
  (e:=[some (.val (.lst (ns.map T.int))),some (.val (.int c)),some (.val (.int p)),some (.val (.int w)),some (.val (.int mn)),some (.cel μ.length),none,none]) (μ:=μ++[(true,.lst [])]) ⟨[],none,none,rfl,rfl,rfl,by simp⟩
 rw[cc] at h2
 exact⟨rows,x6,x7,hf,⟨hP,hw.1,hw.2,by omega,h3⟩⟩
theorem EX(ns:List Int)(μ:ah):∃p w rows,eJ [.val (.lst (ns.map T.int))] μ=.ok (.val (tb p w rows)) μ∧Tbl p w rows∧p.toNat ^ w≤1000:=by
 obtain⟨c0,hc0⟩:=i7 ns 0 (by decide) (by decide)
 have hc0:=hc0 μ
 have pw:wA (.int 10) (.int 9)=some (.int 1000000000):=rfl
 obtain⟨c,hc⟩:∃c,c0%1000000000=c:=⟨_,rfl⟩
 obtain⟨m,hm,hm2⟩:=toNat_mod (c / 512) 6 (by decide)
 obtain⟨p,b,w,hp,hb,hw,hP,hpw,hw2⟩:∃(p b:Int) (w:Nat),atI [T.int 2,T.int 3,T.int 5,T.int 7] (c%4)=some (.int p)∧atI [T.int 6,T.int 5,T.int 4,T.int 3] (c%4)=some (.int b)∧(1+c / 4%b=(w:Int)∧0<b∧b≤6)∧iS p∧p.toNat ^ w≤1000∧(0<w∧w≤12):=by
  have h4:c%4=0∨c%4=1∨c%4=2∨c%4=3:=by omega
  have key:∀(p b:Int) (B:Nat),(b=(B:Int))→0<B→B≤6→p.toNat ^ B≤1000→2≤p→∃w:Nat,(1+c / 4%b=(w:Int)∧0<b∧b≤6)∧p.toNat ^ w≤1000∧(0<w∧w≤12):=λp b B e h0 h1 h2 hp=>by
   subst e
   have a0:=Int.emod_nonneg (c / 4) (show (B:Int)≠0 by omega)
   have a1:=Int.emod_lt_of_pos (c / 4) (show 0<(B:Int) by omega)
   refine⟨(1+c / 4%(B:Int)).toNat,⟨by omega,by omega,by omega⟩,Nat.le_trans (Nat.pow_le_pow_right (by omega) (by omega)) h2,by omega⟩
  rcases h4 with e|e|e|e<;>rw[e]
  ·obtain⟨w,a1,a2,a3⟩:=key 2 6 6 rfl (by decide) (by decide) (by decide) (by decide)
   exact⟨2,6,w,rfl,rfl,a1,by unfold iS;decide,a2,a3⟩
  ·obtain⟨w,a1,a2,a3⟩:=key 3 5 5 rfl (by decide) (by decide) (by decide) (by decide)
   exact⟨3,5,w,rfl,rfl,a1,by unfold iS;decide,a2,a3⟩
  ·obtain⟨w,a1,a2,a3⟩:=key 5 4 4 rfl (by decide) (by decide) (by decide) (by decide)
   exact⟨5,4,w,rfl,rfl,a1,by unfold iS;decide,a2,a3⟩
  ·obtain⟨w,a1,a2,a3⟩:=key 7 3 3 rfl (by decide) (by decide) (by decide) (by decide)
   exact⟨7,3,w,rfl,rfl,a1,by unfold iS;decide,a2,a3⟩
 obtain⟨rows,x6,x7,hl,H⟩:=Hd ns c hP w m (1+c / 64%4) hw2 (by omega) (by omega) μ
 have rm:eO (m:Int)=true:=cZ (by omega) (by omega)
 have hmb:aW (.int (c / 4)) (.int b)=some (.int (c / 4%b)):=fu _ _ (by omega)
 refine⟨p,w,rows,?_,H,hpw⟩
 unfold eJ
 rw[hU,yE,sU]
 unfold ny
 simp?! only[hc0,pw,hc]
 rw[sV]
 unfold nz
 simp?! only[hp]
 rw[sW]
 unfold nA
 simp?! only[hb,hmb,hw.1]
 rw[sX]
 unfold nB
 simp?! only[]
 rw[sY]
 unfold nC
 simp?! only[]
 rw[sZ,show nD=eQ (aV (aj aW (aj iJ (ae 1) (dC (.int 512))) (dC (.int 6)))) (aD 6) smB from rfl]
 simp?! only[hm,rm,Int.toNat_natCast,hl]
 rw[s_]
 unfold nE
 simp?! only[gp,u_]
 rfl
section
variable{p:Int}{w:Nat}{rows:Rows}{seen:List (Option Int)}
theorem pj(H:Tbl p w rows)(fs:List Int)(y:SV)(μ:ah)(h2:(rd μ y).bind bg=some (fs.map T.int)):cz [.val (tb p w rows),y] μ=.ok (.val (li (parts p rows fs))) μ:=K.pj H fs y μ h2
theorem pb(hn:rows.length≤24)(cE:List Int)(y:SV)(μ:ah)(h2:rd μ y=some (li cE)):iV [.val (tb p w rows),y] μ=.ok (.val (li (nums (rowsOf rows cE)))) μ:=K.pb hn cE y μ h2
def bC(rows:Rows)(hs vs:List Int):List (Option Int):=(List.range vs.length).map λi=>if i∈rowsOf rows hs then some (g vs i) else none
theorem AJ(H:Tbl p w rows)(hs vs:List Int)(hv:Rw p rows.length vs)(μ:ah):df [.val (tb p w rows),.val (li hs),.val (li vs)] μ=.ok (.val (.lst ((bC rows hs vs).map sT))) μ:=by
 have hn:=H.n
 have hvl:=hv.1
 have e1:=pb (p:=p) (w:=w) H.n hs (.val (li hs)) μ rfl
 have rv:eO (vs.length:Int)=true:=cZ (by omega) (by omega)
 have lv:(bq 0 vs.length).length≤szL:=by rw[cc];unfold szL;omega
 have ll:mM μ (.val (li vs))=some (.int vs.length):=(MI μ vs).len
 have ec:bU (λ_=>True) (aD 0) (dC (.bl true)) (aw (ft [(dC (.non)),(aw (ae 1) (ae 0))]) (dUn Bt (aj fIn (ae 0) (ae 2)))) [none,some (.val (li vs)),some (.val (li (nums (rowsOf rows hs))))] (bq 0 vs.length) μ=.ok ((bC rows hs vs).map sT) μ:=by
  rw[fv,fk,List.map_map]
  rw[show (List.map (T.int ∘ λ(i:Nat)=>(i:Int)) (List.range vs.length))=(List.range vs.length).map λ(i:Nat)=>T.int (i:Int) from rfl]
  rw[bz (λ(i:Nat)=>T.int (i:Int)) (λi=>sT (if i∈rowsOf rows hs then some (g vs i) else none)) trivial]
  ·unfold bC;rw[List.map_map];rfl
  ·intro i hi
   have hi:=List.mem_range.mp hi
   have a1:atI (vs.map T.int) (i:Int)=some (.int (g vs i)):=by rw[atg (by omega) (by omega)];rfl
   have fi:fIn (.int (i:Int)) (li (nums (rowsOf rows hs)))=some (.bl (decide ((i:Int)∈nums (rowsOf rows hs)))):=rj _ _
   have fb:∀b,Bt (.bl b)=some (.int (if b=true then 1 else 0)):=λb=>by cases b<;>rfl
   have hm:((i:Int)∈nums (rowsOf rows hs))↔i∈rowsOf rows hs:=by
    unfold nums
    rw[List.mem_map]
    constructor
    · rintro⟨j,h1,h2⟩
      have e:j=i:=by omega
      rw[← e];exact h1
    · exact λh=>⟨i,h,rfl⟩
   refine⟨_,rfl,?_⟩
   by_cases hq:i∈rowsOf rows hs
   ·rw[decide_eq_true (hm.mpr hq)] at fi
    rw[if_pos hq]
    simp?! only[a1,fi,fb]
    rfl
   ·rw[decide_eq_false (λz=>hq (hm.mp z))] at fi
    rw[if_neg hq]
    simp?! only[a1,fi,fb]
    rfl
 unfold df p8
 simp?! only[e1,ll,rv,Int.toNat_natCast,lv,ec]
theorem uL(hs vs:List Int)(i:Nat)(hi:i<vs.length):cQ (bC rows hs vs) i=if i∈rowsOf rows hs then some (g vs i) else none:=by
 unfold cQ bC
 rw[List.getD_eq_getElem?_getD,List.getElem?_map,List.getElem?_range hi]
 rfl
theorem jJ(hs vs:List Int)(hv:Rw p rows.length vs):Seen p rows (bC rows hs vs):=by
 refine⟨by unfold bC;rw[List.length_map,List.length_range];exact hv.1,λi hi=>?_⟩
 unfold bC at hi
 obtain⟨k,hk,e⟩:=List.mem_map.mp hi
 have hk:=List.mem_range.mp hk
 split at e
 ·cases e
  have e:g vs k=vs[k]:=by simp[g,hk]
  rw[e]
  exact⟨hv.2 _ (List.getElem_mem hk),hv.3 _ (List.getElem_mem hk)⟩
 ·cases e
theorem xH(hs vs:List Int)(hv:vs.length=rows.length):ay (bC rows hs vs)=rowsOf rows hs:=by
 unfold ay
 rw[show (bC rows hs vs).length=rows.length by unfold bC;rw[List.length_map,List.length_range];exact hv]
 unfold rowsOf
 refine List.filter_congr λi hi=>?_
 have hi:=List.mem_range.mp hi
 rw[uL hs vs i (by omega)]
 have:i∈rowsOf rows hs↔(hG rows i).1∈hs:=by
  unfold rowsOf
  rw[List.mem_filter,List.mem_range,decide_eq_true_iff]
  exact⟨λq=>q.2,λq=>⟨hi,q⟩⟩
 by_cases q:(hG rows i).1∈hs
 ·rw[if_pos (this.mpr q),decide_eq_true q];rfl
 ·rw[if_neg (λz=>q (this.mp z)),decide_eq_false q];rfl
end
section
variable{p:Int}{w:Nat}{rows:Rows}{seen:List (Option Int)}
def tst(p:Int)(rows:Rows)(seen:List (Option Int))(x:List Int)(i:Nat):Bool:=match cQ seen i with
 | none=>true
 | some v=>v==dot (hG rows i).2 x%p
theorem AK(fs:List Int)(i:Nat)(hi:i<rows.length):g (parts p rows fs) i=dot (hG rows i).2 fs%p:=by
 unfold parts g hG
 rw[List.getD_eq_getElem?_getD,List.getElem?_map,List.getElem?_eq_getElem hi]
 simp[hi]
theorem EY(hp:0<p)(hs:Seen p rows seen)(x:List Int):((List.range rows.length).all λi=>tst p rows seen x i)=fits p (linesAt rows (ay seen)) (aB seen) x:=by
 rw[Bool.eq_iff_iff,iI,xG hs,List.all_eq_true]
 refine⟨λh i hi v hv=>?_,λh i hi=>?_⟩
 ·have:=h i (List.mem_range.mpr hi)
  unfold tst at this
  rw[hv] at this
  have e:v=dot (hG rows i).2 x%p:=by simpa using this
  obtain⟨t,ht⟩:=md (dot (hG rows i).2 x) p
  exact⟨t,by rw[e];omega⟩
 ·have hi:=List.mem_range.mp hi
  unfold tst
  cases hv:cQ seen i with
  | none=>rfl
  | some v =>
   obtain⟨t,ht⟩:=h i hi v hv
   have hvb:0≤v∧v<p:=hs.by_ v (by
    have hil:i<seen.length:=by rw[hs.len];exact hi
    unfold cQ at hv
    rw[List.getD_eq_getElem?_getD,List.getElem?_eq_getElem hil] at hv
    have hv:seen[i]=some v:=hv
    rw[← hv];exact List.getElem_mem hil)
   show (v==dot (hG rows i).2 x%p)=true
   rw[show dot (hG rows i).2 x=v+p*t by omega,Int.add_mul_emod_self_left,Int.emod_eq_of_lt hvb.1 hvb.2,beq_self_eq_true]
def cnB:DS:=(ax (aC 5 (au (cal cz) [(ae 0),(ae 4)]))
 (sIf (dUn Bh (aT (aV (fV (ae 2))) [none,some 2,some 5] (aD 0) (dC (.bl true)) (dOr (dUn j3 (aw (ae 1) (ae 0))) (aj fEq (aw (ae 1) (ae 0)) (aw (ae 2) (ae 0)))))) (bG 3 (aw (ae 4) (dC (.int 0))) (aj bw (aw (ae 3) (aw (ae 4) (dC (.int 0)))) (dC (.int 1)))) b_))
theorem Cp(f:T→T→Option T)(H:Tbl p w rows)(hs:Seen p rows seen)(μ:ah)(hr:f (.lst [.int 0]) (.int p)=some (li (List.replicate p.toNat 0))) :
  ((ax (aC 3 (cS (iP f [(dC (.int 0))] (aw (ae 0) (dC (.int 0)))))) (ax (eQ (fh (ae 1)) (aD 4) cnB) (aH (ae 3))):DS) [some (.val (tb p w rows)),some (.val (.lst ((cP p w).map li))),some (.val (.lst (seen.map sT))),none,none,none] μ).qS μ.length=.ok (.val (li (cw p w (linesAt rows (ay seen)) (aB seen)))) μ:=by
 have hb:=H.pr.pos
 have hw:=H.w1
 have hw0:=H.w0
 have hn:=H.n
 have hsl:=hs.len
 have rn:eO (rows.length:Int)=true:=cZ (by omega) (by omega)
 have ln:(bq 0 rows.length).length≤szL:=by rw[cc];unfold szL;omega
 have tf:=λx=>EY (p:=p) (by omega) hs x
 have sg:=λi hi=>xF hs i hi
 generalize linesAt rows (ay seen)=lines at *
 generalize aB seen=ps at *
 obtain⟨e',μ',h1,y4,y5,rfl,rfl⟩:=fO (same:=λ_=>True) (b:=aD 4) (ts:=(cP p w).map li) (body:=cnB)
  (I:=λi e μ1=>∃y4 y5,e=[some (.val (tb p w rows)),some (.val (.lst ((cP p w).map li))),some (.val (.lst (seen.map sT))),some (.cel μ.length),y4,y5]∧μ++[(true,li (upTo p w lines ps i))]=μ1)
  (λ_ _ _ _=>trivial) (λi t e μ1 ht aq=>by
   obtain⟨y4,y5,he,hμ⟩:=aq
   subst he hμ
   rw[List.getElem?_map] at ht
   obtain⟨x,hx,rfl⟩:=Option.map_eq_some_iff.mp ht
   have hR:Rw p w x:=(dI (by omega)).mp (List.mem_of_getElem? hx)
   have gb:=hR.g0 (p:=p) (by omega) 0
   generalize hM:μ++[(true,li (upTo p w lines ps i))]=M
   have hMc:M[μ.length]?=some (true,li (upTo p w lines ps i)):=by rw[← hM];exact gp
   have hg:=pj H x (.val (li x)) M rfl
   have hpl:(parts p rows x).length=rows.length:=K.uK p rows x
   have ls:mM M (.val (.lst (seen.map sT)))=some (.int rows.length):=by rw[lH,List.length_map,hsl]
   have ec:bU (λ_=>True) (aD 0) (dC (.bl true)) (dOr (dUn j3 (aw (ae 1) (ae 0))) (aj fEq (aw (ae 1) (ae 0)) (aw (ae 2) (ae 0)))) [none,some (.val (.lst (seen.map sT))),some (.val (li (parts p rows x)))] (bq 0 rows.length) M=.ok ((List.range rows.length).map λi=>T.bl (tst p rows seen x i)) M:=by
    rw[fv,fk,List.map_map]
    rw[show (List.map (T.int ∘ λ(i:Nat)=>(i:Int)) (List.range rows.length))=(List.range rows.length).map λ(i:Nat)=>T.int (i:Int) from rfl]
    rw[bz (λ(i:Nat)=>T.int (i:Int)) (λi=>T.bl (tst p rows seen x i)) trivial]
    intro j hj
    have hj:=List.mem_range.mp hj
    have a1:=sg j hj
    have a2:atI ((parts p rows x).map T.int) (j:Int)=some (.int (dot (hG rows j).2 x%p)):=by
     rw[atg (by omega) (by omega),Int.toNat_natCast,AK x j hj]
    refine⟨[some (.val (.int (j:Int))),some (.val (.lst (seen.map sT))),some (.val (li (parts p rows x)))],rfl,?_⟩
    unfold tst
    cases hv:cQ seen j with
    | none =>
     rw[hv] at a1
     have n1:j3 (sT none)=some (.bl true):=rfl
     simp?! only[a1,n1]
    | some v =>
     rw[hv] at a1
     have n1:j3 (sT (some v))=some (.bl false):=rfl
     have n2:sT (some v)=.int v:=rfl
     simp?! only[a1,n2,ug,a2]
   have fa:=Dz (λi=>tst p rows seen x i) (List.range rows.length)
   rw[tf x] at fa
   have hst:=Co (lines:=lines) (ps:=ps) (by omega) hw0 hx
   have x0:atI (x.map T.int) 0=some (.int (g x 0)):=by rw[atg (by omega) (by rw[hR.1];omega)];rfl
   have ul:(upTo p w lines ps i).length=p.toNat:=by unfold upTo;simp
   cases hf:fits p lines ps x with
   | false =>
    rw[hf,if_neg Bool.false_ne_true] at hst
    rw[hf] at fa
    refine⟨_,_,M,rfl,?_,some (.val (li x)),some (.val (li (parts p rows x))),rfl,by rw[hst];exact hM⟩
    unfold cnB
    simp?! only[hg,ls,rn,Int.toNat_natCast,ec,ln,fa]
   | true =>
    rw[hf,if_pos rfl] at hst
    rw[hf] at fa
    have hix:lq M (.cel μ.length) (.int (g x 0))=some (.val (.int (g (upTo p w lines ps i) (g x 0).toNat))):=by
     rw[As (ts:=(upTo p w lines ps i).map T.int) (by rw[jN,hMc];rfl),atg gb.1 (by rw[ul];omega)];rfl
    have tX:∀v,setAt (.cel μ.length) (.int (g x 0)) (.int v) M=some (μ++[(true,li ((upTo p w lines ps i).set (g x 0).toNat v))]):=λv=>by
     rw[j5 (ts:=(upTo p w lines ps i).map T.int) hMc gb.1 (by rw[List.length_map,ul];omega),← hM,kB,← List.map_set]
    refine⟨_,_,μ++[(true,li ((upTo p w lines ps i).set (g x 0).toNat (g (upTo p w lines ps i) (g x 0).toNat+1)))],rfl,?_,some (.val (li x)),some (.val (li (parts p rows x))),rfl,by rw[hst]⟩
    unfold cnB
    simp?! only[hg,ls,rn,Int.toNat_natCast,ec,ln,fa,x0,hix,tX])
  (e:=[some (.val (tb p w rows)),some (.val (.lst ((cP p w).map li))),some (.val (.lst (seen.map sT))),some (.cel μ.length),none,none]) (μ:=μ++[(true,li (upTo p w lines ps 0))]) ⟨none,none,rfl,rfl⟩
 have SD:upTo p w lines ps ((cP p w).map li).length=cw p w lines ps:=by
  unfold upTo cw
  rw[List.length_map,List.take_length];rfl
 have e0:upTo p w lines ps 0=List.replicate p.toNat 0:=by
  unfold upTo
  refine List.eq_replicate_iff.mpr ⟨by simp,λb hb2=>?_⟩
  obtain⟨h,_,rfl⟩:=List.mem_map.mp hb2
  simp
 rw[SD,e0] at h1
 have tb0:lq μ (.val (tb p w rows)) (.int 0)=some (.val (.int p)):=rfl
 simp?! only[tb0,mE,hr,h1,k_]
theorem rep0(hb:2≤p∧p≤97)(a:Int):il (.lst [.int a]) (.int p)=some (li (List.replicate p.toNat a)):=by
 have:=HL (.int a) p.toNat (by omega)
 rw[show ((p.toNat:Nat):Int)=p by omega] at this
 rw[this,vZ]
theorem nT(H:Tbl p w rows)(hs:Seen p rows seen)(μ:ah):bQ [.val (tb p w rows),.val (.lst ((cP p w).map li)),.val (.lst (seen.map sT))] μ=.ok (.val (li (cw p w (linesAt rows (ay seen)) (aB seen)))) μ :=
 Cp il H hs μ (rep0 H.pr.pos 0)
end
theorem AL(n:Nat)(a:Int):(List.replicate n a).sum=n*a:=by
 induction n with
 | zero=>simp
 | succ n ih=>rw[List.replicate_succ,List.sum_cons,ih];push_cast;rw[Int.add_mul];omega
theorem sum_set(a:Int):∀(n k:Nat),k<n→((List.replicate n (0:Int)).set k a).sum=a
 | 0,k,h=>by omega
 | n+1,0,_=>by rw[List.replicate_succ,List.set_cons_zero,List.sum_cons,AL];omega
 | n+1,k+1,h=>by rw[List.replicate_succ,List.set_cons_succ,List.sum_cons,sum_set a n k (by omega)];omega
theorem He(n:Nat)(a:Int)(ha:0<a):((List.replicate n a).filter λx=>decide (0<x)).length=n:=by
 rw[List.filter_eq_self.mpr λx hx=>decide_eq_true (by rw[List.eq_of_mem_replicate hx];exact ha),List.length_replicate]
theorem AM(a:Int)(ha:0<a):∀(n k:Nat),k<n→(((List.replicate n (0:Int)).set k a).filter λx=>decide (0<x)).length=1
 | 0,k,h=>by omega
 | n+1,0,_=>by
  rw[List.replicate_succ,List.set_cons_zero,List.filter_cons_of_pos (by simpa using ha),List.length_cons]
  rw[List.filter_eq_nil_iff.mpr λx hx=>by rw[List.eq_of_mem_replicate hx];decide]
  rfl
 | n+1,k+1,h=>by rw[List.replicate_succ,List.set_cons_succ,List.filter_cons_of_neg (by decide)];exact AM a ha n k (by omega)
theorem xI{a x:Int}:∀{n k:Nat},x∈(List.replicate n (0:Int)).set k a→x=0∨x=a:=λ{n k} h=>by
 rcases List.mem_or_eq_of_mem_set h with h|h
 ·exact .inl (List.eq_of_mem_replicate h)
 ·exact .inr h
theorem AN(a:Int)(ha:a≠0):∀(n k:Nat),k<n→((List.replicate n (0:Int)).set k a).idxOf a=k
 | 0,k,h=>by omega
 | n+1,0,_=>by rw[List.replicate_succ,List.set_cons_zero,List.idxOf_cons_self]
 | n+1,k+1,h=>by
  have e:((0:Int)==a)=false:=by rw[beq_eq_false_iff_ne];exact λe=>ha e.symm
  rw[List.replicate_succ,List.set_cons_succ,List.idxOf_cons,e,AN a ha n k (by omega)]
  rfl
theorem oo:(("one":Str)=="one")=true:=by decide +kernel
theorem v7(a:List Int):fNe (li a) (li a)=some (.bl false):=by unfold li;rw[qM];simp
section
variable{p:Int}{w:Nat}{rows:Rows}{seen:List (Option Int)}
theorem xJ(l:List Int)(M:ah):bU (λ_=>True) (aD 0) (aj fGt (ae 0) (dC (.int 0))) (ae 0) [none] (l.map T.int) M=.ok ((l.filter λx=>decide (0<x)).map T.int) M:=by
 rw[kD (λx=>decide (0<x)) T.int trivial l]
 intro k _
 refine⟨_,rfl,?_,λ_=>rfl⟩
 simp?! only[og]
theorem xK(H:Tbl p w rows)(hs:Seen p rows seen)(μ:ah):bX [.val (tb p w rows),.val (li (cw p w (linesAt rows (ay seen)) (aB seen))),.val (.lst (seen.map sT))] μ=.ok (.val (.bl true)) μ:=by
 have hb:=H.pr.pos
 have fl:j4 (.lst (seen.map sT))=some (.lst (seen.map sT)):=rfl
 obtain⟨fr,_,hc,hfr⟩:=vX H hs (.val (.lst (seen.map sT))) μ rfl
 have hh:=Hb H hs (.val (.lst (seen.map sT))) μ rfl
 have hpn:(p.toNat:Int)=p:=by omega
 have MO:∀k:Nat,0<p ^ k:=λk=>Int.pow_pos (by omega)
 unfold bX
 rw[hU,yF,tj]
 rcases sF H hs (.val (.lst (seen.map sT))) μ rfl hc with ⟨ms,e,eo⟩|⟨tv,e,hf1,eo⟩|⟨d,ms,e,v0,v1,eo⟩
 ·have e:eP [.val (tb p w rows),.val (.lst (seen.map sT))] μ=_:=e
  rw[eo] at hh ⊢
  have ne:=v7 (List.replicate p.toNat 0)
  have fs:mZ (li (List.replicate p.toNat 0))=some (.int 0):=by unfold li;rw[lN (λx=>x)];simp
  unfold ji
  simp?! only[fl,e]
  rw[jS]
  unfold jk
  generalize li (List.replicate p.toNat 0)=C at hh ne fs ⊢
  simp?! only[fl,hh,ne]
  rw[jT]
  unfold jl
  simp?! only[fs,nn]
 ·have e:eP [.val (tb p w rows),.val (.lst (seen.map sT))] μ=_:=e
  rw[eo] at hh ⊢
  have a0:=MO (fr-1)
  generalize p ^ (fr-1)=a at hh a0 ⊢
  have ne:=v7 (List.replicate p.toNat a)
  have fs:mZ (li (List.replicate p.toNat a))=some (.int (p*a)):=by
   unfold li;rw[lN (λx=>x)]
   rw[show (List.replicate p.toNat a).map (λx=>x)=List.replicate p.toNat a by simp,AL,hpn]
  have sz:(p*a==0)=false:=by
   rw[beq_eq_false_iff_ne]
   have:=Int.mul_pos (show 0<p by omega) a0
   omega
  have pc:=xJ (List.replicate p.toNat a) μ
  have fn:=He p.toNat a a0
  have ll:((List.replicate p.toNat a).map T.int).length≤szL:=by rw[List.length_map,List.length_replicate];unfold szL;omega
  have is:bg (li (List.replicate p.toNat a))=some ((List.replicate p.toNat a).map T.int):=rfl
  have am:a∈List.replicate p.toNat a:=List.mem_replicate.mpr ⟨by omega,rfl⟩
  have fmi:uB (li (List.replicate p.toNat a))=some (.int a):=DG am λx hx=>by rw[List.eq_of_mem_replicate hx];omega
  have fma:oF (li (List.replicate p.toNat a))=some (.int a):=w5 am λx hx=>by rw[List.eq_of_mem_replicate hx];omega
  have p1:((p.toNat:Int)==1)=false:=by rw[beq_eq_false_iff_ne];omega
  unfold ji
  simp?! only[fl,e]
  rw[jS]
  unfold jk
  generalize hC:li (List.replicate p.toNat a)=C at hh ne fs is fmi fma ⊢
  generalize hR:List.replicate p.toNat a=Rp at pc fn ll is
  have le:mM μ (.val (.lst ((Rp.filter λx=>decide (0<x)).map T.int)))=some (.int p.toNat):=by rw[lH,List.length_map,fn]
  simp?! only[fl,hh,ne]
  rw[jT]
  unfold jl
  simp?! only[fs,sz]
  rw[mR]
  unfold kP
  simp?! only[is,ll,pc,le,p1]
  rw[tq]
  unfold nL
  simp?! only[aa,fmi,fma]
 ·have e:eP [.val (tb p w rows),.val (.lst (seen.map sT))] μ=_:=e
  rw[eo] at hh ⊢
  have a0:=MO fr
  generalize p ^ fr=a at hh a0 ⊢
  have hd:d.toNat<p.toNat:=by omega
  have ne:=v7 ((List.replicate p.toNat 0).set d.toNat a)
  have fs:mZ (li ((List.replicate p.toNat 0).set d.toNat a))=some (.int a):=by
   unfold li;rw[lN (λx=>x)]
   rw[List.map_id',sum_set a p.toNat d.toNat hd]
  have sz:(a==0)=false:=by rw[beq_eq_false_iff_ne];omega
  have pc:=xJ ((List.replicate p.toNat 0).set d.toNat a) μ
  have fn:=AM a a0 p.toNat d.toNat hd
  have ll:(((List.replicate p.toNat 0).set d.toNat a).map T.int).length≤szL:=by rw[List.length_map,List.length_set,List.length_replicate];unfold szL;omega
  have is:bg (li ((List.replicate p.toNat 0).set d.toNat a))=some (((List.replicate p.toNat 0).set d.toNat a).map T.int):=rfl
  have am:a∈(List.replicate p.toNat 0).set d.toNat a:=List.mem_set (by rw[List.length_replicate];exact hd) a
  have fma:oF (li ((List.replicate p.toNat 0).set d.toNat a))=some (.int a):=w5 am λx hx=>by rcases xI hx with h|h<;>omega
  have fix:D7 (li ((List.replicate p.toNat 0).set d.toNat a)) (.int a)=some (.int d):=by
   show ((gj _).bind λns=>if a∈ns then some (T.int (ns.idxOf a:Nat)) else none)=_
   rw[ko,Option.bind_some,if_pos am,AN a (by omega) p.toNat d.toNat hd]
   congr 2
   omega
  have al:DH (li ((List.replicate p.toNat 0).set d.toNat a))=some (((List.replicate p.toNat 0).set d.toNat a).map T.int):=rfl
  have fc:FW (.tup [.str "one",.int d,li ms]) none (some 2)=some (.tup [.str "one",.int d]):=rfl
  have fe:fEq (.tup [.str "one",.int d]) (.tup [.str "one",.int d])=some (.bl true):=by
   have ok:okT 100 (.tup [.str "one",.int d])=true:=by
    rw[FP,pA,pA,C_,FO]
    decide +kernel
   rw[yd ok ok,wC 100 _ ok]
  unfold ji
  simp?! only[fl,e]
  rw[jS]
  unfold jk
  generalize hC:li ((List.replicate p.toNat 0).set d.toNat a)=C at hh ne fs is fma fix al ⊢
  generalize hR:(List.replicate p.toNat 0).set d.toNat a=Rp at pc fn ll is al
  have le:mM μ (.val (.lst ((Rp.filter λx=>decide (0<x)).map T.int)))=some (.int 1):=by rw[lH,List.length_map,fn];rfl
  simp?! only[fl,hh,ne]
  rw[jT]
  unfold jl
  simp?! only[fs,sz]
  rw[mR]
  unfold kP
  simp?! only[is,ll,pc,le,D8,al,fma,fix,fc,fe]
end
theorem EZ{p:Int}(hp:0<p)(xs ys:List Int)(hl:xs.length≤1000)(μ:ah):lY [.val (.int p),.val (li xs),.val (li ys)] μ=.ok (.val (li (pY p xs ys))) μ:=by
 have ec:bU (λ_=>True) (cR [0,1]) (dC (.bl true)) (aj aW (aj bw (ae 0) (ae 1)) (ae 2)) [none,none,some (.val (.int p))] (g_ (xs.map T.int) (ys.map T.int)) μ=.ok ((pY p xs ys).map T.int) μ:=by
  rw[j6,bz _ (λq:Int×Int=>.int ((q.1+q.2)%p)) trivial]
  ·simp[pY,Function.comp_def]
  ·rintro⟨a,b⟩ hq
   have hm:∀a:Int,aW (.int a) (.int p)=some (.int (a%p)):=λa=>fu _ _ hp
   refine⟨_,dS 0 1 _ _ _,?_⟩
   simp?! only[hm]
 have ls:(g_ (xs.map T.int) (ys.map T.int)).length≤szL:=by rw[lP,List.length_map];unfold szL;omega
 unfold lY An
 simp?! only[and_self,ec,ls]
section
variable{p:Int}{w:Nat}{rows:Rows}{seen:List (Option Int)}
theorem zv(H:Tbl p w rows)(ps cs:List Int)(hc:cs.length≤1000)(hp:ps.length≤1000)(μ:ah):h7 [.val (tb p w rows),.val (li ps),.val (li cs)] μ=.ok (.val (li (pY p ps (parts p rows (0::cs))))) μ:=by
 have hb:=H.pr.pos
 have e1:dN [.val (.int 0),.val (li cs)] μ=.ok (.val (tu (0::cs))) μ:=K.zu 0 cs (.val (li cs)) μ hc rfl
 have e2:oI [.val (tb p w rows),.val (tu (0::cs))] μ=.ok (.val (li (parts p rows (0::cs)))) μ:=G9 H (0::cs) (.val (tu (0::cs))) μ rfl
 have e3:=EZ (p:=p) (by omega) ps (parts p rows (0::cs)) hp μ
 have i0:lq μ (.val (tb p w rows)) (.int 0)=some (.val (.int p)):=rfl
 unfold h7 uD
 simp?! only[i0,e1,e2,e3]
theorem E1(hp:0<p){fs:List Int}(hs:List Int)(hv:Rw p rows.length (parts p rows fs)):Fit p (linesAt rows (ay (bC rows hs (parts p rows fs)))) (aB (bC rows hs (parts p rows fs))) fs:=by
 rw[xG (jJ hs _ hv)]
 intro i hi v e
 rw[uL hs _ i (by rw[hv.1];exact hi)] at e
 split at e
 ·cases e
  rw[AK fs i hi]
  obtain⟨t,h⟩:=md (dot (hG rows i).2 fs) p
  exact⟨t,by omega⟩
 ·cases e
theorem J8(H:Tbl p w rows){fs:List Int}(hF:Rw p w fs)(hs:List Int) :
  (∃t,dW [.val (tb p w rows),.val (li hs)] []=.ok (.val (.tup [.str "shut",t])) []∧∃a:Int,0<a∧cw p w (linesAt rows (ay (bC rows hs (parts p rows fs)))) (aB (bC rows hs (parts p rows fs)))=List.replicate p.toNat a) ∨
  (∃t,dW [.val (tb p w rows),.val (li hs)] []=.ok (.val (.tup [.str "open",t])) []∧∃a:Int,0<a∧cw p w (linesAt rows (ay (bC rows hs (parts p rows fs)))) (aB (bC rows hs (parts p rows fs)))=(List.replicate p.toNat 0).set (g fs 0).toNat a):=by
 have hb:=H.pr.pos
 have hw0:=H.w0
 have hv:Rw p rows.length (parts p rows fs):=K.sI (by omega) rows fs
 have S:=jJ hs _ hv
 have wj:=E1 (p:=p) (by omega) hs hv
 have gb:=hF.g0 (p:=p) (by omega) 0
 obtain⟨f0,f1,f2,f3,f4⟩:=nS H S
 obtain⟨fr,_,hc,_⟩:=vX H S (.val (.lst ((bC rows hs (parts p rows fs)).map sT))) [] rfl
 have EM:∀n:Nat,0<((p.toNat ^ n:Nat):Int):=λn=>by
  have:=Nat.pow_pos (n:=n) (show 0<p.toNat by omega)
  omega
 have rs:=xH (rows:=rows) hs (parts p rows fs) hv.1
 rcases F.J4 H hs (.val (li hs)) [] rfl with ⟨tv,h1,h2,h3,h4⟩|⟨ms,h1,h2,h3⟩
 ·refine .inl ⟨_,h1,_,EM (fr-1),?_⟩
  have lE:∀h:Nat,(h:Int)<p→_:=λh hh=>uI (by omega) hw0 f2 f3 hF wj h2 (by rw[rs];exact h3) h4 hc h hh
  unfold cw
  refine List.eq_replicate_iff.mpr ⟨by simp,λb hb2=>?_⟩
  obtain⟨h,hm,rfl⟩:=List.mem_map.mp hb2
  have hm:=List.mem_range.mp hm
  rw[(lE h (by omega)).2]
 ·refine .inr ⟨_,h1,_,EM fr,?_⟩
  rw[← rs] at h2 h3
  have lE:=λh:Nat=>uJ (p:=p) (by omega) hw0 f2 f3 hF wj h2.1 h3 hc h
  have tr:0<jI p w (linesAt rows (ay (bC rows hs (parts p rows fs)))) (aB (bC rows hs (parts p rows fs))) (g fs 0).toNat:=by
   unfold jI cnt
   refine List.countP_pos_iff.mpr ⟨fs,(dI (by omega)).mpr hF,?_⟩
   rw[Bool.and_eq_true]
   exact⟨iI.mpr wj,decide_eq_true (by omega)⟩
  have hd:((g fs 0).toNat:Int)=dot ms (aB (bC rows hs (parts p rows fs)))%p:=by
   rw[lE] at tr
   split at tr
   ·assumption
   ·omega
  generalize dot ms (aB (bC rows hs (parts p rows fs)))%p=d at *
  apply List.ext_getElem?
  intro i
  unfold cw
  rw[List.getElem?_map,List.getElem?_set,List.length_replicate]
  by_cases hi:i<p.toNat
  ·rw[List.getElem?_range hi,Option.map_some,lE i]
   by_cases e:(g fs 0).toNat=i
   ·rw[if_pos (show (i:Int)=d by omega),if_pos e,if_pos (by omega)]
   ·rw[if_neg (show ¬ (i:Int)=d by omega),if_neg e,List.getElem?_replicate,if_pos hi];rfl
  ·rw[List.getElem?_eq_none (by simp;omega),if_neg (by omega),List.getElem?_replicate,if_neg hi];rfl
theorem Cq(hp:2≤p∧p≤97)(hr:rows.length≤24)(hs:Seen p rows seen)(c:Int)(μ:ah):∃HM,dX [.val (.lst (seen.map sT)),.val (.int c),.val (.int p)] μ=.ok (.val (.lst (HM.map sT))) μ∧Seen p rows HM:=by
 have hsl:=hs.len
 have ll:∀M,mM M (.val (.lst (seen.map sT)))=some (.int rows.length):=λM=>by rw[lH,List.length_map,hsl]
 have fl:j4 (.lst (seen.map sT))=some (.lst (seen.map sT)):=rfl
 have hm:aW (.int c) (.int (if (rows.length:Int) > 1 then (rows.length:Int) else 1))=some (.int (c%(if (rows.length:Int) > 1 then (rows.length:Int) else 1))):=fu _ _ (by split<;>omega)
 have hmp:∀a,aW (.int a) (.int p)=some (.int (a%p)):=λa=>fu _ _ (by omega)
 unfold dX
 rw[hU,xa,rG]
 unfold lZ
 simp?! only[fl]
 rw[rH]
 unfold l_
 simp?! only[ll,DA,hm]
 rw[rJ]
 unfold ma
 cases hq:decide ((0:Int)<(rows.length:Int)) with
 | false =>
  refine⟨seen,?_,hs⟩
  simp?! only[ll,og,hq]
  rw[jm]
  unfold iw
  simp?! only[k_]
 | true =>
  have h0:=of_decide_eq_true hq
  obtain⟨k,hk,hk2⟩:∃k:Nat,c%(if (rows.length:Int) > 1 then (rows.length:Int) else 1)=(k:Int)∧k<rows.length:=by
   have a0:=Int.emod_nonneg c (show (if (rows.length:Int) > 1 then (rows.length:Int) else 1)≠0 by split<;>omega)
   have a1:=Int.emod_lt_of_pos c (show 0<(if (rows.length:Int) > 1 then (rows.length:Int) else 1) by split<;>omega)
   refine⟨(c%(if (rows.length:Int) > 1 then (rows.length:Int) else 1)).toNat,by omega,?_⟩
   split at a1<;>split<;>omega
  have sg:=xF hs k hk2
  have tX:∀v:Int,setAt (.cel μ.length) (.int (k:Int)) (.int v) (μ++[(true,.lst (seen.map sT))])=some (μ++[(true,.lst ((seen.set k (some v)).map sT))]):=λv=>by
   rw[j5 (ts:=seen.map sT) gp (by omega) (by rw[List.length_map];omega),kB,List.map_set,Int.toNat_natCast]
   rfl
  have fin:∀v:Int,Seen p rows (seen.set k (some (v%p))):=λv=>Seen.set hs k (v%p) ⟨Int.emod_nonneg _ (by omega),Int.emod_lt_of_pos _ (by omega)⟩
  cases hv:cQ seen k with
  | none =>
   rw[hv] at sg
   have n1:gk (sT none)=some (.bl false):=rfl
   refine⟨seen.set k (some (c / 64%p)),?_,fin _⟩
   simp?! only[ll,og,hq,hk,sg,n1,hmp,tX]
   rw[jm]
   unfold iw
   simp?! only[k_]
  | some v =>
   rw[hv] at sg
   have n2:sT (some v)=.int v:=rfl
   refine⟨seen.set k (some ((c / 64+v+1)%p)),?_,fin _⟩
   simp?! only[ll,og,hq,hk,sg,n2,qP,hmp,tX]
   rw[jm]
   unfold iw
   simp?! only[k_]
end
theorem Hf(a b:Bool):fEq (.bl a) (.bl b)=some (.bl (a==b)):=by cases a<;>cases b<;>rfl
theorem Hg(a b:Bool):fNe (.bl a) (.bl b)=some (.bl (!(a==b))):=by cases a<;>cases b<;>rfl
theorem qc{C:List Int}{i:Nat}(h:i<C.length):g C i=C[i]:=by simp[g,h]
theorem E2{C:List Int}{n:Nat}(hl:C.length=n):C=List.replicate n (g C 0)↔∀i,i<n→g C i=g C 0:=by
 constructor
 ·intro e i hi
  rw[e]
  have:∀j,j<n→g (List.replicate n (g C 0)) j=g C 0:=λj hj=>by rw[qc (by rw[List.length_replicate];exact hj),List.getElem_replicate]
  rw[this i hi,this 0 (by omega)]
 ·intro h
  refine List.eq_replicate_iff.mpr ⟨hl,λb hb=>?_⟩
  obtain⟨i,hi,rfl⟩:=List.getElem_of_mem hb
  rw[← qc hi]
  exact h i (by omega)
structure Frm(p:Int)(h:Nat)(sh:Bool)(C:List Int):Prop where
 len:C.length=p.toNat
 bd:∀x∈C,0≤x∧x≤1000000
 at_:0<g C h
 alike:sh=true→∀i,i<p.toNat→g C i=g C 0
 one:sh=false→∀i,i<p.toNat→i≠h→g C i=0
section
variable{p:Int}{h:Nat}{sh sh':Bool}{C C':List Int}
theorem Frm.eq(hp:2≤p)(hh:h<p.toNat)(f:Frm p h sh C):decide (C=List.replicate p.toNat (g C 0))=sh:=by
 cases sh with
 | true=>exact decide_eq_true ((E2 f.len).mpr (f.alike rfl))
 | false =>
  refine decide_eq_false λe=>?_
  have all:=(E2 f.len).mp e
  have a1:=f.at_
  by_cases h0:h=0
  ·have:=f.one rfl 1 (by omega) (by omega)
   rw[all 1 (by omega)] at this
   rw[h0] at a1
   omega
  ·have:=f.one rfl 0 (by omega) (by omega)
   rw[all h hh] at a1
   omega
theorem MP(hl:C.length=C'.length)(i:Nat)(hi:i<C.length):g ((C.zip C').map λq=>q.1*q.2) i=g C i*g C' i:=by
 rw[qc (by simp;omega),qc hi,qc (by omega)]
 simp
theorem Frm.zip(hp:2≤p)(hh:h<p.toNat)(f:Frm p h sh C)(f':Frm p h sh' C')(hb:∀x∈C,x≤1000)(hb':∀x∈C',x≤1000):Frm p h (sh && sh') ((C.zip C').map λq=>q.1*q.2):=by
 have hl:C.length=C'.length:=by rw[f.len,f'.len]
 have zg:=λi hi=>MP hl i hi
 refine⟨by rw[List.length_map,List.length_zip,← hl,f.len];omega,λx hx=>?_,?_,λe i hi=>?_,λe i hi ne=>?_⟩
 ·obtain⟨q,hq,rfl⟩:=List.mem_map.mp hx
  have a1:=f.bd q.1 (List.of_mem_zip hq).1
  have a2:=f'.bd q.2 (List.of_mem_zip hq).2
  have a3:=hb q.1 (List.of_mem_zip hq).1
  have a4:=hb' q.2 (List.of_mem_zip hq).2
  refine⟨Int.mul_nonneg a1.1 a2.1,?_⟩
  exact Int.le_trans (Int.mul_le_mul a3 a4 a2.1 (by decide)) (by decide)
 ·rw[zg h (by rw[f.len];exact hh)]
  exact Int.mul_pos f.at_ f'.at_
 ·rw[Bool.and_eq_true] at e
  rw[zg i (by rw[f.len];exact hi),zg 0 (by rw[f.len];omega),f.alike e.1 i hi,f'.alike e.2 i hi]
 ·rw[zg i (by rw[f.len];exact hi)]
  cases hs:sh with
  | false=>rw[f.one hs i hi ne,Int.zero_mul]
  | true =>
   rw[hs,Bool.true_and] at e
   rw[f'.one e i hi ne,Int.mul_zero]
theorem Hh(hp:2≤p)(hh:h<p.toNat){a:Int}(ha:0<a)(hb:a≤1000):Frm p h true (List.replicate p.toNat a):=by
 have gg:∀i,i<p.toNat→g (List.replicate p.toNat a) i=a:=λi hi=>by rw[qc (by rw[List.length_replicate];exact hi),List.getElem_replicate]
 exact⟨List.length_replicate,λx hx=>by rw[List.eq_of_mem_replicate hx];omega,by rw[gg h hh];exact ha,λ_ i hi=>by rw[gg i hi,gg 0 (by omega)],λe=>by cases e⟩
theorem Hi(hp:2≤p)(hh:h<p.toNat){a:Int}(ha:0<a)(hb:a≤1000):Frm p h false ((List.replicate p.toNat 0).set h a):=by
 have hl:((List.replicate p.toNat (0:Int)).set h a).length=p.toNat:=by rw[List.length_set,List.length_replicate]
 refine⟨hl,λx hx=>by rcases xI hx with e|e<;>omega,?_,(λe=>by cases e),λ_ i hi ne=>?_⟩
 ·rw[qc (by rw[hl];exact hh),List.getElem_set_self];exact ha
 ·rw[qc (by rw[hl];exact hi),List.getElem_set_ne (λe=>ne e.symm),List.getElem_replicate]
end
theorem sJ{p:Int}{w:Nat}(hpw:p.toNat ^ w≤1000)(lines:List (List Int))(ps:List Int):∀x∈cw p w lines ps,x≤1000:=λx hx=>by
 obtain⟨h,_,rfl⟩:=List.mem_map.mp hx
 have h1:jI p w lines ps h≤(cP p w).length:=List.countP_le_length
 rw[mL] at h1
 omega
section
variable{p:Int}{w:Nat}{rows:Rows}
theorem AO(H:Tbl p w rows)(hpw:p.toNat ^ w≤1000){fs:List Int}(hF:Rw p w fs)(hs:List Int):∃(sh:Bool) (a:Str) (t:T),dW [.val (tb p w rows),.val (li hs)] []=.ok (.val (.tup [.str a,t])) []∧(a=="open")=!sh∧(a=="shut")=sh ∧
  Frm p (g fs 0).toNat sh (cw p w (linesAt rows (ay (bC rows hs (parts p rows fs)))) (aB (bC rows hs (parts p rows fs)))):=by
 have hb:=H.pr.pos
 have gb:=hF.g0 (p:=p) (by omega) 0
 have le:=sJ hpw (linesAt rows (ay (bC rows hs (parts p rows fs)))) (aB (bC rows hs (parts p rows fs)))
 rcases J8 H hF hs with ⟨t,e,a,ha,hc⟩|⟨t,e,a,ha,hc⟩
 ·refine⟨true,"shut",t,e,K.MN,K.EW,?_⟩
  rw[hc] at le ⊢
  exact Hh hb.1 (by omega) ha (le a (List.mem_replicate.mpr ⟨by omega,rfl⟩))
 ·refine⟨false,"open",t,e,K.J6,F.AE,?_⟩
  rw[hc] at le ⊢
  exact Hi hb.1 (by omega) ha (le a (List.mem_set (by rw[List.length_replicate];omega) a))
theorem E3{h0 h1:List Int}{s0 s1:Bool}{a0 a1:Str}{t0 t1:T}(e0:dW [.val (tb p w rows),.val (li h0)] []=.ok (.val (.tup [.str a0,t0])) [])(e1:dW [.val (tb p w rows),.val (li h1)] []=.ok (.val (.tup [.str a1,t1])) [])(o0:(a0=="open")=!s0)(o1:(a1=="open")=!s1) :
  ∃a r,eG [.val (tb p w rows),.val (li h0),.val (li h1)] []=.ok (.val (.tup (.str a::r))) []∧(a=="shut")=(s0 && s1):=by
 unfold eG oJ
 cases s0 with
 | false =>
  have o0:(a0=="open")=true:=o0
  refine⟨"open",[.int 0,t0],?_,F.AE⟩
  simp?! only[e0,o0]
 | true =>
  have o0:(a0=="open")=false:=o0
  cases s1 with
  | false =>
   have o1:(a1=="open")=true:=o1
   refine⟨"open",[.int 1,t1],?_,F.AE⟩
   simp?! only[e0,o0,e1,o1]
  | true =>
   have o1:(a1=="open")=false:=o1
   refine⟨"shut",[t0,t1],?_,K.EW⟩
   simp?! only[e0,o0,e1,o1]
end
theorem E4(x:SV)(C C':List Int)(hb:∀a∈C,0≤a∧a≤1000)(hl:C.length≤1000)(μ:ah):eK [x,.val (li C),.val (li C')] μ=.ok (.val (li ((C.zip C').map λq=>q.1*q.2))) μ:=by
 have ec:bU (λ_=>True) (cR [0,1]) (dC (.bl true)) (aj aQ (ae 0) (ae 1)) [none,none] (g_ (C.map T.int) (C'.map T.int)) μ=.ok (((C.zip C').map λq=>q.1*q.2).map T.int) μ:=by
  rw[j6,bz _ (λq:Int×Int=>.int (q.1*q.2)) trivial]
  ·rw[List.map_map];rfl
  ·rintro⟨a,b⟩ hq
   have ha:=hb a (List.of_mem_zip hq).1
   have fm:aQ (.int a) (.int b)=some (.int (a*b)):=iQ _ _ (by omega) (by omega)
   refine⟨_,dS 0 1 _ _ _,?_⟩
   simp?! only[fm]
 have ls:(g_ (C.map T.int) (C'.map T.int)).length≤szL:=by rw[lP,List.length_map];unfold szL;omega
 unfold eK oN
 simp?! only[and_self,ec,ls]
theorem AQ(hs:List Int)(hl:hs.length≤6)(μ:ah):bU (λ_=>True) (aD 0) (aj fLt (ae 0) (dC (.int 4))) (ae 0) [none] (hs.map T.int) μ=.ok ((hs.filter λh=>decide (h<4)).map T.int) μ:=by
 rw[kD (λh=>decide (h<4)) T.int trivial hs]
 intro h _
 refine⟨_,rfl,?_,λ_=>rfl⟩
 simp?! only[]
theorem AR{p:Int}{h:Nat}{sh:Bool}{C:List Int}(hp:2≤p)(hh:h<p.toNat)(f:Frm p h sh C):fEq (li C) (li (List.replicate p.toNat (g C 0)))=some (.bl sh):=by
 unfold li
 rw[qL,← f.eq hp hh]
 congr 2
 rw[Bool.eq_iff_iff,beq_iff_eq,decide_eq_true_iff]
def lwB:DS:=(ax (sIf (aj fNe (aj fEq (aw (ae 12) (ae 13)) (iP il [(aw (aw (ae 12) (ae 13)) (dC (.int 0)))] (ae 2))) (aj fEq (aw (ae 9) (ae 13)) (dC (.str "shut")))) (aH (dC (.bl false))) b_)
 (sIf (dOr (aj fEq (aw (aw (ae 12) (ae 13)) (aw (ae 6) (dC (.int 0)))) (dC (.int 0))) (wu (au (cal bX) [(ae 1),(aw (ae 12) (ae 13)),(aw (ae 11) (ae 13))]))) (aH (dC (.bl false))) b_))
section
variable{p:Int}{w:Nat}{rows:Rows}
theorem AS(H:Tbl p w rows){fs:List Int}(hF:Rw p w fs){sh:Bool}{a:Str}{seen:List (Option Int)}(S:Seen p rows seen)(hsh:(a=="shut")=sh)
  (f:Frm p (g fs 0).toNat sh (cw p w (linesAt rows (ay seen)) (aB seen))) (ws cs ss:List T) (k:Int) (k1:atI ws k=some (.str a)) (k2:atI cs k=some (li (cw p w (linesAt rows (ay seen)) (aB seen)))) (k3:atI ss k=some (.lst (seen.map sT))) (x0 x3 x4 x5 x7 x8 x10 x14 x15:Option SV) :
  lwB [x0,some (.val (tb p w rows)),some (.val (.int p)),x3,x4,x5,some (.val (li fs)),x7,x8,some (.val (.lst ws)),x10,some (.val (.lst ss)),some (.val (.lst cs)),some (.val (.int k)),x14,x15] [] =
   .nx [x0,some (.val (tb p w rows)),some (.val (.int p)),x3,x4,x5,some (.val (li fs)),x7,x8,some (.val (.lst ws)),x10,some (.val (.lst ss)),some (.val (.lst cs)),some (.val (.int k)),x14,x15] []:=by
 have hb:=H.pr.pos
 have hw0:=H.w0
 have gb:=hF.g0 (p:=p) (by omega) 0
 have hr:=xK H S []
 have al:=AR hb.1 (by omega) f
 generalize cw p w (linesAt rows (ay seen)) (aB seen)=C at *
 have hl:=f.len
 have c0:atI (C.map T.int) 0=some (.int (g C 0)):=by rw[atg (by omega) (by rw[hl];omega)];rfl
 have ch:atI (C.map T.int) (g fs 0)=some (.int (g C (g fs 0).toNat)):=by rw[atg (by omega) (by rw[hl];omega)]
 have x0':atI (fs.map T.int) 0=some (.int (g fs 0)):=by rw[atg (by omega) (by rw[hF.1];omega)];rfl
 have rp:=rep0 hb (g C 0)
 have nb:=Hg sh sh
 rw[beq_self_eq_true,Bool.not_true] at nb
 have fz:(g C (g fs 0).toNat==0)=false:=by
  rw[beq_eq_false_iff_ne]
  have:=f.at_
  omega
 unfold lwB
 generalize hRf:il=rf at rp
 simp?! only[k1,k2,k3,c0,mE,rp,al,hsh,nb,x0',ch,fz,hr]
end
theorem holds(ns:List Int)(hlen:ns.length≤63):∃μ',pN [.val (.lst (ns.map T.int))] []=.ok (.val (.bl true)) μ':=by
 obtain⟨p,w,rows,hT,H,hpw⟩:=EX ns []
 have hb:=H.pr.pos
 have hw0:=H.w0
 have hw1:=H.w1
 have hn:=H.n
 have hpn:((p.toNat:Nat):Int)=p:=by omega
 have hfl:=xE H.pr w (by omega) hpw []
 obtain⟨c1,hc1⟩:=i7 ns 1 (by decide) (by decide)
 obtain⟨c2,hc2⟩:=i7 ns 2 (by decide) (by decide)
 obtain⟨c3,hc3⟩:=i7 ns 3 (by decide) (by decide)
 obtain⟨c4,hc4⟩:=i7 ns 4 (by decide) (by decide)
 obtain⟨c5,hc5⟩:=i7 ns 5 (by decide) (by decide)
 obtain⟨fs,hfs,hF⟩:=jq c1 p w true (by omega) (by omega) (by omega) []
 obtain⟨cs,hcs,hC⟩:=jq c4 p (w-1) true (by omega) (by omega) (by omega) []
 rw[show ((w-1:Nat):Int)=(w:Int)-1 by omega] at hcs
 have hgv:=pj H fs (.val (li fs)) [] rfl
 obtain⟨q0,hq0,_,hh0⟩:=ph c2
 obtain⟨q1,hq1,_,hh1⟩:=ph c3
 have gb:=hF.g0 (p:=p) (by omega) 0
 have hv:Rw p rows.length (parts p rows fs):=K.sI (by omega) rows fs
 have hcl:(0::cs).length=w:=by rw[List.length_cons,hC.1];omega
 have hF2:Rw p w (pY p fs (0::cs)):=G_ (by omega) hF.1 hcl
 have hg2:g (pY p fs (0::cs)) 0=g fs 0:=by
  cases fs with
  | nil=>have:=hF.1;simp at this;omega
  | cons a r =>
   have e:g (pY p (a::r) (0::cs)) 0=(a+0)%p:=rfl
   have e2:g (a::r) 0=a:=rfl
   rw[e2] at gb
   rw[e,e2,Int.add_zero,Int.emod_eq_of_lt gb.1 gb.2]
 have hrn:=zv H (parts p rows fs) cs (by rw[hC.1];omega) (by rw[hv.1];omega) []
 rw[← Ck p rows fs (0::cs) (by rw[hF.1,hcl])] at hrn
 generalize pY p fs (0::cs)=fs2 at hF2 hg2 hrn
 have hv2:Rw p rows.length (parts p rows fs2):=K.sI (by omega) rows fs2
 generalize hH0:(q0.filter λh=>decide (h<4))=h0
 generalize hH1:(q1.filter λh=>decide (h<4))=h1
 obtain⟨s0,a0,t0,o0,b0,d0,f0⟩:=AO H hpw hF h0
 obtain⟨s1,a1,t1,o1,b1,d1,f1⟩:=AO H hpw hF2 h1
 rw[hg2] at f1
 have se0:=AJ H h0 (parts p rows fs) hv []
 have se1:=AJ H h1 (parts p rows fs2) hv2 []
 have S0:=jJ (rows:=rows) h0 _ hv
 have S1:=jJ (rows:=rows) h1 _ hv2
 have co0:=nT H S0 []
 have co1:=nT H S1 []
 have le0:=sJ hpw (linesAt rows (ay (bC rows h0 (parts p rows fs)))) (aB (bC rows h0 (parts p rows fs)))
 have le1:=sJ hpw (linesAt rows (ay (bC rows h1 (parts p rows fs2)))) (aB (bC rows h1 (parts p rows fs2)))
 obtain⟨sp,hsp,SP⟩:=Cq hb hn S0 (c5%1000000000) []
 have SE:=nT H SP []
 have SF:=xK H SP []
 obtain⟨aa',r,htw,haw⟩:=E3 o0 o1 b0 b1
 generalize bC rows h0 (parts p rows fs)=n0 at *
 generalize bC rows h1 (parts p rows fs2)=n1 at *
 have pw:wA (.int 10) (.int 9)=some (.int 1000000000):=rfl
 have bt:∀e,cR [2,3,4] (tb p w rows) e=some (((e.set 2 (some (.val (.int p)))).set 3 (some (.val (.int w)))).set 4 (some (.val (.tup (rows.map rt))))):=λe=>rfl
 refine⟨[],?_⟩
 show (D9 (starts 16 [.val (.lst (ns.map T.int))]) []).qS 0=_
 rw[JH,BO]
 unfold yG
 simp?! only[hT]
 rw[BP]
 unfold yH
 simp?! only[bt]
 rw[BQ]
 unfold yI
 simp?! only[hfl]
 rw[BR]
 unfold yJ
 simp?! only[hc1,hfs]
 rw[BS]
 unfold yK
 simp?! only[hgv]
 rw[BU]
 unfold yL
 have hl0:h0.length≤6:=by rw[← hH0];exact Nat.le_trans (List.length_filter_le _ _) hq0
 have hl1:h1.length≤6:=by rw[← hH1];exact Nat.le_trans (List.length_filter_le _ _) hq1
 have e5:bU (λ_=>True) (aD 0) (dC (.bl true)) (aT (fh (au (cal eI) [(au (cal aS) [(ae 1),(aj bw (dC (.int 2)) (ae 0))])])) [none] (aD 0) (aj fLt (ae 0) (dC (.int 4))) (ae 0)) [none,some (.val (.lst (ns.map T.int)))] (bq 0 2) []=.ok [li h0,li h1] []:=by
  rw[show bq 0 2=[(0,li h0),(1,li h1)].map λq:Int×T=>T.int q.1 from rfl,bz (λq:Int×T=>T.int q.1) (λq=>q.2) trivial]
  ·rfl
  ·intro q hq
   have z0:=AQ q0 hq0 []
   have z1:=AQ q1 hq1 []
   have m0:(q0.map T.int).length≤szL:=by rw[List.length_map];unfold szL;omega
   have m1:(q1.map T.int).length≤szL:=by rw[List.length_map];unfold szL;omega
   have i0:bg (li q0)=some (q0.map T.int):=rfl
   have i1:bg (li q1)=some (q1.map T.int):=rfl
   rw[hH0] at z0
   rw[hH1] at z1
   simp only[List.mem_cons,List.not_mem_nil,or_false] at hq
   rcases hq with rfl|rfl
   ·have e2:(2:Int)+0=2:=rfl
    refine⟨[some (.val (.int 0)),some (.val (.lst (ns.map T.int)))],rfl,?_⟩
    simp?! only[e2,hc2,hh0,i0,m0,z0]
   ·have e2:(2:Int)+1=3:=rfl
    refine⟨[some (.val (.int 1)),some (.val (.lst (ns.map T.int)))],rfl,?_⟩
    simp?! only[e2,hc3,hh1,i1,m1,z1]
 have r2:eO 2=true:=cZ (by decide) (by decide)
 have t2:(2:Int).toNat=2:=rfl
 have l2:(bq 0 2).length≤szL:=by rw[cc];decide
 simp?! only[r2,t2,l2,e5]
 rw[BV]
 unfold yM
 have l22:2≤szL:=by decide
 have e6:bU (λ_=>True) (aD 0) (dC (.bl true)) (aw (au (cal dW) [(ae 1),(ae 0)]) (dC (.int 0))) [none,some (.val (tb p w rows))] [li h0,li h1] []=.ok [.str a0,.str a1] []:=by
  rw[show [li h0,li h1]=[(h0,T.str a0),(h1,T.str a1)].map λq:List Int×T=>li q.1 from rfl,bz (λq:List Int×T=>li q.1) (λq=>q.2) trivial]
  ·rfl
  ·intro q hq
   simp only[List.mem_cons,List.not_mem_nil,or_false] at hq
   rcases hq with rfl|rfl
   ·refine⟨_,rfl,?_⟩
    simp?! only[o0]
   ·refine⟨_,rfl,?_⟩
    simp?! only[o1]
 simp?! only[l22,e6]
 rw[BW]
 unfold yN
 have flg:j4 (li (parts p rows fs))=some (li (parts p rows fs)):=rfl
 simp?! only[flg,hc4,hcs,hrn]
 rw[BX]
 unfold yO
 simp?! only[se0,se1]
 rw[BY]
 unfold yP
 generalize hC0:cw p w (linesAt rows (ay n0)) (aB n0)=C0 at *
 generalize hC1:cw p w (linesAt rows (ay n1)) (aB n1)=C1 at *
 have e9:bU (λ_=>True) (aD 0) (dC (.bl true)) (au (cal bQ) [(ae 1),(ae 2),(ae 0)]) [none,some (.val (tb p w rows)),some (.val (.lst ((cP p w).map li)))] [.lst (n0.map sT),.lst (n1.map sT)] []=.ok [li C0,li C1] []:=by
  rw[show [T.lst (n0.map sT),T.lst (n1.map sT)]=[(n0,li C0),(n1,li C1)].map λq:List (Option Int)×T=>T.lst (q.1.map sT) from rfl,bz (λq:List (Option Int)×T=>T.lst (q.1.map sT)) (λq=>q.2) trivial]
  ·rfl
  ·intro q hq
   simp only[List.mem_cons,List.not_mem_nil,or_false] at hq
   rcases hq with rfl|rfl
   ·refine⟨_,rfl,?_⟩
    simp?! only[co0]
   ·refine⟨_,rfl,?_⟩
    simp?! only[co1]
 simp?! only[l22,e9]
 rw[yZ,show vw=eQ (aV (dC (.int 2))) (aD 13) lwB from rfl]
 obtain⟨e',M',hf,x13,rfl,rfl⟩:=fO (same:=λ_=>True) (b:=aD 13) (ts:=bq 0 2) (body:=lwB)
  (I:=λi e M=>∃x13,e=[some (.val (.lst (ns.map T.int))),some (.val (tb p w rows)),some (.val (.int p)),some (.val (.int w)),some (.val (.tup (rows.map rt))),some (.val (.lst ((cP p w).map li))),some (.val (li fs)),some (.val (li (parts p rows fs))),some (.val (.lst [li h0,li h1])),some (.val (.lst [.str a0,.str a1])),some (.val (li (parts p rows fs2))),some (.val (.lst [.lst (n0.map sT),.lst (n1.map sT)])),some (.val (.lst [li C0,li C1])),x13,none,none]∧([]:ah)=M)
  (λ_ _ _ _=>trivial) (λi t e M ht aq=>by
   obtain⟨x13,he,hM⟩:=aq
   subst he hM
   obtain⟨k,rfl,hi,hk⟩:=ox ht
   have hk2:k=0∨k=1:=by omega
   rcases hk2 with rfl|rfl
   ·have st0:=AS H hF S0 d0 (by rw[hC0];exact f0) [.str a0,.str a1] [li C0,li C1] [.lst (n0.map sT),.lst (n1.map sT)] 0 rfl (by rw[hC0];rfl) rfl
    exact⟨_,_,[],rfl,st0 _ _ _ _ _ _ _ _ _,some (.val (.int 0)),rfl,rfl⟩
   ·have st1:=AS H hF S1 d1 (by rw[hC1];exact f1) [.str a0,.str a1] [li C0,li C1] [.lst (n0.map sT),.lst (n1.map sT)] 1 rfl (by rw[hC1];rfl) rfl
    exact⟨_,_,[],rfl,st1 _ _ _ _ _ _ _ _ _,some (.val (.int 1)),rfl,rfl⟩)
  (e:=[some (.val (.lst (ns.map T.int))),some (.val (tb p w rows)),some (.val (.int p)),some (.val (.int w)),some (.val (.tup (rows.map rt))),some (.val (.lst ((cP p w).map li))),some (.val (li fs)),some (.val (li (parts p rows fs))),some (.val (.lst [li h0,li h1])),some (.val (.lst [.str a0,.str a1])),some (.val (li (parts p rows fs2))),some (.val (.lst [.lst (n0.map sT),.lst (n1.map sT)])),some (.val (.lst [li C0,li C1])),none,none,none]) (μ:=[]) ⟨none,rfl,rfl⟩
 simp?! only[r2,t2,hf]
 rw[y9]
 unfold vx
 simp?! only[hc5,pw,hsp]
 rw[y_]
 unfold vy
 simp?! only[SE,SF]
 rw[za]
 unfold vA
 have hpr:=E4 (.val (tb p w rows)) C0 C1 (λa ha=>⟨(f0.bd a ha).1,le0 a ha⟩) (by rw[f0.len];omega) []
 simp?! only[hpr]
 rw[zb]
 unfold vB
 have fz:=f0.zip hb.1 (by omega) f1 le0 le1
 have al:=AR hb.1 (by omega) fz
 generalize (C0.zip C1).map (λq=>q.1*q.2)=P at fz al
 have p0:atI (P.map T.int) 0=some (.int (g P 0)):=by rw[atg (by omega) (by rw[fz.len];omega)];rfl
 have rp:=rep0 hb (g P 0)
 have fb:=Hf (s0 && s1) (s0 && s1)
 rw[beq_self_eq_true] at fb
 generalize hRf:il=rf at rp
 simp?! only[htw,haw,p0,mE,rp,al,fb]
end Fw.k95
open PySem PySem.W PyProof.Rows
namespace PySem.W.Fast
theorem tw58119875100999665 : True := trivial
theorem te5722160997191843243 : True := trivial
theorem tw7422081358023026470 : True := trivial
theorem tw9311738610107666686 : True := trivial
theorem tw8626659524369099668 : True := trivial
theorem tw2209977299554789946 : True := trivial
theorem tw5711303227846432929 : True := trivial
theorem tw5461809788117395046 : True := trivial
theorem tw11502428367201891424 : True := trivial
theorem tw773841151093695240 : True := trivial
theorem tw6654760164467364334 : True := trivial
theorem tw11435282541151563201 : True := trivial
theorem tw2320162423980437638 : True := trivial
theorem tw9149432130603113045 : True := trivial
theorem tw5157606987383397419 : True := trivial
theorem tw12982618931080089453 : True := trivial
theorem tw9512725025434108539 : True := trivial
theorem tw12167303673984455625 : True := trivial
theorem tw4069549292646306582 : True := trivial
theorem tw40154077774206651 : True := trivial
theorem tw3491836072355834767 : True := trivial
theorem tw1917377264629890693 : True := trivial
theorem tw11013126118485083967 : True := trivial
theorem tw5664993476640712655 : True := trivial
theorem tw18346160952894256310 : True := trivial
theorem tw5346622257335967712 : True := trivial
theorem tw4409734271763483092 : True := trivial
theorem tw9140601203474583316 : True := trivial
theorem tw10290165949661758087 : True := trivial
theorem tw4640818854740786535 : True := trivial
theorem tw11900540668840714742 : True := trivial
theorem tw5534748892126318132 : True := trivial
theorem tw17539036036722726270 : True := trivial
theorem tw6222370090656657568 : True := trivial
theorem tw5626239277287980336 : True := trivial
theorem tw2452915645359257511 : True := trivial
theorem tw4961879712590117368 : True := trivial
theorem tw1104053547491071407 : True := trivial
theorem tw11701424072745319021 : True := trivial
theorem tw8098490032599422355 : True := trivial
theorem tw5063940927874568989 : True := trivial
theorem tw2085963008212639803 : True := trivial
theorem tw6859777201405716951 : True := trivial
end PySem.W.Fast
set_option maxRecDepth 100000 in
set_option maxHeartbeats 0 in
theorem PySem.Challenge.cw_fewopen_k95_whole_equally_often_holds : PySem.Challenge.rw_fewopen_k95_whole_equally_often.Holds := by
 w_on;o_law;k_head;(case hw=>w_witness2)
 k_fill
 refine Fw.k95.walk (l:=PySem.Challenge.rw_fewopen_k95_whole_equally_often) rfl rfl Fw.k95.holds (λw h Y=>PySem.W.kIn_of Y) ?F
 case F =>
  intro w mg fa h KX G hmg
  refine' Fw.k95.all_mk KX G hmg ?a0 ?l0 ?c0 ?k0 ?a1 ?l1 ?c1 ?k1 ?a2 ?l2 ?c2 ?k2 ?a3 ?l3 ?c3 ?k3 ?a4 ?l4 ?c4 ?k4 ?a5 ?l5 ?c5 ?k5 ?a6 ?l6 ?c6 ?k6 ?a7 ?l7 ?c7 ?k7 ?a8 ?l8 ?c8 ?k8 ?a9 ?l9 ?c9 ?k9 ?a10 ?l10 ?c10 ?k10 ?a11 ?l11 ?c11 ?k11 ?a12 ?l12 ?c12 ?k12 ?a13 ?l13 ?c13 ?k13 ?a14 ?l14 ?c14 ?k14 ?a15 ?l15 ?c15 ?k15 ?a16 ?l16 ?c16 ?k16 ?a17 ?l17 ?c17 ?k17 ?a18 ?l18 ?c18 ?k18 ?a19 ?l19 ?c19 ?k19 ?a20 ?l20 ?c20 ?k20 ?a21 ?l21 ?c21 ?k21 ?a22 ?l22 ?c22 ?k22 ?a23 ?l23 ?c23 ?k23 ?a24 ?l24 ?c24 ?k24 ?a25 ?l25 ?c25 ?k25 ?a26 ?l26 ?c26 ?k26 ?a27 ?l27 ?c27 ?k27 ?a28 ?l28 ?c28 ?k28 ?a29 ?l29 ?c29 ?k29 ?a30 ?l30 ?c30 ?k30 ?a31 ?l31 ?c31 ?k31 ?a32 ?l32 ?c32 ?k32 ?a33 ?l33 ?c33 ?k33 ?a34 ?l34 ?c34 ?k34 ?a35 ?l35 ?c35 ?k35 ?a36 ?l36 ?c36 ?k36 ?a37 ?l37 ?c37 ?k37 ?a38 ?l38 ?c38 ?k38 ?a39 ?l39 ?c39 ?k39 ?a40 ?l40 ?c40 ?k40 ?z0 ?z1 ?z2 ?z3 ?z4 ?z5 ?z6 ?z7 ?z8 ?z9 ?z10
  (case a0=>k_is)
  (case l0=>k_is)
  (case c0=>k_is)
  (case k0=>k_is)
  (case a1=>k_is)
  (case l1=>k_is)
  (case c1=>k_is)
  (case k1=>k_is)
  (case a2=>k_is)
  (case l2=>k_is)
  (case c2=>k_is)
  (case k2=>k_is)
  (case a3=>k_is)
  (case l3=>k_is)
  (case c3=>k_is)
  (case k3=>k_is)
  (case a4=>k_is)
  (case l4=>k_is)
  (case c4=>k_is)
  (case k4=>k_is)
  (case a5=>k_is)
  (case l5=>k_is)
  (case c5=>k_is)
  (case k5=>k_is)
  (case a6=>k_is)
  (case l6=>k_is)
  (case c6=>k_is)
  (case k6=>k_is)
  (case a7=>k_is)
  (case l7=>k_is)
  (case c7=>k_is)
  (case k7=>k_is)
  (case a8=>k_is)
  (case l8=>k_is)
  (case c8=>k_is)
  (case k8=>k_is)
  (case a9=>k_is)
  (case l9=>k_is)
  (case c9=>k_is)
  (case k9=>k_is)
  (case a10=>k_is)
  (case l10=>k_is)
  (case c10=>k_is)
  (case k10=>k_is)
  (case a11=>k_is)
  (case l11=>k_is)
  (case c11=>k_is)
  (case k11=>k_is)
  (case a12=>k_is)
  (case l12=>k_is)
  (case c12=>k_is)
  (case k12=>k_is)
  (case a13=>k_is)
  (case l13=>k_is)
  (case c13=>k_is)
  (case k13=>k_is)
  (case a14=>k_is)
  (case l14=>k_is)
  (case c14=>k_is)
  (case k14=>k_is)
  (case a15=>k_is)
  (case l15=>k_is)
  (case c15=>k_is)
  (case k15=>k_is)
  (case a16=>k_is)
  (case l16=>k_is)
  (case c16=>k_is)
  (case k16=>k_is)
  (case a17=>k_is)
  (case l17=>k_is)
  (case c17=>k_is)
  (case k17=>k_is)
  (case a18=>k_is)
  (case l18=>k_is)
  (case c18=>k_is)
  (case k18=>k_is)
  (case a19=>k_is)
  (case l19=>k_is)
  (case c19=>k_is)
  (case k19=>k_is)
  (case a20=>k_is)
  (case l20=>k_is)
  (case c20=>k_is)
  (case k20=>k_is)
  (case a21=>k_is)
  (case l21=>k_is)
  (case c21=>k_is)
  (case k21=>k_is)
  (case a22=>k_is)
  (case l22=>k_is)
  (case c22=>k_is)
  (case k22=>k_is)
  (case a23=>k_is)
  (case l23=>k_is)
  (case c23=>k_is)
  (case k23=>k_is)
  (case a24=>k_is)
  (case l24=>k_is)
  (case c24=>k_is)
  (case k24=>k_is)
  (case a25=>k_is)
  (case l25=>k_is)
  (case c25=>k_is)
  (case k25=>k_is)
  (case a26=>k_is)
  (case l26=>k_is)
  (case c26=>k_is)
  (case k26=>k_is)
  (case a27=>k_is)
  (case l27=>k_is)
  (case c27=>k_is)
  (case k27=>k_is)
  (case a28=>k_is)
  (case l28=>k_is)
  (case c28=>k_is)
  (case k28=>k_is)
  (case a29=>k_is)
  (case l29=>k_is)
  (case c29=>k_is)
  (case k29=>k_is)
  (case a30=>k_is)
  (case l30=>k_is)
  (case c30=>k_is)
  (case k30=>k_is)
  (case a31=>k_is)
  (case l31=>k_is)
  (case c31=>k_is)
  (case k31=>k_is)
  (case a32=>k_is)
  (case l32=>k_is)
  (case c32=>k_is)
  (case k32=>k_is)
  (case a33=>k_is)
  (case l33=>k_is)
  (case c33=>k_is)
  (case k33=>k_is)
  (case a34=>k_is)
  (case l34=>k_is)
  (case c34=>k_is)
  (case k34=>k_is)
  (case a35=>k_is)
  (case l35=>k_is)
  (case c35=>k_is)
  (case k35=>k_is)
  (case a36=>k_is)
  (case l36=>k_is)
  (case c36=>k_is)
  (case k36=>k_is)
  (case a37=>k_is)
  (case l37=>k_is)
  (case c37=>k_is)
  (case k37=>k_is)
  (case a38=>k_is)
  (case l38=>k_is)
  (case c38=>k_is)
  (case k38=>k_is)
  (case a39=>k_is)
  (case l39=>k_is)
  (case c39=>k_is)
  (case k39=>k_is)
  (case a40=>k_is)
  (case l40=>k_is)
  (case c40=>k_is)
  (case k40=>k_is)
  (case z0=>k_is)
  (case z1=>k_is)
  (case z2=>k_is)
  (case z3=>k_is)
  (case z4=>k_is)
  (case z5=>k_is)
  (case z6=>k_is)
  (case z7=>k_is)
  (case z8=>k_is)
  (case z9=>k_is)
  (case z10=>k_is)
