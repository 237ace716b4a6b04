import PyProof.Rows.All
import Wide.All
import OpenK.AllK
import Wide.FinOn
import Lean
import PyProof.EqAt
import PyProof.EqKinds
import PyProof.TupleCall
import PyProof.NeData
import PyProof.P3Eq
import PyProof.ConsumeWalk
import PyProof.ZipIter
import PyProof.DictItemsLoops
import KE.KDictList
import KE.KPairComp
import PyProof.Draws
import PyProof.EnumMake
import PyProof.EnumFor
import PyProof.ListRange
import PyProof.ListMulAny
import KE.KRevIter
import PyProof.Rows.SortShell
import PyProof.ListNew
import KE.KDictIter
import PyProof.DictWalks
import PyProof.StrCalls2
import KE.KSortAsk
import KE.KEqDict
import PySem.Challenge.RW_fewopen_k83_tables_turned_about
set_option compiler.extract_closed false
set_option bootstrap.genMatcherCode false
set_option genSizeOf false
set_option Elab.async false
set_option linter.all false
set_option maxRecDepth 100000
noncomputable section
namespace L2
open PySem PySem.Spec PyProof.Rows
noncomputable abbrev Key := Sum Int Str
def qw:Key→Value→Bool
 | .inl k,v=>Value.isInt k v
 | .inr x,v=>Value.isStrOf x v
def N1(w:World):Key→Int
 | .inl k=>hashInt k
 | .inr x=>hashStr w x
theorem cU:∀{k:Key}{v:Value},qw k v=true→(∃i t,k=Sum.inl i∧v=Value.int i t)∨(∃x t,k=Sum.inr x∧v=Value.str x t)
 | .inl i,v,h=>by
  obtain⟨t,e⟩:=Value.isInt_shape (k:=i) (v:=v) h
  exact .inl ⟨i,t,rfl,e⟩
 | .inr x,v,h=>by
  obtain⟨t,e⟩:=Value.isStrOf_shape (x:=x) (v:=v) h
  exact .inr ⟨x,t,rfl,e⟩
theorem A_(i:Int)(t:Tok):qw (.inl i) (.int i t)=true:=by simp[qw,Value.isInt]
theorem Ba(x:Str)(t:Tok):qw (.inr x) (.str x t)=true:=by simp[qw,Value.isStrOf]
theorem IU(a b:Int):decide ((Sum.inl a:Key)=Sum.inl b)=(a==b):=by
 by_cases e:a=b
 ·subst e;simp
 ·have h:¬ (Sum.inl a:Key)=Sum.inl b:=λq=>e (Sum.inl.inj q)
  rw[decide_eq_false h]
  exact (beq_eq_false_iff_ne.mpr e).symm
theorem IV(a b:Str):decide ((Sum.inr a:Key)=Sum.inr b)=decide (a=b):=by
 by_cases e:a=b
 ·subst e;simp
 ·have h:¬ (Sum.inr a:Key)=Sum.inr b:=λq=>e (Sum.inr.inj q)
  rw[decide_eq_false h,decide_eq_false e]
theorem IW(a:Int)(b:Str):decide ((Sum.inl a:Key)=Sum.inr b)=false:=decide_eq_false (λq=>nomatch q)
theorem IX(a:Str)(b:Int):decide ((Sum.inr a:Key)=Sum.inl b)=false:=decide_eq_false (λq=>nomatch q)
def dG(prog:Program)(w:World):PySem.KeyKind prog w Key where
 is:=qw
 hash:=N1 w
 inj:=λv a b ha hb=>by
  rcases cU ha with ⟨i,t,rfl,rfl⟩|⟨x,t,rfl,rfl⟩
  ·rcases cU hb with ⟨j,u,rfl,e⟩|⟨y,u,rfl,e⟩
   ·injection e with e1 _;rw[e1]
   ·exact nomatch e
  ·rcases cU hb with ⟨j,u,rfl,e⟩|⟨y,u,rfl,e⟩
   ·exact nomatch e
   ·injection e with e1 _;rw[e1]
 byValue:=λk v h=>by
  rcases cU h with ⟨i,t,rfl,rfl⟩|⟨x,t,rfl,rfl⟩<;>rfl
 pyHash:=λhv h=>by
  rcases cU hv with ⟨i,t,rfl,rfl⟩|⟨x,t,rfl,rfl⟩
  ·exact wpAny_pyHash_int h
  ·exact wpAny_pyHash_str h
 eqBool:=λhu hv h=>by
  rcases cU hu with ⟨i,t,rfl,rfl⟩|⟨x,t,rfl,rfl⟩
  ·rcases cU hv with ⟨j,u,rfl,rfl⟩|⟨y,u,rfl,rfl⟩
   ·rw[IU] at h;exact wpAny_eqBool_int h
   ·rw[IW] at h;exact SeqAt.EqAt.int_str i t y u _ _ _ _ h
  ·rcases cU hv with ⟨j,u,rfl,rfl⟩|⟨y,u,rfl,rfl⟩
   ·rw[IX] at h;exact SeqAt.EqAt.str_int x t j u _ _ _ _ h
   ·rw[IV] at h;exact wpAny_eqBool_str h
 «strs»:=λk x t v h=>by
  rcases cU h with ⟨i,u,rfl,e⟩|⟨y,u,rfl,e⟩
  ·exact nomatch e
  ·injection e with e1 _
   subst e1
   cases v<;>rfl
theorem we(prog:Program)(w:World)(i:Int)(t:Tok):(dG prog w).is (.inl i) (.int i t)=true:=A_ i t
theorem wg(prog:Program)(w:World)(x:Str)(t:Tok):(dG prog w).is (.inr x) (.str x t)=true:=Ba x t
inductive V where
 | non|bl (b:Bool)|int (i:Int)|str (x:Str)|byt (b:Array UInt8)|flt (b:UInt64)|ref (a:Addr)|ty (n:String)
 deriving DecidableEq
def RelV:V→Value→Prop
 | .non,u=>u=Value.none
 | .bl b,u=>u=Value.bool b
 | .int i,u=>∃t,u=Value.int i t
 | .str x,u=>∃t,u=Value.str x t
 | .byt b,u=>∃t,u=Value.bytes b t
 | .flt b,u=>∃t,u=Value.float b t
 | .ref a,u=>u=Value.ref a
 | .ty n,u=>u=Value.type n
noncomputable abbrev Vals : List V → List Value → Prop := Paired RelV
theorem Vals.length{xs:List V}{us:List Value}(r:Vals xs us):xs.length=us.length:=Paired.length r
theorem Vals.get:∀{xs:List V}{us:List Value}{i:Nat}{x:V},Vals xs us→xs[i]?=some x→∃u,us[i]?=some u∧RelV x u
 | _,_,_,_,.nil,e=>by simp at e
 | _,_,0,_,.cons r _,e=>by simp at e;subst e;exact⟨_,rfl,r⟩
 | _,_,i+1,x,.cons _ t,e=>by
  obtain⟨u,h1,h2⟩:=Vals.get (i:=i) (x:=x) t (by simpa using e)
  exact⟨u,by simpa using h1,h2⟩
theorem Vals.set{x:V}{u:Value}(r:RelV x u):∀{xs:List V}{us:List Value} (i:Nat),Vals xs us→Vals (xs.set i x) (us.set i u)
 | _,_,_,.nil=>.nil
 | _,_,0,.cons _ t=>.cons r t
 | _,_,i+1,.cons q t=>.cons q (Vals.set r i t)
theorem Vals.append:∀{xs ys:List V}{us ws:List Value},Vals xs us→Vals ys ws→Vals (xs++ys) (us++ws)
 | _,_,_,_,.nil,s=>s
 | _,_,_,_,.cons r t,s=>.cons r (Vals.append t s)
theorem Vals.take:∀{xs:List V}{us:List Value} (n:Nat),Vals xs us→Vals (xs.take n) (us.take n)
 | _,_,0,_=>.nil
 | _,_,_+1,.nil=>.nil
 | _,_,n+1,.cons r t=>.cons r (Vals.take n t)
theorem Vals.drop:∀{xs:List V}{us:List Value} (n:Nat),Vals xs us→Vals (xs.drop n) (us.drop n)
 | _,_,0,r=>r
 | _,_,_+1,.nil=>.nil
 | _,_,n+1,.cons _ t=>Vals.drop n t
def p0:Option V→Option Value→Prop
 | some v,some u=>RelV v u
 | none,none=>True
 | _,_=>False
def KV{κ:Type}:List (κ×V)→List (κ×Value)→Prop:=Paired λ(p:κ×V) (q:κ×Value)=>p.1=q.1∧RelV p.2 q.2
def kV:Key→V
 | .inl i=>.int i
 | .inr x=>.str x
inductive HO where
 | lst (xs:List V)
 | tup (xs:List V)
 | dK (kvs:List (Key×V))|dT (kvs:List (List Key×V))
 | set (S:Int→Bool) (n:Nat)
 | ins (C dx:Addr) (fs:List (Str×V))
 | own (x:Addr)
 | xd (fs:List (Str×V))
 | met (f x:Addr)
 | rng (lo hi:Int)
 | frz (o:Obj) (u:HO)
 | tbl (ps:Array Value)
 | ext (φ:Heap→Prop)
noncomputable abbrev Hp := Addr → Option HO
def upd(H:Hp)(a:Addr)(o:HO):Hp:=λb=>if b=a then some o else H b
theorem aM{H:Hp}{a:Addr}{o:HO}:upd H a o a=some o:=by unfold upd;rw[if_pos rfl]
theorem aO{H:Hp}{a b:Addr}{o:HO}(h:b≠a):upd H a o b=H b:=by unfold upd;rw[if_neg h]
theorem LL{H:Hp}{a b:Addr}{o u:HO}(h:H a=some o)(h':H b=some u)(d:o≠u):a≠b:=by
 intro e;subst e;rw[h] at h';exact d (Option.some.inj h')
theorem d0{H:Hp}{a b:Addr}{o:HO}(h:H a=some o)(h':H b=none):a≠b:=by
 intro e;subst e;rw[h] at h';cases h'
section
variable(P:Program)(w:World)
def dB(H:Hp)(h:Heap)(a:Addr):HO→Prop
 | .lst xs=>xs.length≤sizeLine∧∃(its:List Value) (n:Nat),Vals xs its∧h.get? a=some { cls:=.type "list",data:=.seq its.toArray n }
 | .tup xs=>xs.length≤sizeLine∧∃its:List Value,Vals xs its∧IsTup h a its.toArray
 | .dK kvs=>kvs.length≤sizeLine∧(a==sysModules)=false∧∃vs,KV kvs vs∧h.DictAt (dG P w) a vs vs.length
 | .dT kvs=>kvs.length≤sizeLine∧(a==sysModules)=false∧∃xs:List (List Key×Addr×Value),
   Paired (λ(p:List Key×V) (q:List Key×Addr×Value)=>p.1=q.1∧H q.2.1=some (.tup (p.1.map kV))∧RelV p.2 q.2.2) kvs xs ∧
   ∃o es ep,h.get? a=some o∧o.ExactDict∧o.data=.dict es ep∧es.toList=xs.map (entryOfKey (tupleKind (dG P w)))∧(xs.map (·.1)).Nodup
 | .set S n=>h.SetOf (intKind P w) a S n
 | .ins C dx fs=>H dx=some (.own a)∧fs.length≤1000∧dx≠a∧h.get? a=some (PySem.W.instObj C dx) ∧
   ∃mA,h.Ns1 dx mA∧(∀f,p0 (fs.lookup f) (mA f))∧PySem.Within mA (fs.map (·.1))
 | .own _=>∃o,h.get? a=some o
 | .xd fs=>∃mA,h.Ns1 a mA∧∀f,p0 (fs.lookup f) (mA f)
 | .rng lo hi=>∃t u v,h.get? a=some { cls:=.type "range",data:=.fields #[.int lo t,.int hi u,.int 1 v] }
 | .frz o u=>h.get? a=some o∧dB H h a u
 | .tbl ps=>h.get? a=some { cls:=.none,data:=.fields ps }
 | .met f x=>h.get? a=some (PySem.W.methodObj (.ref f) (.ref x))
 | .ext φ=>φ h∧(∃o,h.get? a=some o)∧∀h1 h2:Heap,φ h1→(∀o,h1.get? a=some o→h2.get? a=some o)→φ h2
def HOk(H:Hp)(h:Heap):Prop:=∀a o,H a=some o→dB P w H h a o
end
section
variable{P:Program}{w:World}{H H':Hp}{h h':Heap}{a:Addr}{o:HO}
theorem dB.lt(x:dB P w H h a o):a<h.objs.size:=by
 cases o with
 | lst xs=>obtain⟨_,_,_,_,e⟩:=x;exact Heap.lt_size e
 | tup xs=>obtain⟨_,_,_,p⟩:=x;exact p.lt
 | dK kvs=>obtain⟨_,_,_,_,o,_,e,_⟩:=x;exact Heap.lt_size e
 | dT kvs=>obtain⟨_,_,_,_,o,_,_,e,_⟩:=x;exact Heap.lt_size e
 | set S n=>obtain⟨o,_,_,_,e,_⟩:=x;exact Heap.lt_size e
 | ins C dx fs=>obtain⟨_,_,_,e,_⟩:=x;exact Heap.lt_size e
 | own y=>obtain⟨_,e⟩:=x;exact Heap.lt_size e
 | xd fs=>obtain⟨_,⟨_,_,_,e,_⟩,_⟩:=x;exact Heap.lt_size e
 | rng lo hi=>obtain⟨_,_,_,e⟩:=x;exact Heap.lt_size e
 | frz ob u=>obtain⟨e,_⟩:=x;exact Heap.lt_size e
 | tbl ps=>exact Heap.lt_size (show h.get? a=some _ from x)
 | met f y=>exact Heap.lt_size (show h.get? a=some _ from x)
 | ext φ=>obtain⟨_,⟨_,e⟩,_⟩:=x;exact Heap.lt_size e
theorem Paired.FK{α β:Type}{F G:α→β→Prop}:∀{l₁:List α}{l₂:List β},Paired F l₁ l₂→(∀a b,F a b→G a b)→Paired G l₁ l₂
 | _,_,.nil,_=>.nil
 | _,_,.cons r t,f=>.cons (f _ _ r) (Paired.FK t f)
theorem Paired.imp'{α β:Type}{F G:α→β→Prop}(f:∀a b,F a b→G a b){l₁:List α}{l₂:List β}(r:Paired F l₁ l₂):Paired G l₁ l₂:=Paired.FK r f
theorem dB.p3(x:dB P w H h a o)(k:∀b u,(b=a∨H b=some (.own a))→h.get? b=some u→h'.get? b=some u)
  (ho:∀b,H b=some (.own a)→H' b=some (.own a)) (ht:∀b xs,H b=some (.tup xs)→H' b=some (.tup xs)):dB P w H' h' a o:=by
 induction o with
 | lst xs=>obtain⟨z,its,n,r,e⟩:=x;exact⟨z,its,n,r,k _ _ (.inl rfl) e⟩
 | tup xs=>obtain⟨z,its,r,ob,e,c⟩:=x;exact⟨z,its,r,ob,k _ _ (.inl rfl) e,c⟩
 | dK kvs=>obtain⟨z,y,vs,r,ob,es,e,c⟩:=x;exact⟨z,y,vs,r,ob,es,k _ _ (.inl rfl) e,c⟩
 | dT kvs =>
  obtain⟨z,y,xs,r,ob,es,ep,e,c⟩:=x
  exact⟨z,y,xs,Paired.FK r λp q z=>⟨z.1,ht _ _ z.2.1,z.2.2⟩,ob,es,ep,k _ _ (.inl rfl) e,c⟩
 | set S n=>obtain⟨ob,es,ep,t,e,c⟩:=x;exact⟨ob,es,ep,t,k _ _ (.inl rfl) e,c⟩
 | ins C dx fs =>
  obtain⟨d,z,ne,e,mA,⟨od,es,ep,e2,c⟩,r⟩:=x
  exact⟨ho _ d,z,ne,k _ _ (.inl rfl) e,mA,⟨od,es,ep,k _ _ (.inr d) e2,c⟩,r⟩
 | own y=>obtain⟨ob,e⟩:=x;exact⟨ob,k _ _ (.inl rfl) e⟩
 | xd fs=>obtain⟨mA,⟨od,es,ep,e,c⟩,r⟩:=x;exact⟨mA,⟨od,es,ep,k _ _ (.inl rfl) e,c⟩,r⟩
 | rng lo hi=>obtain⟨t,u,v,e⟩:=x;exact⟨t,u,v,k _ _ (.inl rfl) e⟩
 | frz ob u ih=>obtain⟨e,q⟩:=x;exact⟨k _ _ (.inl rfl) e,ih q⟩
 | tbl ps =>
  have e:h.get? a=some { cls:=.none,data:=.fields ps }:=x
  show h'.get? a=some { cls:=.none,data:=.fields ps }
  exact k a _ (.inl rfl) e
 | met f y =>
  have e:h.get? a=some (PySem.W.methodObj (.ref f) (.ref y)):=x
  show h'.get? a=some (PySem.W.methodObj (.ref f) (.ref y))
  exact k a _ (.inl rfl) e
 | ext φ=>obtain⟨p,⟨o,e⟩,st⟩:=x;exact⟨st _ _ p λo q=>k _ _ (.inl rfl) q,⟨o,k _ _ (.inl rfl) e⟩,st⟩
theorem HOk.lt(x:HOk P w H h)(e:H a=some o):a<h.objs.size:=(x a o e).lt
theorem HOk.fresh(x:HOk P w H h)(e:h.objs.size≤a):H a=none:=by
 cases q:H a with
 | none=>rfl
 | some u=>exact absurd (Nat.lt_of_lt_of_le (x.lt q) e) (Nat.lt_irrefl _)
theorem HOk.kept(x:HOk P w H h)(k:∀b u,h.get? b=some u→h'.get? b=some u):HOk P w H h':=λa o e =>
 (x a o e).p3 (λb u _ q=>k b u q) (λ_ q=>q) λ_ _ q=>q
theorem HOk.laid(x:HOk P w H h)(k:∀b u,h.get? b=some u→h'.get? b=some u)(hp:h.objs.size≤a)(new:dB P w (upd H a o) h' a o):HOk P w (upd H a o) h':=λb u e=>by
 have hn:=x.fresh hp
 by_cases hb:b=a
 ·subst hb;rw[aM] at e;cases e;exact new
 ·rw[aO hb] at e
  exact (x b u e).p3 (λc v _ q=>k c v q) (λc q=>by rw[aO (d0 q hn)];exact q) λc xs q=>by rw[aO (d0 q hn)];exact q
end
def Rd(H:Hp)(a:Addr)(u:HO):Prop:=H a=some u∨∃o,H a=some (.frz o u)
theorem Rd.ok{P:Program}{w:World}{H:Hp}{h:Heap}{a:Addr}{u:HO}(r:Rd H a u)(x:HOk P w H h):dB P w H h a u:=by
 rcases r with r|⟨o,r⟩
 ·exact x a u r
 ·obtain⟨_,q⟩:=x a _ r
  exact q
def Mut:Option HO→Prop
 | some (.lst _)=>True
 | some (.dK _)=>True
 | some (.dT _)=>True
 | some (.set _ _)=>True
 | some (.ins _ _ _)=>True
 | some (.ext _)=>True
 | _=>False
section
variable{P:Program}{w:World}{H:Hp}{h h':Heap}{x e:Addr}{o':HO}
theorem HOk.write(ok:HOk P w H h)(mu:Mut (H x))(he:e=x∨H e=some (.own x))(k:∀b u,b≠e→h.get? b=some u→h'.get? b=some u)(heo:∃u,h'.get? e=some u)
  (new:dB P w (upd H x o') h' x o'):HOk P w (upd H x o') h':=λb u q=>by
 have LM:∀c y,H c=some (.own y)→c≠x:=λc y r z=>by subst z;rw[r] at mu;exact mu
 have N3:∀c xs,H c=some (.tup xs)→c≠x:=λc xs r z=>by subst z;rw[r] at mu;exact mu
 by_cases hb:b=x
 ·subst hb;rw[aM] at q;cases q;exact new
 ·rw[aO hb] at q
  by_cases hbe:b=e
  ·have q':H b=some (.own x):=by
    rcases he with z|z
    ·exact absurd (hbe.trans z) hb
    ·rw[hbe];exact z
   rw[q] at q';cases q'
   obtain⟨v,hv⟩:=heo
   exact⟨v,by rw[hbe];exact hv⟩
  ·refine (ok b u q).p3 (λc v hc r=>k c v ?_ r) (λc r=>by rw[aO (LM c b r)];exact r) λc xs r=>by rw[aO (N3 c xs r)];exact r
   rcases hc with rfl|hc
   ·exact hbe
   ·rintro rfl
    rcases he with z|z
    ·exact LM c b hc z
    ·rw[hc] at z;cases z;exact hb rfl
end
structure Un(fs ex:List Addr)(H H':Hp)(h h':Heap):Prop where
 keep:∀b o,h.get? b=some o→H b=none→b∉fs→b∉ex→h'.get? b=some o
 slot:∀b o,h.get? b=some o→H b=none→b∈fs→b∉ex→∃sl,h'.get? b=some { o with slots:=sl }
 free:∀b o,h.get? b=some o→H b=none→b∉ex→H' b=none
 there:∀b o,h.get? b=some o→b∉ex→∃o',h'.get? b=some o'
 mj:∀b xs,H b=some (.tup xs)→H' b=some (.tup xs)
 eB:∀b o u,H b=some (.frz o u)→H' b=some (.frz o u)
 ml:∀b ps,H b=some (.tbl ps)→∃more,H' b=some (.tbl (ps++more))
section
variable{fs fs' ex ex':List Addr}{H H1 H2:Hp}{h h1 h2 h':Heap}{a x e:Addr}{o:HO}
theorem Un.any(u:Un fs ex H H1 h h1){b:Addr}{ob:Obj}(q:h.get? b=some ob)(n:H b=none)(hx:b∉ex):∃sl,h1.get? b=some { ob with slots:=sl }:=by
 by_cases hb:b∈fs
 ·exact u.slot b ob q n hb hx
 ·exact⟨ob.slots,u.keep b ob q n hb hx⟩
theorem Un.kept(k:∀b u,h.get? b=some u→h'.get? b=some u):Un fs ex H H h h' :=
 ⟨λb ob q _ _ _=>k b ob q,λb ob q _ _ _=>⟨ob.slots,k b ob q⟩,λ_ _ _ n _=>n,λb ob q _=>⟨ob,k b ob q⟩,λ_ _ q=>q,λ_ _ _ q=>q,λ_ ps q=>⟨#[],by rw[q];simp⟩⟩
theorem Un.refl:Un fs ex H H h h:=Un.kept λ_ _ q=>q
theorem Un.laid(k:∀b u,h.get? b=some u→h'.get? b=some u)(hp:h.objs.size≤a)(hn:H a=none):Un fs ex H (upd H a o) h h' where
 keep:=λb u q _ _ _=>k b u q
 slot:=λb u q _ _ _=>⟨u.slots,k b u q⟩
 free:=λb u q n _=>by rw[aO (Nat.ne_of_lt (Nat.lt_of_lt_of_le (Heap.lt_size q) hp))];exact n
 there:=λb u q _=>⟨u,k b u q⟩
 mj:=λb xs q=>by rw[aO (d0 q hn)];exact q
 eB:=λb u xs q=>by rw[aO (d0 q hn)];exact q
 ml:=λb ps q=>⟨#[],by rw[aO (d0 q hn),q];simp⟩
theorem Un.write(mu:Mut (H x))(he:e=x∨H e=some (.own x))(k:∀b u,b≠e→h.get? b=some u→h'.get? b=some u)(heo:∃u,h'.get? e=some u):Un fs ex H (upd H x o) h h':=by
 have hx:∀b,H b=none→b≠x:=λb n z=>by subst z;rw[n] at mu;exact mu
 have hb:∀b,H b=none→b≠e:=λb n z=>by
  subst z
  rcases he with r|r
  ·exact hx b n r
  ·rw[n] at r;cases r
 have hm:∀b u,H b=some u→¬ Mut (some u)→b≠x:=λb u q nm z=>by subst z;rw[q] at mu;exact nm mu
 refine⟨λb u q n _ _=>k b u (hb b n) q,λb u q n _ _=>⟨u.slots,k b u (hb b n) q⟩,λb u q n _=>by rw[aO (hx b n)];exact n,λb u q _=>?_,
  λb xs q=>by rw[aO (hm b _ q λz=>z)];exact q,λb u xs q=>by rw[aO (hm b _ q λz=>z)];exact q,λb ps q=>⟨#[],by rw[aO (hm b _ q λz=>z),q];simp⟩⟩
 by_cases hbe:b=e
 ·subst hbe;exact heo
 ·exact⟨u,k b u hbe q⟩
end
def trk(h:Heap)(H:Hp):List Addr:=(List.range h.objs.size).filter λa=>(H a).isSome
def uH(h:Heap)(H:Hp):Heap:=PySem.W.hideAll h (trk h H)
theorem Bb(h:Heap)(H:Hp):(uH h H).objs.size=h.objs.size:=PySem.W.hideAll_size _ _
theorem CG{h:Heap}{H:Hp}{b:Addr}{o:Obj}(e:h.get? b=some o)(n:H b=none):(uH h H).get? b=some o :=
 PySem.W.hideAll_get _ e λhm=>by
  have q:(H b).isSome=true:=(List.mem_filter.mp hm).2
  rw[n] at q;simp at q
theorem FO{h:Heap}{H:Hp}{b:Addr}{o:Obj}(e:(uH h H).get? b=some o):h.get? b=some o∧H b=none:=by
 have e':h.get? b=some o:=PySem.W.of_hideAll (trk h H) e
 refine⟨e',?_⟩
 cases q:H b with
 | none=>rfl
 | some x =>
  have hm:b∈trk h H:=List.mem_filter.mpr ⟨List.mem_range.mpr (Heap.lt_size e'),by simp[q]⟩
  have z:(uH h H).get? b=none:=PySem.W.hideAll_none (trk h H) hm
  rw[z] at e;cases e
structure Mod(K:PySem.W.Frag)(mg:Str→Option Value)(base:Heap):Prop where
 kin:K.In base
 glob:base.Ns mainGlobals mg
 blt:∃mb,base.Ns builtinsNs mb∧∀x:Str,x≠"__name__"→mb x=bootBuiltins x
 nolimit:base.NoLimit
structure Cx where
 prog:Program
 w:World
 K:PySem.W.Frag
 mg:Str→Option Value
 base:Heap
 A:Around
 N:List Str
 s₀:Shared
 H₀:Hp
 env:Env
 outer:List Env
 stack:List Env
 ex:List Addr
 fn:Str→Bool
 calm:Bool
 pn:List (Addr×Obj)
 xe:Value→Shared→Prop
def frs(l:List Env):List Addr:=l.filterMap (·.frame)
noncomputable abbrev Cx.fs (X : Cx) : List Addr := frs X.outer
def Vis(sc:Scope)(x:Str):Prop:=sc.names.lookup x=some .local∨sc.names.lookup x=some .cell∨sc.names.lookup x=some .free
def Loc(sc:Scope)(x:Str):Prop:=sc.names.lookup x=some .local∨sc.names.lookup x=some .cell
def Look(env:Env)(h:Heap)(m:Str→Option Value)(x:Str)(u:Value):Prop :=
 (env.kindOf x=some .local∧m x=some u)∨((env.kindOf x=some .cell∨env.kindOf x=some .free)∧∃c,env.cells.lookup x=some c∧h.IsCell c (some u))
structure Cx.Ok(X:Cx):Prop where
 mod:Mod X.K X.mg X.base
 kind:X.env.scope.kind=.function
 glob:X.env.globals=mainGlobals
 blt:X.env.builtins=builtinsNs
 above:X.s₀.heap.objs.size≤X.env.locals
 inj:∀x y c,X.env.cells.lookup x=some c→X.env.cells.lookup y=some c→x=y
 has:∀x,(X.env.kindOf x=some .cell∨X.env.kindOf x=some .free)→∃c,X.env.cells.lookup x=some c
 cab:∀x c,X.fn x=true→X.env.cells.lookup x=some c→X.s₀.heap.objs.size≤c
 hd:X.calm=true→X.A.handled=none
 frames:X.A.frames=some X.stack
 stk:X.stack=X.outer∨(X.stack=X.env::X.outer∧X.env.frame=some X.env.locals)
 exf:∀b∈X.ex,b≠X.env.locals∧∀x c,X.env.cells.lookup x=some c→c≠b
 bs:∀b o,X.base.get? b=some o→X.s₀.heap.get? b=some o∧X.H₀ b=none
 bsz:X.base.objs.size≤X.s₀.heap.objs.size
 uI:∀b o,X.base.get? b=some o→b∉X.ex
 ya:∀b∈X.ex,b∉X.fs
 mF:X.s₀.heap.FunFrames X.base X.outer
 frf:∀b∈X.fs,X.H₀ b=none
structure Inv(X:Cx)(pins:List (Addr×Obj))(σ:List (Option V))(H:Hp)(s:Shared):Prop where
 ok:X.Ok
 os:s.os=X.s₀.os
 bare:AllBare s.gens
 base:Un X.fs X.ex X.H₀ H X.s₀.heap s.heap
 loc:∃m,s.heap.Ns X.env.locals m∧∀(i:Nat) (x:Str) (v:V),X.N[i]?=some x→σ[i]?=some (some v)→Vis X.env.scope x→∃u,RelV v u∧Look X.env s.heap m x u
 cell:∀x c,X.env.cells.lookup x=some c→∃v,s.heap.IsCell c v
 free:H X.env.locals=none
 gN:∀x c,X.env.cells.lookup x=some c→H c=none
 pin:∀p∈X.pn++pins,s.heap.get? p.1=some p.2∧H p.1=none∧p.1≠X.env.locals∧p.1∉X.fs∧∀v,p.2.data≠.cell v
 hok:HOk X.prog X.w H s.heap
 len:σ.length=X.N.length
section
variable{X:Cx}{pins:List (Addr×Obj)}{σ:List (Option V)}{H H':Hp}{s:Shared}{h':Heap}
theorem Cx.Ok.N4(ok:X.Ok){b:Addr}{o:Obj}(e:X.base.get? b=some o):b∉X.fs:=λhb=>by
 have:=(ok.mF.mem hb).1
 rw[e] at this;cases this
theorem Inv.bs(I:Inv X pins σ H s):∀b o,X.base.get? b=some o→s.heap.get? b=some o∧H b=none:=λb o e =>
 ⟨I.base.keep b o (I.ok.bs b o e).1 (I.ok.bs b o e).2 (I.ok.N4 e) (I.ok.uI b o e),I.base.free b o (I.ok.bs b o e).1 (I.ok.bs b o e).2 (I.ok.uI b o e)⟩
theorem Inv.bk(I:Inv X pins σ H s):∀b o,X.base.get? b=some o→s.heap.get? b=some o:=λb o e=>(I.bs b o e).1
theorem Inv.mod(I:Inv X pins σ H s):Mod X.K X.mg X.base:=I.ok.mod
theorem Inv.kIn(I:Inv X pins σ H s):X.K.In s.heap:=I.ok.mod.kin.keeps I.bk
theorem Inv.nolimit(I:Inv X pins σ H s):s.heap.NoLimit:=I.ok.mod.nolimit.keeps I.bk
theorem Inv.lt(I:Inv X pins σ H s):X.env.locals<s.heap.objs.size:=let ⟨_,hn,_⟩:=I.loc;hn.lt
theorem Inv.sz(I:Inv X pins σ H s):X.s₀.heap.objs.size≤s.heap.objs.size:=Nat.le_trans I.ok.above (Nat.le_of_lt I.lt)
theorem Inv.N5(I:Inv X pins σ H s){a:Addr}(h:s.heap.objs.size≤a):a∉X.fs:=λhb=>by
 obtain⟨_,o,ho,_⟩:=I.ok.mF.mem hb
 exact absurd (Nat.lt_of_lt_of_le (Heap.lt_size ho) (Nat.le_trans I.sz h)) (Nat.lt_irrefl _)
theorem Inv.cne(I:Inv X pins σ H s):∀x c,X.env.cells.lookup x=some c→c≠X.env.locals:=λx c e z=>by
 obtain⟨v,o,ho,hd⟩:=I.cell x c e
 obtain⟨m,⟨o',es,ep,ho',hd',_⟩,_⟩:=I.loc
 rw[z,ho'] at ho;cases ho;rw[hd'] at hd;cases hd
theorem Inv.mF(I:Inv X pins σ H s):s.heap.FunFrames X.base X.outer:=by
 have all:∀(l:List Env),(∀b∈frs l,b∈X.fs)→X.s₀.heap.FunFrames X.base l→s.heap.FunFrames X.base l:=by
  intro l
  induction l with
  | nil=>intro _ _;trivial
  | cons env r ih =>
   intro hs hl
   obtain⟨hk,⟨L,o,hf,hn,ho,hd⟩,hr⟩:=hl
   have hL:L∈X.fs:=hs L (by unfold frs;rw[List.filterMap_cons,hf];exact List.mem_cons_self)
   obtain⟨sl,e⟩:=I.base.slot L o ho (I.ok.frf L hL) hL λz=>I.ok.ya L z hL
   exact⟨hk,⟨L,_,hf,hn,e,hd⟩,ih (λb hb=>hs b (by unfold frs;rw[List.filterMap_cons,hf];exact List.mem_cons_of_mem _ hb)) hr⟩
 exact all X.outer (λ_ hb=>hb) I.ok.mF
theorem Inv.stack(I:Inv X pins σ H s):s.heap.FunFrames X.base X.stack:=by
 rcases I.ok.stk with e|⟨e,hf⟩
 ·rw[e];exact I.mF
 ·rw[e]
  obtain⟨m,hn,_⟩:=I.loc
  refine .cons (by rw[I.ok.kind];decide) hf hn ?_ I.mF
  exact Heap.get?_none_of_le (Nat.le_trans I.ok.bsz I.ok.above)
theorem Inv.uJ(I:Inv X pins σ H s):∀b∈frs X.stack,b∈X.env.locals::X.fs:=λb hb=>by
 rcases I.ok.stk with e|⟨e,hf⟩
 ·rw[e] at hb;exact List.mem_cons_of_mem _ hb
 ·rw[e] at hb
  unfold frs at hb
  rw[List.filterMap_cons,hf] at hb
  exact hb
theorem Inv.qi(I:Inv X pins σ H s):∀b∈frs X.stack,H b=none:=λb hb=>by
 rcases List.mem_cons.mp (I.uJ b hb) with e|hb
 ·rw[e];exact I.free
 ·obtain⟨_,o,ho,_⟩:=I.ok.mF.mem hb
  exact I.base.free b o ho (I.ok.frf b hb) λz=>I.ok.ya b z hb
theorem Inv.step{g':Array GenState}{t':Nat}{d':Drawn}{ch:List Addr}(I:Inv X pins σ H s)
  (hch:∀b∈ch,(b∈X.ex∨X.s₀.heap.objs.size≤b)∧b≠X.env.locals∧(∀x c,X.env.cells.lookup x=some c→c≠b)∧∀p∈X.pn++pins,p.1≠b)
  (keep:∀b o,b≠X.env.locals→b∉X.fs→b∉ch→s.heap.get? b=some o→H b=none→h'.get? b=some o)
  (slot:∀b o,b≠X.env.locals→b∈X.fs→b∉ch→s.heap.get? b=some o→H b=none→∃sl,h'.get? b=some { o with slots:=sl }) (free:∀b o,b∉ch→s.heap.get? b=some o→H b=none→H' b=none)
  (there:∀b o,b∉ch→s.heap.get? b=some o→∃o',h'.get? b=some o')
  (mj:∀b xs,H b=some (.tup xs)→H' b=some (.tup xs)) (eB:∀b o u,H b=some (.frz o u)→H' b=some (.frz o u)) (ml:∀b ps,H b=some (.tbl ps)→∃more,H' b=some (.tbl (ps++more)))
  (ns:∀m,s.heap.Ns X.env.locals m→h'.Ns X.env.locals m) (hok:HOk X.prog X.w H' h') (hg:AllBare g') :
  Inv X pins σ H' { s with heap:=h',gens:=g',drawn:=d',toks:=t' }:=by
 have neL:∀b o,X.s₀.heap.get? b=some o→b≠X.env.locals:=λb o e=>Nat.ne_of_lt (Nat.lt_of_lt_of_le (Heap.lt_size e) I.ok.above)
 have neC:∀b o,X.s₀.heap.get? b=some o→b∉X.ex→b∉ch:=λb o e hx hb=>by
  rcases (hch b hb).1 with z|z
  ·exact hx z
  ·exact absurd (Nat.lt_of_lt_of_le (Heap.lt_size e) z) (Nat.lt_irrefl _)
 have cellK:∀x c,X.env.cells.lookup x=some c→∀v,s.heap.IsCell c v→h'.IsCell c v:=λx c e v av=>by
  obtain⟨o,ho,hd⟩:=av
  have nch:c∉ch:=λz=>(hch c z).2.2.1 x c e rfl
  by_cases hc:c∈X.fs
  ·obtain⟨sl,q⟩:=slot c o (I.cne x c e) hc nch ho (I.gN x c e)
   exact⟨_,q,hd⟩
  ·exact⟨o,keep c o (I.cne x c e) hc nch ho (I.gN x c e),hd⟩
 refine⟨I.ok,I.os,hg,⟨λb o e n hb hx=>?_,λb o e n hb hx=>?_,λb o e n hx=>?_,λb o e hx=>?_,λb xs e=>mj b xs (I.base.mj b xs e),λb o xs e=>eB b o xs (I.base.eB b o xs e),λb ps e=>?_⟩,?_,λx c e=>?_,?_,λx c e=>?_,λp hp=>?_,hok,I.len⟩
 ·exact keep b o (neL b o e) hb (neC b o e hx) (I.base.keep b o e n hb hx) (I.base.free b o e n hx)
 ·obtain⟨sl,e1⟩:=I.base.slot b o e n hb hx
  obtain⟨sl',e2⟩:=slot b _ (neL b o e) hb (neC b o e hx) e1 (I.base.free b o e n hx)
  exact⟨sl',e2⟩
 ·obtain⟨o',e1⟩:=I.base.there b o e hx
  exact free b o' (neC b o e hx) e1 (I.base.free b o e n hx)
 ·obtain⟨o',e1⟩:=I.base.there b o e hx
  exact there b o' (neC b o e hx) e1
 ·obtain⟨m1,e1⟩:=I.base.ml b ps e
  obtain⟨m2,e2⟩:=ml b _ e1
  exact⟨m1++m2,by rw[e2,Array.append_assoc]⟩
 ·obtain⟨m,hn,hl⟩:=I.loc
  refine⟨m,ns m hn,λi x v e1 e2 e3=>?_⟩
  obtain⟨u,r,l⟩:=hl i x v e1 e2 e3
  refine⟨u,r,?_⟩
  rcases l with l|⟨k,c,e,z⟩
  ·exact .inl l
  ·exact .inr ⟨k,c,e,cellK x c e _ z⟩
 ·obtain⟨v,z⟩:=I.cell x c e
  exact⟨v,cellK x c e v z⟩
 ·obtain⟨m,⟨o,_,_,ho,_⟩,_⟩:=I.loc
  exact free _ o (λz=>(hch _ z).2.1 rfl) ho I.free
 ·obtain⟨v,o,ho,hd⟩:=I.cell x c e
  exact free c o (λz=>(hch c z).2.2.1 x c e rfl) ho (I.gN x c e)
 ·obtain⟨e,n,ne,nf,d⟩:=I.pin p hp
  have nch:p.1∉ch:=λz=>(hch p.1 z).2.2.2 p hp rfl
  exact⟨keep p.1 p.2 ne nf nch e n,free p.1 p.2 nch e n,ne,nf,d⟩
theorem Inv.un{t':Nat}(I:Inv X pins σ H s)(u:Un X.fs [] H H' s.heap h')(hok:HOk X.prog X.w H' h'):Inv X pins σ H' { s with heap:=h',toks:=t' }:=by
 obtain⟨m,⟨o,es,ep,ho,r⟩,_⟩:=id I.loc
 obtain⟨sl,hL⟩:=u.any ho I.free (by simp)
 exact I.step (g':=s.gens) (d':=s.drawn) (ch:=[]) (λ_ z=>nomatch z) (λb o _ hb _ e n=>u.keep b o e n hb (by simp)) (λb o _ hb _ e n=>u.slot b o e n hb (by simp)) (λb o _ e n=>u.free b o e n (by simp)) (λb o _ e=>u.there b o e (by simp)) u.mj u.eB u.ml (λm' hm=>by
  obtain⟨o',es',ep',ho',r'⟩:=hm
  rw[ho] at ho';cases ho'
  exact⟨_,es',ep',hL,r'⟩) hok I.bare
theorem Inv.call{g':Array GenState}{t':Nat}{d':Drawn}{ch:List Addr}(I:Inv X pins σ H s)(u:Un (frs X.stack) ch H H' s.heap h')(hok:HOk X.prog X.w H' h')(hg:AllBare g')
  (hch:∀b∈ch,(b∈X.ex∨X.s₀.heap.objs.size≤b)∧b≠X.env.locals∧(∀x c,X.env.cells.lookup x=some c→c≠b)∧∀p∈X.pn++pins,p.1≠b) :
  Inv X pins σ H' { s with heap:=h',gens:=g',drawn:=d',toks:=t' }:=by
 obtain⟨m,⟨o,es,ep,ho,r⟩,_⟩:=id I.loc
 obtain⟨sl,hL⟩:=u.any ho I.free λz=>(hch _ z).2.1 rfl
 exact I.step (ch:=ch) hch (λb o hL hb hc e n=>u.keep b o e n (λz=>(List.mem_cons.mp (I.uJ b z)).elim hL hb) hc) (λb o _ _ hc e n=>u.any e n hc) (λb o hc e n=>u.free b o e n hc) (λb o hc e=>u.there b o e hc) u.mj u.eB u.ml (λm' hm=>by
  obtain⟨o',es',ep',ho',r'⟩:=hm
  rw[ho] at ho';cases ho'
  exact⟨_,es',ep',hL,r'⟩) hok hg
theorem Inv.turned{t':Nat}{it:Addr}(I:Inv X pins σ H s)(k:∀b o,b≠it→s.heap.get? b=some o→h'.get? b=some o)(hn:H it=none)(hL:it≠X.env.locals)
  (h1:it∈X.ex∨X.s₀.heap.objs.size≤it) (h2:∀x c,X.env.cells.lookup x=some c→c≠it) (h3:∀p∈X.pn++pins,p.1≠it):Inv X pins σ H { s with heap:=h',toks:=t' }:=by
 have nit:∀b u,H b=some u→b≠it:=λb u e z=>by rw[z,hn] at e;cases e
 refine I.step (g':=s.gens) (d':=s.drawn) (ch:=[it]) (λb hb=>?_) (λb o _ _ hc e _=>k b o (λz=>hc (by simp[z])) e) (λb o _ _ hc e _=>⟨o.slots,k b o (λz=>hc (by simp[z])) e⟩) (λ_ _ _ _ n=>n)
  (λb o hc e=>⟨o,k b o (λz=>hc (by simp[z])) e⟩) (λ_ _ e=>e) (λ_ _ _ e=>e) (λb ps e=>⟨#[],by rw[e];simp⟩) (λm hm=>?_) (λb u e=>?_) I.bare
 ·have e:b=it:=by simpa using hb
  subst e
  exact⟨h1,hL,h2,h3⟩
 ·obtain⟨o,es,ep,ho,r⟩:=hm
  exact⟨o,es,ep,k _ o (Ne.symm hL) ho,r⟩
 ·refine (I.hok b u e).p3 (λc v hc q=>k c v ?_ q) (λ_ q=>q) λ_ _ q=>q
  rcases hc with z|z
  ·rw[z];exact nit b u e
  ·exact nit c _ z
theorem Inv.tok(I:Inv X pins σ H s)(t:Nat):Inv X pins σ H { s with toks:=t }:=I.un (h':=s.heap) (t':=t) Un.refl I.hok
theorem Inv.kept{t':Nat}(I:Inv X pins σ H s)(k:∀b u,s.heap.get? b=some u→h'.get? b=some u):Inv X pins σ H { s with heap:=h',toks:=t' }:=I.un (Un.kept k) (I.hok.kept k)
theorem Inv.laid{a:Addr}{o:HO}{t':Nat}(I:Inv X pins σ H s)(k:∀b u,s.heap.get? b=some u→h'.get? b=some u)(hp:s.heap.objs.size≤a)(new:dB X.prog X.w (upd H a o) h' a o) :
  Inv X pins σ (upd H a o) { s with heap:=h',toks:=t' }:=I.un (Un.laid k hp (I.hok.fresh hp)) (I.hok.laid k hp new)
theorem Inv.write{x e:Addr}{o:HO}{t':Nat}(I:Inv X pins σ H s)(mu:Mut (H x))(he:e=x∨H e=some (.own x))(k:∀b u,b≠e→s.heap.get? b=some u→h'.get? b=some u)(heo:∃u,h'.get? e=some u)
  (new:dB X.prog X.w (upd H x o) h' x o):Inv X pins σ (upd H x o) { s with heap:=h',toks:=t' }:=I.un (Un.write mu he k heo) (I.hok.write mu he k heo new)
theorem Inv.zQ{wj:List (Addr×Obj)}(I:Inv X pins σ H s)(h:∀p∈wj,s.heap.get? p.1=some p.2∧H p.1=none∧p.1≠X.env.locals∧p.1∉X.fs∧∀v,p.2.data≠.cell v):Inv X wj σ H s :=
 ⟨I.ok,I.os,I.bare,I.base,I.loc,I.cell,I.free,I.gN,λp hp=>(List.mem_append.mp hp).elim (λz=>I.pin p (List.mem_append_left _ z)) (h p),I.hok,I.len⟩
theorem qx{N:List Str}(hN:N.Nodup){i j:Nat}{x:Str}(a:N[i]?=some x)(b:N[j]?=some x):i=j:=by
 obtain⟨h1,e1⟩:=List.getElem?_eq_some_iff.mp a
 obtain⟨h2,e2⟩:=List.getElem?_eq_some_iff.mp b
 exact (List.getElem_inj hN).mp (e1.trans e2.symm)
theorem tY{M:Model}{A:Around}{E:Value→Shared→Prop}{i:Nat}{x:Str}{v:V}{u:Value}{Q:Unit→Shared→Prop}(I:Inv X pins σ H s)(hN:X.N.Nodup)(hi:X.N[i]?=some x)(hx:Loc X.env.scope x)(r:RelV v u)
  (h:∀s',Inv X pins (σ.set i (some v)) H s'→(∃a,Heap.SameBut a s.heap s'.heap∧(a=X.env.locals∨X.env.cells.lookup x=some a))→Q () s') (hf:X.fn x=true∨X.env.scope.names.lookup x=some .local:=by first|exact .inl rfl|exact .inr rfl|assumption):wpAny M A (storeName X.env x u) Q E s:=by
 obtain⟨m,hn,hl⟩:=id I.loc
 have uK:(X.env.scope.kind==.class || (X.env.scope.kind==.module && X.env.locals != X.env.globals))=false:=by rw[I.ok.kind];rfl
 have hiσ:i<σ.length:=by rw[I.len];exact (List.getElem?_eq_some_iff.mp hi).1
 have cne:=I.cne
 have tracked:∀{a:Addr}{h':Heap},(∃o,s.heap.get? a=some o∧H a=none)→Heap.SameBut a s.heap h'→HOk X.prog X.w H h':=λ{a h'} ha hs b ob e=>by
  obtain⟨_,_,wk⟩:=ha
  refine (I.hok b ob e).p3 (λc w' hc q=>(hs.2 c ?_).trans q) (λ_ q=>q) λ_ _ q=>q
  rintro rfl
  rcases hc with rfl|hc
  ·rw[wk] at e;cases e
  ·rw[wk] at hc;cases hc
 rcases hx with hk|hk
 ·refine wpAny_storeName_local hk hn (λh' hn' hs=>?_) uK
  obtain⟨oL,_,_,hoL,_⟩:=id hn
  refine h _ ⟨I.ok,I.os,I.bare,⟨λb o e n hb hx=>?_,λb o e n hb hx=>?_,I.base.free,λb o e hx=>?_,I.base.mj,I.base.eB,I.base.ml⟩,⟨_,hn',λj y v' e1 e2 e3=>?_⟩,λy c e=>?_,I.free,I.gN,λp hp=>?_,tracked ⟨oL,hoL,I.free⟩ hs,by simpa using I.len⟩ ⟨_,hs,.inl rfl⟩
  ·exact (hs.2 b (Nat.ne_of_lt (Nat.lt_of_lt_of_le (Heap.lt_size e) I.ok.above))).trans (I.base.keep b o e n hb hx)
  ·obtain⟨sl,e1⟩:=I.base.slot b o e n hb hx
   exact⟨sl,(hs.2 b (Nat.ne_of_lt (Nat.lt_of_lt_of_le (Heap.lt_size e) I.ok.above))).trans e1⟩
  ·obtain⟨o',e1⟩:=I.base.there b o e hx
   exact⟨o',(hs.2 b (Nat.ne_of_lt (Nat.lt_of_lt_of_le (Heap.lt_size e) I.ok.above))).trans e1⟩
  ·by_cases hj:j=i
   ·subst hj
    rw[hi] at e1;cases e1
    rw[List.getElem?_set_self hiσ] at e2
    cases e2
    exact⟨u,r,.inl ⟨hk,by simp⟩⟩
   ·rw[List.getElem?_set_ne (Ne.symm hj)] at e2
    obtain⟨u',r',q⟩:=hl j y v' e1 e2 e3
    refine⟨u',r',?_⟩
    rcases q with ⟨k,e⟩|⟨k,c,e,z⟩
    ·refine .inl ⟨k,?_⟩
     have:y≠x:=λe=>hj (qx hN e1 (e ▸ hi))
     simp[this,e]
    ·exact .inr ⟨k,c,e,z.sameBut hs (cne y c e)⟩
  ·obtain⟨w',z⟩:=I.cell y c e
   exact⟨w',z.sameBut hs (cne y c e)⟩
  ·obtain⟨e,n,ne,nf,d⟩:=I.pin p hp
   exact⟨(hs.2 p.1 ne).trans e,n,ne,nf,d⟩
 ·have hfn:X.fn x=true:=by
   rcases hf with z|z
   ·exact z
   ·rw[z] at hk;cases hk
  obtain⟨c,hc⟩:=I.ok.has x (.inl hk)
  obtain⟨w',z⟩:=I.cell x c hc
  refine wpAny_storeName_cell I.ok.kind hk hc z (λh' hc' hs=>?_)
  obtain⟨oc,hoc,N6⟩:=id z
  refine h { s with heap:=h' } ⟨I.ok,I.os,I.bare,⟨λb o e n hb hx=>?_,λb o e n hb hx=>?_,I.base.free,λb o e hx=>?_,I.base.mj,I.base.eB,I.base.ml⟩,⟨m,hn.sameBut hs (Ne.symm (cne x c hc)),λj y v' e1 e2 e3=>?_⟩,λy c' e=>?_,I.free,I.gN,λp hp=>?_,tracked ⟨oc,hoc,I.gN x c hc⟩ hs,by simpa using I.len⟩ ⟨c,hs,.inr hc⟩
  ·exact (hs.2 b (Nat.ne_of_lt (Nat.lt_of_lt_of_le (Heap.lt_size e) (I.ok.cab x c hfn hc)))).trans (I.base.keep b o e n hb hx)
  ·obtain⟨sl,e1⟩:=I.base.slot b o e n hb hx
   exact⟨sl,(hs.2 b (Nat.ne_of_lt (Nat.lt_of_lt_of_le (Heap.lt_size e) (I.ok.cab x c hfn hc)))).trans e1⟩
  ·obtain⟨o',e1⟩:=I.base.there b o e hx
   exact⟨o',(hs.2 b (Nat.ne_of_lt (Nat.lt_of_lt_of_le (Heap.lt_size e) (I.ok.cab x c hfn hc)))).trans e1⟩
  ·by_cases hj:j=i
   ·subst hj
    rw[hi] at e1;cases e1
    rw[List.getElem?_set_self hiσ] at e2
    cases e2
    exact⟨u,r,.inr ⟨.inl hk,c,hc,hc'⟩⟩
   ·rw[List.getElem?_set_ne (Ne.symm hj)] at e2
    obtain⟨u',r',q⟩:=hl j y v' e1 e2 e3
    refine⟨u',r',?_⟩
    rcases q with q|⟨k,c',e,z'⟩
    ·exact .inl q
    ·refine .inr ⟨k,c',e,z'.sameBut hs ?_⟩
     rintro rfl
     exact hj (qx hN e1 (I.ok.inj _ _ _ e hc ▸ hi))
  ·by_cases hcc:c'=c
   ·subst hcc;exact⟨_,hc'⟩
   ·obtain⟨w2,z2⟩:=I.cell y c' e
    exact⟨w2,z2.sameBut hs hcc⟩
  ·obtain⟨e,n,ne,nf,d⟩:=I.pin p hp
   refine⟨(hs.2 p.1 ?_).trans e,n,ne,nf,d⟩
   intro q
   rw[q,hoc] at e
   have q':oc=p.2:=Option.some.inj e
   exact d w' (by rw[← q'];exact N6)
theorem m7{M:Model}{A:Around}{E:Value→Shared→Prop}{i:Nat}{x:Str}{v:V}{u:Value}{Q:Unit→Shared→Prop}(I:Inv X pins σ H s)(hN:X.N.Nodup)(hi:X.N[i]?=some x)(hx:Loc X.env.scope x)(r:RelV v u)
  (h:∀s',Inv X pins (σ.set i (some v)) H s'→Q () s') (hf:X.fn x=true∨X.env.scope.names.lookup x=some .local:=by first|exact .inl rfl|exact .inr rfl|assumption):wpAny M A (storeName X.env x u) Q E s :=
 tY I hN hi hx r (λs' I' _=>h s' I') hf
theorem Inv.Ig{s':Shared}{ch:List Addr}(I:Inv X pins σ H s)(ho:s'.os=s.os)(u:Un (frs X.stack) ch H H' s.heap s'.heap)(hok:HOk X.prog X.w H' s'.heap)(hg:AllBare s'.gens)
  (hch:∀b∈ch,(b∈X.ex∨X.s₀.heap.objs.size≤b)∧b≠X.env.locals∧(∀x c,X.env.cells.lookup x=some c→c≠b)∧∀p∈X.pn++pins,p.1≠b):Inv X pins σ H' s':=by
 obtain⟨h',g',d',t',o'⟩:=s'
 have e:o'=s.os:=ho
 subst e
 exact I.call (g':=g') (t':=t') (d':=d') u hok hg hch
end
noncomputable abbrev XK := Value → Option Addr → Hp → Prop
noncomputable abbrev St := List (Option V)
noncomputable abbrev VK := V → Hp → Prop
noncomputable abbrev TE := St → Hp → VK → Prop
noncomputable abbrev TT := St → Hp → (Bool → Hp → Prop) → Prop
noncomputable abbrev TA := St → Hp → (List V → Hp → Prop) → Prop
structure Ends where
 nx:St→Hp→Prop
 rt:VK
 bk:St→Hp→Prop:=λ_ _=>False
 ct:St→Hp→Prop:=λ_ _=>False
noncomputable abbrev TS := Ends → St → Hp → Prop
def EP(X:Cx)(pins:List (Addr×Obj))(σ:St)(Q:VK)(u:Value)(s':Shared):Prop:=∃v H',Inv X pins σ H' s'∧RelV v u∧Q v H'
def TP(X:Cx)(pins:List (Addr×Obj))(σ:St)(Q:Bool→Hp→Prop)(b:Bool)(s':Shared):Prop:=∃H',Inv X pins σ H' s'∧Q b H'
def AP(X:Cx)(pins:List (Addr×Obj))(σ:St)(Q:List V→Hp→Prop)(us:List Value)(s':Shared):Prop:=∃vs H',Inv X pins σ H' s'∧Vals vs us∧Q vs H'
def SP(X:Cx)(pins:List (Addr×Obj))(D:Ends)(f:Flow)(s':Shared):Prop :=
 match f with
 | .next=>∃σ' H',Inv X pins σ' H' s'∧D.nx σ' H'
 | .brk=>∃σ' H',Inv X pins σ' H' s'∧D.bk σ' H'
 | .cont=>∃σ' H',Inv X pins σ' H' s'∧D.ct σ' H'
 | .ret u=>∃v σ' H',Inv X pins σ' H' s'∧RelV v u∧D.rt v H'
def PE(X:Cx)(e:Expr)(t:TE):Prop :=
 ∀(pins:List (Addr×Obj)) (s:Shared) (σ:St) (H:Hp) (Q:VK),Inv X pins σ H s→t σ H Q→wpAny (model X.prog X.w) X.A (eval e X.env) (EP X pins σ Q) X.xe s
def PT(X:Cx)(e:Expr)(t:TT):Prop :=
 ∀(pins:List (Addr×Obj)) (s:Shared) (σ:St) (H:Hp) (Q:Bool→Hp→Prop),Inv X pins σ H s→t σ H Q→wpAny (model X.prog X.w) X.A (isTrue e X.env (eval e X.env)) (TP X pins σ Q) X.xe s
def PW(X:Cx)(e:Expr)(t:TT):Prop :=
 ∀(whole:Sem Value) (pins:List (Addr×Obj)) (s:Shared) (σ:St) (H:Hp) (Q:Bool→Hp→Prop),Inv X pins σ H s→t σ H Q→wpAny (model X.prog X.w) X.A (isTrue e X.env whole) (TP X pins σ Q) X.xe s
theorem PW.pt{X:Cx}{e:Expr}{t:TT}(h:PW X e t):PT X e t:=h _
def PA(X:Cx)(es:List Expr)(t:TA):Prop :=
 ∀(pos:Pos) (pins:List (Addr×Obj)) (s:Shared) (σ:St) (H:Hp) (Q:List V→Hp→Prop),Inv X pins σ H s→t σ H Q→wpAny (model X.prog X.w) X.A (spliced (backTo pos (starEach es X.env))) (AP X pins σ Q) X.xe s
def PS(X:Cx)(st:Stmt)(t:TS):Prop :=
 ∀(pins:List (Addr×Obj)) (s:Shared) (σ:St) (H:Hp) (D:Ends),Inv X pins σ H s→t D σ H→wpAny (model X.prog X.w) X.A (exec st X.env) (SP X pins D) X.xe s
def PSs(X:Cx)(st:List Stmt)(t:TS):Prop :=
 ∀(pins:List (Addr×Obj)) (s:Shared) (σ:St) (H:Hp) (D:Ends),Inv X pins σ H s→t D σ H→wpAny (model X.prog X.w) X.A (execs st X.env) (SP X pins D) X.xe s
theorem thn{α:Type}{t:Sem α}{Q Q':α→Shared→Prop}{M:Model}{A:Around}{E:Value→Shared→Prop}{s:Shared}(h:wpAny M A t Q E s)(hQ:∀a s,Q a s→Q' a s):wpAny M A t Q' E s:=wpAny_mono h hQ λ_ _ x=>x
section
variable{X:Cx}
theorem bin{a b:Expr}{ta tb:TE}(ha:PE X a ta)(hb:PE X b tb){pins:List (Addr×Obj)}{s:Shared}{σ:St}{H:Hp}{R:V→V→Hp→Prop}(I:Inv X pins σ H s)(h:ta σ H λx H1=>tb σ H1 λy H2=>R x y H2)
  {α:Type}{Q:α→Shared→Prop}{f:Value→Value→Sem α}
  (hf:∀v u s2 x y H2,Inv X pins σ H2 s2→RelV x v→RelV y u→R x y H2→wpAny (model X.prog X.w) X.A (f v u) Q X.xe s2) :
  wpAny (model X.prog X.w) X.A (eval a X.env) (λv s₁=>wpAny (model X.prog X.w) X.A (eval b X.env) (λu s₂=>wpAny (model X.prog X.w) X.A (f v u) Q X.xe s₂) X.xe s₁) X.xe s:=by
 refine thn (ha pins s σ H _ I h) λv s1 av=>?_
 obtain⟨x,H1,I1,r1,q1⟩:=av
 refine thn (hb pins s1 σ H1 _ I1 q1) λu s2 dH=>?_
 obtain⟨y,H2,I2,r2,q2⟩:=dH
 exact hf v u s2 x y H2 I2 r1 r2 q2
def N7(i:Nat):TE:=λσ H Q=>∃v,σ[i]?=some (some v)∧Q v H
def tC(v:V):TE:=λ_ H Q=>Q v H
theorem yb{i:Nat}{x:Str}{pos:Pos}(hN:X.N[i]?=some x)(hv:Vis X.env.scope x)(hd:(x==("__debug__":Str))=false:=by decide)(hcd:(x==("__classdict__":Str))=false:=by decide):PE X (.Name x pos) (N7 i):=by
 intro pins s σ H Q I h
 obtain⟨v,e,h⟩:=h
 obtain⟨m,hn,hl⟩:=I.loc
 obtain⟨u,r,l⟩:=hl i x v hN e hv
 have fin:EP X pins σ Q u s:=⟨v,H,I,r,h⟩
 rcases l with ⟨hk,hm⟩|⟨hk,c,hc,zR⟩
 ·exact wpAny_Name (wpAny_loadName_local I.ok.kind hk hn hm fin) hd
 ·rcases hk with hk|hk
  ·exact wpAny_Name (wpAny_loadName_cell I.ok.kind hk hc zR fin) hd
  ·exact wpAny_Name (wpAny_loadName_free I.ok.kind hk hc zR fin hcd) hd
theorem IY{i j pos}:PE X (.Constant (.int i) j pos) (tC (.int i)):=λ_ _ _ H _ I h=>wpAny_Constant_int ⟨.int i,H,I.tok _,⟨_,rfl⟩,h⟩
theorem LN{b j pos}:PE X (.Constant (.bool b) j pos) (tC (.bl b)):=λ_ _ _ H _ I h=>Constant_bool ⟨.bl b,H,I,rfl,h⟩
theorem IZ{j pos}:PE X (.Constant .none j pos) (tC .non):=λ_ _ _ H _ I h=>Constant_none ⟨.non,H,I,rfl,h⟩
theorem I_{x j pos}:PE X (.Constant (.str x) j pos) (tC (.str x)):=λ_ _ _ H _ I h=>Calls.Constant_str ⟨.str x,H,I.tok _,⟨_,rfl⟩,h⟩
def Gl(X:Cx)(x:Str):Prop:=X.env.kindOf x=some .globalImplicit
theorem m8{E:Value→Shared→Prop}{pins:List (Addr×Obj)}{s:Shared}{σ:St}{H:Hp}{x:Str}{u:Value}{pos:Pos}{Q:Value→Shared→Prop}(I:Inv X pins σ H s)(hg:Gl X x)(hm:X.mg x=some u)(h:Q u s)
  (hd:(x==("__debug__":Str))=false:=by decide):wpAny (model X.prog X.w) X.A (eval (.Name x pos) X.env) Q E s :=
 Calls.Name_function_global I.ok.kind hg (Calls.loadGlobal_global (by rw[I.ok.glob];exact I.mod.glob.keeps I.bk) hm h) hd
theorem kM{E:Value→Shared→Prop}{pins:List (Addr×Obj)}{s:Shared}{σ:St}{H:Hp}{x:Str}{u:Value}{pos:Pos}{Q:Value→Shared→Prop}(I:Inv X pins σ H s)(hg:Gl X x)(hm:X.mg x=none)(hv:bootBuiltins x=some u)(h:Q u s)
  (hn:x≠"__name__":=by decide) (hd:(x==("__debug__":Str))=false:=by decide):wpAny (model X.prog X.w) X.A (eval (.Name x pos) X.env) Q E s:=by
 obtain⟨mb,h1,h2⟩:=I.mod.blt
 exact Calls.Name_function_global I.ok.kind hg (Calls.loadGlobal_builtin (by rw[I.ok.glob];exact I.mod.glob.keeps I.bk) hm (by rw[I.ok.blt];exact h1.keeps I.bk) ((h2 x hn).trans hv) h) hd
theorem uL{x:Str}{v:V}{u:Value}{pos:Pos}(hg:Gl X x)(hm:X.mg x=some u)(r:RelV v u)(hd:(x==("__debug__":Str))=false:=by decide):PE X (.Name x pos) (tC v) :=
 λ_ _ _ H _ I h=>m8 I hg hm ⟨v,H,I,r,h⟩ hd
theorem zS{x:Str}{v:V}{u:Value}{pos:Pos}(hg:Gl X x)(hm:X.mg x=none)(hv:bootBuiltins x=some u)(r:RelV v u)(hn:x≠"__name__":=by decide)(hd:(x==("__debug__":Str))=false:=by decide):PE X (.Name x pos) (tC v) :=
 λ_ _ _ H _ I h=>kM I hg hm hv ⟨v,H,I,r,h⟩ hn hd
variable{a b:Expr}{ta tb:TE}{pos:Pos}
def PC(X:Cx)(op:CmpOp)(a b:Expr)(t:TE):Prop :=
 ∀(pins:List (Addr×Obj)) (s:Shared) (σ:St) (H:Hp) (Q:VK),Inv X pins σ H s→t σ H Q →
  wpAny (model X.prog X.w) X.A (eval a X.env) (λv s₁=>wpAny (model X.prog X.w) X.A (eval b X.env) (λu s₂=>wpAny (model X.prog X.w) X.A (compareOp op v u) (EP X pins σ Q) X.xe s₂) X.xe s₁) X.xe s
theorem CJ(b:Expr){op:CmpOp}(h:op≠.In)(h2:op≠.NotIn):behindInMarks op b=false:=by
 have e1:(op==CmpOp.In)=false:=by cases op<;>first|rfl|exact absurd rfl h
 have e2:(op==CmpOp.NotIn)=false:=by cases op<;>first|rfl|exact absurd rfl h2
 cases b<;>simp[behindInMarks,e1,e2]
def tB(t:TE):TT:=λσ H Q=>t σ H λx H1=>∃c,x=.bl c∧Q c H1
theorem Ja{op:CmpOp}{t:TE}(h:PC X op a b t)(h1:behindInMarks op b=false:=by first|exact CJ _ (by decide) (by decide)|rfl):PT X (.Compare a [op] [b] pos) (tB t):=by
 intro pins s σ H Q I hw
 refine wpAny_isTrue_Compare1 (thn (h pins s σ H _ I hw) λv s1 h1=>thn h1 λu s2 h2=>thn h2 λc s3 av=>?_) h1
 obtain⟨x,H1,I1,r1,q1⟩:=av
 obtain⟨d,rfl,q⟩:=q1
 cases r1
 exact wpAny_truthy_bool ⟨H1,I1,q⟩
theorem Jb{e:Expr}{t:TE}(h:PE X e t)(he:∀whole,isTrue e X.env whole=(do let v ← whole;standAt e.pos;holding [v] (truthy v)):=by intro _;rfl):PT X e (tB t):=by
 intro pins s σ H Q I hw
 refine isTrue_plain (thn (h pins s σ H _ I hw) λv s1 av=>?_) (he _)
 obtain⟨x,H1,I1,r1,q1⟩:=av
 obtain⟨d,rfl,q⟩:=q1
 cases r1
 exact wpAny_truthy_bool ⟨H1,I1,q⟩
variable{tA tB':TT}{rest:List Expr}
def N8(t u:TT):TT:=λσ H Q=>t σ H λc H1=>if c=true then u σ H1 Q else Q false H1
def tOr(t u:TT):TT:=λσ H Q=>t σ H λc H1=>if c=true then Q true H1 else u σ H1 Q
def N9(t:TT):TT:=λσ H Q=>t σ H λc H1=>Q (!c) H1
theorem FP(ha:PT X a tA):PW X (.BoolOp .And [a] pos) tA:=by
 intro wh pins s σ H Q I h
 refine isTrue_and (thn (ha pins s σ H Q I h) λc s1 e=>?_)
 cases c with
 | true=>exact isTrue_and_nil e
 | false=>exact e
theorem Jc(ha:PT X a tA):PW X (.BoolOp .Or [a] pos) tA:=by
 intro wh pins s σ H Q I h
 refine isTrue_or (thn (ha pins s σ H Q I h) λc s1 e=>?_)
 cases c with
 | false=>exact isTrue_or_nil e
 | true=>exact e
theorem Jd(ha:PT X a tA)(hb:PW X (.BoolOp .And (b::rest) pos) tB'):PW X (.BoolOp .And (a::b::rest) pos) (N8 tA tB'):=by
 intro wh pins s σ H Q I h
 refine isTrue_and (thn (ha pins s σ H _ I h) λc s1 av=>?_)
 obtain⟨H1,I1,q1⟩:=av
 cases c with
 | true=>exact hb wh pins s1 σ H1 Q I1 q1
 | false=>exact⟨H1,I1,q1⟩
theorem LO(ha:PT X a tA)(hb:PW X (.BoolOp .Or (b::rest) pos) tB'):PW X (.BoolOp .Or (a::b::rest) pos) (tOr tA tB'):=by
 intro wh pins s σ H Q I h
 refine isTrue_or (thn (ha pins s σ H _ I h) λc s1 av=>?_)
 obtain⟨H1,I1,q1⟩:=av
 cases c with
 | true=>exact⟨H1,I1,q1⟩
 | false=>exact hb wh pins s1 σ H1 Q I1 q1
theorem Je(ha:PT X a tA):PT X (.UnaryOp .Not a pos) (N9 tA):=by
 intro pins s σ H Q I h
 exact isTrue_not (ha pins s σ H (λc H1=>Q (!c) H1) I h)
def LP(ta tb:TE):TE:=λσ H Q=>ta σ H λx H1=>∃c,x=.bl c∧if c=true then tb σ H1 Q else Q (.bl false) H1
def LQ(ta:TE):TE:=λσ H Q=>ta σ H λx H1=>∃c,x=.bl c∧Q (.bl (!c)) H1
theorem Jf{op}{t:TE}(h:PE X a t):PE X (.BoolOp op [a] pos) t:=λpins s σ H Q I hw=>BoolOp_one (h pins s σ H Q I hw)
theorem Jg(ha:PE X a ta)(hb:PE X (.BoolOp .And (b::rest) pos) tb):PE X (.BoolOp .And (a::b::rest) pos) (LP ta tb):=by
 intro pins s σ H Q I h
 refine BoolOp_and (thn (ha pins s σ H _ I h) λv s1 av=>?_)
 obtain⟨x,H1,I1,r1,q1⟩:=av
 obtain⟨c,rfl,q1⟩:=q1
 cases r1
 refine wpAny_truthy_bool ?_
 cases c with
 | true=>exact hb pins s1 σ H1 Q I1 q1
 | false=>exact⟨.bl false,H1,I1,rfl,q1⟩
theorem Jh(ha:PE X a ta):PE X (.UnaryOp .Not a pos) (LQ ta):=by
 intro pins s σ H Q I h
 refine UnaryOp_ (thn (ha pins s σ H _ I h) λv s1 av=>?_)
 obtain⟨x,H1,I1,r1,q1⟩:=av
 obtain⟨c,rfl,q1⟩:=q1
 cases r1
 exact not_of (wpAny_truthy_bool ⟨.bl (!c),H1,I1,rfl,q1⟩)
def tIf(t:TT)(ta tb:TE):TE:=λσ H Q=>t σ H λc H1=>if c=true then ta σ H1 Q else tb σ H1 Q
theorem CK{c:Expr}(hc:PT X c tA)(ha:PE X a ta)(hb:PE X b tb):PE X (.IfExp c a b pos) (tIf tA ta tb):=by
 intro pins s σ H Q I h
 refine wpAny_IfExp (thn (hc pins s σ H _ I h) λd s1 av=>?_)
 obtain⟨H1,I1,q1⟩:=av
 cases d with
 | true=>exact ha pins s1 σ H1 Q I1 q1
 | false=>exact hb pins s1 σ H1 Q I1 q1
end
def SqL(K:PySem.W.Frag)(H:Hp)(a:Addr)(xs:List V):Prop :=
 Rd H a (.lst xs) ∨
  ∃(o:Obj) (its:Array Value) (n:Nat),K.lookup a=some o∧o.cls=.type "list"∧o.dict=none∧o.data=.seq its n∧its.size≤sizeLine∧Vals xs its.toList
def SqT(K:PySem.W.Frag)(H:Hp)(a:Addr)(xs:List V):Prop :=
 H a=some (.tup xs)
def N_:Value→Option V
 | .none=>some .non
 | .bool b=>some (.bl b)
 | .int i _=>some (.int i)
 | .str x _=>some (.str x)
 | .bytes b _=>some (.byt b)
 | .float b _=>some (.flt b)
 | .ref a=>some (.ref a)
 | .type n=>some (.ty n)
 | _=>none
theorem RelV.abs{x:V}{u:Value}(r:RelV x u):N_ u=some x:=by
 cases x with
 | non=>cases r;rfl
 | bl _=>cases r;rfl
 | int _=>obtain⟨t,rfl⟩:=r;rfl
 | str _=>obtain⟨t,rfl⟩:=r;rfl
 | byt _=>obtain⟨t,rfl⟩:=r;rfl
 | flt _=>obtain⟨t,rfl⟩:=r;rfl
 | ref _=>cases r;rfl
 | ty _=>cases r;rfl
theorem RelV.inj{x y:V}{u:Value}(r:RelV x u)(q:RelV y u):x=y:=Option.some.inj (r.abs.symm.trans q.abs)
theorem Vals.inj:∀{xs ys:List V}{us:List Value},Vals xs us→Vals ys us→xs=ys
 | _,_,_,.nil,.nil=>rfl
 | _,_,_,.cons r t,.cons r' t'=>by rw[r.inj r',Vals.inj t t']
section
variable{X:Cx}{pins:List (Addr×Obj)}{σ:St}{H:Hp}{s:Shared}{a:Addr}{xs ys:List V}
theorem SqL.of{K:PySem.W.Frag}(h:H a=some (.lst xs)):SqL K H a xs:=.inl (.inl h)
theorem SqT.of{K:PySem.W.Frag}(h:H a=some (.tup xs)):SqT K H a xs:=h
theorem Inv.list(I:Inv X pins σ H s)(h:SqL X.K H a xs):∃its:List Value,Vals xs its∧PlainL s.heap a its.toArray∧xs.length≤sizeLine:=by
 rcases h with h|⟨o,its,n,hk,hc,hd,hs,hz,r⟩
 ·obtain⟨z,its,n,r,e⟩:=h.ok I.hok
  exact⟨its,r,⟨_,n,e,rfl,rfl,rfl⟩,z⟩
 ·refine⟨its.toList,r,⟨o,n,I.kIn a o hk,hc,hd,by simpa using hs⟩,?_⟩
  have e:=r.length
  simp only[Array.length_toList] at e
  lia
theorem Inv.tuple(I:Inv X pins σ H s)(h:SqT X.K H a xs):∃its:List Value,Vals xs its∧IsTup s.heap a its.toArray∧xs.length≤sizeLine:=by
 obtain⟨z,its,r,p⟩:=(show dB X.prog X.w H s.heap a (.tup xs) from I.hok a _ h)
 exact⟨its,r,p,z⟩
theorem Inv.wm(I:Inv X pins σ H s)(h:SqL X.K H a xs)(h':SqL X.K H a ys):xs=ys:=by
 obtain⟨its,r,⟨o,n,e,_,_,d⟩,_⟩:=I.list h
 obtain⟨its',r',⟨o',n',e',_,_,d'⟩,_⟩:=I.list h'
 rw[e] at e';cases e'
 rw[d] at d'
 injection d' with d1 _
 have:its=its':=by simpa using congrArg Array.toList d1
 subst this
 exact r.inj r'
theorem Inv.tZ(I:Inv X pins σ H s)(h:SqT X.K H a xs)(h':SqT X.K H a ys):xs=ys:=by
 obtain⟨its,r,⟨o,e,_,n,d⟩,_⟩:=I.tuple h
 obtain⟨its',r',⟨o',e',_,n',d'⟩,_⟩:=I.tuple h'
 rw[e] at e';cases e'
 rw[d] at d'
 injection d' with d1 _
 have:its=its':=by simpa using congrArg Array.toList d1
 subst this
 exact r.inj r'
end
noncomputable abbrev Cx.sW (X : Cx) (E : Value → Shared → Prop) : Cx := { X with xe := E }
noncomputable abbrev Cx.nox (X : Cx) : Cx := X.sW fun _ _ => False
theorem Cx.Ok.sW{X:Cx}(ok:X.Ok)(E:Value→Shared→Prop):(X.sW E).Ok :=
 ⟨ok.mod,ok.kind,ok.glob,ok.blt,ok.above,ok.inj,ok.has,ok.cab,ok.hd,ok.frames,ok.stk,ok.exf,ok.bs,ok.bsz,ok.uI,ok.ya,ok.mF,ok.frf⟩
theorem Cx.Ok.kN{X:Cx}{E:Value→Shared→Prop}(ok:(X.sW E).Ok):X.Ok :=
 ⟨ok.mod,ok.kind,ok.glob,ok.blt,ok.above,ok.inj,ok.has,ok.cab,ok.hd,ok.frames,ok.stk,ok.exf,ok.bs,ok.bsz,ok.uI,ok.ya,ok.mF,ok.frf⟩
section
variable{X:Cx}{pins:List (Addr×Obj)}{σ:St}{H:Hp}{s:Shared}{E:Value→Shared→Prop}
theorem Inv.sW(I:Inv X pins σ H s)(E:Value→Shared→Prop):Inv (X.sW E) pins σ H s:=⟨I.ok.sW E,I.os,I.bare,I.base,I.loc,I.cell,I.free,I.gN,I.pin,I.hok,I.len⟩
theorem Inv.kN(I:Inv (X.sW E) pins σ H s):Inv X pins σ H s:=⟨I.ok.kN,I.os,I.bare,I.base,I.loc,I.cell,I.free,I.gN,I.pin,I.hok,I.len⟩
theorem SP.kN{D:Ends}{f:Flow}{s':Shared}(h:SP (X.sW E) pins D f s'):SP X pins D f s':=by
 cases f with
 | next=>obtain⟨σ',H',I,q⟩:=h;exact⟨σ',H',I.kN,q⟩
 | brk=>obtain⟨σ',H',I,q⟩:=h;exact⟨σ',H',I.kN,q⟩
 | cont=>obtain⟨σ',H',I,q⟩:=h;exact⟨σ',H',I.kN,q⟩
 | ret u=>obtain⟨v,σ',H',I,r,q⟩:=h;exact⟨v,σ',H',I.kN,r,q⟩
theorem PSs.nox{st:List Stmt}{t:TS}(h:PSs X.nox st t):PSs X st t:=λpins s σ H D I hw =>
 wpAny_mono (h pins s σ H D (I.sW _) hw) (λ_ _ q=>q.kN) λ_ _ z=>False.elim z
end
section
variable{X:Cx}{st:Stmt}{rest:List Stmt}{t u:TS}{e:Expr}{te:TE}{pos:Pos}
def LR:TS:=λD σ H=>D.nx σ H
def Oa(t u:TS):TS:=λD σ H=>t { D with nx:=u D } σ H
theorem FQ:PSs X [] LR:=λ_ _ σ H _ I h=>wpAny_execs_nil ⟨σ,H,I,h⟩
theorem CL(h1:PS X st t)(h2:PSs X rest u):PSs X (st::rest) (Oa t u):=by
 intro pins s σ H D I h
 refine wpAny_execs_cons (thn (h1 pins s σ H { D with nx:=u D } I h) λf s1 q=>?_)
 cases f with
 | next =>
  obtain⟨σ',H',I',q⟩:=q
  exact h2 pins s1 σ' H' D I' q
 | ret v=>exact q
 | brk=>exact q
 | cont=>exact q
theorem FR(h1:PS X st t):PSs X [st] t:=by
 intro pins s σ H D I h
 refine wpAny_execs_cons (thn (h1 pins s σ H D I h) λf s1 q=>?_)
 cases f with
 | next=>exact wpAny_execs_nil q
 | ret v=>exact q
 | brk=>exact q
 | cont=>exact q
theorem Inv.quiet{pins:List (Addr×Obj)}{σ:St}{H:Hp}{s:Shared}(I:Inv X pins σ H s):interactive X.env=false:=by simp[interactive,I.ok.kind]
def LS(te:TE):TS:=λD σ H=>te σ H λ_ H1=>D.nx σ H1
theorem zT(he:PE X e te)(hs:swapsWith e none pos.line X.env=pure false:=by rfl):PS X (.Expr e pos) (LS te):=by
 intro pins s σ H D I h
 exact wpAny_Expr_any (thn (he pins s σ H _ I h) λv s1 ⟨x,H1,I1,r1,q1⟩=>⟨σ,H1,I1,q1⟩) I.quiet hs
def Ob(te:TE):TS:=λD σ H=>te σ H D.rt
theorem Ji(he:PE X e te):PS X (.Return (some e) pos) (Ob te):=by
 intro pins s σ H D I h
 exact wpAny_Return_some (thn (he pins s σ H _ I h) λv s1 ⟨x,H1,I1,r1,q1⟩=>⟨x,σ,H1,I1,r1,q1⟩)
def Oc(c:TT)(t u:TS):TS:=λD σ H=>c σ H λb H1=>if b=true then t D σ H1 else u D σ H1
theorem LU{c:Expr}{a b:List Stmt}{tc:TT}(hc:PT X c tc)(ha:PSs X a t)(hb:PSs X b u):PS X (.If c a b pos) (Oc tc t u):=by
 intro pins s σ H D I h
 refine wpAny_If (thn (hc pins s σ H _ I h) λd s1 av=>?_)
 obtain⟨H1,I1,q1⟩:=av
 cases d with
 | true=>exact ha pins s1 σ H1 D I1 q1
 | false=>exact hb pins s1 σ H1 D I1 q1
def Jj:TS:=λ_ _ _=>False
theorem CM:PS X st Jj:=λ_ _ _ _ _ _ h=>h.elim
end
noncomputable abbrev TG := V → St → Hp → (St → Hp → Prop) → Prop
noncomputable abbrev TGs := List V → St → Hp → (St → Hp → Prop) → Prop
def PG(X:Cx)(target:Expr)(t:TG):Prop :=
 ∀(pins:List (Addr×Obj)) (s:Shared) (σ:St) (H:Hp) (v:V) (u:Value) (Q:St→Hp→Prop),Inv X pins σ H s→RelV v u→t v σ H Q →
  wpAny (model X.prog X.w) X.A (assign target X.env u) (λ_ s'=>∃σ' H',Inv X pins σ' H' s'∧Q σ' H') X.xe s
def PGs(X:Cx)(ts:List Expr)(t:TGs):Prop :=
 ∀(pins:List (Addr×Obj)) (s:Shared) (σ:St) (H:Hp) (vs:List V) (us:List Value) (Q:St→Hp→Prop),Inv X pins σ H s→Vals vs us→t vs σ H Q →
  wpAny (model X.prog X.w) X.A (assignInOrder ((assignEach ts X.env).map (·.2)) us) (λ_ s'=>∃σ' H',Inv X pins σ' H' s'∧Q σ' H') X.xe s
noncomputable abbrev Jk := V → V → V → Hp → (Hp → Prop) → Prop
def LV(X:Cx)(t:Jk):Prop :=
 ∀(pins:List (Addr×Obj)) (s:Shared) (σ:St) (H:Hp) (o i v:V) (ov iv u:Value) (Q:Hp→Prop),Inv X pins σ H s→RelV o ov→RelV i iv→RelV v u→t o i v H Q →
  wpAny (model X.prog X.w) X.A (setItem ov iv u) (λ_ s'=>∃H',Inv X pins σ H' s'∧Q H') X.xe s
section
variable{X:Cx}{pos:Pos}
def CN(i:Nat):TG:=λv σ H Q=>Q (σ.set i (some v)) H
theorem lQ{i:Nat}{x:Str}(hN:X.N.Nodup)(hi:X.N[i]?=some x)(hx:Loc X.env.scope x)(hf:X.fn x=true∨X.env.scope.names.lookup x=some .local:=by first|exact .inl rfl|exact .inr rfl|assumption):PG X (.Name x pos) (CN i):=by
 intro pins s σ H v u Q I r h
 exact wpAny_assign_Name (m7 I hN hi hx r (λs' I'=>⟨_,H,I',h⟩) hf)
def Od:TGs:=λvs σ H Q=>vs=[]∧Q σ H
def LW(t:TG)(u:TGs):TGs:=λvs σ H Q=>∃v r,vs=v::r∧t v σ H λσ' H'=>u r σ' H' Q
theorem zU:PGs X [] Od:=by
 intro pins s σ H vs us Q I r h
 obtain⟨e,h⟩:=h
 subst e
 cases r
 exact assignInOrder_nil ⟨σ,H,I,h⟩
theorem kO{e:Expr}{es:List Expr}{t:TG}{u:TGs}(h1:PG X e t)(h2:PGs X es u)
  (hs:(assignEach (e::es) X.env).map (·.2)=assign e X.env::(assignEach es X.env).map (·.2):=by rfl):PGs X (e::es) (LW t u):=by
 intro pins s σ H vs us Q I r h
 obtain⟨v,vr,e1,h⟩:=h
 subst e1
 cases r with
 | cons r rr =>
  rw[hs]
  refine assignInOrder_cons (thn (h1 pins s σ H _ _ _ I r h) λ_ s1 av=>?_)
  obtain⟨σ1,H1,I1,q1⟩:=av
  exact h2 pins s1 σ1 H1 _ _ Q I1 rr q1
def Oe(K:PySem.W.Frag)(n:Nat)(t:TGs):TG:=λv σ H Q=>∃a xs,v=.ref a∧SqT K H a xs∧xs.length=n∧t xs σ H Q
theorem CP{es:List Expr}{k:Nat}{t:TGs}{n:Nat}(hc:X.calm=true)(h:PGs X es t)
  (hn:(assignEach es X.env).length=n:=by rfl) (hst:(assignEach es X.env).findIdx? (·.1)=none:=by rfl):PG X (.Tuple es k pos) (Oe X.K n t):=by
 intro pins s σ H v u Q I r hw
 obtain⟨a,xs,e1,hq,hl,hw⟩:=hw
 subst e1
 cases r
 obtain⟨its,rv,ht,hz⟩:=I.tuple hq
 refine assign_Tuple_tuple (I.ok.hd hc) ht (by simp[hn,← hl,rv.length]) hst λh' hx=>?_
 have I1:Inv X pins σ H { s with heap:=h' }:=I.kept (t':=s.toks) λb o e=>hx b o (Nat.ne_of_lt (Heap.lt_size e)) e
 exact h pins _ σ H xs _ Q I1 (by simpa using rv) hw
def Of(to ti:TE)(t:Jk):TG:=λv σ H Q=>to σ H λo H1=>ti σ H1 λi H2=>t o i v H2 λH3=>Q σ H3
theorem Jl{o i:Expr}{to ti:TE}{t:Jk}(ho:PE X o to)(hi:PE X i ti)(hs:LV X t)
  (ha:∀v,assign (.Subscript o i pos) X.env v=(do
   let ov ← holding [v] (eval o X.env)
   let iv ← holding [v,ov] (eval i X.env)
   standAt pos
   holding [v,ov,iv] (setItem ov iv v)
   release [v,ov,iv] []):=by intro _;rfl):PG X (.Subscript o i pos) (Of to ti t):=by
 intro pins s σ H v u Q I r h
 rw[ha]
 refine wpAny_bind (wpAny_holding (thn (ho pins s σ H _ I h) λov s1 av=>?_))
 obtain⟨x,H1,I1,r1,q1⟩:=av
 refine wpAny_bind (wpAny_holding (thn (hi pins s1 σ H1 _ I1 q1) λiv s2 dH=>?_))
 obtain⟨y,H2,I2,r2,q2⟩:=dH
 refine wpAny_bind (wpAny_standAt (wpAny_bind (wpAny_holding (thn (hs pins s2 σ H2 x y v ov iv u _ I2 r1 r2 r q2) λ_ s3 wo=>?_))))
 obtain⟨H3,I3,q3⟩:=wo
 exact wpAny_release ⟨σ,H3,I3,q3⟩
def Jm(te:TE)(g:TG):TS:=λD σ H=>te σ H λx H1=>g x σ H1 D.nx
theorem CQ{tg e:Expr}{te:TE}{g:TG}(he:PE X e te)(hg:PG X tg g)(hs:swapsWithSole [tg] e pos.line X.env=pure false:=by rfl)(hw:swappedStores [tg] e X.env=pure none:=by rfl)
  (h1:(assignEach [tg] X.env).map (·.2)=[assign tg X.env]:=by rfl):PS X (.Assign [tg] e pos) (Jm te g):=by
 intro pins s σ H D I h
 refine wpAny_Assign_stores (thn (he pins s σ H _ I h) λv s1 av=>?_) hs hw
 obtain⟨x,H1,I1,r1,q1⟩:=av
 rw[h1]
 exact thn (hg pins s1 σ H1 x v _ I1 r1 q1) λ_ s2 q=>q
theorem Jn{i:Nat}{x:Str}{e:Expr}{te:TE}{pos':Pos}(hN:X.N.Nodup)(hi:X.N[i]?=some x)(hx:Loc X.env.scope x)(he:PE X e te)(hs:swapsWith e (some (.Name x pos')) pos.line X.env=pure false:=by rfl)(hf:X.fn x=true∨X.env.scope.names.lookup x=some .local:=by first|exact .inl rfl|exact .inr rfl|assumption) :
  PS X (.Assign [.Name x pos'] e pos) (Jm te (CN i)):=by
 intro pins s σ H D I h
 refine wpAny_Assign_Name (thn (he pins s σ H _ I h) λv s1 av=>?_) hs
 obtain⟨y,H1,I1,r1,q1⟩:=av
 exact m7 I1 hN hi hx r1 (λs2 I2=>⟨_,H1,I2,q1⟩) hf
end
section
variable{X:Cx}{pos:Pos}
def Jo(c:TT)(tb:TS):TS:=λD σ H=>∃W:Nat→St→Hp→Prop,(∃m,W m σ H)∧∀m σ H,W m σ H →
 c σ H λb H1=>if b=true then ∃N:St→Hp→Prop,(∀σ' H',N σ' H'→∃m',m'<m∧W m' σ' H')∧tb { D with nx:=N,ct:=N,bk:=D.nx } σ H1 else D.nx σ H1
theorem CU{c:Expr}{body:List Stmt}{tc:TT}{tb:TS}(hp:PassesOwn (model X.prog X.w) X.A X.env X.xe)(hc:PT X c tc)(hb:PSs X body tb):PS X (.While c body [] pos) (Jo tc tb):=by
 intro pins s σ H D I h
 obtain⟨W,⟨m0,w0⟩,turn⟩:=h
 refine wpAny_While (codeAny_whileLoop (λn s'=>∃σ' H',Inv X pins σ' H' s'∧W n σ' H') ?_ m0 ⟨σ,H,I,w0⟩)
 rintro n s1 ⟨σ1,H1,I1,w1⟩
 refine wpAny_passesOwn hp (thn (hc pins s1 σ1 H1 _ I1 (turn n σ1 H1 w1)) λb s2 av=>?_)
 obtain⟨H2,I2,q2⟩:=av
 cases b with
 | true =>
  obtain⟨N,hN,q2⟩:=q2
  rw[if_pos rfl]
  refine wpAny_passesOwn hp (thn (hb pins s2 σ1 H2 _ I2 q2) λf s3 q3=>?_)
  cases f with
  | next =>
   obtain⟨σ3,H3,I3,n3⟩:=q3
   obtain⟨m',hm,w3⟩:=hN σ3 H3 n3
   exact⟨m',hm,σ3,H3,I3,w3⟩
  | cont =>
   obtain⟨σ3,H3,I3,n3⟩:=q3
   obtain⟨m',hm,w3⟩:=hN σ3 H3 n3
   exact⟨m',hm,σ3,H3,I3,w3⟩
  | brk=>exact q3
  | ret v=>exact q3
 | false =>
  rw[if_neg Bool.false_ne_true]
  exact wpAny_execs_nil ⟨σ1,H2,I2,q2⟩
end
structure It where
 go:Nat→Hp→Prop
 yld:Nat→Hp→V→Hp→Prop
 stop:Nat→Hp→Prop
def kP(X:Cx)(pins:List (Addr×Obj))(H:Hp)(b:Addr):Prop :=
 H b=none∧b≠X.env.locals∧b∉X.fs∧(b∈X.ex∨X.s₀.heap.objs.size≤b)∧(∀x c,X.env.cells.lookup x=some c→c≠b)∧∀p∈X.pn++pins,p.1≠b
theorem Inv.yc{X:Cx}{pins:List (Addr×Obj)}{σ:St}{H H':Hp}{s:Shared}{b:Addr}(I:Inv X pins σ H s)(hb:s.heap.objs.size≤b)(hn:H' b=none):kP X pins H' b:=by
 refine⟨hn,Nat.ne_of_gt (Nat.lt_of_lt_of_le I.lt hb),I.N5 hb,.inr (Nat.le_trans I.sz hb),λx c e z=>?_,λp hp z=>?_⟩
 ·obtain⟨v,q⟩:=I.cell x c e
  exact absurd (Nat.lt_of_lt_of_le q.lt (by rw[z];exact hb)) (Nat.lt_irrefl _)
 ·exact absurd (Nat.lt_of_lt_of_le (Heap.lt_size (I.pin p hp).1) (by rw[z];exact hb)) (Nat.lt_irrefl _)
structure Turn(P:Program)(w:World)(K:PySem.W.Frag)(tg:Expr)(J:It)(fp:List Addr)(it:Addr)(tn:Nat→Heap→Prop):Prop where
 mem:it∈fp
 obj:∀i h,tn i h→∀b∈fp,∃o,h.get? b=some o∧∀v,o.data≠.cell v
 keep:∀i h h',tn i h→(∀b∈fp,∀o,h.get? b=some o→h'.get? b=some o)→tn i h'
 item:∀(X:Cx),X.prog=P→X.w=w→X.K=K→X.calm=true→∀(i:Nat) (pins:List (Addr×Obj)) (s:Shared) (σ:St) (H:Hp) (E:Value→Shared→Prop),Inv X pins σ H s→(∀b∈fp,kP X pins H b)→tn i s.heap→J.go i H →
  wpAny (model P w) X.A (pyNext (.ref it)) (λr s1=>∃u,r=some u ∧
   wpAny (model P w) X.A (letOwnedTupleGo tg (.ref it) u) (λ_ s2=>∃x H',Inv X pins σ H' s2∧RelV x u∧J.yld i H x H'∧tn (i+1) s2.heap∧∀b∈fp,H' b=none) E s1) E s
 done:∀(X:Cx),X.prog=P→X.w=w→X.K=K→X.calm=true→∀(i:Nat) (pins:List (Addr×Obj)) (s:Shared) (σ:St) (H:Hp) (E:Value→Shared→Prop),Inv X pins σ H s→(∀b∈fp,kP X pins H b)→tn i s.heap→J.stop i H →
  wpAny (model P w) X.A (pyNext (.ref it)) (λr s1=>r=none∧Inv X pins σ H s1) E s
 self:∀(A:Around) (i:Nat) (s:Shared) (Q:Value→Shared→Prop) (E:Value→Shared→Prop),tn i s.heap→Q (.ref it) s→wpAny (model P w) A (pyIter (.ref it)) Q E s
noncomputable abbrev TI := St → Hp → (It → Hp → Prop) → Prop
def PIE(X:Cx)(pins:List (Addr×Obj))(σ:St)(tg:Expr)(R:It→Hp→Prop)(itv:Value)(s2:Shared):Prop :=
 ∃(it:Addr) (fp:List Addr) (tn:Nat→Heap→Prop) (J:It) (H':Hp),itv=.ref it∧Inv X pins σ H' s2∧Turn X.prog X.w X.K tg J fp it tn∧tn 0 s2.heap∧(∀b∈fp,kP X pins H' b)∧R J H'
def PI(X:Cx)(tg iter:Expr)(wi:TI):Prop :=
 ∀(pins:List (Addr×Obj)) (s:Shared) (σ:St) (H:Hp) (R:It→Hp→Prop),Inv X pins σ H s→wi σ H R →
  wpAny (model X.prog X.w) X.A (eval iter X.env) (λv s1=>wpAny (model X.prog X.w) X.A (pyIter v) (PIE X pins σ tg R) X.xe s1) X.xe s
theorem CV {M : Model} {A : Around} {E : Value → Shared → Prop} {s : Shared} {tg : Expr} {it : Addr} {u : Value} {o : Obj} {n : String} {vs : Array Value} {Q : Unit → Shared → Prop} (ho : s.heap.get? it = some o) (hc : o.cls = .type n) (hd : o.data = .fields vs)
    (hn : ["enumerate", "zip", "dict_itemiterator", "dict_reverseitemiterator", "odict_iterator", "itertools.zip_longest", "itertools.pairwise"].contains n = false) (hQ : Q () s) : wpAny M A (letOwnedTupleGo tg (.ref it) u) Q E s := by
  unfold letOwnedTupleGo
  cases tg <;> first
    | exact wpAny_pure hQ
    | (cases u <;> first
        | exact wpAny_pure hQ
        | (refine wpAny_bind (wpAny_load ho ?_)
           rw [hc, hd]
           show wpAny M A (if (["enumerate", "zip", "dict_itemiterator", "dict_reverseitemiterator", "odict_iterator", "itertools.zip_longest", "itertools.pairwise"].contains n && vs[0]? == some (rawInt _)) = true then _ else _) Q E s
           rw [if_neg (by intro h; rw [hn, Bool.false_and] at h; cases h)]
           exact wpAny_pure hQ))
def Itl(K:PySem.W.Frag)(a:Addr):It :=
 ⟨λi H=>∃xs x,SqL K H a xs∧xs[i]?=some x,λi H x H'=>H'=H∧∀xs,SqL K H a xs→xs[i]?=some x,λi H=>∃xs,SqL K H a xs∧xs.length≤i⟩
def Itt(K:PySem.W.Frag)(a:Addr):It :=
 ⟨λi H=>∃xs x,SqT K H a xs∧xs[i]?=some x,λi H x H'=>H'=H∧∀xs,SqT K H a xs→xs[i]?=some x,λi H=>∃xs,SqT K H a xs∧xs.length≤i⟩
def Itr(lo:Int)(n:Nat):It:=⟨λi _=>i<n,λi H x H'=>H'=H∧x=.int (lo+i),λi _=>n≤i⟩
theorem Bc{P:Program}{w:World}{K:PySem.W.Frag}{tg:Expr}(a it:Addr):Turn P w K tg (Itl K a) [it] it (λi h=>h.IsListIter it a i) where
 mem:=by simp
 obj:=λi h st b hb=>by
  have e:b=it:=by simpa using hb
  subst e
  obtain⟨o,e,c,d⟩:=st
  exact⟨o,e,λv z=>by rw[d] at z;cases z⟩
 keep:=λi h h' st k=>st.at λo e=>k it (by simp) o e
 item:=by
  intro X hP hw hK hc i pins s σ H E I hf st hg
  subst hP hw hK
  obtain⟨xs,x,hq,hx⟩:=hg
  obtain⟨its,rv,p,hz⟩:=I.list hq
  obtain⟨u,hu,ru⟩:=rv.get hx
  obtain⟨f0,f1,f2,f3,f4,f5⟩:=hf it (by simp)
  refine wpAny_pyNext_list_item st p.isList (x:=u) (by simpa using hu) λh' st' sb=>?_
  have I1:Inv X pins σ H { s with heap:=h' }:=I.turned (t':=s.toks) (λb o hb e=>(sb.2 b hb).trans e) f0 f1 f3 f4 f5
  obtain⟨o,e,c,d⟩:=id st'
  exact⟨u,rfl,CV (s:={ s with heap:=h' }) e c d (by decide) ⟨x,H,I1,ru,⟨rfl,λys hy=>by rw[I.wm hy hq];exact hx⟩,st',λb hb=>(hf b hb).1⟩⟩
 done:=by
  intro X hP hw hK hc i pins s σ H E I hf st hg
  subst hP hw hK
  obtain⟨xs,hq,hx⟩:=hg
  obtain⟨its,rv,p,hz⟩:=I.list hq
  obtain⟨f0,f1,f2,f3,f4,f5⟩:=hf it (by simp)
  have hl:=rv.length
  exact wpAny_pyNext_list_end (I.ok.hd hc) st p.isList (by simp;lia) λh' eb=>⟨rfl,I.turned (t':=s.toks) (λb o hb e=>eb b o hb e) f0 f1 f3 f4 f5⟩
 self:=λ_ _ _ _ _ st h=>wpAny_pyIter_listiter st h
theorem yd{P:Program}{w:World}{K:PySem.W.Frag}{tg:Expr}(a it:Addr):Turn P w K tg (Itt K a) [it] it (λi h=>h.IsTupleIter it a i) where
 mem:=by simp
 obj:=λi h st b hb=>by
  have e:b=it:=by simpa using hb
  subst e
  obtain⟨o,e,c,d⟩:=st
  exact⟨o,e,λv z=>by rw[d] at z;cases z⟩
 keep:=λi h h' st k=>st.at λo e=>k it (by simp) o e
 item:=by
  intro X hP hw hK hc i pins s σ H E I hf st hg
  subst hP hw hK
  obtain⟨xs,x,hq,hx⟩:=hg
  obtain⟨its,rv,p,hz⟩:=I.tuple hq
  obtain⟨u,hu,ru⟩:=rv.get hx
  obtain⟨f0,f1,f2,f3,f4,f5⟩:=hf it (by simp)
  refine wpAny_pyNext_tuple_item st (show s.heap.IsTuple a its.toArray from p) (x:=u) (by simpa using hu) λh' st' sb=>?_
  have I1:Inv X pins σ H { s with heap:=h' }:=I.turned (t':=s.toks) (λb o hb e=>(sb.2 b hb).trans e) f0 f1 f3 f4 f5
  obtain⟨o,e,c,d⟩:=id st'
  exact⟨u,rfl,CV (s:={ s with heap:=h' }) e c d (by decide) ⟨x,H,I1,ru,⟨rfl,λys hy=>by rw[I.tZ hy hq];exact hx⟩,st',λb hb=>(hf b hb).1⟩⟩
 done:=by
  intro X hP hw hK hc i pins s σ H E I hf st hg
  subst hP hw hK
  obtain⟨xs,hq,hx⟩:=hg
  obtain⟨its,rv,p,hz⟩:=I.tuple hq
  obtain⟨f0,f1,f2,f3,f4,f5⟩:=hf it (by simp)
  have hl:=rv.length
  exact wpAny_pyNext_tuple_end (I.ok.hd hc) st (show s.heap.IsTuple a its.toArray from p) (by simp;lia) λh' eb=>⟨rfl,I.turned (t':=s.toks) (λb o hb e=>eb b o hb e) f0 f1 f3 f4 f5⟩
 self:=λ_ _ _ _ _ st h=>wpAny_pyIter_tupleiter st h
theorem ye{P:Program}{w:World}{K:PySem.W.Frag}{tg:Expr}(it:Addr)(lo:Int)(n:Nat):Turn P w K tg (Itr lo n) [it] it (λi h=>IsRangeIter h it (lo+(i:Nat)*1) ((n:Int)-(i:Nat)) 1) where
 mem:=by simp
 obj:=λi h st b hb=>by
  have e:b=it:=by simpa using hb
  subst e
  exact⟨_,st,λv z=>by
   have z':Data.fields _=Data.cell v:=z
   cases z'⟩
 keep:=λi h h' st k=>k it (by simp) _ st
 item:=by
  intro X hP hw hK hc i pins s σ H E I hf st hg
  subst hP hw hK
  obtain⟨f0,f1,f2,f3,f4,f5⟩:=hf it (by simp)
  have W:=Walks.range (prog:=X.prog) (w:=X.w) (I.ok.hd hc) it lo 1 n
  refine W.item i s _ _ hg st λv h' tk hv st' kk=>?_
  obtain⟨t,rfl⟩:=hv
  have I1:Inv X pins σ H { s with heap:=h',toks:=tk }:=I.turned (λb o hb e=>kk b o (by simpa using hb) e) f0 f1 f3 f4 f5
  refine⟨_,rfl,CV (s:={ s with heap:=h',toks:=tk }) (n:="range_iterator") st' rfl rfl (by decide) ⟨.int (lo+i),H,I1,⟨t,?_⟩,⟨rfl,rfl⟩,st',λb hb=>(hf b hb).1⟩⟩
  rw[Int.mul_one]
 done:=by
  intro X hP hw hK hc i pins s σ H E I hf st hg
  subst hP hw hK
  obtain⟨f0,f1,f2,f3,f4,f5⟩:=hf it (by simp)
  exact wpAny_pyNext_range_end (I.ok.hd hc) st (by have:n≤i:=hg;lia) λh' eb=>⟨rfl,I.turned (t':=s.toks) (λb o hb e=>eb b o hb e) f0 f1 f3 f4 f5⟩
 self:=λ_ _ _ _ _ st h=>wpAny_pyIter_rangeiter st h
section
variable{X:Cx}{tg:Expr}
theorem CY{pins:List (Addr×Obj)}{σ:St}{H:Hp}{s:Shared}{R:It→Hp→Prop}{E:Value→Shared→Prop}{lo hi:Int}{t u v:Tok}{tk:Nat}(I:Inv X pins σ H s)(h1:-(2 ^ 62)≤lo)(h2:lo<2 ^ 62)(h3:-(2 ^ 62)≤hi)(h4:hi<2 ^ 62)
  (q:R (Itr lo (hi-lo).toNat) H):wpAny (model X.prog X.w) X.A (pyIter (.ref s.heap.objs.size)) (PIE X pins σ tg R) E { s with heap:=s.heap.push { cls:=.type "range",data:=.fields #[.int lo t,.int hi u,.int 1 v] },toks:=tk }:=by
 refine wpAny_pyIter_range (IsRange.new ..) (small_one h1 h2 h3 h4) ?_
 have I1:Inv X pins σ H { s with heap:=s.heap.push { cls:=.type "range",data:=.fields #[.int lo t,.int hi u,.int 1 v] },toks:=tk }:=I.kept λb o e=>Heap.get?_push_of_some _ e
 refine⟨(s.heap.push { cls:=.type "range",data:=.fields #[.int lo t,.int hi u,.int 1 v] }).objs.size,[(s.heap.push { cls:=.type "range",data:=.fields #[.int lo t,.int hi u,.int 1 v] }).objs.size],_,_,H,rfl,
  I1.kept (t':=tk) λb o e=>Heap.get?_push_of_some _ e,ye _ lo (hi-lo).toNat,?_,λb hb=>?_,q⟩
 ·have e1:lo+((0:Nat):Int)*1=lo:=by simp
  have e2:(((hi-lo).toNat:Nat):Int)-((0:Nat):Int)=Builtin.Range.rangeSize lo hi 1:=by rw[rangeSize_one];split<;>lia
  show IsRangeIter _ _ (lo+((0:Nat):Int)*1) ((((hi-lo).toNat:Nat):Int)-((0:Nat):Int)) 1
  rw[e1,e2]
  exact Heap.get?_push_size _ rfl
 ·have e:b=(s.heap.push { cls:=.type "range",data:=.fields #[.int lo t,.int hi u,.int 1 v] }).objs.size:=by simpa using hb
  subst e
  exact I1.yc (Nat.le_refl _) (I1.hok.fresh (Nat.le_refl _))
def LX(ta:TA):TI:=λσ H R=>ta σ H λvs H1=>∃j:Int,vs=[.int j]∧-(2 ^ 62)≤j∧j<2 ^ 62∧R (Itr 0 j.toNat) H1
theorem Bd{a:Expr}{ta:TA}{p pos:Pos}(hg:Gl X "range")(hm:X.mg "range"=none)(ha:PA X [a] ta)(hs:starEach [a] X.env=[(false,eval a X.env)]:=by rfl):PI X tg (.Call (.Name "range" p) [a] [] pos) (LX ta):=by
 intro pins s σ H R I h
 refine Call_ (kM I hg hm boot_range (PyProof.Rows.callWith_type1 (thn (ha pos pins s σ H _ I h) λus s1 av=>?_) hs rfl))
 obtain⟨vs,H1,I1,r1,q1⟩:=av
 obtain⟨j,e,q1,q2,q⟩:=q1
 subst e
 cases r1 with
 | cons r rr =>
  cases rr
  obtain⟨t,rfl⟩:=r
  exact call_range_1 (CY I1 (by lia) (by lia) q1 q2 (by simpa using q))
def Og(wi:TI)(g:TG)(tb:TS):TS:=λD σ H=>wi σ H λJ H1=>∃W:Nat→Nat→St→Hp→Prop,(∃m,W 0 m σ H1)∧∀i m σ H,W i m σ H →
 (J.stop i H∧D.nx σ H)∨(J.go i H∧∃N:St→Hp→Prop,(∀σ' H',N σ' H'→∃m',m'<m∧W (i+1) m' σ' H')∧∀x H',J.yld i H x H'→g x σ H' λσ2 H2=>tb { D with nx:=N,ct:=N,bk:=D.nx } σ2 H2)
def qy(fp:List Addr)(h:Heap):List (Addr×Obj):=fp.filterMap λb=>(h.get? b).map λo=>(b,o)
theorem jW{fp:List Addr}{h:Heap}{b:Addr}{o:Obj}(hb:b∈fp)(e:h.get? b=some o):(b,o)∈qy fp h:=List.mem_filterMap.mpr ⟨b,hb,by rw[e];rfl⟩
theorem Be{fp:List Addr}{h:Heap}{p:Addr×Obj}(hp:p∈qy fp h):p.1∈fp∧h.get? p.1=some p.2:=by
 obtain⟨b,hb,e⟩:=List.mem_filterMap.mp hp
 cases q:h.get? b with
 | none=>rw[q] at e;cases e
 | some o =>
  rw[q] at e
  have e':(b,o)=p:=Option.some.inj e
  subst e'
  exact⟨hb,q⟩
theorem Inv.pinned{pins:List (Addr×Obj)}{σ:St}{H:Hp}{s:Shared}{fp:List Addr}(I:Inv X pins σ H s)(hf:∀b∈fp,kP X pins H b)(ho:∀b∈fp,∃o,s.heap.get? b=some o∧∀v,o.data≠.cell v):Inv X (pins++qy fp s.heap) σ H s :=
 I.zQ λp hp=>(List.mem_append.mp hp).elim (λz=>I.pin p (List.mem_append_right _ z)) λz=>by
  obtain⟨hb,e⟩:=Be z
  obtain⟨f0,f1,f2,_⟩:=hf p.1 hb
  obtain⟨o,e',d⟩:=ho p.1 hb
  rw[e] at e';cases e'
  exact⟨e,f0,f1,f2,d⟩
theorem Inv.m9{pins pl:List (Addr×Obj)}{σ:St}{H:Hp}{s:Shared}(I:Inv X (pins++pl) σ H s):Inv X pins σ H s:=I.zQ λp hp=>I.pin p (List.mem_append_right _ (List.mem_append_left _ hp))
theorem Jp{iter:Expr}{body:List Stmt}{wi:TI}{g:TG}{tb:TS}{pos:Pos}(hp:PassesOwn (model X.prog X.w) X.A X.env X.xe)(hc:X.calm=true)(hi:PI X tg iter wi)(hg:PG X tg g)(hb:PSs X body tb)
  (hs:∀x,foldedSetIterable iter X.env x=pure x:=by intro _;rfl):PS X (.For tg iter body [] pos) (Og wi g tb):=by
 intro pins s σ H D I h
 refine wpAny_For (thn (hi pins s σ H _ I h) λv s1 h1=>thn h1 λitv s2 h2=>?_) hs
 obtain⟨it,fp,tn,J,H2,e,I2,T,st2,f2,W,⟨m0,w0⟩,turn⟩:=h2
 subst e
 have yf:∀{H':Hp},(∀b∈fp,H' b=none)→∀b∈fp,kP X pins H' b:=λhn b hb=>⟨hn b hb,(f2 b hb).2⟩
 refine codeAny_forLoop_any (λn s'=>∃i σ' H',Inv X pins σ' H' s'∧tn i s'.heap∧(∀b∈fp,H' b=none)∧W i n σ' H') ?_ m0 ⟨0,σ,H2,I2,st2,λb hb=>(f2 b hb).1,w0⟩
 rintro n s3 ⟨i,σ3,H3,I3,st3,fr3,w3⟩
 rcases turn i n σ3 H3 w3 with ⟨stop,qn⟩|⟨go,N,hN,step⟩
 ·refine wpAny_passesOwn hp (thn (T.done X rfl rfl rfl hc i pins s3 σ3 H3 X.xe I3 (yf fr3) st3 stop) λr s4 ⟨hr,I4⟩=>?_)
  subst hr
  exact wpAny_execs_nil ⟨σ3,H3,I4,qn⟩
 ·refine wpAny_passesOwn hp (thn (T.item X rfl rfl rfl hc i pins s3 σ3 H3 X.xe I3 (yf fr3) st3 go) λr s4 ⟨u,hr,h4⟩=>?_)
  subst hr
  refine wpAny_passesOwn hp (thn h4 λ_ s5 av=>?_)
  obtain⟨x,H5,I5,r5,y5,st5,fr5⟩:=av
  have I5':=I5.pinned (yf fr5) (T.obj _ _ st5)
  refine wpAny_passesOwn hp (thn (hg _ s5 σ3 H5 x u _ I5' r5 (step x H5 y5)) λ_ s6 dH=>?_)
  obtain⟨σ6,H6,I6,q6⟩:=dH
  refine wpAny_passesOwn hp (thn (hb _ s6 σ6 H6 _ I6 q6) λf s7 q7=>?_)
  have again:∀{σ7:St}{H7:Hp},Inv X (pins++qy fp s5.heap) σ7 H7 s7→N σ7 H7→∃m,m<n∧∃i σ' H',Inv X pins σ' H' s7∧tn i s7.heap∧(∀b∈fp,H' b=none)∧W i m σ' H':=λ{σ7 H7} I7 n7=>by
   obtain⟨m',hm,w7⟩:=hN σ7 H7 n7
   refine⟨m',hm,i+1,σ7,H7,I7.m9,T.keep _ _ _ st5 λb hb o e=>(I7.pin (b,o) (List.mem_append_right _ (List.mem_append_right _ (jW hb e)))).1,λb hb=>?_,w7⟩
   obtain⟨o,e,d⟩:=T.obj _ _ st5 b hb
   exact (I7.pin (b,o) (List.mem_append_right _ (List.mem_append_right _ (jW hb e)))).2.1
  cases f with
  | next=>obtain⟨σ7,H7,I7,n7⟩:=q7;exact again I7 n7
  | cont=>obtain⟨σ7,H7,I7,n7⟩:=q7;exact again I7 n7
  | brk=>obtain⟨σ7,H7,I7,q7⟩:=q7;exact⟨σ7,H7,I7.m9,q7⟩
  | ret v=>obtain⟨x7,σ7,H7,I7,r7,q7⟩:=q7;exact⟨x7,σ7,H7,I7.m9,r7,q7⟩
end
noncomputable abbrev R2 := V → V → Hp → VK → Prop
def OpR(X:Cx)(f:Value→Value→Sem Value)(r:R2):Prop :=
 ∀(pins:List (Addr×Obj)) (s:Shared) (σ:St) (H:Hp) (x y:V) (v u:Value) (Q:VK),Inv X pins σ H s→RelV x v→RelV y u→r x y H Q →
  wpAny (model X.prog X.w) X.A (f v u) (EP X pins σ Q) X.xe s
def UnR(X:Cx)(f:Value→Sem Value)(r:V→Hp→VK→Prop):Prop :=
 ∀(pins:List (Addr×Obj)) (s:Shared) (σ:St) (H:Hp) (x:V) (v:Value) (Q:VK),Inv X pins σ H s→RelV x v→r x H Q →
  wpAny (model X.prog X.w) X.A (f v) (EP X pins σ Q) X.xe s
def fF(X:Cx)(f:Value)(r:List V→Hp→VK→Prop):Prop :=
 ∀(pins:List (Addr×Obj)) (s:Shared) (σ:St) (H:Hp) (xs:List V) (us:List Value) (Q:VK),Inv X pins σ H s→Vals xs us→r xs H Q →
  wpAny (model X.prog X.w) X.A (call f us) (EP X pins σ Q) X.xe s
def tOp(r:R2)(ta tb:TE):TE:=λσ H Q=>ta σ H λx H1=>tb σ H1 λy H2=>r x y H2 Q
def tUn(r:V→Hp→VK→Prop)(ta:TE):TE:=λσ H Q=>ta σ H λx H1=>r x H1 Q
def rI(C:Int→Int→Prop)(g:Int→Int→V):R2:=λx y H Q=>∃i j,x=.int i∧y=.int j∧C i j∧Q (g i j) H
def rI0(g:Int→Int→V):R2:=λx y H Q=>∃i j,x=.int i∧y=.int j∧Q (g i j) H
def rU(g:Int→V):V→Hp→VK→Prop:=λx H Q=>∃i,x=.int i∧Q (g i) H
section
variable{X:Cx}{a b c:Expr}{ta tb tc:TE}{pos:Pos}
theorem Jq(ha:PE X a ta)(hb:PE X b tb){pins:List (Addr×Obj)}{s:Shared}{σ:St}{H:Hp}{R:V→V→Hp→Prop}(I:Inv X pins σ H s)
  (h:ta σ H λx H1=>tb σ H1 λy H2=>R x y H2) {Q:Value→Shared→Prop}{f:Value→Value→Sem Value}
  (hf:∀v u s2 x y H2,Inv X pins σ H2 s2→RelV x v→RelV y u→R x y H2→wpAny (model X.prog X.w) X.A (f v u) Q X.xe s2) :
  wpAny (model X.prog X.w) X.A (eval a X.env) (λv s₁=>wpAny (model X.prog X.w) X.A (eval b X.env) (λu s₂=>wpAny (model X.prog X.w) X.A (f v u) Q X.xe s₂) X.xe s₁) X.xe s:=by
 refine thn (ha pins s σ H _ I h) λv s1 av=>?_
 obtain⟨x,H1,I1,r1,q1⟩:=av
 refine thn (hb pins s1 σ H1 _ I1 q1) λu s2 dH=>?_
 obtain⟨y,H2,I2,r2,q2⟩:=dH
 exact hf v u s2 x y H2 I2 r1 r2 q2
theorem Ih{op:Operator}{r:R2}(ho:OpR X (binaryOp op) r)(ha:PE X a ta)(hb:PE X b tb):PE X (.BinOp a op b pos) (tOp r ta tb):=by
 intro pins s σ H Q I h
 exact wpAny_BinOp (Jq ha hb I h λv u s2 x y H2 I2 rx ry q=>ho pins s2 σ H2 x y v u Q I2 rx ry q)
theorem LY{op:UnaryOp}{r:V→Hp→VK→Prop}(ho:UnR X (unaryOp op) r)(ha:PE X a ta):PE X (.UnaryOp op a pos) (tUn r ta):=by
 intro pins s σ H Q I h
 exact UnaryOp_ (thn (ha pins s σ H _ I h) λv s1 ⟨x,H1,I1,r1,q1⟩=>ho pins s1 σ H1 x v Q I1 r1 q1)
theorem opI{f:Value→Value→Sem Value}{C:Int→Int→Prop}{g:Int→Int→Int}
  (rule:∀(i j:Int) (t u:Tok) (s:Shared) (Q:Value→Shared→Prop) (E:Value→Shared→Prop),C i j→Q (.int (g i j) s.toks) { s with toks:=s.toks+1 }→wpAny (model X.prog X.w) X.A (f (.int i t) (.int j u)) Q E s) :
  OpR X f (rI C λi j=>.int (g i j)):=by
 intro pins s σ H x y v u Q I rx ry h
 obtain⟨i,j,rfl,rfl,hc,q⟩:=h
 obtain⟨t,rfl⟩:=rx
 obtain⟨t',rfl⟩:=ry
 exact rule i j t t' s _ _ hc ⟨.int (g i j),H,I.tok _,⟨_,rfl⟩,q⟩
theorem Jr{f:Value→Value→Sem Value}{g:Int→Int→Int}
  (rule:∀(i j:Int) (t u:Tok) (s:Shared) (Q:Value→Shared→Prop) (E:Value→Shared→Prop),Q (.int (g i j) s.toks) { s with toks:=s.toks+1 }→wpAny (model X.prog X.w) X.A (f (.int i t) (.int j u)) Q E s) :
  OpR X f (rI0 λi j=>.int (g i j)):=by
 intro pins s σ H x y v u Q I rx ry h
 obtain⟨i,j,rfl,rfl,q⟩:=h
 obtain⟨t,rfl⟩:=rx
 obtain⟨t',rfl⟩:=ry
 exact rule i j t t' s _ _ ⟨.int (g i j),H,I.tok _,⟨_,rfl⟩,q⟩
theorem Js{f:Value→Value→Sem Value}{g:Int→Int→Bool}
  (rule:∀(i j:Int) (t u:Tok) (s:Shared) (Q:Value→Shared→Prop) (E:Value→Shared→Prop),Q (.bool (g i j)) s→wpAny (model X.prog X.w) X.A (f (.int i t) (.int j u)) Q E s) :
  OpR X f (rI0 λi j=>.bl (g i j)):=by
 intro pins s σ H x y v u Q I rx ry h
 obtain⟨i,j,rfl,rfl,q⟩:=h
 obtain⟨t,rfl⟩:=rx
 obtain⟨t',rfl⟩:=ry
 exact rule i j t t' s _ _ ⟨.bl (g i j),H,I,rfl,q⟩
def Jt(i j:Int):Prop:=0<j∧j<1073741824
def Bf(i j:Int):Prop:=0≤j∧j≤1000000∧i.natAbs<2 ^ 64
def CZ(i j:Int):Prop:=(-(2 ^ 64)<i∧i<2 ^ 64)∨(-(2 ^ 64)<j∧j<2 ^ 64)
theorem CZ.ok{i j:Int}(h:CZ i j):IntMulOk i j:=by
 rcases h with ⟨h1,h2⟩|⟨h1,h2⟩
 ·exact .of_left (intBits_le_64 h1 h2)
 ·exact .of_right (intBits_le_64 h1 h2)
theorem yg(k:Nat):(0:Int)≤2 ^ k:=by
 rw[two_pow_cast]
 exact Int.natCast_nonneg _
theorem Ju:OpR X (binaryOp .Add) (rI0 λi j=>.int (i+j)):=Jr λ_ _ _ _ _ _ _ q=>add_int q
theorem Jv:OpR X (binaryOp .Sub) (rI0 λi j=>.int (i-j)):=Jr λ_ _ _ _ _ _ _ q=>sub_int q
theorem Jw:OpR X (binaryOp .Mult) (rI CZ λi j=>.int (i*j)):=opI λ_ _ _ _ _ _ _ hc q=>mul_int q hc.ok
theorem FT:OpR X (binaryOp .FloorDiv) (rI Jt λi j=>.int (i / j)):=opI λi j _ _ _ _ _ hc q=>by
 have h1:(0:Int)<j:=hc.1
 have h2:j<1073741824:=hc.2
 exact floordiv_int (by lia) (by rw[Int.fdiv_eq_ediv_of_nonneg i (by lia)];exact q) (.inl (PyProof.noPylong_small (by lia)))
theorem Jx:OpR X (binaryOp .Mod) (rI (λ_ j=>0<j) λi j=>.int (i%j)):=opI λi j _ _ _ _ _ hc q=>by
 have h1:(0:Int)<j:=hc
 exact mod_int' (by lia) (by rw[Int.fmod_eq_emod_of_nonneg i (by lia)];exact q)
theorem Jy:OpR X (binaryOp .Pow) (rI Bf λi j=>.int (i ^ j.toNat)):=opI λ_ _ _ _ _ _ _ hc q=>pow_int_small hc.1 hc.2.1 hc.2.2 q
theorem Jz:OpR X (binaryOp .LShift) (rI Bf λi j=>.int (i*2 ^ j.toNat)):=opI λ_ _ _ _ _ _ _ hc q=>lshift_int_small hc.1 hc.2.1 hc.2.2 q
theorem JA:OpR X (binaryOp .RShift) (rI (λ_ j=>0≤j) λi j=>.int (i / 2 ^ j.toNat)):=opI λi j _ _ _ _ _ hc q =>
 rshift_int hc (by rw[Int.fdiv_eq_ediv_of_nonneg i (yg _)];exact q)
theorem JB:OpR X (binaryOp .BitAnd) (rI0 λi j=>.int (Builtin.bitAnd i j)):=Jr λ_ _ _ _ _ _ _ q=>and_int q
theorem unI{f:Value→Sem Value}{g:Int→Int}
  (rule:∀(i:Int) (t:Tok) (s:Shared) (Q:Value→Shared→Prop) (E:Value→Shared→Prop),Q (.int (g i) s.toks) { s with toks:=s.toks+1 }→wpAny (model X.prog X.w) X.A (f (.int i t)) Q E s) :
  UnR X f (rU λi=>.int (g i)):=by
 intro pins s σ H x v Q I rx h
 obtain⟨i,rfl,q⟩:=h
 obtain⟨t,rfl⟩:=rx
 exact rule i t s _ _ ⟨.int (g i),H,I.tok _,⟨_,rfl⟩,q⟩
theorem JC:UnR X (unaryOp .USub) (rU λi=>.int (-i)):=unI λ_ _ _ _ _ q=>neg_int q
end
def LZ:V→V→Bool
 | .non,.non=>true|.non,.int _=>true|.int _,.non=>true|.non,.bl _=>true|.bl _,.non=>true|.non,.str _=>true|.str _,.non=>true
 | .int _,.int _=>true|.bl _,.bl _=>true|.str _,.str _=>true|.byt _,.byt _=>true
 | .int _,.str _=>true|.str _,.int _=>true|.bl _,.str _=>true|.str _,.bl _=>true
 | _,_=>false
def rEq:R2:=λx y H Q=>LZ x y=true∧Q (.bl (decide (x=y))) H
def rNe:R2:=λx y H Q=>LZ x y=true∧Q (.bl (!decide (x=y))) H
theorem zV{i j:Int}:decide (V.int i=V.int j)=(i==j):=by
 rw[Bool.eq_iff_iff]
 simp
theorem C0{i j:Bool}:decide (V.bl i=V.bl j)=(i==j):=by
 rw[Bool.eq_iff_iff]
 simp
theorem m_{i j:Str}:decide (V.str i=V.str j)=(i==j):=by
 rw[Bool.eq_iff_iff]
 simp
theorem zW{i j:Array UInt8}:decide (V.byt i=V.byt j)=(i.toList==j.toList):=by
 rw[Bool.eq_iff_iff]
 cases i
 cases j
 simp
section
variable{X:Cx}{a b c:Expr}{ta tb tc:TE}{pos:Pos}
theorem b3{pins:List (Addr×Obj)}{σ:St}{H:Hp}{s:Shared}{Q:VK}{k k':Bool}(I:Inv X pins σ H s)(q:Q (.bl k) H)(e:k=k'):EP X pins σ Q (.bool k') s:=by
 subst e
 exact⟨.bl k,H,I,rfl,q⟩
theorem C3:OpR X (compareOp .Eq) rEq:=by
 intro pins s σ H x y v u Q I rx ry h
 obtain⟨hs,q⟩:=h
 cases x with
 | non =>
  cases rx
  cases y with
  | non=>cases ry;exact PySem.EqNone.eq_none_none (b3 I q (by simp))
  | bl j=>cases ry;exact PySem.EqNone.eq_none_bool (b3 I q (by simp))
  | int j=>obtain⟨t',rfl⟩:=ry;exact PySem.EqNone.eq_none_int (b3 I q (by simp))
  | str j=>obtain⟨t',rfl⟩:=ry;exact PySem.EqNone.eq_none_str (b3 I q (by simp))
  | _=>exact absurd (show false=true from hs) Bool.false_ne_true
 | bl i =>
  cases rx
  cases y with
  | non=>cases ry;exact PySem.EqNone.eq_bool_none (b3 I q (by simp))
  | bl j=>cases ry;exact eq_bool (b3 I q C0)
  | str j=>obtain⟨t',rfl⟩:=ry;exact PySem.EqMixed.eq_bool_str (b3 I q (by simp))
  | _=>exact absurd (show false=true from hs) Bool.false_ne_true
 | int i =>
  obtain⟨t,rfl⟩:=rx
  cases y with
  | non=>cases ry;exact PySem.EqNone.eq_int_none (b3 I q (by simp))
  | int j=>obtain⟨t',rfl⟩:=ry;exact eq_int (b3 I q zV)
  | str j=>obtain⟨t',rfl⟩:=ry;exact PySem.EqMixed.eq_int_str (b3 I q (by simp))
  | _=>exact absurd (show false=true from hs) Bool.false_ne_true
 | str i =>
  obtain⟨t,rfl⟩:=rx
  cases y with
  | non=>cases ry;exact PySem.EqNone.eq_str_none (b3 I q (by simp))
  | bl j=>cases ry;exact PySem.EqMixed.eq_str_bool (b3 I q (by simp))
  | int j=>obtain⟨t',rfl⟩:=ry;exact PySem.EqMixed.eq_str_int (b3 I q (by simp))
  | str j=>obtain⟨t',rfl⟩:=ry;exact eq_str (b3 I q m_)
  | _=>exact absurd (show false=true from hs) Bool.false_ne_true
 | byt i =>
  obtain⟨t,rfl⟩:=rx
  cases y with
  | byt j=>obtain⟨t',rfl⟩:=ry;exact PySem.W.eq_bytes (b3 I q zW)
  | _=>exact absurd (show false=true from hs) Bool.false_ne_true
 | _=>cases y<;>exact absurd (show false=true from hs) Bool.false_ne_true
theorem L0:OpR X (compareOp .NotEq) rNe:=by
 intro pins s σ H x y v u Q I rx ry h
 obtain⟨hs,q⟩:=h
 cases x with
 | non =>
  cases rx
  cases y with
  | non=>cases ry;exact PySem.EqNone.ne_none_none (b3 I q (by simp))
  | bl j=>cases ry;exact PySem.EqNone.ne_none_bool (b3 I q (by simp))
  | int j=>obtain⟨t',rfl⟩:=ry;exact PySem.EqNone.ne_none_int (b3 I q (by simp))
  | str j=>obtain⟨t',rfl⟩:=ry;exact PySem.EqNone.ne_none_str (b3 I q (by simp))
  | _=>exact absurd (show false=true from hs) Bool.false_ne_true
 | bl i =>
  cases rx
  cases y with
  | non=>cases ry;exact PySem.EqNone.ne_bool_none (b3 I q (by simp))
  | bl j=>cases ry;exact ne_bool (b3 I q (congrArg not C0))
  | str j=>obtain⟨t',rfl⟩:=ry;exact PySem.EqMixed.ne_bool_str (b3 I q (by simp))
  | _=>exact absurd (show false=true from hs) Bool.false_ne_true
 | int i =>
  obtain⟨t,rfl⟩:=rx
  cases y with
  | non=>cases ry;exact PySem.EqNone.ne_int_none (b3 I q (by simp))
  | int j=>obtain⟨t',rfl⟩:=ry;exact ne_int (b3 I q (congrArg not zV))
  | str j=>obtain⟨t',rfl⟩:=ry;exact PySem.EqMixed.ne_int_str (b3 I q (by simp))
  | _=>exact absurd (show false=true from hs) Bool.false_ne_true
 | str i =>
  obtain⟨t,rfl⟩:=rx
  cases y with
  | non=>cases ry;exact PySem.EqNone.ne_str_none (b3 I q (by simp))
  | bl j=>cases ry;exact PySem.EqMixed.ne_str_bool (b3 I q (by simp))
  | int j=>obtain⟨t',rfl⟩:=ry;exact PySem.EqMixed.ne_str_int (b3 I q (by simp))
  | str j=>obtain⟨t',rfl⟩:=ry;exact ne_str (b3 I q (congrArg not m_))
  | _=>exact absurd (show false=true from hs) Bool.false_ne_true
 | byt i =>
  obtain⟨t,rfl⟩:=rx
  cases y with
  | byt j=>obtain⟨t',rfl⟩:=ry;exact PySem.W.ne_bytes (b3 I q (congrArg not zW))
  | _=>exact absurd (show false=true from hs) Bool.false_ne_true
 | _=>cases y<;>exact absurd (show false=true from hs) Bool.false_ne_true
theorem Ii:OpR X (compareOp .Lt) (rI0 λi j=>.bl (decide (i<j))):=Js λ_ _ _ _ _ _ _ q=>lt_int q
theorem C4:OpR X (compareOp .LtE) (rI0 λi j=>.bl (decide (i≤j))):=Js λ_ _ _ _ _ _ _ q=>le_int q
theorem L1:OpR X (compareOp .Gt) (rI0 λi j=>.bl (decide (j<i))):=Js λ_ _ _ _ _ _ _ q=>gt_int q
theorem JD:OpR X (compareOp .Is) (λx y H Q=>y=.non∧Q (.bl (decide (x=.non))) H):=by
 intro pins s σ H x y v u Q I rx ry h
 obtain⟨rfl,q⟩:=h
 cases ry
 refine is_none_gen (b3 I q ?_)
 cases x<;>first
  | (cases rx;rfl)
  | (obtain⟨t,rfl⟩:=rx;rfl)
theorem OpR.or{f:Value→Value→Sem Value}{r r':R2}(h:OpR X f r)(h':OpR X f r'):OpR X f (λx y H Q=>r x y H Q∨r' x y H Q):=by
 intro pins s σ H x y v u Q I rx ry q
 rcases q with q|q
 ·exact h pins s σ H x y v u Q I rx ry q
 ·exact h' pins s σ H x y v u Q I rx ry q
theorem mG(b:Expr){op:CmpOp}(h:op≠.In:=by decide)(h2:op≠.NotIn:=by decide):behindInMarks op b=false:=by
 have e1:(op==CmpOp.In)=false:=by cases op<;>first|rfl|exact absurd rfl h
 have e2:(op==CmpOp.NotIn)=false:=by cases op<;>first|rfl|exact absurd rfl h2
 cases b<;>simp[behindInMarks,e1,e2]
theorem FU{op:CmpOp}{r:R2}(ho:OpR X (compareOp op) r)(ha:PE X a ta)(hb:PE X b tb)(hm:behindInMarks op b=false):PE X (.Compare a [op] [b] pos) (tOp r ta tb):=by
 intro pins s σ H Q I h
 exact wpAny_Compare1 (Jq ha hb I h λv u s2 x y H2 I2 rx ry q=>ho pins s2 σ H2 x y v u Q I2 rx ry q) hm
def C5(t:TE):TT:=λσ H Q=>t σ H λx H'=>∃k,x=.bl k∧Q k H'
theorem FV{op:CmpOp}{r:R2}(ho:OpR X (compareOp op) r)(ha:PE X a ta)(hb:PE X b tb)(hm:behindInMarks op b=false):PT X (.Compare a [op] [b] pos) (C5 (tOp r ta tb)):=by
 intro pins s σ H Q I h
 refine wpAny_isTrue_Compare1 (thn (ha pins s σ H _ I h) λv s1 ⟨x,H1,I1,r1,q1⟩=>thn (hb pins s1 σ H1 _ I1 q1) λu s2 ⟨y,H2,I2,r2,q2⟩ =>
  thn (ho pins s2 σ H2 x y v u _ I2 r1 r2 q2) λc s3 ⟨z,H3,I3,r3,k,e,q3⟩=>?_) hm
 subst e
 cases r3
 exact wpAny_truthy_bool ⟨H3,I3,q3⟩
def yh(r r':R2)(ta tb tc:TE):TE:=λσ H Q=>ta σ H λx H1=>tb σ H1 λy H2=>r x y H2 λz H3=>∃k,z=.bl k ∧
 (if k=true then tc σ H3 λw' H4=>r' y w' H4 Q else Q (.bl false) H3)
theorem C6{op op':CmpOp}{r r':R2}(ho:OpR X (compareOp op) r)(ho':OpR X (compareOp op') r')(ha:PE X a ta)(hb:PE X b tb)(hc:PE X c tc)
  (hm:lastMarks [op,op'] [b,c]=false:=by with_unfolding_all rfl):PE X (.Compare a [op,op'] [b,c] pos) (yh r r' ta tb tc):=by
 intro pins s σ H Q I h
 refine Compare_chain (thn (ha pins s σ H _ I h) λv s1 ⟨x,H1,I1,r1,q1⟩=>chain_link (thn (hb pins s1 σ H1 _ I1 q1) λu s2 ⟨y,H2,I2,r2,q2⟩ =>
  thn (ho pins s2 σ H2 x y v u _ I2 r1 r2 q2) λd s3 ⟨z,H3,I3,r3,k,e,q3⟩=>?_)) hm
 subst e
 cases r3
 refine wpAny_truthy_bool ?_
 cases k with
 | false=>exact ite_ff ⟨.bl false,H3,I3,rfl,q3⟩
 | true=>exact ite_tt (chain_last (thn (hc pins s3 σ H3 _ I3 q3) λw' s4 ⟨z',H4,I4,r4,q4⟩=>ho' pins s4 σ H4 y z' u w' Q I4 r2 r4 q4))
theorem C7{op op':CmpOp}{r r':R2}(ho:OpR X (compareOp op) r)(ho':OpR X (compareOp op') r')(ha:PE X a ta)(hb:PE X b tb)(hc:PE X c tc)
  (hm:lastMarks [op,op'] [b,c]=false:=by with_unfolding_all rfl):PT X (.Compare a [op,op'] [b,c] pos) (C5 (yh r r' ta tb tc)):=by
 intro pins s σ H Q I h
 refine isTrue_chain (thn (ha pins s σ H _ I h) λv s1 ⟨x,H1,I1,r1,q1⟩=>test_link (thn (hb pins s1 σ H1 _ I1 q1) λu s2 ⟨y,H2,I2,r2,q2⟩ =>
  thn (ho pins s2 σ H2 x y v u _ I2 r1 r2 q2) λd s3 ⟨z,H3,I3,r3,k,e,q3⟩=>?_)) hm
 subst e
 cases r3
 refine wpAny_truthy_bool ?_
 cases k with
 | false =>
  obtain⟨k',e',q'⟩:=q3
  cases e'
  exact ite_ff ⟨H3,I3,q'⟩
 | true =>
  refine ite_tt (test_last (thn (hc pins s3 σ H3 _ I3 q3) λw' s4 ⟨z',H4,I4,r4,q4⟩=>thn (ho' pins s4 σ H4 y z' u w' _ I4 r2 r4 q4) λd' s5 av=>?_))
  obtain⟨z2,H5,I5,r5,k2,e2,q5⟩:=av
  subst e2
  cases r5
  exact wpAny_truthy_bool ⟨H5,I5,q5⟩
theorem oH:(sizeLine:Nat)<2 ^ 63:=by rw[sizeLine_eq];decide
theorem yi:OpR X (binaryOp .Add) (λx y H Q=>∃i j,x=.str i∧y=.str j∧i.length+j.length≤sizeLine∧Q (.str (i++j)) H):=by
 intro pins s σ H x y v u Q I rx ry h
 obtain⟨i,j,rfl,rfl,hz,q⟩:=h
 obtain⟨t,rfl⟩:=rx
 obtain⟨t',rfl⟩:=ry
 exact add_str (λt' tk=>⟨.str (i++j),H,I.tok _,⟨_,rfl⟩,q⟩) hz
theorem vals1{x:V}{us:List Value}(r:Vals [x] us):∃u,us=[u]∧RelV x u:=by
 cases r with
 | cons r1 r2=>cases r2;exact⟨_,rfl,r1⟩
theorem vals2{x y:V}{us:List Value}(r:Vals [x,y] us):∃u w',us=[u,w']∧RelV x u∧RelV y w':=by
 cases r with
 | cons r1 r2 =>
  cases r2 with
  | cons r3 r4=>cases r4;exact⟨_,_,rfl,r1,r3⟩
theorem Bg:fF X (.type "int") (λxs H Q=>(∃i,xs=[.int i]∧Q (.int i) H)∨∃k,xs=[.bl k]∧Q (.int (if k then 1 else 0)) H):=by
 intro pins s σ H xs us Q I r h
 rcases h with ⟨i,rfl,q⟩|⟨k,rfl,q⟩
 ·obtain⟨u,rfl,t,rfl⟩:=vals1 r
  exact call_int_int ⟨.int i,H,I,⟨_,rfl⟩,q⟩
 ·obtain⟨u,rfl,r1⟩:=vals1 r
  cases r1
  exact call_int_bool ⟨.int (if k then 1 else 0),H,I.tok _,⟨_,rfl⟩,q⟩
end
section
variable{prog:Program}{w:World}{A:Around}{E:Value→Shared→Prop}{s:Shared}{K:PySem.W.Frag}{x dx C f:Addr}{mA:Str→Option Value}{name:Str}{v:Value}
end
theorem p0.some_of{v:V}{o:Option Value}(r:p0 (some v) o):∃u,o=some u∧RelV v u:=by
 cases o with
 | none=>exact (show False from r).elim
 | some u=>exact⟨u,rfl,r⟩
section
variable{P:Program}{w:World}{H H':Hp}{h h':Heap}{a C dx:Addr}{fs fs':List (Str×V)}
end
section
variable{X:Cx}{pins:List (Addr×Obj)}{σ:St}{H:Hp}{s:Shared}{a C dx:Addr}{fs:List (Str×V)}{f:Str}{v:V}{A:Around}{E:Value→Shared→Prop}
end
section
variable{X:Cx}{o e value:Expr}{f:Str}{pos pos' iy:Pos}{ta tv:TE}
end
section
variable{X:Cx}{pins:List (Addr×Obj)}{σ:St}{H:Hp}{s:Shared}{A:Around}{E:Value→Shared→Prop}{Q:Value→Shared→Prop}{c:Value}{b:Bool}
end
structure eE(k:Nat)(A:Around):Prop where
 hd:A.handled=none
 dp:A.depth+3*k+5<recursionLimit
 un:A.units+16*k+200<cLine
theorem eE.mono{j k:Nat}{A:Around}(r:eE k A)(h:j≤k):eE j A:=⟨r.hd,by have:=r.dp;lia,by have:=r.un;lia⟩
theorem eE.deeper{k:Nat}{A:Around}(r:eE (k+1) A)(env:Env):eE k (A.deeper env) :=
 ⟨r.hd,by have:=r.dp;show A.depth+1+3*k+5<_;lia,by have:=r.un;show A.units+3+16*k+200<_;lia⟩
theorem eE.in1{k:Nat}{A:Around}(r:eE (k+1) A):eE k A.in1 :=
 ⟨r.hd,by have:=r.dp;show A.depth+3*k+5<_;lia,by have:=r.un;show A.units+1+16*k+200<_;lia⟩
theorem eE.depth{k:Nat}{A:Around}(r:eE k A):A.depth<recursionLimit:=by have:=r.dp;lia
theorem eE.units{k:Nat}{A:Around}(r:eE k A):A.units+64<cLine:=by have:=r.un;lia
def JE:TA:=λ_ H Q=>Q [] H
def zX(ta:TE)(tr:TA):TA:=λσ H Q=>ta σ H λx H1=>tr σ H1 λxs H2=>Q (x::xs) H2
section
variable{X:Cx}{e:Expr}{es:List Expr}{te:TE}{t:TA}{pos:Pos}
theorem oI:PA X [] JE:=λ_ _ _ _ H Q I h=>Calls.spliced_nil ⟨[],H,I,.nil,h⟩
theorem gQ(ha:PE X e te)(hr:PA X es t)(hs:starEach (e::es) X.env=(false,eval e X.env)::starEach es X.env:=by rfl):PA X (e::es) (zX te t):=by
 intro pos pins s σ H Q I h
 rw[hs]
 show wpAny _ _ (spliced ((false,eval e X.env)::backTo pos (starEach es X.env))) _ _ s
 refine Calls.spliced_cons (thn (ha pins s σ H _ I h) λu s1 av=>?_)
 obtain⟨x,H1,I1,r1,q1⟩:=av
 exact thn (hr pos pins s1 σ H1 _ I1 q1) λus s2 ⟨xs,H2,I2,r2,q2⟩=>⟨x::xs,H2,I2,.cons r1 r2,q2⟩
def Oh(t:TA):TE:=λσ H Q=>t σ H λxs H1=>xs.length≤sizeLine∧∀p,H1 p=none→Q (.ref p) (upd H1 p (.tup xs))
def Oi(t:TA):TE:=λσ H Q=>t σ H λxs H1=>xs.length≤sizeLine∧∀p,H1 p=none→Q (.ref p) (upd H1 p (.lst xs))
theorem yj{x1}(h:PA X es t):PE X (.Tuple es x1 pos) (Oh t):=by
 intro pins s σ H Q I hq
 refine wpAny_Tuple_spliced (thn (h pos pins s σ H _ I hq) λus s1 ⟨xs,H1,I1,r,z,q⟩=>⟨by rw[← r.length];exact z,?_⟩)
 have hf:H1 s1.heap.objs.size=none:=I1.hok.fresh (Nat.le_refl _)
 refine⟨.ref s1.heap.objs.size,upd H1 s1.heap.objs.size (.tup xs),I1.laid (t':=s1.toks) (λb u e=>Heap.get?_push_of_some _ e) (Nat.le_refl _) ?_,rfl,q _ hf⟩
 exact⟨z,us,r,⟨_,Heap.get?_push_size _ rfl,rfl,_,rfl⟩⟩
theorem C8(h:PA X es t):PE X (.List es pos) (Oi t):=by
 intro pins s σ H Q I hq
 refine wpAny_List_spliced (thn (h pos pins s σ H _ I hq) λus s1 ⟨xs,H1,I1,r,z,q⟩=>⟨by rw[← r.length];exact z,?_⟩)
 have hf:H1 s1.heap.objs.size=none:=I1.hok.fresh (Nat.le_refl _)
 refine⟨.ref s1.heap.objs.size,upd H1 s1.heap.objs.size (.lst xs),I1.laid (t':=s1.toks) (λb u e=>Heap.get?_push_of_some _ e) (Nat.le_refl _) ?_,rfl,q _ hf⟩
 exact⟨z,us,0,r,Heap.get?_push_size _ rfl⟩
end
noncomputable abbrev Sp := List V → Hp → VK → XK → Prop
noncomputable abbrev CXT := List Env → Hp → Shared → XK → Value → Shared → Prop
structure yk(P:Program)(w:World)(K:PySem.W.Frag)(mg:Str→Option Value)(base:Heap)(A:Around)(outer:List Env)(s:Shared)(H:Hp):Prop where
 frames:A.frames=some outer
 mod:Mod K mg base
 bs:∀b o,base.get? b=some o→s.heap.get? b=some o∧H b=none
 bsz:base.objs.size≤s.heap.objs.size
 mF:s.heap.FunFrames base outer
 frf:∀b∈frs outer,H b=none
 hok:HOk P w H s.heap
 bare:AllBare s.gens
def CE(outer:List Env)(P:Program)(w:World)(H:Hp)(s:Shared)(Q:VK)(u:Value)(s':Shared):Prop :=
 ∃v H',s'.os=s.os∧AllBare s'.gens∧Un (frs outer) [] H H' s.heap s'.heap∧HOk P w H' s'.heap∧RelV v u∧Q v H'
def CR(CX:CXT)(outer:List Env)(P:Program)(w:World)(H:Hp)(s:Shared)(Q:VK)(E:XK)(r:Result)(s':Shared):Prop :=
 match r with
 | .ok (.ret u)=>CE outer P w H s Q u s'
 | .ok _=>False
 | .error e=>CX outer H s E e s'
structure aU(P:Program)(w:World)(K:PySem.W.Frag)(mg:Str→Option Value)(base:Heap)(CX:CXT)(k:Nat)(f:Addr)(fd:FuncData)(ps:List Str)(sp:Sp):Prop where
 len:∀vs H Q E,sp vs H Q E→vs.length=ps.length
 run:∀(A:Around) (outer:List Env) (s:Shared) (H:Hp) (args:Args) (us:List Value) (vs:List V) (Q:VK) (E:XK),eE k A→yk P w K mg base A outer s H→BindsTo s fd args (ps.zip us)→Vals vs us→sp vs H Q E →
  codeAny (model P w) A (.call (.ref f) args) (CR CX outer P w H s Q E) s
theorem yk.in1{P:Program}{w:World}{K:PySem.W.Frag}{mg:Str→Option Value}{base:Heap}{A:Around}{outer:List Env}{s:Shared}{H:Hp}(e:yk P w K mg base A outer s H) :
  yk P w K mg base A.in1 outer s H:=⟨e.frames,e.mod,e.bs,e.bsz,e.mF,e.frf,e.hok,e.bare⟩
section
variable{X:Cx}{pins:List (Addr×Obj)}{σ:St}{H:Hp}{s s':Shared}
theorem Inv.FW(I:Inv X pins σ H s):yk X.prog X.w X.K X.mg X.base X.A X.stack s H :=
 ⟨I.ok.frames,I.ok.mod,I.bs,Nat.le_trans I.ok.bsz I.sz,I.stack,I.qi,I.hok,I.bare⟩
theorem Inv.after{Q:VK}{u:Value}(I:Inv X pins σ H s)(h:CE X.stack X.prog X.w H s Q u s'):EP X pins σ Q u s':=by
 obtain⟨v,H',os,bare,un,hok,r,q⟩:=h
 obtain⟨hh,g,d,t,os'⟩:=s'
 obtain rfl:os'=s.os:=os
 exact⟨v,H',I.call (h':=hh) (g':=g) (d':=d) (t':=t) (ch:=[]) un hok bare (λb z=>absurd z (by simp)),r,q⟩
end
def Ij(sp:Sp)(dvs:List V)(E:XK)(t:TA):TE:=λσ H Q=>t σ H λvs H1=>sp (vs++dvs) H1 Q E
def Binds(K:PySem.W.Frag)(fd:FuncData)(ps:List Str)(ds:List Value):Prop :=
 ∀(s:Shared) (us:List Value),K.In s.heap→(us++ds).length=ps.length→BindsTo s fd ⟨us,[]⟩ (ps.zip (us++ds))
theorem Binds.all{K:PySem.W.Frag}{fd:FuncData}{ps:List Str}(h:∀us:List Value,us.length=ps.length→bindArgs fd ⟨us,[]⟩=pure (ps.zip us)):Binds K fd ps []:=λs us _ hl=>by
 rw[List.append_nil] at hl ⊢
 exact .of_eq (h us hl)
def Passes(CX:CXT)(X:Cx)(E:XK):Prop:=∀(pins:List (Addr×Obj)) (σ:St) (H:Hp) (s:Shared) (e:Value) (s':Shared),Inv X pins σ H s→CX X.stack H s E e s'→X.xe e s'
section
variable{X:Cx}{CX:CXT}{k:Nat}{f C:Addr}{fd:FuncData}{ps:List Str}{sp:Sp}{dvs:List V}{ds:List Value}{E:XK}{x m:Str}{p pos apos:Pos}{e o:Expr}{es:List Expr}{ta:TE}{t:TA}
theorem JF{pins:List (Addr×Obj)}{σ:St}{H:Hp}{s:Shared}{Q:VK}{us:List Value}{vs:List V}(F:aU X.prog X.w X.K X.mg X.base CX k f fd ps sp)(hr:eE k X.A)(hb:Binds X.K fd ps ds)(hd:Vals dvs ds)(hx:Passes CX X E)
  (I:Inv X pins σ H s) (r:Vals vs us) (h:sp (vs++dvs) H Q E):wpAny (model X.prog X.w) X.A (call (.ref f) us) (EP X pins σ Q) X.xe s:=by
 have r2:Vals (vs++dvs) (us++ds):=r.append hd
 have hl:(us++ds).length=ps.length:=by rw[← r2.length];exact F.len _ _ _ _ h
 refine wpAny_call (codeAny_mono (F.run X.A X.stack s H ⟨us,[]⟩ (us++ds) (vs++dvs) Q E hr I.FW (hb s us I.kIn hl) r2 h) λr s' hq=>?_)
 cases r with
 | error e=>exact hx pins σ H s e s' I hq
 | ok fl =>
  cases fl with
  | ret u=>exact I.after hq
  | next=>exact False.elim hq
  | brk=>exact False.elim hq
  | cont=>exact False.elim hq
theorem FX(F:aU X.prog X.w X.K X.mg X.base CX k f fd ps sp)(hr:eE k X.A)(hg:Gl X x)(hm:X.mg x=some (.ref f))(hk:PySem.W.keepIn X.K (.ref f)=true)(hb:Binds X.K fd ps ds)(hd:Vals dvs ds)(hx:Passes CX X E)
  (ha:PA X (e::es) t) (hdb:(x==("__debug__":Str))=false:=by decide) (he:starEach (e::es) X.env=(false,eval e X.env)::starEach es X.env:=by rfl) (hpl:(backTo pos (starEach es X.env)).any (·.1)=false:=by rfl) :
  PE X (.Call (.Name x p) (e::es) [] pos) (Ij sp dvs E t):=by
 intro pins s σ H Q I h
 refine wpAny_Call_Name_kw (m8 I hg hm ?_ hdb)
 refine PySem.W.callWith_K (h₀:=X.base) I.ok.mod.kin hk (thn (ha pos pins s σ H _ I h) λus s1 ⟨vs,H1,I1,r,q⟩=>⟨I1.kIn,?_⟩) he hpl
 exact JF F hr hb hd hx I1 r q
end
section
variable{X:Cx}{CX:CXT}{k:Nat}{f C:Addr}{fd:FuncData}{ps ks:List Str}{sp:Sp}{E:XK}{x m:Str}{p pos apos Sn:Pos}{e o:Expr}{es:List Expr}{kws:List Keyword}{te ta:TE}{t tk:TA}{nm:Option Str}
variable{g:List Value→List Value→List Value}{gV:List V→List V→List V}
end
structure aV(N P:List Str)(sc:Scope):Prop where
 kind:sc.kind=.function
 co:sc.isCoroutine=false
 gen:sc.isGenerator=false
 nd:N.Nodup
 pre:N.take P.length=P
 par:∀x∈P,sc.names.lookup x=some .local∨sc.names.lookup x=some .cell
 JG:∀y∈sc.names,y.2≠.free
theorem t4{kindOf:Str→Option NameKind}{x:Str}:∀{binds:List (Str×Value)}{m:Str→Option Value},(∀v,(x,v)∉binds)→bindL kindOf binds m x=m x
 | [],_,_=>rfl
 | (n,v)::r,m,h=>by
  unfold bindL
  rw[t4 λw hw=>h w (List.mem_cons_of_mem _ hw)]
  split
  ·have:x≠n:=by rintro rfl;exact h v List.mem_cons_self
   simp[this]
  ·rfl
theorem t5{kindOf:Str→Option NameKind}{x:Str}:∀{binds:List (Str×Value)}{m:Str→Option Value},(∀v,(x,v)∉binds)→bindC kindOf binds m x=m x
 | [],_,_=>rfl
 | (n,v)::r,m,h=>by
  unfold bindC
  rw[t5 λw hw=>h w (List.mem_cons_of_mem _ hw)]
  split
  ·rfl
  ·have:x≠n:=by rintro rfl;exact h v List.mem_cons_self
   simp[this]
theorem t6{kindOf:Str→Option NameKind}{x:Str}{v:Value}:∀{P:List Str}{vs:List Value}{i:Nat}{m:Str→Option Value},P.Nodup→P[i]?=some x→vs[i]?=some v→kindOf x=some .local →
  bindL kindOf (P.zip vs) m x=some v
 | [],_,_,_,_,h,_,_=>by simp at h
 | _::_,[],_,_,_,_,h,_=>by simp at h
 | p::P,w::vs,0,m,nd,h1,h2,hk=>by
  simp at h1 h2;subst h1;subst h2
  show bindL kindOf ((p,w)::P.zip vs) m p=_
  unfold bindL
  rw[t4 λv hv=>(List.nodup_cons.mp nd).1 (List.of_mem_zip hv).1,if_pos hk]
  simp
 | p::P,w::vs,i+1,m,nd,h1,h2,hk=>by
  show bindL kindOf ((p,w)::P.zip vs) m x=_
  unfold bindL
  exact t6 (i:=i) (List.nodup_cons.mp nd).2 (by simpa using h1) (by simpa using h2) hk
theorem t7{kindOf:Str→Option NameKind}{x:Str}{v:Value}:∀{P:List Str}{vs:List Value}{i:Nat}{m:Str→Option Value},P.Nodup→P[i]?=some x→vs[i]?=some v→kindOf x≠some .local →
  bindC kindOf (P.zip vs) m x=some v
 | [],_,_,_,_,h,_,_=>by simp at h
 | _::_,[],_,_,_,_,h,_=>by simp at h
 | p::P,w::vs,0,m,nd,h1,h2,hk=>by
  simp at h1 h2;subst h1;subst h2
  show bindC kindOf ((p,w)::P.zip vs) m p=_
  unfold bindC
  rw[t5 λv hv=>(List.nodup_cons.mp nd).1 (List.of_mem_zip hv).1,if_neg hk]
  simp
 | p::P,w::vs,i+1,m,nd,h1,h2,hk=>by
  show bindC kindOf ((p,w)::P.zip vs) m x=_
  unfold bindC
  exact t7 (i:=i) (List.nodup_cons.mp nd).2 (by simpa using h1) (by simpa using h2) hk
def start(N:List Str)(vs:List V):St:=vs.map some++List.replicate (N.length-vs.length) none
def nc(CX:CXT)(P:Program)(w:World)(K:PySem.W.Frag)(mg:Str→Option Value)(base:Heap)(N:List Str)(qual:Str)(scope:Scope)(f:Addr)(cd:Value)(A:Around)(outer:List Env)(s:Shared)(H:Hp)(E:XK):Cx where
 prog:=P
 w:=w
 K:=K
 mg:=mg
 base:=base
 A:=A.deeper (envOfC qual scope s.heap.objs.size f cd)
 N:=N
 s₀:=s
 H₀:=H
 env:=envOfC qual scope s.heap.objs.size f cd
 outer:=outer
 stack:=envOfC qual scope s.heap.objs.size f cd::outer
 ex:=[]
 calm:=true
 fn:=λ_=>true
 pn:=[]
 xe:=λe s'=>wpAny (model P w) (A.deeper (envOfC qual scope s.heap.objs.size f cd)) (leaving (envOfC qual scope s.heap.objs.size f cd) e) (λ_ s''=>CX outer H s E e s'') (λe' s''=>CX outer H s E e' s'') s'
theorem wq{sc:Scope}{n:Nat}{x:Str}(h:sc.names.lookup x=some .cell):∃c,(cellsFrom n sc.names []).lookup x=some c:=by
 have q:=PySem.W.cellsFrom_some sc.names n [] (.inl h)
 exact Option.isSome_iff_exists.mp q
theorem Bh{CX:CXT}{P:Program}{w:World}{K:PySem.W.Frag}{mg:Str→Option Value}{base:Heap}{N ps:List Str}{qual:Str}{scope:Scope}{f:Addr}{cd:Value}{A:Around}{outer:List Env}{s s1:Shared}{H:Hp}{E:XK}{us:List Value}{vs:List V}
  (S:aV N ps scope) (hd:A.handled=none) (e0:yk P w K mg base A outer s H) (hl:vs.length=ps.length) (r:Vals vs us)
  (x:InCallC s s.heap.objs.size (bindL (envOfC qual scope s.heap.objs.size f cd).kindOf (ps.zip us) λ_=>none) (cellsFrom (s.heap.objs.size+1) scope.names []) (bindC (envOfC qual scope s.heap.objs.size f cd).kindOf (ps.zip us) λ_=>none) s1) :
  Inv (nc CX P w K mg base N qual scope f cd A outer s H E) [] (start N vs) H s1:=by
 have hpl:ps.length≤N.length:=by have:=congrArg List.length S.pre;rw[List.length_take] at this;lia
 obtain⟨h1,tk,rfl,hk⟩:=x.done
 have noA:∀b:Addr,b∉(nc CX P w K mg base N qual scope f cd A outer s H E).ex:=λb z=>absurd (show b∈([]:List Addr) from z) (by simp)
 refine⟨⟨e0.mod,S.kind,rfl,rfl,Nat.le_refl _,λy z c h1 h2=>?_,λy hy=>?_,λy c _ h=>?_,λ_=>hd,Around.frames_deeper e0.frames,.inr ⟨rfl,rfl⟩,λb z=>absurd z (noA b),e0.bs,e0.bsz,λb _ _=>noA b,λb z=>absurd z (noA b),e0.mF,e0.frf⟩,
  rfl,e0.bare,Un.kept hk,⟨_,x.toInCall.ns,λi y v h1 h2 h3=>?_⟩,λy c h=>⟨_,x.cell y c h⟩,e0.hok.fresh (Nat.le_refl _),λy c h=>?_,λp hp=>absurd (show p∈([]:List (Addr×Obj)) from hp) (by simp),e0.hok.kept hk,?_⟩
 ·exact name_of_addr x.apart (PySem.mem_of_lookup h1) (PySem.mem_of_lookup h2)
 ·have hy:scope.names.lookup y=some .cell∨scope.names.lookup y=some .free:=hy
  rcases hy with hy|hy
  ·exact wq hy
  ·exact absurd rfl (S.JG _ (PySem.mem_of_lookup hy))
 ·exact Nat.le_of_lt (x.above y c (PySem.mem_of_lookup h))
 ·have hi:i<vs.length:=by
   unfold start at h2
   by_cases hi:i<vs.length
   ·exact hi
   ·rw[List.getElem?_append_right (by simpa using hi)] at h2
    rw[List.getElem?_replicate] at h2
    split at h2<;>cases h2
  have ha:vs[i]?=some v:=by
   unfold start at h2
   rw[List.getElem?_append_left (by simpa using hi),List.getElem?_map] at h2
   cases e:vs[i]? with
   | none=>rw[e] at h2;cases h2
   | some a=>rw[e] at h2;cases h2;rfl
  obtain⟨u,hu,rv⟩:=r.get ha
  have hp:ps[i]?=some y:=by
   rw[← S.pre,List.getElem?_take_of_lt (by lia)];exact h1
  have ndP:ps.Nodup:=by rw[← S.pre];exact S.nd.sublist (List.take_sublist _ _)
  refine⟨u,rv,?_⟩
  rcases S.par y (List.mem_of_getElem? hp) with k|k
  ·exact .inl ⟨k,t6 ndP hp hu k⟩
  ·obtain⟨c,e⟩:=wq (n:=s.heap.objs.size+1) k
   refine .inr ⟨.inl k,c,e,?_⟩
   have q:=x.cell y c e
   rw[t7 ndP hp hu (by show scope.names.lookup y≠_;rw[k];decide)] at q
   exact q
 ·exact e0.hok.fresh (Nat.le_of_lt (x.above y c (PySem.mem_of_lookup h)))
 ·unfold start
  show _=N.length
  rw[List.length_append,List.length_map,List.length_replicate]
  lia
theorem Ik{CX:CXT}{P:Program}{w:World}{K:PySem.W.Frag}{mg:Str→Option Value}{base:Heap}{k:Nat}{f:Addr}{name qual:Str}{params:Arguments}{body:List Stmt}{scope:Scope}{dV kV doc pm cdv ct oc:Value}{an od:Option Addr}
  {osl:Array (Option Value)}{N ps:List Str}{sp:Sp} (lk:K.lookup f=some ⟨oc,od,.func (PySem.W.fnOf name qual params body scope dV kV doc pm an cdv ct),osl⟩) (hcd:PySem.W.codeIn K cdv qual=true) (S:aV N ps scope)
  (len:∀vs H Q E,sp vs H Q E→vs.length=ps.length)
  (C9:∀(A:Around) (outer:List Env) (s:Shared) (H:Hp) (vs:List V) (Q:VK) (E:XK),eE k (A.deeper (envOfC qual scope s.heap.objs.size f cdv))→sp vs H Q E →
   ∃t,PSs (nc CX P w K mg base N qual scope f cdv A outer s H E) body t∧t { nx:=λ_ H'=>Q .non H',rt:=Q } (start N vs) H) :
  aU P w K mg base CX (k+1) f (PySem.W.fnOf name qual params body scope dV kV doc pm an cdv ct) ps sp:=by
 refine⟨len,λA outer s H args us vs Q E hr e0 hb r hsp=>?_⟩
 have hl:=len _ _ _ _ hsp
 have KX:K.In s.heap:=e0.mod.kin.keeps λb o e=>(e0.bs b o e).1
 have lim:s.heap.NoLimit:=e0.mod.nolimit.keeps λb o e=>(e0.bs b o e).1
 have L3:∀y∈ps.zip us,scope.names.lookup y.1=some .local∨(scope.names.lookup y.1=some .cell∧((cellsFrom (s.heap.objs.size+1) scope.names []).lookup y.1).isSome=true):=λav hy=>by
  obtain⟨n,v⟩:=av
  rcases S.par n (List.of_mem_zip hy).1 with q|q
  ·exact .inl q
  ·exact .inr ⟨q,PySem.W.cellsFrom_some _ _ _ (.inl q)⟩
 refine codeAny_call_function hr.depth (KX _ _ lk) rfl S.co S.gen rfl (PySem.W.codeRec_of KX hcd) (hb _ _ _ _ ?_)
 refine wpAny_newFunctionEnv_cells S.kind L3 λenv he s1 x=>?_
 subst he
 refine⟨lim.keeps x.toInCall.keep,codeAny_func ?_⟩
 obtain⟨t,ht,hq⟩:=C9 A outer s H vs Q E (hr.deeper _) hsp
 have I:Inv (nc CX P w K mg base N qual scope f cdv A outer s H E) [] (start N vs) H s1:=Bh S hr.hd e0 hl r x
 refine wpAny_mono (ht [] s1 (start N vs) H _ I hq) (λfl s' hs=>?_) λe s' hs=>hs
 have fin:∀{σ':St}{H':Hp}{v:V}{u:Value},Inv (nc CX P w K mg base N qual scope f cdv A outer s H E) [] σ' H' s'→RelV v u→Q v H'→CE outer P w H s Q u s' :=
  λ{σ' H' v u} J rv q=>⟨v,H',J.os,J.bare,J.base,J.hok,rv,q⟩
 cases fl with
 | ret u =>
  obtain⟨v,σ',H',J,rv,q⟩:=hs
  exact fin J rv q
 | next =>
  obtain⟨σ',H',J,q⟩:=hs
  exact fin (v:=V.non) (u:=Value.none) J rfl q
 | brk =>
  obtain⟨_,_,_,q⟩:=hs
  exact False.elim q
 | cont =>
  obtain⟨_,_,_,q⟩:=hs
  exact False.elim q
section
variable{X:Cx}{x:Str}{p pos:Pos}{e:Expr}{es:List Expr}{t:TA}{id T:String}{r:List V→Hp→VK→Prop}
def tCB(r:List V→Hp→VK→Prop)(t:TA):TE:=λσ H Q=>t σ H λvs H1=>r vs H1 Q
theorem jG(hc:fF X (.builtin id) r)(hg:Gl X x)(hm:X.mg x=none)(hv:bootBuiltins x=some (.builtin id))(ha:PA X (e::es) t)(hn:x≠"__name__":=by decide)(hdb:(x==("__debug__":Str))=false:=by decide)
  (he:starEach (e::es) X.env=(false,eval e X.env)::starEach es X.env:=by rfl) (hpl:(backTo pos (starEach es X.env)).any (·.1)=false:=by rfl):PE X (.Call (.Name x p) (e::es) [] pos) (tCB r t):=by
 intro pins s σ H Q I h
 refine wpAny_Call_Name_kw (kM I hg hm hv ?_ hn hdb)
 exact PyProof.Rows.callWith_builtin1 (thn (ha pos pins s σ H _ I h) λus s1 ⟨vs,H1,I1,r1,q1⟩=>hc pins s1 σ H1 vs us Q I1 r1 q1) he hpl
theorem t8(hc:fF X (.type T) r)(hg:Gl X x)(hm:X.mg x=none)(hv:bootBuiltins x=some (.type T))(ha:PA X (e::es) t)(hn:x≠"__name__":=by decide)(hdb:(x==("__debug__":Str))=false:=by decide)
  (he:starEach (e::es) X.env=(false,eval e X.env)::starEach es X.env:=by rfl) (hpl:(backTo pos (starEach es X.env)).any (·.1)=false:=by rfl):PE X (.Call (.Name x p) (e::es) [] pos) (tCB r t):=by
 intro pins s σ H Q I h
 refine wpAny_Call_Name_kw (kM I hg hm hv ?_ hn hdb)
 exact PyProof.Rows.callWith_type1 (thn (ha pos pins s σ H _ I h) λus s1 ⟨vs,H1,I1,r1,q1⟩=>hc pins s1 σ H1 vs us Q I1 r1 q1) he hpl
end
end L2
namespace HT
open PySem PyProof.Rows
section
open PySem.SeqAt
open PySem.AutoSeq1 (wpAny_loadPart')
open PySem.MeetsSeq PySem.MeetsSeq2 PySem.MeetsSeq3
end
section
variable{prog:Program}{w:World}{A:Around}{E:Value→Shared→Prop}{s:Shared}
theorem FY{t b:Addr}{vs ws:List Value}{Q:Value→Shared→Prop}(ht:IsTup s.heap t vs.toArray)(hb:IsTup s.heap b ws.toArray)(hv:vs≠[])
  (h1:ws=[]→Q (.ref t) s) (h2:ws≠[]→Q (.ref s.heap.objs.size) { s with heap:=s.heap.push { cls:=.type "tuple",data:=.seq (vs++ws).toArray } })
  (hsz:vs.length+ws.length≤sizeLine):wpAny (model prog w) A (binaryOp .Add (.ref t) (.ref b)) Q E s:=by
 obtain⟨⟨cls,dd,data,sl⟩,ho,hc,n,hd⟩:=id ht
 obtain⟨⟨L4,dd2,data2,sl2⟩,ho2,hc2,n2,hd2⟩:=id hb
 simp only at hc hd hc2 hd2
 subst hc hd hc2 hd2
 have e:vs.toArray++ws.toArray=(vs++ws).toArray:=by simp
 by_cases hw:ws=[]
 ·exact concat_meets ⟨_,ho,rfl⟩ ⟨_,ho2,rfl⟩ noFill_tuple_add seq_tuple_add PySem.F.slot_tuple_add PySem.F.entry_tuple_add (PySem.F.args_tuple_add_2 _ _)
   (tuple_addW1 t b vs.toArray ws.toArray n n2 dd dd2 sl sl2 (by simpa using hv) (by simp[hw])) ⟨ho,ho2,h1 hw⟩
 ·refine concat_meets ⟨_,ho,rfl⟩ ⟨_,ho2,rfl⟩ noFill_tuple_add seq_tuple_add PySem.F.slot_tuple_add PySem.F.entry_tuple_add (PySem.F.args_tuple_add_2 _ _)
   (tuple_addW2 t b vs.toArray ws.toArray n n2 dd dd2 sl sl2 (by simpa using hv) (by simpa using hw) (by rw[List.size_toArray,List.size_toArray];exact hsz)) ⟨ho,ho2,?_⟩
  rw[e]
  exact h2 hw
def sIx(n d:Nat):Option Int→Nat
 | none=>d
 | some v=>if v<0 then (v+(n:Int)).toNat else min v.toNat n
theorem JH(n d:Nat)(hd:d≤n)(o:Option Int):sIx n d o≤n:=by
 cases o with
 | none=>exact hd
 | some v =>
  show (if v<0 then (v+(n:Int)).toNat else min v.toNat n)≤n
  by_cases hv:v<0
  ·rw[if_pos hv];lia
  ·rw[if_neg hv];exact Nat.min_le_right _ _
theorem zY(v:Int)(n d:Nat):(if v<0 then max (v+(n:Int)) 0 else min v (n:Int))=((sIx n d (some v):Nat):Int):=by
 show (if v<0 then max (v+(n:Int)) 0 else min v (n:Int))=(((if v<0 then (v+(n:Int)).toNat else min v.toNat n):Nat):Int)
 by_cases hv:v<0
 ·simp only[if_pos hv];lia
 ·simp only[if_neg hv];lia
theorem ym(lo hi:Option Int)(n:Nat):Builtin.Slice.sliceAdjust lo hi 1 (n:Int)=(((sIx n 0 lo:Nat):Int),((sIx n n hi:Nat):Int)):=by
 have h1:¬ ((1:Int)<0):=by lia
 unfold Builtin.Slice.sliceAdjust
 simp only[h1,if_false]
 refine Prod.ext ?_ ?_
 ·cases lo with
  | none=>rfl
  | some v=>exact zY v n 0
 ·cases hi with
  | none=>rfl
  | some v=>exact zY v n n
theorem yn(i j:Nat):Builtin.Slice.slicePlaces (i:Int) (j:Int) 1=j-i:=by
 unfold Builtin.Slice.slicePlaces
 have h1:(1:Int) > 0:=by lia
 simp only[h1,if_true,Int.ediv_one]
 split<;>lia
theorem qA{v:Value}{o:Option Int}{Q:Option Int→Shared→Prop}(p:IsPart v o)(h:Q o s):wpAny (model prog w) A (Builtin.Slice.slicePartIndex v) Q E s:=by
 cases p with
 | none=>exact slicePart_none h
 | int i t=>exact slicePart_int h
theorem jH{sl:Addr}{vl vu:Value}{lo hi:Option Int}{n:Nat}{Q:Int×Int×Nat→Shared→Prop}(hs:s.heap.IsSliceOf sl vl vu .none)(pl:IsPart vl lo)(pu:IsPart vu hi)
  (h:Q (((sIx n 0 lo:Nat):Int),1,sIx n n hi-sIx n 0 lo) s):wpAny (model prog w) A (Builtin.Slice.sliceApplied (.ref sl) (pure (n:Int))) Q E s:=by
 obtain⟨os,hos,hcs,hds⟩:=id hs
 unfold Builtin.Slice.sliceApplied Builtin.Slice.sliceFields
 refine wpAny_bind (wpAny_bind (wpAny_field hos hds (x:=vl) rfl (wpAny_bind (wpAny_field hos hds (x:=vu) rfl (wpAny_bind (wpAny_field hos hds (x:=.none) rfl (wpAny_pure ?_)))))))
 refine wpAny_bind (slicePart_none ?_)
 show wpAny _ _ (if ((1:Int)==0)=true then _ else _) _ _ s
 rw[if_neg (by decide)]
 refine wpAny_bind (qA pl (wpAny_bind (qA pu (wpAny_bind (wpAny_pure ?_)))))
 show wpAny _ _ (match Builtin.Slice.sliceAdjust lo hi 1 (n:Int) with|(lo,hi)=>pure (lo,(1:Int),Builtin.Slice.slicePlaces lo hi 1)) _ _ s
 rw[ym lo hi n]
 show wpAny _ _ (pure (((sIx n 0 lo:Nat):Int),(1:Int),Builtin.Slice.slicePlaces ((sIx n 0 lo:Nat):Int) ((sIx n n hi:Nat):Int) 1)) _ _ s
 rw[yn]
 exact wpAny_pure h
theorem C_(xs:Array Value)(i k:Nat):((List.range k).filterMap λ(m:Nat)=>xs[((i:Int)+(m:Int)*1).toNat]?).toArray=((xs.toList.drop i).take k).toArray:=by
 have e:(λ(m:Nat)=>xs[((i:Int)+(m:Int)*1).toNat]?)=λm=>xs[i+m]?:=by
  funext m
  have:((i:Int)+(m:Int)*1).toNat=i+m:=by lia
  rw[this]
 rw[e]
 have:=pick_run xs i k
 rw[List.filterMap_map] at this
 have e2:((λx=>xs[x]?) ∘ λx=>i+x)=λm=>xs[i+m]?:=rfl
 rw[e2] at this
 rw[this]
theorem ng{t sl:Addr}{items:Array Value}{vl vu:Value}{lo hi:Option Int}{Q:Value→Shared→Prop}(ht:IsTup s.heap t items)(hs:s.heap.IsSliceOf sl vl vu .none)(pl:IsPart vl lo)(pu:IsPart vu hi)
  (hw:¬ (sIx items.size 0 lo=0∧sIx items.size items.size hi=items.size))
  (h:Q (.ref s.heap.objs.size) { s with heap:=s.heap.push { cls:=.type "tuple",data:=.seq ((items.toList.drop (sIx items.size 0 lo)).take (sIx items.size items.size hi-sIx items.size 0 lo)).toArray } })
  (hsz:items.size≤sizeLine):wpAny (model prog w) A (getItem (.ref t) (.ref sl)) Q E s:=by
 have zZ:sizeOk (.seq ((items.toList.drop (sIx items.size 0 lo)).take (sIx items.size items.size hi-sIx items.size 0 lo)).toArray):=by
  show ((items.toList.drop (sIx items.size 0 lo)).take (sIx items.size items.size hi-sIx items.size 0 lo)).toArray.size≤sizeLine
  rw[List.size_toArray,List.length_take,List.length_drop,Array.length_toList]
  lia
 have hj:sIx items.size items.size hi≤items.size:=JH _ _ (Nat.le_refl _) hi
 obtain⟨os,hos,hcs,hds⟩:=id hs
 have hTs:s.TypeIs (.ref sl) "slice":=⟨os,hos,hcs⟩
 unfold getItem
 try with_reducible refine wpAny_holding ?_
 first|refine wpAny_bind (wpAny_pure ?_)|skip
 refine wpAny_bind (wpAny_sequenceKey ht.typeIs (by decide) ?_)
 refine wpAny_bind (wpAny_callSpecial?_slot (name:=Str.ofString "__getitem__") ht.typeIs PyProof.Rows.slot_tuple_getitem
  (wpAny_call_entry PyProof.Rows.slot_tuple_getitem ht.typeIs entry_tuple_getitem ?_ (args_tuple_getitem _ _)))
 show wpAny _ _ (Builtin.Tuple.tupleItemsOf (.ref t)>>=_) _ _ s
 refine wpAny_bind (tupleItemsOf_ ht ?_)
 refine wpAny_bind (wpAny_typeOf hTs ?_)
 rw[if_pos (by decide)]
 refine wpAny_bind (jH hs pl pu ?_)
 have hno:¬ ((((sIx items.size 0 lo:Nat):Int)==0 && (1:Int)==1 && (sIx items.size items.size hi-sIx items.size 0 lo)==items.size)=true):=by
  intro q
  rw[Bool.and_eq_true,Bool.and_eq_true] at q
  have q1:((sIx items.size 0 lo:Nat):Int)=0:=eq_of_beq q.1.1
  have q2:sIx items.size items.size hi-sIx items.size 0 lo=items.size:=eq_of_beq q.2
  exact hw ⟨by lia,by lia⟩
 show wpAny _ _ (if (((sIx items.size 0 lo:Nat):Int)==0 && (1:Int)==1 && (sIx items.size items.size hi-sIx items.size 0 lo)==items.size)=true then _ else _) _ _ s
 rw[if_neg hno,C_]
 first
  | exact wpAny_bind (m:=Builtin.Tuple.tupleExact _) (wpAny_newObj_type (wpAny_pure ⟨_,rfl,wpAny_pure h⟩) zZ)
  | exact wpAny_bind (m:=Builtin.Tuple.tupleExact _) (wpAny_newObj_type (wpAny_bind (wpAny_pure (wpAny_pure ⟨_,rfl,wpAny_pure h⟩))) zZ)
  | exact wpAny_bind (wpAny_bind (m:=Builtin.Tuple.tupleExact _) (wpAny_newObj_type (wpAny_pure (wpAny_pure ⟨_,rfl,wpAny_pure h⟩)) zZ))
  | exact wpAny_bind (wpAny_bind (m:=Builtin.Tuple.tupleExact _) (wpAny_newObj_type (wpAny_pure ⟨_,rfl,wpAny_pure h⟩) zZ))
end
end HT
namespace L2
open PySem PySem.Spec PyProof.Rows
noncomputable abbrev TO := St → Hp → (Option Int → Hp → Prop) → Prop
def PO(X:Cx)(e:Option Expr)(t:TO):Prop :=
 ∀(pins:List (Addr×Obj)) (s:Shared) (σ:St) (H:Hp) (Q:Option Int→Hp→Prop),Inv X pins σ H s→t σ H Q →
  wpAny (model X.prog X.w) X.A (evalPart e X.env) (λu s'=>∃o H',Inv X pins σ H' s'∧IsPart u o∧Q o H') X.xe s
def FZ:TO:=λ_ H Q=>Q none H
def L5(t:TE):TO:=λσ H Q=>t σ H λx H1=>∃i,x=.int i∧Q (some i) H1
theorem intsAre_of{ns:List Int}:∀{us:List Value},Vals (ns.map V.int) us→IntsAre us ns:=by
 induction ns with
 | nil=>intro us r;rw[List.map_nil] at r;cases r;exact .nil
 | cons n ns ih =>
  intro us r
  rw[List.map_cons] at r
  cases r with
  | cons r1 r2 =>
   obtain⟨t,e⟩:=r1
   subst e
   exact .cons n t (ih r2)
section
variable{X:Cx}{e:Expr}{te:TE}{lo hi:Option Expr}{tl th:TO}{pos p2:Pos}
theorem F_:PO X none FZ:=by
 intro pins s σ H Q I h
 rw[evalPart_none]
 exact wpAny_pure ⟨none,H,I,.none,h⟩
theorem Ga(h:PE X e te):PO X (some e) (L5 te):=by
 intro pins s σ H Q I hw
 rw[evalPart_some]
 refine thn (h pins s σ H _ I hw) λu s1 av=>?_
 obtain⟨x,H1,I1,r1,q1⟩:=av
 obtain⟨i,rfl,q⟩:=q1
 obtain⟨t,rfl⟩:=r1
 exact⟨some i,H1,I1,.int i t,q⟩
def SlR(X:Cx)(r:V→Option Int→Option Int→Hp→VK→Prop):Prop :=
 ∀(pins:List (Addr×Obj)) (s:Shared) (σ:St) (H:Hp) (x:V) (v vl vu:Value) (lo hi:Option Int) (sl:Addr) (Q:VK),Inv X pins σ H s→RelV x v→s.heap.IsSliceOf sl vl vu .none→IsPart vl lo→IsPart vu hi→r x lo hi H Q →
  ∃T id,typeLookup (.type T) "__getitem__"=pure (some (.builtin id))∧s.TypeIs v T∧wpAny (model X.prog X.w) X.A (getItem v (.ref sl)) (EP X pins σ Q) X.xe s
theorem SlR.or{r r':V→Option Int→Option Int→Hp→VK→Prop}(h:SlR X r)(h':SlR X r'):SlR X (λx lo hi H Q=>r x lo hi H Q∨r' x lo hi H Q):=by
 intro pins s σ H x v vl vu lo hi sl Q I rx hs pl pu q
 rcases q with q|q
 ·exact h pins s σ H x v vl vu lo hi sl Q I rx hs pl pu q
 ·exact h' pins s σ H x v vl vu lo hi sl Q I rx hs pl pu q
def tSl(r:V→Option Int→Option Int→Hp→VK→Prop)(te:TE)(tl th:TO):TE:=λσ H Q=>te σ H λx H1=>tl σ H1 λl H2=>th σ H2 λu H3=>r x l u H3 Q
theorem wt{r:V→Option Int→Option Int→Hp→VK→Prop}(hr:SlR X r)(he:PE X e te)(hl:PO X lo tl)(hu:PO X hi th):PE X (.Subscript e (.Slice lo hi none p2) pos) (tSl r te tl th):=by
 intro pins s σ H Q I h
 refine Subscript_ (thn (he pins s σ H _ I h) λv s1 av=>?_)
 obtain⟨x,H1,I1,r1,q1⟩:=av
 refine wpAny_Slice (thn (hl pins s1 σ H1 _ I1 q1) λvl s2 ⟨l,H2,I2,pl,q2⟩=>thn (hu pins s2 σ H2 _ I2 q2) λvu s3 dH=>?_)
 obtain⟨u,H3,I3,pu,q3⟩:=dH
 rw[evalPart_none]
 refine wpAny_pure ?_
 have I4:Inv X pins σ H3 { s3 with heap:=s3.heap.push { cls:=.type "slice",data:=.fields #[vl,vu,.none] } }:=I3.kept (t':=s3.toks) λb ob q=>Heap.get?_push_of_some _ q
 obtain⟨T,id,hT,ht,hg⟩:=hr pins { s3 with heap:=s3.heap.push { cls:=.type "slice",data:=.fields #[vl,vu,.none] } } σ H3 x v vl vu l u s3.heap.objs.size Q I4 r1 (Heap.IsSliceOf.new ..) pl pu q3
 show wpAny (model X.prog X.w) X.A (subscriptTail e (.Slice lo hi none p2) v (.ref s3.heap.objs.size)) (EP X pins σ Q) X.xe { s3 with heap:=s3.heap.push { cls:=.type "slice",data:=.fields #[vl,vu,.none] } }
 exact tail_any (ops:=[.ref s3.heap.objs.size,v]) ht hT hg (by with_unfolding_all rfl)
def wu(xs:List V)(lo hi:Option Int):List V:=(xs.drop (HT.sIx xs.length 0 lo)).take (HT.sIx xs.length xs.length hi-HT.sIx xs.length 0 lo)
theorem pQ(xs:List V)(lo hi:Option Int):(wu xs lo hi).length≤xs.length:=by
 unfold wu
 rw[List.length_take,List.length_drop]
 lia
def Oj(K:PySem.W.Frag):V→Option Int→Option Int→Hp→VK→Prop:=λx lo hi H Q=>∃a xs,x=.ref a∧SqT K H a xs ∧
 ¬ (HT.sIx xs.length 0 lo=0∧HT.sIx xs.length xs.length hi=xs.length)∧∀p,H p=none→Q (.ref p) (upd H p (.tup (wu xs lo hi)))
theorem Dc:SlR X (Oj X.K):=by
 intro pins s σ H x v vl vu lo hi sl Q I rx hs pl pu h
 obtain⟨a,xs,rfl,hx,hw,q⟩:=h
 cases rx
 obtain⟨its,r,ht,hz⟩:=I.tuple hx
 have hlen:its.toArray.size=xs.length:=by rw[List.size_toArray];exact r.length.symm
 refine⟨"tuple",_,PyProof.Rows.slot_tuple_getitem.lookup,ht.typeIs,?_⟩
 refine HT.ng ht hs pl pu (by rw[hlen];exact hw) ?_ (by rw[hlen];exact hz)
 rw[hlen]
 refine⟨.ref s.heap.objs.size,_,I.laid (t':=s.toks) (o:=.tup (wu xs lo hi)) (λb ob q=>Heap.get?_push_of_some _ q) (Nat.le_refl _) ?_,rfl,q _ (I.hok.fresh (Nat.le_refl _))⟩
 exact⟨Nat.le_trans (pQ xs lo hi) hz,_,(r.drop (HT.sIx xs.length 0 lo)).take (HT.sIx xs.length xs.length hi-HT.sIx xs.length 0 lo),IsTup.new _ _⟩
def L6(K:PySem.W.Frag):R2:=λx y H Q=>∃a b xs ys,x=.ref a∧y=.ref b∧SqT K H a xs∧SqT K H b ys∧xs≠[]∧xs.length+ys.length≤sizeLine ∧
 (ys=[]→Q (.ref a) H)∧(ys≠[]→∀p,H p=none→Q (.ref p) (upd H p (.tup (xs++ys))))
theorem Vals.nh{xs:List V}{us:List Value}(r:Vals xs us):us=[]↔xs=[]:=by
 cases r with
 | nil=>simp
 | cons _ _=>simp
theorem Gb:OpR X (binaryOp .Add) (L6 X.K):=by
 intro pins s σ H x y v u Q I rx ry h
 obtain⟨a,b,xs,ys,rfl,rfl,ha,hb,hx,hz,q1,q2⟩:=h
 cases rx
 cases ry
 obtain⟨its,r1,p1,_⟩:=I.tuple ha
 obtain⟨uM,r2,p2,_⟩:=I.tuple hb
 refine HT.FY p1 p2 (λz=>hx (r1.nh.mp z)) (λz=>⟨.ref a,H,I,rfl,q1 (r2.nh.mp z)⟩) (λz=>?_) (by rw[← r1.length,← r2.length];exact hz)
 refine⟨.ref s.heap.objs.size,_,I.laid (t':=s.toks) (o:=.tup (xs++ys)) (λb ob q=>Heap.get?_push_of_some _ q) (Nat.le_refl _) ?_,rfl,q2 (λw=>z (r2.nh.mpr w)) _ (I.hok.fresh (Nat.le_refl _))⟩
 exact⟨by rw[List.length_append];exact hz,_,r1.append r2,IsTup.new _ _⟩
end
def ixN(n:Nat)(i:Int):Option Nat:=if 0≤i then (if i<n then some i.toNat else none) else if -(n:Int)≤i then some (i+n).toNat else none
def atI{α:Type}(xs:List α)(i:Int):Option α:=(ixN xs.length i).bind λj=>xs[j]?
theorem z_{n:Nat}{i:Int}{j:Nat}(h:ixN n i=some j):seqIndex? i n=some j∧j<n∧-(n:Int)≤i∧i<n:=by
 unfold ixN at h
 by_cases h0:0≤i
 ·rw[if_pos h0] at h
  by_cases h1:i<n
  ·rw[if_pos h1] at h
   have e:i.toNat=j:=Option.some.inj h
   exact⟨by rw[seqIndex_of h0 h1,e],by lia,by lia,h1⟩
  ·rw[if_neg h1] at h;cases h
 ·rw[if_neg h0] at h
  by_cases h1:-(n:Int)≤i
  ·rw[if_pos h1] at h
   have e:(i+n).toNat=j:=Option.some.inj h
   exact⟨by rw[seqIndex_neg (by lia) h1,e],by lia,h1,by lia⟩
  ·rw[if_neg h1] at h;cases h
theorem uN{α:Type}{xs:List α}{i:Int}{v:α}(h:atI xs i=some v):∃j,seqIndex? i xs.length=some j∧xs[j]?=some v∧j<xs.length∧-(xs.length:Int)≤i∧i<xs.length:=by
 unfold atI at h
 cases e:ixN xs.length i with
 | none=>rw[e] at h;cases h
 | some j =>
  rw[e] at h
  obtain⟨h1,h2,h3,h4⟩:=z_ e
  exact⟨j,h1,h,h2,h3,h4⟩
def Aa(b:Expr):Prop:=∀o i,subscripted b false o i=operate [o,i] (getItem o i)
def IxR(X:Cx)(r:R2):Prop :=
 ∀(value slice:Expr) (pins:List (Addr×Obj)) (s:Shared) (σ:St) (H:Hp) (x y:V) (v u:Value) (Q:VK),Inv X pins σ H s→RelV x v→RelV y u→r x y H Q →
  subscripted slice false v u=operate [v,u] (getItem v u)→wpAny (model X.prog X.w) X.A (subscriptTail value slice v u) (EP X pins σ Q) X.xe s
def MtR(X:Cx)(id:String)(r:V→List V→Hp→VK→Prop):Prop :=
 ∀(pins:List (Addr×Obj)) (s:Shared) (σ:St) (H:Hp) (x:V) (xs:List V) (v:Value) (us:List Value) (Q:VK),Inv X pins σ H s→RelV x v→Vals xs us→r x xs H Q →
  wpAny (model X.prog X.w) X.A (call (.builtin id) (v::us)) (EP X pins σ Q) X.xe s
section
variable{X:Cx}{a b:Expr}{ta tb:TE}{pos:Pos}
theorem IxR.or{r r':R2}(h:IxR X r)(h':IxR X r'):IxR X (λx y H Q=>r x y H Q∨r' x y H Q):=by
 intro value slice pins s σ H x y v u Q I rx ry q hs
 rcases q with q|q
 ·exact h value slice pins s σ H x y v u Q I rx ry q hs
 ·exact h' value slice pins s σ H x y v u Q I rx ry q hs
theorem L7{r:R2}(hr:IxR X r)(ha:PE X a ta)(hb:PE X b tb)(hs:Aa b):PE X (.Subscript a b pos) (tOp r ta tb):=by
 intro pins s σ H Q I h
 exact Subscript_ (Jq ha hb I h λv u s2 x y H2 I2 rx ry q=>hr a b pins s2 σ H2 x y v u Q I2 rx ry q (hs _ _))
def L8(K:PySem.W.Frag):R2:=λx y H Q=>∃p xs i v,x=.ref p∧y=.int i∧SqL K H p xs∧atI xs i=some v∧Q v H
def L9(K:PySem.W.Frag):R2:=λx y H Q=>∃p xs i v,x=.ref p∧y=.int i∧SqT K H p xs∧atI xs i=some v∧Q v H
def L_:R2:=λx y H Q=>∃z i c,x=.str z∧y=.int i∧z.length≤sizeLine∧atI z.cps.toList i=some c∧Q (.str ⟨#[c]⟩) H
theorem Gd:IxR X (L8 X.K):=by
 intro value slice pins s σ H x y v u Q I rx ry h hs
 obtain⟨p,xs,i,z,rfl,rfl,hq,he,q⟩:=h
 cases rx
 obtain⟨t,rfl⟩:=ry
 obtain⟨its,r,pl,hz⟩:=I.list hq
 obtain⟨j,h1,h2,h3,h4,h5⟩:=uN he
 obtain⟨w,ew,rw'⟩:=r.get h2
 have hl:=r.length
 have hn:=oH
 have fin:EP X pins σ Q w s:=⟨z,H,I,rw',q⟩
 by_cases h0:0≤i
 ·have hj:i.toNat=j:=by
   rw[seqIndex_of h0 h5] at h1
   exact Option.some.inj h1
  exact item_listR pl.isList h0 (by lia) (by rw[hj];simpa using ew) fin hs
 ·have hj:(i+(its.toArray.size:Int)).toNat=j:=by
   rw[seqIndex_neg (by lia) h4] at h1
   rw[List.size_toArray,← hl]
   exact Option.some.inj h1
  exact subscriptTail_builtinR (x:=w) pl.isList.typeIs slot_list_getitem.lookup
   (wpAny_getItem_list_neg (Q:=λr s'=>r=w∧EP X pins σ Q r s') pl.isList (by lia) (by rw[List.size_toArray]<;>lia) (by lia) (by rw[hj];simpa using ew) ⟨rfl,fin⟩) hs
theorem JI:IxR X (L9 X.K):=by
 intro value slice pins s σ H x y v u Q I rx ry h hs
 obtain⟨p,xs,i,z,rfl,rfl,hq,he,q⟩:=h
 cases rx
 obtain⟨t,rfl⟩:=ry
 obtain⟨its,r,pl,hz⟩:=I.tuple hq
 obtain⟨j,h1,h2,h3,h4,h5⟩:=uN he
 obtain⟨w,ew,rw'⟩:=r.get h2
 have hl:=r.length
 have hn:=oH
 have fin:EP X pins σ Q w s:=⟨z,H,I,rw',q⟩
 exact subscriptTail_builtinR (x:=w) pl.typeIs slot_tuple_getitem.lookup
  (getItem_tuple (j:=j) (Q:=λr s'=>r=w∧EP X pins σ Q r s') pl (by lia) (by lia) (by rw[List.size_toArray,← hl];exact h1) (by simpa using ew) ⟨rfl,fin⟩) hs
theorem JJ:IxR X L_:=by
 intro value slice pins s σ H x y v u Q I rx ry h hs
 obtain⟨z,i,c,rfl,rfl,hz,he,q⟩:=h
 obtain⟨t,rfl⟩:=rx
 obtain⟨t',rfl⟩:=ry
 obtain⟨j,h1,h2,h3,h4,h5⟩:=uN he
 have hl:z.cps.toList.length=z.length:=by simp[Str.length]
 rw[hl] at h1 h4 h5
 have hn:=oH
 exact tail_any (typeIs_str s z t) slot_str_getitem.lookup (getItem_str (c:=c) (by
  have e1:decide (i< -(2 ^ 63:Int))=false:=decide_eq_false (by lia)
  have e2:decide (i ≥ 2 ^ 63)=false:=decide_eq_false (by lia)
  rw[e1,e2,Bool.or_false]) (by rw[h1];simpa using h2) ⟨.str ⟨#[c]⟩,H,I.tok _,⟨_,rfl⟩,q⟩) hs
def rIx(K:PySem.W.Frag):R2:=λx y H Q=>L8 K x y H Q∨L9 K x y H Q∨L_ x y H Q
theorem JK:IxR X (rIx X.K):=Gd.or (JI.or JJ)
theorem yo(its:List Value)(n j:Nat)(u:Value):Obj.mapSeq (·.setIfInBounds j u) { cls:=.type "list",data:=.seq its.toArray n }={ cls:=.type "list",data:=.seq (its.set j u).toArray n }:=by
 simp[Obj.mapSeq]
theorem Inv.lst{pins:List (Addr×Obj)}{σ:St}{H:Hp}{s:Shared}{p:Addr}{xs:List V}(I:Inv X pins σ H s)(h:H p=some (.lst xs)) :
  ∃(its:List Value) (n:Nat),Vals xs its∧s.heap.get? p=some { cls:=.type "list",data:=.seq its.toArray n }∧xs.length≤sizeLine:=by
 obtain⟨z,its,n,r,e⟩:=I.hok p _ h
 exact⟨its,n,r,e,z⟩
theorem Inv.JL{pins:List (Addr×Obj)}{σ:St}{H:Hp}{s:Shared}{p:Addr}{xs ys:List V}{its its':List Value}{n n':Nat}{f:Obj→Obj}(I:Inv X pins σ H s)(h:H p=some (.lst xs))
  (ho:s.heap.get? p=some { cls:=.type "list",data:=.seq its.toArray n }) (hf:f { cls:=.type "list",data:=.seq its.toArray n }={ cls:=.type "list",data:=.seq its'.toArray n' }) (r:Vals ys its') (hz:ys.length≤sizeLine) (t:Nat) :
  Inv X pins σ (upd H p (.lst ys)) { s with heap:=s.heap.update p f,toks:=t }:=by
 have e:(s.heap.update p f).get? p=some { cls:=.type "list",data:=.seq its'.toArray n' }:=by
  rw[Heap.get?_update_self f ho (by rw[hf]<;>rfl),hf]
 refine I.write (x:=p) (e:=p) (by rw[h];trivial) (.inl rfl) (λb u hb q=>(Heap.get?_update_other _ _ (Ne.symm hb)).trans q) ⟨_,e⟩ ?_
 exact⟨hz,its',n',r,e⟩
def Ma:V→V→V→Hp→(Hp→Prop)→Prop:=λo i v H Q=>∃p xs k j,o=.ref p∧i=.int k∧H p=some (.lst xs)∧ixN xs.length k=some j∧Q (upd H p (.lst (xs.set j v)))
theorem set_list:LV X Ma:=by
 intro pins s σ H o i v ov iv u Q I ro ri rv h
 obtain⟨p,xs,k,j,rfl,rfl,hp,hj,q⟩:=h
 cases ro
 obtain⟨t,rfl⟩:=ri
 obtain⟨its,n,r,ho,hz⟩:=I.lst hp
 obtain⟨h1,h2,h3,h4⟩:=z_ hj
 have hl:=r.length
 have hn:=oH
 have I':Inv X pins σ (upd H p (.lst (xs.set j v))) { s with heap:=s.heap.update p (Obj.mapSeq (·.setIfInBounds j u)) } :=
  I.JL hp ho (yo its n j u) (r.set rv j) (by rw[List.length_set];exact hz) s.toks
 by_cases h0:0≤k
 ·have hk:k.toNat=j:=by
   rw[seqIndex_of h0 h4] at h1
   exact Option.some.inj h1
  exact PySem.W.ki_setAt ho h0 (by lia) (by rw[List.size_toArray,← hl];exact h4) (by rw[hk];exact⟨_,I',q⟩)
 ·have hk:(k+(its.toArray.size:Int)).toNat=j:=by
   rw[seqIndex_neg (by lia) h3] at h1
   rw[List.size_toArray,← hl]
   exact Option.some.inj h1
  exact PySem.W.ki_setBack ho (by lia) (by rw[List.size_toArray,← hl];exact h3) (by lia) (by rw[hk];exact⟨_,I',q⟩)
theorem uO(lo hi:Option Int)(n:Nat):(sliceBounds lo hi none n).1=((HT.sIx n 0 lo:Nat):Int)∧(sliceBounds lo hi none n).2.1=((HT.sIx n n hi:Nat):Int)∧(sliceBounds lo hi none n).2.2=1:=by
 refine⟨?_,?_,rfl⟩
 ·cases lo with
  | none=>simp[sliceBounds,HT.sIx]
  | some i =>
   simp only[sliceBounds,HT.sIx,Option.getD_none,show (1:Int) > 0 by decide,if_true]
   by_cases h:i<0
   ·simp only[h,if_true]<;>lia
   ·simp only[h,if_false]<;>lia
 ·cases hi with
  | none=>simp[sliceBounds,HT.sIx]
  | some i =>
   simp only[sliceBounds,HT.sIx,Option.getD_none,show (1:Int) > 0 by decide,if_true]
   by_cases h:i<0
   ·simp only[h,if_true]<;>lia
   ·simp only[h,if_false]<;>lia
theorem sX(its:List Value)(lo hi:Option Int):slicePick its.toArray lo hi none=((its.drop (HT.sIx its.length 0 lo)).take (HT.sIx its.length its.length hi-HT.sIx its.length 0 lo)).toArray:=by
 obtain⟨h1,h2,h3⟩:=uO lo hi its.toArray.size
 unfold slicePick
 rw[h1,h2,h3]
 simp only[sliceRange_one,pick_run,List.size_toArray]<;>rfl
def Ol(K:PySem.W.Frag):V→Option Int→Option Int→Hp→VK→Prop:=λx lo hi H Q=>∃a xs,x=.ref a∧SqL K H a xs∧∀p,H p=none→Q (.ref p) (upd H p (.lst (wu xs lo hi)))
theorem Ab:SlR X (Ol X.K):=by
 intro pins s σ H x v vl vu lo hi sl Q I rx hs pl pu h
 obtain⟨a,xs,rfl,hx,q⟩:=h
 cases rx
 obtain⟨its,r,ht,hz⟩:=I.list hx
 have hlen:=r.length
 refine⟨"list",_,slot_list_getitem.lookup,ht.isList.typeIs,?_⟩
 refine wpAny_getItem_list_slice ht.isList hs pl pu .none (by simp) ?_ (by rw[List.size_toArray]<;>lia)
 rw[sX,← hlen]
 refine⟨.ref s.heap.objs.size,_,I.laid (t':=s.toks) (o:=.lst (wu xs lo hi)) (λb ob q=>Heap.get?_push_of_some _ q) (Nat.le_refl _) ?_,rfl,q _ (I.hok.fresh (Nat.le_refl _))⟩
 exact⟨Nat.le_trans (pQ xs lo hi) hz,_,0,(r.drop (HT.sIx xs.length 0 lo)).take (HT.sIx xs.length xs.length hi-HT.sIx xs.length 0 lo),Heap.get?_push_size _ rfl⟩
def mx:V→Bool
 | .non=>true
 | .bl _=>true
 | .int _=>true
 | .str _=>true
 | _=>false
def eqV:V→V→Bool
 | .non,.non=>true
 | .bl a,.bl b=>a==b
 | .bl a,.int b=>(if a then 1 else 0)==b
 | .int a,.bl b=>a==(if b then 1 else 0)
 | .int a,.int b=>a==b
 | .str a,.str b=>a==b
 | _,_=>false
theorem JM{A:Around}{s:Shared}{y x:V}{u v:Value}(ry:RelV y u)(rx:RelV x v)(fy:mx y=true)(fx:mx x=true):SeqAt.EqAt A s u v (eqV y x):=by
 cases y with
 | non =>
  cases ry
  cases x with
  | non=>cases rx;exact SeqAt.EqAt.same _
  | bl b=>cases rx;exact SeqAt.EqAt.none_bool b
  | int b=>obtain⟨t,rfl⟩:=rx;exact SeqAt.EqAt.none_int b t
  | str b=>obtain⟨t,rfl⟩:=rx;exact SeqAt.EqAt.none_str b t
  | _=>exact absurd (show false=true from fx) Bool.false_ne_true
 | bl a =>
  cases ry
  cases x with
  | non=>cases rx;exact SeqAt.EqAt.bool_none a
  | bl b=>cases rx;exact SeqAt.EqAt.bool_bool a b
  | int b=>obtain⟨t,rfl⟩:=rx;exact SeqAt.EqAt.bool_int a b t
  | str b=>obtain⟨t,rfl⟩:=rx;exact SeqAt.EqAt.bool_str a b t
  | _=>exact absurd (show false=true from fx) Bool.false_ne_true
 | int a =>
  obtain⟨t',rfl⟩:=ry
  cases x with
  | non=>cases rx;exact SeqAt.EqAt.int_none a t'
  | bl b=>cases rx;exact SeqAt.EqAt.int_bool a t' b
  | int b=>obtain⟨t,rfl⟩:=rx;exact SeqAt.EqAt.int_int a t' b t
  | str b=>obtain⟨t,rfl⟩:=rx;exact SeqAt.EqAt.int_str a t' b t
  | _=>exact absurd (show false=true from fx) Bool.false_ne_true
 | str a =>
  obtain⟨t',rfl⟩:=ry
  cases x with
  | non=>cases rx;exact SeqAt.EqAt.str_none a t'
  | bl b=>cases rx;exact SeqAt.EqAt.str_bool a t' b
  | int b=>obtain⟨t,rfl⟩:=rx;exact SeqAt.EqAt.str_int a t' b t
  | str b=>obtain⟨t,rfl⟩:=rx;exact SeqAt.EqAt.str_str a t' b t
  | _=>exact absurd (show false=true from fx) Bool.false_ne_true
 | _=>exact absurd (show false=true from fy) Bool.false_ne_true
def eqU(x:V)(u:Value):Bool:=match u with
 | .none=>eqV .non x
 | .bool b=>eqV (.bl b) x
 | .int i _=>eqV (.int i) x
 | .str z _=>eqV (.str z) x
 | _=>false
theorem Dd{x y:V}{u:Value}(r:RelV y u)(f:mx y=true):eqU x u=eqV y x:=by
 cases y with
 | non=>cases r;rfl
 | bl b=>cases r;rfl
 | int i=>obtain⟨t,rfl⟩:=r;rfl
 | str z=>obtain⟨t,rfl⟩:=r;rfl
 | _=>exact absurd (show false=true from f) Bool.false_ne_true
theorem uP{x:V}:∀{xs:List V}{us:List Value},Vals xs us→xs.all mx=true→us.any (eqU x)=xs.any λy=>eqV y x
 | _,_,.nil,_=>rfl
 | y::xs,u::us,.cons r t,f=>by
  rw[List.all_cons,Bool.and_eq_true] at f
  rw[List.any_cons,List.any_cons,Dd r f.1,uP t f.2]
theorem qB{A:Around}{s:Shared}{x:V}{v:Value}(rx:RelV x v)(fx:mx x=true):∀{xs:List V}{us:List Value},Vals xs us→xs.all mx=true→∀u∈us,SeqAt.EqAt A s u v (eqU x u)
 | _,_,.nil,_=>λu hu=>by cases hu
 | y::xs,u::us,.cons r t,f=>λu' hu=>by
  rw[List.all_cons,Bool.and_eq_true] at f
  rcases List.mem_cons.mp hu with rfl|hu
  ·rw[Dd r f.1];exact JM r rx f.1 fx
  ·exact qB rx fx t f.2 u' hu
def inV(x:V)(xs:List V):Bool:=xs.any λy=>eqV y x
def rIn(K:PySem.W.Frag)(neg:Bool):R2:=λx y H Q=>∃p xs,y=.ref p∧(SqL K H p xs∨SqT K H p xs)∧mx x=true∧xs.all mx=true∧Q (.bl (if neg then !inV x xs else inV x xs)) H
theorem Bi:OpR X (compareOp .In) (rIn X.K false):=by
 intro pins s σ H x y v u Q I rx ry h
 obtain⟨p,xs,rfl,hq,fx,fs,q⟩:=h
 cases ry
 rcases hq with hq|hq
 ·obtain⟨its,r,pl,hz⟩:=I.list hq
  refine SeqAt.in_listAt (eqU x) pl.isList (λw hw=>qB rx fx r fs w (by simpa using hw)) ⟨.bl _,H,I,rfl,?_⟩
  rw[show its.toArray.any (eqU x)=its.any (eqU x) by simp,uP r fs]
  exact q
 ·obtain⟨its,r,pl,hz⟩:=I.tuple hq
  refine SeqAt.in_tupleAt (eqU x) pl (λw hw=>qB rx fx r fs w (by simpa using hw)) ⟨.bl _,H,I,rfl,?_⟩
  rw[show its.toArray.any (eqU x)=its.any (eqU x) by simp,uP r fs]
  exact q
theorem uQ:fF X (.builtin "len") (λxs H Q=>∃p ys,xs=[.ref p]∧(SqL X.K H p ys∨SqT X.K H p ys)∧Q (.int ys.length) H):=by
 intro pins s σ H xs us Q I r h
 obtain⟨p,ys,rfl,hq,q⟩:=h
 obtain⟨u,rfl,rx⟩:=vals1 r
 cases rx
 have hn:=oH
 rcases hq with hq|hq
 ·obtain⟨its,r',pl,hz⟩:=I.list hq
  have hlen:=r'.length
  exact Calls.call_len_list pl.isList (by simp only[List.size_toArray]<;>lia) ⟨.int ys.length,H,I.tok _,⟨s.toks+1,by rw[List.size_toArray,hlen]⟩,q⟩
 ·obtain⟨its,r',pl,hz⟩:=I.tuple hq
  have hlen:=r'.length
  exact len_tuple pl (by simp only[List.size_toArray]<;>lia) ⟨.int ys.length,H,I.tok _,⟨s.toks+1,by rw[List.size_toArray,hlen]⟩,q⟩
theorem uR:fF X (.builtin "len") (λxs H Q=>∃z,xs=[.str z]∧z.length≤sizeLine∧Q (.int z.length) H):=by
 intro pins s σ H xs us Q I r h
 obtain⟨z,rfl,hz,q⟩:=h
 obtain⟨u,rfl,t,rfl⟩:=vals1 r
 have hn:=oH
 exact len_str (by lia) ⟨.int z.length,H,I.tok _,⟨_,rfl⟩,q⟩
theorem fF.or{f:Value}{r r':List V→Hp→VK→Prop}(h:fF X f r)(h':fF X f r'):fF X f (λxs H Q=>r xs H Q∨r' xs H Q):=by
 intro pins s σ H xs us Q I rs q
 rcases q with q|q
 ·exact h pins s σ H xs us Q I rs q
 ·exact h' pins s σ H xs us Q I rs q
theorem sY:fF X (.type "tuple") (λxs H Q=>∃p ys,xs=[.ref p]∧((SqL X.K H p ys∧∀l,H l=none→Q (.ref l) (upd H l (.tup ys)))∨(SqT X.K H p ys∧Q (.ref p) H))):=by
 intro pins s σ H xs us Q I r h
 obtain⟨p,ys,rfl,h⟩:=h
 obtain⟨u,rfl,rx⟩:=vals1 r
 cases rx
 rcases h with ⟨hq,q⟩|⟨hq,q⟩
 ·obtain⟨its,r',pl,hz⟩:=I.list hq
  have hlen:=r'.length
  refine call_tuple_list pl.isList (λh' kp=>?_) (by simp only[List.size_toArray]<;>lia)
  have I1:Inv X pins σ H { s with heap:=h' }:=I.kept (t':=s.toks) kp
  have I2:Inv X pins σ (upd H h'.objs.size (.tup ys)) { s with heap:=h'.push { cls:=.type "tuple",data:=.seq its.toArray } } :=
   I1.laid (t':=s.toks) (λb o e=>Heap.get?_push_of_some _ e) (Nat.le_refl _) (show dB X.prog X.w _ _ _ (.tup ys) from ⟨hz,its,r',IsTup.new _ _⟩)
  exact⟨.ref h'.objs.size,_,I2,rfl,q _ (I1.hok.fresh (Nat.le_refl _))⟩
 ·obtain⟨its,r',pl,hz⟩:=I.tuple hq
  exact call_tuple_same pl ⟨.ref p,H,I,rfl,q⟩
def tyV(K:PySem.W.Frag)(T:String)(x:V)(H:Hp):Prop:=match x with
 | .str _=>T="str"
 | .int _=>T="int"
 | .ref p=>(T="list"∧∃xs,SqL K H p xs)∨(T="tuple"∧∃o,K.lookup p=some o∧o.cls=.type "tuple"∧o.dict=none) ∨
   (T="dict"∧((∃kvs,H p=some (.dK kvs))∨∃kvs,H p=some (.dT kvs)))∨(T="set"∧∃S n,H p=some (.set S n))
 | _=>False
theorem JN{pins:List (Addr×Obj)}{σ:St}{H:Hp}{s:Shared}{T:String}{x:V}{v:Value}(I:Inv X pins σ H s)(r:RelV x v)(ty:tyV X.K T x H) :
  s.TypeIs v T∧∀a,v=.ref a→∃ob,s.heap.get? a=some ob∧ob.dict=none:=by
 cases x with
 | str z =>
  obtain⟨t,rfl⟩:=r
  cases (show T="str" from ty)
  exact⟨typeIs_str s z t,λ_ e=>nomatch e⟩
 | int i =>
  obtain⟨t,rfl⟩:=r
  cases (show T="int" from ty)
  exact⟨typeIs_int s i t,λ_ e=>nomatch e⟩
 | ref p =>
  cases r
  rcases ty with ⟨rfl,xs,hq⟩|⟨rfl,o,hk,hc,hd⟩|⟨rfl,hk⟩|⟨rfl,S,n,hk⟩
  ·obtain⟨its,_,pl,_⟩:=I.list hq
   refine⟨pl.isList.typeIs,λa e=>?_⟩
   cases e
   obtain⟨o,n,e,c,hd,_⟩:=pl
   exact⟨o,e,hd⟩
  ·refine⟨⟨o,I.kIn p o hk,hc⟩,λa e=>?_⟩
   cases e
   exact⟨o,I.kIn _ o hk,hd⟩
  ·have z:∃o,s.heap.get? p=some o∧o.ExactDict:=by
    rcases hk with ⟨kvs,hk⟩|⟨kvs,hk⟩
    ·obtain⟨_,_,_,_,o,_,e,ex,_⟩:=I.hok p _ hk
     exact⟨o,e,ex⟩
    ·obtain⟨_,_,_,_,o,_,_,e,ex,_⟩:=I.hok p _ hk
     exact⟨o,e,ex⟩
   obtain⟨o,e,ex⟩:=z
   refine⟨⟨o,e,ex.1⟩,λa e2=>?_⟩
   cases e2
   exact⟨o,e,ex.2.1⟩
  ·obtain⟨o,_,_,_,e,ex,_⟩:=I.hok p _ hk
   refine⟨⟨o,e,ex.1⟩,λa e2=>?_⟩
   cases e2
   exact⟨o,e,ex.2.1⟩
 | _=>exact False.elim ty
def tBM(K:PySem.W.Frag)(T:String)(r:V→List V→Hp→VK→Prop)(to:TE)(t:TA):TE:=λσ H Q=>to σ H λx H1=>tyV K T x H1∧t σ H1 λxs H2=>r x xs H2 Q
variable{o e:Expr}{es:List Expr}{to:TE}{t:TA}{name:Str}{apos iz:Pos}{T id:String}{r:V→List V→Hp→VK→Prop}
theorem Mb(pa:PlainAttrs T)(slot:Slot T name id)(hty:typeOf (.builtin id)=pure (.type "method_descriptor"))(hm:MtR X id r)(ho:PE X o to)(ha:PA X (e::es) t)
  (ni:attributeBase o name X.env (eval o X.env)=eval o X.env:=by rfl)
  (JO:((backTo iz (starEach (e::es) X.env)).all (λx=>!x.1) && (backToKw iz (keywordEach [] X.env)).all (λx=>x.1.isSome)
   && decide ((e::es).length+([]:List Keyword).length+(if ([]:List Keyword).isEmpty then 0 else 1)<30))=true:=by rfl)
  (qC:(apos.endLine==iz.line)=true:=by rfl) (hs:starEach (e::es) X.env=(false,eval e X.env)::starEach es X.env:=by rfl) (JP:(backTo iz (starEach es X.env)).any (·.1)=false:=by rfl) :
  PE X (.Call (.Attribute o name apos) (e::es) [] iz) (tBM X.K T r to t):=by
 intro pins s σ H Q I h
 refine wpAny_Call_method_late ni JO qC rfl (thn (ho pins s σ H _ I h) λv s1 av=>?_)
 obtain⟨x,H1,I1,r1,ty,q1⟩:=av
 obtain⟨h1,h2⟩:=JN I1 r1 ty
 refine⟨T,id,pa,slot,hty,h1,h2,?_⟩
 have hA:=ha iz pins s1 σ H1 _ I1 q1
 rw[hs] at hA ⊢
 refine Calls.callWith_builtin (by show (false || (backTo iz (starEach es X.env)).any (·.1))=false;rw[JP]<;>rfl) (Calls.evalArgs_plain ?_)
 exact thn hA λus s2 ⟨vs,H2,I2,r2,q2⟩=>hm pins s2 σ H2 x vs v us Q I2 r1 r2 q2
end
def MtM(X:Cx)(id:String)(r:V→List V→Hp→VK→Prop):Prop :=
 ∀(pins:List (Addr×Obj)) (s:Shared) (σ:St) (H:Hp) (x:V) (xs:List V) (v:Value) (us:List Value) (Q:VK),Inv X pins σ H s→RelV x v→Vals xs us→r x xs H Q →
  wpAny (model X.prog X.w) X.A (call (.builtin id) (v::us)) (EP X pins σ Q) X.xe s
theorem Vals.one:∀{x:V}{us:List Value},Vals [x] us→∃u,us=[u]∧RelV x u
 | _,_,.cons r .nil=>⟨_,rfl,r⟩
theorem Vals.reverse{xs:List V}{us:List Value}(h:Vals xs us):Vals xs.reverse us.reverse:=by
 induction h with
 | nil=>exact .nil
 | cons r t ih=>rw[List.reverse_cons,List.reverse_cons];exact Vals.append ih (.cons r .nil)
theorem Vals.rep{xs:List V}{us:List Value}(h:Vals xs us):∀k:Nat,Vals (List.replicate k xs).flatten (List.replicate k us).flatten
 | 0=>.nil
 | k+1=>by
  rw[List.replicate_succ,List.replicate_succ,List.flatten_cons,List.flatten_cons]
  exact Vals.append h (Vals.rep h k)
theorem foldl_rep(its:List Value):∀(k:Nat) (acc:List Value),
  List.foldl (λx1 x2=>x1++x2) acc.toArray (List.replicate k its.toArray)=(acc++(List.replicate k its).flatten).toArray
 | 0,acc=>by simp
 | k+1,acc=>by
  have e:acc.toArray++its.toArray=(acc++its).toArray:=by simp
  have e2:(acc++its)++(List.replicate k its).flatten=acc++(List.replicate (k+1) its).flatten:=by
   rw[List.replicate_succ,List.flatten_cons,List.append_assoc]
  rw[← e2,← foldl_rep its k (acc++its),← e,List.replicate_succ,List.foldl_cons]
section
variable{X:Cx}{pins:List (Addr×Obj)}{σ:St}{H:Hp}{s:Shared}{l b:Addr}{xs ys zs:List V}
theorem Inv.Om{its its':List Value}{n:Nat}{f:Array Value→Array Value}{t':Nat}(I:Inv X pins σ H s)(hH:H l=some (.lst xs))
  (e:s.heap.get? l=some { cls:=.type "list",data:=.seq its.toArray n }) (hf:f its.toArray=its'.toArray) (hv:Vals ys its') (hz:ys.length≤sizeLine) :
  Inv X pins σ (upd H l (.lst ys)) { s with heap:=s.heap.update l (Obj.mapSeq f),toks:=t' }:=by
 have q:=PySem.IsL.update e f
 rw[hf] at q
 refine I.write (x:=l) (e:=l) (by rw[hH];exact trivial) (.inl rfl) (λb' u hb hu=>(Heap.get?_update_other s.heap (Obj.mapSeq f) (Ne.symm hb)).trans hu) ⟨_,q⟩ ?_
 exact⟨hz,its',_,hv,q⟩
theorem Inv.JQ{its:List Value}{t':Nat}(I:Inv X pins σ H s)(hv:Vals ys its)(hz:ys.length≤sizeLine) :
  Inv X pins σ (upd H s.heap.objs.size (.lst ys)) { s with heap:=s.heap.push { cls:=.type "list",data:=.seq its.toArray },toks:=t' } :=
 I.laid (λ_ _ q=>Heap.get?_push_of_some _ q) (Nat.le_refl _) ⟨hz,its,0,hv,Heap.get?_push_size _ rfl⟩
theorem Inv.fresh(I:Inv X pins σ H s):H s.heap.objs.size=none:=I.hok.fresh (Nat.le_refl _)
theorem Inv.Mc(I:Inv X pins σ H s)(hH:H l=some (.lst xs)):xs.length≤sizeLine∧∃(its:List Value) (n:Nat),Vals xs its∧xs.length=its.length∧s.heap.get? l=some { cls:=.type "list",data:=.seq its.toArray n }:=by
 obtain⟨z,its,n,r,e⟩:=I.hok l _ hH
 exact⟨z,its,n,r,r.length,e⟩
theorem De{n:Nat}(h:n≤sizeLine):Builtin.List.listTooLong n=false:=by
 unfold Builtin.List.listTooLong
 exact decide_eq_false (by lia)
end
section
variable{X:Cx}
def Ac:V→List V→Hp→VK→Prop:=λx vs H Q=>∃l xs y,x=.ref l∧vs=[y]∧H l=some (.lst xs)∧xs.length<sizeLine∧Q .non (upd H l (.lst (xs++[y])))
theorem t9:MtM X "list.append" Ac:=by
 intro pins s σ H x vs v us Q I rx rv h
 obtain⟨l,xs,y,rfl,rfl,hH,hz,q⟩:=h
 cases rx
 obtain⟨u,rfl,ru⟩:=rv.one
 obtain⟨z,its,n,r,hl,e⟩:=I.Mc hH
 refine call_meets F.slot_list_append ⟨_,e,rfl⟩ F.entry_list_append (F.args_list_append_2 _ _) (PySem.list_append l its.toArray n u (by rw[List.size_toArray];lia)) ⟨e,?_⟩
 refine⟨.non,_,I.Om (its':=its++[u]) hH e (by simp) (r.append (.cons ru .nil)) ?_,rfl,q⟩
 rw[List.length_append,List.length_singleton]
 lia
def Oo:R2:=λx y H Q=>∃l k xs,x=.ref l∧y=.int k∧H l=some (.lst xs)∧-(2 ^ 63)≤k∧k<2 ^ 63∧xs.length*k.toNat≤sizeLine ∧
 ∀p,H p=none→Q (.ref p) (upd H p (.lst (List.replicate k.toNat xs).flatten))
theorem len_rep{α:Type}(xs:List α)(k:Nat):(List.replicate k xs).flatten.length=k*xs.length:=by
 induction k with
 | zero=>simp
 | succ k ih=>rw[List.replicate_succ,List.flatten_cons,List.length_append,ih,Nat.succ_mul,Nat.add_comm]
theorem JR:OpR X (binaryOp .Mult) Oo:=by
 intro pins s σ H x y v u Q I rx ry h
 obtain⟨l,k,xs,rfl,rfl,hH,h1,h2,hz,q⟩:=h
 cases rx
 obtain⟨t,rfl⟩:=ry
 obtain⟨z,its,n,r,hl,e⟩:=I.Mc hH
 have hlen:its.toArray.size*k.toNat≤sizeLine:=by rw[List.size_toArray,← hl];exact hz
 have Oq:¬ its.toArray.size*k.toNat > (2 ^ 63-1) / 8:=by
  have:(sizeLine:Nat)≤(2 ^ 63-1) / 8:=by decide
  lia
 have Ot:¬ (!Builtin.List.listFitsIndex k)=true:=by
  rw[fitsIndex_both h1 h2]
  exact Bool.false_ne_true
 have Me:¬ Builtin.List.listTooLong (its.toArray.size*k.toNat)=true:=by
  rw[De hlen]
  exact Bool.false_ne_true
 have Ge:List.foldl (λx1 x2=>x1++x2) #[] (List.replicate (if its.toArray.isEmpty=true then 0 else k.toNat) its.toArray)=(List.replicate k.toNat its).flatten.toArray:=by
  have f0:∀m:Nat,List.foldl (λx1 x2=>x1++x2) #[] (List.replicate m its.toArray)=(List.replicate m its).flatten.toArray:=λm=>by
   have:=foldl_rep its m []
   rw[List.nil_append] at this
   exact this
  rw[f0]
  cases its with
  | nil=>simp
  | cons a r'=>rw[if_neg (by simp)]
 refine wpAny_binaryOp_repeat_ref (T:="list") (U:="int") (by decide) ⟨_,e,rfl⟩ (λs'=>typeIs_int s' k t) noFill_list_mul F.fills_int_mul F.slot_int_rmul repeat_list F.slot_int_index.lookup
  (call_meets F.slot_int_rmul (typeIs_int s k t) F.entry_int_rmul (F.args_int_rmul_2 _ _) (int___rmul___int_list k t l its.toArray n)
   ⟨e,rfl,⟨_,e,rfl⟩,call_meets F.slot_list_mul ⟨_,e,rfl⟩ F.entry_list_mul (F.args_list_mul_2 _ _) (AutoListH.list___mul___list_int_3 l its.toArray n k t Ot Oq Me) ⟨e,?_⟩⟩)
 rw[Ge]
 exact⟨.ref _,_,I.JQ (t':=s.toks) (r.rep k.toNat) (by rw[len_rep,Nat.mul_comm];exact hz),rfl,q _ I.fresh⟩
end
section
variable{prog:Program}{w:World}{A:Around}{E:Value→Shared→Prop}{s:Shared}
end
section
variable{X:Cx}
end
section
variable{κ:Type}[DecidableEq κ]
def mq(kvs:List (κ×V))(k:κ):Option V:=(kvs.find? λkv=>decide (kv.1=k)).map (·.2)
def putK(kvs:List (κ×V))(k:κ)(v:V):List (κ×V) :=
 if (kvs.any λkv=>decide (kv.1=k))=true then kvs.map (λkv=>if kv.1=k then (kv.1,v) else kv) else kvs++[(k,v)]
theorem nj{p:κ×V}{r:List (κ×V)}{k:κ}(e:p.1=k):mq (p::r) k=some p.2:=by simp[mq,List.find?_cons,e]
theorem nq{p:κ×V}{r:List (κ×V)}{k:κ}(e:¬ p.1=k):mq (p::r) k=mq r k:=by simp[mq,List.find?_cons,e]
theorem wx(k:κ):∀kvs:List (κ×V),(kvs.any λkv=>decide (kv.1=k))=(mq kvs k).isSome
 | []=>rfl
 | p::r=>by
  rw[List.any_cons]
  by_cases e:p.1=k
  ·simp only[nj e,decide_eq_true e,Bool.true_or,Option.isSome_some]
  ·rw[nq e,decide_eq_false e,Bool.false_or];exact wx k r
theorem pR(kvs:List (κ×V))(k:κ)(v:V):(putK kvs k v).length≤kvs.length+1:=by
 unfold putK
 split
 ·rw[List.length_map];lia
 ·rw[List.length_append,List.length_cons,List.length_nil];lia
theorem p0.oJ{o:Option V}{u:Option Value}(r:p0 o u):o.isSome=u.isSome:=by
 cases o with
 | none=>cases u with
  | none=>rfl
  | some _=>exact (show False from r).elim
 | some _=>cases u with
  | none=>exact (show False from r).elim
  | some _=>rfl
theorem p0.getD{o:Option V}{u:Option Value}{d:V}{d':Value}(r:p0 o u)(rd:RelV d d'):RelV (o.getD d) (u.getD d'):=by
 cases o with
 | none=>cases u with
  | none=>exact rd
  | some _=>exact (show False from r).elim
 | some _=>cases u with
  | none=>exact (show False from r).elim
  | some _=>exact r
theorem KV.val{kvs:List (κ×V)}{vs:List (κ×Value)}(r:KV kvs vs)(k:κ):p0 (mq kvs k) (valueAt vs k):=by
 unfold KV at r
 induction r with
 | nil=>exact True.intro
 | @cons p q ps qs h t ih =>
  obtain⟨h1,h2⟩:=h
  by_cases e:p.1=k
  ·have e':q.1=k:=h1.symm.trans e
   have b:valueAt (q::qs) k=some q.2:=by simp[valueAt,List.find?_cons,e']
   rw[nj e,b];exact h2
  ·have e':¬ q.1=k:=λz=>e (h1.trans z)
   have b:valueAt (q::qs) k=valueAt qs k:=by simp[valueAt,List.find?_cons,e']
   rw[nq e,b];exact ih
theorem KV.any{kvs:List (κ×V)}{vs:List (κ×Value)}(r:KV kvs vs)(k:κ):(kvs.any λkv=>decide (kv.1=k))=vs.any λkv=>decide (kv.1=k):=by
 unfold KV at r
 induction r with
 | nil=>rfl
 | cons h t ih=>rw[List.any_cons,List.any_cons,ih,h.1]
theorem KV.yp{kvs:List (κ×V)}{vs:List (κ×Value)}(r:KV kvs vs)(k:κ){y:V}{u:Value}(ry:RelV y u) :
  KV (kvs.map λkv=>if kv.1=k then (kv.1,y) else kv) (vs.map λkv=>if kv.1=k then (kv.1,u) else kv):=by
 unfold KV at r ⊢
 induction r with
 | nil=>exact .nil
 | @cons p q ps qs h t ih =>
  rw[List.map_cons,List.map_cons]
  refine .cons ?_ ih
  obtain⟨h1,h2⟩:=h
  by_cases e:p.1=k
  ·rw[if_pos e,if_pos (h1.symm.trans e)];exact⟨h1,ry⟩
  ·rw[if_neg e,if_neg (λz=>e (h1.trans z))];exact⟨h1,h2⟩
theorem KV.put{kvs:List (κ×V)}{vs:List (κ×Value)}(r:KV kvs vs)(k:κ){y:V}{u:Value}(ry:RelV y u):KV (putK kvs k y) (stored vs k u):=by
 unfold putK stored
 rw[r.any k]
 by_cases e:(vs.any λkv=>decide (kv.1=k))=true
 ·rw[if_pos e,if_pos e];exact r.yp k ry
 ·rw[if_neg e,if_neg e];exact Paired.snoc r ⟨rfl,ry⟩
theorem KV.length{kvs:List (κ×V)}{vs:List (κ×Value)}(r:KV kvs vs):kvs.length=vs.length:=Paired.length r
end
theorem Ad{P:Program}{w:World}{k:Key}{u:Value}(r:RelV (kV k) u):(dG P w).is k u=true:=by
 cases k with
 | inl i=>obtain⟨t,e⟩:=(show ∃t,u=Value.int i t from r);subst e;exact we P w i t
 | inr x=>obtain⟨t,e⟩:=(show ∃t,u=Value.str x t from r);subst e;exact wg P w x t
theorem t_{P:Program}{w:World}:∀{ks:List Key}{us:List Value},Vals (ks.map kV) us→ItemsAre (dG P w) ks us
 | [],_,r=>by rw[List.map_nil] at r;cases r;exact .nil
 | k::ks,_,r=>by
  rw[List.map_cons] at r
  cases r with
  | cons h t=>exact .cons (Ad h) (t_ t)
noncomputable abbrev KT (H : Hp) : List (List Key × V) → List (List Key × Addr × Value) → Prop := Paired fun p q => p.1 = q.1 ∧ H q.2.1 = some (.tup (p.1.map kV)) ∧ RelV p.2 q.2.2
theorem KT.val{H:Hp}{kvs:List (List Key×V)}{xs:List (List Key×Addr×Value)}(r:KT H kvs xs)(k:List Key):p0 (mq kvs k) ((atKey xs k).map (·.2)):=by
 induction r with
 | nil=>exact True.intro
 | @cons p q ps qs h t ih =>
  obtain⟨h1,_,h2⟩:=h
  by_cases e:p.1=k
  ·have e':q.1=k:=h1.symm.trans e
   have b:atKey (q::qs) k=some q.2:=by simp[atKey,List.find?_cons,e']
   rw[nj e,b];exact h2
  ·have e':¬ q.1=k:=λz=>e (h1.trans z)
   have b:atKey (q::qs) k=atKey qs k:=by simp[atKey,List.find?_cons,e']
   rw[nq e,b];exact ih
theorem KT.yp{H:Hp}{kvs:List (List Key×V)}{xs:List (List Key×Addr×Value)}(r:KT H kvs xs)(k:List Key){y:V}{u:Value}(ry:RelV y u) :
  KT H (kvs.map λkv=>if kv.1=k then (kv.1,y) else kv) (xs.map (putAt k u)):=by
 induction r with
 | nil=>exact .nil
 | @cons p q ps qs h t ih =>
  rw[List.map_cons,List.map_cons]
  refine .cons ?_ ih
  obtain⟨h1,h2,h3⟩:=h
  unfold putAt
  by_cases e:p.1=k
  ·rw[if_pos e,if_pos (h1.symm.trans e)];exact⟨h1,h2,ry⟩
  ·rw[if_neg e,if_neg (λz=>e (h1.trans z))];exact⟨h1,h2,h3⟩
theorem KT.put{H:Hp}{kvs:List (List Key×V)}{xs:List (List Key×Addr×Value)}(r:KT H kvs xs)(k:List Key){b:Addr}{y:V}{u:Value}(hb:H b=some (.tup (k.map kV)))(ry:RelV y u) :
  KT H (putK kvs k y) (storedH xs k b u):=by
 have e:(kvs.any λkv=>decide (kv.1=k))=(atKey xs k).isSome:=by
  rw[wx,(r.val k).oJ,Option.isSome_map]
 unfold putK storedH
 rw[e]
 by_cases q:(atKey xs k).isSome=true
 ·rw[if_pos q,if_pos q];exact r.yp k ry
 ·rw[if_neg q,if_neg q];exact Paired.snoc r ⟨rfl,hb,ry⟩
theorem KT.keeps{H H':Hp}{kvs:List (List Key×V)}{xs:List (List Key×Addr×Value)}(r:KT H kvs xs)(ht:∀b ys,H b=some (.tup ys)→H' b=some (.tup ys)):KT H' kvs xs :=
 Paired.FK r λ_ _ z=>⟨z.1,ht _ _ z.2.1,z.2.2⟩
section
variable{P:Program}{w:World}{H:Hp}{h:Heap}{a:Addr}
theorem Df{u:HO}(ok:HOk P w H h)(e:Rd H a u):dB P w H h a u:=e.ok ok
theorem Ae{kvs:List (Key×V)}(ok:HOk P w H h)(e:Rd H a (.dK kvs)):kvs.length≤sizeLine∧(a==sysModules)=false∧∃vs,KV kvs vs∧h.DictOf (dG P w) a vs :=
 let ⟨z,y,vs,r,d⟩:=(show dB P w H h a (.dK kvs) from Df ok e);⟨z,y,vs,r,d.dictOf⟩
theorem wy{kvs:List (Key×V)}(ok:HOk P w H h)(e:Rd H a (.dK kvs)):kvs.length≤sizeLine∧(a==sysModules)=false∧∃vs,KV kvs vs∧h.DictAt (dG P w) a vs vs.length :=
 show dB P w H h a (.dK kvs) from Df ok e
theorem uS{ks:List Key}(ok:HOk P w H h)(e:H a=some (.tup (ks.map kV))):(tupleKind (dG P w)).is h ks a:=by
 obtain⟨_,its,r,o,h1,h2,n,h3⟩:=(show dB P w H h a (.tup (ks.map kV)) from ok a _ e)
 exact⟨o,its.toArray,n,h1,h2,h3,by simpa using t_ r⟩
theorem Af{kvs:List (List Key×V)}(ok:HOk P w H h)(e:Rd H a (.dT kvs)):kvs.length≤sizeLine∧(a==sysModules)=false ∧
  ∃xs,KT H kvs xs∧h.DictOfH (tupleKind (dG P w)) a xs:=by
 obtain⟨z,y,xs,r,o,es,ep,h1,h2,h3,h4,h5⟩:=(show dB P w H h a (.dT kvs) from Df ok e)
 refine⟨z,y,xs,r,o,es,ep,h1,h2,h3,h4,λx hx=>?_,h5⟩
 have all:∀{l:List (List Key×V)}{m:List (List Key×Addr×Value)},KT H l m→∀x∈m,(tupleKind (dG P w)).is h x.1 x.2.1:=by
  intro l m q
  induction q with
  | nil=>intro x hx;exact nomatch hx
  | @cons p q ps qs hq t ih =>
   intro x hx
   rcases List.mem_cons.mp hx with e|hx
   ·subst e
    exact uS ok (by rw[← hq.1];exact hq.2.1)
   ·exact ih x hx
 exact all r x hx
theorem Mf{kvs:List (List Key×V)}(ok:HOk P w H h)(e:H a=some (.dT kvs)):kvs.length≤sizeLine∧(a==sysModules)=false ∧
  ∃xs,KT H kvs xs∧h.DictOfH (tupleKind (dG P w)) a xs:=Af ok (.inl e)
end
def qD(H:Hp)(a:Addr)(y:V)(r:Option V):Prop :=
 (∃kvs k,Rd H a (.dK kvs)∧y=kV k∧r=mq kvs k)∨∃kvs k b,Rd H a (.dT kvs)∧y=.ref b∧H b=some (.tup (k.map kV))∧r=mq kvs k
def yq(H:Hp)(a:Addr)(y v:V)(H':Hp):Prop :=
 (∃kvs k,H a=some (.dK kvs)∧y=kV k∧kvs.length<sizeLine∧H'=upd H a (.dK (putK kvs k v))) ∨
 ∃kvs k b,H a=some (.dT kvs)∧y=.ref b∧H b=some (.tup (k.map kV))∧kvs.length<sizeLine∧H'=upd H a (.dT (putK kvs k v))
theorem qD.k{H:Hp}{a:Addr}{kvs:List (Key×V)}{k:Key}(e:H a=some (.dK kvs)):qD H a (kV k) (mq kvs k):=.inl ⟨kvs,k,.inl e,rfl,rfl⟩
theorem qD.t{H:Hp}{a b:Addr}{kvs:List (List Key×V)}{k:List Key}(e:H a=some (.dT kvs))(eb:H b=some (.tup (k.map kV))):qD H a (.ref b) (mq kvs k):=.inr ⟨kvs,k,b,.inl e,rfl,eb,rfl⟩
theorem yq.k{H:Hp}{a:Addr}{kvs:List (Key×V)}{k:Key}{v:V}(e:H a=some (.dK kvs))(hl:kvs.length<sizeLine):yq H a (kV k) v (upd H a (.dK (putK kvs k v))):=.inl ⟨kvs,k,e,rfl,hl,rfl⟩
theorem yq.t{H:Hp}{a b:Addr}{kvs:List (List Key×V)}{k:List Key}{v:V}(e:H a=some (.dT kvs))(eb:H b=some (.tup (k.map kV)))(hl:kvs.length<sizeLine) :
  yq H a (.ref b) v (upd H a (.dT (putK kvs k v))):=.inr ⟨kvs,k,b,e,rfl,eb,hl,rfl⟩
section
variable{X:Cx}{pins:List (Addr×Obj)}{σ:St}{H:Hp}{s:Shared}{a:Addr}{y v:V}{u r:Value}{o:Option V}{A:Around}{E:Value→Shared→Prop}
theorem Inv.big(I:Inv X pins σ H s):sysModules<s.heap.objs.size:=by
 have h:mainGlobals<s.heap.objs.size:=(I.mod.glob.keeps I.bk).lt
 exact Nat.lt_trans (by decide) h
theorem Bj{Q:Value→Shared→Prop}(hu:A.units+1<cLine)(I:Inv X pins σ H s)(g:qD H a y (some v))(ry:RelV y u)(h:∀w' s',Inv X pins σ H s'→RelV v w'→Q w' s') :
  wpAny (model X.prog X.w) A (getItem (.ref a) u) Q E s:=by
 rcases g with ⟨kvs,k,e,ey,l⟩|⟨kvs,k,b,e,ey,eb,l⟩
 ·subst ey
  obtain⟨z,hd,vs,rel,dd⟩:=Ae I.hok e
  obtain⟨w',hw,rw'⟩:=p0.some_of (v:=v) (o:=valueAt vs k) (by rw[l];exact rel.val k)
  exact wpAny_getItem_of (Ad ry) dd.mapOf hw (h w' _ (I.tok _) rw')
 ·subst ey
  cases (show u=Value.ref b from ry)
  obtain⟨z,hd,xs,rel,dd⟩:=Af I.hok e
  obtain⟨w',hw,rw'⟩:=p0.some_of (v:=v) (o:=(atKey xs k).map (·.2)) (by rw[l];exact rel.val k)
  obtain⟨p,hp,hp2⟩:=Option.map_eq_some_iff.mp hw
  refine wpAny_getItem_heap (tupleKind_room_in1 hu) (uS I.hok eb) dd hp ?_
  rw[hp2]
  exact h w' _ (I.tok _) rw'
theorem Gg{Q:Value→Shared→Prop}(hu:A.units+1<cLine)(I:Inv X pins σ H s)(g:qD H a y o)(ry:RelV y u)(h:∀s',Inv X pins σ H s'→Q (.bool (!o.isSome)) s') :
  wpAny (model X.prog X.w) A (compareOp .NotIn u (.ref a)) Q E s:=by
 rcases g with ⟨kvs,k,e,ey,l⟩|⟨kvs,k,b,e,ey,eb,l⟩
 ·subst ey
  obtain⟨z,hd,vs,rel,dd⟩:=Ae I.hok e
  refine wpAny_notIn_of (Ad ry) hd dd.mapOf ?_
  rw[← (rel.val k).oJ,← l]
  exact h _ (I.tok _)
 ·subst ey
  cases (show u=Value.ref b from ry)
  obtain⟨z,hd,xs,rel,dd⟩:=Af I.hok e
  refine wpAny_notIn_heap (tupleKind_room_in1 hu) (uS I.hok eb) hd dd ?_
  have q:=(rel.val k).oJ
  rw[Option.isSome_map] at q
  rw[← q,← l]
  exact h _ (I.tok _)
theorem Ag{h':Heap}{t':Nat}{ob:HO}(I:Inv X pins σ H s)(mu:Mut (H a))(hs:Heap.SameBut a s.heap h')(he:∃q,h'.get? a=some q)(new:dB X.prog X.w (upd H a ob) h' a ob) :
  Inv X pins σ (upd H a ob) { s with heap:=h',toks:=t' } :=
 I.write (x:=a) (e:=a) mu (.inl rfl) (λb q hb z=>(hs.2 b hb).trans z) he new
theorem JS{P:Program}{w:World}{H':Hp}{h':Heap}{kvs:List (Key×V)}{vs:List (Key×Value)}(z:kvs.length≤sizeLine)(hd:(a==sysModules)=false)(rel:KV kvs vs)(dd:h'.DictAt (dG P w) a vs vs.length) :
  dB P w H' h' a (.dK kvs):=⟨z,hd,vs,rel,dd⟩
theorem yr {P : Program} {w : World} {κ : Type} [DecidableEq κ] {knd : KeyKind P w κ} {A : Around} {E : Value → Shared → Prop} {s : Shared} {d : Addr} {kvs : List (κ × Value)} {k : κ} {key v : Value} {Q : Unit → Shared → Prop} (Bk : knd.is k key = true) (hm : s.heap.DictAt knd d kvs kvs.length)
    (hsz : kvs.length ≤ sizeLine) (hQ : ∀ h', h'.DictAt knd d (stored kvs k v) (stored kvs k v).length → Heap.SameBut d s.heap h' → Q () { s with heap := h', toks := s.toks + 1 }) :
    wpAny (model P w) A (dictSet d key v) Q E s := by
  obtain ⟨o, es, ho, hc, hd, hk, hp, hn⟩ := hm
  have hes : es.size ≤ sizeLine := by have e1 := hp.length; have e2 : es.toList.length = es.size := by simp
                                      lia
  unfold dictSet
  try with_reducible refine wpAny_holding ?_
  refine wpAny_bind (knd.pyHash Bk ?_)
  unfold dictSetHashed
  try with_reducible refine wpAny_holding ?_
  refine wpAny_bind (wpAny_dictFind_of (s := { s with toks := s.toks + 1 }) Bk ho hd hk ?_)
  have Bl : (es.findIdx? fun e => knd.is k e.key) = kvs.findIdx? fun kv => decide (kv.1 = k) := by
    rw [← hp.findIdx k]; obtain ⟨l⟩ := es; simp
  cases hi : es.findIdx? fun e => knd.is k e.key with
  | some i =>
    have hst : stored kvs k v = kvs.map fun kv => if kv.1 = k then (kv.1, v) else kv := by rw [stored, if_pos (any_of_findIdx_some (Bl ▸ hi))]
    have hlen : kvs.length = (stored kvs k v).length := by rw [hst, List.length_map]
    refine wpAny_bind (wpAny_rule (wpAny_bind (wpAny_updateDict (s := { s with toks := s.toks + 1 }) ho hd (wpAny_point (hQ _ ⟨_, _, Heap.get?_update_self _ ho (Obj.isFreed_of_dict (Obj.data_mapDict hd _)),
      hc.mapDict _, (Obj.data_mapDict hd _).trans (congrArg (fun n => Data.dict _ n) hlen), hk.modify _ _, ?_, ?_⟩ (Heap.SameBut.update ..))))))
    · rw [stored, if_pos (any_of_findIdx_some (Bl ▸ hi))]
      have hl : (es.toList.findIdx? fun e => knd.is k e.key) = some i := by rw [← hi]; obtain ⟨l⟩ := es; simp
      have := hp.modify hn hl v
      obtain ⟨l⟩ := es
      simpa using this
    · rw [stored, if_pos (any_of_findIdx_some (Bl ▸ hi)), keys_map_store]; exact hn
  | none =>
    have Mg : k ∉ kvs.map (·.1) := not_mem_of_findIdx_none (Bl ▸ hi)
    have JT : ¬ (kvs.any fun kv => decide (kv.1 = k)) = true := by
      rw [List.any_eq_true]; rintro ⟨kv, hkv, he⟩
      exact Mg (List.mem_map.mpr ⟨kv, hkv, of_decide_eq_true he⟩)
    have hst : stored kvs k v = kvs ++ [(k, v)] := by rw [stored, if_neg JT]
    have hlen : kvs.length + 1 = (stored kvs k v).length := by rw [hst, List.length_append]; rfl
    refine wpAny_bind (wpAny_rule (wpAny_updateDictKeys (hz := hes) (s := { s with toks := s.toks + 1 }) ho hd (hQ _ ⟨_, _, Heap.get?_update_self _ ho (Obj.isFreed_of_dict (Obj.data_mapDictKeys hd _)),
      hc.mapDictKeys _, (Obj.data_mapDictKeys hd _).trans (congrArg (fun n => Data.dict _ n) hlen), hk.push Bk _, ?_, ?_⟩ (Heap.SameBut.update ..))))
    · rw [stored, if_neg JT]
      have := hp.append Bk (knd.hash k) v
      obtain ⟨l⟩ := es
      simpa using this
    · rw [stored, if_neg JT, List.map_append, List.nodup_append]
      refine ⟨hn, by simp, ?_⟩
      intro a ha b hb
      simp only [List.map_cons, List.map_nil, List.mem_singleton] at hb
      subst hb
      exact fun e => Mg (e ▸ ha)
theorem yt{P:Program}{w:World}{κ:Type}[DecidableEq κ]{knd:KeyKind P w κ}{A:Around}{E:Value→Shared→Prop}{s:Shared}{d:Addr}{kvs:List (κ×Value)}{k:κ}{key v:Value}{Q:Unit→Shared→Prop}(Bk:knd.is k key=true)(hm:s.heap.DictAt knd d kvs kvs.length)
  (hsz:kvs.length≤sizeLine) (hQ:∀h',h'.DictAt knd d (stored kvs k v) (stored kvs k v).length→Heap.SameBut d s.heap h'→Q () { s with heap:=h',toks:=s.toks+1 }) :
  wpAny (model P w) A (setItem (.ref d) key v) Q E s:=by
 have hT:=hm.dictOf.typeIs
 unfold setItem
 try with_reducible refine wpAny_holding ?_
 refine wpAny_bind (wpAny_sequenceKey hT (by decide) ?_)
 refine wpAny_bind (wpAny_callSpecial?_slot (name:=Str.ofString "__setitem__") hT slot_dict_setitem
  (wpAny_call_entry slot_dict_setitem hT entry_dict_setitem ?_ (args_dict_setitem _ _ _)))
 show wpAny _ _ (Builtin.Dict.notOrdered "__setitem__" ⟨[.ref d,key,v],[]⟩>>=_) _ _ s
 refine wpAny_bind (wpAny_notOrdered_dict hT ?_)
 show wpAny _ _ (dictSet d key v>>=_) _ _ s
 exact wpAny_bind (yr Bk hm hsz λh' hm' hs'=>wpAny_pure ⟨.none,rfl,wpAny_pure (hQ h' hm' hs')⟩)
theorem Bm{H':Hp}{Q:Unit→Shared→Prop}(hu:A.units+1<cLine)(I:Inv X pins σ H s)(g:yq H a y v H')(ry:RelV y u)(rv:RelV v r)(h:∀s',Inv X pins σ H' s'→Q () s') :
  wpAny (model X.prog X.w) A (setItem (.ref a) u r) Q E s:=by
 rcases g with ⟨kvs,k,e,ey,l,eH⟩|⟨kvs,k,b,e,ey,eb,l,eH⟩
 ·subst ey eH
  obtain⟨z,hd,vs,rel,dd⟩:=wy I.hok (.inl e)
  have hz:vs.length≤sizeLine:=by rw[← rel.length];exact z
  have hl:(putK kvs k v).length≤sizeLine:=by have:=pR kvs k v;lia
  refine yt (Ad ry) dd hz λh' dd' hs=>h _ ?_
  have he:∃q,h'.get? a=some q:=let ⟨q,_,hq,_⟩:=dd';⟨q,hq⟩
  exact Ag I (by rw[e];exact True.intro) hs he (JS hl hd (rel.put k rv) dd')
 ·subst ey eH
  cases (show u=Value.ref b from ry)
  obtain⟨z,hd,xs,rel,dd⟩:=Mf I.hok e
  have hz:xs.length≤sizeLine:=by rw[← Paired.length rel];exact z
  have hl:(putK kvs k v).length≤sizeLine:=by have:=pR kvs k v;lia
  refine wpAny_setItem_heap (hsz:=hz) (tupleKind_room_in1 hu) (uS I.hok eb) dd λh' dd' hs=>h _ ?_
  obtain⟨q,es,ep,hq,h2,h3,h4,_,h5⟩:=dd'
  refine Ag I (by rw[e];exact True.intro) hs ⟨q,hq⟩ ⟨hl,hd,_,(rel.put k eb rv).keeps λc ys ec=>?_,q,es,ep,hq,h2,h3,h4,h5⟩
  rw[aO (LL ec e (λz=>nomatch z))]
  exact ec
end
section
variable{X:Cx}{pins:List (Addr×Obj)}{σ:St}{H:Hp}{s:Shared}{a:Addr}{kvs:List (Key×V)}{k:Key}{u:Value}{A:Around}{E:Value→Shared→Prop}
theorem Mh{Q:Value→Shared→Prop}(I:Inv X pins σ H s)(e:Rd H a (.dK kvs))(h:∀t s',Inv X pins σ H s'→Q (.int kvs.length t) s'):wpAny (model X.prog X.w) A (call (.builtin "len") [.ref a]) Q E s:=by
 obtain⟨z,hd,vs,rel,dd⟩:=Ae I.hok e
 refine call_len_dict hd dd (by rw[← rel.length];rw[sizeLine_eq] at z;lia) ?_
 rw[← rel.length]
 exact h _ _ (I.tok _)
end
def JU(i:Expr):Prop:=∀ov iv,subscripted i false ov iv=operate [ov,iv] (getItem ov iv)
theorem Gh{prog:Program}{w:World}{A:Around}{E:Value→Shared→Prop}{s:Shared}{env:Env}{value slice:Expr}{pos:Pos}{T id:String}{Q:Value→Shared→Prop}
  (hl:typeLookup (.type T) "__getitem__"=pure (some (.builtin id))) (hs:JU slice)
  (h:wpAny (model prog w) A (eval value env) (λo s₁=>wpAny (model prog w) A (eval slice env) (λi s₂=>s₂.TypeIs o T∧wpAny (model prog w) A (getItem o i) Q E s₂) E s₁) E s) :
  wpAny (model prog w) A (eval (.Subscript value slice pos) env) Q E s:=by
 refine Subscript_ (wpAny_mono h (λo s₁ h₁=>wpAny_mono h₁ (λi s₂ h₂=>?_) λ_ _ x=>x) λ_ _ x=>x)
 obtain⟨hT,h₂⟩:=h₂
 unfold subscriptTail
 refine wpAny_bind ?_
 rw[getitemInPython_of_ne hT.not_modules]
 refine wpAny_bind (wpAny_specialOf hT hl ?_)
 have fin:wpAny (model prog w) A (subscripted slice false o i) (λr s₃=>wpAny (model prog w) A (letTemporaryGo value o r>>=λ_=>pure r) Q E s₃) E s₂:=by
  rw[hs o i]
  exact wpAny_operating (wpAny_mono h₂ (λr s₃ h₃=>wpAny_bind (wpAny_letTemporaryGo (wpAny_pure h₃))) λ_ _ x=>x)
 first
  | exact wpAny_pure (wpAny_bind fin)
  | exact wpAny_bind (wpAny_pure (wpAny_bind fin))
  | exact wpAny_bind fin
theorem wz{X:Cx}{pins:List (Addr×Obj)}{σ:St}{H:Hp}{s:Shared}{a:Addr}{y:V}{o:Option V}(I:Inv X pins σ H s)(g:qD H a y o):s.TypeIs (.ref a) "dict":=by
 rcases g with ⟨kvs,k,e,_,_⟩|⟨kvs,k,b,e,_,_,_⟩
 ·obtain⟨_,_,vs,_,dd⟩:=Ae I.hok e
  exact dd.typeIs
 ·obtain⟨_,_,xs,_,dd⟩:=Af I.hok e
  exact dd.typeIs
def Il(td ty:TE):TE:=λσ H Q=>td σ H λx H1=>ty σ H1 λy H2=>∃a v,x=.ref a∧qD H2 a y (some v)∧Q v H2
def Ah(ty td:TE):TE:=λσ H Q=>ty σ H λy H1=>td σ H1 λx H2=>∃a o,x=.ref a∧qD H2 a y o∧Q (.bl (!o.isSome)) H2
def Mi(td ty tv:TE):TS:=λD σ H=>tv σ H λv H1=>td σ H1 λx H2=>ty σ H2 λy H3=>∃a H4,x=.ref a∧yq H3 a y v H4∧D.nx σ H4
section
variable{X:Cx}{o i e value:Expr}{pos pos' iy:Pos}{td ty tv:TE}
theorem Gi(hu:X.A.units+1<cLine)(ho:PE X o td)(hi:PE X i ty)(hs:JU i):PE X (.Subscript o i pos) (Il td ty):=by
 intro pins s σ H Q I h
 refine Gh PySem.F.slot_dict_getitem.lookup hs (thn (ho pins s σ H _ I h) λu s1 ⟨x,H1,I1,rx,q1⟩=>thn (hi pins s1 σ H1 _ I1 q1) λiv s2 av=>?_)
 obtain⟨y,H2,I2,ry,a,v,ex,g,q2⟩:=av
 subst ex
 obtain rfl:u=Value.ref a:=rx
 exact⟨wz I2 g,Bj hu I2 g ry λw' s3 I3 rw'=>⟨v,H2,I3,rw',q2⟩⟩
theorem Bn(hu:X.A.units+1<cLine)(hi:PE X i ty)(ho:PE X o td):PC X .NotIn i o (Ah ty td):=by
 intro pins s σ H Q I h
 refine thn (hi pins s σ H _ I h) λiv s1 ⟨y,H1,I1,ry,q1⟩=>thn (ho pins s1 σ H1 _ I1 q1) λu s2 av=>?_
 obtain⟨x,H2,I2,rx,a,ov,ex,g,q2⟩:=av
 subst ex
 obtain rfl:u=Value.ref a:=rx
 exact Gg hu I2 g ry λs3 I3=>⟨.bl (!ov.isSome),H2,I3,rfl,q2⟩
theorem Gj(hu:X.A.units+1<cLine)(ho:PE X o td)(hi:PE X i ty)(hv:PE X value tv)(hs:swapsWith value (some (.Subscript o i pos')) pos.line X.env=pure false) :
  PS X (.Assign [.Subscript o i pos'] value pos) (Mi td ty tv):=by
 intro pins s σ H D I h
 refine wpAny_Assign_Subscript (thn (hv pins s σ H _ I h) λr s1 ⟨v,H1,I1,rv,q1⟩=>thn (ho pins s1 σ H1 _ I1 q1) λu s2 ⟨x,H2,I2,rx,q2⟩=>thn (hi pins s2 σ H2 _ I2 q2) λiv s3 av=>?_) hs
 obtain⟨y,H3,I3,ry,a,H4,ex,g,q3⟩:=av
 subst ex
 obtain rfl:u=Value.ref a:=rx
 exact Bm hu I3 g ry rv λs4 I4=>⟨σ,H4,I4,q3⟩
end
theorem Dg{P:Program}{w:World}{H:Hp}(h:Heap)(hb:sysModules<h.objs.size):dB P w H (h.push { cls:=.type "dict",data:=.dict #[] }) h.objs.size (.dK []) :=
 ⟨Nat.zero_le _,beq_eq_false_iff_ne.mpr (Ne.symm (Nat.ne_of_lt hb)),[],.nil,_,#[],Heap.get?_push_size _ rfl,⟨rfl,rfl,rfl⟩,rfl,λe he=>by simp at he,.nil,List.nodup_nil⟩
def JV:TE:=λ_ H Q=>∀p,H p=none→Q (.ref p) (upd H p (.dK []))
section
variable{X:Cx}{pos:Pos}
theorem Dh:PE X (.Dict [] [] pos) JV:=λpins s σ H Q I h =>
 wpAny_Dict_empty ⟨.ref s.heap.objs.size,_,I.laid (a:=s.heap.objs.size) (o:=.dK []) (t':=s.toks) (λ_ _ q=>Heap.get?_push_of_some _ q) (Nat.le_refl _) (Dg s.heap I.big),rfl,h _ (I.hok.fresh (Nat.le_refl _))⟩
end
section
variable{X:Cx}{pins:List (Addr×Obj)}{σ:St}{H:Hp}{s:Shared}{a:Addr}{y d:V}{u r:Value}{o:Option V}{A:Around}{E:Value→Shared→Prop}
end
section
variable{X:Cx}{o e f:Expr}{apos iz:Pos}{td ty tx:TE}
end
section
variable{X:Cx}{pins:List (Addr×Obj)}{σ:St}{H:Hp}{s:Shared}{a:Addr}{kvs:List (Key×V)}{A:Around}{E:Value→Shared→Prop}
end
section
variable{X:Cx}{pins:List (Addr×Obj)}{σ:St}{H:Hp}{s:Shared}{a:Addr}{y:V}{u:Value}{A:Around}{E:Value→Shared→Prop}
end
end L2
namespace Att
open PySem PySem.W PySem.Calls PyProof.Rows
theorem p4{P:Params}{h:Heap}:∀(ns:List Int) (vs:List Value),WellAll P h vs (ns.map WData.int)→IntsAre vs ns:=by
 intro ns
 induction ns with
 | nil =>
  intro vs w
  rw[List.map_nil] at w
  cases w
  exact .nil
 | cons n ns ih =>
  intro vs w
  rw[List.map_cons] at w
  cases w with
  | cons a b =>
   cases a
   exact .cons _ _ (ih _ b)
theorem Bo{l:OpenLaw}{n:Nat}(hn:l.most=some n){P:Params}{h:Heap}{args:List WData}{vals:List Value}
  (Gk:l.row.toRowW.claim.pre args=true) (hwl:WellAll P h vals args) :
  ∃a vs ns,vals=[Value.ref a]∧args=[WData.list (ns.map WData.int)]∧h.get? a=some { cls:=.type "list",data:=.seq vs.toArray }∧IntsAre vs ns∧ns.length≤n:=by
 have hsh:WShape.hasAll [] args [.list .int]=true:=(pre_splitW Gk).1
 have hc:l.pre.holds [] { args:=args }=true:=(pre_splitW Gk).2
 obtain⟨d,r,rfl,h1,h2⟩:=hasAllW_cons hsh
 obtain rfl:=hasAllW_nil h2
 obtain⟨xs,rfl,h3⟩:=hasW_list h1
 obtain⟨ns,rfl⟩:=items_int h3
 have hlen:ns.length≤n:=by
  unfold OpenLaw.pre at hc
  have h4:(WTm.not (.lt (.lit (.int (n:Int))) (.len (.arg 0)))).holds [] { args:=[.list (ns.map .int)] }=true:=by
   have h4:=(holds_andW hc).1
   rw[hn] at h4
   exact h4
  have h5:=condW_of h4 (w_not (w_lt w_lit (w_len_list (w_arg rfl))))
  rw[List.length_map] at h5
  refine Nat.le_of_not_lt λq=>?_
  have q':(n:Int)<((ns.length:Nat):Int):=by lia
  first
   | (rw[decide_eq_true q'] at h5;exact absurd h5 (by decide))
   | (simp at h5;lia)
 cases hwl with
 | cons w1 w2 =>
  cases w2
  cases w1 with
  | list ho JW=>exact⟨_,_,ns,rfl,rfl,ho,p4 ns _ JW,hlen⟩
theorem Bp(l:OpenLaw)(args:List WData):l.row.toRowW.claim.post args (.bool true) args=true :=
 postW_of (r:=l.row.toRowW) (X:=(true==true))
  (show WShape.has [] (.bool true) .bool=true by first|rfl|decide|simp[WShape.has,WShape.arms,WShape.armsAll])
  (show (WTm.eq .res (.lit (.bool true))).value [] { args:=args,res:=some (.bool true),after:=args }=some (.bool (true==true)) from w_eq_bool (w_res rfl) w_lit) rfl
theorem wA{l:OpenLaw}{n:Nat}{q:Program}{loose:List Str}{XP:(Str→Option Value)→Heap→Prop}{YP:World→Heap→Prop}{d:DefRec}
  (hn:l.most=some n) (hdf:d.params.defaults=[])
  (call:∀(w:World) (s₀ s₁:Shared) (mg mb:Str→Option Value) (fa:Addr) (o:Obj) (pm cd doc:Value) (a:Addr) (vs:List Value) (ns:List Int),
   Ground q loose [] XP w s₀ mg mb s₁.heap→YP w s₁.heap →
   s₁.heap.get? fa=some o→o.data=.func (docDef d.name d.params d.body d.scope pm cd doc)→s₁.heap.CodeRec cd d.name→mg d.name=some (.ref fa) →
   s₁.heap.get? a=some { cls:=.type "list",data:=.seq vs.toArray }→IntsAre vs ns→ns.length≤n→s₁.gens=#[] →
   codeAny (model l.prog w) callerA (.call (.ref fa) ⟨[.ref a],[]⟩) (λr s'=>r=.ok (.ret (.bool true))∧OldK s₁.heap s'.heap∧s'.os=s₁.os∧AllBare s'.gens) s₁) :
  WalkO q loose XP YP l.row.toRowW d [] (λf vs=>PySem.call f vs):=by
 intro w s₀ s₁ mg mb G Y fa o pm cd doc dV kV ho hd hcd hD hmg hg args vals as Gk So hrd hwl hlo
 obtain rfl:dV=.none:=Dflts.none hD hdf
 obtain rfl:kV=.none:=Dflts.noKw hD
 obtain⟨a,vs,ns,rfl,rfl,JX,hints,hlen⟩:=Bo hn Gk hwl
 refine enter_call (codeAny_mono (call w s₀ s₁ mg mb fa o pm cd doc a vs ns G Y ho (fd_plain hd) hcd hmg JX hints hlen hg) λr s' hq=>?_)
 obtain⟨rfl,h2,h3,h4⟩:=hq
 exact⟨.inl ⟨.bool true,.bool true,[],rfl,λ_=>rfl,.bool true,Bp l _,λ_=>⟨List.Pairwise.nil,λ_ hm=>(nomatch hm)⟩⟩,h2,h3,h4⟩
section
variable{prog:Program}{w:World}{A:Around}{E:Value→Shared→Prop}{s:Shared}{K:Frag}
end
end Att
namespace L2
open PySem PySem.Spec PyProof.Rows
theorem ub:∀{vs:List Value}{ns:List Int},IntsAre vs ns→Vals (ns.map V.int) vs
 | _,_,.nil=>.nil
 | _,_,.cons n t h=>.cons ⟨t,rfl⟩ (ub h)
def Gm(H:Hp):Prop:=∀b,H b=none∨∃o xs,H b=some (.frz o (.lst xs))
theorem Di{P:Program}{w:World}{K:PySem.W.Frag}{mg mb:Str→Option Value}{CX:CXT}{k:Nat}{fa a:Addr}{fd:FuncData}{x:Str}{sp:Sp}{s₁:Shared}{vs:List Value}{ns:List Int}
  (KX:K.In s₁.heap) (hns:s₁.heap.Ns mainGlobals mg) (hb:s₁.heap.Ns builtinsNs mb) (hbb:∀x:Str,x≠"__name__"→mb x=bootBuiltins x) (Ou:s₁.heap.NoLimit) (hg:s₁.gens=#[])
  (ha:s₁.heap.get? a=some { cls:=.type "list",data:=.seq vs.toArray }) (hi:IntsAre vs ns) (hl:ns.length≤sizeLine) (hr:eE k callerA)
  (F:∀base:Heap,K.In base→base.Ns mainGlobals mg→aU P w K mg base CX k fa fd [x] sp) (Mj:∀(s:Shared) (u:Value),BindsTo s fd ⟨[u],[]⟩ [(x,u)])
  (hsp:∀H:Hp,Gm H→SqL K H a (ns.map V.int)→sp [.ref a] H (λv _=>v=.bl true) λ_ _ _=>False)
  (hCX:∀H e s',CX [] H s₁ (λ_ _ _=>False) e s'→False) :
  codeAny (model P w) callerA (.call (.ref fa) ⟨[.ref a],[]⟩) (λr s'=>r=.ok (.ret (.bool true))∧OldK s₁.heap s'.heap∧s'.os=s₁.os∧AllBare s'.gens) s₁:=by
 have rv:=ub hi
 have Ov:=hi.length
 have core:∀H:Hp,Gm H→SqL K H a (ns.map V.int)→HOk P w H s₁.heap→(∀b,H b≠none→b=a)→(H a≠none→K.lookup a=none) →
   codeAny (model P w) callerA (.call (.ref fa) ⟨[.ref a],[]⟩) (λr s'=>r=.ok (.ret (.bool true))∧OldK s₁.heap s'.heap∧s'.os=s₁.os∧AllBare s'.gens) s₁:=by
  intro H hO hS hok hA hK
  have Ai:∀{b:Addr}{o:Obj},s₁.heap.get? b=some o→H b=none→(uH s₁.heap H).get? b=some o:=λe n=>CG e n
  have noA:∀{b:Addr}{o:Obj}{es:Array DictEntry}{ep:Nat},s₁.heap.get? b=some o→o.data=.dict es ep→H b=none:=λ{b o es ep} e d=>by
   cases q:H b with
   | none=>rfl
   | some u =>
    have e':b=a:=hA b (by rw[q];simp)
    subst e'
    rw[ha] at e;cases e
    have d':Data.seq vs.toArray _=Data.dict es ep:=d
    cases d'
  have nsK:∀{b:Addr}{m:Str→Option Value},s₁.heap.Ns b m→(uH s₁.heap H).Ns b m:=λ{b m} ⟨o,es,ep,e,d,r⟩=>⟨o,es,ep,Ai e (noA e d),d,r⟩
  have hKb:K.In (uH s₁.heap H):=λb o e=>Ai (KX b o e) (by
   cases q:H b with
   | none=>rfl
   | some u =>
    have e':b=a:=hA b (by rw[q];simp)
    subst e'
    rw[hK (by rw[q];simp)] at e;cases e)
  have hM:Mod K mg (uH s₁.heap H):=⟨hKb,nsK hns,⟨mb,nsK hb,hbb⟩,let ⟨mc,h1,h2⟩:=Ou;⟨mc,nsK h1,h2⟩⟩
  have e0:yk P w K mg (uH s₁.heap H) callerA [] s₁ H:=⟨rfl,hM,λb o e=>FO e,Nat.le_of_eq (Bb _ _),trivial,λb hb=>absurd (show b∈([]:List Addr) from hb) (by simp),hok,.of_eq hg⟩
  refine codeAny_mono ((F _ hKb (nsK hns)).run callerA [] s₁ H ⟨[.ref a],[]⟩ [.ref a] [.ref a] _ _ hr e0 (Mj s₁ (.ref a)) (.cons rfl .nil) (hsp H hO hS)) λr s' h=>?_
  cases r with
  | error e=>exact (hCX H e s' h).elim
  | ok fl =>
   cases fl with
   | next=>exact False.elim h
   | brk=>exact False.elim h
   | cont=>exact False.elim h
   | ret u =>
    obtain⟨v,H',os,bare,un,Ow,r',q⟩:=h
    have q':v=.bl true:=q
    subst q'
    obtain rfl:u=Value.bool true:=r'
    refine⟨rfl,OldK.of_keep λb o e=>?_,os,bare⟩
    cases q:H b with
    | none=>exact un.keep b o e q (by intro z;exact absurd (show b∈([]:List Addr) from z) (by simp)) (by simp)
    | some u =>
     rcases hO b with z|⟨ob,xs,z⟩
     ·rw[q] at z;cases z
     ·have z2:=un.eB b ob _ z
      obtain⟨e1,_⟩:=hok b _ z
      obtain⟨e2,_⟩:=Ow b _ z2
      rw[e] at e1;cases e1
      exact e2
 cases hk:K.lookup a with
 | some o =>
  have e:=KX a o hk
  rw[ha] at e
  cases e
  refine core (λ_=>none) (λ_=>.inl rfl) (.inr ⟨_,vs.toArray,_,hk,rfl,rfl,rfl,by rw[List.size_toArray,Ov];exact hl,by simpa using rv⟩) (λb u z=>by have z':(none:Option HO)=some u:=z;cases z') (λb z=>absurd rfl z) λz=>absurd rfl z
 | none =>
  refine core (λb=>if b=a then some (.frz { cls:=.type "list",data:=.seq vs.toArray } (.lst (ns.map V.int))) else none) (λb=>?_) (.inl (.inr ⟨{ cls:=.type "list",data:=.seq vs.toArray },if_pos rfl⟩)) (λb u z=>?_) (λb z=>?_) λ_=>hk
  ·by_cases hb:b=a
   ·exact .inr ⟨_,_,if_pos hb⟩
   ·exact .inl (if_neg hb)
  ·by_cases hb:b=a
   ·have z':=(if_pos hb).symm.trans z
    cases z'
    subst hb
    exact⟨ha,by rw[List.length_map];exact hl,vs,_,rv,ha⟩
   ·have z':=(if_neg hb).symm.trans z
    cases z'
  ·by_cases hb:b=a
   ·exact hb
   ·exact absurd (if_neg hb) z
theorem Gn{l:PySem.W.OpenLaw}{n k:Nat}{q:Program}{loose:List Str}{XP:(Str→Option Value)→Heap→Prop}{YP:World→Heap→Prop}{d:DefRec}{K:Params→PySem.W.Frag}{CX:World→CXT}{sp:World→Sp}{x:Str}
  (hn:l.most=some n) (hn2:n≤sizeLine) (hdf:d.params.defaults=[]) (hr:eE k callerA)
  (hY:∀(w:World) (h:Heap),YP w h→(K w.params).In h)
  (F:∀(w:World) (mg:Str→Option Value) (fa:Addr) (h:Heap),(K w.params).In h→h.Ns mainGlobals mg→mg d.name=some (.ref fa) →
   ∃fd:FuncData,(∀(s:Shared) (u:Value),BindsTo s fd ⟨[u],[]⟩ [(x,u)]) ∧
    ∀base:Heap,(K w.params).In base→base.Ns mainGlobals mg→aU l.prog w (K w.params) mg base (CX w) k fa fd [x] (sp w))
  (hsp:∀(w:World) (H:Hp) (a:Addr) (ns:List Int),ns.length≤n→Gm H→SqL (K w.params) H a (ns.map V.int)→sp w [.ref a] H (λv _=>v=.bl true) λ_ _ _=>False)
  (hCX:∀(w:World) (H:Hp) (s:Shared) (e:Value) (s':Shared),CX w [] H s (λ_ _ _=>False) e s'→False) :
  PySem.W.WalkO q loose XP YP l.row.toRowW d [] (λf vs=>PySem.call f vs):=by
 refine Att.wA hn hdf λw s₀ s₁ mg mb fa o pm cd doc a vs ns G Y ho hd hcd hmg JX hints hlen hg=>?_
 have KX:=hY w _ Y
 obtain⟨fd,hb,hF⟩:=F w mg fa _ KX G.T.g hmg
 exact Di KX G.T.g G.T.b G.T.builtins G.T.nolimit hg JX hints (Nat.le_trans hlen hn2) hr hF hb (λH hO hS=>hsp w H a ns hlen hO hS) λH e s'=>hCX w H s₁ e s'
end L2
namespace L2
open PySem PySem.Spec PyProof.Rows
def aW(s:Stmt):Arguments:=match s with
 | .FunctionDef _ a _ _ _ _ _ _ _ _=>a
 | _=>{ posonlyargs:=[],args:=[],vararg:=none,kwonlyargs:=[],kw_defaults:=[],kwarg:=none,defaults:=[] }
def aR(s:Stmt):List Stmt:=match s with
 | .FunctionDef _ _ b _ _ _ _ _ _ _=>b
 | _=>[]
def ar(s:Stmt):Scope:=match s with
 | .FunctionDef _ _ _ _ _ _ sc _ _ _=>sc
 | _=>{ kind:=.function,names:=[],isGenerator:=false,isCoroutine:=false }
noncomputable abbrev CX0 : CXT := fun _ _ _ _ _ _ => False
noncomputable abbrev E0 : XK := fun _ _ _ => False
theorem Mk{X:Cx}:Passes CX0 X E0:=λ_ _ _ _ _ _ _ h=>h.elim
structure Fun(K:PySem.W.Frag)(x qual:Str)(st:Stmt)(f:Addr)(fd:FuncData):Prop where
 ex:∃(oc:Value) (od:Option Addr) (kV doc pm:Value) (an:Option Addr) (cdv ct:Value) (osl:Array (Option Value)),
  fd=PySem.W.fnOf x qual (aW st) (aR st) (ar st) .none kV doc pm an cdv ct∧K.lookup f=some ⟨oc,od,.func fd,osl⟩∧PySem.W.codeIn K cdv qual=true
 kp:PySem.W.keepIn K (.ref f)=true
section
variable{P:Program}{w:World}{K:PySem.W.Frag}{mg:Str→Option Value}{base:Heap}
theorem Fun.ok{x qual:Str}{st:Stmt}{f:Addr}{fd:FuncData}{N ps:List Str}{k:Nat}{sp:Sp}(F:Fun K x qual st f fd)(S:aV N ps (ar st))(len:∀vs H Q E,sp vs H Q E→vs.length=ps.length)
  (C9:∀(cdv:Value) (A:Around) (outer:List Env) (s:Shared) (H:Hp) (vs:List V) (Q:VK) (E:XK),eE k (A.deeper (envOfC qual (ar st) s.heap.objs.size f cdv))→sp vs H Q E →
   ∃t,PSs (nc CX0 P w K mg base N qual (ar st) f cdv A outer s H E).nox (aR st) t∧t { nx:=λ_ H'=>Q .non H',rt:=Q } (start N vs) H):aU P w K mg base CX0 (k+1) f fd ps sp:=by
 obtain⟨oc,od,kV,doc,pm,an,cdv,ct,osl,rfl,lk,hcd⟩:=F.ex
 refine Ik lk hcd S len λA outer s H vs Q E hr hsp=>?_
 obtain⟨t,h,q⟩:=C9 cdv A outer s H vs Q E hr hsp
 exact⟨t,h.nox,q⟩
theorem Fun.binds{x qual:Str}{st:Stmt}{f:Addr}{fd:FuncData}{ps:List Str}(F:Fun K x qual st f fd)
  (h:∀(kV doc pm:Value) (an:Option Addr) (cdv ct:Value) (us:List Value),us.length=ps.length→bindArgs (PySem.W.fnOf x qual (aW st) (aR st) (ar st) .none kV doc pm an cdv ct) ⟨us,[]⟩=pure (ps.zip us)):Binds K fd ps []:=by
 obtain⟨oc,od,kV,doc,pm,an,cdv,ct,osl,rfl,lk,hcd⟩:=F.ex
 exact .all (h kV doc pm an cdv ct)
theorem bN{x qual:Str}{st:Stmt}{f:Addr}{oc:Value}{od an:Option Addr}{osl:Array (Option Value)}{kV doc pm cdv ct:Value}(l:K.lookup f=some ⟨oc,od,.func (PySem.W.fnOf x qual (aW st) (aR st) (ar st) .none kV doc pm an cdv ct),osl⟩)
  (c:PySem.W.codeIn K cdv qual=true) (k:PySem.W.keepIn K (.ref f)=true):Fun K x qual st f (PySem.W.fnOf x qual (aW st) (aR st) (ar st) .none kV doc pm an cdv ct):=⟨⟨oc,od,kV,doc,pm,an,cdv,ct,osl,rfl,l,c⟩,k⟩
end
theorem uc{n:Nat}(h:n≤1000):n<sizeLine:=Nat.lt_of_le_of_lt h (by decide)
section
variable{X:Cx}
end
def aZ(H H':Hp):Prop:=∀b o,H b=some o→H' b=some o
theorem aZ.refl(H:Hp):aZ H H:=λ_ _ h=>h
theorem aZ.trans{H H1 H2:Hp}(a:aZ H H1)(b:aZ H1 H2):aZ H H2:=λc o h=>b c o (a c o h)
theorem aZ.free{H H':Hp}(e:aZ H H'){l:Addr}(h:H' l=Option.none):H l=Option.none:=by
 cases q:H l with
 | none=>rfl
 | some o =>
  rw[e l o q] at h
  cases h
theorem aZ.seq{K:PySem.W.Frag}{H H':Hp}{a:Addr}{xs:List V}(e:aZ H H')(h:SqL K H a xs):SqL K H' a xs:=by
 rcases h with (h|⟨o,h⟩)|h
 ·exact .inl (.inl (e _ _ h))
 ·exact .inl (.inr ⟨o,e _ _ h⟩)
 ·exact .inr h
section
variable{X:Cx}
theorem Bq:fF X (.builtin "len") (λxs H Q=>∃a kvs,xs=[V.ref a]∧H a=some (.dK kvs)∧Q (.int kvs.length) H):=by
 intro pins s σ H xs us Q I r h
 obtain⟨a,kvs,rfl,ha,q⟩:=h
 obtain⟨u,rfl,ru⟩:=vals1 r
 cases ru
 exact Mh I (.inl ha) λt s' I'=>⟨.int kvs.length,H,I',⟨t,rfl⟩,q⟩
end
section
variable{κ:Type}[DecidableEq κ]
end
theorem dB.there{P:Program}{w:World}{H:Hp}{h:Heap}{a:Addr}{o:HO}(x:dB P w H h a o):∃ob,h.get? a=some ob:=by
 cases o with
 | lst xs=>obtain⟨_,_,_,_,e⟩:=x;exact⟨_,e⟩
 | tup xs=>obtain⟨_,_,_,p⟩:=x;obtain⟨_,e,_⟩:=p;exact⟨_,e⟩
 | dK kvs=>obtain⟨_,_,_,_,o,_,e,_⟩:=x;exact⟨_,e⟩
 | dT kvs=>obtain⟨_,_,_,_,o,_,_,e,_⟩:=x;exact⟨_,e⟩
 | set S n=>obtain⟨o,_,_,_,e,_⟩:=x;exact⟨_,e⟩
 | ins C dx fs=>obtain⟨_,_,_,e,_⟩:=x;exact⟨_,e⟩
 | own y=>obtain⟨_,e⟩:=x;exact⟨_,e⟩
 | xd fs=>obtain⟨_,⟨_,_,_,e,_⟩,_⟩:=x;exact⟨_,e⟩
 | rng lo hi=>obtain⟨_,_,_,e⟩:=x;exact⟨_,e⟩
 | frz ob u=>obtain⟨e,_⟩:=x;exact⟨_,e⟩
 | tbl ps=>exact⟨_,show h.get? a=some _ from x⟩
 | met f y=>exact⟨_,show h.get? a=some _ from x⟩
 | ext φ=>obtain⟨_,⟨_,e⟩,_⟩:=x;exact⟨_,e⟩
def CX1(P:Program)(w:World):CXT:=λouter H s E ev s'=>∃(e t C:Addr) (H':Hp) (B:Heap),ev=.ref e∧s'.os=s.os∧AllBare s'.gens∧Un (frs outer) [] H H' s.heap s'.heap∧HOk P w H' s'.heap∧E (.ref C) none H' ∧
 Heap.FlyingW B outer e (.ref C) (.ref t) s'.heap∧(∀b o,s.heap.get? b=some o→b∉frs outer→∃o',B.get? b=some o')∧∀b o,H' b=some o→∃o',B.get? b=some o'
theorem Dj{P:Program}{w:World}{K:PySem.W.Frag}{mg:Str→Option Value}{base:Heap}{N:List Str}{qual:Str}{scope:Scope}{f:Addr}{cd:Value}{A:Around}{outer:List Env}{s:Shared}{H:Hp}{E:XK}
  {pins:List (Addr×Obj)}{σ:L2.St}{H2:Hp}{s2:Shared}{h':Heap}{e C:Addr}{vs:List Value}
  (I:Inv (nc (CX1 P w) P w K mg base N qual scope f cd A outer s H E) pins σ H2 s2) (hx:Heap.MadeExcOf s2.heap h' e (.ref C) vs) (hE:E (.ref C) none H2) :
  (nc (CX1 P w) P w K mg base N qual scope f cd A outer s H E).xe (.ref e) { s2 with heap:=h' }:=by
 have hin:∀env∈(envOfC qual scope s.heap.objs.size f cd::outer),∀b,env.frame=some b→b∈frs (envOfC qual scope s.heap.objs.size f cd::outer):=λenv he b hb=>List.mem_filterMap.mpr ⟨env,he,hb⟩
 have hst:=I.stack
 have hnf:∀b,b∈frs (envOfC qual scope s.heap.objs.size f cd::outer)→H2 b=none:=I.qi
 show wpAny _ _ (leaving _ (.ref e)) _ _ _
 refine wpAny_leaves_madeW (base:=PySem.W.hideAll s2.heap (frs (envOfC qual scope s.heap.objs.size f cd::outer))) (h:=s2.heap) I.ok.frames rfl (λb o q=>PySem.W.of_hideAll _ q) (PySem.W.funFrames_hide hst hin) hx λh'' t fl tup bt up=>?_
 have keep:∀b o,s2.heap.get? b=some o→b∉frs (envOfC qual scope s.heap.objs.size f cd::outer)→h''.get? b=some o:=λb o q nf=>fl.1 b o (PySem.W.hideAll_get _ q nf)
 have slot:∀b o,s2.heap.get? b=some o→b∈frs (envOfC qual scope s.heap.objs.size f cd::outer)→∃sl,h''.get? b=some { o with slots:=sl }:=λb o q hb=>by
  obtain⟨_,o',ho',hnr⟩:=hst.mem hb
  rw[q] at ho'
  cases ho'
  exact up b o (hx.keeps b o q) hnr
 have nl:∀b o,s.heap.get? b=some o→b∉frs outer→b∉frs (envOfC qual scope s.heap.objs.size f cd::outer):=λb o q nb hb=>by
  rcases List.mem_cons.mp (show b∈s.heap.objs.size::frs outer from hb) with z|z
  ·exact absurd (Heap.lt_size q) (by rw[z];exact Nat.lt_irrefl _)
  ·exact nb z
 have U:=I.base
 refine⟨e,t,C,H2,_,rfl,I.os,I.bare,⟨λb o q n nb _=>?_,λb o q n hb _=>?_,λb o q n _=>U.free b o q n (λz=>nomatch z),λb o q _=>?_,U.mj,U.eB,U.ml⟩,λa o q=>?_,hE,fl,λb o q nb=>?_,λb o q=>?_⟩
 ·exact keep b o (U.keep b o q n nb (λz=>nomatch z)) (nl b o q nb)
 ·obtain⟨sl,e1⟩:=U.slot b o q n hb (λz=>nomatch z)
  obtain⟨sl2,e2⟩:=slot b _ e1 (List.mem_cons_of_mem _ hb)
  exact⟨sl2,e2⟩
 ·obtain⟨o',e1⟩:=U.there b o q (λz=>nomatch z)
  by_cases hb:b∈frs (envOfC qual scope s.heap.objs.size f cd::outer)
  ·obtain⟨sl,e2⟩:=slot b o' e1 hb
   exact⟨_,e2⟩
  ·exact⟨o',keep b o' e1 hb⟩
 ·refine (I.hok a o q).p3 (λc v hc r=>keep c v r λhb=>?_) (λ_ r=>r) λ_ _ r=>r
  have:=hnf c hb
  rcases hc with rfl|hc
  ·rw[this] at q;cases q
  ·rw[this] at hc;cases hc
 ·obtain⟨o',e1⟩:=U.there b o q (λz=>nomatch z)
  exact⟨o',PySem.W.hideAll_get _ e1 (nl b o q nb)⟩
 ·obtain⟨o',e1⟩:=dB.there (I.hok b o q)
  exact⟨o',PySem.W.hideAll_get _ e1 λhb=>by rw[hnf b hb] at q;cases q⟩
theorem Gp{P:Program}{w:World}{K:PySem.W.Frag}{mg:Str→Option Value}{base:Heap}{N:List Str}{qual:Str}{scope:Scope}{f:Addr}{cd:Value}{A:Around}{outer:List Env}{s:Shared}{H:Hp}{E E2:XK}
  {pins:List (Addr×Obj)}{σ:L2.St}{H2:Hp}{s2 s3:Shared}{ev:Value}
  (I:Inv (nc (CX1 P w) P w K mg base N qual scope f cd A outer s H E) pins σ H2 s2) (hx:CX1 P w (envOfC qual scope s.heap.objs.size f cd::outer) H2 s2 E2 ev s3) (hE:∀c H',E2 c none H'→E c none H') :
  (nc (CX1 P w) P w K mg base N qual scope f cd A outer s H E).xe ev s3:=by
 obtain⟨e,t,C,H',B,rfl,hos,wB,U2,hok,hE2,fl0,cov,p5⟩:=hx
 have hst:=I.stack
 have hnf:∀b,b∈frs (envOfC qual scope s.heap.objs.size f cd::outer)→H2 b=none:=I.qi
 show wpAny _ _ (leaving _ (.ref e)) _ _ _
 refine wpAny_leaves_onW I.ok.frames rfl fl0 λh'' fl up=>?_
 have U:=I.base
 have nl:∀b o,s.heap.get? b=some o→b∉frs outer→b∉frs (envOfC qual scope s.heap.objs.size f cd::outer):=λb o q nb hb=>by
  rcases List.mem_cons.mp (show b∈s.heap.objs.size::frs outer from hb) with z|z
  ·exact absurd (Heap.lt_size q) (by rw[z];exact Nat.lt_irrefl _)
  ·exact nb z
 have same:∀b o o',s3.heap.get? b=some o→B.get? b=some o'→h''.get? b=some o:=λb o o' q1 q2=>by
  have:=fl0.1 b o' q2
  rw[q1] at this
  cases this
  exact fl.1 b o q2
 have slot:∀b o,s3.heap.get? b=some o→b∈frs (envOfC qual scope s.heap.objs.size f cd::outer)→∃sl,h''.get? b=some { o with slots:=sl }:=λb o q hb=>by
  obtain⟨_,o',ho',hnr⟩:=fl0.2.2.1.mem hb
  rw[q] at ho'
  cases ho'
  exact up b o q hnr
 refine⟨e,t,C,H',B,rfl,hos.trans I.os,wB,⟨λb o q n nb _=>?_,λb o q n hb _=>?_,λb o q n _=>?_,λb o q _=>?_,λb xs q=>U2.mj b xs (U.mj b xs q),λb o u q=>U2.eB b o u (U.eB b o u q),λb ps q=>?_⟩,λa o q=>?_,hE _ _ hE2,fl,λb o q nb=>?_,p5⟩
 ·have q1:=U.keep b o q n nb (λz=>nomatch z)
  have n1:=U.free b o q n (λz=>nomatch z)
  have nl1:=nl b o q nb
  obtain⟨o',hB⟩:=cov b o q1 nl1
  exact same b o o' (U2.keep b o q1 n1 nl1 (λz=>nomatch z)) hB
 ·obtain⟨sl,e1⟩:=U.slot b o q n hb (λz=>nomatch z)
  have n1:=U.free b o q n (λz=>nomatch z)
  obtain⟨sl2,e2⟩:=U2.slot b _ e1 n1 (List.mem_cons_of_mem _ hb) (λz=>nomatch z)
  obtain⟨sl3,e3⟩:=slot b _ e2 (List.mem_cons_of_mem _ hb)
  exact⟨sl3,e3⟩
 ·have n1:=U.free b o q n (λz=>nomatch z)
  obtain⟨o1,e1⟩:=U.there b o q (λz=>nomatch z)
  exact U2.free b o1 e1 n1 (λz=>nomatch z)
 ·obtain⟨o1,e1⟩:=U.there b o q (λz=>nomatch z)
  obtain⟨o2,e2⟩:=U2.there b o1 e1 (λz=>nomatch z)
  by_cases hb:b∈frs (envOfC qual scope s.heap.objs.size f cd::outer)
  ·obtain⟨sl,e3⟩:=slot b o2 e2 hb
   exact⟨_,e3⟩
  ·obtain⟨o',hB⟩:=cov b o1 e1 hb
   exact⟨o2,same b o2 o' e2 hB⟩
 ·obtain⟨m1,e1⟩:=U.ml b ps q
  obtain⟨m2,e2⟩:=U2.ml b _ e1
  exact⟨m1++m2,by rw[e2,Array.append_assoc]⟩
 ·refine (hok a o q).p3 (λc v hc r=>?_) (λ_ r=>r) λ_ _ r=>r
  have hT:∃o1,H' c=some o1:=by
   rcases hc with rfl|hc
   ·exact⟨_,q⟩
   ·exact⟨_,hc⟩
  obtain⟨o1,h1⟩:=hT
  obtain⟨o',hB⟩:=p5 c o1 h1
  exact same c v o' r hB
 ·obtain⟨o1,e1⟩:=U.there b o q (λz=>nomatch z)
  exact cov b o1 e1 (nl b o q nb)
theorem Dk{K:PySem.W.Frag}{h:Heap}{mg:Str→Option Value}{x:Str}{C:Addr}{bmB:List Value}{newId:String}(X:K.In h)(hx:mg x=some (.ref C))(q:PySem.W.excIn K C bmB newId=true):OwnCls x C bmB newId mg h:=by
 refine⟨hx,?_⟩
 unfold PySem.W.excIn at q
 match hl:K.lookup C with
 | none=>rw[hl] at q;cases q
 | some o =>
  rw[hl] at q
  split at q
  ·rename_i dd cd sl e
   cases e
   split at q
   ·rename_i C' bm k0 k1 k2 k3 n k5 hm hs
    simp only[Bool.and_eq_true,beq_iff_eq,Bool.not_eq_true'] at q
    obtain⟨⟨⟨⟨⟨e1,e2⟩,e3⟩,e4⟩,e5⟩,e6⟩:=q
    subst e1 e2
    cases cd
    simp only at hm e3 e5 e6
    subst hm e3
    cases sl
    simp only at hs
    subst hs
    exact⟨_,_,_,_,_,_,_,_,_,_,_,_,_,_,_,_,_,X _ _ hl,.of_isNs (PySem.W.isNs_of_in X e5),PySem.W.nsMap_none_of_in X e5 e6,PySem.W.tail_of_in X e4⟩
   ·cases q
  ·cases q
def JY(X:Cx)(C:Addr):TS:=λ_ σ H=>∀(pins:List (Addr×Obj)) (s:Shared) (h':Heap) (e:Addr) (vs:List Value),Inv X pins σ H s→Heap.MadeExcOf s.heap h' e (.ref C) vs→X.xe (.ref e) { s with heap:=h' }
theorem Dl{X:Cx}{x:Str}{C:Addr}{bmB:List Value}{B newId yu:String}{np iz pos p2:Pos}{m:Str}{j:Nat}(F:ExcBaseFacts B newId yu bmB)(hc:X.calm=true)(hg:Gl X x)(hm:X.mg x=some (.ref C))(q:PySem.W.excIn X.K C bmB newId=true)
  (hpl:(backTo iz (starEach [.Constant (.str m) j p2] X.env)).any (·.1)=false:=by rfl) (hs:starEach [.Constant (.str m) j p2] X.env=(false,eval (.Constant (.str m) j p2) X.env)::starEach [] X.env:=by rfl) (hd:(x==("__debug__":Str))=false:=by decide) :
  PS X (.Raise (some (.Call (.Name x np) [.Constant (.str m) j p2] [] iz)) none pos) (JY X C):=by
 intro pins s σ H D I h
 have e0:=I.FW
 have KX:X.K.In s.heap:=e0.mod.kin.keeps λb o e=>(e0.bs b o e).1
 obtain⟨bm,N,nm,qn,bs,hdct,sn,sub,ab,col,dd,k0,k1,k2,k3,k5,mN,hC,hN,hni,T⟩:=(Dk KX hm q).obj
 refine wpAny_Raise_call_subT (C:=C) (nm:=nm) (q:=qn) (N:=N) (bs:=bs) (bm:=bm) (hdct:=hdct) (sn:=sn) (sub:=sub) (ab:=ab) (col:=col) (dd:=dd) (k0:=k0) (k1:=k1) (k2:=k2) (k3:=k3) (k5:=k5) F (T.hasType F.hasBase) (I.ok.hd hc) hpl hni (m8 I hg hm ⟨rfl,?_⟩ hd)
 refine Calls.evalArgs_plain (Calls.spliced_cons (Calls.Constant_str (k:=j) (pos:=p2) (Calls.spliced_nil ?_)))
 exact⟨rfl,by show 1≤sizeLine;decide,hC,hN,T,λh' e hx=>h pins _ h' e _ (I.tok _) hx⟩
theorem Un.held{P:Program}{w:World}{l:List Env}{H H':Hp}{h0 h3 h5 B:Heap}{e:Addr}{cls a0:Value}(U:Un (frs l) [] H H' h0 h3)(hok:HOk P w H' h3)(fl:Heap.FlyingW B l e cls a0 h3)(st:B.StaysIn h5)(up:h3.UpToSlots h5)
  (cov:∀b o,h0.get? b=some o→b∉frs l→∃o',B.get? b=some o') (p5:∀b o,H' b=some o→∃o',B.get? b=some o'):Un (frs l) [] H H' h0 h5∧HOk P w H' h5:=by
 have same:∀b o o',h3.get? b=some o→B.get? b=some o'→h5.get? b=some o:=λb o o' q1 q2=>by
  have:=fl.1 b o' q2
  rw[q1] at this
  cases this
  exact st b o q2
 have slot:∀b o,h3.get? b=some o→b∈frs l→∃sl,h5.get? b=some { o with slots:=sl }:=λb o q hb=>by
  obtain⟨_,o',ho',hnr⟩:=fl.2.2.1.mem hb
  rw[q] at ho'
  cases ho'
  exact up b o q hnr
 refine⟨⟨λb o q n nb hx=>?_,λb o q n hb hx=>?_,U.free,λb o q hx=>?_,U.mj,U.eB,U.ml⟩,λa o q=>?_⟩
 ·obtain⟨o',hB⟩:=cov b o q nb
  exact same b o o' (U.keep b o q n nb hx) hB
 ·obtain⟨sl,e1⟩:=U.slot b o q n hb hx
  obtain⟨sl2,e2⟩:=slot b _ e1 hb
  exact⟨sl2,e2⟩
 ·obtain⟨o2,e2⟩:=U.there b o q hx
  by_cases hb:b∈frs l
  ·obtain⟨sl,e3⟩:=slot b o2 e2 hb
   exact⟨_,e3⟩
  ·obtain⟨o',hB⟩:=cov b o q hb
   exact⟨o2,same b o2 o' e2 hB⟩
 ·refine (hok a o q).p3 (λc v hc r=>?_) (λ_ r=>r) λ_ _ r=>r
  have hT:∃o1,H' c=some o1:=by
   rcases hc with rfl|hc
   ·exact⟨_,q⟩
   ·exact⟨_,hc⟩
  obtain⟨o1,h1⟩:=hT
  obtain⟨o',hB⟩:=p5 c o1 h1
  exact same c v o' r hB
section
variable{M:Model}{A:Around}{E:Value→Shared→Prop}{h:Heap}{g:Array GenState}{d:Drawn}{t:Nat}{os:OsState}{e C:Addr}{oe:Obj}
 {nm q:Str}{N:Addr}{bs bm:List Value}{hdct:Bool}{sn:List Str}{sub:List Value}{ab:Bool}{col:Option Bool}{dd:Option Addr}{k0 k1 k2 k3 k5:Option Value}{newId:String}
 {nm' q':Str}{N' D:Addr}{bs' bm':List Value}{Im:Bool}{sn':List Str}{Ml:List Value}{ab':Bool}{Mm:Option Bool}{dd':Option Addr}{k0' k1' k2' k3' k5':Option Value}{Dm:String}
theorem qE{Q:Bool→Shared→Prop}(hC:h.get? C=some (excClassObj nm q C N bs bm hdct sn sub ab col dd k0 k1 k2 k3 k5 newId))(he:h.get? e=some oe)(uK:oe.cls=.ref C)
  (hD:h.get? D=some (excClassObj nm' q' D N' bs' bm' Im sn' Ml ab' Mm dd' k0' k1' k2' k3' k5' Dm)) (ni:bm'.contains (.type "BaseException")=true)
  (hq:Q ((Value.ref C::bm).contains (.ref D)) ⟨h,g,d,t,os⟩):wpAny M A (excMatches (.ref e) (.ref D)) Q E ⟨h,g,d,t,os⟩:=by
 have hcB:(Value.ref D::bm').contains (.type "BaseException")=true:=by rw[List.contains_cons,ni,Bool.or_true]
 have f:=tc_notTuple
 unfold excMatches
 cases hb:(Value.ref C::bm).contains (.ref D)<;>rw[hb] at hq <;>
 repeat (first|(with_reducible refine wpAny_loadPart_at he ?_;rw[uK])|with_reducible refine wpAny_loadPart_at hD ?_|(with_reducible refine wpAny_isSubtype_exc hD ?_;rw[hcB])|(with_reducible refine wpAny_isSubtype_exc hC ?_;rw[hb])|wp_step)
 all_goals exact hq
end
def Dn(h:Heap)(C:Addr)(bm:List Value):Prop:=∃nm q N bs hdct sn sub ab col dd k0 k1 k2 k3 k5 newId,h.get? C=some (excClassObj nm q C N bs bm hdct sn sub ab col dd k0 k1 k2 k3 k5 newId)∧bm.contains (.type "BaseException")=true
structure Cau(X:Cx)(pins:List (Addr×Obj))(σ:L2.St)(H':Hp)(e t C:Addr)(B:Heap)(s:Shared):Prop where
 org:∃H0 s0,Inv X pins σ H0 s0∧s.os=s0.os∧Un (frs X.stack) [] H0 H' s0.heap s.heap∧∀b o,s0.heap.get? b=some o→b∉frs X.stack→∃o',B.get? b=some o'
 bare:AllBare s.gens
 hok:HOk X.prog X.w H' s.heap
 fly:Heap.FlyingW B X.stack e (.ref C) (.ref t) s.heap
 cov:∀b o,H' b=some o→∃o',B.get? b=some o'
section
variable{X:Cx}{pins:List (Addr×Obj)}{σ:L2.St}{H':Hp}{e t C:Addr}{B h':Heap}{s:Shared}
theorem Cau.inv(c:Cau X pins σ H' e t C B s):Inv X pins σ H' s:=by
 obtain⟨H0,s0,I,hos,U,_⟩:=c.org
 exact I.Ig (ch:=[]) hos U c.hok c.bare λb z=>nomatch z
theorem Cau.slots{tk:Nat}(c:Cau X pins σ H' e t C B s)(fl:Heap.FlyingW B X.stack e (.ref C) (.ref t) h')(up:s.heap.UpToSlots h'):Cau X pins σ H' e t C B { s with heap:=h',toks:=tk }:=by
 obtain⟨H0,s0,I,hos,U,cov⟩:=c.org
 obtain⟨U',hk⟩:=U.held c.hok c.fly fl.1 up cov c.cov
 exact⟨⟨H0,s0,I,hos,U',cov⟩,c.bare,hk,fl,c.cov⟩
end
theorem cau{X:Cx}{pins:List (Addr×Obj)}{σ:L2.St}{H:Hp}{s s3:Shared}{ev:Value}{E2:XK}{Q:Unit→Shared→Prop}{E:Value→Shared→Prop}(hs:X.stack=X.env::X.outer)(hf:X.env.frame=some X.env.locals)
  (I:Inv X pins σ H s) (hx:CX1 X.prog X.w X.stack H s E2 ev s3)
  (k:∀e t C H' B h5,ev=.ref e→E2 (.ref C) none H'→Cau X pins σ H' e t C B { s3 with heap:=h5 }→Q () { s3 with heap:=h5 }) :
  wpAny (model X.prog X.w) X.A (noteFrame ev X.env) (λ_ s₂=>wpAny (model X.prog X.w) X.A (setFlight ev none) Q E s₂) E s3:=by
 obtain⟨e,t,C,H',B,rfl,hos,wB,U2,hok,hE2,fl0,cov,p5⟩:=hx
 refine wpAny_looks_onW (outer:=X.outer) (by rw[I.ok.frames,hs]) hf (by rw[← hs];exact fl0) λh4 held up4=>?_
 refine wpAny_landsW held λh5 fl5 up5=>?_
 obtain⟨U,hk⟩:=U2.held hok fl0 fl5.1 (up4.trans up5) cov p5
 exact k e t C H' B h5 rfl hE2 ⟨⟨H,s,I,hos,U,cov⟩,wB,hk,by rw[hs];exact fl5,p5⟩
noncomputable abbrev Cx.mark (X : Cx) (ev : Value) : Cx := { X with A := X.A.mark (some ev), calm := false, xe := fun _ _ => False }
section
variable{X:Cx}{pins:List (Addr×Obj)}{σ:L2.St}{H:Hp}{s:Shared}{ev:Value}
theorem Inv.mark(I:Inv X pins σ H s)(ev:Value):Inv (X.mark ev) pins σ H s :=
 ⟨⟨I.ok.mod,I.ok.kind,I.ok.glob,I.ok.blt,I.ok.above,I.ok.inj,I.ok.has,I.ok.cab,(λh=>by cases h),I.ok.frames,I.ok.stk,I.ok.exf,I.ok.bs,I.ok.bsz,I.ok.uI,I.ok.ya,I.ok.mF,I.ok.frf⟩,I.os,I.bare,I.base,I.loc,I.cell,I.free,I.gN,I.pin,I.hok,I.len⟩
theorem Inv.unmark(ok:X.Ok)(I:Inv (X.mark ev) pins σ H s):Inv X pins σ H s:=⟨ok,I.os,I.bare,I.base,I.loc,I.cell,I.free,I.gN,I.pin,I.hok,I.len⟩
theorem SP.unmark{D:Ends}{f:Flow}(ok:X.Ok)(h:SP (X.mark ev) pins D f s):SP X pins D f s:=by
 cases f with
 | next=>obtain⟨σ',H',I,q⟩:=h;exact⟨σ',H',I.unmark ok,q⟩
 | brk=>obtain⟨σ',H',I,q⟩:=h;exact⟨σ',H',I.unmark ok,q⟩
 | cont=>obtain⟨σ',H',I,q⟩:=h;exact⟨σ',H',I.unmark ok,q⟩
 | ret u=>obtain⟨v,σ',H',I,r,q⟩:=h;exact⟨v,σ',H',I.unmark ok,r,q⟩
end
def Dp(X:Cx)(e:Addr)(name:Option Str)(body:List Stmt)(pos:Pos)(Q:Flow→Shared→Prop)(E:Value→Shared→Prop)(s:Shared):Prop :=
 codeAny (model X.prog X.w) (X.A.mark (some (.ref e))) (.handlers (.ref e) [.ExceptHandler none name body pos] X.env) (λr s₂=>match r with
  | .ok f=>(match name with
   | none=>Q f s₂
   | some n=>wpAny (model X.prog X.w) X.A (do bindName X.env n .none;unbindBehindTheSuite X.env n pos) (λ_ s₃=>Q f s₃) E s₂)
  | .error x=>cameBackBy (model X.prog X.w) X.A X.env E x s₂) s
section
variable{X:Cx}{pins:List (Addr×Obj)}{σ:L2.St}{H':Hp}{e t C D:Addr}{B:Heap}{s:Shared}{bm:List Value}{x:Str}{np pos:Pos}{name:Option Str}{body:List Stmt}{rest:List ExceptHandler}{Q:Flow→Shared→Prop}{E:Value→Shared→Prop}
theorem oK(c:Cau X pins σ H' e t C B s)(hC:Dn s.heap C bm)(hD:∃bm',Dn s.heap D bm')(hg:Gl X x)(hm:X.mg x=some (.ref D))
  (k:if (Value.ref C::bm).contains (.ref D)=true then Dp X e name body pos Q E s else wpAny (model X.prog X.w) X.A (handleBy (.ref e) X.env rest) Q E s) (hd:(x==("__debug__":Str))=false:=by decide) :
  wpAny (model X.prog X.w) X.A (handleBy (.ref e) X.env (.ExceptHandler (some (.Name x np)) name body pos::rest)) Q E s:=by
 obtain⟨ob,hob,uK⟩:=c.fly.there
 refine wpAny_handleBy_cons (codeAny_handlers_test (m8 (X:=X.mark (.ref e)) (c.inv.mark _) hg hm ?_ hd)) (by intro q;cases q)
 obtain⟨nm,q,N,bs,hdct,sn,sub,ab,col,dd,k0,k1,k2,k3,k5,newId,hC',_⟩:=hC
 obtain⟨bm',nm',q',N',bs',Im,sn',Ml,ab',Mm,dd',k0',k1',k2',k3',k5',Dm,hD',hb'⟩:=hD
 obtain⟨h,g,d,tk,os⟩:=s
 refine qE hC' hob uK hD' hb' ?_
 cases hb:(Value.ref C::bm).contains (.ref D) with
 | true=>rw[hb] at k;exact k
 | false=>rw[hb] at k;exact k
theorem yv{ts:TS}{D:Ends}{b₀:Stmt}{tl:List Stmt}(c:Cau X pins σ H' e t C B s)(hs:∀ev,PSs (X.mark ev) (b₀::tl) ts)(h:ts D σ H'):Dp X e none (b₀::tl) pos (SP X pins D) E s:=by
 have ok:=c.inv.ok
 refine codeAny_handlers_suite (lands_againW c.fly λh6 fl6 up6=>?_)
 have c6:=Cau.slots (tk:=s.toks) c fl6 up6
 exact wpAny_mono (hs (.ref e) pins _ σ H' D (c6.inv.mark _) h) (λf s2 q=>SP.unmark ok q) λ_ _ z=>False.elim z
end
noncomputable abbrev NmD := Str × Pos × Addr
section
variable{X:Cx}{pins:List (Addr×Obj)}{σ:L2.St}{H':Hp}{e t C:Addr}{B:Heap}{s:Shared}{bm:List Value}{pos:Pos}{name:Option Str}{body:List Stmt}{rest:List ExceptHandler}{Q:Flow→Shared→Prop}{E:Value→Shared→Prop}
def nmE(n:NmD):Expr:=.Name n.1 n.2.1
structure Mn(X:Cx)(n:NmD):Prop where
 g:Gl X n.1
 m:X.mg n.1=some (.ref n.2.2)
 d:(n.1==("__debug__":Str))=false
end
section
variable{X:Cx}{pins:List (Addr×Obj)}{σ:L2.St}{H:Hp}{s:Shared}
theorem Inv.Mo{a:Addr}{φ:Heap→Prop}(I:Inv X pins σ H s)(hn:H a=none)(ha:∃o,s.heap.get? a=some o)(h0:X.s₀.heap.get? a=none)(hL:a≠X.env.locals)(hc:∀x c,X.env.cells.lookup x=some c→c≠a)(hp:∀p∈X.pn++pins,p.1≠a)
  (hφ:φ s.heap) (st:∀h1 h2:Heap,φ h1→(∀o,h1.get? a=some o→h2.get? a=some o)→φ h2):Inv X pins σ (upd H a (.ext φ)) s:=by
 have U:=I.base
 have ne:∀b o,H b=some o→b≠a:=λb o q z=>by rw[z,hn] at q;cases q
 have wC:∀b o,H b=some o→upd H a (.ext φ) b=some o:=λb o q=>by rw[aO (ne b o q)];exact q
 refine⟨I.ok,I.os,I.bare,⟨U.keep,U.slot,λb o q n hx=>?_,U.there,λb xs q=>wC b _ (U.mj b xs q),λb o u q=>wC b _ (U.eB b o u q),λb ps q=>?_⟩,I.loc,I.cell,?_,λx c q=>?_,λp h=>?_,λb o q=>?_,I.len⟩
 ·have z:b≠a:=λz=>by rw[z,h0] at q;cases q
  rw[aO z];exact U.free b o q n hx
 ·obtain⟨m,e1⟩:=U.ml b ps q
  exact⟨m,wC b _ e1⟩
 ·rw[aO hL.symm];exact I.free
 ·rw[aO (hc x c q)];exact I.gN x c q
 ·obtain⟨e1,e2,e3⟩:=I.pin p h
  exact⟨e1,by rw[aO (hp p h)];exact e2,e3⟩
 ·by_cases z:b=a
  ·subst z
   rw[aM] at q
   cases q
   exact⟨hφ,ha,st⟩
  ·rw[aO z] at q
   exact (I.hok b o q).p3 (λc v _ r=>r) (λ_ r=>wC _ _ r) λ_ _ r=>wC _ _ r
theorem Br{M:Model}{A:Around}{E:Value→Shared→Prop}{i:Nat}{x:Str}{v:V}{Q:Unit→Shared→Prop}(I:Inv X pins σ H s)(hN:X.N.Nodup)(hi:X.N[i]?=some x)(hk:X.env.scope.names.lookup x=some .local)(hv:σ[i]?=some (some v))
  (h:∀s',Inv X pins (σ.set i none) H s'→Q () s'):wpAny M A (unbindName X.env x) Q E s:=by
 obtain⟨m,hn,hl⟩:=id I.loc
 have uK:(X.env.scope.kind==.class || (X.env.scope.kind==.module && X.env.locals != X.env.globals))=false:=by rw[I.ok.kind];rfl
 have hiσ:i<σ.length:=by rw[I.len];exact (List.getElem?_eq_some_iff.mp hi).1
 have cne:=I.cne
 obtain⟨u,_,q⟩:=hl i x v hi hv (.inl hk)
 have hm:m x=some u:=by
  rcases q with ⟨_,e⟩|⟨k,_⟩
  ·exact e
  ·have hk':X.env.kindOf x=some .local:=hk
   rw[hk'] at k
   rcases k with k|k<;>cases k
 refine wpAny_unbindName_local hk hn hm uK λh' u' hn' hs=>?_
 have tracked:HOk X.prog X.w H h':=λb ob e=>by
  refine (I.hok b ob e).p3 (λc w' hc q=>(hs.2 c ?_).trans q) (λ_ q=>q) λ_ _ q=>q
  rintro rfl
  have wk:=I.free
  rcases hc with rfl|hc
  ·rw[wk] at e;cases e
  ·rw[wk] at hc;cases hc
 have far:∀b o,X.s₀.heap.get? b=some o→b≠X.env.locals:=λb o e=>Nat.ne_of_lt (Nat.lt_of_lt_of_le (Heap.lt_size e) I.ok.above)
 refine h _ ⟨I.ok,I.os,I.bare,⟨λb o e n hb hx=>?_,λb o e n hb hx=>?_,I.base.free,λb o e hx=>?_,I.base.mj,I.base.eB,I.base.ml⟩,⟨_,hn',λj y v' e1 e2 e3=>?_⟩,λy c e=>?_,I.free,I.gN,λp hp=>?_,tracked,by simpa using I.len⟩
 ·exact (hs.2 b (far b o e)).trans (I.base.keep b o e n hb hx)
 ·obtain⟨sl,e1⟩:=I.base.slot b o e n hb hx
  exact⟨sl,(hs.2 b (far b o e)).trans e1⟩
 ·obtain⟨o',e1⟩:=I.base.there b o e hx
  exact⟨o',(hs.2 b (far b o e)).trans e1⟩
 ·by_cases hj:j=i
  ·subst hj
   rw[List.getElem?_set_self hiσ] at e2
   cases e2
  ·rw[List.getElem?_set_ne (Ne.symm hj)] at e2
   obtain⟨w',r',q'⟩:=hl j y v' e1 e2 e3
   refine⟨w',r',?_⟩
   rcases q' with ⟨k,e⟩|⟨k,c,e,z⟩
   ·have:y≠x:=λe=>hj (qx hN e1 (e ▸ hi))
    exact .inl ⟨k,by simp[this,e]⟩
   ·exact .inr ⟨k,c,e,z.sameBut hs (cne y c e)⟩
 ·obtain⟨w',z⟩:=I.cell y c e
  exact⟨w',z.sameBut hs (cne y c e)⟩
 ·obtain⟨e,n,ne,nf,d⟩:=I.pin p hp
  exact⟨(hs.2 p.1 ne).trans e,n,ne,nf,d⟩
end
def jk(e C:Addr)(h:Heap):Prop:=∃o,h.get? e=some o∧o.cls=.ref C
section
variable{X:Cx}{pins:List (Addr×Obj)}{σ:L2.St}{H':Hp}{e t C:Addr}{B:Heap}{s:Shared}{pos:Pos}{E:Value→Shared→Prop}
theorem Cau.tracked(φ:Heap→Prop)(hφ:∀h,jk e C h→φ h)(st:∀h1 h2:Heap,φ h1→(∀o,h1.get? e=some o→h2.get? e=some o)→φ h2)(hs:X.stack=X.env::X.outer)(hf:X.env.frame=some X.env.locals)(hex:X.ex=[])(c:Cau X pins σ H' e t C B s):Inv X pins σ (upd H' e (.ext φ)) s:=by
 have I:=c.inv
 obtain⟨H0,s0,I0,hos,U,cov⟩:=c.org
 have hBe:B.get? e=none:=c.fly.2.1
 obtain⟨oe,vs,T,oT,ts,he,⟨uK,_⟩,hd,_⟩:=c.fly.2.2.2
 have nf:e∉frs X.stack:=λhb=>by
  obtain⟨_,o,ho,hnr⟩:=c.fly.2.2.1.mem hb
  rw[he] at ho
  cases ho
  exact hnr vs hd
 have nB:∀b o,s0.heap.get? b=some o→b∉frs X.stack→b≠e:=λb o q nb z=>by
  obtain⟨o',h1⟩:=cov b o q nb
  rw[z,hBe] at h1
  cases h1
 have hLf:X.env.locals∈frs X.stack:=by
  rw[hs]
  exact List.mem_filterMap.mpr ⟨X.env,.head _,hf⟩
 refine I.Mo ?_ ⟨oe,he⟩ ?_ (λz=>nf (z ▸ hLf)) (λx cc q z=>?_) (λp hp z=>?_) (hφ _ ⟨oe,he,uK⟩) st
 ·cases q:H' e with
  | none=>rfl
  | some o =>
   obtain⟨o',h1⟩:=c.cov e o q
   rw[hBe] at h1
   cases h1
 ·cases q:X.s₀.heap.get? e with
  | none=>rfl
  | some o =>
   obtain⟨o',h1⟩:=I0.base.there e o q (by rw[hex];exact λz=>nomatch z)
   exact absurd rfl (nB e o' h1 nf)
 ·obtain⟨v,o,h1,h2⟩:=I.cell x cc q
  rw[z,he] at h1
  cases h1
  rw[hd] at h2
  cases h2
 ·obtain⟨h1,_,h3,h4,_⟩:=I0.pin p hp
  refine nB p.1 p.2 h1 (λhb=>?_) z
  rw[hs] at hb
  rcases List.mem_filterMap.mp hb with ⟨env,hm,hfe⟩
  rcases List.mem_cons.mp hm with rfl|hm
  ·rw[hf] at hfe
   exact h3 (Option.some.inj hfe).symm
  ·exact h4 (List.mem_filterMap.mpr ⟨env,hm,hfe⟩)
def Ends.less(i:Nat)(D:Ends):Ends:={ D with nx:=λσ H=>D.nx (σ.set i none) H,bk:=λσ H=>D.bk (σ.set i none) H,ct:=λσ H=>D.ct (σ.set i none) H }
theorem Gq{i:Nat}{n:Str}{D:Ends}{f:Flow}{s2:Shared}(hN:X.N.Nodup)(hi:X.N[i]?=some n)(hk:X.env.scope.names.lookup n=some .local)(h:SP X pins (D.less i) f s2) :
  wpAny (model X.prog X.w) X.A (do bindName X.env n .none;unbindBehindTheSuite X.env n pos) (λ_ s₃=>SP X pins D f s₃) E s2:=by
 have go:∀{σ':L2.St}{H2:Hp} (R:L2.St→Prop),Inv X pins σ' H2 s2→(∀s3,Inv X pins (σ'.set i none) H2 s3→SP X pins D f s3)→wpAny (model X.prog X.w) X.A (do bindName X.env n .none;unbindBehindTheSuite X.env n pos) (λ_ s₃=>SP X pins D f s₃) E s2:=λ{σ' H2} R I k=>by
  refine wpAny_bind (wpAny_bindName (m7 (v:=.non) I hN hi (.inl hk) rfl (λs3 I3=>?_) (.inr hk)))
  refine wpAny_onRaise (Br (v:=.non) I3 hN hi hk ?_ λs4 I4=>?_)
  ·rw[List.getElem?_set_self (by rw[I.len];exact (List.getElem?_eq_some_iff.mp hi).1)]
  ·rw[List.set_set] at I4
   exact k s4 I4
 cases f with
 | next=>obtain⟨σ',H2,I,q⟩:=h;exact go (λ_=>True) I λs3 I3=>⟨_,_,I3,q⟩
 | brk=>obtain⟨σ',H2,I,q⟩:=h;exact go (λ_=>True) I λs3 I3=>⟨_,_,I3,q⟩
 | cont=>obtain⟨σ',H2,I,q⟩:=h;exact go (λ_=>True) I λs3 I3=>⟨_,_,I3,q⟩
 | ret u=>obtain⟨v,σ',H2,I,r,q⟩:=h;exact go (λ_=>True) I λs3 I3=>⟨v,_,_,I3,r,q⟩
theorem Dq{φ:Heap→Prop}{i:Nat}{n:Str}{ts:TS}{D:Ends}{b₀:Stmt}{tl:List Stmt}(hs:X.stack=X.env::X.outer)(hf:X.env.frame=some X.env.locals)(hex:X.ex=[])(hN:X.N.Nodup)(hi:X.N[i]?=some n)(hk:X.env.scope.names.lookup n=some .local)
  (c:Cau X pins σ H' e t C B s) (hφ:∀h,jk e C h→φ h) (st:∀h1 h2:Heap,φ h1→(∀o,h1.get? e=some o→h2.get? e=some o)→φ h2) (hp:∀ev,PSs (X.mark ev) (b₀::tl) ts) (h:ts (D.less i) (σ.set i (some (.ref e))) (upd H' e (.ext φ))):Dp X e (some n) (b₀::tl) pos (SP X pins D) E s:=by
 have ok:=c.inv.ok
 refine codeAny_handlers_suite_as (lands_againW c.fly λh6 fl6 up6=>?_)
 have c6:=Cau.slots (tk:=s.toks) c fl6 up6
 have I6:=c6.tracked φ hφ st hs hf hex
 refine m7 (v:=.ref e) I6 hN hi (.inl hk) rfl (λs3 I3=>?_) (.inr hk)
 exact wpAny_mono (hp (.ref e) pins s3 _ _ (D.less i) (I3.mark _) h) (λf s2 q=>Gq hN hi hk (SP.unmark ok q)) λ_ _ z=>False.elim z
end
structure Hel(X:Cx)(pins:List (Addr×Obj))(σ:L2.St)(H':Hp)(e t C:Addr)(B:Heap)(s:Shared):Prop where
 org:∃H0 s0,Inv X pins σ H0 s0∧s.os=s0.os∧Un (frs X.stack) [] H0 H' s0.heap s.heap∧∀b o,s0.heap.get? b=some o→b∉frs X.stack→∃o',B.get? b=some o'
 bare:AllBare s.gens
 hok:HOk X.prog X.w H' s.heap
 held:Heap.HeldW B X.stack e (.ref C) (.ref t) X.env.locals s.heap
 cov:∀b o,H' b=some o→∃o',B.get? b=some o'
section
variable{X:Cx}{pins:List (Addr×Obj)}{σ:L2.St}{H H':Hp}{e t C:Addr}{B:Heap}{s s3:Shared}{ev:Value}{E:Value→Shared→Prop}
end
theorem JZ{P:Program}{w:World}{K:PySem.W.Frag}{mg:Str→Option Value}{base:Heap}{N:List Str}{qual:Str}{scope:Scope}{f:Addr}{cd:Value}{A:Around}{outer:List Env}{s:Shared}{H:Hp}{E:XK}
  {pins:List (Addr×Obj)}{σ:L2.St}{H':Hp}{s3:Shared}{e t C:Addr}{B:Heap}
  (c:Hel (nc (CX1 P w) P w K mg base N qual scope f cd A outer s H E) pins σ H' e t C B s3) (hE:E (.ref C) none H') :
  (nc (CX1 P w) P w K mg base N qual scope f cd A outer s H E).xe (.ref e) s3:=by
 obtain⟨H2,s2,I,hos,U2,cov⟩:=c.org
 have hh:Heap.HeldW B (envOfC qual scope s.heap.objs.size f cd::outer) e (.ref C) (.ref t) s.heap.objs.size s3.heap:=c.held
 have p5:=c.cov
 have hok:=c.hok
 show wpAny _ _ (leaving _ (.ref e)) _ _ _
 unfold leaving
 refine wpAny_bind (wpAny_noteFrame_againW rfl hh.2.2.2 ?_)
 refine wpAny_landsW hh λh'' fl up=>?_
 have U:=I.base
 have nl:∀b o,s.heap.get? b=some o→b∉frs outer→b∉frs (envOfC qual scope s.heap.objs.size f cd::outer):=λb o q nb hb=>by
  rcases List.mem_cons.mp (show b∈s.heap.objs.size::frs outer from hb) with z|z
  ·exact absurd (Heap.lt_size q) (by rw[z];exact Nat.lt_irrefl _)
  ·exact nb z
 have same:∀b o o',s3.heap.get? b=some o→B.get? b=some o'→h''.get? b=some o:=λb o o' q1 q2=>by
  have:=hh.1 b o' q2
  rw[q1] at this
  cases this
  exact fl.1 b o q2
 have slot:∀b o,s3.heap.get? b=some o→b∈frs (envOfC qual scope s.heap.objs.size f cd::outer)→∃sl,h''.get? b=some { o with slots:=sl }:=λb o q hb=>by
  obtain⟨_,o',ho',hnr⟩:=hh.2.2.1.mem hb
  rw[q] at ho'
  cases ho'
  exact up b o q hnr
 obtain⟨k1,k2,⟨_,_,k3⟩,k4⟩:=fl
 refine⟨e,t,C,H',B,rfl,hos.trans I.os,c.bare,⟨λb o q n nb _=>?_,λb o q n hb _=>?_,λb o q n _=>?_,λb o q _=>?_,λb xs q=>U2.mj b xs (U.mj b xs q),λb o u q=>U2.eB b o u (U.eB b o u q),λb ps q=>?_⟩,λa o q=>?_,hE,⟨k1,k2,k3,k4⟩,λb o q nb=>?_,p5⟩
 ·have q1:=U.keep b o q n nb (λz=>nomatch z)
  have n1:=U.free b o q n (λz=>nomatch z)
  have nl1:=nl b o q nb
  obtain⟨o',hB⟩:=cov b o q1 nl1
  exact same b o o' (U2.keep b o q1 n1 nl1 (λz=>nomatch z)) hB
 ·obtain⟨sl,e1⟩:=U.slot b o q n hb (λz=>nomatch z)
  have n1:=U.free b o q n (λz=>nomatch z)
  obtain⟨sl2,e2⟩:=U2.slot b _ e1 n1 (List.mem_cons_of_mem _ hb) (λz=>nomatch z)
  obtain⟨sl3,e3⟩:=slot b _ e2 (List.mem_cons_of_mem _ hb)
  exact⟨sl3,e3⟩
 ·have n1:=U.free b o q n (λz=>nomatch z)
  obtain⟨o1,e1⟩:=U.there b o q (λz=>nomatch z)
  exact U2.free b o1 e1 n1 (λz=>nomatch z)
 ·obtain⟨o1,e1⟩:=U.there b o q (λz=>nomatch z)
  obtain⟨o2,e2⟩:=U2.there b o1 e1 (λz=>nomatch z)
  by_cases hb:b∈frs (envOfC qual scope s.heap.objs.size f cd::outer)
  ·obtain⟨sl,e3⟩:=slot b o2 e2 hb
   exact⟨_,e3⟩
  ·obtain⟨o',hB⟩:=cov b o1 e1 hb
   exact⟨o2,same b o2 o' e2 hB⟩
 ·obtain⟨m1,e1⟩:=U.ml b ps q
  obtain⟨m2,e2⟩:=U2.ml b _ e1
  exact⟨m1++m2,by rw[e2,Array.append_assoc]⟩
 ·refine (hok a o q).p3 (λc v hc r=>?_) (λ_ r=>r) λ_ _ r=>r
  have hT:∃o1,H' c=some o1:=by
   rcases hc with rfl|hc
   ·exact⟨_,q⟩
   ·exact⟨_,hc⟩
  obtain⟨o1,h1⟩:=hT
  obtain⟨o',hB⟩:=p5 c o1 h1
  exact same c v o' r hB
 ·obtain⟨o1,e1⟩:=U.there b o q (λz=>nomatch z)
  exact cov b o1 e1 (nl b o q nb)
end L2
namespace Fw
open PySem
noncomputable abbrev Key := Sum Int Str
inductive T where
 | non|bl (b:Bool)|int (i:Int)|str (x:Str)
 | lst (ts:List T)|tup (ts:List T)|dct (kts:List (Key×T))|exc (c:Str) (t:Option Str)|dtt (fz:Bool) (kts:List (List Int×Bool))
inductive SV where
 | val (t:T)|cel (k:Nat)|box (xs:List (Sum T Nat))
noncomputable abbrev af := List (Bool × T)
noncomputable abbrev Slots := List (Option SV)
inductive R(α:Type) where
 | ok (a:α) (μ:af)|err (c:T) (μ:af)|bad
def R.bind{α β:Type}(x:R α)(f:α→af→R β):R β:=match x with
 | .ok a μ=>f a μ
 | .err c μ=>.err c μ
 | .bad=>.bad
@[simp] theorem R.bw{α β:Type}(a:α)(μ:af)(f:α→af→R β):(R.ok a μ).bind f=f a μ:=(rfl)
def R.lift{α:Type}(o:Option α)(μ:af):R α:=match o with
 | some a=>.ok a μ
 | none=>.bad
@[simp] theorem R.bf{α:Type}(a:α)(μ:af):R.lift (some a) μ=.ok a μ:=(rfl)
theorem R.bc{α β:Type}{x:R α}{f:α→af→R β}{b:β}{μ:af}(h:x.bind f=.ok b μ):∃a μ1,x=.ok a μ1∧f a μ1=.ok b μ:=by
 cases x with
 | ok a μ1=>exact⟨a,μ1,rfl,h⟩
 | err c μ1=>cases h
 | bad=>cases h
theorem R.mH{α:Type}{o:Option α}{μ μ':af}{a:α}(h:R.lift o μ=.ok a μ'):o=some a∧μ=μ':=by
 cases o with
 | none=>cases h
 | some x=>cases h;exact⟨rfl,rfl⟩
def R.calm{α:Type}:R α→R α
 | .ok a μ=>.ok a μ
 | _=>.bad
@[simp] theorem R.eT{α:Type}(a:α)(μ:af):(R.ok a μ).calm=.ok a μ:=(rfl)
theorem R.calm_eq{α:Type}{r:R α}{a:α}{μ:af}(h:r.calm=.ok a μ):r=.ok a μ:=by
 cases r with
 | ok b ν=>exact h
 | err c ν=>cases h
 | bad=>cases h
noncomputable abbrev D := Slots → af → R SV
def szL:Nat:=16777216
def rd(μ:af):SV→Option T
 | .val t=>some t
 | .cel k=>(μ[k]?).map (·.2)
 | .box _=>none
@[simp] theorem jl(μ:af)(t:T):rd μ (.val t)=some t:=(rfl)
def sZ(x:Sum T Nat)(μ:af):R T:=match x with
 | .inl t=>.ok t μ
 | .inr k=>match μ[k]? with
  | some (_,t)=>.ok t (μ.set k (false,t))
  | none=>.bad
def jI:List (Sum T Nat)→af→R (List T)
 | [],μ=>.ok [] μ
 | x::xs,μ=>(sZ x μ).bind λt μ1=>(jI xs μ1).bind λts μ2=>.ok (t::ts) μ2
def frz(sv:SV)(μ:af):R T:=match sv with
 | .val t=>.ok t μ
 | .cel k=>match μ[k]? with
  | some (_,t)=>.ok t (μ.set k (false,t))
  | none=>.bad
 | .box xs=>(jI xs μ).bind λts μ1=>.ok (.tup ts) μ1
@[simp] theorem nr(μ:af)(t:T):frz (.val t) μ=.ok t μ:=(rfl)
def eB:List SV→af→R (List T)
 | [],μ=>.ok [] μ
 | x::xs,μ=>(frz x μ).bind λt μ1=>(eB xs μ1).bind λts μ2=>.ok (t::ts) μ2
@[simp] theorem qF(μ:af):eB [] μ=.ok [] μ:=(rfl)
@[simp] theorem lR(x:SV)(xs:List SV)(μ:af):eB (x::xs) μ=(frz x μ).bind λt μ1=>(eB xs μ1).bind λts μ2=>.ok (t::ts) μ2:=(rfl)
theorem Gr(x:Sum T Nat)(μ:af)(c:T)(μ':af):sZ x μ≠.err c μ':=by
 cases x with
 | inl t=>intro h;cases h
 | inr k =>
  unfold sZ
  cases q:μ[k]? with
  | none=>simp[q]
  | some p=>simp[q]
theorem wD:∀(xs:List (Sum T Nat)) (μ:af) (c:T) (μ':af),jI xs μ≠.err c μ'
 | [],μ,c,μ'=>by intro h;cases h
 | x::xs,μ,c,μ'=>by
  unfold jI
  cases q:sZ x μ with
  | err d μ1=>exact absurd q (Gr x μ d μ1)
  | bad=>intro h;cases h
  | ok t μ1 =>
   rw[R.bw]
   cases q2:jI xs μ1 with
   | err d μ2=>exact absurd q2 (wD xs μ1 d μ2)
   | bad=>intro h;cases h
   | ok ts μ2=>intro h;cases h
theorem qG(x:SV)(μ:af)(c:T)(μ':af):frz x μ≠.err c μ':=by
 cases x with
 | val t=>intro h;cases h
 | cel k =>
  unfold frz
  cases q:μ[k]? with
  | none=>simp[q]
  | some p=>simp[q]
 | box xs =>
  show (jI xs μ).bind _≠_
  cases q:jI xs μ with
  | err d μ1=>exact absurd q (wD xs μ d μ1)
  | bad=>intro h;cases h
  | ok t μ1=>intro h;cases h
theorem qj:∀(xs:List SV) (μ:af) (c:T) (μ':af),eB xs μ≠.err c μ'
 | [],μ,c,μ'=>by intro h;cases h
 | x::xs,μ,c,μ'=>by
  rw[lR]
  cases q:frz x μ with
  | err d μ1=>exact absurd q (qG x μ d μ1)
  | bad=>intro h;cases h
  | ok t μ1 =>
   rw[R.bw]
   cases q2:eB xs μ1 with
   | err d μ2=>exact absurd q2 (qj xs μ1 d μ2)
   | bad=>intro h;cases h
   | ok ts μ2=>intro h;cases h
def slot(e:Slots)(i:Nat):Option SV:=match e[i]? with
 | some (some sv)=>some sv
 | _=>none
@[simp] theorem dj(x:SV)(e:Slots):slot (some x::e) 0=some x:=(rfl)
@[simp] theorem Bs(e:Slots):slot (none::e) 0=none:=(rfl)
@[simp] theorem dm(x:Option SV)(e:Slots)(i:Nat):slot (x::e) (i+1)=slot e i:=(rfl)
def aa(i:Nat):D:=λe μ=>R.lift (slot e i) μ
@[simp] theorem eU(i:Nat)(e:Slots)(μ:af):aa i e μ=R.lift (slot e i) μ:=(rfl)
def dC(t:T):D:=λ_ μ=>.ok (.val t) μ
@[simp] theorem qH(t:T)(e:Slots)(μ:af):dC t e μ=.ok (.val t) μ:=(rfl)
def ap1(f:T→Option T):Option T→Option SV
 | some t=>(f t).map SV.val
 | none=>none
def ap2(f:T→T→Option T):Option T→Option T→Option SV
 | some t,some u=>(f t u).map SV.val
 | _,_=>none
@[simp] theorem qI(f:T→Option T)(t:T):ap1 f (some t)=(f t).map SV.val:=(rfl)
@[simp] theorem ny(f:T→T→Option T)(t u:T):ap2 f (some t) (some u)=(f t u).map SV.val:=(rfl)
theorem jX{f:T→Option T}{o:Option T}{w:SV}(h:ap1 f o=some w):∃t u,o=some t∧f t=some u∧w=.val u:=by
 cases o with
 | none=>cases h
 | some t =>
  obtain⟨u,h1,rfl⟩:=Option.map_eq_some_iff.mp (show (f t).map SV.val=some w from h)
  exact⟨t,u,rfl,h1,rfl⟩
theorem qJ{f:T→T→Option T}{o p:Option T}{w:SV}(h:ap2 f o p=some w):∃t u v,o=some t∧p=some u∧f t u=some v∧w=.val v:=by
 cases o with
 | none=>cases p<;>cases h
 | some t =>
  cases p with
  | none=>cases h
  | some u =>
   obtain⟨v,h1,rfl⟩:=Option.map_eq_some_iff.mp (show (f t u).map SV.val=some w from h)
   exact⟨t,u,v,rfl,rfl,h1,rfl⟩
def dUn(f:T→Option T)(a:D):D:=λe μ=>(a e μ).bind λx μ1=>R.lift (ap1 f (rd μ1 x)) μ1
@[simp] theorem uT(f:T→Option T)(a:D)(e:Slots)(μ:af):dUn f a e μ=(a e μ).bind λx μ1=>R.lift (ap1 f (rd μ1 x)) μ1:=(rfl)
def ah(f:T→T→Option T)(a b:D):D:=λe μ=>(a e μ).bind λx μ1=>(b e μ1).bind λy μ2=>R.lift (ap2 f (rd μ2 x) (rd μ2 y)) μ2
@[simp] theorem nA(f:T→T→Option T)(a b:D)(e:Slots)(μ:af):ah f a b e μ=(a e μ).bind λx μ1=>(b e μ1).bind λy μ2=>R.lift (ap2 f (rd μ2 x) (rd μ2 y)) μ2:=(rfl)
def asB:SV→Option Bool
 | .val (.bl b)=>some b
 | _=>none
@[simp] theorem iN(b:Bool):asB (.val (.bl b))=some b:=(rfl)
def kQ(a b:D):D:=λe μ=>(a e μ).bind λx μ1=>(R.lift (asB x) μ1).bind λk μ1=>if k=true then b e μ1 else .ok (.val (.bl false)) μ1
def dOr(a b:D):D:=λe μ=>(a e μ).bind λx μ1=>(R.lift (asB x) μ1).bind λk μ1=>if k=true then .ok (.val (.bl true)) μ1 else b e μ1
def dz(a:D):D:=λe μ=>(a e μ).bind λx μ1=>(R.lift (asB x) μ1).bind λk μ1=>.ok (.val (.bl (!k))) μ1
def Gs(c a b:D):D:=λe μ=>(c e μ).bind λx μ1=>(R.lift (asB x) μ1).bind λk μ1=>if k=true then a e μ1 else b e μ1
@[simp] theorem Gu(a b:D)(e:Slots)(μ:af):kQ a b e μ=(a e μ).bind λx μ1=>(R.lift (asB x) μ1).bind λk μ1=>if k=true then b e μ1 else .ok (.val (.bl false)) μ1:=(rfl)
@[simp] theorem J0(a b:D)(e:Slots)(μ:af):dOr a b e μ=(a e μ).bind λx μ1=>(R.lift (asB x) μ1).bind λk μ1=>if k=true then .ok (.val (.bl true)) μ1 else b e μ1:=(rfl)
@[simp] theorem Gv(a:D)(e:Slots)(μ:af):dz a e μ=(a e μ).bind λx μ1=>(R.lift (asB x) μ1).bind λk μ1=>.ok (.val (.bl (!k))) μ1:=(rfl)
@[simp] theorem Gw(c a b:D)(e:Slots)(μ:af):Gs c a b e μ=(c e μ).bind λx μ1=>(R.lift (asB x) μ1).bind λk μ1=>if k=true then a e μ1 else b e μ1:=(rfl)
def eF:List D→Slots→af→R (List SV)
 | [],_,μ=>.ok [] μ
 | d::ds,e,μ=>(d e μ).bind λx μ1=>(eF ds e μ1).bind λxs μ2=>.ok (x::xs) μ2
@[simp] theorem eO(e:Slots)(μ:af):eF [] e μ=.ok [] μ:=(rfl)
@[simp] theorem cg(d:D)(ds:List D)(e:Slots)(μ:af):eF (d::ds) e μ=(d e μ).bind λx μ1=>(eF ds e μ1).bind λxs μ2=>.ok (x::xs) μ2:=(rfl)
def fZ(ds:List D):D:=λe μ=>(eF ds e μ).bind λxs μ1=>(eB xs μ1).bind λts μ2=>.ok (.val (.tup ts)) μ2
def fD(ds:List D):D:=λe μ=>(eF ds e μ).bind λxs μ1=>(eB xs μ1).bind λts μ2=>.ok (.val (.lst ts)) μ2
@[simp] theorem Gx(ds:List D)(e:Slots)(μ:af):fZ ds e μ=(eF ds e μ).bind λxs μ1=>(eB xs μ1).bind λts μ2=>.ok (.val (.tup ts)) μ2:=(rfl)
@[simp] theorem uU(ds:List D)(e:Slots)(μ:af):fD ds e μ=(eF ds e μ).bind λxs μ1=>(eB xs μ1).bind λts μ2=>.ok (.val (.lst ts)) μ2:=(rfl)
def oM(f:T→T→Option T)(ds:List D)(b:D):D:=λe μ=>(eF ds e μ).bind λxs μ1=>(eB xs μ1).bind λts μ2=>(b e μ2).bind λy μ3=>R.lift (ap1 (f (.lst ts)) (rd μ3 y)) μ3
@[simp] theorem Gy(f:T→T→Option T)(ds:List D)(b:D)(e:Slots)(μ:af):oM f ds b e μ=(eF ds e μ).bind λxs μ1=>(eB xs μ1).bind λts μ2=>(b e μ2).bind λy μ3=>R.lift (ap1 (f (.lst ts)) (rd μ3 y)) μ3:=(rfl)
def boxed:List SV→Option (List (Sum T Nat))
 | []=>some []
 | .val t::xs=>(boxed xs).map λys=>.inl t::ys
 | .cel k::xs=>(boxed xs).map λys=>.inr k::ys
 | .box _::_=>none
def p6(ds:List D):D:=λe μ=>(eF ds e μ).bind λxs μ1=>(R.lift (boxed xs) μ1).bind λys μ1=>.ok (.box ys) μ1
@[simp] theorem uV(ds:List D)(e:Slots)(μ:af):p6 ds e μ=(eF ds e μ).bind λxs μ1=>(R.lift (boxed xs) μ1).bind λys μ1=>.ok (.box ys) μ1:=(rfl)
def cell(t:T)(μ:af):R SV:=.ok (.cel μ.length) (μ++[(true,t)])
def dI(d:D):D:=λe μ=>(d e μ).bind λx μ1=>match x with
 | .val t=>cell t μ1
 | .cel k=>.ok (.cel k) μ1
 | .box xs=>.ok (.box xs) μ1
def toCell(x:SV)(μ:af):R SV:=match x with
 | .val t=>cell t μ
 | .cel k=>.ok (.cel k) μ
 | .box xs=>.ok (.box xs) μ
@[simp] theorem toCell_val(t:T)(μ:af):toCell (.val t) μ=.ok (.cel μ.length) (μ++[(true,t)]):=(rfl)
@[simp] theorem qK(d:D)(e:Slots)(μ:af):dI d e μ=(d e μ).bind toCell:=by
 unfold dI toCell;rfl
noncomputable abbrev FN := List SV → af → R SV
def aB(f:FN)(ds:List D):D:=λe μ=>(eF ds e μ).bind λxs μ1=>f xs μ1
@[simp] theorem gZ(f:FN)(ds:List D)(e:Slots)(μ:af):aB f ds e μ=(eF ds e μ).bind λxs μ1=>f xs μ1:=(rfl)
def cal(f:FN):FN:=λxs μ=>(f xs μ).calm
@[simp] theorem kR(f:FN)(xs:List SV)(μ:af):cal f xs μ=(f xs μ).calm:=(rfl)
def ixN(n:Nat)(i:Int):Option Nat:=if 0≤i then (if i<n then some i.toNat else none) else if -(n:Int)≤i then some (i+n).toNat else none
def atI{α:Type}(xs:List α)(i:Int):Option α:=(ixN xs.length i).bind λj=>xs[j]?
def sIx(n d:Nat):Option Int→Nat
 | none=>d
 | some v=>if v<0 then (v+(n:Int)).toNat else min v.toNat n
def bT:T→T→Option T
 | .int i,.int j=>some (.int (i+j))
 | .str x,.str y=>if x.length+y.length≤szL then some (.str (x++y)) else none
 | .tup xs,.tup ys=>if xs.length+ys.length≤szL then some (.tup (xs++ys)) else none
 | .lst xs,.lst ys=>if xs.length+ys.length≤szL then some (.lst (xs++ys)) else none
 | _,_=>none
theorem Dr(xs ys:List T)(h:xs.length+ys.length≤szL):bT (.tup xs) (.tup ys)=some (.tup (xs++ys)):=if_pos h
theorem nC(xs ys:List T)(h:xs.length+ys.length≤szL):bT (.lst xs) (.lst ys)=some (.lst (xs++ys)):=if_pos h
@[simp] theorem wF(i j:Int):bT (.int i) (.int j)=some (.int (i+j)):=(rfl)
def mr:T→T→Option T
 | .lst xs,.int k=>if -(2 ^ 63)≤k∧k<2 ^ 63∧xs.length*k.toNat≤szL then some (.lst (List.replicate k.toNat xs).flatten) else none
 | _,_=>none
def oN:T→T→Option T
 | .int i,.int j=>some (.int (i-j))
 | _,_=>none
@[simp] theorem Dt(i j:Int):oN (.int i) (.int j)=some (.int (i-j)):=(rfl)
def J1:T→T→Option T
 | .int i,.int j=>if (-(2 ^ 64)<i∧i<2 ^ 64)∨(-(2 ^ 64)<j∧j<2 ^ 64) then some (.int (i*j)) else none
 | _,_=>none
def aT(t u:T):Option T:=J1 t u
theorem J2(i j:Int)(h1:-18446744073709551616<i)(h2:i<18446744073709551616):J1 (.int i) (.int j)=some (.int (i*j)):=if_pos (.inl ⟨h1,h2⟩)
theorem J3(i j:Int)(h1:-18446744073709551616<j)(h2:j<18446744073709551616):J1 (.int i) (.int j)=some (.int (i*j)):=if_pos (.inr ⟨h1,h2⟩)
@[simp] theorem i6(i j:Int)(h1:-18446744073709551616<i)(h2:i<18446744073709551616):aT (.int i) (.int j)=some (.int (i*j)):=J2 i j h1 h2
@[simp] theorem gR(i j:Int)(h1:-18446744073709551616<j)(h2:j<18446744073709551616):aT (.int i) (.int j)=some (.int (i*j)):=J3 i j h1 h2
def aP:T→T→Option T
 | .int i,.int j=>if 0<j then some (.int (i%j)) else none
 | _,_=>none
@[simp] theorem d_(i j:Int)(h:0<j):aP (.int i) (.int j)=some (.int (i%j)):=if_pos h
def eD:T→T→Option T
 | .int i,.int j=>if 0<j∧j<1073741824 then some (.int (i / j)) else none
 | _,_=>none
@[simp] theorem wG(i j:Int)(h:0<j)(h2:j<1073741824):eD (.int i) (.int j)=some (.int (i / j)):=if_pos ⟨h,h2⟩
def Du:T→T→Option T
 | .int i,.int j=>if 0≤j∧j≤1000∧-(2 ^ 64)<i∧i<2 ^ 64 then some (.int (i ^ j.toNat)) else none
 | _,_=>none
def yw:T→T→Option T
 | .int i,.int j=>if 0≤j∧j≤64∧-(2 ^ 64)<i∧i<2 ^ 64 then some (.int (i*2 ^ j.toNat)) else none
 | _,_=>none
def wH:T→T→Option T
 | .int i,.int j=>if 0≤j∧j≤64 then some (.int (i / 2 ^ j.toNat)) else none
 | _,_=>none
def p7:T→Option T
 | .int i=>some (.int (-i))
 | _=>none
@[simp] theorem Dv(i:Int):p7 (.int i)=some (.int (-i)):=(rfl)
def fLt:T→T→Option T
 | .int i,.int j=>some (.bl (decide (i<j)))
 | _,_=>none
def fLe:T→T→Option T
 | .int i,.int j=>some (.bl (decide (i≤j)))
 | _,_=>none
def fGt:T→T→Option T
 | .int i,.int j=>some (.bl (decide (j<i)))
 | _,_=>none
def fGe:T→T→Option T
 | .int i,.int j=>some (.bl (decide (j≤i)))
 | _,_=>none
@[simp] theorem Gz(i j:Int):fLt (.int i) (.int j)=some (.bl (decide (i<j))):=(rfl)
@[simp] theorem GA(i j:Int):fLe (.int i) (.int j)=some (.bl (decide (i≤j))):=(rfl)
@[simp] theorem iA(i j:Int):fGt (.int i) (.int j)=some (.bl (decide (j<i))):=(rfl)
@[simp] theorem GB(i j:Int):fGe (.int i) (.int j)=some (.bl (decide (j≤i))):=(rfl)
mutual
def eqT:T→T→Bool
 | .non,.non=>true
 | .bl a,.bl b=>a==b
 | .bl a,.int b=>(if a then 1 else 0)==b
 | .int a,.bl b=>a==(if b then 1 else 0)
 | .int a,.int b=>a==b
 | .str a,.str b=>a==b
 | .lst a,.lst b=>jm a b
 | .tup a,.tup b=>jm a b
 | _,_=>false
def jm:List T→List T→Bool
 | [],[]=>true
 | a::as,b::bs=>eqT a b && jm as bs
 | [],_::_=>false
 | _::_,[]=>false
end
mutual
def okT:Nat→T→Bool
 | _,.non=>true
 | _,.bl _=>true
 | _,.int _=>true
 | _,.str x=>x.cps.all (·<1114112)
 | 0,.lst _=>false
 | n+1,.lst ts=>jJ n ts
 | 0,.tup _=>false
 | n+1,.tup ts=>jJ n ts
 | _,.dct _=>false
 | _,.exc _ _=>false
 | _,.dtt _ _=>false
def jJ:Nat→List T→Bool
 | _,[]=>true
 | n,t::ts=>okT n t && jJ n ts
end
def fEq(t u:T):Option T:=match t,u with
 | .str a,.str b=>some (.bl (a==b))
 | t,u=>if okT 100 t=true∧okT 100 u=true then some (.bl (eqT t u)) else none
def fNe(t u:T):Option T:=match t,u with
 | .str a,.str b=>some (.bl (!(a==b)))
 | t,u=>if okT 100 t=true∧okT 100 u=true then some (.bl (!eqT t u)) else none
@[simp] theorem GC(n:Nat)(i:Int):okT n (.int i)=true:=by unfold okT;rfl
@[simp] theorem J4(n:Nat)(i:Bool):okT n (.bl i)=true:=by unfold okT;rfl
@[simp] theorem GD(n:Nat)(ts:List T):okT (n+1) (.lst ts)=jJ n ts:=by rw[okT]
@[simp] theorem uW(n:Nat)(ts:List T):okT (n+1) (.tup ts)=jJ n ts:=by rw[okT]
@[simp] theorem Dw(n:Nat):jJ n []=true:=by rw[jJ]
@[simp] theorem oO(n:Nat)(t:T)(ts:List T):jJ n (t::ts)=(okT n t && jJ n ts):=by rw[jJ]
theorem nD(n:Nat):∀ts:List T,jJ n ts=true↔∀t∈ts,okT n t=true
 | []=>by simp
 | t::ts=>by simp[nD n ts]
@[simp] theorem Bt(n:Nat)(ns:List Int):jJ n (ns.map T.int)=true:=by
 rw[nD]
 intro t ht
 obtain⟨i,_,rfl⟩:=List.mem_map.mp ht
 simp
@[simp] theorem Aj(i j:Int):eqT (.int i) (.int j)=(i==j):=by rw[eqT]
@[simp] theorem NQ(i j:Str):eqT (.str i) (.str j)=(i==j):=by rw[eqT]
@[simp] theorem Ox(i j:Bool):eqT (.bl i) (.bl j)=(i==j):=by rw[eqT]
@[simp] theorem NR:eqT .non .non=true:=by rw[eqT]
@[simp] theorem GF(i j:List T):eqT (.lst i) (.lst j)=jm i j:=by rw[eqT]
@[simp] theorem GG(i j:List T):eqT (.tup i) (.tup j)=jm i j:=by rw[eqT]
@[simp] theorem Mp:jm [] []=true:=by rw[jm]
@[simp] theorem Lr(a b:T)(as bs:List T):jm (a::as) (b::bs)=(eqT a b && jm as bs):=by rw[jm]
@[simp] theorem NS(b:T)(bs:List T):jm [] (b::bs)=false:=by rw[jm]
@[simp] theorem NU(b:T)(bs:List T):jm (b::bs) []=false:=by rw[jm]
mutual
theorem wI:∀(n:Nat) (t:T),okT n t=true→eqT t t=true
 | n,.non,_=>by simp
 | n,.bl b,_=>by simp
 | n,.int i,_=>by simp
 | n,.str x,_=>by simp
 | 0,.lst ts,h=>by rw[okT] at h;cases h
 | n+1,.lst ts,h=>by simp only[GF];exact oP n ts (by simpa using h)
 | 0,.tup ts,h=>by rw[okT] at h;cases h
 | n+1,.tup ts,h=>by simp only[GG];exact oP n ts (by simpa using h)
 | n,.dct _,h=>by unfold okT at h;cases h
 | n,.exc _ _,h=>by unfold okT at h;cases h
 | n,.dtt _ _,h=>by unfold okT at h;cases h
theorem oP:∀(n:Nat) (ts:List T),jJ n ts=true→jm ts ts=true
 | n,[],_=>by simp
 | n,t::ts,h=>by
  simp only[oO,Bool.and_eq_true] at h
  simp[wI n t h.1,oP n ts h.2]
end
theorem oQ:∀(xs ys:List Int),jm (xs.map T.int) (ys.map T.int)=(xs==ys)
 | [],[]=>by simp
 | [],y::ys=>by simp
 | x::xs,[]=>by simp
 | x::xs,y::ys=>by simp[oQ xs ys]
theorem yx{t u:T}(h1:okT 100 t=true)(h2:okT 100 u=true):fEq t u=some (.bl (eqT t u)):=by
 unfold fEq
 split
 ·simp
 ·rw[if_pos ⟨h1,h2⟩]
theorem yA{t u:T}(h1:okT 100 t=true)(h2:okT 100 u=true):fNe t u=some (.bl (!eqT t u)):=by
 unfold fNe
 split
 ·simp
 ·rw[if_pos ⟨h1,h2⟩]
@[simp] theorem GH(i j:Int):fEq (.int i) (.int j)=some (.bl (i==j)):=by rw[yx (by simp) (by simp)];simp
@[simp] theorem uX(i j:Int):fNe (.int i) (.int j)=some (.bl (!(i==j))):=by rw[yA (by simp) (by simp)];simp
@[simp] theorem GI(i j:Str):fEq (.str i) (.str j)=some (.bl (i==j)):=(rfl)
@[simp] theorem GJ(i j:Str):fNe (.str i) (.str j)=some (.bl (!(i==j))):=(rfl)
@[simp] theorem wJ(xs ys:List Int):fEq (.lst (xs.map T.int)) (.lst (ys.map T.int))=some (.bl (xs==ys)):=by rw[yx (by simp) (by simp)];simp[oQ]
@[simp] theorem qL(xs ys:List Int):fNe (.lst (xs.map T.int)) (.lst (ys.map T.int))=some (.bl (!(xs==ys))):=by rw[yA (by simp) (by simp)];simp[oQ]
def my:T→Option T
 | .non=>some (.bl true)
 | _=>some (.bl false)
def J5:T→T→Option T
 | .lst xs,.int i=>atI xs i
 | .tup xs,.int i=>atI xs i
 | .str x,.int i=>if x.length≤szL then (atI x.cps.toList i).map λc=>.str ⟨#[c]⟩ else none
 | _,_=>none
def pick:Sum T Nat→SV
 | .inl t=>.val t
 | .inr k=>.cel k
def fA(μ:af)(x:SV)(u:T):Option SV:=match x,u with
 | .box xs,.int i=>(atI xs i).map pick
 | .box _,_=>none
 | x,u=>ap1 (λt=>J5 t u) (rd μ x)
def aC(a b:D):D:=λe μ=>(a e μ).bind λx μ1=>(b e μ1).bind λy μ2=>R.lift ((rd μ2 y).bind λu=>fA μ2 x u) μ2
@[simp] theorem jY(a b:D)(e:Slots)(μ:af):aC a b e μ=(a e μ).bind λx μ1=>(b e μ1).bind λy μ2=>R.lift ((rd μ2 y).bind λu=>fA μ2 x u) μ2:=(rfl)
@[simp] theorem kS(μ:af)(xs:List T)(i:Int):fA μ (.val (.lst xs)) (.int i)=(atI xs i).map SV.val:=(rfl)
@[simp] theorem nE(μ:af)(xs:List T)(i:Int):fA μ (.val (.tup xs)) (.int i)=(atI xs i).map SV.val:=(rfl)
@[simp] theorem Dx(μ:af)(xs:List (Sum T Nat))(i:Int):fA μ (.box xs) (.int i)=(atI xs i).map pick:=(rfl)
@[simp] theorem Dy(μ:af)(k:Nat)(u:T):fA μ (.cel k) u=ap1 (λt=>J5 t u) (rd μ (.cel k)):=(rfl)
def J6:T→Option T
 | .lst xs=>some (.int xs.length)
 | .tup xs=>some (.int xs.length)
 | .str x=>if x.length≤szL then some (.int x.length) else none
 | .dct kts=>some (.int kts.length)
 | _=>none
def jn(μ:af):SV→Option T
 | .box xs=>some (.int xs.length)
 | x=>(rd μ x).bind J6
def cQ(a:D):D:=λe μ=>(a e μ).bind λx μ1=>R.lift ((jn μ1 x).map SV.val) μ1
@[simp] theorem Ak(a:D)(e:Slots)(μ:af):cQ a e μ=(a e μ).bind λx μ1=>R.lift ((jn μ1 x).map SV.val) μ1:=(rfl)
@[simp] theorem qM(μ:af)(xs:List T):jn μ (.val (.lst xs))=some (.int xs.length):=(rfl)
@[simp] theorem nF(μ:af)(xs:List T):jn μ (.val (.tup xs))=some (.int xs.length):=(rfl)
@[simp] theorem Dz(μ:af)(k:Nat):jn μ (.cel k)=(rd μ (.cel k)).bind J6:=(rfl)
inductive Kd where
 | int|bool|str|list|tuple|dict
def isK:Kd→T→Bool
 | .int,.int _=>true
 | .int,.bl _=>true
 | .bool,.bl _=>true
 | .str,.str _=>true
 | .list,.lst _=>true
 | .tuple,.tup _=>true
 | .dict,.dct _=>true
 | .dict,.dtt _ _=>true
 | _,_=>false
def isT(k:Kd):T→Option T
 | .exc _ _=>none
 | .dtt _ _=>none
 | t=>some (.bl (isK k t))
def isS(k:Kd)(μ:af):SV→Option T
 | .box _=>some (.bl (isK k (.tup [])))
 | x=>(rd μ x).bind (isT k)
@[simp] theorem NV(k:Kd)(i:Int):isT k (.int i)=some (.bl (isK k (.int i))):=(rfl)
def dIs(k:Kd)(a:D):D:=λe μ=>(a e μ).bind λx μ1=>R.lift ((isS k μ1 x).map SV.val) μ1
@[simp] theorem oR(k:Kd)(a:D)(e:Slots)(μ:af):dIs k a e μ=(a e μ).bind λx μ1=>R.lift ((isS k μ1 x).map SV.val) μ1:=(rfl)
@[simp] theorem GK(k:Kd)(μ:af)(t:T):isS k μ (.val t)=isT k t:=(rfl)
@[simp] theorem Al(k:Kd)(μ:af)(j:Nat):isS k μ (.cel j)=(rd μ (.cel j)).bind (isT k):=(rfl)
def cL:T→Option T
 | .lst xs=>some (.tup xs)
 | .tup xs=>some (.tup xs)
 | _=>none
@[simp] theorem qN(xs:List T):cL (.lst xs)=some (.tup xs):=(rfl)
@[simp] theorem yB(xs:List T):cL (.tup xs)=some (.tup xs):=(rfl)
def Mq:T→Option T
 | .lst xs=>some (.lst xs)
 | .tup xs=>some (.lst xs)
 | _=>none
def wK:Key→T
 | .inl i=>.int i
 | .inr x=>.str x
def Am:T→Option T
 | .dct kts=>some (.lst (kts.map λp=>wK p.1))
 | _=>none
@[simp] theorem Bu(xs:List T):Mq (.lst xs)=some (.lst xs):=(rfl)
def oS{α:Type}(xs:List α)(lo hi:Option Int):List α:=(xs.drop (sIx xs.length 0 lo)).take (sIx xs.length xs.length hi-sIx xs.length 0 lo)
def kT:T→Option Int
 | .int i=>some i
 | _=>none
@[simp] theorem oU(i:Int):kT (.int i)=some i:=(rfl)
def mI:List T→Option (List Int)
 | []=>some []
 | t::ts=>(kT t).bind λi=>(mI ts).map λis=>i::is
theorem yC(ns:List Int):mI (ns.map T.int)=some ns:=by
 induction ns with
 | nil=>rfl
 | cons n ns ih=>simp[mI,ih]
def qO:T→Option T
 | .lst xs=>(mI xs).map λis=>.int is.sum
 | _=>none
@[simp] theorem Bv(ns:List Int):qO (.lst (ns.map T.int))=some (.int ns.sum):=by simp[qO,yC]
def qP:List T→Option (List Bool)
 | []=>some []
 | .bl b::ts=>(qP ts).map λbs=>b::bs
 | _::_=>none
theorem Bw(bs:List Bool):qP (bs.map T.bl)=some bs:=by
 induction bs with
 | nil=>rfl
 | cons n ns ih=>simp[qP,ih]
def nG:T→Option T
 | .lst xs=>(qP xs).map λbs=>.bl (bs.all id)
 | _=>none
@[simp] theorem DA(bs:List Bool):nG (.lst (bs.map T.bl))=some (.bl (bs.all id)):=by simp[nG,Bw]
def DB:T→Option T
 | .non=>some (.bl false)
 | _=>some (.bl true)
@[simp] theorem Ls:my .non=some (.bl true):=(rfl)
@[simp] theorem Bx(i:Int):my (.int i)=some (.bl false):=(rfl)
@[simp] theorem yD:DB .non=some (.bl false):=(rfl)
@[simp] theorem yE(i:Int):DB (.int i)=some (.bl true):=(rfl)
def kU(f g:T→T→Option T)(a b c:D):D:=λe μ=>(a e μ).bind λx μ1=>(b e μ1).bind λy μ2 =>
 (R.lift (ap2 f (rd μ2 x) (rd μ2 y)) μ2).bind λw μ2=>(R.lift (asB w) μ2).bind λk μ2 =>
 if k=true then (c e μ2).bind λz μ3=>R.lift (ap2 g (rd μ3 y) (rd μ3 z)) μ3 else .ok (.val (.bl false)) μ2
@[simp] theorem By(f g:T→T→Option T)(a b c:D)(e:Slots)(μ:af):kU f g a b c e μ=(a e μ).bind λx μ1=>(b e μ1).bind λy μ2 =>
 (R.lift (ap2 f (rd μ2 x) (rd μ2 y)) μ2).bind λw μ2=>(R.lift (asB w) μ2).bind λk μ2 =>
 if k=true then (c e μ2).bind λz μ3=>R.lift (ap2 g (rd μ3 y) (rd μ3 z)) μ3 else .ok (.val (.bl false)) μ2:=(rfl)
def J7(t:T)(lo hi:Option Int):Option T:=match t with
 | .lst xs=>some (.lst (oS xs lo hi))
 | .tup xs=>if sIx xs.length 0 lo=0∧sIx xs.length xs.length hi=xs.length then none else some (.tup (oS xs lo hi))
 | _=>none
def qQ(o:Option D)(e:Slots)(μ:af):R (Option Int):=match o with
 | none=>.ok none μ
 | some d=>(d e μ).bind λx μ1=>(R.lift ((rd μ1 x).bind kT) μ1).bind λi μ1=>.ok (some i) μ1
@[simp] theorem ud(e:Slots)(μ:af):qQ none e μ=.ok none μ:=(rfl)
@[simp] theorem ue(d:D)(e:Slots)(μ:af):qQ (some d) e μ=(d e μ).bind λx μ1=>(R.lift ((rd μ1 x).bind kT) μ1).bind λi μ1=>.ok (some i) μ1:=(rfl)
def DC(a:D)(lo hi:Option D):D:=λe μ=>(a e μ).bind λx μ1=>(qQ lo e μ1).bind λl μ2=>(qQ hi e μ2).bind λh μ3=>R.lift (ap1 (λt=>J7 t l h) (rd μ3 x)) μ3
@[simp] theorem An(a:D)(lo hi:Option D)(e:Slots)(μ:af):DC a lo hi e μ=(a e μ).bind λx μ1=>(qQ lo e μ1).bind λl μ2=>(qQ hi e μ2).bind λh μ3=>R.lift (ap1 (λt=>J7 t l h) (rd μ3 x)) μ3:=(rfl)
inductive RS where
 | nx (e:Slots) (μ:af)|rt (x:SV) (μ:af)|bk (e:Slots) (μ:af)|ct (e:Slots) (μ:af)|err (c:T) (e:Slots) (μ:af)|bad
noncomputable abbrev DS := Slots → af → RS
def R.toS{α:Type}(x:R α)(e:Slots)(f:α→af→RS):RS:=match x with
 | .ok a μ=>f a μ
 | .err c μ=>.err c e μ
 | .bad=>.bad
@[simp] theorem R.toS_ok{α:Type}(a:α)(e:Slots)(μ:af)(f:α→af→RS):(R.ok a μ).toS e f=f a μ:=(rfl)
@[simp] theorem R.toS_err{α:Type}(c:T)(e:Slots)(μ:af)(f:α→af→RS):(R.err c μ:R α).toS e f=.err c e μ:=(rfl)
def RS.seq(r:RS)(f:Slots→af→RS):RS:=match r with
 | .nx e μ=>f e μ
 | r=>r
@[simp] theorem RS.ig(e:Slots)(μ:af)(f:Slots→af→RS):(RS.nx e μ).seq f=f e μ:=(rfl)
@[simp] theorem RS.J8(x:SV)(μ:af)(f:Slots→af→RS):(RS.rt x μ).seq f=.rt x μ:=(rfl)
def bB:DS:=λe μ=>.nx e μ
def az(a b:DS):DS:=λe μ=>(a e μ).seq b
def wL(d:D):DS:=λe μ=>(d e μ).toS e λ_ μ1=>.nx e μ1
def aE(i:Nat)(d:D):DS:=λe μ=>(d e μ).toS e λx μ1=>.nx (e.set i (some x)) μ1
def aG(d:D):DS:=λe μ=>(d e μ).toS e λx μ1=>.rt x μ1
def sIf(c:D)(a b:DS):DS:=λe μ=>(c e μ).toS e λx μ1=>(R.lift (asB x) μ1).toS e λk μ1=>if k=true then a e μ1 else b e μ1
def uY:DS:=λ_ _=>.bad
@[simp] theorem GL(e:Slots)(μ:af):bB e μ=.nx e μ:=(rfl)
@[simp] theorem fU(a b:DS)(e:Slots)(μ:af):az a b e μ=(a e μ).seq b:=(rfl)
@[simp] theorem DD(d:D)(e:Slots)(μ:af):wL d e μ=(d e μ).toS e λ_ μ1=>.nx e μ1:=(rfl)
@[simp] theorem jZ(i:Nat)(d:D)(e:Slots)(μ:af):aE i d e μ=(d e μ).toS e λx μ1=>.nx (e.set i (some x)) μ1:=(rfl)
@[simp] theorem uZ(d:D)(e:Slots)(μ:af):aG d e μ=(d e μ).toS e λx μ1=>.rt x μ1:=(rfl)
@[simp] theorem yF(c:D)(a b:DS)(e:Slots)(μ:af):sIf c a b e μ=(c e μ).toS e λx μ1=>(R.lift (asB x) μ1).toS e λk μ1=>if k=true then a e μ1 else b e μ1:=(rfl)
def appendAt(x:SV)(t:T)(μ:af):Option af:=match x with
 | .cel k=>match μ[k]? with
  | some (true,.lst ts)=>if ts.length<szL then some (μ.set k (true,.lst (ts++[t]))) else none
  | _=>none
 | _=>none
def p8(x:SV)(μ:af):Option Unit:=match x with
 | .cel k=>match μ[k]? with
  | some (_,.lst _)=>some ()
  | _=>none
 | _=>none
theorem qk{μ:af}{k:Nat}{b:Bool}{ts:List T}(h:μ[k]?=some (b,.lst ts)):p8 (.cel k) μ=some ():=by unfold p8;simp only[h]
def cy(o d:D):DS:=λe μ=>(o e μ).toS e λx μ0=>(R.lift (p8 x μ0) μ0).toS e λ_ μ0=>(d e μ0).toS e λy μ1=>(frz y μ1).toS e λt μ2=>(R.lift (appendAt x t μ2) μ2).toS e λμ3 _=>.nx e μ3
@[simp] theorem qR(o d:D)(e:Slots)(μ:af):cy o d e μ=(o e μ).toS e λx μ0=>(R.lift (p8 x μ0) μ0).toS e λ_ μ0=>(d e μ0).toS e λy μ1=>(frz y μ1).toS e λt μ2=>(R.lift (appendAt x t μ2) μ2).toS e λμ3 _=>.nx e μ3:=(rfl)
def setAt(x:SV)(k:T)(t:T)(μ:af):Option af:=match x,k with
 | .cel c,.int i=>match μ[c]? with
  | some (true,.lst ts)=>(ixN ts.length i).map λj=>μ.set c (true,.lst (ts.set j t))
  | _=>none
 | _,_=>none
def dJ(i:Nat)(dk dv:D):DS:=λe μ=>(dv e μ).toS e λy μ1=>(R.lift (slot e i) μ1).toS e λx μ1=>(dk e μ1).toS e λz μ2=>(R.lift (rd μ2 z) μ2).toS e λk μ2 =>
 (frz y μ2).toS e λt μ3=>(R.lift (setAt x k t μ3) μ3).toS e λμ4 _=>.nx e μ4
@[simp] theorem pS(i:Nat)(dk dv:D)(e:Slots)(μ:af):dJ i dk dv e μ=(dv e μ).toS e λy μ1=>(R.lift (slot e i) μ1).toS e λx μ1=>(dk e μ1).toS e λz μ2=>(R.lift (rd μ2 z) μ2).toS e λk μ2 =>
 (frz y μ2).toS e λt μ3=>(R.lift (setAt x k t μ3) μ3).toS e λμ4 _=>.nx e μ4:=(rfl)
structure Wk where
 items:List T
 same:af→Prop
noncomputable abbrev DI := Slots → af → R Wk
def cP:T→Option (List T)
 | .lst ts=>some ts
 | .tup ts=>some ts
 | _=>none
@[simp] theorem iB(ts:List T):cP (.lst ts)=some ts:=(rfl)
@[simp] theorem u0(ts:List T):cP (.tup ts)=some ts:=(rfl)
def eW(d:D):DI:=λe μ=>(d e μ).bind λx μ1=>(R.lift ((rd μ1 x).bind cP) μ1).bind λts μ1=>.ok ⟨ts,λμ'=>rd μ' x=rd μ1 x⟩ μ1
@[simp] theorem u3(d:D)(e:Slots)(μ:af):eW d e μ=(d e μ).bind λx μ1=>(R.lift ((rd μ1 x).bind cP) μ1).bind λts μ1=>.ok ⟨ts,λμ'=>rd μ' x=rd μ1 x⟩ μ1:=(rfl)
def b7(lo:Int):Nat→List T
 | 0=>[]
 | n+1=>.int lo::b7 (lo+1) n
def eG(j:Int):Bool:=decide (-(2 ^ 62)≤j) && decide (j<2 ^ 62)
@[simp] theorem eI{j:Int}(h0:0≤j)(h1:j≤1000000):eG j=true:=by
 unfold eG
 rw[decide_eq_true (by lia),decide_eq_true (by lia)];rfl
theorem uf{j:Int}(h:eG j=true):-(2 ^ 62)≤j∧j<2 ^ 62:=by
 unfold eG at h
 simp only[Bool.and_eq_true,decide_eq_true_eq] at h
 exact h
def bp(d:D):DI:=λe μ=>(d e μ).bind λx μ1=>(R.lift ((rd μ1 x).bind kT) μ1).bind λj μ1=>if eG j=true then .ok ⟨b7 0 j.toNat,λ_=>True⟩ μ1 else .bad
def GN(d d':D):DI:=λe μ=>(d e μ).bind λx μ1=>(d' e μ1).bind λy μ2=>(R.lift ((rd μ2 x).bind kT) μ2).bind λi μ2=>(R.lift ((rd μ2 y).bind kT) μ2).bind λj μ2 =>
 if (eG i && eG j)=true then .ok ⟨b7 i (j-i).toNat,λ_=>True⟩ μ2 else .bad
@[simp] theorem qS(d:D)(e:Slots)(μ:af):bp d e μ=(d e μ).bind λx μ1=>(R.lift ((rd μ1 x).bind kT) μ1).bind λj μ1=>if eG j=true then .ok ⟨b7 0 j.toNat,λ_=>True⟩ μ1 else .bad:=(rfl)
@[simp] theorem yG(d d':D)(e:Slots)(μ:af):GN d d' e μ=(d e μ).bind λx μ1=>(d' e μ1).bind λy μ2=>(R.lift ((rd μ2 x).bind kT) μ2).bind λi μ2=>(R.lift ((rd μ2 y).bind kT) μ2).bind λj μ2 =>
 if (eG i && eG j)=true then .ok ⟨b7 i (j-i).toNat,λ_=>True⟩ μ2 else .bad:=(rfl)
def i4:List T→List T→List T
 | t::ts,u::us=>.tup [t,u]::i4 ts us
 | _,_=>[]
def p9(d d':D):DI:=λe μ=>(d e μ).bind λx μ1=>(d' e μ1).bind λy μ2=>(R.lift ((rd μ2 x).bind cP) μ2).bind λts μ2=>(R.lift ((rd μ2 y).bind cP) μ2).bind λus μ2 =>
 .ok ⟨i4 ts us,λμ'=>rd μ' x=rd μ2 x∧rd μ' y=rd μ2 y⟩ μ2
@[simp] theorem GO(d d':D)(e:Slots)(μ:af):p9 d d' e μ=(d e μ).bind λx μ1=>(d' e μ1).bind λy μ2=>(R.lift ((rd μ2 x).bind cP) μ2).bind λts μ2=>(R.lift ((rd μ2 y).bind cP) μ2).bind λus μ2 =>
 .ok ⟨i4 ts us,λμ'=>rd μ' x=rd μ2 x∧rd μ' y=rd μ2 y⟩ μ2:=(rfl)
noncomputable abbrev BD := T → Slots → Option Slots
def aL(i:Nat):BD:=λt e=>some (e.set i (some (.val t)))
def dn(is:List Nat):BD:=λt e=>match t with
 | .tup ts=>if ts.length=is.length then some ((is.zip ts).foldl (λe p=>e.set p.1 (some (.val p.2))) e) else none
 | _=>none
@[simp] theorem kW(i:Nat)(t:T)(e:Slots):aL i t e=some (e.set i (some (.val t))):=(rfl)
@[simp] theorem ee(i j:Nat)(t u:T)(e:Slots):dn [i,j] (.tup [t,u]) e=some ((e.set i (some (.val t))).set j (some (.val u))):=(rfl)
open Classical in
def forL(same:af→Prop)(b:BD)(body:DS):List T→Slots→af→RS
 | [],e,μ=>if same μ then .nx e μ else .bad
 | t::ts,e,μ=>if same μ then
   match b t e with
   | none=>.bad
   | some e1=>match body e1 μ with
    | .nx e2 μ2=>forL same b body ts e2 μ2
    | .ct e2 μ2=>forL same b body ts e2 μ2
    | .bk e2 μ2=>.nx e2 μ2
    | r=>r
  else .bad
def eJ(it:DI)(b:BD)(body:DS):DS:=λe μ=>(it e μ).toS e λW μ1=>forL W.same b body W.items e μ1
@[simp] theorem lS(it:DI)(b:BD)(body:DS)(e:Slots)(μ:af):eJ it b body e μ=(it e μ).toS e λW μ1=>forL W.same b body W.items e μ1:=(rfl)
def dD(c:D)(body:DS):Nat→Slots→af→RS
 | 0,_,_=>.bad
 | n+1,e,μ=>(c e μ).toS e λx μ1=>(R.lift (asB x) μ1).toS e λk μ1=>if k=true then
   match body e μ1 with
   | .nx e2 μ2=>dD c body n e2 μ2
   | .ct e2 μ2=>dD c body n e2 μ2
   | .bk e2 μ2=>.nx e2 μ2
   | r=>r
  else .nx e μ1
open Classical in
def j0(c:D)(body:DS):DS:=λe μ=>if h:∃n,dD c body n e μ≠.bad then dD c body h.choose e μ else .bad
open Classical in
def cV(same:af→Prop)(b:BD)(c:D)(d:D)(e:Slots):List T→af→R (List T)
 | [],μ=>if same μ then .ok [] μ else .bad
 | t::ts,μ=>if same μ then
   match b t e with
   | none=>.bad
   | some e1=>(c e1 μ).calm.bind λx μ1=>(R.lift (asB x) μ1).bind λk μ1 =>
    if k=true then (d e1 μ1).calm.bind λy μ2=>(frz y μ2).bind λu μ3=>(cV same b c d e ts μ3).bind λus μ4=>.ok (u::us) μ4
    else cV same b c d e ts μ1
  else .bad
def ini(mp:List (Option Nat))(e:Slots):Slots:=mp.map λo=>o.bind λj=>slot e j
def bo(it:DI)(mp:List (Option Nat))(b:BD)(c:D)(d:D):D:=λe μ=>(it e μ).bind λW μ1=>(cV W.same b c d (ini mp e) W.items μ1).calm.bind λus μ2 =>
 if W.items.length≤szL then .ok (.val (.lst us)) μ2 else .bad
@[simp] theorem DE(it:DI)(mp:List (Option Nat))(b:BD)(c:D)(d:D)(e:Slots)(μ:af):bo it mp b c d e μ=(it e μ).bind λW μ1=>(cV W.same b c d (ini mp e) W.items μ1).calm.bind λus μ2 =>
 if W.items.length≤szL then .ok (.val (.lst us)) μ2 else .bad:=(rfl)
@[simp] theorem GP(e:Slots):ini [] e=[]:=(rfl)
@[simp] theorem DF(mp:List (Option Nat))(e:Slots):ini (none::mp) e=none::ini mp e:=(rfl)
@[simp] theorem DG(j:Nat)(mp:List (Option Nat))(e:Slots):ini (some j::mp) e=slot e j::ini mp e:=(rfl)
def gc(n:Nat)(x:SV)(μ:af):R SV:=match x with
 | .val t=>.ok (.val t) (μ.take n)
 | .cel k=>if k<n then .ok (.cel k) (μ.take n) else match μ[k]? with
  | some c=>.ok (.cel n) (μ.take n++[c])
  | none=>.bad
 | .box _=>.bad
def starts(m:Nat)(xs:List SV):Slots:=xs.map some++List.replicate (m-xs.length) none
def RS.J9(n:Nat):RS→R SV
 | .rt x μ'=>gc n x μ'
 | .nx _ μ'=>gc n (.val .non) μ'
 | .err c _ μ'=>.err c (μ'.take n)
 | _=>.bad
def fnD(m:Nat)(body:DS):FN:=λxs μ=>(body (starts m xs) μ).J9 μ.length
def ice(n:Nat)(x:SV)(μ:af):R SV:=(frz x μ).bind λt μ1=>.ok (.val t) (μ1.take n)
def RS.jo(n:Nat):RS→R SV
 | .rt x μ'=>ice n x μ'
 | .nx _ μ'=>ice n (.val .non) μ'
 | .err c _ μ'=>.err c (μ'.take n)
 | _=>.bad
def fnV(m:Nat)(body:DS):FN:=λxs μ=>(body (starts m xs) μ).jo μ.length
def RS.nH:RS→R SV
 | .rt x μ'=>.ok x μ'
 | .nx _ μ'=>.ok (.val .non) μ'
 | .err c _ μ'=>.err c μ'
 | _=>.bad
def fnK(m:Nat)(body:DS):FN:=λxs μ=>(body (starts m xs) μ).nH
@[simp] theorem nI(n:Nat)(x:SV)(μ:af):(RS.rt x μ).jo n=ice n x μ:=(rfl)
@[simp] theorem Ao(n:Nat)(x:SV)(μ:af):(RS.rt x μ).J9 n=gc n x μ:=(rfl)
@[simp] theorem u4(x:SV)(μ:af):(RS.rt x μ).nH=.ok x μ:=(rfl)
@[simp] theorem dE(m:Nat)(body:DS)(xs:List SV)(μ:af):fnV m body xs μ=(body (starts m xs) μ).jo μ.length:=(rfl)
@[simp] theorem kX(m:Nat)(body:DS)(xs:List SV)(μ:af):fnD m body xs μ=(body (starts m xs) μ).J9 μ.length:=(rfl)
@[simp] theorem j3(m:Nat)(body:DS)(xs:List SV)(μ:af):fnK m body xs μ=(body (starts m xs) μ).nH:=(rfl)
end Fw
namespace Fw
open PySem L2
def ExcAt(K:PySem.W.Frag)(a:Addr)(c:Str)(t:Option Str)(h:Heap):Prop:=∃C,PySem.W.nsIn K mainGlobals c=some (some (.ref C))∧jk a C h
def kvT(kts:List (List Int×Bool)):List (List Key×V):=kts.map λp=>(p.1.map Sum.inl,V.bl p.2)
section
variable(K:PySem.W.Frag)(F:Hp)
mutual
def Rep:T→V→Prop
 | .non,v=>v=.non
 | .bl b,v=>v=.bl b
 | .int i,v=>v=.int i
 | .str x,v=>v=.str x
 | .lst ts,v=>∃a vs,v=.ref a∧SqL K F a vs∧aH ts vs
 | .tup ts,v=>∃a vs,v=.ref a∧SqT K F a vs∧aH ts vs
 | .dct kts,v=>∃a kvs,v=.ref a∧F a=some (.dK kvs)∧bS kts kvs
 | .exc c t,v=>∃a,v=.ref a∧F a=some (.ext (ExcAt K a c t))
 | .dtt fz kts,v=>∃a,v=.ref a∧((fz=false∧F a=some (.dT (kvT kts)))∨(fz=true∧∃o,F a=some (.frz o (.dT (kvT kts)))))
def aH:List T→List V→Prop
 | [],vs=>vs=[]
 | t::ts,vs=>∃v vs',vs=v::vs'∧Rep t v∧aH ts vs'
def bS:List (Key×T)→List (Key×V)→Prop
 | [],kvs=>kvs=[]
 | (k,t)::kts,kvs=>∃v oV,kvs=(k,v)::oV∧Rep t v∧bS kts oV
end
end
theorem aZ.i5{K:PySem.W.Frag}{H H':Hp}{a:Addr}{xs:List V}(e:aZ H H')(h:SqT K H a xs):SqT K H' a xs:=e _ _ h
section
variable{K:PySem.W.Frag}{F F' H H':Hp}
mutual
theorem Rep.mono(s:aZ F F'):∀(t:T) (v:V),Rep K F t v→Rep K F' t v
 | .non,v,h=>by rw[Rep] at h ⊢;exact h
 | .bl b,v,h=>by rw[Rep] at h ⊢;exact h
 | .int i,v,h=>by rw[Rep] at h ⊢;exact h
 | .str x,v,h=>by rw[Rep] at h ⊢;exact h
 | .lst ts,v,h=>by
  rw[Rep] at h ⊢
  obtain⟨a,vs,e,q,r⟩:=h
  exact⟨a,vs,e,s.seq q,aH.mono s ts vs r⟩
 | .tup ts,v,h=>by
  rw[Rep] at h ⊢
  obtain⟨a,vs,e,q,r⟩:=h
  exact⟨a,vs,e,aZ.i5 s q,aH.mono s ts vs r⟩
 | .dct kts,v,h=>by
  rw[Rep] at h ⊢
  obtain⟨a,vs,e,q,r⟩:=h
  exact⟨a,vs,e,s _ _ q,bS.mono s kts vs r⟩
 | .exc c t,v,h=>by
  rw[Rep] at h ⊢
  obtain⟨a,e,q⟩:=h
  exact⟨a,e,s _ _ q⟩
 | .dtt fz kts,v,h=>by
  rw[Rep] at h ⊢
  obtain⟨a,e,q⟩:=h
  exact⟨a,e,q.elim (λz=>.inl ⟨z.1,s _ _ z.2⟩) λ⟨z,o,y⟩=>.inr ⟨z,o,s _ _ y⟩⟩
theorem aH.mono(s:aZ F F'):∀(ts:List T) (vs:List V),aH K F ts vs→aH K F' ts vs
 | [],vs,h=>by rw[aH] at h ⊢;exact h
 | t::ts,vs,h=>by
  rw[aH] at h ⊢
  obtain⟨v,vs',e,q,r⟩:=h
  exact⟨v,vs',e,Rep.mono s t v q,aH.mono s ts vs' r⟩
theorem bS.mono(s:aZ F F'):∀(kts:List (Key×T)) (kvs:List (Key×V)),bS K F kts kvs→bS K F' kts kvs
 | [],vs,h=>by rw[bS] at h ⊢;exact h
 | (k,t)::ts,vs,h=>by
  rw[bS] at h ⊢
  obtain⟨v,vs',e,q,r⟩:=h
  exact⟨v,vs',e,Rep.mono s t v q,bS.mono s ts vs' r⟩
end
theorem Rep.kY{i:Int}{v:V}(h:Rep K F (.int i) v):v=.int i:=by rw[Rep] at h;exact h
theorem Rep.iu{i:Bool}{v:V}(h:Rep K F (.bl i) v):v=.bl i:=by rw[Rep] at h;exact h
theorem Rep.mJ{i:Str}{v:V}(h:Rep K F (.str i) v):v=.str i:=by rw[Rep] at h;exact h
theorem Rep.j4{v:V}(h:Rep K F .non v):v=.non:=by rw[Rep] at h;exact h
theorem Rep.iC(i:Int):Rep K F (.int i) (.int i):=by rw[Rep]
theorem Rep.bl'(i:Bool):Rep K F (.bl i) (.bl i):=by rw[Rep]
theorem Rep.GQ(i:Str):Rep K F (.str i) (.str i):=by rw[Rep]
theorem Rep.GR:Rep K F .non .non:=by rw[Rep]
theorem aH.length:∀{ts:List T}{vs:List V},aH K F ts vs→ts.length=vs.length
 | [],vs,h=>by rw[aH] at h;subst h;rfl
 | t::ts,vs,h=>by
  rw[aH] at h
  obtain⟨v,vs',rfl,_,r⟩:=h
  rw[List.length_cons,List.length_cons,aH.length r]
theorem aH.get:∀{ts:List T}{vs:List V}{i:Nat}{t:T},aH K F ts vs→ts[i]?=some t→∃v,vs[i]?=some v∧Rep K F t v
 | [],_,_,_,_,e=>by simp at e
 | t::ts,vs,0,t',h,e=>by
  rw[aH] at h
  obtain⟨v,vs',rfl,q,_⟩:=h
  simp at e;subst e
  exact⟨v,rfl,q⟩
 | t::ts,vs,i+1,t',h,e=>by
  rw[aH] at h
  obtain⟨v,vs',rfl,q,r⟩:=h
  obtain⟨v',h1,h2⟩:=aH.get (i:=i) r (by simpa using e)
  exact⟨v',by simpa using h1,h2⟩
theorem aH.append:∀{ts us:List T}{vs ws:List V},aH K F ts vs→aH K F us ws→aH K F (ts++us) (vs++ws)
 | [],us,vs,ws,h,g=>by rw[aH] at h;subst h;exact g
 | t::ts,us,vs,ws,h,g=>by
  rw[aH] at h
  obtain⟨v,vs',rfl,q,r⟩:=h
  rw[List.cons_append,List.cons_append,aH]
  exact⟨v,vs'++ws,rfl,q,r.append g⟩
theorem aH.kK:aH K F [] []:=by rw[aH]
theorem aH.gp{t:T}{v:V}{ts:List T}{vs:List V}(q:Rep K F t v)(r:aH K F ts vs):aH K F (t::ts) (v::vs):=by rw[aH];exact⟨v,vs,rfl,q,r⟩
theorem aH.one{t:T}{v:V}(q:Rep K F t v):aH K F [t] [v]:=.gp q .kK
theorem aH.take:∀{ts:List T}{vs:List V} (n:Nat),aH K F ts vs→aH K F (ts.take n) (vs.take n)
 | _,_,0,_=>by simpa using aH.kK
 | [],vs,n+1,h=>by rw[aH] at h;subst h;simpa using aH.kK
 | t::ts,vs,n+1,h=>by
  rw[aH] at h
  obtain⟨v,vs',rfl,q,r⟩:=h
  exact .gp q (r.take n)
theorem aH.drop:∀{ts:List T}{vs:List V} (n:Nat),aH K F ts vs→aH K F (ts.drop n) (vs.drop n)
 | _,_,0,h=>by simpa using h
 | [],vs,n+1,h=>by rw[aH] at h;subst h;simpa using aH.kK
 | t::ts,vs,n+1,h=>by
  rw[aH] at h
  obtain⟨v,vs',rfl,q,r⟩:=h
  exact r.drop n
theorem aH.set:∀{ts:List T}{vs:List V} (i:Nat) {t:T}{v:V},aH K F ts vs→Rep K F t v→aH K F (ts.set i t) (vs.set i v)
 | [],vs,i,_,_,h,_=>by rw[aH] at h;subst h;simpa using aH.kK
 | t::ts,vs,0,t',v',h,g=>by
  rw[aH] at h
  obtain⟨v,vs',rfl,q,r⟩:=h
  exact .gp g r
 | t::ts,vs,i+1,t',v',h,g=>by
  rw[aH] at h
  obtain⟨v,vs',rfl,q,r⟩:=h
  exact .gp q (r.set i g)
theorem aH.flat{ts:List T}{vs:List V}(h:aH K F ts vs):∀k:Nat,aH K F (List.replicate k ts).flatten (List.replicate k vs).flatten
 | 0=>by simpa using aH.kK
 | k+1=>by
  rw[List.replicate_succ,List.replicate_succ,List.flatten_cons,List.flatten_cons]
  exact h.append (h.flat k)
theorem aH.u5:∀(ns:List Int),aH K F (ns.map T.int) (ns.map V.int)
 | []=>.kK
 | n::ns=>.gp (Rep.iC n) (aH.u5 ns)
def Now(K:PySem.W.Frag)(F H:Hp)(v:V):T→Prop
 | .lst ts=>∃a vs,v=.ref a∧SqL K H a vs∧aH K F ts vs
 | .tup ts=>∃a vs,v=.ref a∧SqT K F a vs∧aH K F ts vs
 | .dct kts=>∃a kvs,v=.ref a∧H a=some (.dK kvs)∧bS K F kts kvs
 | .dtt fz kts=>∃a,v=.ref a∧Rd H a (.dT (kvT kts))
 | t=>Rep K F t v
theorem Now.DH(s:aZ F H){t:T}{v:V}(h:Rep K F t v):Now K F H v t:=by
 cases t with
 | lst ts=>rw[Rep] at h;obtain⟨a,vs,e,q,r⟩:=h;exact⟨a,vs,e,s.seq q,r⟩
 | tup ts=>rw[Rep] at h;obtain⟨a,vs,e,q,r⟩:=h;exact⟨a,vs,e,q,r⟩
 | dct ts=>rw[Rep] at h;obtain⟨a,vs,e,q,r⟩:=h;exact⟨a,vs,e,s _ _ q,r⟩
 | dtt fz ts=>rw[Rep] at h;obtain⟨a,e,q⟩:=h;exact⟨a,e,q.elim (λz=>.inl (s _ _ z.2)) λ⟨_,o,y⟩=>.inr ⟨o,s _ _ y⟩⟩
 | _=>exact h
theorem Now.int{i:Int}{v:V}(h:Now K F H v (.int i)):v=.int i:=Rep.kY (K:=K) (F:=F) h
theorem Now.bl{i:Bool}{v:V}(h:Now K F H v (.bl i)):v=.bl i:=Rep.iu (K:=K) (F:=F) h
theorem Now.str{i:Str}{v:V}(h:Now K F H v (.str i)):v=.str i:=Rep.mJ (K:=K) (F:=F) h
end
def u6(K:PySem.W.Frag)(F:Hp)(α:List Addr)(v:V):Sum T Nat→Prop
 | .inl t=>Rep K F t v
 | .inr k=>∃a,α[k]?=some a∧v=.ref a
def f_(K:PySem.W.Frag)(F:Hp)(α:List Addr)(v:V):SV→Prop
 | .val t=>Rep K F t v
 | .cel k=>∃a,α[k]?=some a∧v=.ref a
 | .box xs=>∃a vs,v=.ref a∧SqT K F a vs∧Paired (u6 K F α) vs xs
def iO(K:PySem.W.Frag)(F H:Hp)(a:Addr):T→Prop
 | .lst ts=>∃vs,H a=some (.lst vs)∧aH K F ts vs
 | .dct kts=>∃kvs,H a=some (.dK kvs)∧bS K F kts kvs
 | .dtt fz kts=>fz=false∧H a=some (.dT (kvT kts))
 | _=>False
def Tps(F H:Hp):Prop:=∀b xs,H b=some (.tup xs)→F b=some (.tup xs)
def NT(o:HO):Prop:=∀xs,o≠.tup xs
theorem Tps.upd{F H:Hp}{p:Addr}{o:HO}(h:Tps F H)(n:NT o):Tps F (upd H p o):=λb xs q=>by
 by_cases e:b=p
 ·subst e;rw[aM] at q;cases q;exact absurd rfl (n _)
 ·rw[aO e] at q;exact h _ _ q
theorem Tps.mono{F F' H:Hp}(h:Tps F H)(s:aZ F F'):Tps F' H:=λb xs q=>s _ _ (h b xs q)
theorem iO.nt{K:PySem.W.Frag}{F H:Hp}{a:Addr}{t:T}{o:HO}(c:iO K F (upd H a o) a t):NT o:=λxs e=>by
 subst e
 cases t with
 | lst ts=>obtain⟨vs,h1,_⟩:=c;rw[aM] at h1;cases h1
 | dct ts=>obtain⟨vs,h1,_⟩:=c;rw[aM] at h1;cases h1
 | dtt fz ts=>have h1:=c.2;rw[aM] at h1;cases h1
 | _=>exact c.elim
structure dA(K:PySem.W.Frag)(F:Hp)(α:List Addr)(μ:af)(H:Hp):Prop where
 ext:aZ F H
 len:α.length=μ.length
 nd:α.Nodup
 there:∀(k:Nat) (a:Addr),α[k]?=some a→∃o,H a=some o
 cell:∀(k:Nat) (b:Bool) (t:T) (a:Addr),μ[k]?=some (b,t)→α[k]?=some a→(b=true→F a=none∧iO K F H a t)∧(b=false→Rep K F t (.ref a))
 tps:Tps F H
structure Sim(K:PySem.W.Frag)(F:Hp)(α:List Addr)(e:Slots)(μ:af)(σ:St)(H:Hp):Prop where
 st:dA K F α μ H
 sl:∀i x,slot e i=some x→∃v,σ[i]?=some (some v)∧f_ K F α v x
 len:e.length=σ.length
section
variable{K:PySem.W.Frag}{F F' F2 H H':Hp}{α α':List Addr}{e:Slots}{μ:af}{σ:St}{v:V}{x:SV}{t:T}
theorem lT{k:Nat}{a:Addr}(p:α <+: α')(h:α[k]?=some a):α'[k]?=some a:=by
 obtain⟨l,rfl⟩:=p
 have hk:k<α.length:=(List.getElem?_eq_some_iff.mp h).1
 rw[List.getElem?_append_left hk];exact h
theorem u6.mono{y:Sum T Nat}(s:aZ F F')(p:α <+: α')(h:u6 K F α v y):u6 K F' α' v y:=by
 cases y with
 | inl t=>exact Rep.mono s t v h
 | inr k=>obtain⟨a,h1,h2⟩:=h;exact⟨a,lT p h1,h2⟩
theorem f_.mono(s:aZ F F')(p:α <+: α')(h:f_ K F α v x):f_ K F' α' v x:=by
 cases x with
 | val t=>exact Rep.mono s t v h
 | cel k=>obtain⟨a,h1,h2⟩:=h;exact⟨a,lT p h1,h2⟩
 | box xs=>obtain⟨a,vs,e,q,r⟩:=h;exact⟨a,vs,e,aZ.i5 s q,Paired.imp' (λ_ _ z=>u6.mono s p z) r⟩
theorem bC(S:dA K F α μ H)(h:f_ K F α v x)(r:rd μ x=some t):Now K F H v t:=by
 cases x with
 | val u=>cases r;exact Now.DH S.ext h
 | cel k =>
  obtain⟨a,h1,rfl⟩:=h
  cases q:μ[k]? with
  | none=>simp[rd,q] at r
  | some c =>
   obtain⟨b,u⟩:=c
   simp only[rd,q,Option.map_some] at r
   cases r
   obtain⟨c1,c2⟩:=S.cell k b t a q h1
   cases b with
   | false=>exact Now.DH S.ext (c2 rfl)
   | true =>
    obtain⟨_,c⟩:=c1 rfl
    cases t with
    | lst ts=>obtain⟨vs,g1,g2⟩:=c;exact⟨a,vs,rfl,SqL.of g1,g2⟩
    | dct ts=>obtain⟨vs,g1,g2⟩:=c;exact⟨a,vs,rfl,g1,g2⟩
    | dtt fz ts=>exact⟨a,rfl,.inl c.2⟩
    | _=>exact c.elim
 | box xs=>cases r
def b8(F H F' H':Hp):Prop:=∀b,(F' b=F b∧H' b=H b)∨(H b=none∧F' b=H' b)
theorem b8.refl:b8 F H F H:=λ_=>.inl ⟨rfl,rfl⟩
theorem b8.new{p:Addr}{o:HO}(h:H p=none):b8 F H (upd F p o) (upd H p o):=λb=>by
 by_cases e:b=p
 ·subst e;exact .inr ⟨h,by rw[aM,aM]⟩
 ·exact .inl ⟨aO e,aO e⟩
theorem b8.same(g:b8 F H F' H')(s:aZ F H):aZ F F':=λb o h=>by
 rcases g b with ⟨e1,e2⟩|⟨e1,e2⟩
 ·rw[e1];exact h
 ·rw[s b o h] at e1;cases e1
theorem b8.ext(g:b8 F H F' H')(s:aZ F H):aZ F' H':=λb o h=>by
 rcases g b with ⟨e1,e2⟩|⟨e1,e2⟩
 ·rw[e2];rw[e1] at h;exact s b o h
 ·rw[← e2];exact h
theorem iO.grow(g:b8 F H F' H')(s:aZ F H){a:Addr}(h:iO K F H a t):iO K F' H' a t:=by
 have keep:∀{o:HO},H a=some o→H' a=some o:=λ{o} h=>by
  rcases g a with ⟨e1,e2⟩|⟨e1,e2⟩
  ·rw[e2];exact h
  ·rw[h] at e1;cases e1
 cases t with
 | lst ts=>obtain⟨vs,h1,h2⟩:=h;exact⟨vs,keep h1,aH.mono (g.same s) _ _ h2⟩
 | dct ts=>obtain⟨vs,h1,h2⟩:=h;exact⟨vs,keep h1,bS.mono (g.same s) _ _ h2⟩
 | dtt fz ts=>exact⟨h.1,keep h.2⟩
 | _=>exact h.elim
theorem iO.there{a:Addr}(h:iO K F H a t):∃o,H a=some o:=by
 cases t with
 | lst ts=>obtain⟨vs,h1,h2⟩:=h;exact⟨_,h1⟩
 | dct ts=>obtain⟨vs,h1,h2⟩:=h;exact⟨_,h1⟩
 | dtt fz ts=>exact⟨_,h.2⟩
 | _=>exact h.elim
theorem dA.grow(S:dA K F α μ H)(g:b8 F H F' H'):dA K F' α μ H' where
 ext:=g.ext S.ext
 len:=S.len
 nd:=S.nd
 there:=λk a h=>by
  obtain⟨o,ho⟩:=S.there k a h
  rcases g a with ⟨e1,e2⟩|⟨e1,e2⟩
  ·exact⟨o,by rw[e2];exact ho⟩
  ·rw[ho] at e1;cases e1
 cell:=λk b t a h1 h2=>by
  obtain⟨c1,c2⟩:=S.cell k b t a h1 h2
  refine⟨λhb=>?_,λhb=>Rep.mono (g.same S.ext) _ _ (c2 hb)⟩
  obtain⟨d1,d2⟩:=c1 hb
  refine⟨?_,d2.grow g S.ext⟩
  obtain⟨o,ho⟩:=d2.there
  rcases g a with ⟨e1,e2⟩|⟨e1,e2⟩
  ·rw[e1];exact d1
  ·rw[ho] at e1;cases e1
 tps:=λb xs q=>by
  rcases g b with ⟨e1,e2⟩|⟨e1,e2⟩
  ·rw[e1];rw[e2] at q;exact S.tps _ _ q
  ·rw[e2];exact q
theorem Sim.grow(S:Sim K F α e μ σ H)(g:b8 F H F' H'):Sim K F' α e μ σ H' where
 st:=S.st.grow g
 sl:=λi x h=>by
  obtain⟨v,h1,h2⟩:=S.sl i x h
  exact⟨v,h1,h2.mono (g.same S.st.ext) (List.prefix_refl _)⟩
 len:=S.len
theorem Sim.of(S:Sim K F α e μ σ H){μ':af}(s:aZ F F')(p:α <+: α')(S':dA K F' α' μ' H'):Sim K F' α' e μ' σ H' :=
 ⟨S',λi x h=>by
  obtain⟨v,h1,h2⟩:=S.sl i x h
  exact⟨v,h1,h2.mono s p⟩,S.len⟩
theorem qT{k j:Nat}{a:Addr}(n:α.Nodup)(h1:α[k]?=some a)(h2:α[j]?=some a):k=j:=by
 obtain⟨a1,b1⟩:=List.getElem?_eq_some_iff.mp h1
 obtain⟨a2,b2⟩:=List.getElem?_eq_some_iff.mp h2
 exact (List.getElem_inj n).mp (b1.trans b2.symm)
theorem Ap{k:Nat}(S:dA K F α μ H)(h:∃a,α[k]?=some a∧v=.ref a){μ':af}(r:frz (.cel k) μ=.ok t μ'):∃F',aZ F F'∧(∀b,b∉α→F' b=F b)∧dA K F' α μ' H∧Rep K F' t v:=by
  obtain⟨a,h1,rfl⟩:=h
  unfold frz at r
  cases q:μ[k]? with
  | none=>simp only[q] at r;cases r
  | some c =>
   obtain⟨b,u⟩:=c
   simp only[q] at r
   cases r
   have hk:k<μ.length:=(List.getElem?_eq_some_iff.mp q).1
   obtain⟨c1,c2⟩:=S.cell k b t a q h1
   have main:∃F',aZ F F'∧aZ F' H∧Rep K F' t (.ref a)∧∀c,c≠a→F' c=F c:=by
    cases b with
    | false=>exact⟨F,aZ.refl F,S.ext,c2 rfl,λ_ _=>rfl⟩
    | true =>
     obtain⟨d1,d2⟩:=c1 rfl
     obtain⟨o,ho⟩:=d2.there
     have s1:aZ F (upd F a o):=λc z hz=>by
      rw[aO (λq=>by subst q;rw[d1] at hz;cases hz)];exact hz
     refine⟨upd F a o,s1,λc z hz=>?_,?_,λc hc=>aO hc⟩
     ·by_cases e:c=a
      ·subst e;rw[aM] at hz;cases hz;exact ho
      ·rw[aO e] at hz;exact S.ext c z hz
     ·cases t with
      | lst ts=>obtain⟨vs,g1,g2⟩:=d2;rw[g1] at ho;cases ho;rw[Rep];exact⟨a,vs,rfl,SqL.of aM,aH.mono s1 _ _ g2⟩
      | dct ts=>obtain⟨vs,g1,g2⟩:=d2;rw[g1] at ho;cases ho;rw[Rep];exact⟨a,vs,rfl,aM,bS.mono s1 _ _ g2⟩
      | dtt fz ts=>obtain⟨d4,d3⟩:=d2;rw[d3] at ho;cases ho;rw[Rep];exact⟨a,rfl,.inl ⟨d4,aM⟩⟩
      | _=>exact d2.elim
   obtain⟨F',s1,s2,rp,ne⟩:=main
   refine⟨F',s1,λc hc=>ne c λq=>hc (by rw[q];exact List.mem_of_getElem? h1),⟨s2,by rw[List.length_set];exact S.len,S.nd,S.there,λj b' u' a' g1 g2=>?_,S.tps.mono s1⟩,rp⟩
   by_cases e:j=k
   ·subst e
    rw[List.getElem?_set_self hk] at g1
    cases g1
    rw[h1] at g2;cases g2
    exact⟨λz=>(by cases z),λ_=>rp⟩
   ·rw[List.getElem?_set_ne (Ne.symm e)] at g1
    obtain⟨z1,z2⟩:=S.cell j b' u' a' g1 g2
    have na:a'≠a:=λq=>by subst q;exact e (qT S.nd g2 h1)
    refine⟨λhb=>?_,λhb=>Rep.mono s1 _ _ (z2 hb)⟩
    obtain⟨y1,y2⟩:=z1 hb
    refine⟨by rw[ne _ na];exact y1,?_⟩
    cases u' with
    | lst ts=>obtain⟨vs,w1,w2⟩:=y2;exact⟨vs,w1,aH.mono s1 _ _ w2⟩
    | dct ts=>obtain⟨vs,w1,w2⟩:=y2;exact⟨vs,w1,bS.mono s1 _ _ w2⟩
    | dtt fz ts=>exact y2
    | _=>exact y2.elim
theorem GS(k:Nat)(μ:af):sZ (.inr k) μ=frz (.cel k) μ:=by unfold sZ frz;rfl
theorem wM:∀{xs:List (Sum T Nat)}{vs:List V}{μ μ':af}{F:Hp}{ts:List T},dA K F α μ H→Paired (u6 K F α) vs xs→jI xs μ=.ok ts μ'→∃F',aZ F F'∧(∀b,b∉α→F' b=F b)∧dA K F' α μ' H∧aH K F' ts vs
 | [],vs,μ,μ',F,ts,S,p,r=>by
  cases p
  cases r
  exact⟨F,aZ.refl F,λ_ _=>rfl,S,aH.kK⟩
 | x::xs,vs,μ,μ',F,ts,S,p,r=>by
  cases p with
  | @cons v₁ _ vs₁ _ hv p =>
   unfold jI at r
   obtain⟨t,μ1,r1,r⟩:=R.bc r
   obtain⟨ts',μ2,r2,r⟩:=R.bc r
   cases r
   have one:∃F',aZ F F'∧(∀b,b∉α→F' b=F b)∧dA K F' α μ1 H∧Rep K F' t v₁:=by
    cases x with
    | inl u=>cases r1;exact⟨F,aZ.refl F,λ_ _=>rfl,S,hv⟩
    | inr k=>rw[GS] at r1;exact Ap S hv r1
   obtain⟨F1,s1,n1,S1,q1⟩:=one
   obtain⟨F2,s2,n2,S2,q2⟩:=wM S1 (Paired.imp' (λ_ _ z=>u6.mono s1 (List.prefix_refl _) z) p) r2
   exact⟨F2,s1.trans s2,λb hb=>(n2 b hb).trans (n1 b hb),S2,.gp (Rep.mono s2 _ _ q1) q2⟩
theorem oW(S:dA K F α μ H)(h:f_ K F α v x){μ':af}(r:frz x μ=.ok t μ'):∃F',aZ F F'∧(∀b,b∉α→F' b=F b)∧dA K F' α μ' H∧Rep K F' t v:=by
 cases x with
 | val u=>cases r;exact⟨F,aZ.refl F,λ_ _=>rfl,S,h⟩
 | cel k=>exact Ap S h r
 | box xs =>
  obtain⟨a,vs,rfl,q,p⟩:=h
  unfold frz at r
  obtain⟨ts,μ1,r1,r⟩:=R.bc r
  cases r
  obtain⟨F1,s1,n1,S1,q1⟩:=wM S p r1
  refine⟨F1,s1,n1,S1,?_⟩
  rw[Rep]
  exact⟨a,vs,rfl,aZ.i5 s1 q,q1⟩
theorem ql:∀{xs:List SV}{vs:List V}{μ μ':af}{F:Hp}{ts:List T},dA K F α μ H→Paired (λv x=>f_ K F α v x) vs xs→eB xs μ=.ok ts μ'→∃F',aZ F F'∧(∀b,b∉α→F' b=F b)∧dA K F' α μ' H∧aH K F' ts vs
 | [],vs,μ,μ',F,ts,S,p,r=>by
  cases p
  cases r
  exact⟨F,aZ.refl F,λ_ _=>rfl,S,aH.kK⟩
 | x::xs,vs,μ,μ',F,ts,S,p,r=>by
  cases p with
  | cons hv p =>
   rw[lR] at r
   obtain⟨t,μ1,r1,r⟩:=R.bc r
   obtain⟨ts',μ2,r2,r⟩:=R.bc r
   cases r
   obtain⟨F1,s1,n1,S1,q1⟩:=oW S hv r1
   obtain⟨F2,s2,n2,S2,q2⟩:=ql S1 (Paired.imp' (λ_ _ z=>f_.mono s1 (List.prefix_refl _) z) p) r2
   exact⟨F2,s1.trans s2,λb hb=>(n2 b hb).trans (n1 b hb),S2,.gp (Rep.mono s2 _ _ q1) q2⟩
theorem yH(S:dA K F α μ H){k:Nat}{a:Addr}{t₀:T}{o:HO}(hk:μ[k]?=some (true,t₀))(ha:α[k]?=some a)(c:iO K F (upd H a o) a t):dA K F α (μ.set k (true,t)) (upd H a o):=by
 have hlt:k<μ.length:=(List.getElem?_eq_some_iff.mp hk).1
 have hF:=((S.cell k true t₀ a hk ha).1 rfl).1
 refine⟨λb z hz=>?_,by rw[List.length_set];exact S.len,S.nd,λj b h=>?_,λj b u a' h1 h2=>?_,S.tps.upd c.nt⟩
 ·rw[aO (λq=>by subst q;rw[hF] at hz;cases hz)];exact S.ext b z hz
 ·by_cases e:b=a
  ·subst e;exact⟨o,aM⟩
  ·rw[aO e];exact S.there j b h
 ·by_cases e:j=k
  ·subst e
   rw[List.getElem?_set_self hlt] at h1
   cases h1
   rw[ha] at h2;cases h2
   exact⟨λ_=>⟨hF,c⟩,λz=>(by cases z)⟩
  ·rw[List.getElem?_set_ne (Ne.symm e)] at h1
   have na:a'≠a:=λq=>by subst q;exact e (qT S.nd h2 ha)
   obtain⟨c1,c2⟩:=S.cell j b u a' h1 h2
   refine⟨λhb=>⟨(c1 hb).1,?_⟩,c2⟩
   have d:=(c1 hb).2
   cases u with
   | lst ts=>obtain⟨vs,w1,w2⟩:=d;exact⟨vs,by rw[aO na];exact w1,w2⟩
   | dct ts=>obtain⟨vs,w1,w2⟩:=d;exact⟨vs,by rw[aO na];exact w1,w2⟩
   | dtt fz ts=>exact⟨d.1,(aO na).trans d.2⟩
   | _=>exact d.elim
theorem dA.take{β:List Addr}(S:dA K F β μ H)(n:Nat):dA K F (β.take n) (μ.take n) H:=by
 have cut:∀{γ:Type}{l:List γ}{k:Nat}{z:γ},(l.take n)[k]?=some z→l[k]?=some z:=λ{γ l k z} h=>by
  rw[List.getElem?_take] at h
  split at h
  ·exact h
  ·cases h
 exact⟨S.ext,by rw[List.length_take,List.length_take,S.len],S.nd.sublist (List.take_sublist _ _),λk a h=>S.there k a (cut h),λk b t a h1 h2=>S.cell k b t a (cut h1) (cut h2),S.tps⟩
theorem Mr{μ₀:af}{β:List Addr}{r:SV}{μ':af}(hα:α.length=μ₀.length)(p:α <+: β)(S:dA K F β μ H)(h:f_ K F β v x)(hg:gc μ₀.length x μ=.ok r μ') :
  ∃γ,α <+: γ∧(∀b,b∈γ→b∈β)∧dA K F γ μ' H∧f_ K F γ v r:=by
 have hn:β.take μ₀.length=α:=by
  rw[← hα]
  obtain⟨l,rfl⟩:=p
  simp
 have hp:α <+: β.take μ₀.length:=by rw[hn];exact List.prefix_refl _
 unfold gc at hg
 cases x with
 | val t =>
  simp only at hg
  cases hg
  exact⟨β.take μ₀.length,hp,λb hb=>List.mem_of_mem_take hb,S.take _,h⟩
 | cel k =>
  obtain⟨a,ha,rfl⟩:=h
  simp only at hg
  by_cases hk:k<μ₀.length
  ·rw[if_pos hk] at hg
   cases hg
   exact⟨β.take μ₀.length,hp,λb hb=>List.mem_of_mem_take hb,S.take _,a,by rw[List.getElem?_take_of_lt hk];exact ha,rfl⟩
  ·rw[if_neg hk] at hg
   cases hc:μ[k]? with
   | none=>rw[hc] at hg;cases hg
   | some c =>
    rw[hc] at hg
    cases hg
    have T:=S.take μ₀.length
    have hl:(β.take μ₀.length).length=μ₀.length:=by rw[hn];exact hα
    have hl2:(μ.take μ₀.length).length=μ₀.length:=by rw[← T.len];exact hl
    have qU:∀{γ:Type}{l:List γ}{z:γ}{j:Nat}{y:γ},l.length=μ₀.length→(l++[z])[j]?=some y→(j<μ₀.length∧l[j]?=some y)∨(j=μ₀.length∧y=z):=λ{γ l z j y} e h=>by
     by_cases hj:j<l.length
     ·rw[List.getElem?_append_left hj] at h;exact .inl ⟨by lia,h⟩
     ·rw[List.getElem?_append_right (by lia)] at h
      by_cases h0:j-l.length=0
      ·rw[h0] at h;simp at h;exact .inr ⟨by lia,h.symm⟩
      ·rw[List.getElem?_eq_none (by simp;lia)] at h;cases h
    have cut:∀{γ:Type}{l:List γ}{j:Nat}{z:γ},(l.take μ₀.length)[j]?=some z→l[j]?=some z:=λ{γ l j z} h=>by
     rw[List.getElem?_take] at h
     split at h
     ·exact h
     ·cases h
    refine⟨β.take μ₀.length++[a],hp.trans (List.prefix_append _ _),λb hb=>(List.mem_append.mp hb).elim (λz=>List.mem_of_mem_take z) λz=>by simp at z;subst z;exact List.mem_of_getElem? ha,⟨S.ext,by rw[List.length_append,List.length_append,hl,hl2];rfl,?_,λj b g=>?_,λj b u a' g1 g2=>?_,S.tps⟩,a,?_,rfl⟩
    ·rw[List.nodup_append]
     refine⟨T.nd,by simp,λb hb b' hb'=>?_⟩
     simp at hb'
     subst hb'
     intro q
     subst q
     obtain⟨j,hj⟩:=List.mem_iff_getElem?.mp hb
     have hj':j<μ₀.length:=by rw[← hl];exact (List.getElem?_eq_some_iff.mp hj).1
     have:=qT S.nd (cut hj) ha
     lia
    ·rcases qU hl g with ⟨_,g'⟩|⟨_,rfl⟩
     ·exact T.there j b g'
     ·exact S.there k _ ha
    ·rcases qU hl g2 with ⟨hj,g'⟩|⟨hj,rfl⟩
     ·rcases qU hl2 g1 with ⟨_,g1'⟩|⟨hj',_⟩
      ·exact T.cell j b u a' g1' g'
      ·lia
     ·rcases qU hl2 g1 with ⟨hj',_⟩|⟨_,e⟩
      ·lia
      ·exact S.cell k b u _ (by rw[hc,e]) ha
    ·rw[List.getElem?_append_right (by lia),hl]
     simp
 | box xs=>cases hg
theorem DJ{μ₀:af}{β:List Addr}{r:SV}{μ':af}(hα:α.length=μ₀.length)(p:α <+: β)(S:dA K F β μ H)(h:f_ K F β v x)(hg:ice μ₀.length x μ=.ok r μ') :
  ∃F',aZ F F'∧(∀b,b∉β→F' b=F b)∧dA K F' α μ' H∧f_ K F' α v r:=by
 unfold ice at hg
 obtain⟨t,μ1,h1,hg⟩:=R.bc hg
 cases hg
 obtain⟨F1,s1,n1,S1,q1⟩:=oW S h h1
 have hn:β.take μ₀.length=α:=by
  rw[← hα]
  obtain⟨l,rfl⟩:=p
  simp
 have S2:=S1.take μ₀.length
 rw[hn] at S2
 exact⟨F1,s1,n1,S2,q1⟩
end
structure Ex(F:Hp)(α:List Addr)(H F':Hp)(α':List Addr)(H':Hp):Prop where
 same:aZ F F'
 pre:α <+: α'
 fr:∀b o,H b=some o→F b=none→b∉α→H' b=some o∧F' b=none∧b∉α'
section
variable{K:PySem.W.Frag}{F F' F1 F2 H H' H1 H2:Hp}{α α' α1 α2:List Addr}{μ μ':af}
theorem Ex.refl:Ex F α H F α H:=⟨aZ.refl F,List.prefix_refl _,λ_ _ h1 h2 h3=>⟨h1,h2,h3⟩⟩
theorem Ex.trans(x:Ex F α H F1 α1 H1)(y:Ex F1 α1 H1 F2 α2 H2):Ex F α H F2 α2 H2 :=
 ⟨x.same.trans y.same,x.pre.trans y.pre,λb o h1 h2 h3=>let ⟨g1,g2,g3⟩:=x.fr b o h1 h2 h3;y.fr b o g1 g2 g3⟩
theorem Ex.qV(s:aZ F F')(n:∀b,b∉α→F' b=F b):Ex F α H F' α H:=⟨s,List.prefix_refl _,λb o h1 h2 h3=>⟨h1,by rw[n b h3];exact h2,h3⟩⟩
theorem b8.ex(g:b8 F H F' H')(s:aZ F H):Ex F α H F' α H':=⟨g.same s,List.prefix_refl _,λb o h1 h2 h3=>by
 rcases g b with ⟨e1,e2⟩|⟨e1,e2⟩
 ·exact⟨by rw[e2];exact h1,by rw[e1];exact h2,h3⟩
 ·rw[h1] at e1;cases e1⟩
theorem Ex.was{p:Addr}(x:Ex F α H F1 α1 H1)(S:dA K F1 α1 μ H1)(h:H1 p=none):H p=none:=by
 cases q:H p with
 | none=>rfl
 | some o =>
  exfalso
  cases f:F p with
  | some z=>rw[S.ext p z (x.same p z f)] at h;cases h
  | none =>
   by_cases hm:p∈α
   ·obtain⟨k,hk⟩:=List.mem_iff_getElem?.mp hm
    obtain⟨z,hz⟩:=S.there k p (lT x.pre hk)
    rw[hz] at h;cases h
   ·rw[(x.fr p o q f hm).1] at h;cases h
theorem Ex.lay{p:Addr}{o:HO}(h:H p=none):Ex F α H F α (upd H p o):=⟨aZ.refl F,List.prefix_refl _,λb z h1 h2 h3=>⟨by rw[aO (λq=>by subst q;rw[h] at h1;cases h1)];exact h1,h2,h3⟩⟩
theorem Ex.put{k:Nat}{a:Addr}{o:HO}(ha:α[k]?=some a):Ex F α H F α (upd H a o):=⟨aZ.refl F,List.prefix_refl _,λb z h1 h2 h3=>⟨by rw[aO (λq=>h3 (by rw[q];exact List.mem_of_getElem? ha))];exact h1,h2,h3⟩⟩
theorem Ex.more{p:Addr}(x:Ex F α H F' α' H')(h:H p=none):Ex F α H F' (α'++[p]) H':=⟨x.same,x.pre.trans (List.prefix_append _ _),λb o h1 h2 h3=>by
 obtain⟨g1,g2,g3⟩:=x.fr b o h1 h2 h3
 refine⟨g1,g2,λhm=>?_⟩
 rcases List.mem_append.mp hm with z|z
 ·exact g3 z
 ·simp at z;subst z;rw[h] at h1;cases h1⟩
theorem Ex.ice{p:Addr}{o:HO}(x:Ex F α H F' α' H')(h:H p=none)(h':F' p=none):Ex F α H (upd F' p o) α' H':=⟨x.same.trans λb z hz=>by
  rw[aO (λq=>by subst q;rw[h'] at hz;cases hz)];exact hz,x.pre,λb z h1 h2 h3=>by
 obtain⟨g1,g2,g3⟩:=x.fr b z h1 h2 h3
 exact⟨g1,by rw[aO (λq=>by subst q;rw[h] at h1;cases h1)];exact g2,g3⟩⟩
end
theorem bS.length{K:PySem.W.Frag}{F:Hp}:∀{ts:List (Key×T)}{vs:List (Key×V)},bS K F ts vs→ts.length=vs.length
 | [],vs,h=>by rw[bS] at h;subst h;rfl
 | (k,t)::ts,vs,h=>by
  rw[bS] at h
  obtain⟨v,vs',rfl,_,r⟩:=h
  rw[List.length_cons,List.length_cons,bS.length r]
def R.wp{α:Type}(r:R α)(Q:α→af→Prop)(E:T→af→Prop):Prop:=match r with
 | .ok a μ=>Q a μ
 | .err c μ=>E c μ
 | .bad=>False
theorem R.wp_bind{α β:Type}{r:R α}{f:α→af→R β}{Q:β→af→Prop}{E:T→af→Prop}(h:(r.bind f).wp Q E):r.wp (λa μ=>(f a μ).wp Q E) E:=by
 cases r<;>exact h
theorem R.wp.mono{α:Type}{r:R α}{Q Q':α→af→Prop}{E E':T→af→Prop}(h:r.wp Q E)(hQ:∀a μ,Q a μ→Q' a μ)(hE:∀c μ,E c μ→E' c μ):r.wp Q' E':=by
 cases r with
 | ok a μ=>exact hQ a μ h
 | err c μ=>exact hE c μ h
 | bad=>exact h
theorem R.bO{α:Type}{o:Option α}{μ:af}{Q:α→af→Prop}{E:T→af→Prop}(h:(R.lift o μ).wp Q E):∃a,o=some a∧Q a μ:=by
 cases o with
 | none=>exact h.elim
 | some a=>exact⟨a,rfl,h⟩
def Bz(K:PySem.W.Frag)(F:Hp)(α:List Addr)(H:Hp)(e:Slots)(σ:St)(Q:VK)(x:SV)(μ:af):Prop :=
 ∀v H' F' α',Ex F α H F' α' H'→Sim K F' α' e μ σ H'→f_ K F' α' v x→Q v H'
def Ms(X:Cx)(pins:List (Addr×Obj))(σ:St)(H:Hp)(c:T)(ev:Value)(s':Shared):Prop :=
 ∃n C,c=.exc n none∧X.mg n=some (.ref C)∧((X.calm=true∧∃s h' e vs,Inv X pins σ H s∧Heap.MadeExcOf s.heap h' e (.ref C) vs∧ev=.ref e∧s'={ s with heap:=h' }) ∨
  (∃H0 s,Inv X pins σ H0 s∧CX1 X.prog X.w X.stack H0 s (λcv _ H'=>cv=.ref C∧H'=H) ev s')∨(X.calm=true∧∃e t B,ev=.ref e∧Hel X pins σ H e t C B s'))
def fG(X:Cx)(F:Hp)(α:List Addr)(H:Hp)(e:Slots)(c:T)(μ:af):Prop :=
 ∀ev s',(∃pins σ' H' F' α',Ex F α H F' α' H'∧Sim X.K F' α' e μ σ' H'∧Ms X pins σ' H' c ev s')→X.xe ev s'
theorem fG.mono{X:Cx}{F F1 H H1:Hp}{α α1:List Addr}{e:Slots}{c:T}{μ:af}(x:Ex F α H F1 α1 H1)(h:fG X F α H e c μ):fG X F1 α1 H1 e c μ :=
 λev s' ⟨pins,σ',H',F',α',y,S,f⟩=>h ev s' ⟨pins,σ',H',F',α',x.trans y,S,f⟩
def tD(X:Cx)(d:D):TE:=λσ H Q=>∃F α e μ,Sim X.K F α e μ σ H∧(d e μ).wp (Bz X.K F α H e σ Q) (fG X F α H e)
def tDT(X:Cx)(d:D):TT:=λσ H Q=>∃F α e μ,Sim X.K F α e μ σ H∧(d e μ).wp (λx μ'=>∃b,x=.val (.bl b) ∧
 ∀H' F' α',Ex F α H F' α' H'→Sim X.K F' α' e μ' σ H'→Q b H') (fG X F α H e)
def tDA(X:Cx)(ds:List D):TA:=λσ H Q=>∃F α e μ,Sim X.K F α e μ σ H∧(eF ds e μ).wp (λxs μ' =>
 ∀vs H' F' α',Ex F α H F' α' H'→Sim X.K F' α' e μ' σ H'→Paired (λv x=>f_ X.K F' α' v x) vs xs→Q vs H') (fG X F α H e)
def CE(X:Cx)(e:Expr)(d:D):Prop:=PE X e (tD X d)
def CT(X:Cx)(e:Expr)(d:D):Prop:=PT X e (tDT X d)
def CA(X:Cx)(es:List Expr)(ds:List D):Prop:=PA X es (tDA X ds)
theorem PE.imp{X:Cx}{e:Expr}{t t':TE}(h:PE X e t)(i:∀σ H Q,t' σ H Q→t σ H Q):PE X e t':=λpins s σ H Q I q=>h pins s σ H Q I (i σ H Q q)
theorem PT.imp{X:Cx}{e:Expr}{t t':TT}(h:PT X e t)(i:∀σ H Q,t' σ H Q→t σ H Q):PT X e t':=λpins s σ H Q I q=>h pins s σ H Q I (i σ H Q q)
theorem PA.imp{X:Cx}{e:List Expr}{t t':TA}(h:PA X e t)(i:∀σ H Q,t' σ H Q→t σ H Q):PA X e t':=λpos pins s σ H Q I q=>h pos pins s σ H Q I (i σ H Q q)
theorem PS.imp{X:Cx}{e:Stmt}{t t':TS}(h:PS X e t)(i:∀D σ H,t' D σ H→t D σ H):PS X e t':=λpins s σ H D I q=>h pins s σ H D I (i D σ H q)
theorem PSs.imp{X:Cx}{e:List Stmt}{t t':TS}(h:PSs X e t)(i:∀D σ H,t' D σ H→t D σ H):PSs X e t':=λpins s σ H D I q=>h pins s σ H D I (i D σ H q)
def eK(K:PySem.W.Frag)(r:R2)(f:T→T→Option T):Prop:=∀F H v u t t' w Q,aZ F H→Now K F H v t→Now K F H u t'→f t t'=some w →
 (∀v' H' F',b8 F H F' H'→Rep K F' w v'→Q v' H')→r v u H Q
def Io(K:PySem.W.Frag)(r:V→Hp→VK→Prop)(f:T→Option T):Prop:=∀F H v t w Q,aZ F H→Now K F H v t→f t=some w →
 (∀v' H' F',b8 F H F' H'→Rep K F' w v'→Q v' H')→r v H Q
def qW(K:PySem.W.Frag)(r:List V→Hp→VK→Prop)(f:T→Option T):Prop:=∀F H v t w Q,aZ F H→Now K F H v t→f t=some w →
 (∀v' H' F',b8 F H F' H'→Rep K F' w v'→Q v' H')→r [v] H Q
def wN(K:PySem.W.Frag)(r:List V→Hp→VK→Prop)(f:T→Option T):Prop:=∀F H v t w Q,aZ F H→Now K F H v t→f t=some w →
 (∀p o,H p=none→iO K F (upd H p o) p w→Q (.ref p) (upd H p o))→r [v] H Q
section
variable{X:Cx}{a b c:Expr}{da db dc:D}{pos:Pos}
theorem ae(i:Nat){x:Str}(hN:X.N[i]?=some x:=by rfl)(hv:Vis X.env.scope x:=by first|exact Or.inl rfl|exact Or.inr (Or.inl rfl)|exact Or.inr (Or.inr rfl))(hd:(x==("__debug__":Str))=false:=by decide)
  (hcd:(x==("__classdict__":Str))=false:=by decide):CE X (.Name x pos) (aa i) :=
 PE.imp (yb hN hv hd hcd) λσ H Q av=>by
  obtain⟨F,α,e,μ,S,h⟩:=av
  obtain⟨x,h1,h⟩:=R.bO h
  obtain⟨v,hv,ok⟩:=S.sl i x h1
  exact⟨v,hv,h v H F α Ex.refl S ok⟩
theorem kZ{v:V}{t:T}(h:PE X a (tC v))(r:∀F,Rep X.K F t v):CE X a (dC t) :=
 PE.imp h λσ H Q ⟨F,α,e,μ,S,h⟩=>h v H F α Ex.refl S (r F)
theorem ak{i:Int}{j pos}:CE X (.Constant (.int i) j pos) (dC (.int i)):=kZ IY λ_=>Rep.iC i
theorem iw{i:Bool}{j pos}:CE X (.Constant (.bool i) j pos) (dC (.bl i)):=kZ LN λ_=>Rep.bl' i
theorem cx{i:Str}{j pos}:CE X (.Constant (.str i) j pos) (dC (.str i)):=kZ I_ λ_=>Rep.GQ i
theorem yI{j pos}:CE X (.Constant .none j pos) (dC .non):=kZ IZ λ_=>Rep.GR
theorem Aq{x:Str}{i:Int}{tk:Nat}(hm:X.mg x=some (.int i tk))(hg:Gl X x:=by rfl)(hd:(x==("__debug__":Str))=false:=by decide):CE X (.Name x pos) (dC (.int i)):=kZ (v:=.int i) (uL hg hm ⟨tk,rfl⟩ hd) λ_=>Rep.iC i
theorem two{r:R2}{f:T→T→Option T}(hs:eK X.K r f)(σ:St)(H:Hp)(Q:VK)(h:tD X (ah f da db) σ H Q):tOp r (tD X da) (tD X db) σ H Q:=by
 obtain⟨F,α,e,μ,S,h⟩:=h
 refine⟨F,α,e,μ,S,?_⟩
 refine (R.wp_bind h).mono (λx μ1 h v H1 F1 α1 x1 S1 o1=>⟨F1,α1,e,μ1,S1,?_⟩) λ_ _ h=>h
 refine (R.wp_bind h).mono (λy μ2 h v2 H2 F2 α2 x2 S2 o2=>?_) λ_ _ h=>h.mono x1
 obtain⟨w,h9,post⟩:=R.bO h
 obtain⟨t,u,w',ht,hu,h,rfl⟩:=qJ h9
 exact hs F2 H2 v v2 t u w' Q S2.st.ext (bC S2.st (o1.mono x2.same x2.pre) ht) (bC S2.st o2 hu) h λv' H' F' g rp =>
  post v' H' F' α2 (x1.trans (x2.trans (g.ex S2.st.ext))) (S2.grow g) rp
theorem jq{op:Operator}{r:R2}{f:T→T→Option T}(ho:OpR X (binaryOp op) r)(hs:eK X.K r f)(ha:CE X a da)(hb:CE X b db):CE X (.BinOp a op b pos) (ah f da db) :=
 PE.imp (Ih ho ha hb) (two hs)
theorem DK{op:CmpOp}{r:R2}{f:T→T→Option T}(ho:OpR X (compareOp op) r)(hs:eK X.K r f)(hm:behindInMarks op b=false)(ha:CE X a da)(hb:CE X b db):CE X (.Compare a [op] [b] pos) (ah f da db) :=
 PE.imp (FU ho ha hb hm) (two hs)
theorem one{r:V→Hp→VK→Prop}{f:T→Option T}(hs:Io X.K r f)(σ:St)(H:Hp)(Q:VK)(h:tD X (dUn f da) σ H Q):tUn r (tD X da) σ H Q:=by
 obtain⟨F,α,e,μ,S,h⟩:=h
 refine⟨F,α,e,μ,S,?_⟩
 refine (R.wp_bind h).mono (λx μ1 h v H1 F1 α1 x1 S1 o1=>?_) λ_ _ h=>h
 obtain⟨w,h9,post⟩:=R.bO h
 obtain⟨t,w',ht,h,rfl⟩:=jX h9
 exact hs F1 H1 v t w' Q S1.st.ext (bC S1.st o1 ht) h λv' H' F' g rp =>
  post v' H' F' α1 (x1.trans (g.ex S1.st.ext)) (S1.grow g) rp
theorem Mt{op:UnaryOp}{r:V→Hp→VK→Prop}{f:T→Option T}(ho:UnR X (unaryOp op) r)(hs:Io X.K r f)(ha:CE X a da):CE X (.UnaryOp op a pos) (dUn f da):=PE.imp (LY ho ha) (one hs)
theorem aA:CA X [] []:=PA.imp oI λσ H Q ⟨F,α,e,μ,S,h⟩=>h [] H F α Ex.refl S .nil
theorem ag{es:List Expr}{ds:List D}(ha:CE X a da)(hr:CA X es ds)(hs:starEach (a::es) X.env=(false,eval a X.env)::starEach es X.env:=by rfl):CA X (a::es) (da::ds) :=
 PA.imp (gQ ha hr hs) λσ H Q av=>by
  obtain⟨F,α,e,μ,S,h⟩:=av
  rw[cg] at h
  refine⟨F,α,e,μ,S,(R.wp_bind h).mono (λx μ1 h v H1 F1 α1 x1 S1 o1=>⟨F1,α1,e,μ1,S1,?_⟩) λ_ _ h=>h⟩
  refine (R.wp_bind h).mono (λxs μ2 h vs H2 F2 α2 x2 S2 o2=>?_) λ_ _ h=>h.mono x1
  exact h (v::vs) H2 F2 α2 (x1.trans x2) S2 (.cons (o1.mono x2.same x2.pre) o2)
theorem ug:∀{ds:List D}{e:Slots}{μ μ':af}{xs:List SV},eF ds e μ=.ok xs μ'→xs.length=ds.length
 | [],e,μ,μ',xs,h=>by cases h;rfl
 | d::ds,e,μ,μ',xs,h=>by
  rw[cg] at h
  obtain⟨x,μ1,hx,h⟩:=R.bc h
  obtain⟨ys,μ2,hy,h⟩:=R.bc h
  cases h
  rw[List.length_cons,List.length_cons,ug hy]
theorem fB{ds:List D}{e:Slots}{μ:af}{Q:List SV→af→Prop}{E:T→af→Prop}(h:(eF ds e μ).wp Q E):(eF ds e μ).wp (λxs μ'=>xs.length=ds.length∧Q xs μ') E:=by
 cases q:eF ds e μ with
 | ok xs μ'=>rw[q] at h;exact⟨ug q,h⟩
 | err c μ'=>rw[q] at h;exact h
 | bad=>rw[q] at h;exact h
theorem lU{n:Nat}{xs:List SV}{vs:List V}{P:V→SV→Prop}(h:xs.length=n)(o:Paired P vs xs)(hl:n≤1000):vs.length≤sizeLine:=by
 have e1:=o.length
 exact Nat.le_of_lt (uc (by lia))
theorem gq{es:List Expr}{ds:List D}{x1}(h:CA X es ds)(hl:ds.length≤1000:=by decide):CE X (.Tuple es x1 pos) (fZ ds) :=
 PE.imp (yj h) λσ H Q av=>by
  obtain⟨F,α,e,μ,S,h⟩:=av
  refine⟨F,α,e,μ,S,(fB (R.wp_bind h)).mono (λxs μ1 dH vs H1 F1 α1 x1 S1 o1=>?_) λ_ _ h=>h⟩
  obtain⟨hn,h⟩:=dH
  have h:=R.wp_bind h
  cases hz:eB xs μ1 with
  | err c μ2 =>
   exact absurd hz (qj xs μ1 c μ2)
  | bad=>rw[hz] at h;exact h.elim
  | ok ts μ2 =>
   rw[hz] at h
   obtain⟨F2,s2,n2,S2,r2⟩:=ql S1.st o1 hz
   refine⟨lU hn o1 hl,λp hp=>?_⟩
   have g:b8 F2 H1 (upd F2 p (.tup vs)) (upd H1 p (.tup vs)):=b8.new hp
   refine h _ _ (upd F2 p (.tup vs)) α1 (x1.trans ((Ex.qV s2 n2).trans (g.ex S2.ext))) ((S1.of s2 (List.prefix_refl _) S2).grow g) ?_
   show Rep X.K _ (.tup ts) _
   rw[Rep]
   exact⟨p,vs,rfl,SqT.of aM,aH.mono (g.same S2.ext) _ _ r2⟩
theorem qX{K:PySem.W.Frag}{F:Hp}{α:List Addr}:∀{xs:List SV}{vs:List V}{ys:List (Sum T Nat)},Paired (λv x=>f_ K F α v x) vs xs→boxed xs=some ys→Paired (u6 K F α) vs ys
 | [],vs,ys,p,h=>by cases p;cases h;exact .nil
 | .val t::xs,vs,ys,p,h=>by
  cases p with
  | cons hv p =>
   obtain⟨zs,h1,rfl⟩:=Option.map_eq_some_iff.mp (show (boxed xs).map _=some ys from h)
   exact .cons hv (qX p h1)
 | .cel t::xs,vs,ys,p,h=>by
  cases p with
  | cons hv p =>
   obtain⟨zs,h1,rfl⟩:=Option.map_eq_some_iff.mp (show (boxed xs).map _=some ys from h)
   exact .cons hv (qX p h1)
 | .box t::xs,vs,ys,p,h=>by cases h
theorem oX{es:List Expr}{ds:List D}{x1}(h:CA X es ds)(hl:ds.length≤1000:=by decide):CE X (.Tuple es x1 pos) (p6 ds) :=
 PE.imp (yj h) λσ H Q av=>by
  obtain⟨F,α,e,μ,S,h⟩:=av
  refine⟨F,α,e,μ,S,(fB (R.wp_bind h)).mono (λxs μ1 dH vs H1 F1 α1 x1 S1 o1=>?_) λ_ _ h=>h⟩
  obtain⟨hn,h⟩:=dH
  obtain⟨ys,hy,h⟩:=R.bO (R.wp_bind h)
  refine⟨lU hn o1 hl,λp hp=>?_⟩
  have g:b8 F1 H1 (upd F1 p (.tup vs)) (upd H1 p (.tup vs)):=b8.new hp
  refine h _ _ (upd F1 p (.tup vs)) α1 (x1.trans (g.ex S1.st.ext)) (S1.grow g) ?_
  exact⟨p,vs,rfl,SqT.of aM,Paired.imp' (λ_ _ z=>u6.mono (g.same S1.st.ext) (List.prefix_refl _) z) (qX o1 hy)⟩
def tF(X:Cx)(d:D):TE:=λσ H Q=>∃F α e μ,Sim X.K F α e μ σ H∧(d e μ).wp (λx μ'=>∃t,x=.val t ∧
 ∀p H' F' α',Ex F α H F' α' H'→Sim X.K F' α' e μ' σ H'→H p=none→F' p=none→p∉α'→iO X.K F' H' p t→Q (.ref p) H') (fG X F α H e)
def CF(X:Cx)(e:Expr)(d:D):Prop:=PE X e (tF X d)∧∀e μ x μ',d e μ=.ok x μ'→∃t,x=.val t
theorem R.DL{P:SV→af→Prop}{r:R SV}{E:T→af→Prop}(h:r.wp P E):r.wp (λx μ=>r=.ok x μ∧P x μ) E:=by
 cases r with
 | ok a μ=>exact⟨rfl,h⟩
 | err c μ=>exact h
 | bad=>exact h
theorem wO{σ:St}{H:Hp}{Q:VK}(h2:∀e μ x μ',da e μ=.ok x μ'→∃t,x=.val t)(h:tD X da σ H Q):tF X da σ H Q:=by
 obtain⟨F,α,e,μ,S,hd⟩:=h
 refine⟨F,α,e,μ,S,(R.DL hd).mono (λx μ' av=>?_) λ_ _ h=>h⟩
 obtain⟨hx,post⟩:=av
 obtain⟨t,rfl⟩:=h2 e μ x μ' hx
 refine⟨t,rfl,λp H1 F1 α1 x1 S1 h0 hp hn c=>?_⟩
 obtain⟨o,ho⟩:=c.there
 have s2:aZ F1 (upd F1 p o):=λb z hz=>by
  rw[aO (λq=>by subst q;rw[hp] at hz;cases hz)];exact hz
 have st:dA X.K (upd F1 p o) α1 μ' H1:=by
  refine⟨λb z hz=>?_,S1.st.len,S1.st.nd,S1.st.there,λk b u a' h1 h2=>?_,S1.st.tps.mono s2⟩
  ·by_cases eb:b=p
   ·subst eb;rw[aM] at hz;cases hz;exact ho
   ·rw[aO eb] at hz;exact S1.st.ext b z hz
  ·have na:a'≠p:=λq=>by subst q;exact hn (List.mem_of_getElem? h2)
   obtain⟨c1,c2⟩:=S1.st.cell k b u a' h1 h2
   refine⟨λhb=>⟨by rw[aO na];exact (c1 hb).1,?_⟩,λhb=>Rep.mono s2 _ _ (c2 hb)⟩
   have d2:=(c1 hb).2
   cases u with
   | lst ts=>obtain⟨vs,w1,w2⟩:=d2;exact⟨vs,w1,aH.mono s2 _ _ w2⟩
   | dct ts=>obtain⟨vs,w1,w2⟩:=d2;exact⟨vs,w1,bS.mono s2 _ _ w2⟩
   | dtt fz ts=>exact d2
   | _=>exact d2.elim
 refine post _ _ (upd F1 p o) α1 (x1.ice h0 hp) (S1.of s2 (List.prefix_refl _) st) ?_
 show Rep X.K _ t _
 cases t with
 | lst ts=>obtain⟨vs,w1,w2⟩:=c;rw[w1] at ho;cases ho;rw[Rep];exact⟨p,vs,rfl,SqL.of aM,aH.mono s2 _ _ w2⟩
 | dct ts=>obtain⟨vs,w1,w2⟩:=c;rw[w1] at ho;cases ho;rw[Rep];exact⟨p,vs,rfl,aM,bS.mono s2 _ _ w2⟩
 | dtt fz ts=>obtain⟨d4,d3⟩:=c;rw[d3] at ho;cases ho;rw[Rep];exact⟨p,rfl,.inl ⟨d4,aM⟩⟩
 | _=>exact c.elim
theorem CF.ce(h:CF X a da):CE X a da:=PE.imp h.1 λσ H Q q=>wO h.2 q
theorem BA{σ:St}{H:Hp}{Q:VK}(h2:∀e μ x μ',da e μ=.ok x μ'→∃t,x=.val t)(h:tD X (dI da) σ H Q):tF X da σ H Q:=by
 obtain⟨F,α,e,μ,S,hd⟩:=h
 rw[qK] at hd
 refine⟨F,α,e,μ,S,(R.DL (R.wp_bind hd)).mono (λx μ1 av=>?_) λ_ _ h=>h⟩
 obtain⟨hx,post⟩:=av
 obtain⟨t,rfl⟩:=h2 e μ x μ1 hx
 refine⟨t,rfl,λp H1 F1 α1 x1 S1 h0 hp hn c=>?_⟩
 obtain⟨o,ho⟩:=c.there
 have qU:∀{k:Nat}{a:Addr},(α1++[p])[k]?=some a→(k<α1.length∧α1[k]?=some a)∨(k=α1.length∧a=p):=λ{k a} h=>by
  by_cases hk:k<α1.length
  ·rw[List.getElem?_append_left hk] at h;exact .inl ⟨hk,h⟩
  ·rw[List.getElem?_append_right (by lia)] at h
   by_cases h0:k-α1.length=0
   ·rw[h0] at h;simp at h;exact .inr ⟨by lia,h.symm⟩
   ·rw[List.getElem?_eq_none (by simp;lia)] at h;cases h
 have st:dA X.K F1 (α1++[p]) (μ1++[(true,t)]) H1:=by
  refine⟨S1.st.ext,by simp[S1.st.len],?_,λk a h=>?_,λk b u a h1 h2=>?_,S1.st.tps⟩
  ·rw[List.nodup_append]
   refine⟨S1.st.nd,by simp,λa ha b hb=>?_⟩
   simp at hb
   subst hb
   exact λq=>hn (by rw[← q];exact ha)
  ·rcases qU h with ⟨_,g⟩|⟨_,rfl⟩
   ·exact S1.st.there k a g
   ·exact⟨o,ho⟩
  ·rcases qU h2 with ⟨hk,g⟩|⟨hk,rfl⟩
   ·rw[List.getElem?_append_left (by rw[← S1.st.len];exact hk)] at h1
    exact S1.st.cell k b u a h1 g
   ·rw[hk,S1.st.len] at h1
    simp at h1
    obtain⟨rfl,rfl⟩:=h1
    exact⟨λ_=>⟨hp,c⟩,λz=>(by cases z)⟩
 refine post _ _ F1 (α1++[p]) (x1.more h0) (S1.of (aZ.refl _) (List.prefix_append _ _) st) ⟨p,?_,rfl⟩
 rw[List.getElem?_append_right (by rw[S1.st.len];exact Nat.le_refl _),S1.st.len]
 simp
theorem CF.cell(h:CF X a da):CE X a (dI da):=PE.imp h.1 λσ H Q q=>BA h.2 q
theorem cM{K:PySem.W.Frag}{F H:Hp}{α:List Addr}{μ:af}{p:Addr}(S:dA K F α μ H)(h:H p=none):p∉α:=λhm=>by
 obtain⟨k,hk⟩:=List.mem_iff_getElem?.mp hm
 obtain⟨o,ho⟩:=S.there k p hk
 rw[h] at ho;cases ho
theorem dA.lay{K:PySem.W.Frag}{F H:Hp}{α:List Addr}{μ:af}{p:Addr}{o:HO}(S:dA K F α μ H)(h:H p=none)(n:NT o:=by intro _ h;cases h):dA K F α μ (upd H p o):=by
 have hup:∀c z,H c=some z→(upd H p o) c=some z:=λc z hz=>by
  rw[aO (λq=>by subst q;rw[h] at hz;cases hz)];exact hz
 refine⟨λa z hz=>hup _ _ (S.ext a z hz),S.len,S.nd,λk a g=>?_,λk b u a h1 h2=>?_,S.tps.upd n⟩
 ·obtain⟨z,hz⟩:=S.there k a g
  exact⟨z,hup _ _ hz⟩
 ·obtain⟨c1,c2⟩:=S.cell k b u a h1 h2
  refine⟨λhb=>⟨(c1 hb).1,?_⟩,c2⟩
  have d2:=(c1 hb).2
  cases u with
  | lst ts=>obtain⟨vs,w1,w2⟩:=d2;exact⟨vs,hup _ _ w1,w2⟩
  | dct ts=>obtain⟨vs,w1,w2⟩:=d2;exact⟨vs,hup _ _ w1,w2⟩
  | dtt fz ts=>exact⟨d2.1,hup _ _ d2.2⟩
  | _=>exact d2.elim
theorem gd{es:List Expr}{ds:List D}(h:CA X es ds)(hl:ds.length≤1000:=by decide):CF X (.List es pos) (fD ds) :=
 ⟨PE.imp (C8 h) λσ H Q av=>by
  obtain⟨F,α,e,μ,S,h⟩:=av
  refine⟨F,α,e,μ,S,(fB (R.wp_bind h)).mono (λxs μ1 dH vs H1 F1 α1 x1 S1 o1=>?_) λ_ _ h=>h⟩
  obtain⟨hn,h⟩:=dH
  have h:=R.wp_bind h
  cases hz:eB xs μ1 with
  | err c μ2 =>
   exact absurd hz (qj xs μ1 c μ2)
  | bad=>rw[hz] at h;exact h.elim
  | ok ts μ2 =>
   rw[hz] at h
   obtain⟨t,e1,post⟩:=h
   cases e1
   obtain⟨F2,s2,n2,S2,r2⟩:=ql S1.st o1 hz
   refine⟨lU hn o1 hl,λp hp=>?_⟩
   exact post p _ F2 α1 (x1.trans ((Ex.qV s2 n2).trans (Ex.lay hp))) (S1.of s2 (List.prefix_refl _) (S2.lay hp)) (x1.was S1.st hp) (S2.ext.free hp) (cM S2 hp) ⟨vs,aM,r2⟩,
 λe μ x μ' h=>by
  unfold fD at h
  obtain⟨xs,μ1,hx,h⟩:=R.bc h
  obtain⟨ts,μ2,hz,h⟩:=R.bc h
  cases h
  exact⟨_,rfl⟩⟩
theorem Ar{f:T→Option T}{e:Slots}{μ μ':af}{x:SV}(h:dUn f da e μ=.ok x μ'):∃t,x=.val t:=by
 unfold dUn at h
 obtain⟨x,μ1,hx,h⟩:=R.bc h
 obtain⟨h9,rfl⟩:=R.mH h
 obtain⟨t,w',ht,h,rfl⟩:=jX h9
 exact⟨_,rfl⟩
theorem qY{σ:St}{H:Hp}{Q:List V→Hp→Prop}(h:tD X da σ H λv H'=>Q [v] H'):tDA X [da] σ H Q:=by
 obtain⟨F,α,e,μ,S,h⟩:=h
 refine⟨F,α,e,μ,S,?_⟩
 rw[cg]
 cases q:da e μ with
 | err c μ1=>rw[q] at h;exact h
 | bad=>rw[q] at h;exact h
 | ok x μ1 =>
  rw[q] at h
  intro vs H1 F1 α1 x1 S1 o1
  cases o1 with
  | cons o1 o2=>cases o2;exact h _ H1 F1 α1 x1 S1 o1
theorem Ip{r:List V→Hp→VK→Prop}{f:T→Option T}(hs:qW X.K r f)(σ:St)(H:Hp)(Q:VK)(h:tD X (dUn f da) σ H Q):tCB r (tDA X [da]) σ H Q :=
 qY (one (r:=λv H Q=>r [v] H Q) hs σ H Q h)
theorem J_{r:List V→Hp→VK→Prop}{f:T→Option T}(hs:wN X.K r f)(σ:St)(H:Hp)(Q:VK)(h:tF X (dUn f da) σ H Q):tCB r (tDA X [da]) σ H Q:=by
 refine qY ?_
 obtain⟨F,α,e,μ,S,h⟩:=h
 refine⟨F,α,e,μ,S,?_⟩
 refine (R.wp_bind h).mono (λx μ1 h v H1 F1 α1 x1 S1 o1=>?_) λ_ _ h=>h
 obtain⟨w,h9,t',e1,post⟩:=R.bO h
 obtain⟨t,w',ht,h,e2⟩:=jX h9
 subst e1
 cases e2
 exact hs F1 H1 _ t _ Q S1.st.ext (bC S1.st o1 ht) h λp o hp c =>
  post p _ F1 α1 (x1.trans (Ex.lay hp)) (S1.of (aZ.refl _) (List.prefix_refl _) (S1.st.lay hp c.nt)) (x1.was S1.st hp) (S1.st.ext.free hp) (cM S1.st hp) c
end
theorem yJ{x:SV}{k:Bool}(h:asB x=some k):x=.val (.bl k):=by
 cases x with
 | val t=>cases t<;>first|(cases h;rfl)|cases h
 | cel j=>cases h
 | box xs=>cases h
theorem lV{β:Type}{r:R SV}{f:Bool→af→R β}{Q:β→af→Prop}{E:T→af→Prop}(h:(r.bind λy μ1=>(R.lift (asB y) μ1).bind f).wp Q E) :
  r.wp (λx μ=>∃k,x=.val (.bl k)∧(f k μ).wp Q E) E:=(R.wp_bind h).mono (λx μ h=>by
 obtain⟨k,hk,h⟩:=R.bO (R.wp_bind h)
 exact⟨k,yJ hk,h⟩) λ_ _ h=>h
def CW(X:Cx)(e:Expr)(d:D):Prop:=PW X e (tDT X d)
theorem PW.imp{X:Cx}{e:Expr}{t t':TT}(h:PW X e t)(i:∀σ H Q,t' σ H Q→t σ H Q):PW X e t':=λwhole pins s σ H Q I q=>h whole pins s σ H Q I (i σ H Q q)
theorem uh{X:Cx}{d:D}{σ:St}{H:Hp}{Q:Bool→Hp→Prop}(h:tDT X d σ H Q):tD X d σ H λx H'=>∃k,x=.bl k∧Q k H':=by
 obtain⟨F,α,e,μ,S,h⟩:=h
 refine⟨F,α,e,μ,S,h.mono (λx μ' av v H' F' α' y S' o=>?_) λ_ _ h=>h⟩
 obtain⟨b,hb,post⟩:=av
 subst hb
 exact⟨b,Rep.iu (K:=X.K) (F:=F') o,post H' F' α' y S'⟩
section
variable{X:Cx}{a b c:Expr}{da db dc:D}{pos:Pos}{rest:List Expr}
theorem ef(h:CE X a da)(he:∀whole,isTrue a X.env whole=(do let v ← whole;standAt a.pos;holding [v] (truthy v)):=by intro _;rfl):CT X a da :=
 PT.imp (Jb h he) λσ H Q q=>uh q
theorem oY{op:CmpOp}{r:R2}{f:T→T→Option T}(ho:OpR X (compareOp op) r)(hs:eK X.K r f)(hm:behindInMarks op b=false)(ha:CE X a da)(hb:CE X b db):CT X (.Compare a [op] [b] pos) (ah f da db) :=
 PT.imp (FV ho ha hb hm) λσ H Q q=>two hs σ H _ (uh q)
theorem eX(h:CT X a da):CT X (.UnaryOp .Not a pos) (dz da):=PT.imp (Je h) λσ H Q av=>by
 obtain⟨F,α,e,μ,S,h⟩:=av
 refine⟨F,α,e,μ,S,(lV h).mono (λx μ1 ⟨k,hx,b,hb,h⟩=>⟨k,hx,?_⟩) λ_ _ h=>h⟩
 cases hb
 exact h
theorem yK(h:CT X a da):CW X (.BoolOp .And [a] pos) da:=FP h
theorem gi(h:CT X a da):CW X (.BoolOp .Or [a] pos) da:=Jc h
theorem CW.ct(h:CW X a da):CT X a da:=PW.pt h
theorem Ka(ha:CT X a da)(hb:CW X (.BoolOp .And (b::rest) pos) db):CW X (.BoolOp .And (a::b::rest) pos) (kQ da db) :=
 PW.imp (Jd ha hb) λσ H Q av=>by
  obtain⟨F,α,e,μ,S,h⟩:=av
  refine⟨F,α,e,μ,S,(lV h).mono (λx μ1 ⟨k,hx,h⟩=>⟨k,hx,λH1 F1 α1 x1 S1=>?_⟩) λ_ _ h=>h⟩
  cases k with
  | true =>
   rw[if_pos rfl] at h ⊢
   exact⟨F1,α1,e,μ1,S1,h.mono (λy μ2 ⟨b,hb,h⟩=>⟨b,hb,λH2 F2 α2 x2 S2=>h H2 F2 α2 (x1.trans x2) S2⟩) λ_ _ h=>h.mono x1⟩
  | false =>
   rw[if_neg Bool.false_ne_true] at h ⊢
   obtain⟨b,hb,h⟩:=h
   cases hb
   exact h H1 F1 α1 x1 S1
theorem i7(ha:CT X a da)(hb:CW X (.BoolOp .Or (b::rest) pos) db):CW X (.BoolOp .Or (a::b::rest) pos) (dOr da db) :=
 PW.imp (LO ha hb) λσ H Q av=>by
  obtain⟨F,α,e,μ,S,h⟩:=av
  refine⟨F,α,e,μ,S,(lV h).mono (λx μ1 ⟨k,hx,h⟩=>⟨k,hx,λH1 F1 α1 x1 S1=>?_⟩) λ_ _ h=>h⟩
  cases k with
  | true =>
   rw[if_pos rfl] at h ⊢
   obtain⟨b,hb,h⟩:=h
   cases hb
   exact h H1 F1 α1 x1 S1
  | false =>
   rw[if_neg Bool.false_ne_true] at h ⊢
   exact⟨F1,α1,e,μ1,S1,h.mono (λy μ2 ⟨b,hb,h⟩=>⟨b,hb,λH2 F2 α2 x2 S2=>h H2 F2 α2 (x1.trans x2) S2⟩) λ_ _ h=>h.mono x1⟩
theorem qZ{op}(h:CE X a da):CE X (.BoolOp op [a] pos) da:=Jf h
theorem oZ(ha:CE X a da)(hb:CE X (.BoolOp .And (b::rest) pos) db):CE X (.BoolOp .And (a::b::rest) pos) (kQ da db) :=
 PE.imp (Jg ha hb) λσ H Q av=>by
  obtain⟨F,α,e,μ,S,h⟩:=av
  refine⟨F,α,e,μ,S,(lV h).mono (λx μ1 dH v H1 F1 α1 x1 S1 o1=>?_) λ_ _ h=>h⟩
  obtain⟨k,hx,h⟩:=dH
  subst hx
  refine⟨k,Rep.iu (K:=X.K) (F:=F1) o1,?_⟩
  cases k with
  | true =>
   rw[if_pos rfl] at h ⊢
   exact⟨F1,α1,e,μ1,S1,h.mono (λy μ2 h v H2 F2 α2 x2 S2 o2=>h v H2 F2 α2 (x1.trans x2) S2 o2) λ_ _ h=>h.mono x1⟩
  | false =>
   rw[if_neg Bool.false_ne_true] at h ⊢
   exact h _ H1 F1 α1 x1 S1 (Rep.bl' (K:=X.K) (F:=F1) _)
theorem yL(ha:CE X a da):CE X (.UnaryOp .Not a pos) (dz da):=PE.imp (Jh ha) λσ H Q av=>by
 obtain⟨F,α,e,μ,S,h⟩:=av
 refine⟨F,α,e,μ,S,(lV h).mono (λx μ1 dH v H1 F1 α1 x1 S1 o1=>?_) λ_ _ h=>h⟩
 obtain⟨k,hx,h⟩:=dH
 subst hx
 refine⟨k,Rep.iu (K:=X.K) (F:=F1) o1,?_⟩
 exact h _ H1 F1 α1 x1 S1 (Rep.bl' (K:=X.K) (F:=F1) _)
theorem Kb(hc:CT X c dc)(ha:CE X a da)(hb:CE X b db):CE X (.IfExp c a b pos) (Gs dc da db) :=
 PE.imp (CK hc ha hb) λσ H Q av=>by
  obtain⟨F,α,e,μ,S,h⟩:=av
  refine⟨F,α,e,μ,S,(lV h).mono (λx μ1 ⟨k,hx,h⟩=>⟨k,hx,λH1 F1 α1 x1 S1=>?_⟩) λ_ _ h=>h⟩
  cases k with
  | true =>
   rw[if_pos rfl] at h ⊢
   exact⟨F1,α1,e,μ1,S1,h.mono (λy μ2 h v H2 F2 α2 x2 S2 o2=>h v H2 F2 α2 (x1.trans x2) S2 o2) λ_ _ h=>h.mono x1⟩
  | false =>
   rw[if_neg Bool.false_ne_true] at h ⊢
   exact⟨F1,α1,e,μ1,S1,h.mono (λy μ2 h v H2 F2 α2 x2 S2 o2=>h v H2 F2 α2 (x1.trans x2) S2 o2) λ_ _ h=>h.mono x1⟩
end
def bh(X:Cx)(F:Hp)(α:List Addr)(H:Hp)(D:Ends):RS→Prop
 | .nx e' μ'=>∀σ' H' F' α',Ex F α H F' α' H'→Sim X.K F' α' e' μ' σ' H'→D.nx σ' H'
 | .rt x μ'=>∀v H' F' α',Ex F α H F' α' H'→dA X.K F' α' μ' H'→f_ X.K F' α' v x→D.rt v H'
 | .bk e' μ'=>∀σ' H' F' α',Ex F α H F' α' H'→Sim X.K F' α' e' μ' σ' H'→D.bk σ' H'
 | .ct e' μ'=>∀σ' H' F' α',Ex F α H F' α' H'→Sim X.K F' α' e' μ' σ' H'→D.ct σ' H'
 | .err c e' μ'=>fG X F α H e' c μ'
 | .bad=>False
theorem bh.mono{X:Cx}{F F' H H':Hp}{α α':List Addr}{D:Ends}{r:RS}(x:Ex F α H F' α' H')(h:bh X F α H D r):bh X F' α' H' D r:=by
 cases r with
 | nx e μ=>exact λσ H F2 α2 x2=>h σ H F2 α2 (x.trans x2)
 | rt y μ=>exact λσ H F2 α2 x2=>h σ H F2 α2 (x.trans x2)
 | bk e μ=>exact λσ H F2 α2 x2=>h σ H F2 α2 (x.trans x2)
 | ct e μ=>exact λσ H F2 α2 x2=>h σ H F2 α2 (x.trans x2)
 | err c e μ=>exact fG.mono x h
 | bad=>exact h
def tDS(X:Cx)(d:DS):TS:=λD σ H=>∃F α e μ,Sim X.K F α e μ σ H∧bh X F α H D (d e μ)
def CS(X:Cx)(st:Stmt)(d:DS):Prop:=PS X st (tDS X d)
def CSs(X:Cx)(st:List Stmt)(d:DS):Prop:=PSs X st (tDS X d)
theorem bh.toS{α':Type}{X:Cx}{F H:Hp}{α:List Addr}{D:Ends}{x:R α'}{e:Slots}{f:α'→af→RS}(h:bh X F α H D (x.toS e f)):x.wp (λa μ=>bh X F α H D (f a μ)) (fG X F α H e):=by
 cases x with
 | ok a μ=>exact h
 | err c μ=>exact h
 | bad=>exact h
theorem bh.lift{α':Type}{X:Cx}{F H:Hp}{α:List Addr}{D:Ends}{o:Option α'}{μ:af}{e:Slots}{f:α'→af→RS}(h:bh X F α H D ((R.lift o μ).toS e f)):∃a,o=some a∧bh X F α H D (f a μ):=R.bO h.toS
theorem bh.asB{X:Cx}{F H:Hp}{α:List Addr}{D:Ends}{x:R SV}{e:Slots}{f:Bool→af→RS}(h:bh X F α H D (x.toS e λy μ1=>(R.lift (Fw.asB y) μ1).toS e f)):x.wp (λy μ1=>∃k,y=.val (.bl k)∧bh X F α H D (f k μ1)) (fG X F α H e) :=
 h.toS.mono (λy μ h=>by
  obtain⟨k,hk,h⟩:=h.lift
  exact⟨k,yJ hk,h⟩) λ_ _ h=>h
section
variable{X:Cx}{st:Stmt}{sts:List Stmt}{d d1 d2:DS}{e:Expr}{de:D}{pos:Pos}
theorem a_:CSs X [] bB:=PSs.imp FQ λD σ H ⟨F,α,e,μ,S,h⟩=>h σ H F α Ex.refl S
theorem ay(h:CS X st d):CSs X [st] d:=FR h
theorem ao(h1:CS X st d1)(h2:CSs X sts d2):CSs X (st::sts) (az d1 d2):=PSs.imp (CL h1 h2) λD σ H av=>by
 obtain⟨F,α,e,μ,S,h⟩:=av
 refine⟨F,α,e,μ,S,?_⟩
 unfold az at h
 cases q:d1 e μ with
 | nx e1 μ1 =>
  rw[q] at h
  exact λσ' H' F' α' x S'=>⟨F',α',e1,μ1,S',h.mono x⟩
 | rt x μ1=>rw[q] at h;exact h
 | bk e1 μ1=>rw[q] at h;exact h
 | ct e1 μ1=>rw[q] at h;exact h
 | err c e1 μ1=>rw[q] at h;exact h
 | bad=>rw[q] at h;exact h
theorem GU(he:CE X e de)(hs:swapsWith e none pos.line X.env=pure false:=by rfl):CS X (.Expr e pos) (wL de):=PS.imp (zT he hs) λD σ H ⟨F,α,e,μ,S,h⟩ =>
 ⟨F,α,e,μ,S,(bh.toS h).mono (λx μ1 h v H1 F1 α1 x1 S1 _=>h σ H1 F1 α1 x1 S1) λ_ _ h=>h⟩
theorem aI(he:CE X e de):CS X (.Return (some e) pos) (aG de):=PS.imp (Ji he) λD σ H ⟨F,α,e,μ,S,h⟩ =>
 ⟨F,α,e,μ,S,(bh.toS h).mono (λx μ1 h v H1 F1 α1 x1 S1 o1=>h v H1 F1 α1 x1 S1.st o1) λ_ _ h=>h⟩
theorem slot_set{e:Slots}{i j:Nat}{x y:SV}(h:slot (e.set i (some x)) j=some y):(j=i∧y=x)∨slot e j=some y:=by
 unfold slot at h
 by_cases q:i=j
 ·subst q
  by_cases hl:i<e.length
  ·rw[List.getElem?_set_self hl] at h
   cases h
   exact .inl ⟨rfl,rfl⟩
  ·rw[List.getElem?_eq_none (by rw[List.length_set];omega)] at h
   cases h
 ·rw[List.getElem?_set_ne q] at h
  exact .inr h
theorem Sim.set{K:PySem.W.Frag}{F H:Hp}{α:List Addr}{e:Slots}{μ:af}{σ:St}{v:V}{x:SV}{i:Nat}(S:Sim K F α e μ σ H)(o:f_ K F α v x):Sim K F α (e.set i (some x)) μ (σ.set i (some v)) H:=by
 refine⟨S.st,λj y h=>?_,by rw[List.length_set,List.length_set,S.len]⟩
 by_cases q:i=j
 ·subst q
  have hl:i<e.length:=by
   unfold slot at h
   by_cases hl:i<e.length
   ·exact hl
   ·rw[List.getElem?_eq_none (by rw[List.length_set];omega)] at h
    cases h
  have hy:y=x:=by
   unfold slot at h
   rw[List.getElem?_set_self hl] at h
   cases h;rfl
  subst hy
  exact⟨v,by rw[List.getElem?_set_self (by rw[← S.len];exact hl)],o⟩
 ·rcases slot_set h with ⟨rfl,_⟩|h
  ·exact absurd rfl q
  ·obtain⟨w,h1,h2⟩:=S.sl j y h
   exact⟨w,by rw[List.getElem?_set_ne q];exact h1,h2⟩
theorem aK(i:Nat){x:Str}{pos':Pos}(hN:X.N.Nodup)(he:CE X e de)(hi:X.N[i]?=some x:=by rfl)(hx:Loc X.env.scope x:=by first|exact Or.inl rfl|exact Or.inr rfl)(hs:swapsWith e (some (.Name x pos')) pos.line X.env=pure false:=by rfl)
  (hf:X.fn x=true∨X.env.scope.names.lookup x=some .local:=by first|exact .inl rfl|exact .inr rfl|assumption):CS X (.Assign [.Name x pos'] e pos) (aE i de) :=
 PS.imp (Jn hN hi hx he hs hf) λD σ H ⟨F,α,e,μ,S,h⟩ =>
  ⟨F,α,e,μ,S,(bh.toS h).mono (λx μ1 h v H1 F1 α1 x1 S1 o1=>h _ H1 F1 α1 x1 (S1.set o1)) λ_ _ h=>h⟩
theorem cw{c:Expr}{as bs:List Stmt}{dc:D}(hc:CT X c dc)(ha:CSs X as d1)(hb:CSs X bs d2):CS X (.If c as bs pos) (sIf dc d1 d2):=PS.imp (LU hc ha hb) λD σ H av=>by
 obtain⟨F,α,e,μ,S,h⟩:=av
 refine⟨F,α,e,μ,S,(bh.asB h).mono (λx μ1 ⟨k,hk,h⟩=>⟨k,hk,λH1 F1 α1 x1 S1=>?_⟩) λ_ _ h=>h⟩
 cases k with
 | true=>exact⟨F1,α1,e,μ1,S1,bh.mono x1 h⟩
 | false=>exact⟨F1,α1,e,μ1,S1,bh.mono x1 h⟩
theorem yM:CS X st uY:=PS.imp CM λD σ H ⟨F,α,e,μ,S,h⟩=>h
end
end Fw
namespace Fw
open PySem PySem.Spec PyProof.Rows L2
def Mu(K:PySem.W.Frag)(F:Hp)(α:List Addr)(J:It)(W:Wk):Prop:=∀F2 α2 μ2 H2,aZ F F2→α <+: α2→dA K F2 α2 μ2 H2→W.same μ2 →
 (∀i t,W.items[i]?=some t→J.go i H2∧∀x H3,J.yld i H2 x H3→∃F3,b8 F2 H2 F3 H3∧Rep K F3 t x)∧J.stop W.items.length H2
def tDI(X:Cx)(d:DI):TI:=λσ H R=>∃F α e μ,Sim X.K F α e μ σ H∧(d e μ).wp (λW μ' =>
 ∀J H' F' α',Ex F α H F' α' H'→Sim X.K F' α' e μ' σ H'→Mu X.K F' α' J W→R J H') (fG X F α H e)
def CI(X:Cx)(tg e:Expr)(d:DI):Prop:=PI X tg e (tDI X d)
theorem PI.imp{X:Cx}{tg e:Expr}{t t':TI}(h:PI X tg e t)(i:∀σ H R,t' σ H R→t σ H R):PI X tg e t':=λpins s σ H R I q=>h pins s σ H R I (i σ H R q)
def Mv(K:PySem.W.Frag)(tl:TE):TI:=λσ H R=>tl σ H λx H1=>∃a,x=.ref a∧(((∃xs,SqL K H1 a xs)∧R (Itl K a) H1)∨((∃xs,SqT K H1 a xs)∧R (Itt K a) H1))
section
variable{X:Cx}{tg:Expr}
theorem GV{l:Expr}{tl:TE}(hl:PE X l tl):PI X tg l (Mv X.K tl):=by
 intro pins s σ H R I h
 refine thn (hl pins s σ H _ I h) λv s1 av=>?_
 obtain⟨x,H1,I1,r1,q1⟩:=av
 obtain⟨a,e,q⟩:=q1
 subst e
 cases r1
 rcases q with ⟨⟨xs,hq⟩,q⟩|⟨⟨xs,hq⟩,q⟩
 ·obtain⟨its,rv,p,hz⟩:=I1.list hq
  refine wpAny_pyIter_list p.isList ?_
  refine⟨s1.heap.objs.size,[s1.heap.objs.size],_,_,H1,rfl,I1.kept (t':=s1.toks) λb o e=>Heap.get?_push_of_some _ e,Bc a _,⟨_,Heap.get?_push_size _ rfl,rfl,rfl⟩,λb hb=>?_,q⟩
  have e:b=s1.heap.objs.size:=by simpa using hb
  subst e
  exact I1.yc (Nat.le_refl _) (I1.hok.fresh (Nat.le_refl _))
 ·obtain⟨its,rv,p,hz⟩:=I1.tuple hq
  refine wpAny_pyIter_tuple (show s1.heap.IsTuple a its.toArray from p) ?_
  refine⟨s1.heap.objs.size,[s1.heap.objs.size],_,_,H1,rfl,I1.kept (t':=s1.toks) λb o e=>Heap.get?_push_of_some _ e,yd a _,⟨_,Heap.get?_push_size _ rfl,rfl,rfl⟩,λb hb=>?_,q⟩
  have e:b=s1.heap.objs.size:=by simpa using hb
  subst e
  exact I1.yc (Nat.le_refl _) (I1.hok.fresh (Nat.le_refl _))
theorem gf{a:Expr}{da:D}(h:CE X a da):CI X tg a (eW da):=PI.imp (GV h) λσ H R0 av=>by
 obtain⟨F,α,e,μ,S,h⟩:=av
 refine⟨F,α,e,μ,S,(R.wp_bind h).mono (λx μ1 h v H1 F1 α1 x1 S1 o1=>?_) λ_ _ h=>h⟩
 obtain⟨ts,ht,post⟩:=R.bO (R.wp_bind h)
 obtain⟨t,hr,ht⟩:=Option.bind_eq_some_iff.mp ht
 have n1:=bC S1.st o1 hr
 cases t with
 | lst us =>
  cases ht
  obtain⟨a,vs,rfl,hq,hl⟩:=n1
  refine⟨a,rfl,.inl ⟨⟨vs,hq⟩,post _ H1 F1 α1 x1 S1 λF2 α2 μ2 H2 s2 p2 S2 same=>?_⟩⟩
  obtain⟨a',vs',e1,hq2,hl2⟩:=bC S2 (o1.mono s2 p2) ((show rd μ2 x=rd μ1 x from same).trans hr)
  cases e1
  refine⟨λi t hi=>?_,⟨vs',hq2,by rw[← hl2.length];exact Nat.le_refl _⟩⟩
  obtain⟨v,hv,rv⟩:=hl2.get hi
  exact⟨⟨vs',v,hq2,hv⟩,λy H3 dH=>by
   obtain⟨e3,hy⟩:=dH
   subst e3
   have:=hy vs' hq2
   rw[hv] at this;cases this
   exact⟨F2,b8.refl,rv⟩⟩
 | tup us =>
  cases ht
  obtain⟨a,vs,rfl,hq,hl⟩:=n1
  refine⟨a,rfl,.inr ⟨⟨vs,aZ.i5 S1.st.ext hq⟩,post _ H1 F1 α1 x1 S1 λF2 α2 μ2 H2 s2 p2 S2 same=>?_⟩⟩
  obtain⟨a',vs',e1,hq2,hl2⟩:=bC S2 (o1.mono s2 p2) ((show rd μ2 x=rd μ1 x from same).trans hr)
  have hq2:=aZ.i5 S2.ext hq2
  cases e1
  refine⟨λi t hi=>?_,⟨vs',hq2,by rw[← hl2.length];exact Nat.le_refl _⟩⟩
  obtain⟨v,hv,rv⟩:=hl2.get hi
  exact⟨⟨vs',v,hq2,hv⟩,λy H3 wo=>by
   obtain⟨e3,hy⟩:=wo
   subst e3
   have:=hy vs' hq2
   rw[hv] at this;cases this
   exact⟨F2,b8.refl,rv⟩⟩
 | _=>cases ht
theorem ui:∀{n:Nat}{lo:Int}{i:Nat}{t:T},(b7 lo n)[i]?=some t→i<n∧t=.int (lo+i)
 | 0,lo,i,t,h=>by simp[b7] at h
 | n+1,lo,0,t,h=>by
  simp[b7] at h
  subst h
  exact⟨Nat.succ_pos _,by simp⟩
 | n+1,lo,i+1,t,h=>by
  have h:(b7 (lo+1) n)[i]?=some t:=by simpa [b7] using h
  obtain⟨h1,h2⟩:=ui h
  exact⟨Nat.succ_lt_succ h1,by rw[h2];congr 1;omega⟩
theorem nJ:∀(n:Nat) (lo:Int),(b7 lo n).length=n
 | 0,_=>rfl
 | n+1,lo=>by rw[b7,List.length_cons,nJ]
theorem Kc{K:PySem.W.Frag}{F:Hp}{α:List Addr}(lo:Int)(n:Nat):Mu K F α (Itr lo n) ⟨b7 lo n,λ_=>True⟩:=λF2 α2 μ2 H2 s2 p2 S2 _=>by
 refine⟨λi t hi=>?_,?_⟩
 ·obtain⟨h1,rfl⟩:=ui hi
  exact⟨h1,λx H3 av=>by obtain⟨e1,e2⟩:=av;subst e1;subst e2;exact⟨F2,b8.refl,Rep.iC _⟩⟩
 ·show n≤(b7 lo n).length
  rw[nJ];exact Nat.le_refl _
theorem wQ{t:T}{i:Int}(h:kT t=some i):t=.int i:=by
 cases t<;>first|(cases h;rfl)|cases h
theorem dF{a:Expr}{da:D}{p pos:Pos}(hm:X.mg "range"=none)(h:CE X a da)(hg:Gl X "range":=by rfl)(hs:starEach [a] X.env=[(false,eval a X.env)]:=by rfl):CI X tg (.Call (.Name "range" p) [a] [] pos) (bp da) :=
 PI.imp (Bd hg hm (ag h aA hs) hs) λσ H R0 av=>by
  obtain⟨F,α,e,μ,S,h⟩:=av
  refine qY ⟨F,α,e,μ,S,(R.wp_bind h).mono (λx μ1 h v H1 F1 α1 x1 S1 o1=>?_) λ_ _ h=>h⟩
  obtain⟨j,ht,h⟩:=R.bO (R.wp_bind h)
  obtain⟨t,hr,ht⟩:=Option.bind_eq_some_iff.mp ht
  cases wQ ht
  by_cases hb':eG j=true
  ·rw[if_pos hb'] at h
   have hb:=uf hb'
   cases (bC S1.st o1 hr).int
   exact⟨j,rfl,hb.1,hb.2,h _ H1 F1 α1 x1 S1 (Kc 0 j.toNat)⟩
  ·rw[if_neg hb'] at h;exact h.elim
theorem Mw{da db:D}{σ:L2.St}{H:Hp}{Q:List V→Hp→Prop}(h:∃F α e μ,Sim X.K F α e μ σ H∧(da e μ).wp (λx μ1=>(db e μ1).wp (λy μ2=>∀v u H' F' α',Ex F α H F' α' H'→Sim X.K F' α' e μ2 σ H'→f_ X.K F' α' v x→f_ X.K F' α' u y→Q [v,u] H') (fG X F α H e)) (fG X F α H e)):tDA X [da,db] σ H Q:=by
 obtain⟨F,α,e,μ,S,h⟩:=h
 refine⟨F,α,e,μ,S,?_⟩
 rw[cg]
 cases q:da e μ with
 | err c μ1=>rw[q] at h;exact h
 | bad=>rw[q] at h;exact h
 | ok x μ1 =>
  rw[q] at h
  rw[R.bw,cg]
  have h:(db e μ1).wp _ _:=h
  cases q2:db e μ1 with
  | err c μ2=>rw[q2] at h;exact h
  | bad=>rw[q2] at h;exact h
  | ok y μ2 =>
   rw[q2] at h
   intro vs H1 F1 α1 x1 S1 o1
   cases o1 with
   | cons o1 o2 =>
    cases o2 with
    | cons o2 o3=>cases o3;exact h _ _ H1 F1 α1 x1 S1 o1 o2
end
def tBd(K:PySem.W.Frag)(b:BD):TG:=λv σ H Q=>∃F α e μ t e',Sim K F α e μ σ H∧Rep K F t v∧b t e=some e'∧∀σ',Sim K F α e' μ σ' H→Q σ' H
def CB(X:Cx)(tg:Expr)(b:BD):Prop:=PG X tg (tBd X.K b)
theorem PG.imp{X:Cx}{tg:Expr}{t t':TG}(h:PG X tg t)(i:∀v σ H Q,t' v σ H Q→t v σ H Q):PG X tg t':=λpins s σ H v u Q I r q=>h pins s σ H v u Q I r (i v σ H Q q)
section
variable{X:Cx}{pos:Pos}
theorem bY(i:Nat){x:Str}(hN:X.N.Nodup)(hi:X.N[i]?=some x:=by rfl)(hx:Loc X.env.scope x:=by first|exact Or.inl rfl|exact Or.inr rfl)(hf:X.fn x=true∨X.env.scope.names.lookup x=some .local:=by first|exact .inl rfl|exact .inr rfl|assumption) :
  CB X (.Name x pos) (aL i):=PG.imp (lQ hN hi hx hf) λv σ H Q av=>by
 obtain⟨F,α,e,μ,t,e',S,r,hb,q⟩:=av
 cases hb
 exact q _ (S.set (x:=.val t) r)
theorem fV(i j:Nat){x y:Str}{px py:Pos}{k:Nat}(hN:X.N.Nodup)(hc:X.calm=true)(hi:X.N[i]?=some x:=by rfl)(hj:X.N[j]?=some y:=by rfl)(hx:Loc X.env.scope x:=by first|exact Or.inl rfl|exact Or.inr rfl)
  (hy:Loc X.env.scope y:=by first|exact Or.inl rfl|exact Or.inr rfl)
  (hf:X.fn x=true∨X.env.scope.names.lookup x=some .local:=by first|exact .inl rfl|exact .inr rfl|assumption) (hf':X.fn y=true∨X.env.scope.names.lookup y=some .local:=by first|exact .inl rfl|exact .inr rfl|assumption)
  : CB X (.Tuple [.Name x px,.Name y py] k pos) (dn [i,j]) :=
 PG.imp (CP hc (kO (lQ hN hi hx hf) (kO (lQ hN hj hy hf') zU))) λv σ H Q av=>by
  obtain⟨F,α,e,μ,t,e',S,r,hb,q⟩:=av
  cases t with
  | tup ts =>
   unfold dn at hb
   simp only at hb
   by_cases hl:ts.length=[i,j].length
   ·rw[if_pos hl] at hb
    rw[Rep] at r
    obtain⟨a,vs,rfl,hq,hr⟩:=r
    match ts,vs,hl,hr with
    | [t1,t2],vs,_,hr =>
     rw[aH] at hr
     obtain⟨v1,vs1,rfl,r1,hr⟩:=hr
     rw[aH] at hr
     obtain⟨v2,vs2,rfl,r2,hr⟩:=hr
     rw[aH] at hr
     subst hr
     cases hb
     exact⟨a,_,rfl,aZ.i5 S.st.ext hq,rfl,v1,[v2],rfl,v2,[],rfl,rfl,q _ ((S.set (x:=.val t1) r1).set (x:=.val t2) r2)⟩
   ·rw[if_neg hl] at hb;cases hb
  | _=>cases hb
end
section
variable{X:Cx}{tg iter c:Expr}{body:List Stmt}{di:DI}{b:BD}{d:DS}{dc:D}{pos:Pos}
theorem gu(hp:PassesOwn (model X.prog X.w) X.A X.env X.xe)(hc:X.calm=true)(hi:CI X tg iter di)(hg:CB X tg b)(hb:CSs X body d)(hs:∀x,foldedSetIterable iter X.env x=pure x:=by intro _;rfl) :
  CS X (.For tg iter body [] pos) (eJ di b d):=PS.imp (Jp hp hc hi hg hb hs) λD σ H av=>by
 obtain⟨F,α,e,μ,S,h⟩:=av
 refine⟨F,α,e,μ,S,(bh.toS h).mono (λW μ1 h J H1 F1 α1 x1 S1 ok=>?_) λ_ _ h=>h⟩
 refine⟨λi m σ H=>m=W.items.length-i∧i≤W.items.length∧∃F2 α2 e2 μ2,aZ F1 F2∧α1 <+: α2∧Sim X.K F2 α2 e2 μ2 σ H∧bh X F2 α2 H D (forL W.same b d (W.items.drop i) e2 μ2),
  ⟨_,rfl,Nat.zero_le _,F1,α1,e,μ1,aZ.refl _,List.prefix_refl _,S1,bh.mono x1 h⟩,?_⟩
 rintro i m σ2 H2 ⟨rfl,hi,F2,α2,e2,μ2,s2,p2,S2,h⟩
 by_cases hlt:i<W.items.length
 ·rw[List.drop_eq_getElem_cons hlt] at h
  unfold forL at h
  by_cases hs:W.same μ2
  ·rw[if_pos hs] at h
   obtain⟨g1,g2⟩:=ok F2 α2 μ2 H2 s2 p2 S2.st hs
   obtain⟨go,yl⟩:=g1 i W.items[i] (by simp[hlt])
   cases hb':b W.items[i] e2 with
   | none=>simp only[hb'] at h;exact h.elim
   | some e3 =>
    simp only[hb'] at h
    refine .inr ⟨go,λσ' H'=>∃F4 α4 e4 μ4,aZ F1 F4∧α1 <+: α4∧Sim X.K F4 α4 e4 μ4 σ' H'∧bh X F4 α4 H' D (forL W.same b d (W.items.drop (i+1)) e4 μ4),
     λσ' H' q=>⟨W.items.length-(i+1),by omega,rfl,hlt,q⟩,λx H3 y=>?_⟩
    obtain⟨F3,gr,rp⟩:=yl x H3 y
    have x3:Ex F2 α2 H2 F3 α2 H3:=gr.ex S2.st.ext
    refine⟨F3,α2,e2,μ2,W.items[i],e3,S2.grow gr,rp,hb',λσ4 S4=>⟨F3,α2,e3,μ2,S4,?_⟩⟩
    cases q:d e3 μ2 with
    | nx e5 μ5 =>
     simp only[q] at h
     exact λσ' H' F' α' x S'=>⟨F',α',e5,μ5,s2.trans (x3.same.trans x.same),p2.trans x.pre,S',bh.mono (x3.trans x) h⟩
    | ct e5 μ5 =>
     simp only[q] at h
     exact λσ' H' F' α' x S'=>⟨F',α',e5,μ5,s2.trans (x3.same.trans x.same),p2.trans x.pre,S',bh.mono (x3.trans x) h⟩
    | bk e5 μ5 =>
     simp only[q] at h
     exact λσ' H' F' α' x S'=>h σ' H' F' α' (x3.trans x) S'
    | rt x μ5 =>
     simp only[q] at h
     exact λv H' F' α' x S'=>h v H' F' α' (x3.trans x) S'
    | err c e5 μ5=>simp only[q] at h;exact fG.mono x3 h
    | bad=>simp only[q] at h;exact h
  ·rw[if_neg hs] at h;exact h.elim
 ·have e1:i=W.items.length:=by omega
  subst e1
  rw[List.drop_length] at h
  unfold forL at h
  by_cases hs:W.same μ2
  ·rw[if_pos hs] at h
   obtain⟨g1,g2⟩:=ok F2 α2 μ2 H2 s2 p2 S2.st hs
   exact .inl ⟨g2,h σ2 H2 F2 α2 Ex.refl S2⟩
  ·rw[if_neg hs] at h;exact h.elim
theorem wR(hp:PassesOwn (model X.prog X.w) X.A X.env X.xe)(hc:CT X c dc)(hb:CSs X body d):CS X (.While c body [] pos) (j0 dc d):=PS.imp (CU hp hc hb) λD σ H av=>by
 obtain⟨F,α,e,μ,S,h⟩:=av
 unfold j0 at h
 by_cases hn:∃n,dD dc d n e μ≠.bad
 ·rw[dif_pos hn] at h
  refine⟨λm σ H=>∃F2 α2 e2 μ2,Sim X.K F2 α2 e2 μ2 σ H∧bh X F2 α2 H D (dD dc d m e2 μ2),⟨_,F,α,e,μ,S,h⟩,?_⟩
  rintro m σ H ⟨F2,α2,e2,μ2,S2,h⟩
  cases m with
  | zero=>exact h.elim
  | succ m =>
   unfold dD at h
   refine⟨F2,α2,e2,μ2,S2,(bh.asB h).mono (λx μ3 ⟨k,hx,h⟩=>⟨k,hx,λH3 F3 α3 x3 S3=>?_⟩) λ_ _ h=>h⟩
   cases k with
   | false =>
    rw[if_neg Bool.false_ne_true] at h ⊢
    exact h σ H3 F3 α3 x3 S3
   | true =>
    rw[if_pos rfl] at h ⊢
    refine⟨λσ' H'=>∃F4 α4 e4 μ4,Sim X.K F4 α4 e4 μ4 σ' H'∧bh X F4 α4 H' D (dD dc d m e4 μ4),λσ' H' q=>⟨m,Nat.lt_succ_self m,q⟩,F3,α3,e2,μ3,S3,?_⟩
    cases q:d e2 μ3 with
    | nx e5 μ5 =>
     rw[q] at h
     exact λσ' H' F' α' x S'=>⟨F',α',e5,μ5,S',bh.mono (x3.trans x) h⟩
    | ct e5 μ5 =>
     rw[q] at h
     exact λσ' H' F' α' x S'=>⟨F',α',e5,μ5,S',bh.mono (x3.trans x) h⟩
    | bk e5 μ5 =>
     rw[q] at h
     exact λσ' H' F' α' x S'=>h σ' H' F' α' (x3.trans x) S'
    | rt x μ5 =>
     rw[q] at h
     exact λσ' H' F' α' x S'=>h σ' H' F' α' (x3.trans x) S'
    | err c e5 μ5=>rw[q] at h;exact fG.mono x3 h
    | bad=>rw[q] at h;exact h
 ·rw[dif_neg hn] at h;exact h.elim
end
end Fw
namespace L2
open PySem PySem.Spec PyProof.Rows
theorem u7{prog:Program}{w:World}{A:Around}{R:Result→Shared→Prop}{s:Shared}{elt target iter:Expr}{ifs:List Expr}{scope:Scope}{pos:Pos}{it acc:Value}{env:Env}(I:Nat→Shared→Prop)
  (turn:∀n s,I n s→wpAny (model prog w) A (pyNext it) (λr s₁=>match r with
   | none=>R (.ok .next) s₁
   | some v=>wpAny (model prog w) A (letOwnedTupleGo target it v) (λ_ s₁'=>wpAny (model prog w) A (assign target env v) (λ_ s₂ =>
     wpAny (model prog w) A (forIn ifs true λc r=>if r=true then do let ok ← isTrue c env (eval c env);pure (ForInStep.yield ok) else pure (ForInStep.yield r)) (λok s₃ =>
      if ok=true then wpAny (model prog w) A (eval elt env) (λx s₄ =>
       wpAny (model prog w) A (call (.builtin "list.append") [acc,x]) (λ_ s₅=>∃m,m<n∧I m s₅) (λ_ _=>False) s₄) (λ_ _=>False) s₃
      else ∃m,m<n∧I m s₃) (λ_ _=>False) s₂) (λ_ _=>False) s₁') (λ_ _=>False) s₁) (λ_ _=>False) s)
  (n:Nat) (h:I n s):codeAny (model prog w) A (.compLoop (.ListComp elt [⟨target,iter,ifs,0⟩] scope pos) 0 it acc env) R s:=by
 have no:∀{α:Type}{t:Sem α}{Q:α→Shared→Prop}{E:Value→Shared→Prop}{s:Shared},wpAny (model prog w) A t Q (λ_ _=>False) s→wpAny (model prog w) A t Q E s:=λh=>wpAny_mono h (λ_ _ x=>x) λ_ _ x=>x.elim
 refine codeAny_loop rfl I (λn s hI=>?_) n h
 show wpAny _ A ((compTurn (.ListComp elt [⟨target,iter,ifs,0⟩] scope pos) 0 it acc env).onRaise (λx=>do noteFrame x env;theTreesLotGoes x)) _ _ s
 refine wpAny_noted ?_
 rw[compTurn_list]
 refine wpAny_bind (wpAny_standAt (wpAny_bind (wpAny_mono (no (turn n s hI)) (λr s₁ h₁=>?_) λ_ _ h'=>h')))
 cases r with
 | none=>exact wpAny_pure h₁
 | some v =>
  refine wpAny_bind (wpAny_mono (no h₁) (λ_ s₁' h₁'=>?_) λ_ _ h'=>h')
  refine wpAny_bind (wpAny_mono (no h₁') (λ_ s₂ h₂=>wpAny_bind (wpAny_mono (no h₂) (λok s₃ h₃=>?_) λ_ _ h'=>h')) λ_ _ h'=>h')
  cases ok with
  | false=>exact wpAny_pure ⟨rfl,h₃⟩
  | true =>
   exact wpAny_bind (wpAny_bind (wpAny_mono (no h₃) (λx s₄ h₄=>wpAny_bind (wpAny_mono (no h₄) (λ_ s₅ h₅=>wpAny_pure (wpAny_pure ⟨rfl,h₅⟩)) λ_ _ h'=>h')) λ_ _ h'=>h'))
def cN(X:Cx)(N':List Str)(scope:Scope)(cl:List (Str×Addr))(C:Addr)(s₀:Shared)(H₀:Hp)(ex:List Addr):Cx :=
 { X with N:=N',s₀:=s₀,H₀:=H₀,env:=compEnvC scope cl C X.env,outer:=X.stack,stack:=X.stack,ex:=ex,fn:=λx=>(scope.names.lookup x==some NameKind.cell),pn:=[],xe:=λ_ _=>False }
def mv(X:Cx)(ifs:List Expr)(t:TT):Prop :=
 ∀(pins:List (Addr×Obj)) (s:Shared) (σ:St) (H:Hp) (Q:Bool→Hp→Prop),Inv X pins σ H s→t σ H Q →
  wpAny (model X.prog X.w) X.A (forIn ifs true λc r=>if r=true then do let ok ← isTrue c X.env (eval c X.env);pure (ForInStep.yield ok) else pure (ForInStep.yield r)) (TP X pins σ Q) X.xe s
theorem DM{X:Cx}:mv X [] (λ_ H Q=>Q true H):=λ_ _ _ H _ I h=>wpAny_tests_nil ⟨H,I,h⟩
theorem DN{X:Cx}{c:Expr}{t:TT}(h:PT X c t):mv X [c] t:=λpins s σ H Q I q=>wpAny_tests_one (h pins s σ H Q I q)
def s_(mp:List (Option Nat))(σ:St):St:=mp.map λo=>o.bind λj=>(σ[j]?).bind id
structure gj(X:Cx)(N':List Str)(scope:Scope)(mp:List (Option Nat)):Prop where
 kind:scope.kind=.function
 cells:(scope.names.filter λy=>y.2==NameKind.cell).length≤1
 nd:(scope.names.map (·.1)).Nodup
 loc:∀x∈scope.names,x.2=.local→scope.names.lookup x.1=some .local
 free:∀y∈scope.names,y.2=.free→X.env.kindOf y.1=some .cell∨X.env.kindOf y.1=some .free
 len:mp.length=N'.length
 Mx:∀(i j:Nat),mp[i]?=some (some j)→∃x,N'[i]?=some x∧X.N[j]?=some x∧(x,NameKind.free)∈scope.names∧(X.env.scope.names.lookup x=some .cell∨X.env.scope.names.lookup x=some .free)
 seen:∀x,(x,NameKind.free)∈scope.names→(relabel scope X.env).names.lookup x=some .cell∨(relabel scope X.env).names.lookup x=some .free
 back:∀x,(relabel scope X.env).names.lookup x=some .cell∨(relabel scope X.env).names.lookup x=some .free→(x,NameKind.free)∈scope.names∨scope.names.lookup x=some .cell
inductive GW(names:List (Str×NameKind))(n:Nat)(h:Heap)(acc:List (Str×Addr)):Prop where
 | no (h0:∀x,names.lookup x≠some .cell) (h1:cellsFrom n names acc=acc) (h2:pushCells h names=h)
 | one (y:Str) (h0:∀x,names.lookup x=some .cell→x=y) (hy:names.lookup y=some .cell) (h1:cellsFrom n names acc=(y,n)::acc) (h2:pushCells h names=h.push { cls:=.type "cell",data:=.cell none })
theorem wU:∀(names:List (Str×NameKind)) (n:Nat) (h:Heap) (acc:List (Str×Addr)),names.filter (λy=>y.2==NameKind.cell)=[]→(∀x,names.lookup x≠some .cell)∧cellsFrom n names acc=acc∧pushCells h names=h
 | [],n,h,acc,_=>⟨λx=>by simp,rfl,rfl⟩
 | (y,k)::names,n,h,acc,e=>by
  rw[List.filter_cons] at e
  cases hk:(k==NameKind.cell) with
  | true=>rw[if_pos (by exact hk)] at e;cases e
  | false =>
   rw[if_neg (by simp[hk])] at e
   obtain⟨h1,h2,h3⟩:=wU names n h acc e
   refine⟨λx hx=>?_,?_,?_⟩
   ·rw[List.lookup_cons] at hx
    cases hb:x==y with
    | true=>rw[hb] at hx;cases hx;simp at hk
    | false=>rw[hb] at hx;exact h1 x hx
   ·unfold cellsFrom;rw[if_neg (by simp[hk])];exact h2
   ·unfold pushCells;rw[if_neg (by simp[hk])];exact h3
theorem wV:∀(names:List (Str×NameKind)) (n:Nat) (h:Heap) (acc:List (Str×Addr)),(names.filter λy=>y.2==NameKind.cell).length≤1→(names.map (·.1)).Nodup→GW names n h acc
 | [],n,h,acc,_,_=>.no (λx=>by simp) rfl rfl
 | (y,k)::names,n,h,acc,e,nd=>by
  rw[List.filter_cons] at e
  have nd':=List.nodup_cons.mp (by simpa using nd:(y::names.map (·.1)).Nodup)
  cases hk:(k==NameKind.cell) with
  | true =>
   rw[if_pos (by exact hk)] at e
   have e0:names.filter (λy=>y.2==NameKind.cell)=[]:=List.length_eq_zero_iff.mp (by simpa using e)
   obtain⟨h1,h2,h3⟩:=wU names (n+1) (h.push { cls:=.type "cell",data:=.cell none }) ((y,n)::acc) e0
   have ek:k=.cell:=by simpa using hk
   subst ek
   refine .one y (λx hx=>?_) (by simp) ?_ ?_
   ·rw[List.lookup_cons] at hx
    cases hb:x==y with
    | true=>exact eq_of_beq hb
    | false=>rw[hb] at hx;exact absurd hx (h1 x)
   ·unfold cellsFrom;rw[if_pos (by simp)];exact h2
   ·unfold pushCells;rw[if_pos (by simp)];exact h3
  | false =>
   rw[if_neg (by simp[hk])] at e
   have kn:k≠.cell:=by simpa using hk
   have lk:∀x,((y,k)::names).lookup x=some .cell→names.lookup x=some .cell:=λx hx=>by
    rw[List.lookup_cons] at hx
    cases hb:x==y with
    | true=>rw[hb] at hx;cases hx;exact absurd rfl kn
    | false=>rw[hb] at hx;exact hx
   cases wV names n h acc e nd'.2 with
   | no h0 h1 h2 =>
    refine .no (λx hx=>h0 x (lk x hx)) ?_ ?_
    ·unfold cellsFrom;rw[if_neg (by simp[hk])];exact h1
    ·unfold pushCells;rw[if_neg (by simp[hk])];exact h2
   | one z h0 hz h1 h2 =>
    have zne:(z==y)=false:=by
     have:z≠y:=λq=>by
      subst q
      exact nd'.1 (List.mem_map.mpr ⟨_,PySem.mem_of_lookup hz,rfl⟩)
     simpa using this
    refine .one z (λx hx=>h0 x (lk x hx)) (by rw[List.lookup_cons,zne];exact hz) ?_ ?_
    ·unfold cellsFrom;rw[if_neg (by simp[hk])];exact h1
    ·unfold pushCells;rw[if_neg (by simp[hk])];exact h2
theorem wW{M:Model}{A:Around}{E:Value→Shared→Prop}{s:Shared}{scope:Scope}{globals:Addr}{cl:List (Str×Addr)}{qual:Str}{outer:Env}{Q:Env→Shared→Prop}
  (hQ:Q (newEnv scope s.heap.objs.size globals (cellsFrom (s.heap.objs.size+1) scope.names cl) qual none .none (some outer) builtinsNs) { s with heap:=pushCells (s.heap.push { cls:=.type "dict",data:=.dict #[] }) scope.names }) :
  wpAny M A (newFunctionEnv scope globals cl [] qual none .none (some outer)) Q E s:=by
 simp only[newFunctionEnv,Option.isSome_some,if_true]
 refine wpAny_bind (wpAny_alloc ?_)
 refine wpAny_bind (wpAny_layCells _ (λname kind cells=>by cases hkc:kind==NameKind.cell<;>simp[hkc]) _ _ _ _ ?_)
 rw[show ({ s with heap:=s.heap.push { cls:=.type "dict",data:=.dict #[] } }:Shared).heap.objs.size=s.heap.objs.size+1 from Heap.size_push ..]
 simp only[List.forIn_nil]
 exact wpAny_bind (wpAny_pure (wpAny_pure hQ))
theorem j5{env:Env}:∀(names:List (Str×NameKind)) (acc:List (Str×Addr)),(∀y∈names,y.2=.free→∃c,env.cells.lookup y.1=some c) →
  ∃cl:List (Str×Addr),(forIn names acc λx r=>(if (x.2==NameKind.free)=true then do let c ← cellOf env x.1;pure (ForInStep.yield ((x.1,c)::r)) else pure (ForInStep.yield r):Sem (ForInStep (List (Str×Addr)))))=pure cl ∧
   (∀x c,cl.lookup x=some c→acc.lookup x=some c∨env.cells.lookup x=some c)∧(∀x,(x,NameKind.free)∈names∨(acc.lookup x).isSome=true→(cl.lookup x).isSome=true)
 | [],acc,_=>⟨acc,rfl,λx c h=>.inl h,λx h=>by
   rcases h with h|h
   ·simp at h
   ·exact h⟩
 | (n,k)::r,acc,h=>by
  by_cases hk:k=.free
  ·subst hk
   obtain⟨c,hc⟩:=h (n,.free) List.mem_cons_self rfl
   obtain⟨cl,e,h1,h2⟩:=j5 r ((n,c)::acc) λy hy=>h y (List.mem_cons_of_mem _ hy)
   refine⟨cl,?_,λx d hx=>?_,λx hx=>h2 x ?_⟩
   ·rw[List.forIn_cons]
    have e1:(NameKind.free==NameKind.free)=true:=by decide
    simp only[e1,if_true]
    have e2:cellOf env n=pure c:=by simp only[cellOf,hc]
    rw[e2]
    exact e
   ·rcases h1 x d hx with g|g
    ·rw[List.lookup_cons] at g
     cases q:x==n with
     | true =>
      rw[q] at g
      cases g
      have:x=n:=by simpa using q
      subst this
      exact .inr hc
     | false=>rw[q] at g;exact .inl g
    ·exact .inr g
   ·rcases hx with hx|hx
    ·rcases List.mem_cons.mp hx with g|g
     ·cases g
      right
      simp[List.lookup_cons]
     ·exact .inl g
    ·right
     rw[List.lookup_cons]
     cases q:x==n with
     | true=>rfl
     | false=>exact hx
  ·obtain⟨cl,e,h1,h2⟩:=j5 r acc λy hy=>h y (List.mem_cons_of_mem _ hy)
   refine⟨cl,?_,h1,λx hx=>h2 x ?_⟩
   ·rw[List.forIn_cons]
    have e1:(k==NameKind.free)=false:=by simpa using hk
    simp only[e1,Bool.false_eq_true,if_false]
    exact e
   ·rcases hx with hx|hx
    ·rcases List.mem_cons.mp hx with g|g
     ·cases g
      exact absurd rfl hk
     ·exact .inl g
    ·exact .inr hx
theorem q_{scope:Scope}{env:Env}(h:∀y∈scope.names,y.2=.free→∃c,env.cells.lookup y.1=some c) :
  ∃cl,closureFor scope env=pure cl∧(∀x c,cl.lookup x=some c→env.cells.lookup x=some c)∧(∀x,(x,NameKind.free)∈scope.names→(cl.lookup x).isSome=true):=by
 obtain⟨cl,e,h1,h2⟩:=j5 (env:=env) scope.names [] h
 refine⟨cl,?_,λx c hx=>(h1 x c hx).elim (λg=>by simp at g) id,λx hx=>h2 x (.inl hx)⟩
 simp only[closureFor]
 rw[e]
 rfl
section
variable{X:Cx}{elt iter tg:Expr}{ifs:List Expr}{scope:Scope}{pos:Pos}{N':List Str}{g:TG}{tc:TT}{te:TE}{mp:List (Option Nat)}
def As(J:It)(mp:List (Option Nat))(g:TG)(tc:TT)(te:TE)(σ:St)(H:Hp)(Q:VK):Prop:=∀p,H p=none→∃W:Nat→Nat→St→Hp→Prop,(∃m,W 0 m (s_ mp σ) (upd H p (.lst [])))∧∀i m σ H,W i m σ H →
 (J.stop i H∧Q (.ref p) H)∨(J.go i H∧∃N:St→Hp→Prop,(∀σ' H',N σ' H'→∃m',m'<m∧W (i+1) m' σ' H')∧∀x H',J.yld i H x H'→g x σ H' λσ2 H2=>tc σ2 H2 λb H3 =>
  if b=true then te σ2 H3 λy H4=>Ac (.ref p) [y] H4 λ_ H5=>N σ2 H5 else N σ2 H3)
theorem DO{mp:List (Option Nat)}{σ:St}{i:Nat}{v:V}(h:(s_ mp σ)[i]?=some (some v)):∃j,mp[i]?=some (some j)∧σ[j]?=some (some v):=by
 unfold s_ at h
 rw[List.getElem?_map] at h
 cases q:mp[i]? with
 | none=>rw[q] at h;cases h
 | some o =>
  cases o with
  | none=>rw[q] at h;cases h
  | some j =>
   rw[q] at h
   refine⟨j,rfl,?_⟩
   have h:(σ[j]?).bind id=some v:=by simpa using h
   cases z:σ[j]? with
   | none=>rw[z] at h;cases h
   | some y=>rw[z] at h;have h:y=some v:=h;rw[h]
theorem DP{pins:List (Addr×Obj)}{σ:St}{H:Hp}{s₀:Shared}{C:Addr}{h₁:Heap}{t':Nat}{cl:List (Str×Addr)}{fp:List Addr}(hS:gj X N' scope mp)(I:Inv X pins σ H s₀)
  (hcl:∀x c,cl.lookup x=some c→X.env.cells.lookup x=some c∨(scope.names.lookup x=some .cell∧c=C+1∧h₁.IsCell c none∧∀z,scope.names.lookup z=some .cell→z=x)) (hcs:∀x,(x,NameKind.free)∈scope.names→(cl.lookup x).isSome=true∧∀c,cl.lookup x=some c→X.env.cells.lookup x=some c)
  (hcn:∀x,scope.names.lookup x=some .cell→cl.lookup x=some (C+1))
  (hC:C=s₀.heap.objs.size) (keep:∀b o,s₀.heap.get? b=some o→h₁.get? b=some o) (ns:∃m,h₁.Ns C m) (hf:∀b∈fp,kP X pins H b) (hfp:∀b∈fp,b<s₀.heap.objs.size) :
  Inv (cN X N' scope cl C s₀ H fp) [] (s_ mp σ) H { s₀ with heap:=h₁,toks:=t' }:=by
 obtain⟨m0,ns⟩:=ns
 have cellK:∀c v,s₀.heap.IsCell c v→h₁.IsCell c v:=λc v ⟨o,ho,hd⟩=>⟨o,keep c o ho,hd⟩
 refine⟨⟨I.ok.mod,hS.kind,I.ok.glob,I.ok.blt,Nat.le_of_eq hC.symm,λx y c h1 h2=>?_,λx hx=>?_,λx c h hx=>?_,I.ok.hd,I.ok.frames,.inl rfl,λb hb=>⟨?_,λx c h=>?_⟩,I.bs,Nat.le_trans I.ok.bsz I.sz,
   λb o e hb=>?_,λb hb hs=>?_,I.stack,I.qi⟩,rfl,I.bare,Un.kept keep,⟨m0,ns,λi x v e1 e2 e3=>?_⟩,λx c h=>?_,?_,λx c h=>?_,λp hp=>absurd hp (by intro z;cases z),I.hok.kept keep,?_⟩
 ·have old:∀z,X.env.cells.lookup z=some c→c<s₀.heap.objs.size:=λz hz=>by
   obtain⟨v,q⟩:=I.cell z c hz
   exact q.lt
  rcases hcl x c h1 with a|⟨a,ca,_,ua⟩
  ·rcases hcl y c h2 with b|⟨b,cb,_⟩
   ·exact I.ok.inj x y c a b
   ·have:=old x a
    rw[cb,hC] at this
    exact absurd this (Nat.not_lt.mpr (Nat.le_succ _))
  ·rcases hcl y c h2 with b|⟨b,cb,_⟩
   ·have:=old y b
    rw[ca,hC] at this
    exact absurd this (Nat.not_lt.mpr (Nat.le_succ _))
   ·exact (ua y b).symm
 ·rcases hS.back x hx with q|q
  ·exact Option.isSome_iff_exists.mp (hcs x q).1
  ·exact⟨_,hcn x q⟩
 ·have q:scope.names.lookup x=some .cell:=by
   have h:(scope.names.lookup x==some NameKind.cell)=true:=h
   simpa using h
  have hx:cl.lookup x=some c:=hx
  rw[hcn x q] at hx
  cases hx
  rw[hC]
  exact Nat.le_succ _
 ·intro z
  have:=hfp b hb
  rw[z] at this
  have h2:C<s₀.heap.objs.size:=this
  rw[hC] at h2
  exact Nat.lt_irrefl _ h2
 ·rcases hcl x c h with a|⟨a,ca,_⟩
  ·exact (hf b hb).2.2.2.2.1 x c a
  ·have:=hfp b hb
   rw[ca,hC]
   exact λq=>absurd (q ▸ this) (Nat.not_lt.mpr (Nat.le_succ _))
 ·rcases (hf b hb).2.2.2.1 with z|z
  ·exact I.ok.uI b o e z
  ·exact absurd (Nat.lt_of_lt_of_le (Heap.lt_size e) (Nat.le_trans I.ok.bsz z)) (Nat.lt_irrefl _)
 ·rcases List.mem_cons.mp (I.uJ b hs) with z|z
  ·exact (hf b hb).2.1 z
  ·exact (hf b hb).2.2.1 z
 ·obtain⟨j,hj,hv⟩:=DO e2
  obtain⟨y,y1,y2,y3,y4⟩:=hS.Mx i j hj
  have hy:y=x:=by
   have:(cN X N' scope cl C s₀ H fp).N[i]?=some y:=y1
   rw[e1] at this
   exact (Option.some.inj this).symm
  subst hy
  obtain⟨m,hn,hl⟩:=I.loc
  obtain⟨u,ru,lk⟩:=hl j y v y2 hv (y4.elim (λz=>.inr (.inl z)) λz=>.inr (.inr z))
  refine⟨u,ru,?_⟩
  rcases lk with ⟨hk,_⟩|⟨hk,c,hc,zR⟩
  ·exfalso
   have hk:X.env.scope.names.lookup y=some .local:=hk
   rcases y4 with z|z
   ·rw[hk] at z;cases z
   ·rw[hk] at z;cases z
  ·obtain⟨c',hc'⟩:=Option.isSome_iff_exists.mp (hcs y y3).1
   have:c'=c:=by
    have q:=(hcs y y3).2 c' hc'
    rw[hc] at q
    exact (Option.some.inj q).symm
   subst this
   exact .inr ⟨hS.seen y y3,c',hc',cellK _ _ zR⟩
 ·rcases hcl x c h with a|⟨_,_,a,_⟩
  ·obtain⟨v,hv⟩:=I.cell x c a
   exact⟨v,cellK _ _ hv⟩
  ·exact⟨none,a⟩
 ·show H C=none
  rw[hC]
  exact I.hok.fresh (Nat.le_refl _)
 ·rcases hcl x c h with a|⟨_,a,_⟩
  ·exact I.gN x c a
  ·rw[a,hC];exact I.hok.fresh (Nat.le_succ _)
 ·show (s_ mp σ).length=N'.length
  unfold s_
  rw[List.length_map,hS.len]
theorem uj{pins:List (Addr×Obj)}{s₂:Shared}{σ:St}{H₂:Hp}{it:Addr}{fp:List Addr}{tn:Nat→Heap→Prop}{J:It}{cl:List (Str×Addr)}{Q:VK}{RR:Value→Addr→Result→Shared→Prop}{E:Value→Shared→Prop}
  (hS:gj X N' scope mp) (jK:X.calm=true) (hg:∀cl C s₀ H₀ ex,PG (cN X N' scope cl C s₀ H₀ ex) tg g) (hc:∀cl C s₀ H₀ ex,mv (cN X N' scope cl C s₀ H₀ ex) ifs tc) (he:∀cl C s₀ H₀ ex,PE (cN X N' scope cl C s₀ H₀ ex) elt te)
  (hcl:∀x c,cl.lookup x=some c→X.env.cells.lookup x=some c) (hcs:∀x,(x,NameKind.free)∈scope.names→(cl.lookup x).isSome=true)
  (I:Inv X pins σ H₂ s₂) (T:Turn X.prog X.w X.K tg J fp it tn) (st:tn 0 s₂.heap) (hf:∀b∈fp,kP X pins H₂ b) (hq:As J mp g tc te σ H₂ Q)
  (fin:∀p C s' H',Inv X pins σ H' s'→kP X pins H' C→(∃m,s'.heap.Ns C m)→Q (.ref p) H'→RR (.ref p) C (.ok .next) s') :
  wpAny (model X.prog X.w) X.A (newList []) (λacc s₃=>wpAny (model X.prog X.w) X.A (newFunctionEnv scope X.env.globals cl [] X.env.qual none .none (some X.env)) (λMy s₄ =>
   codeAny (model X.prog X.w) X.A (.compStart (.ListComp elt [⟨tg,iter,ifs,0⟩] scope pos) 0 (.ref it) acc { My with scope:=relabel scope X.env }) (RR acc My.locals) s₄) E s₃) E s₂:=by
 refine wpAny_newObj_type (wW ?_)
 dsimp only
 have I₃:Inv X pins σ (upd H₂ s₂.heap.objs.size (.lst [])) { s₂ with heap:=s₂.heap.push { cls:=.type "list",dict:=none,data:=.seq ([]:List Value).toArray } } :=
  I.JQ (t':=s₂.toks) (ys:=[]) .nil (Nat.zero_le _)
 generalize hH2:s₂.heap.push { cls:=.type "list",dict:=none,data:=.seq ([]:List Value).toArray }=H2 at I₃ ⊢
 obtain⟨h₁,hh1⟩:∃h₁,h₁=pushCells (H2.push { cls:=.type "dict",data:=.dict #[] }) scope.names:=⟨_,rfl⟩
 rw[← hh1]
 have hns₁:h₁.Ns H2.objs.size (λ_=>none):=by rw[hh1];exact (Heap.Ns.new H2 (.type "dict")).keeps (pushCells_keeps _ _)
 obtain⟨cl',BB⟩:∃cl',cl'=cellsFrom (H2.objs.size+1) scope.names cl:=⟨_,rfl⟩
 rw[← BB]
 have Ke:=wV scope.names (H2.objs.size+1) (H2.push { cls:=.type "dict",data:=.dict #[] }) cl hS.cells hS.nd
 have fc:∀x,(x,NameKind.free)∈scope.names→scope.names.lookup x≠some .cell:=λx hx q=>by
  have nd:=hS.nd
  have m2:=PySem.mem_of_lookup q
  have key:∀l:List (Str×NameKind),(l.map (·.1)).Nodup→(x,NameKind.free)∈l→(x,NameKind.cell)∈l→False:=by
   intro l
   induction l with
   | nil=>intro _ h;cases h
   | cons a l ih =>
    intro nd h1 h2
    have nd':=List.nodup_cons.mp (by simpa using nd:(a.1::l.map (·.1)).Nodup)
    rcases List.mem_cons.mp h1 with e1|h1
    ·rcases List.mem_cons.mp h2 with e2|h2
     ·rw[← e1] at e2;cases e2
     ·exact nd'.1 (List.mem_map.mpr ⟨_,h2,by rw[← e1]⟩)
    ·rcases List.mem_cons.mp h2 with e2|h2
     ·exact nd'.1 (List.mem_map.mpr ⟨_,h1,by rw[← e2]⟩)
     ·exact ih nd'.2 h1 h2
  exact key _ nd hx m2
 have Mz:∀x c,cl'.lookup x=some c→X.env.cells.lookup x=some c∨(scope.names.lookup x=some .cell∧c=H2.objs.size+1∧h₁.IsCell c none∧∀z,scope.names.lookup z=some .cell→z=x):=λx c h=>by
  cases Ke with
  | no _ e1 _=>rw[BB.trans e1] at h;exact .inl (hcl x c h)
  | one y h0 hy e1 e2 =>
   rw[BB.trans e1,List.lookup_cons] at h
   cases hb:x==y with
   | true =>
    rw[hb] at h
    have hxy:x=y:=eq_of_beq hb
    have h:some (H2.objs.size+1)=some c:=h
    cases h
    subst hxy
    refine .inr ⟨hy,rfl,?_,λz hz=>h0 z hz⟩
    rw[hh1.trans e2,← Heap.size_push H2 { cls:=.type "dict",data:=.dict #[] }]
    exact⟨_,Heap.get?_push_size _ rfl,rfl⟩
   | false=>rw[hb] at h;exact .inl (hcl x c h)
 have Oy:∀x,(x,NameKind.free)∈scope.names→(cl'.lookup x).isSome=true∧∀c,cl'.lookup x=some c→X.env.cells.lookup x=some c:=λx hx=>by
  have el:cl'.lookup x=cl.lookup x:=by
   cases Ke with
   | no _ e1 _=>rw[BB.trans e1]
   | one y h0 hy e1 e2 =>
    rw[BB.trans e1,List.lookup_cons]
    cases hb:x==y with
    | true=>exact absurd ((eq_of_beq hb) ▸ hy) (fc x hx)
    | false=>rfl
  rw[el]
  exact⟨hcs x hx,λc hc=>hcl x c hc⟩
 have Oz:∀x,scope.names.lookup x=some .cell→cl'.lookup x=some (H2.objs.size+1):=λx hx=>by
  cases Ke with
  | no h0 _ _=>exact absurd hx (h0 x)
  | one y h0 hy e1 e2 =>
   rw[BB.trans e1,h0 x hx,List.lookup_cons]
   simp
 have fresh:H₂ s₂.heap.objs.size=none:=I.hok.fresh (Nat.le_refl _)
 have fpl:∀b∈fp,b<s₂.heap.objs.size:=λb hb=>by
  obtain⟨o,ho,_⟩:=T.obj _ _ st b hb
  exact Heap.lt_size ho
 have Kf:s₂.heap.objs.size≤H2.objs.size:=by rw[← hH2,Heap.size_push];exact Nat.le_succ _
 have OA:∀b o,s₂.heap.get? b=some o→H2.get? b=some o:=λb o e=>by rw[← hH2];exact Heap.get?_push_of_some _ e
 have old:∀b o,H2.get? b=some o→h₁.get? b=some o:=λb o e=>by rw[hh1];exact pushCells_keeps _ _ _ _ (Heap.get?_push_of_some _ e)
 have hf3:∀b∈fp,kP X pins (upd H₂ s₂.heap.objs.size (.lst [])) b:=λb hb=>⟨by rw[aO (Nat.ne_of_lt (fpl b hb))];exact (hf b hb).1,(hf b hb).2⟩
 have I₄:=DP (t':=s₂.toks) (N':=N') (C:=H2.objs.size) (h₁:=h₁) hS I₃ Mz Oy Oz rfl old ⟨_,hns₁⟩ hf3 λb hb=>Nat.lt_of_lt_of_le (fpl b hb) Kf
 have st4:tn 0 h₁:=T.keep _ _ _ st λb hb o e=>old b o (OA b o e)
 obtain⟨W,⟨m0,w0⟩,turn⟩:=hq s₂.heap.objs.size fresh
 generalize hX':cN X N' scope cl' H2.objs.size { s₂ with heap:=H2 } (upd H₂ s₂.heap.objs.size (.lst [])) fp=X' at I₄
 have hg':PG X' tg g:=hX' ▸ hg _ _ _ _ _
 have hc':mv X' ifs tc:=hX' ▸ hc _ _ _ _ _
 have he':PE X' elt te:=hX' ▸ he _ _ _ _ _
 have e1:X'.prog=X.prog:=by rw[← hX'];rfl
 have e2:X'.w=X.w:=by rw[← hX'];rfl
 have e3:X'.K=X.K:=by rw[← hX'];rfl
 have e4:X'.calm=true:=by rw[← hX'];exact jK
 have e5:X'.A=X.A:=by rw[← hX'];rfl
 have e6:X'.env=compEnvC scope cl' H2.objs.size X.env:=by rw[← hX'];rfl
 have e7:X'.xe=λ_ _=>False:=by rw[← hX'];rfl
 have yf:∀{H':Hp},(∀b∈fp,H' b=none)→∀b∈fp,kP X' [] H' b:=λ{H'} hn b hb=>by
  refine⟨hn b hb,?_,?_,?_,λx c h=>?_,λp hp=>?_⟩
  ·rw[e6];exact Nat.ne_of_lt (Nat.lt_of_lt_of_le (fpl b hb) Kf)
  ·rw[← hX']
   intro hs
   rcases List.mem_cons.mp (I.uJ b hs) with z|z
   ·exact (hf b hb).2.1 z
   ·exact (hf b hb).2.2.1 z
  ·rw[← hX'];exact .inl hb
  ·rw[e6] at h
   rcases Mz x c h with a|⟨_,a,_⟩
   ·exact (hf b hb).2.2.2.2.1 x c a
   ·rw[a]
    have q1:=Nat.lt_of_lt_of_le (fpl b hb) Kf
    exact λq=>absurd (q ▸ q1) (Nat.not_lt.mpr (Nat.le_succ _))
  ·rw[← hX'] at hp;cases hp
 have loop:∀s₃:Shared,Inv X' [] (s_ mp σ) (upd H₂ s₂.heap.objs.size (.lst [])) s₃→tn 0 s₃.heap →
   codeAny (model X.prog X.w) X.A (.compLoop (.ListComp elt [⟨tg,iter,ifs,0⟩] scope pos) 0 (.ref it) (.ref s₂.heap.objs.size) (compEnvC scope cl' H2.objs.size X.env)) (RR (.ref s₂.heap.objs.size) H2.objs.size) s₃:=by
  intro s₃ I₃' st3
  refine u7 (λn s'=>∃i σ' H',Inv X' [] σ' H' s'∧tn i s'.heap∧(∀b∈fp,H' b=none)∧W i n σ' H') ?_ m0 ⟨0,_,_,I₃',st3,λb hb=>(hf3 b hb).1,w0⟩
  rintro n s4 ⟨i,σ4,H4,I4,st4,fr4,w4⟩
  rcases turn i n σ4 H4 w4 with ⟨stop,qn⟩|⟨go,N,hN,step⟩
  ·have q:=T.done X' e1 e2 e3 e4 i [] s4 σ4 H4 (λ_ _=>False) I4 (yf fr4) st4 stop
   rw[e5] at q
   refine thn q λr s5 av=>?_
   obtain⟨hr,I5⟩:=av
   subst hr
   have I6:Inv X pins σ H4 s5:=by
    subst hX'
    exact I₃.Ig (ch:=fp) I5.os I5.base I5.hok I5.bare λb hb=>⟨(hf3 b hb).2.2.2.1,(hf3 b hb).2.1,(hf3 b hb).2.2.2.2.1,(hf3 b hb).2.2.2.2.2⟩
   have hC:H4 H2.objs.size=none:=by
    have:=I5.free
    rw[e6] at this
    exact this
   have hns:∃m,s5.heap.Ns H2.objs.size m:=by
    obtain⟨m,hm,_⟩:=I5.loc
    rw[e6] at hm
    exact⟨m,hm⟩
   exact fin _ _ s5 H4 I6 (I₃.yc (Nat.le_refl _) hC) hns qn
  ·have q:=T.item X' e1 e2 e3 e4 i [] s4 σ4 H4 (λ_ _=>False) I4 (yf fr4) st4 go
   rw[e5] at q
   refine thn q λr s5 dH=>?_
   obtain⟨u,hr,h5⟩:=dH
   subst hr
   refine thn h5 λ_ s6 wo=>?_
   obtain⟨x,H6,I6,r6,y6,st6,fr6⟩:=wo
   have I6':=I6.pinned (yf fr6) (T.obj _ _ st6)
   have g6:=hg' _ s6 σ4 H6 x u _ I6' r6 (step x H6 y6)
   rw[e1,e2,e5,e6,e7] at g6
   refine thn g6 λ_ s7 MA=>?_
   obtain⟨σ7,H7,I7,q7⟩:=MA
   have c7:=hc' _ s7 σ7 H7 _ I7 q7
   rw[e1,e2,e5,e6,e7] at c7
   refine thn c7 λok s8 MB=>?_
   obtain⟨H8,I8,q8⟩:=MB
   have again:∀{s9:Shared}{σ9:St}{H9:Hp},Inv X' ([]++qy fp s6.heap) σ9 H9 s9→N σ9 H9→∃m,m<n∧∃i σ' H',Inv X' [] σ' H' s9∧tn i s9.heap∧(∀b∈fp,H' b=none)∧W i m σ' H':=λ{s9 σ9 H9} I9 n9=>by
    obtain⟨m',hm,w9⟩:=hN σ9 H9 n9
    refine⟨m',hm,i+1,σ9,H9,I9.m9,T.keep _ _ _ st6 λb hb o e=>(I9.pin (b,o) (List.mem_append_right _ (List.mem_append_right _ (jW hb e)))).1,λb hb=>?_,w9⟩
    obtain⟨o,e,d⟩:=T.obj _ _ st6 b hb
    exact (I9.pin (b,o) (List.mem_append_right _ (List.mem_append_right _ (jW hb e)))).2.1
   cases ok with
   | false =>
    rw[if_neg Bool.false_ne_true] at q8 ⊢
    exact again I8 q8
   | true =>
    rw[if_pos rfl] at q8 ⊢
    have l8:=he' _ s8 σ7 H8 _ I8 q8
    rw[e1,e2,e5,e6,e7] at l8
    refine thn l8 λy s9 MC=>?_
    obtain⟨z,H9,I9,r9,q9⟩:=MC
    have a9:=(t9 (X:=X')) _ s9 σ7 H9 (.ref s₂.heap.objs.size) [z] (.ref s₂.heap.objs.size) [y] _ I9 rfl (.cons r9 .nil) q9
    rw[e1,e2,e5,e7] at a9
    refine thn a9 λ_ s10 ⟨_,H10,I10,_,q10⟩=>again I10 q10
 refine codeAny_compStart_list (loop _ I₄ st4) ?_
 exact T.self X.A 0 _ _ _ st4 (loop _ I₄ st4)
theorem GX{wi:TI}(hx:X.xe=λ_ _=>False)(hS:gj X N' scope mp)(jK:X.calm=true)(hi:PI X tg iter wi)(hg:∀cl C s₀ H₀ ex,PG (cN X N' scope cl C s₀ H₀ ex) tg g)(hc:∀cl C s₀ H₀ ex,mv (cN X N' scope cl C s₀ H₀ ex) ifs tc)
  (he:∀cl C s₀ H₀ ex,PE (cN X N' scope cl C s₀ H₀ ex) elt te) (hs:∀x,foldedSetIterable iter X.env x=pure x:=by intro _;rfl) :
  PE X (.ListComp elt [⟨tg,iter,ifs,0⟩] scope pos) (λσ H Q=>wi σ H λJ H1=>As J mp g tc te σ H1 Q):=by
 intro pins s σ H Q I h
 have hfr:∀y∈scope.names,y.2=.free→∃c,X.env.cells.lookup y.1=some c:=λy hy hk=>I.ok.has y.1 (hS.free y hy hk)
 obtain⟨cl,hcl,h1,h2⟩:=q_ hfr
 rw[eval_ListComp]
 refine wpAny_comprehension_free (use:=none) rfl hs hcl hS.kind hS.loc (thn (hi pins s σ H _ I h) λv s1 q1=>thn q1 λitv s2 av=>?_)
 obtain⟨it,fp,tn,J,H2,e,I2,T,st2,f2,q2⟩:=av
 subst e
 refine uj (RR:=λacc C=>compPost (model X.prog X.w) X.A X.xe none (EP X pins σ Q) acc C) hS jK hg hc he h1 h2 I2 T st2 f2 q2 λp C s' H' I' fp' ns q'=>?_
 obtain⟨m,hm⟩:=ns
 refine⟨m,hm,λh' sb=>⟨.ref p,H',?_,rfl,q'⟩⟩
 exact I'.turned (t':=s'.toks) (λb o hb e=>(sb.2 b hb).trans e) fp'.1 fp'.2.1 fp'.2.2.2.1 fp'.2.2.2.2.1 fp'.2.2.2.2.2
theorem wX{wi:TI}{i:Nat}{y:Str}{py DQ:Pos}(hx:X.xe=λ_ _=>False)(hS:gj X N' scope mp)(jK:X.calm=true)(hi:PI X tg iter wi)(hg:∀cl C s₀ H₀ ex,PG (cN X N' scope cl C s₀ H₀ ex) tg g)
  (hc:∀cl C s₀ H₀ ex,mv (cN X N' scope cl C s₀ H₀ ex) ifs tc) (he:∀cl C s₀ H₀ ex,PE (cN X N' scope cl C s₀ H₀ ex) elt te) (hN:X.N.Nodup) (hiN:X.N[i]?=some y) (hl:Loc X.env.scope y)
  (hsw:swapsWith (.ListComp elt [⟨tg,iter,ifs,0⟩] scope pos) (some (.Name y py)) DQ.line X.env=pure true) (hs:∀x,foldedSetIterable iter X.env x=pure x:=by intro _;rfl)
  (hf:X.fn y=true∨X.env.scope.names.lookup y=some .local:=by first|exact .inl rfl|exact .inr rfl|assumption) :
  PS X (.Assign [.Name y py] (.ListComp elt [⟨tg,iter,ifs,0⟩] scope pos) DQ) (Jm (λσ H Q=>wi σ H λJ H1=>As J mp g tc te σ H1 Q) (CN i)):=by
 intro pins s σ H D I h
 have hfr:∀y∈scope.names,y.2=.free→∃c,X.env.cells.lookup y.1=some c:=λy hy hk=>I.ok.has y.1 (hS.free y hy hk)
 obtain⟨cl,hcl,h1,h2⟩:=q_ hfr
 rw[exec_Assign_Name_used _ _ _ _ hsw]
 refine wpAny_bind (wpAny_standAt (wpAny_bind ?_))
 show wpAny _ X.A (do let _ ← comprehension (.ListComp elt [⟨tg,iter,ifs,0⟩] scope pos) scope X.env _ (newList []) false (eval iter X.env) (some (assign (.Name y py) X.env))) _ _ s
 refine wpAny_bind (wpAny_mono (wpAny_comprehension_free (use:=some (assign (.Name y py) X.env)) (Q:=λ_ s'=>SP X pins D .next s') rfl hs hcl hS.kind hS.loc
  (thn (hi pins s σ H _ I h) λv s1 q1=>thn q1 λitv s2 ⟨it,fp,tn,J,H2,e,I2,T,st2,f2,q2⟩=>?_)) (λ_ s' hq=>wpAny_pure (wpAny_pure hq)) λ_ _ e=>e)
 subst e
 refine uj (RR:=λacc C=>compPost (model X.prog X.w) X.A X.xe (some (assign (.Name y py) X.env)) (λ_ s'=>SP X pins D .next s') acc C) hS jK hg hc he h1 h2 I2 T st2 f2 q2 λp C s' H' I' fp' ns q'=>?_
 obtain⟨m,hm⟩:=ns
 obtain⟨oC,es,ep,hoC,rC⟩:=id hm
 show wpAny _ X.A (assign (.Name y py) X.env (.ref p)) _ _ _
 refine wpAny_assign_Name (tY I' hN hiN hl (v:=.ref p) rfl (λs'' I'' sb=>?_) hf)
 obtain⟨a,sb,ha⟩:=sb
 have hCa:C≠a:=by
  rcases ha with rfl|ha
  ·exact fp'.2.1
  ·exact λz=>fp'.2.2.2.2.1 y a ha z.symm
 refine⟨m,⟨oC,es,ep,(sb.2 C hCa).trans hoC,rC⟩,λh3 sb3=>⟨_,H',?_,q'⟩⟩
 exact I''.turned (t':=s''.toks) (λb o hb e=>(sb3.2 b hb).trans e) fp'.1 fp'.2.1 fp'.2.2.2.1 fp'.2.2.2.2.1 fp'.2.2.2.2.2
end
end L2
namespace Fw
open PySem PySem.Spec PyProof.Rows L2
section
variable{K:PySem.W.Frag}{F F' F1 F2 H H' H1 H2:Hp}{α α' α1 α2:List Addr}{μ μ':af}{e:Slots}{σ:L2.St}
theorem rg{mp:List (Option Nat)}{i:Nat}{x:SV}(h:slot (ini mp e) i=some x):∃j,mp[i]?=some (some j)∧slot e j=some x:=by
 unfold slot ini at h
 rw[List.getElem?_map] at h
 cases q:mp[i]? with
 | none=>rw[q] at h;cases h
 | some o =>
  cases o with
  | none=>rw[q] at h;cases h
  | some j =>
   rw[q] at h
   refine⟨j,rfl,?_⟩
   simp only[Option.map_some,Option.bind_some] at h
   cases z:slot e j with
   | none=>rw[z] at h;cases h
   | some y=>rw[z] at h;cases h;rfl
theorem Sim.ini(S:Sim K F α e μ σ H)(mp:List (Option Nat)):Sim K F α (Fw.ini mp e) μ (s_ mp σ) H:=by
 refine⟨S.st,λi x h=>?_,by unfold Fw.ini s_;rw[List.length_map,List.length_map]⟩
 obtain⟨j,hj,hx⟩:=rg h
 obtain⟨v,hv,ok⟩:=S.sl j x hx
 refine⟨v,?_,ok⟩
 unfold s_
 rw[List.getElem?_map,hj]
 simp[hv]
theorem dA.Kg{p:Addr}{o:HO}(S:dA K F α μ H)(h1:F p=none)(h2:p∉α)(n:NT o:=by intro _ h;cases h):dA K F α μ (upd H p o):=by
 have na:∀{k:Nat}{a:Addr},α[k]?=some a→a≠p:=λ{k a} h q=>h2 (by rw[← q];exact List.mem_of_getElem? h)
 refine⟨λa z hz=>?_,S.len,S.nd,λk a g=>?_,λk b u a g1 g2=>?_,S.tps.upd n⟩
 ·rw[aO (λq=>by subst q;rw[h1] at hz;cases hz)];exact S.ext a z hz
 ·rw[aO (na g)];exact S.there k a g
 ·obtain⟨c1,c2⟩:=S.cell k b u a g1 g2
  refine⟨λhb=>⟨(c1 hb).1,?_⟩,c2⟩
  have d2:=(c1 hb).2
  cases u with
  | lst ts=>obtain⟨vs,w1,w2⟩:=d2;exact⟨vs,by rw[aO (na g2)];exact w1,w2⟩
  | dct ts=>obtain⟨vs,w1,w2⟩:=d2;exact⟨vs,by rw[aO (na g2)];exact w1,w2⟩
  | dtt fz ts=>exact⟨d2.1,(aO (na g2)).trans d2.2⟩
  | _=>exact d2.elim
theorem Ex.Kg{p:Addr}{o:HO}(x:Ex F α H F' α' H')(h:H p=none):Ex F α H F' α' (upd H' p o):=⟨x.same,x.pre,λb z h1 h2 h3=>by
 obtain⟨g1,g2,g3⟩:=x.fr b z h1 h2 h3
 exact⟨by rw[aO (λq=>by subst q;rw[h] at h1;cases h1)];exact g1,g2,g3⟩⟩
theorem Sim.back{e':Slots}(S:Sim K F α e' μ σ H)(hl:e.length=e'.length)(h:∀j x,slot e j=some x→slot e' j=some x):Sim K F α e μ σ H :=
 ⟨S.st,λi x g=>S.sl i x (h i x g),by rw[hl];exact S.len⟩
end
section
variable{X:Cx}{elt iter tg:Expr}{ifs:List Expr}{scope:Scope}{pos:Pos}{N':List Str}{mp:List (Option Nat)}{di:DI}{b:BD}{dc d:D}
def rh(mp:List (Option Nat))(b:BD):Prop:=∀t e e1,b t (ini mp e)=some e1→(ini mp e).length=e1.length∧∀j x,slot (ini mp e) j=some x→slot e1 j=some x
theorem slot_set_ne{e:Slots}{i j:Nat}{x:SV}(h:i≠j):slot (e.set i (some x)) j=slot e j:=by
 unfold slot
 rw[List.getElem?_set_ne h]
theorem bD{i:Nat}(h:mp[i]?=some none):rh mp (aL i):=λt e e1 hb=>by
 cases hb
 refine⟨by rw[List.length_set],λj x hx=>?_⟩
 obtain⟨k,hk,_⟩:=rg hx
 rw[slot_set_ne (λq=>by subst q;rw[h] at hk;cases hk)];exact hx
theorem eh{i i':Nat}(h:mp[i]?=some none)(h':mp[i']?=some none):rh mp (dn [i,i']):=λt e e1 hb=>by
 cases t with
 | tup ts =>
  unfold dn at hb
  simp only at hb
  by_cases hl:ts.length=[i,i'].length
  ·rw[if_pos hl] at hb
   match ts,hl with
   | [t1,t2],_ =>
    cases hb
    refine⟨by simp,λj x hx=>?_⟩
    obtain⟨k,hk,_⟩:=rg hx
    have n1:i≠j:=λq=>by subst q;rw[h] at hk;cases hk
    have n2:i'≠j:=λq=>by subst q;rw[h'] at hk;cases hk
    simp only[List.zip_cons_cons,List.zip_nil_right,List.foldl_cons,List.foldl_nil]
    rw[slot_set_ne n2,slot_set_ne n1];exact hx
  ·rw[if_neg hl] at hb;cases hb
 | _=>cases hb
theorem bL{X':Cx}:mv X' [] (tDT X' (dC (.bl true))):=λpins s σ H Q I av=>by
 obtain⟨F,α,e,μ,S,h⟩:=av
 obtain⟨b,hb,h⟩:=h
 cases hb
 exact DM pins s σ H Q I (h H F α Ex.refl S)
theorem lW{X':Cx}{c:Expr}(h:CT X' c dc):mv X' [c] (tDT X' dc):=DN h
def oD(K:PySem.W.Frag)(d:D):TE:=λσ H Q=>∃F α e μ x μ',Sim K F α e μ σ H∧d e μ=.ok x μ'∧Bz K F α H e σ Q x μ'
def oDT(K:PySem.W.Frag)(d:D):TT:=λσ H Q=>∃F α e μ b μ',Sim K F α e μ σ H∧d e μ=.ok (.val (.bl b)) μ' ∧
 ∀H' F' α',Ex F α H F' α' H'→Sim K F' α' e μ' σ H'→Q b H'
theorem Iq{X':Cx}{σ:L2.St}{H:Hp}{Q:VK}(h:oD X'.K d σ H Q):tD X' d σ H Q:=by
 obtain⟨F,α,e,μ,x,μ',S,h,p⟩:=h
 exact⟨F,α,e,μ,S,by rw[h];exact p⟩
theorem DR{X':Cx}{σ:L2.St}{H:Hp}{Q:Bool→Hp→Prop}(h:oDT X'.K d σ H Q):tDT X' d σ H Q:=by
 obtain⟨F,α,e,μ,b,μ',S,h,p⟩:=h
 exact⟨F,α,e,μ,S,by rw[h];exact⟨b,rfl,p⟩⟩
inductive CIv(K:PySem.W.Frag)(same:af→Prop)(items:List T)(b:BD)(dc d:D)(e0:Slots)(us:List T)(μ':af)(F1:Hp)(α1:List Addr)(H1:Hp)(p:Addr)(i:Nat)(σ':L2.St)(Hc:Hp):Prop
 | mk (F2:Hp) (α2:List Addr) (μ3:af) (done rest:List T) (vs:List V) (x2:Ex F1 α1 H1 F2 α2 Hc) (S2:Sim K F2 α2 e0 μ3 σ' Hc) (n1:F2 p=none) (n2:p∉α2) (hv:Hc p=some (.lst vs)) (hr:aH K F2 done vs) (hdl:done.length≤i) (hL:cV same b dc d e0 (items.drop i) μ3=.ok rest μ') (hu:us=done++rest)
theorem uk{σ:L2.St}{H:Hp}{Q:VK}(hb:rh mp b)(h:tF X (bo di mp b dc d) σ H Q):tDI X di σ H λJ H1=>As J mp (tBd X.K b) (oDT X.K dc) (oD X.K d) σ H1 Q:=by
 obtain⟨F,α,e,μ,S,h⟩:=h
 refine⟨F,α,e,μ,S,(R.wp_bind h).mono (λW μ1 h J H1 F1 α1 x1 S1 ok=>?_) λ_ _ h=>h⟩
 cases hL:(cV W.same b dc d (ini mp e) W.items μ1).calm with
 | err c μ'=>cases q:cV W.same b dc d (ini mp e) W.items μ1<;>rw[q] at hL<;>cases hL
 | bad=>rw[hL] at h;exact h.elim
 | ok us μ' =>
 rw[hL] at h
 have hL:=R.calm_eq hL
 rw[R.bw] at h
 by_cases hz:W.items.length≤szL
 ·rw[if_pos hz] at h
  obtain⟨t,et,post⟩:=h
  cases et
  intro p hp
  refine⟨λi m σ' Hc=>m=W.items.length-i∧i≤W.items.length∧CIv X.K W.same W.items b dc d (ini mp e) us μ' F1 α1 H1 p i σ' Hc,
   ⟨_,rfl,Nat.zero_le _,.mk F1 α1 μ1 [] us [] (Ex.lay hp) ((S1.ini mp).of (aZ.refl _) (List.prefix_refl _) (S1.st.lay hp)) (S1.st.ext.free hp) (cM S1.st hp) aM aH.kK (Nat.zero_le _) hL rfl⟩,?_⟩
  rintro i m σ2 H2 ⟨rfl,hi',hC⟩
  obtain⟨F2,α2,μ3,done,rest,vs,x2,S2,n1,n2,hv,hr,hdl,hL,hu⟩:=hC
  by_cases hlt:i<W.items.length
  ·rw[List.drop_eq_getElem_cons hlt] at hL
   unfold cV at hL
   by_cases hs:W.same μ3
   ·rw[if_pos hs] at hL
    obtain⟨g1,g2⟩:=ok F2 α2 μ3 H2 x2.same x2.pre S2.st hs
    obtain⟨go,yl⟩:=g1 i W.items[i] (by simp[hlt])
    cases hb':b W.items[i] (ini mp e) with
    | none=>simp only[hb'] at hL;cases hL
    | some e3 =>
     simp only[hb'] at hL
     obtain⟨y0,μ4,hy,hL⟩:=R.bc hL
     have hy:=R.calm_eq hy
     obtain⟨k,μ5,hk,hK⟩:=R.bc hL
     obtain⟨hk1,hk2⟩:=R.mH hk
     subst hk2
     have ek:=yJ hk1
     rw[ek] at hy
     clear hL hk hk1 ek
     obtain⟨hl3,hb3⟩:=hb _ _ _ hb'
     refine .inr ⟨go,CIv X.K W.same W.items b dc d (ini mp e) us μ' F1 α1 H1 p (i+1),λσ' H' q=>⟨W.items.length-(i+1),by lia,rfl,hlt,q⟩,λx H3 yy=>?_⟩
     obtain⟨F3,gr,rp⟩:=yl x H3 yy
     have x3:Ex F2 α2 H2 F3 α2 H3:=gr.ex S2.st.ext
     refine⟨F3,α2,ini mp e,μ3,W.items[i],e3,S2.grow gr,rp,hb',λσ4 S4=>?_⟩
     refine⟨F3,α2,e3,μ3,k,μ4,S4,hy,λH5 F5 α5 x5 S5=>?_⟩
     obtain⟨v3,n3,m3⟩:=x3.fr p _ hv n1 n2
     obtain⟨v5,n5,m5⟩:=x5.fr p _ v3 n3 m3
     cases k with
     | false =>
      rw[if_neg Bool.false_ne_true] at hK ⊢
      exact .mk F5 α5 μ4 done rest vs (x2.trans (x3.trans x5)) (S5.back hl3 hb3) n5 m5 v5 (aH.mono (x3.same.trans x5.same) _ _ hr) (Nat.le_succ_of_le hdl) hK hu
     | true =>
      rw[if_pos rfl] at hK ⊢
      obtain⟨y2,μ6,hd,hK⟩:=R.bc hK
      have hd:=R.calm_eq hd
      obtain⟨u,μ7,hfz,hK⟩:=R.bc hK
      obtain⟨us',μ8,hL2,hK⟩:=R.bc hK
      cases hK
      refine⟨F5,α5,e3,μ4,y2,μ6,S5,hd,λv H6 F6 α6 x6 S6 o6=>?_⟩
      obtain⟨v6,n6,m6⟩:=x6.fr p _ v5 n5 m5
      obtain⟨F7,s7,ne7,S7,r7⟩:=oW S6.st o6 hfz
      have hvl:vs.length<sizeLine:=by
       have:=hr.length
       have hz':W.items.length≤sizeLine:=hz
       lia
      have n7:F7 p=none:=by rw[ne7 p m6];exact n6
      have x7:Ex F1 α1 H1 F7 α6 H6:=x2.trans (x3.trans (x5.trans (x6.trans (Ex.qV s7 ne7))))
      refine⟨p,vs,v,rfl,rfl,v6,hvl,.mk F7 α6 μ7 (done++[u]) us' (vs++[v]) (x7.Kg hp) ?_ n7 m6 aM ?_ ?_ hL2 ?_⟩
      ·exact ((S6.back hl3 hb3).of s7 (List.prefix_refl _) S7).of (aZ.refl _) (List.prefix_refl _) (S7.Kg n7 m6)
      ·exact (aH.mono (x3.same.trans (x5.same.trans (x6.same.trans s7))) _ _ hr).append (aH.one r7)
      ·rw[List.length_append,List.length_singleton];lia
      ·rw[hu,List.append_assoc];rfl
   ·rw[if_neg hs] at hL;cases hL
  ·have e1:i=W.items.length:=by lia
   subst e1
   rw[List.drop_length] at hL
   unfold cV at hL
   by_cases hs:W.same μ3
   ·rw[if_pos hs] at hL
    cases hL
    obtain⟨g1,g2⟩:=ok F2 α2 _ H2 x2.same x2.pre S2.st hs
    refine .inl ⟨g2,post p H2 F2 α2 (x1.trans x2) (S1.of x2.same x2.pre S2.st) (x1.was S1.st hp) n1 n2 ⟨vs,hv,?_⟩⟩
    rw[hu,List.append_nil];exact hr
   ·rw[if_neg hs] at hL;cases hL
 ·rw[if_neg hz] at h;exact h.elim
theorem jL{e:Slots}{μ μ':af}{x:SV}(h:bo di mp b dc d e μ=.ok x μ'):∃t,x=.val t:=by
 unfold bo at h
 obtain⟨W,μ1,hW,h⟩:=R.bc h
 obtain⟨us,μ2,hL,h⟩:=R.bc h
 by_cases hz:W.items.length≤szL
 ·rw[if_pos hz] at h;cases h;exact⟨_,rfl⟩
 ·rw[if_neg hz] at h;cases h
theorem mv.imp{X':Cx}{cs:List Expr}{t t':TT}(h:mv X' cs t)(i:∀σ H Q,t' σ H Q→t σ H Q):mv X' cs t':=λpins s σ H Q I q=>h pins s σ H Q I (i σ H Q q)
theorem cR(hx:X.xe=λ_ _=>False)(hS:gj X N' scope mp)(jK:X.calm=true)(hb:rh mp b)(hi:CI X tg iter di)(hg:∀cl C s₀ H₀ ex,CB (cN X N' scope cl C s₀ H₀ ex) tg b)
  (hc:∀cl C s₀ H₀ ex,mv (cN X N' scope cl C s₀ H₀ ex) ifs (tDT (cN X N' scope cl C s₀ H₀ ex) dc)) (he:∀cl C s₀ H₀ ex,CE (cN X N' scope cl C s₀ H₀ ex) elt d) (hs:∀x,foldedSetIterable iter X.env x=pure x:=by intro _;rfl) :
  CF X (.ListComp elt [⟨tg,iter,ifs,0⟩] scope pos) (bo di mp b dc d) :=
 ⟨PE.imp (GX hx hS jK hi (g:=tBd X.K b) hg (λcl C s₀ H₀ ex=>mv.imp (hc cl C s₀ H₀ ex) λσ H Q q=>DR (X':=cN X N' scope cl C s₀ H₀ ex) q) (te:=oD X.K d) (λcl C s₀ H₀ ex=>PE.imp (he cl C s₀ H₀ ex) λσ H Q q=>Iq (X':=cN X N' scope cl C s₀ H₀ ex) q) hs) λσ H Q q=>uk hb q,λ_ _ _ _ h=>jL h⟩
theorem i8(i:Nat){y:Str}{py DQ:Pos}(hx:X.xe=λ_ _=>False)(hS:gj X N' scope mp)(jK:X.calm=true)(hb:rh mp b)(hi:CI X tg iter di)(hg:∀cl C s₀ H₀ ex,CB (cN X N' scope cl C s₀ H₀ ex) tg b)
  (hc:∀cl C s₀ H₀ ex,mv (cN X N' scope cl C s₀ H₀ ex) ifs (tDT (cN X N' scope cl C s₀ H₀ ex) dc)) (he:∀cl C s₀ H₀ ex,CE (cN X N' scope cl C s₀ H₀ ex) elt d) (hN:X.N.Nodup) (hiN:X.N[i]?=some y:=by rfl) (hl:Loc X.env.scope y:=by first|exact Or.inl rfl|exact Or.inr rfl)
  (hsw:swapsWith (.ListComp elt [⟨tg,iter,ifs,0⟩] scope pos) (some (.Name y py)) DQ.line X.env=pure true:=by rfl) (hs:∀x,foldedSetIterable iter X.env x=pure x:=by intro _;rfl)
  (hf:X.fn y=true∨X.env.scope.names.lookup y=some .local:=by first|exact .inl rfl|exact .inr rfl|assumption) :
  PS X (.Assign [.Name y py] (.ListComp elt [⟨tg,iter,ifs,0⟩] scope pos) DQ) (λD σ H=>tF X (bo di mp b dc d) σ H λv H1=>D.nx (σ.set i (some v)) H1) :=
 PS.imp (wX hx hS jK hi (g:=tBd X.K b) hg (λcl C s₀ H₀ ex=>mv.imp (hc cl C s₀ H₀ ex) λσ H Q q=>DR (X':=cN X N' scope cl C s₀ H₀ ex) q) (te:=oD X.K d) (λcl C s₀ H₀ ex=>PE.imp (he cl C s₀ H₀ ex) λσ H Q q=>Iq (X':=cN X N' scope cl C s₀ H₀ ex) q) hN hiN hl hsw hs hf) λD σ H q=>uk hb q
theorem j6{st:Stmt}{i:Nat}{da:D}(h:PS X st (λD σ H=>tF X da σ H λv H1=>D.nx (σ.set i (some v)) H1))(hv:∀e μ x μ',da e μ=.ok x μ'→∃t,x=.val t):CS X st (aE i da) :=
 PS.imp h λD σ H ⟨F,α,e,μ,S,h⟩=>wO hv ⟨F,α,e,μ,S,(bh.toS h).mono (λx μ1 h v H1 F1 α1 x1 S1 o1=>h _ H1 F1 α1 x1 (S1.set o1)) λ_ _ h=>h⟩
end
def spD(K:PySem.W.Frag)(fn:FN)(n:Nat):Sp:=λvs H Q _=>vs.length=n∧∃F α μ xs r μ',dA K F α μ H∧Paired (λv x=>f_ K F α v x) vs xs∧fn xs μ=.ok r μ' ∧
 ∀v H' F' α',Ex F α H F' α' H'→dA K F' α' μ' H'→f_ K F' α' v r→Q v H'
section
variable{X:Cx}{f:Addr}{fd:FuncData}{ps:List Str}{x:Str}{p pos:Pos}{e:Expr}{es:List Expr}{ds:List D}{fn:FN}{k:Nat}
theorem BC{σ:L2.St}{H:Hp}{Q:VK}(hl:ds.length=ps.length)(h:tD X (aB (cal fn) ds) σ H Q):Ij (spD X.K fn ps.length) [] E0 (tDA X ds) σ H Q:=by
 obtain⟨F,α,e,μ,S,h⟩:=h
 refine⟨F,α,e,μ,S,(fB (R.wp_bind h)).mono (λxs μ1 av vs H1 F1 α1 x1 S1 o1=>?_) λ_ _ h=>h⟩
 obtain⟨hn,h⟩:=av
 show spD X.K fn ps.length (vs++[]) H1 Q E0
 rw[List.append_nil]
 have h:((fn xs μ1).calm).wp (Bz X.K F α H e σ Q) (fG X F α H e):=h
 cases q:fn xs μ1 with
 | err c μ2=>rw[q] at h;exact h.elim
 | bad=>rw[q] at h;exact h.elim
 | ok r μ2 =>
  rw[q] at h
  exact⟨by rw[o1.length,hn,hl],F1,α1,μ1,xs,r,μ2,S1.st,o1,q,λv H2 F2 α2 x2 S2 o2=>h v H2 F2 α2 (x1.trans x2) (S1.of x2.same x2.pre S2) o2⟩
theorem aF(G:aU X.prog X.w X.K X.mg X.base CX0 k f fd ps (spD X.K fn ps.length))(hr:eE k X.A)(hm:X.mg x=some (.ref f))(hk:PySem.W.keepIn X.K (.ref f)=true)(hb:Binds X.K fd ps [])(ha:CA X (e::es) ds)
  (hl:ds.length=ps.length:=by rfl) (hg:Gl X x:=by rfl) (hdb:(x==("__debug__":Str))=false:=by decide) (he:starEach (e::es) X.env=(false,eval e X.env)::starEach es X.env:=by rfl) (hpl:(backTo pos (starEach es X.env)).any (·.1)=false:=by rfl) :
  CE X (.Call (.Name x p) (e::es) [] pos) (aB (cal fn) ds):=PE.imp (FX G hr hg hm hk hb .nil Mk ha hdb he hpl) λσ H Q q=>BC hl q
theorem Au{id:String}{r:List V→Hp→VK→Prop}{g:T→Option T}{d:D}(hc:fF X (.builtin id) r)(hs:qW X.K r g)(hm:X.mg x=none)(hv:bootBuiltins x=some (.builtin id))(ha:CE X e d)(hg:Gl X x:=by rfl)(hn:x≠"__name__":=by decide)
  (hdb:(x==("__debug__":Str))=false:=by decide) (hs1:starEach [e] X.env=(false,eval e X.env)::starEach [] X.env:=by rfl) (hpl:(backTo pos (starEach [] X.env)).any (·.1)=false:=by rfl):CE X (.Call (.Name x p) [e] [] pos) (dUn g d) :=
 PE.imp (jG hc hg hm hv (ag ha aA hs1) hn hdb hs1 hpl) (Ip hs)
theorem DT{id:String}{r:List V→Hp→VK→Prop}{g:T→Option T}{d:D}(hc:fF X (.type id) r)(hs:qW X.K r g)(hm:X.mg x=none)(hv:bootBuiltins x=some (.type id))(ha:CE X e d)(hg:Gl X x:=by rfl)(hn:x≠"__name__":=by decide)
  (hdb:(x==("__debug__":Str))=false:=by decide) (hs1:starEach [e] X.env=(false,eval e X.env)::starEach [] X.env:=by rfl) (hpl:(backTo pos (starEach [] X.env)).any (·.1)=false:=by rfl):CE X (.Call (.Name x p) [e] [] pos) (dUn g d) :=
 PE.imp (t8 hc hg hm hv (ag ha aA hs1) hn hdb hs1 hpl) (Ip hs)
theorem Kh{id:String}{r:List V→Hp→VK→Prop}{g:T→Option T}{d:D}(hc:fF X (.type id) r)(hs:wN X.K r g)(hm:X.mg x=none)(hv:bootBuiltins x=some (.type id))(ha:CE X e d)(hg:Gl X x:=by rfl)(hn:x≠"__name__":=by decide)
  (hdb:(x==("__debug__":Str))=false:=by decide) (hs1:starEach [e] X.env=(false,eval e X.env)::starEach [] X.env:=by rfl) (hpl:(backTo pos (starEach [] X.env)).any (·.1)=false:=by rfl):CF X (.Call (.Name x p) [e] [] pos) (dUn g d) :=
 ⟨PE.imp (t8 hc hg hm hv (ag ha aA hs1) hn hdb hs1 hpl) (J_ hs),λ_ _ _ _ h=>Ar h⟩
end
inductive Md where
 | V|D|K
def Md.fn:Md→Nat→DS→FN
 | .V=>fnV
 | .D=>fnD
 | .K=>fnK
section
variable{P:Program}{w:World}{K:PySem.W.Frag}{mg:Str→Option Value}{base:Heap}
theorem um{F H:Hp}{α:List Addr}{μ:af}{N:List Str}{vs:List V}{xs:List SV}(S:dA K F α μ H)(o:Paired (λv x=>f_ K F α v x) vs xs):Sim K F α (starts N.length xs) μ (L2.start N vs) H:=by
 unfold starts
 have hl:=o.length
 refine⟨S,λi x h=>?_,by unfold L2.start;simp[hl]⟩
 have get:∀{vs:List V}{xs:List SV}{i:Nat}{x:SV},Paired (λv x=>f_ K F α v x) vs xs→xs[i]?=some x→∃v,vs[i]?=some v∧f_ K F α v x:=λ{vs}=>by
  intro xs i x o
  induction o generalizing i with
  | nil=>intro e;simp at e
  | cons r _ ih =>
   intro e
   cases i with
   | zero=>simp at e;subst e;exact⟨_,rfl,r⟩
   | succ i =>
    obtain⟨v,h1,h2⟩:=ih (i:=i) (by simpa using e)
    exact⟨v,by simpa using h1,h2⟩
 unfold slot at h
 by_cases hi:i<xs.length
 ·rw[List.getElem?_append_left (by simpa using hi),List.getElem?_map] at h
  cases q:xs[i]? with
  | none=>rw[q] at h;cases h
  | some y =>
   rw[q] at h
   cases h
   obtain⟨v,h1,h2⟩:=get o q
   refine⟨v,?_,h2⟩
   unfold L2.start
   rw[List.getElem?_append_left (by simpa [hl] using hi),List.getElem?_map,h1]
   rfl
 ·rw[List.getElem?_append_right (by simpa using hi),List.getElem?_replicate] at h
  split at h<;>rename_i q
  ·split at q<;>cases q
  ·cases h
theorem cF{x qual:Str}{st:Stmt}{f:Addr}{fd:FuncData}{N ps:List Str}{k:Nat}{d:DS}(md:Md)(F:Fun K x qual st f fd)(S:aV N ps (ar st))
  (hb:∀(cdv:Value) (A:Around) (outer:List Env) (s:Shared) (H:Hp) (E:XK),eE k (A.deeper (envOfC qual (ar st) s.heap.objs.size f cdv))→CSs (nc CX0 P w K mg base N qual (ar st) f cdv A outer s H E).nox (aR st) d) :
  aU P w K mg base CX0 (k+1) f fd ps (spD K (md.fn N.length d) ps.length):=by
 refine F.ok S (λvs H Q E h=>h.1) λcdv A outer s H vs Q E hr h=>⟨_,hb cdv A outer s H E hr,?_⟩
 obtain⟨hl,F0,α,μ,xs,r,μ',S0,o,h,post⟩:=h
 refine⟨F0,α,_,μ,um S0 o,?_⟩
 have fin:∀{y:SV}{μ1:af}{v:V}{H1 F1:Hp}{α1:List Addr},(match md with
   | .V=>ice μ.length y μ1
   | .D=>gc μ.length y μ1
   | .K=>.ok y μ1)=.ok r μ'→Ex F0 α H F1 α1 H1→dA K F1 α1 μ1 H1→f_ K F1 α1 v y→Q v H1:=λ{y μ1 v H1 F1 α1} hg x1 S1 o1=>by
  cases md with
  | V =>
   obtain⟨F2,g1,g2,g3,g4⟩:=DJ S0.len x1.pre S1 o1 hg
   exact post v H1 F2 α ⟨x1.same.trans g1,List.prefix_refl _,λb z h1 h2 h3=>let ⟨a1,a2,a3⟩:=x1.fr b z h1 h2 h3;⟨a1,by rw[g2 b a3];exact a2,h3⟩⟩ g3 g4
  | D =>
   obtain⟨γ,g1,g2,g3,g4⟩:=Mr S0.len x1.pre S1 o1 hg
   exact post v H1 F1 γ ⟨x1.same,g1,λb z h1 h2 h3=>let ⟨a1,a2,a3⟩:=x1.fr b z h1 h2 h3;⟨a1,a2,λhm=>a3 (g2 b hm)⟩⟩ g3 g4
  | K =>
   cases hg
   exact post v H1 F1 α1 x1 S1 o1
 cases q:d (starts N.length xs) μ with
 | rt y μ1=>exact λv H1 F1 α1 x1 S1 o1=>fin (by cases md<;>(simp only[Md.fn,dE,kX,j3,q] at h;exact h)) x1 S1 o1
 | nx e1 μ1=>exact λσ1 H1 F1 α1 x1 S1=>fin (y:=.val .non) (by cases md<;>(simp only[Md.fn,dE,kX,j3,q] at h;exact h)) x1 S1.st (Rep.GR (K:=K) (F:=F1))
 | bk e1 μ1=>cases md<;>(simp only[Md.fn,dE,kX,j3,q] at h;cases h)
 | ct e1 μ1=>cases md<;>(simp only[Md.fn,dE,kX,j3,q] at h;cases h)
 | err c e1 μ1=>cases md<;>(simp only[Md.fn,dE,kX,j3,q] at h;cases h)
 | bad=>cases md<;>(simp only[Md.fn,dE,kX,j3,q] at h;cases h)
end
end Fw
namespace Fw
open PySem
section
variable{α:Type}{μ:List α}{a b c x:α}{l:List α}
@[simp] theorem iD:(μ++a::l)[μ.length]?=some a:=by simp
@[simp] theorem GY:(μ++a::b::l)[μ.length+1]?=some b:=by simp[List.getElem?_append_right]
@[simp] theorem qm:(μ++a::l).set μ.length x=μ++x::l:=by simp
@[simp] theorem GZ:(μ++a::b::l).set (μ.length+1) x=μ++a::x::l:=by simp[List.set_append]
@[simp] theorem G0:(μ++l).take μ.length=μ:=by simp
end
@[simp] theorem mK(μ:af)(k:Nat):rd μ (.cel k)=(μ[k]?).map (·.2):=(rfl)
theorem yN{μ:af}{k:Nat}{b:Bool}{t:T}(h:μ[k]?=some (b,t)):frz (.cel k) μ=.ok t (μ.set k (false,t)):=by
 unfold frz;simp only[h]
@[simp] theorem NW(μ l:af)(b:Bool)(t:T):frz (.cel μ.length) (μ++(b,t)::l)=.ok t (μ++(false,t)::l):=by
 rw[yN (b:=b) (t:=t) (by simp)];simp
@[simp] theorem NX(μ l:af)(a:Bool×T)(b:Bool)(t:T):frz (.cel (μ.length+1)) (μ++a::(b,t)::l)=.ok t (μ++a::(false,t)::l):=by
 rw[yN (b:=b) (t:=t) (by simp)];simp
@[simp] theorem G1(n:Nat)(t:T)(μ:af):ice n (.val t) μ=.ok (.val t) (μ.take n):=(rfl)
@[simp] theorem NY(μ l:af)(b:Bool)(t:T):ice μ.length (.cel μ.length) (μ++(b,t)::l)=.ok (.val t) μ:=by unfold ice;simp
@[simp] theorem OB(μ l:af)(a:Bool×T):gc μ.length (.cel μ.length) (μ++a::l)=.ok (.cel μ.length) (μ++[a]):=by unfold gc;simp
@[simp] theorem rj(μ l:af)(b:Bool)(ts:List T):p8 (.cel μ.length) (μ++(b,.lst ts)::l)=some ():=qk (b:=b) (ts:=ts) (by simp)
@[simp] theorem MD(μ l:af)(a:Bool×T)(b:Bool)(ts:List T):p8 (.cel (μ.length+1)) (μ++a::(b,.lst ts)::l)=some ():=qk (b:=b) (ts:=ts) (by simp)
theorem append_at{μ:af}{k:Nat}{ts:List T}{t:T}(h:μ[k]?=some (true,.lst ts))(hl:ts.length<szL):appendAt (.cel k) t μ=some (μ.set k (true,.lst (ts++[t]))):=by
 unfold appendAt;simp only[h];rw[if_pos hl]
theorem mL(μ l:af)(ts:List T)(t:T)(hl:ts.length<szL):appendAt (.cel μ.length) t (μ++(true,.lst ts)::l)=some (μ++(true,.lst (ts++[t]))::l):=by
 rw[append_at (ts:=ts) (by simp) hl];simp
theorem yO(μ l:af)(a:Bool×T)(ts:List T)(t:T)(hl:ts.length<szL):appendAt (.cel (μ.length+1)) t (μ++a::(true,.lst ts)::l)=some (μ++a::(true,.lst (ts++[t]))::l):=by
 rw[append_at (ts:=ts) (by simp) hl];simp
theorem rk{μ:af}{k:Nat}{ts:List T}{t:T}{i:Int}(h:μ[k]?=some (true,.lst ts))(h0:0≤i)(h1:i<ts.length):setAt (.cel k) (.int i) t μ=some (μ.set k (true,.lst (ts.set i.toNat t))):=by
 unfold setAt;simp only[h];unfold ixN;rw[if_pos h0,if_pos h1];rfl
@[simp] theorem uo(m:Nat)(xs:List SV):starts m xs=xs.map some++List.replicate (m-xs.length) none:=(rfl)
theorem nK{α:Type}{xs:List α}{i:Int}(h0:0≤i):atI xs i=xs[i.toNat]?:=by
 unfold atI ixN
 rw[if_pos h0]
 by_cases h:i<xs.length
 ·rw[if_pos h];rfl
 ·rw[if_neg h]
  exact (List.getElem?_eq_none (by lia)).symm
theorem j7{α β:Type}{xs:List α}{f:α→β}{i:Int}(h0:0≤i)(h1:i<xs.length):atI (xs.map f) i=some (f (xs[i.toNat]'(by lia))):=by
 rw[nK h0,List.getElem?_map,List.getElem?_eq_getElem (by lia)];rfl
@[simp] theorem wY{α:Type}(x:α)(xs:List α):atI (x::xs) 0=some x:=by rw[nK (by lia)];rfl
@[simp] theorem Av{α:Type}(x y:α)(xs:List α):atI (x::y::xs) 1=some y:=by rw[nK (by lia)];rfl
@[simp] theorem G2{α:Type}(x y z:α)(xs:List α):atI (x::y::z::xs) 2=some z:=by rw[nK (by lia)];rfl
def fE(lo:Int)(n:Nat):List Int:=(List.range n).map λ(k:Nat)=>lo+(k:Int)
theorem fH(lo:Int)(n:Nat):b7 lo n=(fE lo n).map T.int:=by
 unfold fE
 induction n generalizing lo with
 | zero=>rfl
 | succ n ih =>
  rw[b7,ih (lo+1),List.range_succ_eq_map]
  simp only[List.map_cons,List.map_map]
  congr 1
  ·simp
  ·apply List.map_congr_left
   intro k _
   simp only[Function.comp]
   congr 1
   lia
@[simp] theorem FI(lo:Int)(n:Nat):(fE lo n).length=n:=by simp[fE]
theorem rq{lo:Int}{n:Nat}{k:Int}:k∈fE lo n↔lo≤k∧k<lo+n:=by
 unfold fE
 rw[List.mem_map]
 constructor
 ·rintro⟨j,hj,rfl⟩
  rw[List.mem_range] at hj
  lia
 ·rintro⟨h1,h2⟩
  exact⟨(k-lo).toNat,by rw[List.mem_range];lia,by lia⟩
theorem yP{lo:Int}{n i:Nat}{k:Int}(h:(fE lo n)[i]?=some k):i<n∧k=lo+i:=by
 unfold fE at h
 rw[List.getElem?_map] at h
 by_cases hi:i<n
 ·rw[List.getElem?_range hi] at h
  cases h
  exact⟨hi,rfl⟩
 ·rw[List.getElem?_eq_none (by simpa using hi)] at h
  cases h
theorem rz{lo:Int}{n i:Nat}{t:T}(h:(b7 lo n)[i]?=some t):i<n∧t=.int (lo+i):=by
 rw[fH,List.getElem?_map] at h
 cases q:(fE lo n)[i]? with
 | none=>rw[q] at h;cases h
 | some k =>
  rw[q] at h
  cases h
  obtain⟨h1,rfl⟩:=yP q
  exact⟨h1,rfl⟩
theorem qo{lo:Int}{n i:Nat}{t:T}(h:(b7 lo n)[i]?=some t):∃k:Int,t=.int k∧i<n∧k=lo+i:=by
 obtain⟨h1,rfl⟩:=rz h
 exact⟨_,rfl,h1,rfl⟩
@[simp] theorem eP(lo:Int)(n:Nat):(b7 lo n).length=n:=by rw[fH];simp
theorem DU{α:Type}(g:α→Bool)(xs:List α):nG (.lst (xs.map λk=>T.bl (g k)))=some (.bl (xs.all g)):=by
 have e:(xs.map λk=>T.bl (g k))=(xs.map g).map T.bl:=by simp
 rw[e,DA];simp[List.all_map]
theorem wZ{α:Type}(g:α→Int)(xs:List α):qO (.lst (xs.map λk=>T.int (g k)))=some (.int (xs.map g).sum):=by
 have e:(xs.map λk=>T.int (g k))=(xs.map g).map T.int:=by simp
 rw[e,Bv]
def RS.yQ(r:RS)(J:Slots→af→Prop)(P:RS→Prop):Prop:=match r with
 | .nx e μ=>J e μ
 | .ct e μ=>J e μ
 | .bk e μ=>P (.nx e μ)
 | r=>P r
@[simp] theorem Aw(e:Slots)(μ:af)(J:Slots→af→Prop)(P:RS→Prop):(RS.nx e μ).yQ J P=J e μ:=(rfl)
@[simp] theorem G3(x:SV)(μ:af)(J:Slots→af→Prop)(P:RS→Prop):(RS.rt x μ).yQ J P=P (.rt x μ):=(rfl)
theorem nL{same:af→Prop}{b:BD}{body:DS}(P:RS→Prop)(I:Nat→Slots→af→Prop)(hs:∀i e μ,I i e μ→same μ){ts:List T}
  (step:∀i t e μ,ts[i]?=some t→I i e μ→∃e1,b t e=some e1∧(body e1 μ).yQ (I (i+1)) P) (fin:∀e μ,I ts.length e μ→P (.nx e μ)) {e:Slots}{μ:af} (h:I 0 e μ):P (forL same b body ts e μ):=by
 have all:∀(us:List T) (i:Nat) (e:Slots) (μ:af),ts.drop i=us→I i e μ→i≤ts.length→P (forL same b body us e μ):=by
  intro us
  induction us with
  | nil =>
   intro i e μ hd hI hi
   have hl:ts.length≤i:=by
    have:=congrArg List.length hd
    simp at this
    lia
   have e1:i=ts.length:=by lia
   subst e1
   unfold forL
   rw[if_pos (hs _ _ _ hI)]
   exact fin e μ hI
  | cons t us ih =>
   intro i e μ hd hI hi
   have hlt:i<ts.length:=by
    have:=congrArg List.length hd
    simp at this
    lia
   have hg:ts[i]?=some t:=by
    have:(ts.drop i)[0]?=some t:=by rw[hd];rfl
    rw[List.getElem?_drop] at this
    simpa using this
   have hd':ts.drop (i+1)=us:=by
    rw[← List.tail_drop,hd];rfl
   obtain⟨e1,h1,h2⟩:=step i t e μ hg hI
   unfold forL
   rw[if_pos (hs _ _ _ hI)]
   simp only[h1]
   cases q:body e1 μ with
   | nx e2 μ2=>rw[q] at h2;exact ih (i+1) e2 μ2 hd' h2 hlt
   | ct e2 μ2=>rw[q] at h2;exact ih (i+1) e2 μ2 hd' h2 hlt
   | bk e2 μ2=>rw[q] at h2;exact h2
   | rt x μ2=>rw[q] at h2;exact h2
   | err c e2 μ2=>rw[q] at h2;exact h2
   | bad=>rw[q] at h2;exact h2
 exact all ts 0 e μ rfl h (Nat.zero_le _)
theorem gv{same:af→Prop}{b:BD}{body:DS}(I:Nat→Slots→af→Prop)(hs:∀i e μ,I i e μ→same μ){ts:List T}
  (step:∀i t e μ,ts[i]?=some t→I i e μ→∃e1 e2 μ2,b t e=some e1∧body e1 μ=.nx e2 μ2∧I (i+1) e2 μ2) {e:Slots}{μ:af} (h:I 0 e μ):∃e' μ',forL same b body ts e μ=.nx e' μ'∧I ts.length e' μ' :=
 nL (P:=λr=>∃e' μ',r=.nx e' μ'∧I ts.length e' μ') I hs (λi t e μ ht hI=>by
  obtain⟨e1,e2,μ2,h1,h2,h3⟩:=step i t e μ ht hI
  exact⟨e1,h1,by rw[h2];exact h3⟩) (λe μ hI=>⟨e,μ,rfl,hI⟩) h
theorem rA{same:af→Prop}{b:BD}{c d:D}{e:Slots}{μ:af}(p:Int→Bool)(g:Int→T)(hs:same μ)(ns:List Int)
  (h:∀n∈ns,∃e1,b (.int n) e=some e1∧c e1 μ=.ok (.val (.bl (p n))) μ∧(p n=true→d e1 μ=.ok (.val (g n)) μ)):cV same b c d e (ns.map T.int) μ=.ok ((ns.filter p).map g) μ:=by
 induction ns with
 | nil=>unfold cV;rw[List.map_nil];simp only;rw[if_pos hs];rfl
 | cons n ns ih =>
  obtain⟨e1,h1,h2,h3⟩:=h n List.mem_cons_self
  have ih:=ih λu hu=>h u (List.mem_cons_of_mem _ hu)
  rw[List.map_cons]
  unfold cV
  rw[if_pos hs]
  simp only[h1,h2,R.eT,R.bw,iN,R.bf]
  cases q:p n with
  | true=>rw[if_pos rfl,h3 q];simp[q,ih]
  | false=>rw[if_neg Bool.false_ne_true,ih];simp[q]
theorem lX{same:af→Prop}{b:BD}{d:D}{e:Slots}{μ:af}(g:Int→T)(hs:same μ)(ns:List Int)
  (h:∀n∈ns,∃e1,b (.int n) e=some e1∧d e1 μ=.ok (.val (g n)) μ):cV same b (dC (.bl true)) d e (ns.map T.int) μ=.ok (ns.map g) μ:=by
 have:=rA (same:=same) (b:=b) (c:=dC (.bl true)) (d:=d) (e:=e) (μ:=μ) (λ_=>true) g hs ns λn hn=>by
  obtain⟨e1,h1,h2⟩:=h n hn
  exact⟨e1,h1,rfl,λ_=>h2⟩
 rw[this]
 congr 2
 exact List.filter_eq_self.mpr λ_ _=>rfl
theorem nM{α:Type}{same:af→Prop}{b:BD}{c d:D}{e:Slots}{μ:af}(f:α→T)(p:α→Bool)(g:α→T)(hs:same μ)(as:List α)
  (h:∀a∈as,∃e1,b (f a) e=some e1∧c e1 μ=.ok (.val (.bl (p a))) μ∧(p a=true→d e1 μ=.ok (.val (g a)) μ)):cV same b c d e (as.map f) μ=.ok ((as.filter p).map g) μ:=by
 induction as with
 | nil=>unfold cV;rw[List.map_nil];simp only;rw[if_pos hs];rfl
 | cons n ns ih =>
  obtain⟨e1,h1,h2,h3⟩:=h n List.mem_cons_self
  have ih:=ih λu hu=>h u (List.mem_cons_of_mem _ hu)
  rw[List.map_cons]
  unfold cV
  rw[if_pos hs]
  simp only[h1,h2,R.eT,R.bw,iN,R.bf]
  cases q:p n with
  | true=>rw[if_pos rfl,h3 q];simp[q,ih]
  | false=>rw[if_neg Bool.false_ne_true,ih];simp[q]
theorem dq{α:Type}{same:af→Prop}{b:BD}{d:D}{e:Slots}{μ:af}(f:α→T)(g:α→T)(hs:same μ)(as:List α)
  (h:∀a∈as,∃e1,b (f a) e=some e1∧d e1 μ=.ok (.val (g a)) μ):cV same b (dC (.bl true)) d e (as.map f) μ=.ok (as.map g) μ:=by
 have:=nM (same:=same) (b:=b) (c:=dC (.bl true)) (d:=d) (e:=e) (μ:=μ) f (λ_=>true) g hs as λn hn=>by
  obtain⟨e1,h1,h2⟩:=h n hn
  exact⟨e1,h1,rfl,λ_=>h2⟩
 rw[this]
 congr 2
 exact List.filter_eq_self.mpr λ_ _=>rfl
theorem lY(xs ys:List Int):i4 (xs.map T.int) (ys.map T.int)=(xs.zip ys).map λq=>.tup [.int q.1,.int q.2]:=by
 induction xs generalizing ys with
 | nil=>rfl
 | cons x xs ih =>
  cases ys with
  | nil=>rfl
  | cons y ys=>simp[i4,ih]
theorem nN(ts us:List T):(i4 ts us).length=min ts.length us.length:=by
 induction ts generalizing us with
 | nil=>simp[i4]
 | cons t ts ih =>
  cases us with
  | nil=>simp[i4]
  | cons u us=>simp[i4,ih]
theorem i9{c:D}{body:DS}:∀(n m:Nat) (e:Slots) (μ:af),n≤m→dD c body n e μ≠.bad→dD c body m e μ=dD c body n e μ
 | 0,m,e,μ,_,h=>absurd rfl h
 | n+1,0,e,μ,h,_=>absurd h (by lia)
 | n+1,m+1,e,μ,hnm,h=>by
  unfold dD at h ⊢
  cases q:c e μ with
  | err x μ1=>simp only[R.toS_err]
  | bad=>rw[q] at h;exact absurd rfl h
  | ok x μ1 =>
   rw[q] at h
   simp only[R.toS_ok] at h ⊢
   cases q2:asB x with
   | none=>rw[q2] at h;exact absurd rfl h
   | some k =>
    rw[q2] at h
    simp only[R.bf,R.toS_ok] at h ⊢
    cases k with
    | false=>rfl
    | true =>
     rw[if_pos rfl] at h ⊢
     rw[if_pos rfl]
     cases q3:body e μ1 with
     | nx e2 μ2=>rw[q3] at h;simp only at h ⊢;exact i9 n m e2 μ2 (by lia) h
     | ct e2 μ2=>rw[q3] at h;simp only at h ⊢;exact i9 n m e2 μ2 (by lia) h
     | bk e2 μ2=>rfl
     | rt x μ2=>rfl
     | err x e2 μ2=>rfl
     | bad=>rfl
theorem BE{c:D}{body:DS}{n:Nat}{e:Slots}{μ:af}(h:dD c body n e μ≠.bad):j0 c body e μ=dD c body n e μ:=by
 have hn:∃n,dD c body n e μ≠.bad:=⟨n,h⟩
 unfold j0
 rw[dif_pos hn]
 have h2:=hn.choose_spec
 rcases Nat.le_total n hn.choose with z|z
 ·exact i9 _ _ _ _ z h
 ·exact (i9 _ _ _ _ z h2).symm
theorem rB{c:D}{body:DS}(P:RS→Prop)(hP:¬ P .bad)(I:Nat→Slots→af→Prop)
  (step:∀m e μ,I m e μ→∃k μ1,c e μ=.ok (.val (.bl k)) μ1∧if k=true then (body e μ1).yQ (λe2 μ2=>∃m',m'<m∧I m' e2 μ2) P else P (.nx e μ1)) :
  ∀(m:Nat) (e:Slots) (μ:af),I m e μ→P (j0 c body e μ):=by
 have key:∀(m:Nat) (e:Slots) (μ:af),I m e μ→∃n,P (dD c body n e μ):=by
  intro m
  induction m using Nat.strongRecOn with
  | ind m ih =>
   intro e μ hI
   obtain⟨k,μ1,h1,h2⟩:=step m e μ hI
   cases k with
   | false =>
    refine⟨1,?_⟩
    unfold dD
    simp only[h1,R.toS_ok,iN,R.bf,Bool.false_eq_true,if_false]
    exact h2
   | true =>
    rw[if_pos rfl] at h2
    cases q:body e μ1 with
    | nx e2 μ2 =>
     rw[q] at h2
     obtain⟨m',hm,hI'⟩:=h2
     obtain⟨n,hn⟩:=ih m' hm e2 μ2 hI'
     refine⟨n+1,?_⟩
     unfold dD
     simp only[h1,R.toS_ok,iN,R.bf,if_true,q]
     exact hn
    | ct e2 μ2 =>
     rw[q] at h2
     obtain⟨m',hm,hI'⟩:=h2
     obtain⟨n,hn⟩:=ih m' hm e2 μ2 hI'
     refine⟨n+1,?_⟩
     unfold dD
     simp only[h1,R.toS_ok,iN,R.bf,if_true,q]
     exact hn
    | bk e2 μ2 =>
     rw[q] at h2
     refine⟨1,?_⟩
     unfold dD
     simp only[h1,R.toS_ok,iN,R.bf,if_true,q]
     exact h2
    | rt x μ2 =>
     rw[q] at h2
     refine⟨1,?_⟩
     unfold dD
     simp only[h1,R.toS_ok,iN,R.bf,if_true,q]
     exact h2
    | err x e2 μ2 =>
     rw[q] at h2
     refine⟨1,?_⟩
     unfold dD
     simp only[h1,R.toS_ok,iN,R.bf,if_true,q]
     exact h2
    | bad=>rw[q] at h2;exact absurd h2 hP
 intro m e μ hI
 obtain⟨n,hn⟩:=key m e μ hI
 rw[BE (n:=n) (λz=>hP (z ▸ hn))]
 exact hn
def nO:T→Option Key
 | .int i=>some (.inl i)
 | .str x=>some (.inr x)
 | _=>none
@[simp] theorem BF(i:Int):nO (.int i)=some (.inl i):=(rfl)
def j8(kts:List (Key×T))(k:Key):Option T:=(kts.find? λkv=>decide (kv.1=k)).map (·.2)
def u9(kts:List (Key×T))(k:Key)(t:T):List (Key×T) :=
 if (kts.any λkv=>decide (kv.1=k))=true then kts.map (λkv=>if kv.1=k then (kv.1,t) else kv) else kts++[(k,t)]
def rD:T→T→Option T
 | .dct kts,u=>(nO u).bind λk=>j8 kts k
 | _,_=>none
@[simp] theorem BG(kts:List (Key×T))(i:Int):rD (.dct kts) (.int i)=j8 kts (.inl i):=(rfl)
def Sr:T→T→Option T
 | u,.dct kts=>(nO u).map λk=>.bl (j8 kts k).isSome
 | _,_=>none
def uq:T→T→Option T
 | u,.dct kts=>(nO u).map λk=>.bl (!(j8 kts k).isSome)
 | _,_=>none
@[simp] theorem BH(kts:List (Key×T))(i:Int):uq (.int i) (.dct kts)=some (.bl (!(j8 kts (.inl i)).isSome)):=(rfl)
def mM(x:SV)(k:T)(t:T)(μ:af):Option af:=match x with
 | .cel c=>match μ[c]? with
  | some (true,.dct kts)=>(nO k).bind λkk=>if kts.length<szL then some (μ.set c (true,.dct (u9 kts kk t))) else none
  | _=>none
 | _=>none
def pT(i:Nat)(dk dv:D):DS:=λe μ=>(dv e μ).toS e λy μ1=>(R.lift (slot e i) μ1).toS e λx μ1=>(dk e μ1).toS e λz μ2=>(R.lift (rd μ2 z) μ2).toS e λk μ2 =>
 (frz y μ2).toS e λt μ3=>(R.lift (mM x k t μ3) μ3).toS e λμ4 _=>.nx e μ4
@[simp] theorem rE(i:Nat)(dk dv:D)(e:Slots)(μ:af):pT i dk dv e μ=(dv e μ).toS e λy μ1=>(R.lift (slot e i) μ1).toS e λx μ1=>(dk e μ1).toS e λz μ2=>(R.lift (rd μ2 z) μ2).toS e λk μ2 =>
 (frz y μ2).toS e λt μ3=>(R.lift (mM x k t μ3) μ3).toS e λμ4 _=>.nx e μ4:=(rfl)
theorem ur{μ:af}{c:Nat}{kts:List (Key×T)}{i:Int}{t:T}(h:μ[c]?=some (true,.dct kts))(hl:kts.length<szL):mM (.cel c) (.int i) t μ=some (μ.set c (true,.dct (u9 kts (.inl i) t))):=by
 unfold mM
 simp only[h,BF,Option.bind_some,hl,if_true]
def eR(kts:List (Key×T)):List T:=kts.map λp=>.tup [wK p.1,p.2]
def asD:T→Option (List (Key×T))
 | .dct kts=>some kts
 | _=>none
@[simp] theorem u_(kts:List (Key×T)):asD (.dct kts)=some kts:=(rfl)
def j9(d:D):DI:=λe μ=>(d e μ).bind λx μ1=>(R.lift ((rd μ1 x).bind asD) μ1).bind λkts μ1=>.ok ⟨eR kts,λμ'=>rd μ' x=rd μ1 x⟩ μ1
@[simp] theorem o5(d:D)(e:Slots)(μ:af):j9 d e μ=(d e μ).bind λx μ1=>(R.lift ((rd μ1 x).bind asD) μ1).bind λkts μ1=>.ok ⟨eR kts,λμ'=>rd μ' x=rd μ1 x⟩ μ1:=(rfl)
def g_(i:Int):List T→List T
 | []=>[]
 | t::ts=>.tup [.int i,t]::g_ (i+1) ts
theorem o7:∀(i:Int) (ts:List T),(g_ i ts).length=ts.length
 | i,[]=>rfl
 | i,t::ts=>by simp[g_,o7 (i+1) ts]
theorem uu:∀{i:Int}{ts:List T}{j:Nat}{t:T},(g_ i ts)[j]?=some t→∃a,ts[j]?=some a∧t=.tup [.int (i+j),a]
 | i,[],j,t,h=>by simp[g_] at h
 | i,a::ts,0,t,h=>by simp[g_] at h;exact⟨a,rfl,by simp[← h]⟩
 | i,a::ts,j+1,t,h=>by
  obtain⟨b,h1,h2⟩:=uu (i:=i+1) (ts:=ts) (j:=j) (t:=t) (by simpa [g_] using h)
  refine⟨b,by simpa using h1,?_⟩
  rw[h2,show i+1+(j:Int)=i+((j+1:Nat):Int) by lia]
theorem DV(i:Int)(ts:List T)(j:Nat):(g_ i ts)[j]?=(ts[j]?).map λt=>.tup [.int (i+j),t]:=by
 induction ts generalizing i j with
 | nil=>simp[g_]
 | cons a ts ih =>
  cases j with
  | zero=>simp[g_]
  | succ j=>simp only[g_,List.getElem?_cons_succ,ih];congr 1;funext t;rw[show i+1+(j:Int)=i+((j+1:Nat):Int) by lia]
def uv(d:D):DI:=λe μ=>(d e μ).bind λx μ1=>(R.lift ((rd μ1 x).bind cP) μ1).bind λts μ1=>.ok ⟨g_ 0 ts,λμ'=>rd μ' x=rd μ1 x⟩ μ1
@[simp] theorem DW(d:D)(e:Slots)(μ:af):uv d e μ=(d e μ).bind λx μ1=>(R.lift ((rd μ1 x).bind cP) μ1).bind λts μ1=>.ok ⟨g_ 0 ts,λμ'=>rd μ' x=rd μ1 x⟩ μ1:=(rfl)
def k_:T→Bool
 | .non=>true
 | .bl _=>true
 | .int _=>true
 | .str _=>true
 | _=>false
def inT(t:T)(us:List T):Bool:=us.any λy=>eqT y t
def fIn(t u:T):Option T:=match cP u with
 | some us=>if (k_ t && us.all k_)=true then some (.bl (inT t us)) else none
 | none=>none
@[simp] theorem tf(ns:List Int):(ns.map T.int).all k_=true:=by simp[k_]
theorem DX(i:Int)(ns:List Int):inT (.int i) (ns.map T.int)=decide (i∈ns):=by
 unfold inT
 rw[Bool.eq_iff_iff,decide_eq_true_iff,List.any_eq_true]
 constructor
 ·rintro⟨t,ht,he⟩
  obtain⟨j,hj,rfl⟩:=List.mem_map.mp ht
  rw[Aj,beq_iff_eq] at he
  exact he ▸ hj
 ·intro h
  exact⟨_,List.mem_map.mpr ⟨i,h,rfl⟩,by rw[Aj,beq_iff_eq]⟩
@[simp] theorem w5(i:Int)(ns:List Int):fIn (.int i) (.lst (ns.map T.int))=some (.bl (decide (i∈ns))):=by
 unfold fIn
 simp only[iB,tf,Bool.and_true,DX]
 rfl
def ME:T→T→Option T
 | .int i,.int j=>if 0≤i∧j=1 then some (.int (i%2)) else none
 | _,_=>none
@[simp] theorem BI(i:Int)(h:0≤i):ME (.int i) (.int 1)=some (.int (i%2)):=if_pos ⟨h,rfl⟩
def va:T→Option T
 | .int i=>some (.int i)
 | .bl b=>some (.int (if b then 1 else 0))
 | _=>none
@[simp] theorem DY(i:Int):va (.int i)=some (.int i):=(rfl)
@[simp] theorem G4(b:Bool):va (.bl b)=some (.int (if b then 1 else 0)):=(rfl)
def asV:SV→Option T
 | .val t=>some t
 | _=>none
@[simp] theorem G5(t:T):asV (.val t)=some t:=(rfl)
def tj(is:List Nat)(d:D):DS:=λe μ=>(d e μ).toS e λx μ1=>(R.lift ((asV x).bind λt=>dn is t e) μ1).toS e λe' μ1=>.nx e' μ1
@[simp] theorem G6(is:List Nat)(d:D)(e:Slots)(μ:af):tj is d e μ=(d e μ).toS e λx μ1=>(R.lift ((asV x).bind λt=>dn is t e) μ1).toS e λe' μ1=>.nx e' μ1:=(rfl)
@[simp] theorem DZ(i j k:Nat)(t u v:T)(e:Slots):dn [i,j,k] (.tup [t,u,v]) e=some (((e.set i (some (.val t))).set j (some (.val u))).set k (some (.val v))):=(rfl)
def G7:T→Option T
 | .int j=>if (eG j && decide (j.toNat≤szL))=true then some (.lst (b7 0 j.toNat)) else none
 | _=>none
def Ax(x:SV)(μ:af):Option af:=match x with
 | .cel k=>match μ[k]? with
  | some (true,.lst _)=>some (μ.set k (true,.lst []))
  | _=>none
 | _=>none
def Ki(o:D):DS:=λe μ=>(o e μ).toS e λx μ0=>(R.lift (Ax x μ0) μ0).toS e λμ1 _=>.nx e μ1
@[simp] theorem BJ(o:D)(e:Slots)(μ:af):Ki o e μ=(o e μ).toS e λx μ0=>(R.lift (Ax x μ0) μ0).toS e λμ1 _=>.nx e μ1:=(rfl)
def OC:T→Option T
 | .lst ts=>some (.lst ts.reverse)
 | _=>none
@[simp] theorem D0(ts:List T):OC (.lst ts)=some (.lst ts.reverse):=(rfl)
def rF:T→T→Option T
 | .tup xs,.int k=>if xs≠[]∧2≤k∧k<2 ^ 63∧xs.length*k.toNat≤szL then some (.tup (List.replicate k.toNat xs).flatten) else none
 | _,_=>none
theorem w6(xs:List T)(k:Int)(h:xs≠[]∧2≤k∧k<2 ^ 63∧xs.length*k.toNat≤szL):rF (.tup xs) (.int k)=some (.tup (List.replicate k.toNat xs).flatten):=if_pos h
theorem gS{us:List Value}{n:Nat}(h:us.length=n+1):∃a as,us=a::as:=by
 cases us with
 | nil=>cases h
 | cons a as=>exact⟨a,as,rfl⟩
def j_:T→T→Option T
 | .int i,.int j=>if j=1 then some (.int (i%2)) else none
 | _,_=>none
theorem yR(i:Int):j_ (.int i) (.int 1)=some (.int (i%2)):=by unfold j_;exact if_pos rfl
def plain:List (Sum T Nat)→Option (List T)
 | []=>some []
 | .inl t::xs=>(plain xs).map λts=>t::ts
 | .inr _::_=>none
def D1(t:T)(lo hi:Option Int):Option T:=match t with
 | .lst xs=>some (.lst (oS xs lo hi))
 | .tup xs=>some (.tup (oS xs lo hi))
 | _=>none
def Ay(a:D)(lo hi:Option D):D:=λe μ=>(a e μ).bind λx μ1=>(qQ lo e μ1).bind λl μ2=>(qQ hi e μ2).bind λh μ3=>R.lift (ap1 (λt=>D1 t l h) (rd μ3 x)) μ3
theorem D2(a:D)(lo hi:Option D)(e:Slots)(μ:af):Ay a lo hi e μ=(a e μ).bind λx μ1=>(qQ lo e μ1).bind λl μ2=>(qQ hi e μ2).bind λh μ3=>R.lift (ap1 (λt=>D1 t l h) (rd μ3 x)) μ3:=(rfl)
def vb(n:Str):DS:=λe μ=>.err (.exc n none) e μ
def o8(b:DS)(h:Str→DS):DS:=λe μ=>match b e μ with
 | .err (.exc n none) e' μ'=>h n e' μ'
 | .err _ _ _=>.bad
 | r=>r
def hG(d:DS):DS:=λe μ=>match d e μ with
 | .err _ _ _=>.bad
 | r=>r
def MF(i:Nat)(r:RS):RS:=match r with
 | .nx e μ=>.nx (e.set i none) μ
 | .bk e μ=>.bk (e.set i none) μ
 | .ct e μ=>.ct (e.set i none) μ
 | r=>r
def sAs(i:Nat)(n:Str)(d:DS):DS:=λe μ=>MF i (hG d (e.set i (some (.val (.exc n none)))) μ)
def kL(f:Str→Option Bool)(da:D):D:=λe μ=>(da e μ).bind λx μ1=>match x with
 | .val (.exc n none)=>(match f n with
  | some b=>.ok (.val (.bl b)) μ1
  | none=>.bad)
 | _=>.bad
end Fw
namespace Fw
open PySem L2 PyProof.Rows
theorem w8{X:Cx}{x:Str}{C:Addr}{bmB:List Value}{B newId yu:String}{np iz pos p2:Pos}{m:Str}{j:Nat}(F:ExcBaseFacts B newId yu bmB)(hc:X.calm=true)(hm:X.mg x=some (.ref C))(q:PySem.W.excIn X.K C bmB newId=true)(hg:Gl X x:=by rfl)
  (hpl:(backTo iz (starEach [.Constant (.str m) j p2] X.env)).any (·.1)=false:=by rfl) (hs:starEach [.Constant (.str m) j p2] X.env=(false,eval (.Constant (.str m) j p2) X.env)::starEach [] X.env:=by rfl) (hd:(x==("__debug__":Str))=false:=by decide) :
  CS X (.Raise (some (.Call (.Name x np) [.Constant (.str m) j p2] [] iz)) none pos) (vb x) :=
 PS.imp (Dl F hc hg hm q hpl hs hd) λD σ H ⟨F,α,e,μ,S,h⟩=>λpins s h' e' vs I hx =>
  h _ _ ⟨pins,σ,H,F,α,Ex.refl,S,x,C,rfl,hm,.inl ⟨hc,s,h',e',vs,I,hx,rfl,rfl⟩⟩
def spX(K:PySem.W.Frag)(mg:Str→Option Value)(fn:FN)(n:Nat):Sp:=λvs H Q E=>vs.length=n∧∃F α μ xs,dA K F α μ H∧Paired (λv x=>f_ K F α v x) vs xs ∧
 (fn xs μ).wp (λr μ'=>∀v H' F' α',Ex F α H F' α' H'→dA K F' α' μ' H'→f_ K F' α' v r→Q v H')
  (λc μ'=>∀n C,c=.exc n none→mg n=some (.ref C)→∀H' F' α',Ex F α H F' α' H'→dA K F' α' μ' H'→E (.ref C) none H')
section
variable{P:Program}{w:World}{K:PySem.W.Frag}{mg:Str→Option Value}{base:Heap}
theorem Kj{x qual:Str}{st:Stmt}{f:Addr}{fd:FuncData}{N ps:List Str}{k:Nat}{d:DS}(F:Fun K x qual st f fd)(S:aV N ps (ar st))
  (hb:∀(cdv:Value) (A:Around) (outer:List Env) (s:Shared) (H:Hp) (E:XK),eE k (A.deeper (envOfC qual (ar st) s.heap.objs.size f cdv))→CSs (nc (CX1 P w) P w K mg base N qual (ar st) f cdv A outer s H E) (aR st) d) :
  aU P w K mg base (CX1 P w) (k+1) f fd ps (spX K mg (fnV N.length d) ps.length):=by
 obtain⟨oc,od,kV,doc,pm,an,cdv,ct,osl,rfl,lk,hcd⟩:=F.ex
 refine Ik lk hcd S (λvs H Q E h=>h.1) λA outer s H vs Q E hr h=>⟨_,hb cdv A outer s H E hr,?_⟩
 obtain⟨hl,F0,α,μ,xs,S0,o,h⟩:=h
 refine⟨F0,α,_,μ,um S0 o,?_⟩
 rw[dE] at h
 have fin:∀{y r:SV}{μ1 μ':af}{v:V}{H1 F1:Hp}{α1:List Addr},ice μ.length y μ1=.ok r μ'→Ex F0 α H F1 α1 H1→dA K F1 α1 μ1 H1→f_ K F1 α1 v y→∃F2,Ex F0 α H F2 α H1∧dA K F2 α μ' H1∧f_ K F2 α v r:=λ{y r μ1 μ' v H1 F1 α1} hg x1 S1 o1=>by
  obtain⟨F2,g1,g2,g3,g4⟩:=DJ S0.len x1.pre S1 o1 hg
  exact⟨F2,⟨x1.same.trans g1,List.prefix_refl _,λb z h1 h2 h3=>let ⟨a1,a2,a3⟩:=x1.fr b z h1 h2 h3;⟨a1,by rw[g2 b a3];exact a2,h3⟩⟩,g3,g4⟩
 cases q:d (starts N.length xs) μ with
 | rt y μ1 =>
  intro v H1 F1 α1 x1 S1 o1
  rw[q,nI] at h
  cases hi:ice μ.length y μ1 with
  | ok r μ' =>
   rw[hi] at h
   obtain⟨F2,a1,a2,a3⟩:=fin hi x1 S1 o1
   exact h v H1 F2 α a1 a2 a3
  | err c μ' =>
   unfold ice at hi
   cases hz:frz y μ1 with
   | ok t μ2=>rw[hz] at hi;cases hi
   | err c2 μ2=>exact absurd hz (qG y μ1 c2 μ2)
   | bad=>rw[hz] at hi;cases hi
  | bad=>rw[hi] at h;exact h.elim
 | nx e1 μ1 =>
  intro σ1 H1 F1 α1 x1 S1
  rw[q] at h
  obtain⟨F2,a1,a2,a3⟩:=fin (y:=.val .non) (r:=.val .non) (μ':=μ1.take μ.length) rfl x1 S1.st (Rep.GR (K:=K) (F:=F1))
  exact h .non H1 F2 α a1 a2 a3
 | bk e1 μ1=>rw[q] at h;exact h.elim
 | ct e1 μ1=>rw[q] at h;exact h.elim
 | bad=>rw[q] at h;exact h.elim
 | err c e1 μ1 =>
  rw[q] at h
  rintro ev s' ⟨pins,σ',H',F',α',x1,S1,n,C,rfl,hm,Kk⟩
  obtain⟨F2,a1,a2,a3⟩:=fin (y:=.val .non) (r:=.val .non) (μ':=μ1.take μ.length) rfl x1 S1.st (Rep.GR (K:=K) (F:=F'))
  have hE:E (.ref C) none H':=h n C rfl hm H' F2 α a1 a2
  rcases Kk with ⟨_,s2,h',e,vs',I,hx,rfl,rfl⟩|⟨H0,s2,I,hx⟩|⟨_,e2,t2,B2,rfl,c2⟩
  ·exact Dj I hx hE
  ·exact Gp I hx λcv H'' av=>by obtain⟨z1,z2⟩:=av;subst z1 z2;exact hE
  ·exact JZ c2 hE
end
section
variable{X:Cx}{f:Addr}{fd:FuncData}{ps:List Str}{x:Str}{p pos:Pos}{e:Expr}{es:List Expr}{ds:List D}{fn:FN}{k:Nat}
theorem w_(G:aU X.prog X.w X.K X.mg X.base (CX1 X.prog X.w) k f fd ps (spX X.K X.mg fn ps.length))(hr:eE k X.A)(hm:X.mg x=some (.ref f))(hk:PySem.W.keepIn X.K (.ref f)=true)(hb:Binds X.K fd ps [])(ha:CA X (e::es) ds)
  (hl:ds.length=ps.length:=by rfl) (hg:Gl X x:=by rfl) (hdb:(x==("__debug__":Str))=false:=by decide) (he:starEach (e::es) X.env=(false,eval e X.env)::starEach es X.env:=by rfl) (hpl:(backTo pos (starEach es X.env)).any (·.1)=false:=by rfl) :
  CE X (.Call (.Name x p) (e::es) [] pos) (aB fn ds):=by
 intro pins s σ H Q I ⟨F,α,e0,μ,S,h⟩
 refine wpAny_Call_Name_kw (m8 I hg hm ?_ hdb)
 have hA:tDA X ds σ H (λvs H1=>∃F1 α1 μ1 xs,Ex F α H F1 α1 H1∧Sim X.K F1 α1 e0 μ1 σ H1∧Paired (λv x=>f_ X.K F1 α1 v x) vs xs∧xs.length=ds.length∧(fn xs μ1).wp (Bz X.K F α H e0 σ Q) (fG X F α H e0)) :=
  ⟨F,α,e0,μ,S,(fB (R.wp_bind h)).mono (λxs μ1 ⟨hn,h⟩ vs H1 F1 α1 x1 S1 o1=>⟨F1,α1,μ1,xs,x1,S1,o1,hn,h⟩) λ_ _ h=>h⟩
 refine PySem.W.callWith_K (h₀:=X.base) I.ok.mod.kin hk (thn (ha pos pins s σ H _ I hA) λus s1 ⟨vs,H1,I1,r,F1,α1,μ1,xs,x1,S1,o1,hn,hw⟩=>⟨I1.kIn,?_⟩) he hpl
 have hlen:us.length=ps.length:=by rw[← r.length,o1.length,hn,hl]
 let E:XK:=λcv _ H'=>∃n C F' α' μ2,cv=.ref C∧X.mg n=some (.ref C)∧fn xs μ1=.err (.exc n none) μ2∧Ex F1 α1 H1 F' α' H'∧dA X.K F' α' μ2 H'
 have hsp:spX X.K X.mg fn ps.length vs H1 Q E:=by
  refine⟨by rw[r.length,hlen],F1,α1,μ1,xs,S1.st,o1,?_⟩
  cases q:fn xs μ1 with
  | ok rr μ2=>rw[q] at hw;exact λv H2 F2 α2 x2 S2 o2=>hw v H2 F2 α2 (x1.trans x2) (S1.of x2.same x2.pre S2) o2
  | err c μ2=>exact λn C hc hmn H2 F2 α2 x2 S2=>⟨n,C,F2,α2,μ2,rfl,hmn,by rw[q,hc],x2,S2⟩
  | bad=>rw[q] at hw;exact hw.elim
 have hbn:=hb s1 us I1.kIn (by rw[List.append_nil];exact hlen)
 rw[List.append_nil] at hbn
 refine wpAny_call (codeAny_mono (G.run X.A X.stack s1 H1 ⟨us,[]⟩ us vs Q E hr I1.FW hbn r hsp) λrr s' hq=>?_)
 cases rr with
 | error ev =>
  obtain⟨e',t,C,H',B,hev,hos,wB,U,hok,⟨n,C',F2,α2,μ2,hc,hmn,hfn,x2,S2⟩,fl,cov,p5⟩:=(show CX1 X.prog X.w X.stack H1 s1 E ev s' from hq)
  cases hc
  rw[hfn] at hw
  exact hw ev s' ⟨pins,σ,H',F2,α2,x1.trans x2,S1.of x2.same x2.pre S2,n,C,rfl,hmn,.inr (.inl ⟨H1,s1,I1,e',t,C,H',B,hev,hos,wB,U,hok,⟨rfl,rfl⟩,fl,cov,p5⟩)⟩
 | ok fl =>
  cases fl with
  | ret u=>exact I1.after hq
  | next=>exact False.elim hq
  | brk=>exact False.elim hq
  | cont=>exact False.elim hq
end
noncomputable abbrev Az (X : Cx) (E : Value → Shared → Prop) (pn : List (Addr × Obj)) : Cx := { X with xe := E, pn := pn, calm := false }
section
variable{X:Cx}{pins:List (Addr×Obj)}{σ:L2.St}{H:Hp}{s:Shared}
theorem BK(I:Inv X pins σ H s)(E:Value→Shared→Prop):Inv (Az X E (X.pn++pins)) [] σ H s :=
 ⟨⟨I.ok.mod,I.ok.kind,I.ok.glob,I.ok.blt,I.ok.above,I.ok.inj,I.ok.has,I.ok.cab,(λh=>by cases h),I.ok.frames,I.ok.stk,I.ok.exf,I.ok.bs,I.ok.bsz,I.ok.uI,I.ok.ya,I.ok.mF,I.ok.frf⟩,I.os,I.bare,I.base,I.loc,I.cell,I.free,I.gN,
  λp hp=>I.pin p (by simpa using hp),I.hok,I.len⟩
theorem hJ{E:Value→Shared→Prop}{wj:List (Addr×Obj)}(ok:X.Ok)(I:Inv (Az X E (X.pn++pins)) wj σ H s):Inv X pins σ H s :=
 ⟨ok,I.os,I.bare,I.base,I.loc,I.cell,I.free,I.gN,λp hp=>I.pin p (List.mem_append_left _ hp),I.hok,I.len⟩
theorem yS{E:Value→Shared→Prop}{D:Ends}{f:Flow}(ok:X.Ok)(h:SP (Az X E (X.pn++pins)) [] D f s):SP X pins D f s:=by
 cases f with
 | next=>obtain⟨σ',H',I,q⟩:=h;exact⟨σ',H',hJ ok I,q⟩
 | brk=>obtain⟨σ',H',I,q⟩:=h;exact⟨σ',H',hJ ok I,q⟩
 | cont=>obtain⟨σ',H',I,q⟩:=h;exact⟨σ',H',hJ ok I,q⟩
 | ret u=>obtain⟨v,σ',H',I,r,q⟩:=h;exact⟨v,σ',H',hJ ok I,r,q⟩
end
def CH(X:Cx)(hs:List ExceptHandler)(d:Str→DS):Prop:=∀(pins:List (Addr×Obj)) (σ:L2.St) (H:Hp) (e t C:Addr) (B:Heap) (s:Shared) (n:Str) (D:Ends) (F:Hp) (α:List Addr) (e':Slots) (μ':af),
 Cau X pins σ H e t C B s→X.mg n=some (.ref C)→Sim X.K F α e' μ' σ H→bh X F α H D (d n e' μ')→wpAny (model X.prog X.w) X.A (handleBy (.ref e) X.env hs) (SP X pins D) X.xe s
theorem D3{X:Cx}{body:List Stmt}{h₀:ExceptHandler}{hs:List ExceptHandler}{pos:Pos}{db:DS}{dh:Str→DS}(hst:X.stack=X.env::X.outer)(hf:X.env.frame=some X.env.locals)(hb:∀E pn,CSs (Az X E pn) body db)(hh:CH X (h₀::hs) dh) :
  CS X (.Try body (h₀::hs) [] [] pos) (o8 db dh):=by
 intro pins s σ H D I ⟨F,α,e,μ,S,h⟩
 have ok:=I.ok
 refine wpAny_Try_except ?_
 refine wpAny_mono (hb _ (X.pn++pins) [] s σ H D (BK I _) ⟨F,α,e,μ,S,?_⟩) (λf s₁ q=>?_) (λ_ _ z=>z)
 ·unfold o8 at h
  cases q:db e μ with
  | nx e1 μ1=>rw[q] at h;exact h
  | rt y μ1=>rw[q] at h;exact h
  | bk e1 μ1=>rw[q] at h;exact h
  | ct e1 μ1=>rw[q] at h;exact h
  | bad=>rw[q] at h;exact h
  | err c e1 μ1 =>
   rw[q] at h
   rintro ev s' ⟨wj,σ',H',F',α',x1,S1,n,C,rfl,hm,Kk⟩
   rcases Kk with ⟨jK,_⟩|⟨H0,s2,I2,hx⟩|⟨jK,_⟩
   ·cases jK
   ·have I3:Inv X pins σ' H0 s2:=hJ ok I2
    refine cau hst hf I3 hx λe2 t2 C2 H2 B h5 hev hE2 cc=>?_
    subst hev
    obtain⟨hc1,hc2⟩:=hE2
    cases hc1
    subst hc2
    exact hh pins σ' _ e2 t2 C B _ n D F' α' e1 μ1 cc hm S1 (bh.mono x1 h)
   ·cases jK
 ·have q:=yS ok q
  cases f with
  | next=>exact wpAny_execs_nil q
  | brk=>exact q
  | cont=>exact q
  | ret u=>exact q
end Fw
namespace L2
open PySem PySem.Spec PyProof.Rows
section
variable{prog:Program}{w:World}{A:Around}{E:Value→Shared→Prop}{s:Shared}{e C:Addr}{bm:List Value}{Q:Value→Shared→Prop}{c:Value}
end
end L2
namespace Fw
open PySem L2 PyProof.Rows
def p_(K:PySem.W.Frag)(C:Addr):List Value:=match K.lookup C with
 | some ⟨_,_,.cls cd,_⟩=>cd.mro
 | _=>[]
structure vc(K:PySem.W.Frag)(C:Addr):Prop where
 ex:∃bmB newId,PySem.W.excIn K C bmB newId=true∧bmB.contains (.type "BaseException")=true
theorem vc.own{K:PySem.W.Frag}{C:Addr}{h:Heap}(o:vc K C)(X:K.In h):∃bm,Dn h C bm∧p_ K C=.ref C::bm:=by
 obtain⟨bmB,newId,q,hb⟩:=o.ex
 obtain⟨bm,N,nm,qn,bs,hdct,sn,sub,ab,col,dd,k0,k1,k2,k3,k5,mN,hC,hN,hni,T⟩:=(Dk (mg:=λ_=>some (.ref C)) (x:="") X rfl q).obj
 refine⟨bm,⟨nm,qn,N,bs,hdct,sn,sub,ab,col,dd,k0,k1,k2,k3,k5,newId,hC,T.hasType hb⟩,?_⟩
 unfold p_
 unfold PySem.W.excIn at q
 cases hl:K.lookup C with
 | none=>rw[hl] at q;cases q
 | some o =>
  have:=X _ _ hl
  rw[hC] at this
  cases this
  rfl
def CH1(X:Cx)(hs:List ExceptHandler)(n:Str)(d:DS):Prop:=∀(pins:List (Addr×Obj)) (σ:L2.St) (H:Hp) (e t C:Addr) (B:Heap) (s:Shared) (D:Ends) (F:Hp) (α:List Addr) (e':Slots) (μ':af),
 Cau X pins σ H e t C B s→X.mg n=some (.ref C)→Sim X.K F α e' μ' σ H→bh X F α H D (d e' μ')→wpAny (model X.prog X.w) X.A (handleBy (.ref e) X.env hs) (SP X pins D) X.xe s
theorem CH.of{X:Cx}{hs:List ExceptHandler}{d:Str→DS}(h:∀n,CH1 X hs n (d n)):CH X hs d:=λpins σ H e t C B s n D F α e' μ' c hm S p=>h n pins σ H e t C B s D F α e' μ' c hm S p
theorem G8{X:Cx}{hs:List ExceptHandler}{n:Str}:CH1 X hs n uY:=λpins σ H e t C B s D F α e' μ' c hm S p=>False.elim p
theorem uw{X:Cx}{ev:Value}{F H:Hp}{α:List Addr}{D:Ends}{d:DS}{e:Slots}{μ:af}(h:bh X F α H D (hG d e μ)):bh (X.mark ev) F α H D (d e μ):=by
 unfold hG at h
 cases q:d e μ with
 | err c e1 μ1=>rw[q] at h;exact False.elim h
 | nx e1 μ1=>rw[q] at h;exact h
 | rt y μ1=>rw[q] at h;exact h
 | bk e1 μ1=>rw[q] at h;exact h
 | ct e1 μ1=>rw[q] at h;exact h
 | bad=>rw[q] at h;exact h
section
variable{X:Cx}{n x:Str}{C D:Addr}{np pos tp:Pos}{name:Option Str}{body tl:List Stmt}{b₀:Stmt}{rest:List ExceptHandler}{d:DS}
theorem in_of{pins:List (Addr×Obj)}{σ:L2.St}{H:Hp}{s:Shared}(I:Inv X pins σ H s):X.K.In s.heap:=by
 have e0:=I.FW
 exact e0.mod.kin.keeps λb o e=>(e0.bs b o e).1
theorem G9(hn:X.mg n=some (.ref C))(hC:vc X.K C)(hm:X.mg x=some (.ref D))(hD:vc X.K D)(tq:(p_ X.K C).contains (.ref D)=false)(hr:CH1 X rest n d)(hg:Gl X x:=by rfl)(hd:(x==("__debug__":Str))=false:=by decide) :
  CH1 X (.ExceptHandler (some (.Name x np)) name body pos::rest) n d:=by
 intro pins σ H e t C' B s D' F α e' μ' c hm' S p
 rw[hn] at hm'
 cases hm'
 have KX:=in_of c.inv
 obtain⟨bm,oC,eC⟩:=hC.own KX
 obtain⟨bm',oD,_⟩:=hD.own KX
 refine oK c oC ⟨bm',oD⟩ hg hm ?_ hd
 rw[eC] at tq
 rw[if_neg (by rw[tq];exact Bool.false_ne_true)]
 exact hr pins σ H e t C B s D' F α e' μ' c hn S p
theorem G_(hn:X.mg n=some (.ref C))(hC:vc X.K C)(hm:X.mg x=some (.ref D))(hD:vc X.K D)(tq:(p_ X.K C).contains (.ref D)=true)(hp:∀ev,CSs (X.mark ev) (b₀::tl) d)(hg:Gl X x:=by rfl)(hd:(x==("__debug__":Str))=false:=by decide) :
  CH1 X (.ExceptHandler (some (.Name x np)) none (b₀::tl) pos::rest) n (hG d):=by
 intro pins σ H e t C' B s D' F α e' μ' c hm' S p
 rw[hn] at hm'
 cases hm'
 have KX:=in_of c.inv
 obtain⟨bm,oC,eC⟩:=hC.own KX
 obtain⟨bm',oD,_⟩:=hD.own KX
 refine oK c oC ⟨bm',oD⟩ hg hm ?_ hd
 rw[eC] at tq
 rw[if_pos tq]
 exact yv (ts:=tDS X (hG d)) c (λev=>PSs.imp (hp ev) λD σ H ⟨F,α,e,μ,S,p⟩=>⟨F,α,e,μ,S,uw p⟩) ⟨F,α,e',μ',S,p⟩
theorem BL(e:Slots)(i j:Nat):slot (e.set i none) j=if i=j then none else slot e j:=by
 unfold slot
 by_cases hj:i=j
 ·subst hj
  rw[if_pos rfl]
  by_cases hl:i<e.length
  ·rw[List.getElem?_set_self hl]
  ·rw[List.getElem?_eq_none (by rw[List.length_set];omega)]
 ·rw[if_neg hj,List.getElem?_set_ne hj]
theorem rG{K:PySem.W.Frag}{F H:Hp}{α:List Addr}{e:Slots}{μ:af}{σ:L2.St}(i:Nat)(S:Sim K F α e μ σ H):Sim K F α (e.set i none) μ (σ.set i none) H:=by
 refine⟨S.st,λj x h=>?_,by rw[List.length_set,List.length_set];exact S.len⟩
 rw[BL] at h
 by_cases hj:i=j
 ·rw[if_pos hj] at h;cases h
 ·rw[if_neg hj] at h
  obtain⟨v,h1,h2⟩:=S.sl j x h
  exact⟨v,by rw[List.getElem?_set_ne hj];exact h1,h2⟩
theorem D4{i:Nat}{m:Str}(hst:X.stack=X.env::X.outer)(hf:X.env.frame=some X.env.locals)(hex:X.ex=[])(hN:X.N.Nodup)(hi:X.N[i]?=some m)(hk:X.env.scope.names.lookup m=some .local)
  (hn:X.mg n=some (.ref C)) (hns:PySem.W.nsIn X.K mainGlobals n=some (some (.ref C))) (hC:vc X.K C) (hm:X.mg x=some (.ref D)) (hD:vc X.K D) (tq:(p_ X.K C).contains (.ref D)=true) (hp:∀ev,CSs (X.mark ev) (b₀::tl) d) (hg:Gl X x:=by rfl) (hd:(x==("__debug__":Str))=false:=by decide) :
  CH1 X (.ExceptHandler (some (.Name x np)) (some m) (b₀::tl) pos::rest) n (sAs i n d):=by
 intro pins σ H e t C' B s D' F α e' μ' c hm' S p
 rw[hn] at hm'
 cases hm'
 have KX:=in_of c.inv
 obtain⟨bm,oC,eC⟩:=hC.own KX
 obtain⟨bm',oD,_⟩:=hD.own KX
 refine oK c oC ⟨bm',oD⟩ hg hm ?_ hd
 rw[eC] at tq
 rw[if_pos tq]
 refine Dq (φ:=ExcAt X.K e n none) (ts:=tDS X (hG d)) hst hf hex hN hi hk c (λh q=>⟨C,hns,q⟩) (λh1 h2 ⟨C1,q1,o,q2,q3⟩ k=>⟨C1,q1,o,k o q2,q3⟩) (λev=>PSs.imp (hp ev) λD σ H ⟨F,α,e,μ,S,p⟩=>⟨F,α,e,μ,S,uw p⟩) ?_
 have hHe:H e=none:=by
  cases q:H e with
  | none=>rfl
  | some o =>
   obtain⟨o',h1⟩:=c.cov e o q
   rw[c.fly.2.1] at h1
   cases h1
 have g:b8 F H (upd F e (.ext (ExcAt X.K e n none))) (upd H e (.ext (ExcAt X.K e n none))):=b8.new hHe
 refine⟨_,α,e'.set i (some (.val (.exc n none))),μ',(S.grow g).set (x:=.val (.exc n none)) (v:=.ref e) ?_,?_⟩
 ·exact⟨e,rfl,aM⟩
 ·have p:=bh.mono (g.ex S.st.ext) p
  unfold sAs at p
  cases q:hG d (e'.set i (some (.val (.exc n none)))) μ' with
  | nx e1 μ1=>rw[q] at p;exact λσ1 H1 F1 α1 x1 S1=>p _ H1 F1 α1 x1 (rG i S1)
  | bk e1 μ1=>rw[q] at p;exact λσ1 H1 F1 α1 x1 S1=>p _ H1 F1 α1 x1 (rG i S1)
  | ct e1 μ1=>rw[q] at p;exact λσ1 H1 F1 α1 x1 S1=>p _ H1 F1 α1 x1 (rG i S1)
  | rt y μ1=>rw[q] at p;exact p
  | err c1 e1 μ1=>rw[q] at p;exact p
  | bad=>rw[q] at p;exact p
end
section
variable{X:Cx}{D:Addr}{T:String}{x:Str}{p p2 pos:Pos}{a:Expr}{da:Fw.D}{ns:List Str}
end
end Fw
namespace L2
open PySem PySem.Spec PySem.Calls PySem.W PyProof.Rows Builtin Builtin.ObjectAttr Builtin.Getset_descriptor
section
variable{prog:Program}{w:World}{A:Around}{E:Value→Shared→Prop}{s:Shared}{K:Frag}{x C:Addr}
theorem hU{M:Model}{h:Heap}(hx:jk x C h):Looks M h (typeOf (.ref x)) (.ref C):=by
 obtain⟨o,h1,h2⟩:=hx
 exact h2 ▸ (Looks.ld h1).andThen .now
theorem Ha{R:Result→Shared→Prop}{tp:Value}(X:K.In s.heap)(hx:jk x C s.heap)(hm:mroIn K C (.type "object")=some true)(h:R (.ok (.ret (.ref C))) s) :
  codeAny (model prog w) A (.call (.builtin "getset_descriptor.__get__") ⟨[.builtin "object.__class__",.ref x,tp],[]⟩) R s:=by
 have T:=hU (M:=model prog w) hx
 have O:=looks_mroIn (M:=model prog w) X hm
 obtain⟨hh,g,dr,t,os⟩:=s
 refine codeAny_call_builtin KF.slot_gs.plain KF.entry_gs (KF.slot_gs.check _ _ _ _ _ _ _ _ KF.type_class (KF.args_gs _ _ _) ?_)
 unfold Builtin.«getset_descriptor.__get__» descrGet
 rw[dga_obj]
 refine wpAny_bind (wpAny_pure ?_)
 unfold descrGetter descrCheckInstance descrNameAndClass isInstance
 simp only[KF.owner_class]
 repeat lk
 refine⟨Code.quiet_builtin _ (by decide +kernel),codeAny_builtin KF.entry_class ?_⟩
 unfold Builtin.«object.__class__» shownTypeOf
 repeat lk
 exact h
theorem D5{M:Model}{h:Heap}{v:Value}(X:K.In h)(ha:findIn K (.ref C) "__class__"=some (some (.builtin "object.__class__")))(hn:specialIn K (.builtin "object.__class__") "__get__"=some (some (.builtin "getset_descriptor.__get__")))(htk:takesIn K (.builtin "object.__class__")=some true) :
  Looks M h (find v (.ref C) "__class__") (.bind (.builtin "getset_descriptor.__get__") (.builtin "object.__class__")):=by
 have l1:=looks_findIn (M:=M) X ha
 have l2:Looks M h (getOf (some (.builtin "object.__class__"))) (some (.builtin "getset_descriptor.__get__")):=looks_specialIn X hn
 have l3:Looks M h (dataDescriptor? (some (.builtin "object.__class__")) (some (.builtin "getset_descriptor.__get__"))) (some (.builtin "getset_descriptor.__get__",.builtin "object.__class__")):=(looks_takesIn (M:=M) X htk).andThen .now
 exact l1.andThen (l2.andThen (l3.andThen (Looks.tag .now)))
structure KGet(K:Frag)(C:Addr):Prop where
 ga:findIn K (.ref C) "__getattribute__"=some (some (.builtin "BaseException.__getattribute__"))
 gn:findIn K (.ref C) "__getattr__"=some none
 a:findIn K (.ref C) "__class__"=some (some (.builtin "object.__class__"))
 n:specialIn K (.builtin "object.__class__") "__get__"=some (some (.builtin "getset_descriptor.__get__"))
 t:takesIn K (.builtin "object.__class__")=some true
 m:mroIn K C (.type "object")=some true
 mb:mroIn K C (.type "BaseException")=some true
theorem BM{tk:Tok}{Q:Unit→Shared→Prop}(k:KGet K C)(X:K.In s.heap)(hx:jk x C s.heap)(h:Q () s):wpAny (model prog w) A (checkBuiltinCall "BaseException.__getattribute__" ⟨[.ref x,.str "__class__" tk],[]⟩) Q E s:=by
 have T:=hU (M:=model prog w) hx
 have O:=looks_mroIn (M:=model prog w) X k.mb
 have hk:builtinKind "BaseException.__getattribute__"=some .slot:=by decide +kernel
 have Kl:splitId "BaseException.__getattribute__"=some ("BaseException","__getattribute__"):=by decide +kernel
 have ha:=F.args_bexc_ga (.ref x) (.str "__class__" tk)
 obtain⟨hh,g,dr,t,os⟩:=s
 simp only[checkBuiltinCall,hk,Kl]
 refine wpAny_bind ?_
 unfold isInstance
 repeat lk
 repeat (any_goals (first|assumption|wp_step))
theorem BN{tk:Tok}{R:Result→Shared→Prop}(k:KGet K C)(X:K.In s.heap)(hx:jk x C s.heap)(h:R (.ok (.ret (.ref C))) s) :
  codeAny (model prog w) A (.call (.builtin "BaseException.__getattribute__") ⟨[.ref x,.str "__class__" tk],[]⟩) R s:=by
 have T:=hU (M:=model prog w) hx
 have Fd:=D5 (M:=model prog w) (v:=.ref x) X k.a k.n k.t
 have go:∀A',codeAny (model prog w) A' (.call (.builtin "getset_descriptor.__get__") ⟨[.builtin "object.__class__",.ref x,.ref C],[]⟩) (λr s'=>match r with|.ok (.ret v)=>v=.ref C∧s'=s|_=>False) s :=
  λA'=>Ha (s:=s) X hx k.m ⟨rfl,rfl⟩
 refine codeAny_call_builtin F.attrBase_ValueError.ga.plain F.entry_bexc_ga (BM k X hx ?_)
 obtain⟨hh,g,d,t,os⟩:=s
 unfold Builtin.«object.__getattribute__»
 refine wpAny_bind (wpAny_pure ?_)
 refine wpAny_bind (wpAny_pure ?_)
 refine wpAny_bind (T.at (wpAny_bind (Fd.at ?_)))
 show wpAny _ _ (holding [_] (call _ [_,.ref x,.ref C])>>=ret) _ _ _
 refine wpAny_bind (wpAny_holding (wpAny_call (codeAny_mono (go _) λr s' q=>?_)))
 match r,q with
 | .ok (.ret v),q =>
  obtain⟨rfl,rfl⟩:=q
  exact wpAny_pure h
theorem BO{Q:Option Value→Shared→Prop}(k:KGet K C)(X:K.In s.heap)(hx:jk x C s.heap)(h:Q (some (.ref C)) { s with toks:=s.toks+1 }):wpAny (model prog w) A (getAttr? (.ref x) "__class__") Q E s:=by
 have T:=hU (M:=model prog w) hx
 have G:=looks_findIn (M:=model prog w) X k.ga
 have N:=looks_findIn (M:=model prog w) X k.gn
 have go:∀A',codeAny (model prog w) A' (.call (.builtin "BaseException.__getattribute__") ⟨[.ref x,.str "__class__" s.toks],[]⟩) (λr s'=>match r with|.ok (.ret v)=>v=.ref C∧s'={ s with toks:=s.toks+1 }|_=>False) { s with toks:=s.toks+1 } :=
  λA'=>BN (s:={ s with toks:=s.toks+1 }) k X hx ⟨rfl,rfl⟩
 obtain⟨hh,g,d,t,os⟩:=s
 unfold getAttr? getAttrBy? getAttrBy
 refine wpAny_bind (wpAny_mkText (wpAny_bind (wpAny_attempt (wpAny_holding (wpAny_bind (T.at (wpAny_bind (G.at ?_))))))))
 show wpAny _ _ (getAttrByItsOwn _ _ _ _ _ _) _ _ _
 unfold getAttrByItsOwn hookBefore callGetattribute boundAndCalled
 refine wpAny_bind (N.at ?_)
 refine wpAny_bind (wpAny_attempt (wpAny_holding ?_))
 show wpAny _ _ (bindSpecial (.builtin "BaseException.__getattribute__") (.ref x)>>=_) _ _ _
 refine wpAny_bind (wpAny_of_eq (F.attrBase_ValueError.ga.bind _) ?_)
 refine wpAny_call (codeAny_mono (go _) λr s' q=>?_)
 match r,q with
 | .ok (.ret v),q =>
  obtain⟨rfl,rfl⟩:=q
  exact handed_on rfl (wpAny_pure h)
structure D6(K:Frag)(C:Addr):Prop extends KGet K C where
 cl:(clsIn K C).isSome=true
theorem xa{h:Heap}(k:D6 K C)(X:K.In h):∃c d cd sl,h.get? C=some ⟨c,d,.cls cd,sl⟩:=by
 obtain⟨cd,hc⟩:=Option.isSome_iff_exists.mp k.cl
 unfold clsIn at hc
 split at hc
 ·rename_i c' d' cd' sl' ho
  exact⟨_,_,_,_,X _ _ ho⟩
 ·cases hc
theorem rH(k:D6 K C):KitX K (.ref x) (.ref C) (jk x C) where
 ty:=λ_ _ _ hx=>hU hx
 it:=λ_ _ X _=>by
  obtain⟨c,d,cd,sl,ho⟩:=xa k X
  intro A' Q' E' s' kk q
  unfold isType loadHead
  exact wpAny_bind (wpAny_loadPart (kk _ _ ho) (wpAny_pure q))
 ne:=λh tp dd its n sl X htp=>by
  obtain⟨c,d,cd,sl',ho⟩:=xa k X
  refine Bool.eq_false_iff.mpr λq=>?_
  have e:C=tp:=Value.ref.inj (beq_iff_eq.mp q)
  subst e
  rw[ho] at htp
  cases htp
 ca:=λX hx h=>BO k.toKGet X hx h
end
end L2
namespace Fw
open PySem L2 PyProof.Rows
structure KCls(K:PySem.W.Frag)(n:Str)(C:Addr):Prop where
 ns:PySem.W.nsIn K mainGlobals n=some (some (.ref C))
 ke:D6 K C
def Km(X:Cx)(c:V)(r:Addr→Option Bool):List V→Hp→VK→Prop:=λxs H Q=>∃a n C b,xs=[.ref a,c]∧H a=some (.ext (ExcAt X.K a n none))∧KCls X.K n C∧r C=some b∧Q (.bl b) H
def OD(X:Cx)(r:Addr→List Addr→Option Bool):List V→Hp→VK→Prop:=λxs H Q=>∃a p Ds n C b,xs=[.ref a,.ref p]∧H a=some (.ext (ExcAt X.K a n none))∧H p=some (.tup (Ds.map V.ref))∧KCls X.K n C∧r C Ds=some b∧Q (.bl b) H
section
variable{X:Cx}{D:Addr}{Tn:String}{x:Str}{p p2 pos:Pos}{a:Expr}{da:Fw.D}{f:Str→Option Bool}
theorem yT{pins:List (Addr×Obj)}{σ:L2.St}{H:Hp}{s:Shared}{a C:Addr}{n:Str}(I:Inv X pins σ H s)(hH:H a=some (.ext (ExcAt X.K a n none)))(k:KCls X.K n C):jk a C s.heap:=by
 obtain⟨⟨C',MG,hx⟩,_,_⟩:=(show dB X.prog X.w H s.heap a (.ext (ExcAt X.K a n none)) from I.hok a _ hH)
 rw[k.ns] at MG
 cases MG
 exact hx
theorem D7:fF X (.builtin "isinstance") (Km X (.ref D) λC=>PySem.W.kitOne X.K (.ref C) (.ref D)):=by
 intro pins s σ H xs us Q I r h
 obtain⟨a,n,C,b,rfl,hH,k,hb,q⟩:=h
 obtain⟨u1,u2,rfl,r1,r2⟩:=vals2 r
 cases r1
 cases r2
 exact PySem.W.kia_one (rH k.ke) (in_of I) (yT I hH k) hb (λz=>nomatch z) λtk=>⟨.bl b,H,I.tok _,rfl,q⟩
theorem BP:fF X (.builtin "isinstance") (Km X (.ty Tn) λC=>PySem.W.kitOne X.K (.ref C) (.type Tn)):=by
 intro pins s σ H xs us Q I r h
 obtain⟨a,n,C,b,rfl,hH,k,hb,q⟩:=h
 obtain⟨u1,u2,rfl,r1,r2⟩:=vals2 r
 cases r1
 have r2:u2=Value.type Tn:=r2
 subst r2
 exact PySem.W.kia_one (rH k.ke) (in_of I) (yT I hH k) hb (λz=>nomatch z) λtk=>⟨.bl b,H,I.tok _,rfl,q⟩
theorem ux:∀{Ds:List Addr}{us:List Value},Vals (Ds.map V.ref) us→us=Ds.map Value.ref
 | [],us,r=>by cases r;rfl
 | D::Ds,us,r=>by
  cases r with
  | cons h r=>cases h;rw[ux r];rfl
theorem D8:fF X (.builtin "isinstance") (OD X λC Ds=>PySem.W.kitAny X.K (.ref C) (Ds.map Value.ref)):=by
 intro pins s σ H xs us Q I r h
 obtain⟨a,p,Ds,n,C,b,rfl,hH,hp,k,hb,q⟩:=h
 obtain⟨u1,u2,rfl,r1,r2⟩:=vals2 r
 cases r1
 cases r2
 obtain⟨_,ws,rr,⟨o,ho,hc,nn,hd⟩⟩:=(show dB X.prog X.w H s.heap p (.tup (Ds.map V.ref)) from I.hok p _ hp)
 have ew:=ux rr
 subst ew
 obtain⟨cl,dd,dt,sl⟩:=o
 simp only at hc hd
 subst hc hd
 exact PySem.W.kia_tup (rH k.ke) (in_of I) (yT I hH k) ho hb (λz=>nomatch z) λtk=>⟨.bl b,H,I.tok _,rfl,q⟩
theorem xb{σ:L2.St}{H:Hp}{Q:VK}{c:V}{r:Addr→Option Bool}(hf:∀n b,f n=some b→∃C,KCls X.K n C∧r C=some b)(h:tD X (kL f da) σ H Q) :
  zX (tD X da) (zX (tC c) JE) σ H λvs H1=>Km X c r vs H1 Q:=by
 obtain⟨F,α,e,μ,S,h⟩:=h
 refine⟨F,α,e,μ,S,(R.wp_bind h).mono (λx μ1 h v H1 F1 α1 x1 S1 o1=>?_) λ_ _ h=>h⟩
 match x,h with
 | .val (.exc n none),h =>
  have h:(match f n with|some b=>R.ok (SV.val (T.bl b)) μ1|none=>R.bad).wp (Bz X.K F α H e σ Q) (fG X F α H e):=h
  cases hn:f n with
  | some b =>
   rw[hn] at h
   obtain⟨C,h1,h2⟩:=hf n b hn
   obtain⟨a,rfl,hF⟩:=(show ∃a,v=.ref a∧F1 a=some (.ext (ExcAt X.K a n none)) from o1)
   exact⟨a,n,C,b,rfl,S1.st.ext a _ hF,h1,h2,h _ H1 F1 α1 x1 S1 (Rep.bl' (K:=X.K) (F:=F1) b)⟩
  | none=>rw[hn] at h;exact h.elim
 | .val (.exc n (some t)),h=>exact h.elim
 | .val .non,h=>exact h.elim
 | .val (.bl b),h=>exact h.elim
 | .val (.int i),h=>exact h.elim
 | .val (.str y),h=>exact h.elim
 | .val (.lst y),h=>exact h.elim
 | .val (.tup y),h=>exact h.elim
 | .val (.dct y),h=>exact h.elim
 | .cel k,h=>exact h.elim
 | .box y,h=>exact h.elim
theorem rJ(hi:X.mg "isinstance"=none)(hm:X.mg x=some (.ref D))(hf:∀n b,f n=some b→∃C,KCls X.K n C∧PySem.W.kitOne X.K (.ref C) (.ref D)=some b)(ha:CE X a da)(hg1:Gl X "isinstance":=by rfl)(hg:Gl X x:=by rfl)(hd:(x==("__debug__":Str))=false:=by decide)
  (hs1:starEach [a,.Name x p2] X.env=(false,eval a X.env)::starEach [.Name x p2] X.env:=by rfl) (hs2:starEach [.Name x p2] X.env=(false,eval (.Name x p2) X.env)::starEach [] X.env:=by rfl) (hpl:(backTo pos (starEach [.Name x p2] X.env)).any (·.1)=false:=by rfl) :
  CE X (.Call (.Name "isinstance" p) [a,.Name x p2] [] pos) (kL f da) :=
 PE.imp (jG D7 hg1 hi PyProof.Rows.boot_isinstance (gQ ha (gQ (uL (v:=.ref D) hg hm rfl hd) oI hs2) hs1) (by decide) (by decide) hs1 hpl) λσ H Q h=>xb hf h
theorem AA(hi:X.mg "isinstance"=none)(hm:X.mg x=none)(hv:bootBuiltins x=some (.type Tn))(hf:∀n b,f n=some b→∃C,KCls X.K n C∧PySem.W.kitOne X.K (.ref C) (.type Tn)=some b)(ha:CE X a da)(hg1:Gl X "isinstance":=by rfl)(hg:Gl X x:=by rfl)(hn:x≠"__name__":=by decide)(hd:(x==("__debug__":Str))=false:=by decide)
  (hs1:starEach [a,.Name x p2] X.env=(false,eval a X.env)::starEach [.Name x p2] X.env:=by rfl) (hs2:starEach [.Name x p2] X.env=(false,eval (.Name x p2) X.env)::starEach [] X.env:=by rfl) (hpl:(backTo pos (starEach [.Name x p2] X.env)).any (·.1)=false:=by rfl) :
  CE X (.Call (.Name "isinstance" p) [a,.Name x p2] [] pos) (kL f da) :=
 PE.imp (jG BP hg1 hi PyProof.Rows.boot_isinstance (gQ ha (gQ (zS (v:=.ty Tn) hg hm hv rfl hn hd) oI hs2) hs1) (by decide) (by decide) hs1 hpl) λσ H Q h=>xb hf h
def Kn:List NmD→TA
 | []=>JE
 | n::ns=>zX (tC (.ref n.2.2)) (Kn ns)
theorem xc:∀(ns:List NmD),(∀n∈ns,Mn X n)→PA X (ns.map nmE) (Kn ns)
 | [],_=>oI
 | n::ns,ok=>gQ (uL (v:=.ref n.2.2) (ok n (.head _)).g (ok n (.head _)).m rfl (ok n (.head _)).d) (xc ns λm h=>ok m (.tail _ h)) rfl
theorem uy:∀(ns:List NmD) {σ:L2.St}{H:Hp}{Q:List V→Hp→Prop},Q (ns.map λn=>V.ref n.2.2) H→Kn ns σ H Q
 | [],σ,H,Q,h=>h
 | n::ns,σ,H,Q,h=>uy ns (Q:=λxs H2=>Q (.ref n.2.2::xs) H2) h
theorem AB{x1}{tp:Pos}(ns:List NmD)(hi:X.mg "isinstance"=none)(ok:∀n∈ns,Mn X n)(hl:ns.length≤1000)(hf:∀n b,f n=some b→∃C,KCls X.K n C∧PySem.W.kitAny X.K (.ref C) (ns.map λn=>.ref n.2.2)=some b)(ha:CE X a da)(hg1:Gl X "isinstance":=by rfl)
  (hs1:starEach [a,.Tuple (ns.map nmE) x1 tp] X.env=(false,eval a X.env)::starEach [.Tuple (ns.map nmE) x1 tp] X.env:=by rfl) (hs2:starEach [.Tuple (ns.map nmE) x1 tp] X.env=(false,eval (.Tuple (ns.map nmE) x1 tp) X.env)::starEach [] X.env:=by rfl) (hpl:(backTo pos (starEach [.Tuple (ns.map nmE) x1 tp] X.env)).any (·.1)=false:=by rfl) :
  CE X (.Call (.Name "isinstance" p) [a,.Tuple (ns.map nmE) x1 tp] [] pos) (kL f da) :=
 PE.imp (jG D8 hg1 hi PyProof.Rows.boot_isinstance (gQ ha (gQ (yj (xc ns ok)) oI hs2) hs1) (by decide) (by decide) hs1 hpl) λσ H Q av=>by
  obtain⟨F,α,e,μ,S,h⟩:=av
  refine⟨F,α,e,μ,S,(R.wp_bind h).mono (λx μ1 h v H1 F1 α1 x1 S1 o1=>?_) λ_ _ h=>h⟩
  refine uy ns ⟨by rw[List.length_map];exact Nat.le_of_lt (uc hl),λq hq=>?_⟩
  match x,h with
  | .val (.exc n none),h =>
   have h:(match f n with|some b=>R.ok (SV.val (T.bl b)) μ1|none=>R.bad).wp (Bz X.K F α H e σ Q) (fG X F α H e):=h
   cases hn:f n with
   | some b =>
    rw[hn] at h
    obtain⟨C,h1,h2⟩:=hf n b hn
    obtain⟨a,rfl,hF⟩:=(show ∃a,v=.ref a∧F1 a=some (.ext (ExcAt X.K a n none)) from o1)
    have hH:=S1.st.ext a _ hF
    have hne:a≠q:=λz=>by rw[← z,hH] at hq;cases hq
    have g:b8 F1 H1 (upd F1 q (.tup (ns.map λn=>V.ref n.2.2))) (upd H1 q (.tup (ns.map λn=>V.ref n.2.2))):=b8.new hq
    refine⟨a,q,ns.map λn=>n.2.2,n,C,b,rfl,by rw[aO hne];exact hH,by rw[aM,List.map_map];rfl,h1,by show PySem.W.kitAny X.K (.ref C) ((ns.map λn=>n.2.2).map Value.ref)=some b;rw[List.map_map];exact h2,?_⟩
    exact h _ _ _ α1 (x1.trans (g.ex S1.st.ext)) (S1.grow g) (Rep.bl' (K:=X.K) (F:=upd F1 q (.tup (ns.map λn=>V.ref n.2.2))) b)
   | none=>rw[hn] at h;exact h.elim
  | .val (.exc n (some t)),h=>exact h.elim
  | .val .non,h=>exact h.elim
  | .val (.bl b),h=>exact h.elim
  | .val (.int i),h=>exact h.elim
  | .val (.str y),h=>exact h.elim
  | .val (.lst y),h=>exact h.elim
  | .val (.tup y),h=>exact h.elim
  | .val (.dct y),h=>exact h.elim
  | .cel k,h=>exact h.elim
  | .box y,h=>exact h.elim
end
end Fw
namespace Fw.H
open PySem Fw
def ka(p:Int):Prop:=p∈([2,3,5,7,11,13,17,19,23,29,31,37,41,43,47,53,59,61,67,71,73,79,83,89,97]:List Int)
theorem ka.pos{p:Int}(h:ka p):2≤p∧p≤97:=by
 have key:∀p∈([2,3,5,7,11,13,17,19,23,29,31,37,41,43,47,53,59,61,67,71,73,79,83,89,97]:List Int),2≤p∧p≤97:=by decide +kernel
 exact key p h
end Fw.H
namespace Fw
open PySem PySem.Spec PyProof.Rows L2
structure Gf(K:PySem.W.Frag)(mg:Str→Option Value)(x:Str)(st:Stmt)(ps:List Str)(f:Addr)(fd:FuncData):Prop where
 F:Fun K x x st f fd
 b:Binds K fd ps []
 m:mg x=some (.ref f)
def iP(scope so:Scope):Scope:={ scope with names:=scope.names.map λ(n,k)=>if (k==.free && so.kind==.function && so.names.lookup n==some .cell) then (n,.cell) else (n,k) }
def vd(N N':List Str)(scope so:Scope)(mp:List (Option Nat)):Prop :=
 scope.kind=.function∧(scope.names.filter λy=>y.2==NameKind.cell).length≤1∧(scope.names.map (·.1)).Nodup∧(∀y∈scope.names,(y.2=.local→scope.names.lookup y.1=some .local)∧(y.2=.free→(so.names.lookup y.1=some .cell∨so.names.lookup y.1=some .free) ∧
  ((iP scope so).names.lookup y.1=some .cell∨(iP scope so).names.lookup y.1=some .free)))∧mp.length=N'.length ∧
 ∀q∈mp.zip N',match q.1 with
  | none=>True
  | some j=>N[j]?=some q.2∧(q.2,NameKind.free)∈scope.names∧(so.names.lookup q.2=some .cell∨so.names.lookup q.2=some .free)
noncomputable instance (N N' : List Str) (scope so : Scope) (mp : List (Option Nat)) : Decidable (vd N N' scope so mp) := by
 unfold vd
 have:∀q:Option Nat×Str,Decidable (match q.1 with
  | none=>True
  | some j=>N[j]?=some q.2∧(q.2,NameKind.free)∈scope.names∧(so.names.lookup q.2=some .cell∨so.names.lookup q.2=some .free)):=λq=>by
  cases q.1<;>infer_instance
 infer_instance
theorem mz{α:Type}{x:Str}{k:α}:∀{l:List (Str×α)},(l.map (·.1)).Nodup→(x,k)∈l→l.lookup x=some k
 | [],_,h=>by cases h
 | (y,k')::l,nd,h=>by
  have nd':=List.nodup_cons.mp (by simpa using nd:(y::l.map (·.1)).Nodup)
  rw[List.lookup_cons]
  rcases List.mem_cons.mp h with e|h
  ·cases e;simp
  ·have:(x==y)=false:=by
    have:x≠y:=λq=>nd'.1 (List.mem_map.mpr ⟨_,h,q⟩)
    simpa using this
   rw[this]
   exact mz nd'.2 h
theorem aN{X:Cx}{N':List Str}{scope:Scope}{mp:List (Option Nat)}(so:Scope)(hso:X.env.scope=so)(N:List Str)(hN:X.N=N)(h:vd N N' scope so mp):gj X N' scope mp:=by
 subst hso
 subst hN
 obtain⟨h1,hc1,hnd,h2,h3,h4⟩:=h
 have er:(relabel scope X.env).names=(iP scope X.env.scope).names:=rfl
 refine⟨h1,hc1,hnd,λy hy=>(h2 y hy).1,λy hy hf=>((h2 y hy).2 hf).1,h3,λi j hij=>?_,λx hx=>?_,λx hx=>?_⟩
 ·have hi:i<mp.length:=(List.getElem?_eq_some_iff.mp hij).1
  have hz:(mp.zip N')[i]?=some (some j,N'[i]'(by omega)):=by
   rw[List.getElem?_zip_eq_some]
   exact⟨hij,by simp⟩
  have:=h4 _ (List.mem_of_getElem? hz)
  exact⟨_,by simp,this⟩
 ·rw[er];exact ((h2 _ hx).2 rfl).2
 ·rw[er] at hx
  have mem:∀k,(iP scope X.env.scope).names.lookup x=some k→(k=.cell∨k=.free)→(x,NameKind.free)∈scope.names∨scope.names.lookup x=some .cell:=λk hk hkk=>by
   have hm:=PySem.mem_of_lookup hk
   unfold iP at hm
   obtain⟨⟨n,k'⟩,hm1,hm2⟩:=List.mem_map.mp hm
   by_cases hc:(k'==.free && X.env.scope.kind==.function && X.env.scope.names.lookup n==some .cell)=true
   ·simp only[hc,if_true] at hm2
    cases hm2
    have:k'=.free:=by
     simp only[Bool.and_eq_true,beq_iff_eq] at hc
     exact hc.1.1
    subst this
    exact .inl hm1
   ·simp only[hc,if_false] at hm2
    cases hm2
    rcases hkk with rfl|rfl
    ·exact .inr (mz hnd hm1)
    ·exact .inl hm1
  rcases hx with hx|hx
  ·exact mem _ hx (.inl rfl)
  ·exact mem _ hx (.inr rfl)
theorem rK{X0:Cx}{N' N2:List Str}{scope D9:Scope}{cl:List (Str×Addr)}{C:Addr}{s₀:Shared}{H₀:Hp}{ex:List Addr}{mp:List (Option Nat)}(so:Scope)(hso:X0.env.scope=so)(h:vd N' N2 D9 (iP scope so) mp) :
  gj (cN X0 N' scope cl C s₀ H₀ ex) N2 D9 mp:=aN (iP scope so) (by subst hso;rfl) N' rfl h
theorem Ko{K:PySem.W.Frag}{fn:FN}{H:Hp}{a:Addr}{ns:List Int}(Kp:∀ns:List Int,ns.length≤63→∃μ',fn [.val (.lst (ns.map T.int))] []=.ok (.val (.bl true)) μ')(hl:ns.length≤63)(hS:SqL K H a (ns.map V.int))(hO:Gm H) :
  spD K fn 1 [.ref a] H (λv _=>v=.bl true) (λ_ _ _=>False):=by
 obtain⟨μ',h⟩:=Kp ns hl
 refine⟨rfl,H,[],[],_,_,μ',⟨aZ.refl _,rfl,List.nodup_nil,λk a h=>by simp at h,λk b t a h=>by simp at h,λb xs q=>by rcases hO b with z|⟨_,_,z⟩<;>(rw[z] at q;cases q)⟩,.cons ?_ .nil,h,λv H' F' α' _ _ o=>Rep.iu (K:=K) (F:=F') o⟩
 show Rep K H (.lst (ns.map T.int)) (.ref a)
 rw[Rep]
 exact⟨a,_,rfl,hS,aH.u5 ns⟩
section
variable{K:PySem.W.Frag}
theorem Now.o9{F H:Hp}{v:V}{ts:List T}(h:Now K F H v (.lst ts)):∃a vs,v=.ref a∧SqL K H a vs∧aH K F ts vs:=h
theorem Now.rL{F H:Hp}{v:V}{ts:List T}(h:Now K F H v (.tup ts)):∃a vs,v=.ref a∧SqT K F a vs∧aH K F ts vs:=h
theorem jr{r:R2}{f:T→T→Option T}(g:Int→Int→T)(gV:Int→Int→V)(C:Int→Int→Prop)(hr:∀i j H Q,C i j→Q (gV i j) H→r (.int i) (.int j) H Q)
  (hf:∀t u w,f t u=some w→∃i j,t=.int i∧u=.int j∧w=g i j∧C i j) (hg:∀F i j,Rep K F (g i j) (gV i j)):eK K r f:=by
 intro F H v u t t' w Q s hv hu hw q
 obtain⟨i,j,rfl,rfl,rfl,hc⟩:=hf _ _ _ hw
 cases hv.int
 cases hu.int
 exact hr i j H Q hc (q _ H F b8.refl (hg F i j))
theorem Hb:eK K (rI0 λi j=>.int (i-j)) oN:=jr (λi j=>.int (i-j)) (λi j=>.int (i-j)) (λ_ _=>True) (λi j H Q _ q=>⟨i,j,rfl,rfl,q⟩)
 (λt u w h=>by cases t<;>cases u<;>first|(cases h;exact⟨_,_,rfl,rfl,rfl,trivial⟩)|cases h) λF i j=>Rep.iC _
theorem Hd:eK K (rI (λ_ j=>0<j) λi j=>.int (i%j)) aP:=jr (λi j=>.int (i%j)) (λi j=>.int (i%j)) (λ_ j=>0<j) (λi j H Q c q=>⟨i,j,rfl,rfl,c,q⟩)
 (λt u w h=>by
  cases t<;>cases u<;>first|cases h|skip
  rename_i i j
  by_cases hj:0<j
  ·have h:(if 0<j then some (T.int (i%j)) else none)=some w:=h
   rw[if_pos hj] at h
   cases h
   exact⟨_,_,rfl,rfl,rfl,hj⟩
  ·have h:(if 0<j then some (T.int (i%j)) else none)=some w:=h
   rw[if_neg hj] at h;cases h) λF i j=>Rep.iC _
theorem He:eK K (rI Jt λi j=>.int (i / j)) eD:=jr (λi j=>.int (i / j)) (λi j=>.int (i / j)) Jt (λi j H Q c q=>⟨i,j,rfl,rfl,c,q⟩)
 (λt u w h=>by
  cases t<;>cases u<;>first|cases h|skip
  rename_i i j
  have h:(if 0<j∧j<1073741824 then some (T.int (i / j)) else none)=some w:=h
  by_cases hj:0<j∧j<1073741824
  ·rw[if_pos hj] at h
   cases h
   exact⟨_,_,rfl,rfl,rfl,hj⟩
  ·rw[if_neg hj] at h;cases h) λF i j=>Rep.iC _
theorem Hf:eK K (rI Bf λi j=>.int (i ^ j.toNat)) Du:=jr (λi j=>.int (i ^ j.toNat)) (λi j=>.int (i ^ j.toNat)) Bf (λi j H Q c q=>⟨i,j,rfl,rfl,c,q⟩)
 (λt u w h=>by
  cases t<;>cases u<;>first|cases h|skip
  rename_i i j
  have h:(if 0≤j∧j≤1000∧-(2 ^ 64)<i∧i<2 ^ 64 then some (T.int (i ^ j.toNat)) else none)=some w:=h
  by_cases hj:0≤j∧j≤1000∧-(2 ^ 64)<i∧i<2 ^ 64
  ·rw[if_pos hj] at h
   cases h
   exact⟨_,_,rfl,rfl,rfl,hj.1,by omega,by omega⟩
  ·rw[if_neg hj] at h;cases h) λF i j=>Rep.iC _
theorem Hg:eK K (rI Bf λi j=>.int (i*2 ^ j.toNat)) yw:=jr (λi j=>.int (i*2 ^ j.toNat)) (λi j=>.int (i*2 ^ j.toNat)) Bf (λi j H Q c q=>⟨i,j,rfl,rfl,c,q⟩)
 (λt u w h=>by
  cases t<;>cases u<;>first|cases h|skip
  rename_i i j
  have h:(if 0≤j∧j≤64∧-(2 ^ 64)<i∧i<2 ^ 64 then some (T.int (i*2 ^ j.toNat)) else none)=some w:=h
  by_cases hj:0≤j∧j≤64∧-(2 ^ 64)<i∧i<2 ^ 64
  ·rw[if_pos hj] at h
   cases h
   exact⟨_,_,rfl,rfl,rfl,hj.1,by omega,by omega⟩
  ·rw[if_neg hj] at h;cases h) λF i j=>Rep.iC _
theorem Hh:eK K (rI (λ_ j=>0≤j) λi j=>.int (i / 2 ^ j.toNat)) wH:=jr (λi j=>.int (i / 2 ^ j.toNat)) (λi j=>.int (i / 2 ^ j.toNat)) (λ_ j=>0≤j) (λi j H Q c q=>⟨i,j,rfl,rfl,c,q⟩)
 (λt u w h=>by
  cases t<;>cases u<;>first|cases h|skip
  rename_i i j
  have h:(if 0≤j∧j≤64 then some (T.int (i / 2 ^ j.toNat)) else none)=some w:=h
  by_cases hj:0≤j∧j≤64
  ·rw[if_pos hj] at h
   cases h
   exact⟨_,_,rfl,rfl,rfl,hj.1⟩
  ·rw[if_neg hj] at h;cases h) λF i j=>Rep.iC _
theorem D_:eK K (rI0 λi j=>.bl (decide (i<j))) fLt:=jr (λi j=>.bl (decide (i<j))) (λi j=>.bl (decide (i<j))) (λ_ _=>True) (λi j H Q _ q=>⟨i,j,rfl,rfl,q⟩)
 (λt u w h=>by cases t<;>cases u<;>first|(cases h;exact⟨_,_,rfl,rfl,rfl,trivial⟩)|cases h) λF i j=>Rep.bl' _
theorem yU:eK K (rI0 λi j=>.bl (decide (i≤j))) fLe:=jr (λi j=>.bl (decide (i≤j))) (λi j=>.bl (decide (i≤j))) (λ_ _=>True) (λi j H Q _ q=>⟨i,j,rfl,rfl,q⟩)
 (λt u w h=>by cases t<;>cases u<;>first|(cases h;exact⟨_,_,rfl,rfl,rfl,trivial⟩)|cases h) λF i j=>Rep.bl' _
theorem Kq:eK K (rI0 λi j=>.bl (decide (j<i))) fGt:=jr (λi j=>.bl (decide (j<i))) (λi j=>.bl (decide (j<i))) (λ_ _=>True) (λi j H Q _ q=>⟨i,j,rfl,rfl,q⟩)
 (λt u w h=>by cases t<;>cases u<;>first|(cases h;exact⟨_,_,rfl,rfl,rfl,trivial⟩)|cases h) λF i j=>Rep.bl' _
end
section
variable{X:Cx}{a b c:Expr}{da db dc:D}{pos p p2:Pos}
theorem ve(ha:CE X a da)(hb:CE X b db):CE X (.BinOp a .Sub b pos) (ah oN da db):=jq Jv Hb ha hb
theorem bq(ha:CE X a da)(hb:CE X b db):CE X (.BinOp a .Mod b pos) (ah aP da db):=jq Jx Hd ha hb
theorem gO(ha:CE X a da)(hb:CE X b db):CE X (.BinOp a .FloorDiv b pos) (ah eD da db):=jq FT He ha hb
theorem Kr(ha:CE X a da)(hb:CE X b db):CE X (.BinOp a .Pow b pos) (ah Du da db):=jq Jy Hf ha hb
theorem Ks(ha:CE X a da)(hb:CE X b db):CE X (.BinOp a .LShift b pos) (ah yw da db):=jq Jz Hg ha hb
theorem Kt(ha:CE X a da)(hb:CE X b db):CE X (.BinOp a .RShift b pos) (ah wH da db):=jq JA Hh ha hb
theorem Ir(ha:CE X a da)(hb:CE X b db):CT X (.Compare a [.Lt] [b] pos) (ah fLt da db):=oY Ii D_ (mG _) ha hb
theorem xf(ha:CE X a da)(hb:CE X b db):CT X (.Compare a [.Gt] [b] pos) (ah fGt da db):=oY L1 Kq (mG _) ha hb
theorem vf(ha:CE X a da):CE X (.UnaryOp .USub a pos) (dUn p7 da):=Mt JC (by
 intro F H v t w Q s hv hw q
 cases t<;>first|cases hw|skip
 cases hv.int
 exact⟨_,rfl,q _ H F b8.refl (Rep.iC _)⟩) ha
end
end Fw
namespace L2
open PySem PySem.Spec PyProof.Rows
section
variable{X:Cx}
def Ea(K:PySem.W.Frag):R2:=λx y H Q=>∃a b xs ys,x=.ref a∧y=.ref b∧SqT K H a xs∧SqT K H b ys∧xs.length+ys.length≤sizeLine ∧
 (xs=[]→Q (.ref b) H)∧(xs≠[]→ys=[]→Q (.ref a) H)∧(xs≠[]→ys≠[]→∀p,H p=none→Q (.ref p) (upd H p (.tup (xs++ys))))
theorem Eb:OpR X (binaryOp .Add) (Ea X.K):=by
 intro pins s σ H x y v u Q I rx ry h
 obtain⟨a,b,xs,ys,hx0,hy0,ha,hb,hz,q0,q1,q2⟩:=h
 by_cases hx:xs=[]
 ·subst hx0;subst hy0
  cases rx
  cases ry
  obtain⟨its,r1,p1,_⟩:=I.tuple ha
  obtain⟨uM,r2,p2,_⟩:=I.tuple hb
  obtain⟨⟨cls,dd,data,sl⟩,ho,hc,n,hd⟩:=id p1
  obtain⟨⟨L4,dd2,data2,sl2⟩,ho2,hc2,n2,hd2⟩:=id p2
  simp only at hc hd hc2 hd2
  subst hc hd hc2 hd2
  have e:its=[]:=r1.nh.mpr hx
  exact concat_meets ⟨_,ho,rfl⟩ ⟨_,ho2,rfl⟩ noFill_tuple_add seq_tuple_add PySem.F.slot_tuple_add PySem.F.entry_tuple_add (PySem.F.args_tuple_add_2 _ _)
   (tuple_addW0 a b its.toArray uM.toArray n n2 dd dd2 sl sl2 (by simp[e])) ⟨ho,ho2,.ref b,H,I,rfl,q0 hx⟩
 ·exact Gb pins s σ H x y v u Q I rx ry ⟨a,b,xs,ys,hx0,hy0,ha,hb,hx,hz,q1 hx,q2 hx⟩
def Iu(K:PySem.W.Frag):R2:=λx y H Q=>∃l b xs zs,x=.ref l∧y=.ref b∧SqL K H l xs∧SqL K H b zs∧xs.length+zs.length≤sizeLine∧∀p,H p=none→Q (.ref p) (upd H p (.lst (xs++zs)))
theorem Hi:OpR X (binaryOp .Add) (Iu X.K):=by
 intro pins s σ H x y v u Q I rx ry h
 obtain⟨l,b,xs,zs,rfl,rfl,hA,hB,hz,q⟩:=h
 cases rx
 cases ry
 obtain⟨its,r,p1,_⟩:=I.list hA
 obtain⟨uM,r2,p2,_⟩:=I.list hB
 obtain⟨⟨cls,dd,data,sl⟩,ho,hc,n,hd⟩:=id p1.isList
 obtain⟨⟨L4,dd2,data2,sl2⟩,ho2,hc2,n2,hd2⟩:=id p2.isList
 simp only at hc hd hc2 hd2
 subst hc hd hc2 hd2
 have hl:=r.length
 have hl2:=r2.length
 have e:its.toArray++uM.toArray=(its++uM).toArray:=by simp
 refine concat_meets ⟨_,ho,rfl⟩ ⟨_,ho2,rfl⟩ noFill_list_add seq_list_add PySem.F.slot_list_add PySem.F.entry_list_add (PySem.F.args_list_add_2 _ _)
  (list_addW l b its.toArray uM.toArray n n2 dd dd2 sl sl2 (by rw[List.size_toArray,List.size_toArray];lia)) ⟨ho,ho2,?_⟩
 rw[e]
 exact⟨.ref _,_,I.JQ (t':=s.toks) (r.append r2) (by rw[List.length_append];lia),rfl,q _ I.fresh⟩
end
end L2
namespace Fw
open PySem PySem.Spec PyProof.Rows L2
section
variable{K:PySem.W.Frag}
theorem vg:szL=sizeLine:=rfl
theorem aH.nil_of{F:Hp}{ts:List T}{vs:List V}(h:aH K F ts vs)(e:vs=[]):ts=[]:=by
 have:=h.length
 subst e
 exact List.length_eq_zero_iff.mp (by simpa using this)
theorem vh{F H:Hp}{ts:List T}{vs:List V}{Q:VK}{p:Addr}(s:aZ F H)(hp:H p=none)(r:aH K F ts vs)(q:∀v' H' F',b8 F H F' H'→Rep K F' (.lst ts) v'→Q v' H'):Q (.ref p) (upd H p (.lst vs)):=by
 have g:b8 F H (upd F p (.lst vs)) (upd H p (.lst vs)):=b8.new hp
 refine q _ _ _ g ?_
 rw[Rep]
 exact⟨p,vs,rfl,SqL.of aM,aH.mono (g.same s) _ _ r⟩
theorem nP{F H:Hp}{ts:List T}{vs:List V}{Q:VK}{p:Addr}(s:aZ F H)(hp:H p=none)(r:aH K F ts vs)(q:∀v' H' F',b8 F H F' H'→Rep K F' (.tup ts) v'→Q v' H'):Q (.ref p) (upd H p (.tup vs)):=by
 have g:b8 F H (upd F p (.tup vs)) (upd H p (.tup vs)):=b8.new hp
 refine q _ _ _ g ?_
 rw[Rep]
 exact⟨p,vs,rfl,SqT.of aM,aH.mono (g.same s) _ _ r⟩
theorem vi{F:Hp}{a:Addr}{ts:List T}{vs:List V}(h:SqT K F a vs)(r:aH K F ts vs):Rep K F (.tup ts) (.ref a):=by
 rw[Rep];exact⟨a,vs,rfl,h,r⟩
theorem Hj:eK K (λx y H Q=>(rI0 λi j=>.int (i+j)) x y H Q∨(λx y H Q=>∃i j,x=.str i∧y=.str j∧i.length+j.length≤sizeLine∧Q (.str (i++j)) H) x y H Q∨Ea K x y H Q∨Iu K x y H Q) bT:=by
 intro F H v u t t' w Q s hv hu hw q
 cases t with
 | int i =>
  cases t' with
  | int j =>
   cases hw
   cases hv.int
   cases hu.int
   exact .inl ⟨i,j,rfl,rfl,q _ H F b8.refl (Rep.iC _)⟩
  | _=>cases hw
 | str i =>
  cases t' with
  | str j =>
   have hw:(if i.length+j.length≤szL then some (T.str (i++j)) else none)=some w:=hw
   by_cases hz:i.length+j.length≤szL
   ·rw[if_pos hz] at hw
    cases hw
    cases hv.str
    cases hu.str
    exact .inr (.inl ⟨i,j,rfl,rfl,hz,q _ H F b8.refl (Rep.GQ _)⟩)
   ·rw[if_neg hz] at hw;cases hw
  | _=>cases hw
 | tup xs =>
  cases t' with
  | tup ys =>
   have hw:(if xs.length+ys.length≤szL then some (T.tup (xs++ys)) else none)=some w:=hw
   by_cases hz:xs.length+ys.length≤szL
   ·rw[if_pos hz] at hw
    cases hw
    obtain⟨a,vs,rfl,ha,ra⟩:=hv.rL
    obtain⟨b,us,rfl,hb,rb⟩:=hu.rL
    refine .inr (.inr (.inl ⟨a,b,vs,us,rfl,rfl,aZ.i5 s ha,aZ.i5 s hb,?_,λe=>?_,λe e2=>?_,λe e2 p hp=>?_⟩))
    ·have:=ra.length;have:=rb.length;rw[vg] at hz;lia
    ·refine q _ H F b8.refl ?_
     rw[ra.nil_of e,List.nil_append]
     exact vi hb rb
    ·refine q _ H F b8.refl ?_
     rw[rb.nil_of e2,List.append_nil]
     exact vi ha ra
    ·exact nP s hp (ra.append rb) q
   ·rw[if_neg hz] at hw;cases hw
  | _=>cases hw
 | lst xs =>
  cases t' with
  | lst ys =>
   have hw:(if xs.length+ys.length≤szL then some (T.lst (xs++ys)) else none)=some w:=hw
   by_cases hz:xs.length+ys.length≤szL
   ·rw[if_pos hz] at hw
    cases hw
    obtain⟨a,vs,rfl,ha,ra⟩:=hv.o9
    obtain⟨b,us,rfl,hb,rb⟩:=hu.o9
    exact .inr (.inr (.inr ⟨a,b,vs,us,rfl,rfl,ha,hb,by have:=ra.length;have:=rb.length;rw[vg] at hz;lia,λp hp=>vh s hp (ra.append rb) q⟩))
   ·rw[if_neg hz] at hw;cases hw
  | _=>cases hw
 | _=>cases hw
end
section
variable{X:Cx}{a b c:Expr}{da db dc:D}{pos p p2:Pos}
theorem d5(ha:CE X a da)(hb:CE X b db):CE X (.BinOp a .Add b pos) (ah bT da db):=jq (Ju.or (yi.or (Eb.or Hi))) Hj ha hb
end
section
variable{K:PySem.W.Frag}
theorem Hk:eK K (rI CZ λi j=>.int (i*j)) aT:=jr (λi j=>.int (i*j)) (λi j=>.int (i*j)) CZ (λi j H Q c q=>⟨i,j,rfl,rfl,c,q⟩)
 (λt u w h=>by
  unfold aT at h
  cases t<;>cases u<;>first|cases h|skip
  rename_i i j
  have h:(if (-(2 ^ 64)<i∧i<2 ^ 64)∨(-(2 ^ 64)<j∧j<2 ^ 64) then some (T.int (i*j)) else none)=some w:=h
  by_cases hj:(-(2 ^ 64)<i∧i<2 ^ 64)∨(-(2 ^ 64)<j∧j<2 ^ 64)
  ·rw[if_pos hj] at h
   cases h
   exact⟨_,_,rfl,rfl,rfl,hj⟩
  ·rw[if_neg hj] at h;cases h) λF i j=>Rep.iC _
theorem aH.atI{F:Hp}{ts:List T}{vs:List V}{i:Int}{t:T}(h:aH K F ts vs)(e:Fw.atI ts i=some t):∃v,L2.atI vs i=some v∧Rep K F t v:=by
 have hl:=h.length
 unfold Fw.atI at e
 obtain⟨j,h1,h2⟩:=Option.bind_eq_some_iff.mp e
 obtain⟨v,hv,rv⟩:=h.get h2
 refine⟨v,?_,rv⟩
 unfold L2.atI
 have:L2.ixN vs.length i=some j:=by rw[← hl];exact h1
 rw[this]
 exact hv
theorem Paired.atI{α β:Type}{P:α→β→Prop}{xs:List α}{ys:List β}{i:Int}{y:β}(h:Paired P xs ys)(e:Fw.atI ys i=some y):∃x,L2.atI xs i=some x∧P x y:=by
 have hl:=h.length
 unfold Fw.atI at e
 obtain⟨j,h1,h2⟩:=Option.bind_eq_some_iff.mp e
 have get:∀{xs:List α}{ys:List β}{j:Nat}{y:β},Paired P xs ys→ys[j]?=some y→∃x,xs[j]?=some x∧P x y:=by
  intro xs ys j y o
  induction o generalizing j with
  | nil=>intro e;simp at e
  | cons r _ ih =>
   intro e
   cases j with
   | zero=>simp at e;subst e;exact⟨_,rfl,r⟩
   | succ j =>
    obtain⟨v,h1,h2⟩:=ih (j:=j) (by simpa using e)
    exact⟨v,by simpa using h1,h2⟩
 obtain⟨v,hv,rv⟩:=get h h2
 refine⟨v,?_,rv⟩
 unfold L2.atI
 have:L2.ixN xs.length i=some j:=by rw[hl];exact h1
 rw[this]
 exact hv
end
section
variable{X:Cx}{a b c:Expr}{da db dc:D}{pos p p2:Pos}
theorem eY(ha:CE X a da)(hb:CE X b db):CE X (.BinOp a .Mult b pos) (ah aT da db):=jq Jw Hk ha hb
theorem aD(ha:CE X a da)(hb:CE X b db)(hp:Aa b:=by intro _ _;rfl):CE X (.Subscript a b pos) (aC da db) :=
 PE.imp (L7 JK ha hb hp) λσ H Q av=>by
  obtain⟨F,α,e,μ,S,h⟩:=av
  refine⟨F,α,e,μ,S,?_⟩
  refine (R.wp_bind h).mono (λx μ1 h v H1 F1 α1 x1 S1 o1=>⟨F1,α1,e,μ1,S1,?_⟩) λ_ _ h=>h
  refine (R.wp_bind h).mono (λy μ2 h v2 H2 F2 α2 x2 S2 o2=>?_) λ_ _ h=>h.mono x1
  obtain⟨w,h9,post⟩:=R.bO h
  obtain⟨u,hu,h⟩:=Option.bind_eq_some_iff.mp h9
  have nu:=bC S2.st o2 hu
  have fin:∀{v'},f_ X.K F2 α2 v' w→Q v' H2:=λ{v'} o=>post v' H2 F2 α2 (x1.trans x2) S2 o
  have o1':=o1.mono x2.same x2.pre
  have gen:∀t,rd μ2 x=some t→ap1 (λt=>J5 t u) (some t)=some w→rIx X.K v v2 H2 Q:=λt hr h=>by
   obtain⟨t',w',e1,h,rfl⟩:=jX h
   cases e1
   have nt:=bC S2.st o1' hr
   cases t with
   | lst ts =>
    cases u with
    | int i =>
     cases nu.int
     obtain⟨a,vs,rfl,hq,hl⟩:=nt.o9
     obtain⟨v',g1,g2⟩:=hl.atI h
     exact .inl ⟨a,vs,i,v',rfl,rfl,hq,g1,fin g2⟩
    | _=>cases h
   | tup ts =>
    cases u with
    | int i =>
     cases nu.int
     obtain⟨a,vs,rfl,hq,hl⟩:=nt.rL
     obtain⟨v',g1,g2⟩:=hl.atI h
     exact .inr (.inl ⟨a,vs,i,v',rfl,rfl,aZ.i5 S2.st.ext hq,g1,fin g2⟩)
    | _=>cases h
   | str z =>
    cases u with
    | int i =>
     cases nu.int
     cases nt.str
     have h:(if z.length≤szL then (Fw.atI z.cps.toList i).map λc=>T.str ⟨#[c]⟩ else none)=some w':=h
     by_cases hz:z.length≤szL
     ·rw[if_pos hz] at h
      obtain⟨ch,g1,rfl⟩:=Option.map_eq_some_iff.mp h
      exact .inr (.inr ⟨z,i,ch,rfl,rfl,hz,g1,fin (Rep.GQ (K:=X.K) (F:=F2) _)⟩)
     ·rw[if_neg hz] at h;cases h
    | _=>cases h
   | _=>cases u<;>cases h
  cases x with
  | val t=>exact gen t rfl (by unfold fA at h;exact h)
  | cel k =>
   cases q:rd μ2 (.cel k) with
   | none=>unfold fA at h;simp only at h;rw[q] at h;cases h
   | some t=>exact gen t q (by unfold fA at h;simp only at h;rw[q] at h;exact h)
  | box xs =>
   cases u with
   | int i =>
    cases nu.int
    obtain⟨y',h1,rfl⟩:=Option.map_eq_some_iff.mp (show (Fw.atI xs i).map pick=some w from h)
    obtain⟨a,vs,rfl,hq,hp⟩:=o1'
    obtain⟨v',g1,g2⟩:=Paired.atI hp h1
    refine .inr (.inl ⟨a,vs,i,v',rfl,rfl,aZ.i5 S2.st.ext hq,g1,fin ?_⟩)
    cases y' with
    | inl t=>exact g2
    | inr k=>exact g2
   | _=>cases h
theorem dy(hm:X.mg "len"=none)(ha:CE X a da)(hg:Gl X "len":=by rfl)(hs1:starEach [a] X.env=(false,eval a X.env)::starEach [] X.env:=by rfl)(hpl:(backTo pos (starEach [] X.env)).any (·.1)=false:=by rfl) :
  CE X (.Call (.Name "len" p) [a] [] pos) (cQ da) :=
 PE.imp (jG (uQ.or (uR.or Bq)) hg hm PySem.boot_len (ag ha aA hs1) (by decide) (by decide) hs1 hpl) λσ H Q av=>by
  obtain⟨F,α,e,μ,S,h⟩:=av
  refine qY ⟨F,α,e,μ,S,(R.wp_bind h).mono (λx μ1 h v H1 F1 α1 x1 S1 o1=>?_) λ_ _ h=>h⟩
  obtain⟨w,h9,post⟩:=R.bO h
  obtain⟨w',h,rfl⟩:=Option.map_eq_some_iff.mp h9
  have fin:∀{v'},Rep X.K F1 w' v'→Q v' H1:=λ{v'} o=>post v' H1 F1 α1 x1 S1 o
  have gen:∀t,rd μ1 x=some t→J6 t=some w'→(∃p ys,[v]=[V.ref p]∧(SqL X.K H1 p ys∨SqT X.K H1 p ys)∧Q (.int ys.length) H1)∨(∃z,[v]=[V.str z]∧z.length≤sizeLine∧Q (.int z.length) H1) ∨
    ∃d kvs,[v]=[V.ref d]∧H1 d=some (.dK kvs)∧Q (.int kvs.length) H1:=λt hr h=>by
   have nt:=bC S1.st o1 hr
   cases t with
   | lst ts =>
    cases h
    obtain⟨a,vs,rfl,hq,hl⟩:=nt.o9
    exact .inl ⟨a,vs,rfl,.inl hq,fin (by rw[hl.length];exact Rep.iC _)⟩
   | tup ts =>
    cases h
    obtain⟨a,vs,rfl,hq,hl⟩:=nt.rL
    exact .inl ⟨a,vs,rfl,.inr (aZ.i5 S1.st.ext hq),fin (by rw[hl.length];exact Rep.iC _)⟩
   | str z =>
    cases nt.str
    have h:(if z.length≤szL then some (T.int z.length) else none)=some w':=h
    by_cases hz:z.length≤szL
    ·rw[if_pos hz] at h
     cases h
     exact .inr (.inl ⟨z,rfl,hz,fin (Rep.iC _)⟩)
    ·rw[if_neg hz] at h;cases h
   | dct kts =>
    cases h
    obtain⟨a,kvs,rfl,hq,hl⟩:=nt
    exact .inr (.inr ⟨a,kvs,rfl,hq,fin (by rw[hl.length];exact Rep.iC _)⟩)
   | _=>cases h
  cases x with
  | val t=>exact gen t rfl (by unfold jn at h;exact h)
  | cel k =>
   cases q:rd μ1 (.cel k) with
   | none=>unfold jn at h;simp only at h;rw[q] at h;cases h
   | some t=>exact gen t q (by unfold jn at h;simp only at h;rw[q] at h;exact h)
  | box xs =>
   cases h
   obtain⟨a,vs,rfl,hq,hp⟩:=o1
   exact .inl ⟨a,vs,rfl,.inr (aZ.i5 S1.st.ext hq),fin (by rw[hp.length];exact Rep.iC _)⟩
end
end Fw
set_option maxHeartbeats 4000000
namespace Fw
open PySem PySem.Spec PyProof.Rows L2
mutual
def toPy:T→PyData
 | .non=>.none
 | .bl b=>.bool b
 | .int i=>.int i
 | .str x=>.str x
 | .lst ts=>.list (toPys ts)
 | .tup ts=>.tuple (toPys ts)
 | .dct _=>.dict []
 | .exc _ _=>.dict []
 | .dtt _ _=>.dict []
def toPys:List T→List PyData
 | []=>[]
 | t::ts=>toPy t::toPys ts
end
mutual
theorem rM:∀(n:Nat) (t:T),okT n t=true→(toPy t).canLay0=true∧(toPy t).depth≤n
 | n,.non,_=>⟨by rw[toPy,PyData.canLay0],by rw[toPy,PyData.depth];exact Nat.zero_le _⟩
 | n,.bl _,_=>⟨by rw[toPy,PyData.canLay0],by rw[toPy,PyData.depth];exact Nat.zero_le _⟩
 | n,.int _,_=>⟨by rw[toPy,PyData.canLay0],by rw[toPy,PyData.depth];exact Nat.zero_le _⟩
 | n,.str x,h=>by
  unfold okT at h
  exact⟨by rw[toPy,PyData.canLay0];exact h,by rw[toPy,PyData.depth];exact Nat.zero_le _⟩
 | 0,.lst ts,h=>by rw[okT] at h;cases h
 | n+1,.lst ts,h=>by
  rw[okT] at h
  obtain⟨h1,h2⟩:=vj n ts h
  exact⟨by rw[toPy,PyData.canLay0];exact h1,by rw[toPy,PyData.depth];lia⟩
 | 0,.tup ts,h=>by rw[okT] at h;cases h
 | n+1,.tup ts,h=>by
  rw[okT] at h
  obtain⟨h1,h2⟩:=vj n ts h
  exact⟨by rw[toPy,PyData.canLay0];exact h1,by rw[toPy,PyData.depth];lia⟩
 | n,.dct _,h=>by unfold okT at h;cases h
 | n,.exc _ _,h=>by unfold okT at h;cases h
 | n,.dtt _ _,h=>by unfold okT at h;cases h
theorem vj:∀(n:Nat) (ts:List T),jJ n ts=true→PyData.canLayAll0 (toPys ts)=true∧PyData.depthAll (toPys ts)≤n
 | n,[],_=>⟨by rw[toPys,PyData.canLayAll0],by rw[toPys,PyData.depthAll];exact Nat.zero_le _⟩
 | n,t::ts,h=>by
  rw[jJ,Bool.and_eq_true] at h
  obtain⟨h1,h2⟩:=rM n t h.1
  obtain⟨h3,h4⟩:=vj n ts h.2
  exact⟨by rw[toPys,PyData.canLayAll0,h1,h3];rfl,by rw[toPys,PyData.depthAll];lia⟩
end
mutual
theorem yV:∀(n:Nat) (t u:T),okT n t=true→okT n u=true→PyData.eqv (toPy t) (toPy u)=eqT t u
 | n,.non,u,_,h=>by cases u<;>first|(simp[toPy,eqT,PyData.eqv];done)|(unfold okT at h;cases h)
 | n,.bl a,u,_,h=>by cases u<;>first|(simp[toPy,eqT,PyData.eqv];done)|(unfold okT at h;cases h)
 | n,.int a,u,_,h=>by cases u<;>first|(simp[toPy,eqT,PyData.eqv];done)|(unfold okT at h;cases h)
 | n,.str a,u,_,h=>by cases u<;>first|(simp[toPy,eqT,PyData.eqv];done)|(unfold okT at h;cases h)
 | 0,.lst a,u,h,_=>by rw[okT] at h;cases h
 | n+1,.lst a,u,h1,h=>by
  cases u with
  | lst b=>rw[toPy,toPy,eqT,PyData.eqv];rw[okT] at h1 h;exact vk n a b h1 h
  | dct _=>unfold okT at h;cases h
  | exc _ _=>unfold okT at h;cases h
  | dtt _ _=>unfold okT at h;cases h
  | _=>simp[toPy,eqT,PyData.eqv]
 | 0,.tup a,u,h,_=>by rw[okT] at h;cases h
 | n+1,.tup a,u,h1,h=>by
  cases u with
  | tup b=>rw[toPy,toPy,eqT,PyData.eqv];rw[okT] at h1 h;exact vk n a b h1 h
  | dct _=>unfold okT at h;cases h
  | exc _ _=>unfold okT at h;cases h
  | dtt _ _=>unfold okT at h;cases h
  | _=>simp[toPy,eqT,PyData.eqv]
 | n,.dct _,u,h,_=>by unfold okT at h;cases h
 | n,.exc _ _,u,h,_=>by unfold okT at h;cases h
 | n,.dtt _ _,u,h,_=>by unfold okT at h;cases h
theorem vk:∀(n:Nat) (ts us:List T),jJ n ts=true→jJ n us=true→PyData.eqvAll (toPys ts) (toPys us)=jm ts us
 | n,[],[],_,_=>by rw[toPys,PyData.eqvAll,jm]
 | n,[],u::us,_,_=>by rw[toPys,toPys,PyData.eqvAll,jm]
 | n,t::ts,[],_,_=>by rw[toPys,toPys,PyData.eqvAll,jm]
 | n,t::ts,u::us,h1,h2=>by
  rw[jJ,Bool.and_eq_true] at h1 h2
  rw[toPys,toPys,PyData.eqvAll,jm,yV n t u h1.1 h2.1,vk n ts us h1.2 h2.2]
end
section
variable{X:Cx}{pins:List (Addr×Obj)}{σ:L2.St}{H:Hp}{s:Shared}
mutual
theorem la(I:Inv X pins σ H s):∀(n:Nat) (t:T) (v:V) (u:Value),Rep X.K H t v→RelV v u→okT n t=true→∃as,Reads s.heap u (toPy t) as
 | n,.non,v,u,h,r,_=>by cases h.j4;cases r;rw[toPy];exact⟨_,.none⟩
 | n,.bl b,v,u,h,r,_=>by cases h.iu;cases r;rw[toPy];exact⟨_,.bool b⟩
 | n,.int i,v,u,h,r,_=>by cases h.kY;obtain⟨t,rfl⟩:=r;rw[toPy];exact⟨_,.int i t⟩
 | n,.str i,v,u,h,r,_=>by cases h.mJ;obtain⟨t,rfl⟩:=r;rw[toPy];exact⟨_,.str i t⟩
 | 0,.lst ts,v,u,h,r,ok=>by rw[okT] at ok;cases ok
 | n+1,.lst ts,v,u,h,r,ok=>by
  rw[Rep] at h
  rw[okT] at ok
  obtain⟨a,vs,rfl,hq,hl⟩:=h
  cases r
  obtain⟨its,rv,pl,_⟩:=I.list hq
  obtain⟨o,ho,hc,m,hd⟩:=pl.isList
  obtain⟨as,ra⟩:=lg I n ts vs its hl rv ok
  rw[toPy]
  exact⟨_,.list ho hc hd (by simpa using ra)⟩
 | 0,.tup ts,v,u,h,r,ok=>by rw[okT] at ok;cases ok
 | n+1,.tup ts,v,u,h,r,ok=>by
  rw[Rep] at h
  rw[okT] at ok
  obtain⟨a,vs,rfl,hq,hl⟩:=h
  cases r
  obtain⟨its,rv,pl,_⟩:=I.tuple hq
  obtain⟨o,ho,hc,m,hd⟩:=pl
  obtain⟨as,ra⟩:=lg I n ts vs its hl rv ok
  rw[toPy]
  exact⟨_,.tuple ho hc hd (by simpa using ra)⟩
 | n,.dct _,v,u,h,r,ok=>by unfold okT at ok;cases ok
 | n,.exc _ _,v,u,h,r,ok=>by unfold okT at ok;cases ok
 | n,.dtt _ _,v,u,h,r,ok=>by unfold okT at ok;cases ok
theorem lg(I:Inv X pins σ H s):∀(n:Nat) (ts:List T) (vs:List V) (us:List Value),aH X.K H ts vs→Vals vs us→jJ n ts=true→∃as,ReadsAll s.heap us (toPys ts) as
 | n,[],vs,us,h,r,_=>by
  rw[aH] at h;subst h;cases r
  rw[toPys];exact⟨_,.nil⟩
 | n,t::ts,vs,us,h,r,ok=>by
  rw[aH] at h
  obtain⟨v,vs',rfl,q,hl⟩:=h
  rw[jJ,Bool.and_eq_true] at ok
  cases r with
  | cons r1 r2 =>
   obtain⟨as,ra⟩:=la I n t v _ q r1 ok.1
   obtain⟨bs,rb⟩:=lg I n ts vs' _ hl r2 ok.2
   rw[toPys]
   exact⟨_,.cons ra rb⟩
end
end
theorem Now.rep{K:PySem.W.Frag}{F H:Hp}{v:V}{t:T}(s:aZ F H)(h:Now K F H v t)(hx:(∀c n,t≠.exc c n)∧∀f k,t≠.dtt f k):Rep K H t v:=by
 cases t with
 | lst ts=>rw[Rep];obtain⟨a,vs,e,q,r⟩:=h;exact⟨a,vs,e,q,aH.mono s _ _ r⟩
 | tup ts=>rw[Rep];obtain⟨a,vs,e,q,r⟩:=h;exact⟨a,vs,e,aZ.i5 s q,aH.mono s _ _ r⟩
 | dct ts=>rw[Rep];obtain⟨a,vs,e,q,r⟩:=h;exact⟨a,vs,e,q,bS.mono s _ _ r⟩
 | dtt fz ts=>rw[Rep];exact absurd rfl (hx.2 fz ts)
 | exc c n=>exact absurd rfl (hx.1 c n)
 | _=>exact Rep.mono s _ _ h
def Hl(K:PySem.W.Frag)(neg:Bool):R2:=λx y H Q=>∃t u,Rep K H t x∧Rep K H u y∧okT 100 t=true∧okT 100 u=true∧Q (.bl (if neg then !eqT t u else eqT t u)) H
section
variable{X:Cx}{a b c:Expr}{da db dc:D}{pos p p2:Pos}{k:Nat}
theorem Ed(hr:eE k X.A):OpR X (compareOp .Eq) (Hl X.K false):=by
 intro pins s σ H x y v u Q I rx ry h
 obtain⟨t,t',h1,h2,o1,o2,q⟩:=h
 obtain⟨as,r1⟩:=la I 100 t x v h1 rx o1
 obtain⟨bs,r2⟩:=la I 100 t' y u h2 ry o2
 obtain⟨c1,d1⟩:=rM 100 t o1
 obtain⟨c2,d2⟩:=rM 100 t' o2
 refine SeqAt.compareEq_reads r1 r2 c1 c2 (by have:=hr.un;lia) ⟨.bl _,H,I,rfl,?_⟩
 rw[yV 100 t t' o1 o2]
 exact q
theorem Ku(hr:eE k X.A):OpR X (compareOp .NotEq) (Hl X.K true):=by
 intro pins s σ H x y v u Q I rx ry h
 obtain⟨t,t',h1,h2,o1,o2,q⟩:=h
 obtain⟨as,r1⟩:=la I 100 t x v h1 rx o1
 obtain⟨bs,r2⟩:=la I 100 t' y u h2 ry o2
 obtain⟨c1,d1⟩:=rM 100 t o1
 obtain⟨c2,d2⟩:=rM 100 t' o2
 refine SeqAt.compareNe_reads r1 r2 c1 c2 (by have:=hr.un;lia) ⟨.bl _,H,I,rfl,?_⟩
 rw[yV 100 t t' o1 o2]
 exact q
theorem nQ{n:Nat}{t:T}(h:okT n t=true):(∀c m,t≠.exc c m)∧∀f k,t≠.dtt f k:=⟨λc m e=>(by subst e;unfold okT at h;cases h),λc m e=>(by subst e;unfold okT at h;cases h)⟩
theorem Ee{K:PySem.W.Frag}:eK K (λx y H Q=>Hl K false x y H Q∨rEq x y H Q) fEq:=by
 intro F H v u t t' w Q s hv hu hw q
 by_cases hs:∃a b,t=.str a∧t'=.str b
 ·obtain⟨a,b,rfl,rfl⟩:=hs
  cases hw
  cases hv.str
  cases hu.str
  refine .inr ⟨rfl,?_⟩
  have e:decide (V.str a=V.str b)=(a==b):=m_
  rw[e]
  exact q _ H F b8.refl (Rep.bl' _)
 ·have hw:(if okT 100 t=true∧okT 100 t'=true then some (T.bl (eqT t t')) else none)=some w:=by
   unfold fEq at hw
   split at hw
   ·exact absurd ⟨_,_,rfl,rfl⟩ hs
   ·exact hw
  by_cases ho:okT 100 t=true∧okT 100 t'=true
  ·rw[if_pos ho] at hw
   cases hw
   exact .inl ⟨t,t',hv.rep s (nQ ho.1),hu.rep s (nQ ho.2),ho.1,ho.2,q _ H F b8.refl (Rep.bl' _)⟩
  ·rw[if_neg ho] at hw;cases hw
theorem Kv{K:PySem.W.Frag}:eK K (λx y H Q=>Hl K true x y H Q∨rNe x y H Q) fNe:=by
 intro F H v u t t' w Q s hv hu hw q
 by_cases hs:∃a b,t=.str a∧t'=.str b
 ·obtain⟨a,b,rfl,rfl⟩:=hs
  cases hw
  cases hv.str
  cases hu.str
  refine .inr ⟨rfl,?_⟩
  have e:decide (V.str a=V.str b)=(a==b):=m_
  rw[e]
  exact q _ H F b8.refl (Rep.bl' _)
 ·have hw:(if okT 100 t=true∧okT 100 t'=true then some (T.bl (!eqT t t')) else none)=some w:=by
   unfold fNe at hw
   split at hw
   ·exact absurd ⟨_,_,rfl,rfl⟩ hs
   ·exact hw
  by_cases ho:okT 100 t=true∧okT 100 t'=true
  ·rw[if_pos ho] at hw
   cases hw
   exact .inl ⟨t,t',hv.rep s (nQ ho.1),hu.rep s (nQ ho.2),ho.1,ho.2,q _ H F b8.refl (Rep.bl' _)⟩
  ·rw[if_neg ho] at hw;cases hw
theorem pU(hr:eE k X.A)(ha:CE X a da)(hb:CE X b db):CE X (.Compare a [.Eq] [b] pos) (ah fEq da db):=DK ((Ed hr).or C3) Ee (mG _) ha hb
theorem kF(hr:eE k X.A)(ha:CE X a da)(hb:CE X b db):CT X (.Compare a [.Eq] [b] pos) (ah fEq da db):=oY ((Ed hr).or C3) Ee (mG _) ha hb
theorem i_(hr:eE k X.A)(ha:CE X a da)(hb:CE X b db):CT X (.Compare a [.NotEq] [b] pos) (ah fNe da db):=oY ((Ku hr).or L0) Kv (mG _) ha hb
def TyN(K:PySem.W.Frag)(H:Hp)(v:V)(ty:String):Prop:=match v with
 | .non=>ty="NoneType"
 | .bl _=>ty="bool"
 | .int _=>ty="int"
 | .str _=>ty="str"
 | .ref a=>(ty="list"∧∃xs,SqL K H a xs)∨(ty="tuple"∧∃xs,SqT K H a xs)∨(ty="dict"∧∃kvs,H a=some (.dK kvs))
 | _=>False
theorem Ef{cn:String}:fF X (.builtin "isinstance") (λxs H Q=>∃v ty r,xs=[v,.ty cn]∧TyN X.K H v ty∧PySem.W.kitOne X.K (.type ty) (.type cn)=some r∧Q (.bl r) H):=by
 intro pins s σ H xs us Q I r h
 obtain⟨v,ty,b,rfl,hty,e,q⟩:=h
 obtain⟨u1,u2,rfl,r1,r2⟩:=vals2 r
 have r2:u2=Value.type cn:=r2
 subst r2
 have fin:∀tk,EP X pins σ Q (.bool b) { s with toks:=tk }:=λtk=>⟨.bl b,H,I.tok _,rfl,q⟩
 cases v with
 | non=>cases (show u1=Value.none from r1);cases hty;exact PySem.W.kia_one PySem.W.kitx_none I.kIn True.intro e (λz=>nomatch z) fin
 | bl y=>cases (show u1=Value.bool y from r1);cases hty;exact PySem.W.kia_one PySem.W.kitx_bool I.kIn True.intro e (λz=>nomatch z) fin
 | int i=>obtain⟨t,q⟩:=(show ∃t,u1=Value.int i t from r1);cases q;cases hty;exact PySem.W.kia_one PySem.W.kitx_int I.kIn True.intro e (λz=>nomatch z) fin
 | str y=>obtain⟨t,q⟩:=(show ∃t,u1=Value.str y t from r1);cases q;cases hty;exact PySem.W.kia_one PySem.W.kitx_str I.kIn True.intro e (λz=>nomatch z) fin
 | ref a =>
  cases (show u1=Value.ref a from r1)
  rcases hty with ⟨rfl,xs,hq⟩|⟨rfl,xs,hq⟩|⟨rfl,kvs,hq⟩
  ·obtain⟨its,_,pl,_⟩:=I.list hq
   obtain⟨o,ho,hc,_⟩:=pl.isList
   exact PySem.W.kia_one PySem.W.kitx_list I.kIn ⟨o,ho,hc⟩ e (λz=>nomatch z) fin
  ·obtain⟨its,_,pl,_⟩:=I.tuple hq
   obtain⟨o,ho,hc,_⟩:=pl
   exact PySem.W.kia_one PySem.W.kitx_tuple I.kIn ⟨o,ho,hc⟩ e (λz=>nomatch z) fin
  ·obtain⟨_,_,vs,_,pz⟩:=(show dB X.prog X.w H s.heap a (.dK kvs) from I.hok a _ hq)
   obtain⟨o,es,h1,h2,_⟩:=pz
   exact PySem.W.kia_one PySem.W.kitx_dict I.kIn ⟨o,h1,h2.1⟩ e (λz=>nomatch z) fin
 | _=>exact hty.elim
def Kd.name:Kd→String
 | .int=>"int"
 | .bool=>"bool"
 | .str=>"str"
 | .list=>"list"
 | .tuple=>"tuple"
 | .dict=>"dict"
def kdT:T→String
 | .non=>"NoneType"
 | .bl _=>"bool"
 | .int _=>"int"
 | .str _=>"str"
 | .lst _=>"list"
 | .tup _=>"tuple"
 | .dct _=>"dict"
 | .exc _ _=>""
 | .dtt _ _=>"dict"
def MH(x y:String):Option Bool:=if (Value.type x==Value.type y)=true then some true else if PySem.W.kitMeta y=true then (PySem.fastBuiltinMro x).map (·.contains (Value.type y)) else none
def Eg(x y:String):Bool:=x==y || (x=="bool" && y=="int")
theorem Eh:∀x∈["NoneType","bool","int","str","list","tuple","dict"],∀y∈["int","bool","str","list","tuple","dict"],MH x y=some (Eg x y):=by decide +kernel
theorem AD{K:PySem.W.Frag}(kd:Kd)(t:T)(hx:∀c n,t≠.exc c n):PySem.W.kitOne K (.type (kdT t)) (.type kd.name)=some (isK kd t):=by
 have e:PySem.W.kitOne K (.type (kdT t)) (.type kd.name)=MH (kdT t) kd.name:=rfl
 have h1:kdT t∈["NoneType","bool","int","str","list","tuple","dict"]:=by cases t<;>first|exact absurd rfl (hx _ _)|simp[kdT]
 have h2:kd.name∈["int","bool","str","list","tuple","dict"]:=by cases kd<;>simp[Kd.name]
 have h3:Eg (kdT t) kd.name=isK kd t:=by cases kd<;>cases t<;>first|exact absurd rfl (hx _ _)|rfl
 rw[e,Eh _ h1 _ h2,h3]
theorem vm(kd:Kd){cn:Str}(hm:X.mg "isinstance"=none)(hm2:X.mg cn=none)(hv2:bootBuiltins cn=some (.type kd.name))(ha:CE X a da)(hn2:cn≠"__name__")(hd2:(cn==("__debug__":Str))=false)(hg:Gl X "isinstance":=by rfl)(hg2:Gl X cn:=by rfl)
  (hs1:starEach [a,.Name cn p2] X.env=(false,eval a X.env)::starEach [.Name cn p2] X.env:=by rfl) (hs2:starEach [.Name cn p2] X.env=(false,eval (.Name cn p2) X.env)::starEach [] X.env:=by rfl) (hpl:(backTo pos (starEach [.Name cn p2] X.env)).any (·.1)=false:=by rfl) :
  CE X (.Call (.Name "isinstance" p) [a,.Name cn p2] [] pos) (dIs kd da) :=
 PE.imp (jG Ef hg hm (by decide +kernel) (gQ ha (gQ (zS (v:=.ty kd.name) hg2 hm2 hv2 rfl hn2 hd2) oI hs2) hs1) (by decide) (by decide) hs1 hpl) λσ H Q av=>by
  obtain⟨F,α,e,μ,S,h⟩:=av
  refine⟨F,α,e,μ,S,(R.wp_bind h).mono (λx μ1 h v H1 F1 α1 x1 S1 o1=>?_) λ_ _ h=>h⟩
  obtain⟨w,h9,post⟩:=R.bO h
  obtain⟨w',h,rfl⟩:=Option.map_eq_some_iff.mp h9
  have fin:∀{v'},Rep X.K F1 w' v'→Q v' H1:=λ{v'} o=>post v' H1 F1 α1 x1 S1 o
  have gen:∀t,rd μ1 x=some t→isT kd t=some w'→∃v' ty r,[v,V.ty kd.name]=[v',.ty kd.name]∧TyN X.K H1 v' ty∧PySem.W.kitOne X.K (.type ty) (.type kd.name)=some r∧Q (.bl r) H1:=λt hr h=>by
   have nt:=bC S1.st o1 hr
   have hx:∀c n,t≠.exc c n:=λc n z=>by subst z;cases h
   have ew:w'=.bl (isK kd t):=by
    cases t<;>first|exact (Option.some.inj h).symm|cases h
   subst ew
   refine⟨v,kdT t,_,rfl,?_,AD kd t hx,fin (Rep.bl' _)⟩
   cases t with
   | non=>rw[show v=.non from Rep.j4 (K:=X.K) (F:=F1) nt];rfl
   | bl b=>rw[nt.bl];rfl
   | int b=>rw[nt.int];rfl
   | str b=>rw[nt.str];rfl
   | lst ts=>obtain⟨a,vs,rfl,hq,_⟩:=nt.o9;exact .inl ⟨rfl,vs,hq⟩
   | tup ts=>obtain⟨a,vs,rfl,hq,_⟩:=nt.rL;exact .inr (.inl ⟨rfl,vs,aZ.i5 S1.st.ext hq⟩)
   | dct ts=>obtain⟨a,vs,rfl,hq,_⟩:=nt;exact .inr (.inr ⟨rfl,vs,hq⟩)
   | exc c n=>exact absurd rfl (hx c n)
   | dtt fz ts=>cases h
  cases x with
  | val t=>exact gen t rfl h
  | cel j =>
   cases q:rd μ1 (.cel j) with
   | none=>rw[Al,q] at h;cases h
   | some t=>exact gen t q (by rw[Al,q] at h;exact h)
  | box xs =>
   cases h
   obtain⟨a,vs,rfl,hq,_⟩:=o1
   exact⟨_,"tuple",_,rfl,.inr (.inl ⟨rfl,vs,aZ.i5 S1.st.ext hq⟩),AD kd (.tup []) (λc n z=>by cases z),fin (Rep.bl' _)⟩
theorem uz(hm:X.mg "isinstance"=none)(hm2:X.mg "int"=none)(ha:CE X a da)(hg:Gl X "isinstance":=by rfl)(hg2:Gl X "int":=by rfl)
  (hs1:starEach [a,.Name "int" p2] X.env=(false,eval a X.env)::starEach [.Name "int" p2] X.env:=by rfl) (hs2:starEach [.Name "int" p2] X.env=(false,eval (.Name "int" p2) X.env)::starEach [] X.env:=by rfl) (hpl:(backTo pos (starEach [.Name "int" p2] X.env)).any (·.1)=false:=by rfl) :
  CE X (.Call (.Name "isinstance" p) [a,.Name "int" p2] [] pos) (dIs .int da):=vm .int hm hm2 (by decide +kernel) ha (by decide +kernel) (by decide +kernel) hg hg2 hs1 hs2 hpl
theorem rO(hm:X.mg "isinstance"=none)(hm2:X.mg "bool"=none)(ha:CE X a da)(hg:Gl X "isinstance":=by rfl)(hg2:Gl X "bool":=by rfl)
  (hs1:starEach [a,.Name "bool" p2] X.env=(false,eval a X.env)::starEach [.Name "bool" p2] X.env:=by rfl) (hs2:starEach [.Name "bool" p2] X.env=(false,eval (.Name "bool" p2) X.env)::starEach [] X.env:=by rfl) (hpl:(backTo pos (starEach [.Name "bool" p2] X.env)).any (·.1)=false:=by rfl) :
  CE X (.Call (.Name "isinstance" p) [a,.Name "bool" p2] [] pos) (dIs .bool da):=vm .bool hm hm2 (by decide +kernel) ha (by decide +kernel) (by decide +kernel) hg hg2 hs1 hs2 hpl
theorem yW(hm:X.mg "isinstance"=none)(hm2:X.mg "list"=none)(ha:CE X a da)(hg:Gl X "isinstance":=by rfl)(hg2:Gl X "list":=by rfl)
  (hs1:starEach [a,.Name "list" p2] X.env=(false,eval a X.env)::starEach [.Name "list" p2] X.env:=by rfl) (hs2:starEach [.Name "list" p2] X.env=(false,eval (.Name "list" p2) X.env)::starEach [] X.env:=by rfl) (hpl:(backTo pos (starEach [.Name "list" p2] X.env)).any (·.1)=false:=by rfl) :
  CE X (.Call (.Name "isinstance" p) [a,.Name "list" p2] [] pos) (dIs .list da):=vm .list hm hm2 (by decide +kernel) ha (by decide +kernel) (by decide +kernel) hg hg2 hs1 hs2 hpl
theorem gk(hm:X.mg "isinstance"=none)(hm2:X.mg "tuple"=none)(ha:CE X a da)(hg:Gl X "isinstance":=by rfl)(hg2:Gl X "tuple":=by rfl)
  (hs1:starEach [a,.Name "tuple" p2] X.env=(false,eval a X.env)::starEach [.Name "tuple" p2] X.env:=by rfl) (hs2:starEach [.Name "tuple" p2] X.env=(false,eval (.Name "tuple" p2) X.env)::starEach [] X.env:=by rfl) (hpl:(backTo pos (starEach [.Name "tuple" p2] X.env)).any (·.1)=false:=by rfl) :
  CE X (.Call (.Name "isinstance" p) [a,.Name "tuple" p2] [] pos) (dIs .tuple da):=vm .tuple hm hm2 (by decide +kernel) ha (by decide +kernel) (by decide +kernel) hg hg2 hs1 hs2 hpl
end
theorem xg:∀{ts:List T}{bs:List Bool},qP ts=some bs→ts=bs.map T.bl
 | [],bs,h=>by cases h;rfl
 | t::ts,bs,h=>by
  cases t with
  | bl b =>
   obtain⟨cs,h1,rfl⟩:=Option.map_eq_some_iff.mp (show (qP ts).map (λbs=>b::bs)=some bs from h)
   rw[xg h1];rfl
  | _=>cases h
theorem uA:∀{ts:List T}{bs:List Int},mI ts=some bs→ts=bs.map T.int
 | [],bs,h=>by cases h;rfl
 | t::ts,bs,h=>by
  cases t with
  | int b =>
   obtain⟨cs,h1,rfl⟩:=Option.map_eq_some_iff.mp (show (mI ts).map (λbs=>b::bs)=some bs from h)
   rw[uA h1];rfl
  | _=>cases h
theorem aH.bls{K:PySem.W.Frag}{F:Hp}:∀{bs:List Bool}{vs:List V},aH K F (bs.map T.bl) vs→vs=bs.map V.bl
 | [],vs,h=>by rw[List.map_nil,aH] at h;exact h
 | b::bs,vs,h=>by
  rw[List.map_cons,aH] at h
  obtain⟨v,vs',rfl,q,r⟩:=h
  rw[r.bls,q.iu];rfl
theorem aH.Iv{K:PySem.W.Frag}{F:Hp}:∀{bs:List Int}{vs:List V},aH K F (bs.map T.int) vs→vs=bs.map V.int
 | [],vs,h=>by rw[List.map_nil,aH] at h;exact h
 | b::bs,vs,h=>by
  rw[List.map_cons,aH] at h
  obtain⟨v,vs',rfl,q,r⟩:=h
  rw[r.Iv,q.kY];rfl
theorem xh:∀{bs:List Bool}{us:List Value},Vals (bs.map V.bl) us→us=bs.map Value.bool
 | [],us,h=>by cases h;rfl
 | b::bs,us,h=>by
  rw[List.map_cons] at h
  cases h with
  | cons r h=>rw[xh h,show _=Value.bool b from r];rfl
section
variable{X:Cx}{a b c:Expr}{da db dc:D}{pos p p2:Pos}{k:Nat}
theorem BQ{prog:Program}{w:World}{A:Around}{E:Value→Shared→Prop}{s:Shared}{l:Addr}{its:Array Value}{Q:Value→Shared→Prop}(hl:s.heap.IsList l its)
  (h:∀s₂:Shared,s₂={ s with heap:=s.heap.push { cls:=.type "list_iterator",data:=.fields #[.ref l,.int 0 0] } }→(s₂.heap.IsListIter s.heap.objs.size l 0∧s₂.heap.IsList l its)→l≠s.heap.objs.size→Q (.ref s.heap.objs.size) s₂) :
  wpAny (model prog w) A (pyIter (.ref l)) Q E s:=by
 have hlt:l<s.heap.objs.size:=by obtain⟨_,e,_⟩:=hl;exact Heap.lt_size e
 exact wpAny_pyIter_list hl (h _ rfl ⟨⟨_,Heap.get?_push_size _ rfl,rfl,rfl⟩,hl.push _⟩ (Nat.ne_of_lt hlt))
theorem range_all(bs:List Bool):(List.range bs.length).all (λi=>bs.getD i true)=bs.all id:=by
 rw[Bool.eq_iff_iff,List.all_eq_true,List.all_eq_true]
 constructor
 ·intro h x hx
  obtain⟨i,hi⟩:=List.mem_iff_getElem?.mp hx
  have hl:i<bs.length:=(List.getElem?_eq_some_iff.mp hi).1
  have:=h i (List.mem_range.mpr hl)
  rw[List.getD_eq_getElem?_getD,hi] at this
  exact this
 ·intro h i hi
  have hl:i<bs.length:=List.mem_range.mp hi
  rw[List.getD_eq_getElem?_getD,List.getElem?_eq_getElem hl]
  exact h _ (List.getElem_mem hl)
theorem BR{prog:Program}{w:World}{A:Around}(bs:List Bool):TruthOf prog w A (λi v=>((bs.map Value.bool).toArray)[i]?=some v) (λi=>bs.getD i true):=by
 intro i v s Q E hP hQ
 have hP:(bs.map Value.bool)[i]?=some v:=by simpa using hP
 rw[List.getElem?_map] at hP
 cases q:bs[i]? with
 | none=>rw[q] at hP;cases hP
 | some y =>
  rw[q] at hP
  cases hP
  have hQ:Q (bs.getD i true) s:=hQ
  rw[List.getD_eq_getElem?_getD,q] at hQ
  exact wpAny_truthy_bool hQ
theorem BS(hr:eE k X.A):fF X (.builtin "all") (λxs H Q=>∃(p:Addr) (bs:List Bool),xs=[.ref p]∧SqL X.K H p (bs.map V.bl)∧Q (.bl (bs.all id)) H):=by
 intro pins s σ H xs us Q I r h
 obtain⟨p,bs,rfl,hq,q⟩:=h
 obtain⟨u,rfl,ru⟩:=vals1 r
 cases ru
 obtain⟨its,rv,pl,hz⟩:=I.list hq
 cases xh rv
 refine call_all_walk (BQ pl.isList λs₂ e st hne=>?_)
 subst e
 refine⟨_,_,_,_,_,_,_,rfl,Walks.list (A:=X.A.in1) hr.hd _ p hne _,st,BR bs,λh' tk hk=>?_⟩
 rw[List.size_toArray,List.length_map,range_all]
 exact⟨.bl _,H,I.kept (t':=tk) (old_kept hk),rfl,q⟩
theorem BU(hr:eE k X.A):fF X (.builtin "sum") (λxs H Q=>∃(p:Addr) (ns:List Int),xs=[.ref p]∧SqL X.K H p (ns.map V.int)∧Q (.int ns.sum) H):=by
 intro pins s σ H xs us Q I r h
 obtain⟨p,ns,rfl,hq,q⟩:=h
 obtain⟨u,rfl,ru⟩:=vals1 r
 cases ru
 obtain⟨its,rv,pl,hz⟩:=I.list hq
 have hi:IntsAre its ns:=intsAre_of rv
 have JW:AllInts its.toArray:=hi.allInts
 obtain⟨xs,hxs⟩:=JW.items
 rw[hxs] at pl
 refine sum_intListG hr.hd pl.isList λh' tk t' hk=>⟨.int ns.sum,H,I.kept (t':=tk) hk,⟨t',?_⟩,q⟩
 rw[preSum_eq,List.take_of_length_le (by simp)]
 have e1:=hi.numsOf
 have e2:its=(intItems xs).toList:=by rw[← hxs]
 rw[e2,nums_intItems] at e1
 rw[e1]
theorem vn(hr:eE k X.A)(hm:X.mg "all"=none)(ha:CE X a da)(hg:Gl X "all":=by rfl)(hs1:starEach [a] X.env=(false,eval a X.env)::starEach [] X.env:=by rfl)(hpl:(backTo pos (starEach [] X.env)).any (·.1)=false:=by rfl) :
  CE X (.Call (.Name "all" p) [a] [] pos) (dUn nG da):=Au (BS hr) (by
 intro F H v t w Q s hv hw q
 cases t with
 | lst ts =>
  obtain⟨bs,h1,rfl⟩:=Option.map_eq_some_iff.mp (show (qP ts).map _=some w from hw)
  obtain⟨a,vs,rfl,hq,hl⟩:=hv.o9
  rw[xg h1] at hl
  rw[hl.bls] at hq
  exact⟨a,bs,rfl,hq,q _ H F b8.refl (Rep.bl' _)⟩
 | _=>cases hw) hm (by decide +kernel) ha hg (by decide) (by decide) hs1 hpl
theorem Ei(hr:eE k X.A)(hm:X.mg "sum"=none)(ha:CE X a da)(hg:Gl X "sum":=by rfl)(hs1:starEach [a] X.env=(false,eval a X.env)::starEach [] X.env:=by rfl)(hpl:(backTo pos (starEach [] X.env)).any (·.1)=false:=by rfl) :
  CE X (.Call (.Name "sum" p) [a] [] pos) (dUn qO da):=Au (BU hr) (by
 intro F H v t w Q s hv hw q
 cases t with
 | lst ts =>
  obtain⟨bs,h1,rfl⟩:=Option.map_eq_some_iff.mp (show (mI ts).map _=some w from hw)
  obtain⟨a,vs,rfl,hq,hl⟩:=hv.o9
  rw[uA h1] at hl
  rw[hl.Iv] at hq
  exact⟨a,bs,rfl,hq,q _ H F b8.refl (Rep.iC _)⟩
 | _=>cases hw) hm (by decide +kernel) ha hg (by decide) (by decide) hs1 hpl
theorem fI(hm:X.mg "tuple"=none)(ha:CE X a da)(hg:Gl X "tuple":=by rfl)(hs1:starEach [a] X.env=(false,eval a X.env)::starEach [] X.env:=by rfl)(hpl:(backTo pos (starEach [] X.env)).any (·.1)=false:=by rfl) :
  CE X (.Call (.Name "tuple" p) [a] [] pos) (dUn cL da):=DT sY (by
 intro F H v t w Q s hv hw q
 cases t with
 | lst ts =>
  cases hw
  obtain⟨a,vs,rfl,hq,hl⟩:=hv.o9
  exact⟨a,vs,rfl,.inl ⟨hq,λl hp=>nP s hp hl q⟩⟩
 | tup ts =>
  cases hw
  obtain⟨a,vs,rfl,hq,hl⟩:=hv.rL
  exact⟨a,vs,rfl,.inr ⟨aZ.i5 s hq,q _ H F b8.refl (vi hq hl)⟩⟩
 | _=>cases hw) hm (by decide +kernel) ha hg (by decide) (by decide) hs1 hpl
theorem Kw:CF X (.Dict [] [] pos) (dC (.dct [])):=by
 refine⟨PE.imp Dh λσ H Q ⟨F,α,e,μ,S,h⟩=>?_,λe μ x μ' h=>?_⟩
 ·obtain⟨t,et,post⟩:=h
  cases et
  intro d hd
  exact post d _ F α (Ex.lay hd) (S.of (aZ.refl _) (List.prefix_refl _) (S.st.lay hd)) hd (S.st.ext.free hd) (cM S.st hd) ⟨[],aM,by rw[bS]⟩
 ·cases h;exact⟨_,rfl⟩
theorem vo{es:List Expr}{ds:List D}(h:CA X es ds)(hb:CE X b db)(hl:ds.length≤1000:=by decide):CF X (.BinOp (.List es p) .Mult b pos) (oM mr ds db):=by
 refine⟨PE.imp (Ih JR (C8 h) hb) λσ H Q ⟨F,α,e,μ,S,h⟩=>?_,λe μ x μ' h=>?_⟩
 ·refine⟨F,α,e,μ,S,(fB (R.wp_bind h)).mono (λxs μ1 ⟨hn,h⟩ vs H1 F1 α1 x1 S1 o1=>?_) λ_ _ h=>h⟩
  have h:=R.wp_bind h
  cases hz:eB xs μ1 with
  | err c μ2=>exact absurd hz (qj xs μ1 c μ2)
  | bad=>rw[hz] at h;exact h.elim
  | ok ts μ2 =>
   rw[hz] at h
   obtain⟨F2,s2,n2,S2,r2⟩:=ql S1.st o1 hz
   refine⟨lU hn o1 hl,λl hp=>?_⟩
   have x2:Ex F α H F2 α1 (upd H1 l (.lst vs)):=x1.trans ((Ex.qV s2 n2).trans (Ex.lay hp))
   refine⟨F2,α1,e,μ2,S1.of s2 (List.prefix_refl _) (S2.lay hp),(R.wp_bind h).mono (λy μ3 h v3 H3 F3 α3 x3 S3 o3=>?_) λ_ _ h=>h.mono x2⟩
   obtain⟨w,h9,t',e1,post⟩:=R.bO h
   obtain⟨t,w',ht,h,e2⟩:=jX h9
   subst e1
   cases e2
   cases t with
   | int i =>
    cases (bC S3.st o3 ht).int
    have h:(if -(2 ^ 63)≤i∧i<2 ^ 63∧ts.length*i.toNat≤szL then some (T.lst (List.replicate i.toNat ts).flatten) else none)=some t':=h
    by_cases hc:-(2 ^ 63)≤i∧i<2 ^ 63∧ts.length*i.toNat≤szL
    ·rw[if_pos hc] at h
     cases h
     obtain⟨g1,g2,g3⟩:=x3.fr l _ aM (S2.ext.free hp) (cM S2 hp)
     refine⟨l,i,vs,rfl,rfl,g1,hc.1,hc.2.1,by rw[← r2.length];exact hc.2.2,λp' hp'=>?_⟩
     exact post p' _ F3 α3 ((x2.trans x3).trans (Ex.lay hp')) (S3.of (aZ.refl _) (List.prefix_refl _) (S3.st.lay hp')) ((x2.trans x3).was S3.st hp') (S3.st.ext.free hp') (cM S3.st hp')
      ⟨_,aM,(aH.mono x3.same _ _ r2).flat i.toNat⟩
    ·rw[if_neg hc] at h;cases h
   | _=>cases h
 ·unfold oM at h
  obtain⟨xs,μ1,hx,h⟩:=R.bc h
  obtain⟨ts,μ2,hz,h⟩:=R.bc h
  obtain⟨y,μ3,hy,h⟩:=R.bc h
  obtain⟨h9,rfl⟩:=R.mH h
  obtain⟨t,w',ht,h,rfl⟩:=jX h9
  exact⟨_,rfl⟩
theorem gP{o e1:Expr}{do_ de:D}{apos iz:Pos}(ho:CE X o do_)(he:CE X e1 de)(ni:attributeBase o "append" X.env (eval o X.env)=eval o X.env:=by rfl)
  (JO:((backTo iz (starEach [e1] X.env)).all (λx=>!x.1) && (backToKw iz (keywordEach [] X.env)).all (λx=>x.1.isSome) && decide (([e1]:List Expr).length+([]:List Keyword).length+(if ([]:List Keyword).isEmpty then 0 else 1)<30))=true:=by rfl)
  (qC:(apos.endLine==iz.line)=true:=by rfl) (hs1:starEach [e1] X.env=(false,eval e1 X.env)::starEach [] X.env:=by rfl) (hpl:(backTo iz (starEach [] X.env)).any (·.1)=false:=by rfl)
  (hs:swapsWith (.Call (.Attribute o "append" apos) [e1] [] iz) none pos.line X.env=pure false:=by rfl) :
  CS X (.Expr (.Call (.Attribute o "append" apos) [e1] [] iz) pos) (cy do_ de) :=
 PS.imp (zT (Mb PySem.F.plainAttrs_list PySem.F.slot_list_append PySem.F.type_list_append t9 ho (ag he aA hs1) ni JO qC hs1 hpl) hs) λD σ H av=>by
  obtain⟨F,α,e,μ,S,h⟩:=av
  refine⟨F,α,e,μ,S,(bh.toS h).mono (λx μ1 h v H1 F1 α1 x1 S1 o1=>?_) λ_ _ h=>h⟩
  obtain⟨_,hl,h⟩:=h.lift
  cases x with
  | cel j =>
   obtain⟨ad,ha,rfl⟩:=o1
   have hc:∃bb ts,μ1[j]?=some (bb,.lst ts):=by
    unfold p8 at hl
    simp only at hl
    split at hl
    ·exact⟨_,_,by assumption⟩
    ·cases hl
   obtain⟨bb,ts,hj⟩:=hc
   have n1:=bC S1.st (x:=.cel j) (t:=.lst ts) ⟨ad,ha,rfl⟩ (by rw[mK,hj];rfl)
   obtain⟨a',vs,e1,hq,_⟩:=n1.o9
   cases e1
   refine⟨.inl ⟨rfl,vs,hq⟩,qY ⟨F1,α1,e,μ1,S1,(bh.toS h).mono (λy μ2 h v2 H2 F2 α2 x2 S2 o2=>?_) λ_ _ h=>h.mono x1⟩⟩
   have h:=h.toS
   cases hz:frz y μ2 with
   | err c μ3=>exact absurd hz (qG y μ2 c μ3)
   | bad=>rw[hz] at h;exact h.elim
   | ok t μ3 =>
    rw[hz] at h
    obtain⟨μ4,ha4,h⟩:=bh.lift h
    obtain⟨F3,s3,n3,S3,r3⟩:=oW S2.st o2 hz
    unfold appendAt at ha4
    simp only at ha4
    have hc:∃us,μ3[j]?=some (true,.lst us)∧us.length<szL∧μ4=μ3.set j (true,.lst (us++[t])):=by
     split at ha4
     ·rename_i us hjs
      by_cases hu:us.length<szL
      ·rw[if_pos hu] at ha4
       cases ha4
       exact⟨us,hjs,hu,rfl⟩
      ·rw[if_neg hu] at ha4;cases ha4
     ·cases ha4
    obtain⟨us,hj3,hu,rfl⟩:=hc
    have ha3:α2[j]?=some ad:=lT x2.pre ha
    obtain⟨_,ws,hw,rw'⟩:=(S3.cell j true _ ad hj3 ha3).1 rfl
    have el:=rw'.length
    refine⟨ad,ws,v2,rfl,rfl,hw,by rw[vg] at hu;omega,?_⟩
    have x3:Ex F α H F3 α2 H2:=x1.trans (x2.trans (Ex.qV s3 n3))
    exact h σ _ F3 α2 (x3.trans (Ex.put ha3)) ((S2.of s3 (List.prefix_refl _) S3).of (aZ.refl _) (List.prefix_refl _) (yH S3 hj3 ha3 ⟨_,aM,rw'.append (aH.one r3)⟩))
  | val t=>cases hl
  | box xs=>cases hl
end
end Fw
namespace Fw
open PySem L2 PyProof.Rows
section
variable{X:Cx}
end
end Fw
namespace L2
open PySem PySem.Spec PyProof.Rows
def KIt(k:Bool)(h:Heap)(i l:Addr)(n:Nat):Prop:=match k with
 | true=>h.IsListIter i l n
 | false=>h.IsTupleIter i l n
def KSq(k:Bool)(h:Heap)(l:Addr)(xs:Array Value):Prop:=match k with
 | true=>h.IsList l xs
 | false=>h.IsTuple l xs
theorem KIt.at{k:Bool}{h h':Heap}{i l:Addr}{n:Nat}(x:KIt k h i l n)(e:∀o,h.get? i=some o→h'.get? i=some o):KIt k h' i l n:=by
 cases k with
 | true=>exact Heap.IsListIter.at x e
 | false=>exact Heap.IsTupleIter.at x e
theorem KSq.at{k:Bool}{h h':Heap}{l:Addr}{xs:Array Value}(x:KSq k h l xs)(e:∀o,h.get? l=some o→h'.get? l=some o):KSq k h' l xs:=by
 cases k with
 | true=>exact Heap.IsList.at x e
 | false=>exact Heap.IsTuple.at x e
theorem KIt.ob{k:Bool}{h:Heap}{i l:Addr}{n:Nat}(x:KIt k h i l n):∃o,h.get? i=some o∧o.data=.fields #[.ref l,.int n 0]:=by
 cases k with
 | true=>obtain⟨o,a,_,b⟩:=x;exact⟨o,a,b⟩
 | false=>obtain⟨o,a,_,b⟩:=x;exact⟨o,a,b⟩
section
variable{prog:Program}{w:World}{A:Around}{E:Value→Shared→Prop}{s:Shared}
theorem yX{it t:Addr}{i:Nat}{items:Array Value}{x:Value}{Q:Value→Shared→Prop}(hit:s.heap.IsTupleIter it t i)(ht:s.heap.IsTuple t items)(hx:items[i]?=some x)
  (hQ:∀h',h'.IsTupleIter it t (i+1)→Heap.SameBut it s.heap h'→Q x { s with heap:=h' }):wpAny (model prog w) A (Builtin.SmallTypes.nextOf (.ref it)) Q E s:=by
 obtain⟨⟨o,ho,hc,hd⟩,⟨ol,hol,_,nl,hdl⟩⟩:=And.intro (id hit) ht
 unfold Builtin.SmallTypes.nextOf
 refine wpAny_bind (wpAny_callSpecial?_slot (name:=Str.ofString "__next__") hit.typeIs F.slot_tuple_iterator_next (wpAny_call_entry F.slot_tuple_iterator_next hit.typeIs F.entry_tuple_iterator_next ?_ (F.args_tuple_iterator_next_1 _)))
 show wpAny _ _ (field (.ref it) 0>>=_) _ _ s;refine wpAny_bind (wpAny_field ho hd (x:=.ref t) rfl ?_)
 show wpAny _ _ (if (Value.ref t==Value.none)=true then _ else _) _ _ s;rw[if_neg (show ¬ ((Value.ref t==Value.none)=true) from Bool.false_ne_true)]
 show wpAny _ _ (field (.ref it) 1>>=_) _ _ s;refine wpAny_bind (wpAny_field ho hd (x:=.int i 0) rfl ?_)
 show wpAny _ _ (seqItems? (.ref t)>>=_) _ _ s;refine wpAny_bind (wpAny_seqItems hol hdl ?_)
 simp only[Int.toNat_natCast,hx];refine wpAny_bind (wpAny_setField ho hd (by simp) (wpAny_pure ⟨x,rfl,wpAny_pure (hQ _ ?_ (Heap.SameBut.update ..))⟩))
 exact⟨_,Heap.get?_update_self _ ho (Obj.isFreed_of_fields (Obj.data_mapFields hd _)),(Obj.cls_mapFields ..).trans hc,by rw[Obj.data_mapFields hd];simp[rawInt]⟩
theorem BV{it t:Addr}{i:Nat}{items:Array Value}{Q:Value→Shared→Prop}(hh:A.handled=none)(hit:s.heap.IsTupleIter it t i)(ht:s.heap.IsTuple t items)(hx:items[i]?=none)
  (hE:∀h' e,Heap.ExtBut it s.heap h'→(∃o,h'.get? e=some o∧o.cls=.type "StopIteration")→E (.ref e) { s with heap:=h' }):wpAny (model prog w) A (Builtin.SmallTypes.nextOf (.ref it)) Q E s:=by
 obtain⟨⟨o,ho,hc,hd⟩,⟨ol,hol,_,nl,hdl⟩⟩:=And.intro (id hit) ht
 unfold Builtin.SmallTypes.nextOf
 refine wpAny_bind (wpAny_callSpecial?_slot (name:=Str.ofString "__next__") hit.typeIs F.slot_tuple_iterator_next (wpAny_call_entry F.slot_tuple_iterator_next hit.typeIs F.entry_tuple_iterator_next ?_ (F.args_tuple_iterator_next_1 _)))
 show wpAny _ _ (field (.ref it) 0>>=_) _ _ s;refine wpAny_bind (wpAny_field ho hd (x:=.ref t) rfl ?_)
 show wpAny _ _ (if (Value.ref t==Value.none)=true then _ else _) _ _ s;rw[if_neg (show ¬ ((Value.ref t==Value.none)=true) from Bool.false_ne_true)]
 show wpAny _ _ (field (.ref it) 1>>=_) _ _ s;refine wpAny_bind (wpAny_field ho hd (x:=.int i 0) rfl ?_)
 show wpAny _ _ (seqItems? (.ref t)>>=_) _ _ s;refine wpAny_bind (wpAny_seqItems hol hdl ?_)
 simp only[Int.toNat_natCast,hx];refine wpAny_bind (wpAny_rule (wpAny_bind (wpAny_setField ho hd (by simp) ?_)))
 show wpAny _ _ (newExc (.type "StopIteration") []>>=_) _ _ _;refine wpAny_bind ?_
 simp only[newExc,newTuple];refine wpAny_bind (wpAny_newObj_type ?_ (by size_fits))
 refine wpAny_bind (m:=firstArgMember _ _) (wpAny_of_eq (a:=Value.none) (by first|rfl|(simp only[firstArgMember];rfl)) ?_);refine wpAny_newObj_type ?_ (by size_fits)
 simp only[raiseNew];refine wpAny_bind (wpAny_handled ?_);first|rw[show A.in1.handled=none from hh]|rw[hh]
 refine wpAny_bind (wpAny_pure (wpAny_throw ?_));exact hE _ _ (((Heap.SameBut.update ..).extBut.push _).push _) ⟨_,Heap.get?_push_size _ rfl,rfl⟩
theorem kb{k:Bool}{it t:Addr}{i:Nat}{items:Array Value}{x:Value}{Q:Value→Shared→Prop}(hit:KIt k s.heap it t i)(ht:KSq k s.heap t items)(hx:items[i]?=some x)
  (hQ:∀h',KIt k h' it t (i+1)→Heap.SameBut it s.heap h'→Q x { s with heap:=h' }):wpAny (model prog w) A (Builtin.SmallTypes.nextOf (.ref it)) Q E s:=by
 cases k with
 | true=>exact wpAny_nextOf_list_item hit ht hx hQ
 | false=>exact yX hit ht hx hQ
theorem o_{k:Bool}{it t:Addr}{i:Nat}{items:Array Value}{Q:Value→Shared→Prop}(hh:A.handled=none)(hit:KIt k s.heap it t i)(ht:KSq k s.heap t items)(hx:items[i]?=none)
  (hE:∀h' e,Heap.ExtBut it s.heap h'→(∃o,h'.get? e=some o∧o.cls=.type "StopIteration")→E (.ref e) { s with heap:=h' }):wpAny (model prog w) A (Builtin.SmallTypes.nextOf (.ref it)) Q E s:=by
 cases k with
 | true=>exact wpAny_nextOf_list_end hh hit ht hx hE
 | false=>exact BV hh hit ht hx hE
theorem BW{k1 k2:Bool}{z TI TO i1 i2 l1 l2:Addr}{n1 n2:Nat}{xs ys:Array Value}{x y a b:Value}{Q:Value→Shared→Prop}(D:ZipApart z TI TO i1 i2 l1 l2)
  (hz:IsZip s.heap z TI TO .none) (hTI:IsPair s.heap TI (.ref i1) (.ref i2)) (hTO:IsPair s.heap TO a b) (h1:KIt k1 s.heap i1 l1 n1) (h2:KIt k2 s.heap i2 l2 n2) (hl1:KSq k1 s.heap l1 xs) (hl2:KSq k2 s.heap l2 ys) (hx:xs[n1]?=some x) (hy:ys[n2]?=some y)
  (hQ:∀h',IsZip h' z TI TO (rawInt s.heap.objs.size)→IsPair h' TO x y→KIt k1 h' i1 l1 (n1+1)→KIt k2 h' i2 l2 (n2+1)→IsPair h' s.heap.objs.size x y→h'.objs.size=s.heap.objs.size+1 →
   (∀c o,c≠z→c≠TO→c≠i1→c≠i2→s.heap.get? c=some o→h'.get? c=some o)→Q (.ref s.heap.objs.size) { s with heap:=h' }) :
  wpAny (model prog w) A (Builtin.«zip.__next__» ⟨[.ref z],[]⟩) (λfin s'=>∃v,fin=.done (.ret v)∧Q v s') E s:=by
 show wpAny _ _ (field (.ref z) 2>>=_) _ _ _;refine wpAny_bind (wpAny_field hz rfl (x:=.bool false) rfl ?_)
 show wpAny _ _ (field (.ref z) 3>>=_) _ _ _;refine wpAny_bind (wpAny_field hz rfl (x:=.ref TI) rfl ?_)
 refine wpAny_bind (wpAny_seqItems hTI rfl ?_);show wpAny _ _ (Builtin.SmallTypes.ownedTupleIsFree (.ref z)>>=_) _ _ _;refine wpAny_bind ?_
 unfold Builtin.SmallTypes.ownedTupleIsFree;refine wpAny_bind (wpAny_field hz rfl (x:=.none) rfl (wpAny_pure ?_))
 simp only[if_true];refine wpAny_bind (wpAny_rule ?_);refine wpAny_bind (wpAny_field hz rfl (x:=.ref TO) rfl ?_)
 refine wpAny_bind (wpAny_setField_rec hz (by simp) λg₁ hz₁ hs₁=>?_);replace hz₁:IsZip g₁ z TI TO .ellipsis:=hz₁
 refine wpAny_bind ?_;simp only[List.zipIdx_cons,List.zipIdx_nil,List.forIn_cons,List.forIn_nil];refine wpAny_bind (wpAny_bind (wpAny_onRaise ?_))
 show wpAny _ _ (Builtin.SmallTypes.nextOf (.ref i1)>>=_) _ _ _
 refine wpAny_bind (kb (h1.at λo e=>hs₁.extBut _ _ D.i1z e) (hl1.at λo e=>hs₁.extBut _ _ D.l1z e) hx λg₂ h1₂ hs₂=>wpAny_pure ?_)
 have hTO₂:IsPair g₂ TO a b:=hs₂.extBut _ _ D.TOi1 (hs₁.extBut _ _ D.TOz hTO)
 refine wpAny_bind (wpAny_seqItems hTO₂ rfl ?_);refine wpAny_bind (wpAny_updateSeq_pair hTO₂ λg₃ hTO₃ hs₃=>?_)
 replace hTO₃:IsPair g₃ TO x b:=hTO₃;refine wpAny_bind (wpAny_letGo (wpAny_pure ?_));refine wpAny_bind (wpAny_bind (wpAny_onRaise ?_))
 show wpAny _ _ (Builtin.SmallTypes.nextOf (.ref i2)>>=_) _ _ _
 refine wpAny_bind (kb (h2.at λo e=>hs₃.extBut _ _ D.TOi2.symm (hs₂.extBut _ _ D.i12.symm (hs₁.extBut _ _ D.i2z e))) (hl2.at λo e=>hs₃.extBut _ _ D.l2TO (hs₂.extBut _ _ D.l2i1 (hs₁.extBut _ _ D.l2z e))) hy λg₄ h2₄ hs₄=>wpAny_pure ?_)
 have hTO₄:IsPair g₄ TO x b:=hs₄.extBut _ _ D.TOi2 hTO₃
 refine wpAny_bind (wpAny_seqItems hTO₄ rfl ?_);refine wpAny_bind (wpAny_updateSeq_pair hTO₄ λg₅ hTO₅ hs₅=>?_)
 replace hTO₅:IsPair g₅ TO x y:=hTO₅;refine wpAny_bind (wpAny_letGo (wpAny_pure (wpAny_pure ?_)))
 refine wpAny_bind (wpAny_seqItems hTO₅ rfl ?_);refine wpAny_bind (wpAny_newTuple ?_)
 have hsz:g₅.objs.size=s.heap.objs.size:=by rw[hs₅.1,hs₄.1,hs₃.1,hs₂.1,hs₁.1]
 have hz₅:IsZip g₅ z TI TO .ellipsis:=hs₅.extBut _ _ D.TOz.symm (hs₄.extBut _ _ D.i2z.symm (hs₃.extBut _ _ D.TOz.symm (hs₂.extBut _ _ D.i1z.symm hz₁)))
 have hk₅:∀c o,c≠z→c≠TO→c≠i1→c≠i2→s.heap.get? c=some o→g₅.get? c=some o:=λc o c1 c2 c3 c4 e=>hs₅.extBut _ _ c2 (hs₄.extBut _ _ c4 (hs₃.extBut _ _ c2 (hs₂.extBut _ _ c3 (hs₁.extBut _ _ c1 e))))
 have h1₅:KIt k1 g₅ i1 l1 (n1+1):=h1₂.at λo e=>hs₅.extBut _ _ D.TOi1.symm (hs₄.extBut _ _ D.i12 (hs₃.extBut _ _ D.TOi1.symm e))
 have h2₅:KIt k2 g₅ i2 l2 (n2+1):=h2₄.at λo e=>hs₅.extBut _ _ D.TOi2.symm e
 have MI:z<g₅.objs.size:=Heap.lt_size hz₅
 show wpAny _ _ (Builtin.SmallTypes.ownedTupleHandOut (.ref z) (.ref g₅.objs.size)>>=_) _ _ _;refine wpAny_bind ?_
 unfold Builtin.SmallTypes.ownedTupleHandOut
 have hz₆:IsZip (g₅.push { cls:=.type "tuple",data:=.seq #[x,y] }) z TI TO .ellipsis:=Heap.get?_push_of_some _ hz₅
 refine wpAny_bind (wpAny_setField_rec hz₆ (by simp) λg₇ hz₇ hs₇=>?_);replace hz₇:IsZip g₇ z TI TO (rawInt g₅.objs.size):=hz₇
 refine wpAny_setField_rec hz₇ (by simp) λg₈ hz₈ hs₈=>?_
 replace hz₈:IsZip g₈ z TI TO (rawInt g₅.objs.size):=hz₈
 have up:∀c o,c≠z→g₅.get? c=some o→g₈.get? c=some o:=λc o c1 e=>hs₈.extBut _ _ c1 (hs₇.extBut _ _ c1 (Heap.get?_push_of_some _ e))
 have hT₈:IsPair g₈ g₅.objs.size x y:=hs₈.extBut _ _ (Nat.ne_of_gt MI) (hs₇.extBut _ _ (Nat.ne_of_gt MI) (Heap.get?_push_size _ rfl))
 have hz8:g₈.objs.size=g₅.objs.size+1:=by rw[hs₈.1,hs₇.1,Heap.size_push]
 rw[hsz] at hz₈ hT₈ hz8
 refine wpAny_pure ⟨_,rfl,?_⟩
 show Q (.ref g₅.objs.size) _
 rw[hsz]
 exact hQ g₈ hz₈ (up _ _ D.TOz hTO₅) (h1₅.at λo e=>up _ o D.i1z e) (h2₅.at λo e=>up _ o D.i2z e) hT₈ hz8 λc o c1 c2 c3 c4 e=>up c o c1 (hk₅ c o c1 c2 c3 c4 e)
theorem Ej{k1 k2:Bool}{z TI TO i1 i2 l1 l2:Addr}{n1 n2:Nat}{xs ys:Array Value}{a b:Value}{Q:Fin→Shared→Prop}(hh:A.handled=none)(D:ZipApart z TI TO i1 i2 l1 l2)
  (hz:IsZip s.heap z TI TO .none) (hTI:IsPair s.heap TI (.ref i1) (.ref i2)) (hTO:IsPair s.heap TO a b) (h1:KIt k1 s.heap i1 l1 n1) (h2:KIt k2 s.heap i2 l2 n2) (hl1:KSq k1 s.heap l1 xs) (hl2:KSq k2 s.heap l2 ys) (qU:xs[n1]?=none∨ys[n2]?=none)
  (hE:∀h' e,(∀c o,c≠z→c≠TO→c≠i1→c≠i2→s.heap.get? c=some o→h'.get? c=some o)→(∃o,h'.get? e=some o∧o.cls=.type "StopIteration")→E (.ref e) { s with heap:=h' }) :
  wpAny (model prog w) A (Builtin.«zip.__next__» ⟨[.ref z],[]⟩) Q E s:=by
 show wpAny _ _ (field (.ref z) 2>>=_) _ _ _;refine wpAny_bind (wpAny_field hz rfl (x:=.bool false) rfl ?_)
 show wpAny _ _ (field (.ref z) 3>>=_) _ _ _;refine wpAny_bind (wpAny_field hz rfl (x:=.ref TI) rfl ?_)
 refine wpAny_bind (wpAny_seqItems hTI rfl ?_);show wpAny _ _ (Builtin.SmallTypes.ownedTupleIsFree (.ref z)>>=_) _ _ _;refine wpAny_bind ?_
 unfold Builtin.SmallTypes.ownedTupleIsFree;refine wpAny_bind (wpAny_field hz rfl (x:=.none) rfl (wpAny_pure ?_))
 simp only[if_true];refine wpAny_bind (wpAny_rule ?_);refine wpAny_bind (wpAny_field hz rfl (x:=.ref TO) rfl ?_)
 refine wpAny_bind (wpAny_setField_rec hz (by simp) λg₁ hz₁ hs₁=>?_);replace hz₁:IsZip g₁ z TI TO .ellipsis:=hz₁
 refine wpAny_bind ?_;simp only[List.zipIdx_cons,List.zipIdx_nil,List.forIn_cons,List.forIn_nil];refine wpAny_bind (wpAny_bind (wpAny_onRaise ?_))
 show wpAny _ _ (Builtin.SmallTypes.nextOf (.ref i1)>>=_) _ _ _
 have h1':=h1.at λo e=>hs₁.extBut _ _ D.i1z e
 have MJ:=hl1.at λo e=>hs₁.extBut _ _ D.l1z e
 cases hx:xs[n1]? with
 | none =>
  refine wpAny_bind (o_ hh h1' MJ hx λg₂ e hs₂ he=>?_)
  obtain⟨oe,hoe,hce⟩:=he
  have hz₂:IsZip g₂ z TI TO .ellipsis:=hs₂ _ _ D.i1z.symm hz₁
  have hez:e≠z:=λq=>by subst q;rw[hz₂] at hoe;cases hoe;simp at hce
  exact wpAny_setField_rec hz₂ (by simp) λg₃ _ hs₃=>hE g₃ e (λc o c1 _ c3 _ q=>hs₃.extBut _ _ c1 (hs₂ _ _ c3 (hs₁.extBut _ _ c1 q))) ⟨oe,hs₃.extBut _ _ hez hoe,hce⟩
 | some x =>
  have hy:ys[n2]?=none:=by
   rcases qU with h|h
   ·rw[hx] at h;cases h
   ·exact h
  refine wpAny_bind (kb h1' MJ hx λg₂ h1₂ hs₂=>wpAny_pure ?_)
  have hTO₂:IsPair g₂ TO a b:=hs₂.extBut _ _ D.TOi1 (hs₁.extBut _ _ D.TOz hTO)
  refine wpAny_bind (wpAny_seqItems hTO₂ rfl ?_);refine wpAny_bind (wpAny_updateSeq_pair hTO₂ λg₃ hTO₃ hs₃=>?_)
  refine wpAny_bind (wpAny_letGo (wpAny_pure ?_));refine wpAny_bind (wpAny_bind (wpAny_onRaise ?_))
  show wpAny _ _ (Builtin.SmallTypes.nextOf (.ref i2)>>=_) _ _ _
  refine wpAny_bind (o_ hh (h2.at λo e=>hs₃.extBut _ _ D.TOi2.symm (hs₂.extBut _ _ D.i12.symm (hs₁.extBut _ _ D.i2z e))) (hl2.at λo e=>hs₃.extBut _ _ D.l2TO (hs₂.extBut _ _ D.l2i1 (hs₁.extBut _ _ D.l2z e))) hy λg₄ e hs₄ he=>?_)
  obtain⟨oe,hoe,hce⟩:=he
  have hz₄:IsZip g₄ z TI TO .ellipsis:=hs₄ _ _ D.i2z.symm (hs₃.extBut _ _ D.TOz.symm (hs₂.extBut _ _ D.i1z.symm hz₁))
  have hez:e≠z:=λq=>by subst q;rw[hz₄] at hoe;cases hoe;simp at hce
  exact wpAny_setField_rec hz₄ (by simp) λg₅ _ hs₅=>hE g₅ e (λc o c1 c2 c3 c4 q=>hs₅.extBut _ _ c1 (hs₄ _ _ c4 (hs₃.extBut _ _ c2 (hs₂.extBut _ _ c3 (hs₁.extBut _ _ c1 q))))) ⟨oe,hs₅.extBut _ _ hez hoe,hce⟩
theorem vp{k1 k2:Bool}{z TI TO i1 i2 l1 l2:Addr}{n1 n2:Nat}{xs ys:Array Value}{x y a b:Value}{Q:Option Value→Shared→Prop}(D:ZipApart z TI TO i1 i2 l1 l2)
  (hz:IsZip s.heap z TI TO .none) (hTI:IsPair s.heap TI (.ref i1) (.ref i2)) (hTO:IsPair s.heap TO a b) (h1:KIt k1 s.heap i1 l1 n1) (h2:KIt k2 s.heap i2 l2 n2) (hl1:KSq k1 s.heap l1 xs) (hl2:KSq k2 s.heap l2 ys) (hx:xs[n1]?=some x) (hy:ys[n2]?=some y)
  (hQ:∀h',IsZip h' z TI TO (rawInt s.heap.objs.size)→IsPair h' TO x y→KIt k1 h' i1 l1 (n1+1)→KIt k2 h' i2 l2 (n2+1)→IsPair h' s.heap.objs.size x y→h'.objs.size=s.heap.objs.size+1 →
   (∀c o,c≠z→c≠TO→c≠i1→c≠i2→s.heap.get? c=some o→h'.get? c=some o)→Q (some (.ref s.heap.objs.size)) { s with heap:=h' }):wpAny (model prog w) A (pyNext (.ref z)) Q E s:=by
 have hT:s.TypeIs (.ref z) "zip":=⟨_,hz,rfl⟩
 unfold pyNext
 exact wpAny_bind (wpAny_attempt (wpAny_callSpecial?_slot (name:=Str.ofString "__next__") hT F.slot_zip_next (wpAny_call_entry F.slot_zip_next hT F.entry_zip_next
  (BW D hz hTI hTO h1 h2 hl1 hl2 hx hy λh' a1 a2 a3 a4 a5 a6 a7=>wpAny_pure (hQ h' a1 a2 a3 a4 a5 a6 a7)) (F.args_zip_next_1 _))))
theorem xi{k1 k2:Bool}{z TI TO i1 i2 l1 l2:Addr}{n1 n2:Nat}{xs ys:Array Value}{a b:Value}{Q:Option Value→Shared→Prop}(hh:A.handled=none)(D:ZipApart z TI TO i1 i2 l1 l2)
  (hz:IsZip s.heap z TI TO .none) (hTI:IsPair s.heap TI (.ref i1) (.ref i2)) (hTO:IsPair s.heap TO a b) (h1:KIt k1 s.heap i1 l1 n1) (h2:KIt k2 s.heap i2 l2 n2) (hl1:KSq k1 s.heap l1 xs) (hl2:KSq k2 s.heap l2 ys) (qU:xs[n1]?=none∨ys[n2]?=none)
  (hQ:∀h',(∀c o,c≠z→c≠TO→c≠i1→c≠i2→s.heap.get? c=some o→h'.get? c=some o)→Q none { s with heap:=h' }):wpAny (model prog w) A (pyNext (.ref z)) Q E s:=by
 have hT:s.TypeIs (.ref z) "zip":=⟨_,hz,rfl⟩
 unfold pyNext
 refine wpAny_bind (wpAny_attempt (wpAny_callSpecial?_slot (name:=Str.ofString "__next__") hT F.slot_zip_next (wpAny_call_entry F.slot_zip_next hT F.entry_zip_next (Ej hh D hz hTI hTO h1 h2 hl1 hl2 qU λh' e hk he=>?_) (F.args_zip_next_1 _))))
 obtain⟨o,ho,hc⟩:=he
 refine wpAny_bind (wpAny_isInstance (T:="StopIteration") (b:=true) ⟨o,ho,hc⟩ isSubtype_stop ?_);exact wpAny_pure (hQ _ hk)
end
def ix(k:Bool)(l:Addr):Obj:={ cls:=.type (if k then "list_iterator" else "tuple_iterator"),data:=.fields #[.ref l,.int 0 0] }
noncomputable abbrev zH2 (k1 k2 : Bool) (h : Heap) (l1 l2 : Addr) : Heap := (h.push (ix k1 l1)).push (ix k2 l2)
noncomputable abbrev zH4 (k1 k2 : Bool) (h : Heap) (l1 l2 : Addr) : Heap := ((zH2 k1 k2 h l1 l2).push { cls := .type "tuple", data := .seq #[.ref h.objs.size, .ref (h.push (ix k1 l1)).objs.size] }).push { cls := .type "tuple", data := .seq #[.none, .none] }
noncomputable abbrev zH5 (k1 k2 : Bool) (h : Heap) (l1 l2 : Addr) : Heap := (zH4 k1 k2 h l1 l2).push { cls := .type "zip", data := .fields #[.none, .bool false, .bool false, .ref (zH2 k1 k2 h l1 l2).objs.size, .ref ((zH2 k1 k2 h l1 l2).push { cls := .type "tuple", data := .seq #[.ref h.objs.size, .ref (h.push (ix k1 l1)).objs.size] }).objs.size] }
set_option maxHeartbeats 4000000 in
theorem Hm(k1 k2:Bool)(l1 l2:Addr)(xs ys:Array Value) :
  Meets (Builtin.«zip.__new__» ⟨[.type "zip",.ref l1,.ref l2],[]⟩) (λ_ R s=>KSq k1 s.heap l1 xs∧KSq k2 s.heap l2 ys∧R (.ok (.ret (.ref (zH4 k1 k2 s.heap l1 l2).objs.size))) { s with heap:=zH5 k1 k2 s.heap l1 l2 }) :=
 .of_wp λprog w A R s h=>by
  obtain⟨hp,g,d,tk,os⟩:=s;obtain⟨hl1,hl2,h⟩:=h
  have tq:=sub_zip
  cases k1 with
  | true =>
   have hL1:Heap.IsList (Shared.heap ⟨hp,g,d,tk,os⟩) l1 xs:=hl1
   cases k2 with
   | true =>
    have hL2:Heap.IsList (Shared.heap ⟨hp.push { cls:=.type "list_iterator",data:=.fields #[.ref l1,.int 0 0] },g,d,tk,os⟩) l2 ys:=Heap.IsList.push hl2 _
    wp_walk using wpAny_pyIter_list hL1,wpAny_pyIter_list hL2
    exact⟨_,rfl,h⟩
   | false =>
    have hL2:Heap.IsTuple (Shared.heap ⟨hp.push { cls:=.type "list_iterator",data:=.fields #[.ref l1,.int 0 0] },g,d,tk,os⟩) l2 ys:=Heap.IsTuple.push hl2 _
    wp_walk using wpAny_pyIter_list hL1,wpAny_pyIter_tuple hL2
    exact⟨_,rfl,h⟩
  | false =>
   have hL1:Heap.IsTuple (Shared.heap ⟨hp,g,d,tk,os⟩) l1 xs:=hl1
   cases k2 with
   | true =>
    have hL2:Heap.IsList (Shared.heap ⟨hp.push { cls:=.type "tuple_iterator",data:=.fields #[.ref l1,.int 0 0] },g,d,tk,os⟩) l2 ys:=Heap.IsList.push hl2 _
    wp_walk using wpAny_pyIter_tuple hL1,wpAny_pyIter_list hL2
    exact⟨_,rfl,h⟩
   | false =>
    have hL2:Heap.IsTuple (Shared.heap ⟨hp.push { cls:=.type "tuple_iterator",data:=.fields #[.ref l1,.int 0 0] },g,d,tk,os⟩) l2 ys:=Heap.IsTuple.push hl2 _
    wp_walk using wpAny_pyIter_tuple hL1,wpAny_pyIter_tuple hL2
    exact⟨_,rfl,h⟩
theorem KIt.new{k:Bool}{h:Heap}{i l:Addr}(e:h.get? i=some (ix k l)):KIt k h i l 0:=by
 cases k with
 | true=>exact⟨_,e,rfl,rfl⟩
 | false=>exact⟨_,e,rfl,rfl⟩
section
variable{prog:Program}{w:World}{A:Around}{E:Value→Shared→Prop}{s:Shared}
theorem BX{k1 k2:Bool}{l1 l2:Addr}{xs ys:Array Value}{Q:Value→Shared→Prop}(hl1:KSq k1 s.heap l1 xs)(hl2:KSq k2 s.heap l2 ys)
  (h:∀h',IsZip h' (s.heap.objs.size+4) (s.heap.objs.size+2) (s.heap.objs.size+3) .none→IsPair h' (s.heap.objs.size+2) (.ref s.heap.objs.size) (.ref (s.heap.objs.size+1))→IsPair h' (s.heap.objs.size+3) .none .none →
   KIt k1 h' s.heap.objs.size l1 0→KIt k2 h' (s.heap.objs.size+1) l2 0→h'.objs.size=s.heap.objs.size+5→(∀c o,s.heap.get? c=some o→h'.get? c=some o)→Q (.ref (s.heap.objs.size+4)) { s with heap:=h' }) :
  wpAny (model prog w) A (call (.type "zip") [.ref l1,.ref l2]) Q E s:=by
 refine callType_new F.called_zip (by decide) (F.typeCall_zip_2 _ _) (F.newCall_zip_2 _ _) (λobj=>F.args_object_init_3 obj _ _) F.entry_zip_new (Hm k1 k2 l1 l2 xs ys) ⟨hl1,hl2,?_⟩
 have z1:(s.heap.push (ix k1 l1)).objs.size=s.heap.objs.size+1:=Heap.size_push ..
 have z2:(zH2 k1 k2 s.heap l1 l2).objs.size=s.heap.objs.size+2:=by rw[Heap.size_push,z1]
 have z3:((zH2 k1 k2 s.heap l1 l2).push { cls:=.type "tuple",data:=.seq #[.ref s.heap.objs.size,.ref (s.heap.push (ix k1 l1)).objs.size] }).objs.size=s.heap.objs.size+3:=by rw[Heap.size_push,z2]
 have z4:(zH4 k1 k2 s.heap l1 l2).objs.size=s.heap.objs.size+4:=by rw[Heap.size_push,z3]
 have z5:(zH5 k1 k2 s.heap l1 l2).objs.size=s.heap.objs.size+5:=by rw[Heap.size_push,z4]
 have g5:(zH5 k1 k2 s.heap l1 l2).get? (zH4 k1 k2 s.heap l1 l2).objs.size=some _:=Heap.get?_push_size _ rfl
 have g4:(zH5 k1 k2 s.heap l1 l2).get? ((zH2 k1 k2 s.heap l1 l2).push { cls:=.type "tuple",data:=.seq #[.ref s.heap.objs.size,.ref (s.heap.push (ix k1 l1)).objs.size] }).objs.size=some _:=Heap.get?_push_of_some _ (Heap.get?_push_size _ rfl)
 have g3:(zH5 k1 k2 s.heap l1 l2).get? (zH2 k1 k2 s.heap l1 l2).objs.size=some _:=Heap.get?_push_of_some _ (Heap.get?_push_of_some _ (Heap.get?_push_size _ rfl))
 have g2:(zH5 k1 k2 s.heap l1 l2).get? (s.heap.push (ix k1 l1)).objs.size=some (ix k2 l2):=Heap.get?_push_of_some _ (Heap.get?_push_of_some _ (Heap.get?_push_of_some _ (Heap.get?_push_size _ rfl)))
 have g1:(zH5 k1 k2 s.heap l1 l2).get? s.heap.objs.size=some (ix k1 l1):=Heap.get?_push_of_some _ (Heap.get?_push_of_some _ (Heap.get?_push_of_some _ (Heap.get?_push_of_some _ (Heap.get?_push_size _ rfl))))
 show _∧_
 rw[z2,z3,z4] at g5;rw[z1,z2] at g3;rw[z3] at g4;rw[z1] at g2;rw[z4]
 exact⟨⟨_,g5,rfl⟩,h _ g5 g3 g4 (KIt.new g1) (KIt.new g2) z5 λc o q =>
  Heap.get?_push_of_some _ (Heap.get?_push_of_some _ (Heap.get?_push_of_some _ (Heap.get?_push_of_some _ (Heap.get?_push_of_some _ q))))⟩
end
def js(K:PySem.W.Frag)(k:Bool)(H:Hp)(a:Addr)(xs:List V):Prop:=match k with
 | true=>SqL K H a xs
 | false=>SqT K H a xs
theorem Inv.ksq{X:Cx}{pins:List (Addr×Obj)}{σ:L2.St}{H:Hp}{s:Shared}{k:Bool}{a:Addr}{xs:List V}(I:Inv X pins σ H s)(h:js X.K k H a xs):∃its:List Value,Vals xs its∧KSq k s.heap a its.toArray∧xs.length≤sizeLine:=by
 cases k with
 | true=>obtain⟨its,r,p,z⟩:=I.list h;exact⟨its,r,p.isList,z⟩
 | false=>obtain⟨its,r,p,z⟩:=I.tuple h;exact⟨its,r,p,z⟩
theorem Inv.vq{X:Cx}{pins:List (Addr×Obj)}{σ:L2.St}{H:Hp}{s:Shared}{k:Bool}{a:Addr}{xs ys:List V}(I:Inv X pins σ H s)(h:js X.K k H a xs)(h':js X.K k H a ys):xs=ys:=by
 cases k with
 | true=>exact I.wm h h'
 | false=>exact I.tZ h h'
def Itz(K:PySem.W.Frag)(k1 k2:Bool)(a b:Addr):It :=
 ⟨λi H=>∃xs ys x y,js K k1 H a xs∧js K k2 H b ys∧xs[i]?=some x∧ys[i]?=some y,
  λi H v H'=>∃p x y,v=.ref p∧H p=none∧H'=upd H p (.tup [x,y])∧(∀xs,js K k1 H a xs→xs[i]?=some x)∧∀ys,js K k2 H b ys→ys[i]?=some y,
  λi H=>∃xs ys,js K k1 H a xs∧js K k2 H b ys∧(xs.length≤i∨ys.length≤i)⟩
theorem iQ{X:Cx}{pins:List (Addr×Obj)}{σ:L2.St}{H:Hp}{s:Shared}{k:Bool}{a c:Addr}{xs:List V}(I:Inv X pins σ H s)(h:js X.K k H a xs)(hf:kP X pins H c):a≠c:=λe=>by
 subst e
 have key:∀o,X.K.lookup a=some o→False:=λo hk=>by
  have hb:=I.ok.mod.kin a o hk
  rcases hf.2.2.2.1 with z|z
  ·exact I.ok.uI a o hb z
  ·exact absurd (Nat.lt_of_lt_of_le (Heap.lt_size hb) (Nat.le_trans I.ok.bsz z)) (Nat.lt_irrefl _)
 cases k with
 | true =>
  rcases h with (h|⟨o,h⟩)|⟨o,its,n,hk,_⟩
  ·rw[hf.1] at h;cases h
  ·rw[hf.1] at h;cases h
  ·exact key o hk
 | false =>
  have h:H a=some (.tup xs):=h
  rw[hf.1] at h;cases h
section
variable{X:Cx}{pins:List (Addr×Obj)}{σ:L2.St}{H:Hp}{s:Shared}{h':Heap}{ch:List Addr}
theorem AE{b:Addr}{u o:HO}{H':Hp}{tr:Addr}(I:Inv X pins σ H s)(k:∀b o,b∉ch→s.heap.get? b=some o→h'.get? b=some o)(hf:∀b∈ch,kP X pins H b)(e:H b=some u)
  (ho:∀c,H c=some (.own b)→H' c=some (.own b)) (ht:∀c xs,H c=some (.tup xs)→H' c=some (.tup xs)):dB X.prog X.w H' h' b u:=by
 refine (I.hok b u e).p3 (λc v hc q=>k c v (λz=>?_) q) ho ht
 have hn:=(hf c z).1
 rcases hc with rfl|hc
 ·rw[hn] at e;cases e
 ·rw[hn] at hc;cases hc
theorem Inv.vt{t':Nat}(I:Inv X pins σ H s)(k:∀b o,b∉ch→s.heap.get? b=some o→h'.get? b=some o)(hf:∀b∈ch,kP X pins H b):Inv X pins σ H { s with heap:=h',toks:=t' }:=by
 refine I.step (g':=s.gens) (d':=s.drawn) (ch:=ch) (λb hb=>⟨(hf b hb).2.2.2.1,(hf b hb).2.1,(hf b hb).2.2.2.2.1,(hf b hb).2.2.2.2.2⟩) (λb o _ _ hc e _=>k b o hc e) (λb o _ _ hc e _=>⟨o.slots,k b o hc e⟩) (λ_ _ _ _ n=>n)
  (λb o hc e=>⟨o,k b o hc e⟩) (λ_ _ e=>e) (λ_ _ _ e=>e) (λb ps e=>⟨#[],by rw[e];simp⟩) (λm hm=>?_) (λb u e=>AE (o:=u) (tr:=b) I k hf e (λ_ q=>q) λ_ _ q=>q) I.bare
 obtain⟨o,es,ep,ho,r⟩:=hm
 exact⟨o,es,ep,k _ o (λz=>(hf _ z).2.1 rfl) ho,r⟩
theorem Inv.vv{o:HO}(I:Inv X pins σ H s)(k:∀b o,b∉ch→s.heap.get? b=some o→h'.get? b=some o)(hf:∀b∈ch,kP X pins H b)(new:dB X.prog X.w (upd H s.heap.objs.size o) h' s.heap.objs.size o) :
  Inv X pins σ (upd H s.heap.objs.size o) { s with heap:=h' }:=by
 have hn:H s.heap.objs.size=none:=I.hok.fresh (Nat.le_refl _)
 have ne:∀{b:Addr}{ob:Obj},s.heap.get? b=some ob→b≠s.heap.objs.size:=λe=>Nat.ne_of_lt (Heap.lt_size e)
 refine I.step (g':=s.gens) (d':=s.drawn) (t':=s.toks) (ch:=ch) (λb hb=>⟨(hf b hb).2.2.2.1,(hf b hb).2.1,(hf b hb).2.2.2.2.1,(hf b hb).2.2.2.2.2⟩) (λb o _ _ hc e _=>k b o hc e) (λb o _ _ hc e _=>⟨o.slots,k b o hc e⟩) (λb ob _ e n=>by rw[aO (ne e)];exact n)
  (λb o hc e=>⟨o,k b o hc e⟩) (λb xs q=>by rw[aO (d0 q hn)];exact q) (λb u xs q=>by rw[aO (d0 q hn)];exact q) (λb ps q=>⟨#[],by rw[aO (d0 q hn),q];simp⟩) (λm hm=>?_) (λb u e=>?_) I.bare
 ·obtain⟨o,es,ep,ho,r⟩:=hm
  exact⟨o,es,ep,k _ o (λz=>(hf _ z).2.1 rfl) ho,r⟩
 ·by_cases hb:b=s.heap.objs.size
  ·subst hb;rw[aM] at e;cases e;exact new
  ·rw[aO hb] at e
   exact AE (o:=u) (tr:=b) I k hf e (λc q=>by rw[aO (d0 q hn)];exact q) λc xs q=>by rw[aO (d0 q hn)];exact q
end
structure ZSt(k1 k2:Bool)(z TI TO i1 i2 l1 l2:Addr)(i:Nat)(h:Heap):Prop where
 z:IsZip h z TI TO .none
 ti:IsPair h TI (.ref i1) (.ref i2)
 to:∃a b,IsPair h TO a b
 one:KIt k1 h i1 l1 i
 two:KIt k2 h i2 l2 i
theorem MK{P:Addr→Prop}{a b c d e:Addr}(h1:P a)(h2:P b)(h3:P c)(h4:P d)(h5:P e):∀x∈[a,b,c,d,e],P x:=by
 simp[h1,h2,h3,h4,h5]
theorem Iw{a b c d e x:Addr}(h:x∈[a,c,d,e]):x∈[a,b,c,d,e]:=by
 simp at h ⊢
 rcases h with h|h|h|h<;>simp[h]
theorem ML{a b c d x:Addr}(h:x∉[a,b,c,d]):x≠a∧x≠b∧x≠c∧x≠d:=by
 simpa using h
theorem Ek {P : Program} {w : World} {K : PySem.W.Frag} {elts : List Expr} {x1 : Nat} {pos : Pos} {k1 k2 : Bool} {z TI TO i1 i2 l1 l2 : Addr} (d1 : TI ≠ TO) (d2 : i1 ≠ i2) :
    Turn P w K (.Tuple elts x1 pos) (Itz K k1 k2 l1 l2) [z, TI, TO, i1, i2] z (ZSt k1 k2 z TI TO i1 i2 l1 l2) := by
  have ap : ∀ {X : Cx} {pins : List (Addr × Obj)} {σ : L2.St} {H : Hp} {s : Shared} {i : Nat} {xs ys : List V}, X.K = K → Inv X pins σ H s → (∀ b ∈ [z, TI, TO, i1, i2], kP X pins H b) → ZSt k1 k2 z TI TO i1 i2 l1 l2 i s.heap → js K k1 H l1 xs → js K k2 H l2 ys → ZipApart z TI TO i1 i2 l1 l2 := by
    intro X pins σ H s i xs ys hK I hf st h1 h2
    subst hK
    obtain ⟨a, b, hto⟩ := st.to
    obtain ⟨o1, e1, q1⟩ := st.one.ob
    obtain ⟨o2, e2, q2⟩ := st.two.ob
    have neP : ∀ {c d : Addr} {o : Obj} {u v : Value} {vs : Array Value}, IsPair s.heap c u v → s.heap.get? d = some o → o.data = .fields vs → c ≠ d := fun {c d o u v vs} hp ho hd e => by
      subst e
      have hp : s.heap.get? c = some { cls := .type "tuple", data := .seq #[u, v] } := hp
      rw [hp] at ho; cases ho; cases hd
    have neZ : ∀ {d : Addr} {l : Addr} {o : Obj} {n : Nat}, s.heap.get? d = some o → o.data = .fields #[.ref l, .int n 0] → d ≠ z := fun {d l o n} ho hd e => by
      subst e
      have hz : s.heap.get? d = some _ := st.z
      rw [hz] at ho; cases ho
      have : (#[Value.none, .bool false, .bool false, .ref TI, .ref TO] : Array Value) = #[.ref l, .int n 0] := by injection hd
      exact absurd (congrArg Array.size this) (by simp)
    have w : ∀ c ∈ [z, TI, TO, i1, i2], l1 ≠ c ∧ l2 ≠ c := fun c hc => ⟨iQ I h1 (hf c hc), iQ I h2 (hf c hc)⟩
    exact { TIz := neP st.ti st.z rfl, TOz := neP hto st.z rfl, i1z := neZ e1 q1, i2z := neZ e2 q2, TITO := d1, TIi1 := neP st.ti e1 q1, TIi2 := neP st.ti e2 q2, TOi1 := neP hto e1 q1, TOi2 := neP hto e2 q2, i12 := d2,
            l1z := (w z (.head _)).1, l1TO := (w TO (.tail _ (.tail _ (.head _)))).1, l1i1 := (w i1 (.tail _ (.tail _ (.tail _ (.head _))))).1, l1i2 := (w i2 (.tail _ (.tail _ (.tail _ (.tail _ (.head _)))))).1, l2z := (w z (.head _)).2, l2TO := (w TO (.tail _ (.tail _ (.head _)))).2, l2i1 := (w i1 (.tail _ (.tail _ (.tail _ (.head _))))).2, l2i2 := (w i2 (.tail _ (.tail _ (.tail _ (.tail _ (.head _)))))).2 }
  refine ⟨by simp, fun i h st => ?_, fun i h h' st k => ?_, ?_, ?_, fun A i s Q E st hq => wpAny_pyIter_zip st.z hq⟩
  · obtain ⟨a, b', hto⟩ := st.to
    obtain ⟨o1, e1, q1⟩ := st.one.ob
    obtain ⟨o2, e2, q2⟩ := st.two.ob
    exact MK ⟨_, st.z, fun v e => by cases e⟩ ⟨_, st.ti, fun v e => by cases e⟩ ⟨_, hto, fun v e => by cases e⟩ ⟨_, e1, fun v e => by rw [q1] at e; cases e⟩ ⟨_, e2, fun v e => by rw [q2] at e; cases e⟩
  · obtain ⟨a, b', hto⟩ := st.to
    exact ⟨k z (.head _) _ st.z, k TI (.tail _ (.head _)) _ st.ti, ⟨a, b', k TO (.tail _ (.tail _ (.head _))) _ hto⟩, st.one.at fun o e => k i1 (.tail _ (.tail _ (.tail _ (.head _)))) o e, st.two.at fun o e => k i2 (.tail _ (.tail _ (.tail _ (.tail _ (.head _))))) o e⟩
  · intro X hP hw hK hc i pins s σ H E I hf st hg
    obtain ⟨xs, ys, x, y, h1, h2, hx, hy⟩ := hg
    have D := ap hK I hf st h1 h2
    subst hP hw hK
    obtain ⟨tw, r1, s1, z1⟩ := I.ksq h1
    obtain ⟨uM, r2, s2, z2⟩ := I.ksq h2
    obtain ⟨u, hu, ru⟩ := r1.get hx
    obtain ⟨v, hv, rv⟩ := r2.get hy
    obtain ⟨a, b', hto⟩ := st.to
    refine vp D st.z st.ti hto st.one st.two s1 s2 (x := u) (y := v) (by simpa using hu) (by simpa using hv) fun h' g1 g2 g3 g4 g5 g6 g7 => ⟨_, rfl, ?_⟩
    refine wpAny_letOwnedTupleGo_zip g1 fun h'' q1 q2 => ?_
    have lt : ∀ {c : Addr} {o : Obj}, s.heap.get? c = some o → c ≠ s.heap.objs.size := fun e => Nat.ne_of_lt (Heap.lt_size e)
    have hTz : s.heap.objs.size ≠ z := (lt st.z).symm
    obtain ⟨o1, e1, _⟩ := st.one.ob
    obtain ⟨o2, e2, _⟩ := st.two.ob
    have new : IsPair h'' s.heap.objs.size u v := q2.extBut _ _ hTz g5
    refine ⟨.ref s.heap.objs.size, upd H s.heap.objs.size (.tup [x, y]), ?_, rfl, ⟨s.heap.objs.size, x, y, rfl, I.hok.fresh (Nat.le_refl _), rfl, fun ws hw => by rw [I.vq hw h1]; exact hx, fun ws hw => by rw [I.vq hw h2]; exact hy⟩, ?_, fun c hcm => ?_⟩
    · refine I.vv (ch := [z, TO, i1, i2]) (fun c o hcn e => ?_) (fun c hcm => hf c (Iw hcm)) ?_
      · have hcn := ML hcn
        exact q2.extBut _ _ hcn.1 (g7 c o hcn.1 hcn.2.1 hcn.2.2.1 hcn.2.2.2 e)
      · exact ⟨by show 2 ≤ sizeLine; decide, [u, v], .cons ru (.cons rv .nil), ⟨_, new, rfl, 0, rfl⟩⟩
    · exact ⟨q1, q2.extBut _ _ D.TIz (g7 TI _ D.TIz D.TITO D.TIi1 D.TIi2 st.ti), ⟨_, _, q2.extBut _ _ D.TOz g2⟩, g3.at fun o e => q2.extBut _ _ D.i1z e, g4.at fun o e => q2.extBut _ _ D.i2z e⟩
    · rw [aO]
      · exact (hf c hcm).1
      · exact MK (P := fun c => c ≠ s.heap.objs.size) (lt st.z) (lt st.ti) (lt hto) (lt e1) (lt e2) c hcm
  · intro X hP hw hK hc i pins s σ H E I hf st hg
    obtain ⟨xs, ys, h1, h2, hle⟩ := hg
    have D := ap hK I hf st h1 h2
    subst hP hw hK
    obtain ⟨tw, r1, s1, z1⟩ := I.ksq h1
    obtain ⟨uM, r2, s2, z2⟩ := I.ksq h2
    obtain ⟨a, b', hto⟩ := st.to
    have l1' := r1.length
    have l2' := r2.length
    refine xi (I.ok.hd hc) D st.z st.ti hto st.one st.two s1 s2 (by
      rcases hle with q | q
      · exact .inl (by simp; lia)
      · exact .inr (by simp; lia)) fun h' g7 => ⟨rfl, I.vt (t' := s.toks) (ch := [z, TO, i1, i2]) (fun c o hcn e => ?_) fun c hcm => hf c (Iw hcm)⟩
    have hcn := ML hcn
    exact g7 c o hcn.1 hcn.2.1 hcn.2.2.1 hcn.2.2.2 e
def MM(K:PySem.W.Frag)(t:TA):TI:=λσ H R=>t σ H λvs H1=>∃a b k1 k2 xs ys,vs=[.ref a,.ref b]∧js K k1 H1 a xs∧js K k2 H1 b ys∧R (Itz K k1 k2 a b) H1
theorem Kx{X:Cx}{elts:List Expr}{x1:Nat}{iy p pos:Pos}{a b:Expr}{t:TA}(hg:Gl X "zip")(hm:X.mg "zip"=none)(ha:PA X [a,b] t)(he:starEach [a,b] X.env=(false,eval a X.env)::starEach [b] X.env)(hpl:(backTo pos (starEach [b] X.env)).any (·.1)=false) :
  PI X (.Tuple elts x1 iy) (.Call (.Name "zip" p) [a,b] [] pos) (MM X.K t):=by
 intro pins s σ H R I h
 refine wpAny_Call_Name_kw (kM I hg hm PyProof.Rows.boot_zip ?_ (by decide) (by decide))
 refine PyProof.Rows.callWith_type1 (thn (ha pos pins s σ H _ I h) λus s1 av=>?_) he hpl
 obtain⟨vs,H1,I1,r1,q1⟩:=av
 obtain⟨c,d,k1,k2,xs,ys,rfl,h1,h2,q⟩:=q1
 obtain⟨u1,u2,rfl,ru1,ru2⟩:=vals2 r1
 cases ru1
 cases ru2
 obtain⟨tw,_,s1',_⟩:=I1.ksq h1
 obtain⟨uM,_,s2',_⟩:=I1.ksq h2
 refine BX s1' s2' λh' g1 g2 g3 g4 g5 g6 g7=>wpAny_pyIter_zip g1 ?_
 have I2:Inv X pins σ H1 { s1 with heap:=h' }:=I1.kept (t':=s1.toks) g7
 refine⟨_,_,_,_,H1,rfl,I2,Ek (k1:=k1) (k2:=k2) (TI:=s1.heap.objs.size+2) (TO:=s1.heap.objs.size+3) (i1:=s1.heap.objs.size) (i2:=s1.heap.objs.size+1) (l1:=c) (l2:=d) (λe=>by have e:s1.heap.objs.size+2=s1.heap.objs.size+3:=e;lia) (λe=>by have e:s1.heap.objs.size=s1.heap.objs.size+1:=e;lia),⟨g1,g2,⟨_,_,g3⟩,g4,g5⟩,λe he=>?_,q⟩
 have:s1.heap.objs.size≤e:=by
  simp only[List.mem_cons,List.not_mem_nil,or_false] at he
  rcases he with rfl|rfl|rfl|rfl|rfl
  ·exact Nat.le_add_right _ _
  ·exact Nat.le_add_right _ _
  ·exact Nat.le_add_right _ _
  ·exact Nat.le_refl _
  ·exact Nat.le_add_right _ _
 exact I1.yc this (I1.hok.fresh this)
end L2
namespace Fw
open PySem PySem.Spec PyProof.Rows L2
theorem xj:∀{ts us:List T}{i:Nat}{t:T},(i4 ts us)[i]?=some t→∃a b,ts[i]?=some a∧us[i]?=some b∧t=.tup [a,b]
 | [],us,i,t,h=>by simp[i4] at h
 | a::ts,[],i,t,h=>by simp[i4] at h
 | a::ts,b::us,0,t,h=>by simp[i4] at h;exact⟨a,b,rfl,rfl,h.symm⟩
 | a::ts,b::us,i+1,t,h=>by
  obtain⟨c,d,h1,h2,h3⟩:=xj (ts:=ts) (us:=us) (i:=i) (t:=t) (by simpa [i4] using h)
  exact⟨c,d,by simpa using h1,by simpa using h2,h3⟩
theorem kc{K:PySem.W.Frag}{F H:Hp}{v:V}{t:T}{ts:List T}(s:aZ F H)(h:Now K F H v t)(e:cP t=some ts):∃a vs k,v=.ref a∧js K k H a vs∧aH K F ts vs∧(k=true↔∃l,t=.lst l):=by
 cases t with
 | lst us=>cases e;obtain⟨a,vs,rfl,q,r⟩:=h.o9;exact⟨a,vs,true,rfl,q,r,by simp⟩
 | tup us=>cases e;obtain⟨a,vs,rfl,q,r⟩:=h.rL;exact⟨a,vs,false,rfl,aZ.i5 s q,r,by simp⟩
 | _=>cases e
theorem vw{X:Cx}{elts:List Expr}{x1:Nat}{iy p pos:Pos}{a b:Expr}{da db:D}(hm:X.mg "zip"=none)(ha:CE X a da)(hb:CE X b db)(hg:Gl X "zip":=by rfl)(hs:starEach [a,b] X.env=(false,eval a X.env)::starEach [b] X.env:=by rfl)(hs2:starEach [b] X.env=(false,eval b X.env)::starEach [] X.env:=by rfl)(hpl:(backTo pos (starEach [b] X.env)).any (·.1)=false:=by rfl) :
  CI X (.Tuple elts x1 iy) (.Call (.Name "zip" p) [a,b] [] pos) (p9 da db) :=
 PI.imp (Kx hg hm (ag ha (ag hb aA hs2) hs) hs hpl) λσ H R0 av=>by
  obtain⟨F,α,e,μ,S,h⟩:=av
  refine Mw ⟨F,α,e,μ,S,(R.wp_bind h).mono (λx μ1 h=>(R.wp_bind h).mono (λy μ2 h v u H1 F1 α1 x1 S1 o1 o2=>?_) λ_ _ h=>h) λ_ _ h=>h⟩
  obtain⟨ts,ht,h⟩:=R.bO (R.wp_bind h)
  obtain⟨us,hu,post⟩:=R.bO (R.wp_bind h)
  obtain⟨t,hr,ht⟩:=Option.bind_eq_some_iff.mp ht
  obtain⟨t2,hr2,hu⟩:=Option.bind_eq_some_iff.mp hu
  obtain⟨a1,vs1,k1,rfl,q1,r1,m1⟩:=kc S1.st.ext (bC S1.st o1 hr) ht
  obtain⟨a2,vs2,k2,rfl,q2,r2,m2⟩:=kc S1.st.ext (bC S1.st o2 hr2) hu
  refine⟨a1,a2,k1,k2,vs1,vs2,rfl,q1,q2,post _ H1 F1 α1 x1 S1 λF2 α2 μ3 H2 s2 p2 S2 same=>?_⟩
  obtain⟨e1,e2⟩:=(show rd μ3 x=rd μ2 x∧rd μ3 y=rd μ2 y from same)
  obtain⟨b1,ws1,j1,g1,n1,l1,m1'⟩:=kc S2.ext (bC S2 (o1.mono s2 p2) (e1.trans hr)) ht
  obtain⟨b2,ws2,j2,g2,n2,l2,m2'⟩:=kc S2.ext (bC S2 (o2.mono s2 p2) (e2.trans hr2)) hu
  cases g1
  cases g2
  have ej1:j1=k1:=by rw[Bool.eq_iff_iff,m1,m1']
  have ej2:j2=k2:=by rw[Bool.eq_iff_iff,m2,m2']
  subst ej1
  subst ej2
  refine⟨λi t hi=>?_,?_⟩
  ·obtain⟨c,d,hc,hd,rfl⟩:=xj hi
   obtain⟨v1,hv1,rv1⟩:=l1.get hc
   obtain⟨v2,hv2,rv2⟩:=l2.get hd
   refine⟨⟨ws1,ws2,v1,v2,n1,n2,hv1,hv2⟩,?_⟩
   rintro z H3 ⟨q,z1,z2,rfl,hq,rfl,f1,f2⟩
   have w1:=f1 ws1 n1
   have w2:=f2 ws2 n2
   rw[hv1] at w1
   rw[hv2] at w2
   cases w1
   cases w2
   have g:b8 F2 H2 (upd F2 q (.tup [v1,v2])) (upd H2 q (.tup [v1,v2])):=b8.new hq
   refine⟨_,g,?_⟩
   rw[Rep]
   exact⟨q,_,rfl,SqT.of aM,aH.mono (g.same S2.ext) _ _ (.gp rv1 (.gp rv2 .kK))⟩
  ·refine⟨ws1,ws2,n1,n2,?_⟩
   have:=l1.length
   have:=l2.length
   show ws1.length≤(i4 ts us).length∨ws2.length≤(i4 ts us).length
   rw[nN]
   lia
def tDO(X:Cx)(o:Option D):TO:=λσ H Q=>∃F α e μ,Sim X.K F α e μ σ H∧(qQ o e μ).wp (λi μ'=>∀H' F' α',Ex F α H F' α' H'→Sim X.K F' α' e μ' σ H'→Q i H') (fG X F α H e)
def CO(X:Cx)(e:Option Expr)(o:Option D):Prop:=PO X e (tDO X o)
theorem PO.imp{X:Cx}{e:Option Expr}{t t':TO}(h:PO X e t)(i:∀σ H Q,t' σ H Q→t σ H Q):PO X e t':=λpins s σ H Q I q=>h pins s σ H Q I (i σ H Q q)
section
variable{X:Cx}{a b:Expr}{da db:D}{pos p2:Pos}
theorem AF:CO X none none:=PO.imp F_ λσ H Q ⟨F,α,e,μ,S,h⟩=>h H F α Ex.refl S
theorem AG(h:CE X a da):CO X (some a) (some da):=PO.imp (Ga h) λσ H Q av=>by
 obtain⟨F,α,e,μ,S,h⟩:=av
 refine⟨F,α,e,μ,S,(R.wp_bind h).mono (λx μ1 h v H1 F1 α1 x1 S1 o1=>?_) λ_ _ h=>h⟩
 obtain⟨i,hi,h⟩:=R.bO (R.wp_bind h)
 obtain⟨t,hr,ht⟩:=Option.bind_eq_some_iff.mp hi
 cases wQ ht
 cases (bC S1.st o1 hr).int
 exact⟨i,rfl,h H1 F1 α1 x1 S1⟩
theorem aH.cut{K:PySem.W.Frag}{F:Hp}{ts:List T}{vs:List V}(h:aH K F ts vs)(lo hi:Option Int):aH K F (oS ts lo hi) (wu vs lo hi):=by
 have e:∀d o,Fw.sIx ts.length d o=HT.sIx vs.length d o:=λd o=>by rw[h.length];cases o<;>rfl
 unfold oS wu
 rw[e,e,h.length]
 exact (h.drop _).take _
theorem Ky{lo hi:Option Expr}{dl dh:Option D}(ha:CE X a da)(hl:CO X lo dl)(hh:CO X hi dh):CE X (.Subscript a (.Slice lo hi none p2) pos) (DC da dl dh) :=
 PE.imp (wt (Ab.or Dc) ha hl hh) λσ H Q av=>by
  obtain⟨F,α,e,μ,S,h⟩:=av
  refine⟨F,α,e,μ,S,(R.wp_bind h).mono (λx μ1 h v H1 F1 α1 x1 S1 o1=>⟨F1,α1,e,μ1,S1,?_⟩) λ_ _ h=>h⟩
  refine (R.wp_bind h).mono (λl μ2 h H2 F2 α2 x2 S2=>⟨F2,α2,e,μ2,S2,?_⟩) λ_ _ h=>h.mono x1
  refine (R.wp_bind h).mono (λr μ3 h H3 F3 α3 x3 S3=>?_) λ_ _ h=>h.mono (x1.trans x2)
  obtain⟨w,h9,post⟩:=R.bO h
  obtain⟨t,w',ht,h,rfl⟩:=jX h9
  have nt:=bC S3.st (o1.mono (x2.trans x3).same (x2.trans x3).pre) ht
  have fin:∀v' H' F',b8 F3 H3 F' H'→Rep X.K F' w' v'→Q v' H':=λv' H' F' g rp=>post v' H' F' α3 (x1.trans (x2.trans (x3.trans (g.ex S3.st.ext)))) (S3.grow g) rp
  cases t with
  | lst ts =>
   cases h
   obtain⟨c,vs,rfl,hq,hl⟩:=nt.o9
   exact .inl ⟨c,vs,rfl,hq,λq hq'=>vh S3.st.ext hq' (hl.cut l r) fin⟩
  | tup ts =>
   have h:(if Fw.sIx ts.length 0 l=0∧Fw.sIx ts.length ts.length r=ts.length then none else some (T.tup (oS ts l r)))=some w':=h
   by_cases hc:Fw.sIx ts.length 0 l=0∧Fw.sIx ts.length ts.length r=ts.length
   ·rw[if_pos hc] at h;cases h
   ·rw[if_neg hc] at h
    cases h
    obtain⟨c,vs,rfl,hq,hl⟩:=nt.rL
    refine .inr ⟨c,vs,rfl,aZ.i5 S3.st.ext hq,?_,λq hq'=>nP S3.st.ext hq' (hl.cut l r) fin⟩
    have e:∀d o,HT.sIx vs.length d o=Fw.sIx ts.length d o:=λd o=>by rw[hl.length];cases o<;>rfl
    rw[e,e,← hl.length]
    exact hc
  | _=>cases h
end
section
variable{X:Cx}{a b c:Expr}{da db dc:D}{pos p p2:Pos}
theorem kg(i:Nat){y:Str}{py iy:Pos}{ik ev:Expr}{dk dv:D}(hk:CE X ik dk)(hv:CE X ev dv)(hN:X.N[i]?=some y:=by rfl)
  (hvs:Vis X.env.scope y:=by first|exact Or.inl rfl|exact Or.inr (Or.inl rfl)|exact Or.inr (Or.inr rfl)) (hd:(y==("__debug__":Str))=false:=by decide) (hcd:(y==("__classdict__":Str))=false:=by decide)
  (ha:∀v,assign (.Subscript (.Name y py) ik iy) X.env v=(do
   let ov ← holding [v] (eval (.Name y py) X.env)
   let iv ← holding [v,ov] (eval ik X.env)
   standAt iy
   holding [v,ov,iv] (setItem ov iv v)
   release [v,ov,iv] []):=by intro _;rfl)
  (hs:swapsWithSole [.Subscript (.Name y py) ik iy] ev pos.line X.env=pure false:=by rfl) (hw:swappedStores [.Subscript (.Name y py) ik iy] ev X.env=pure none:=by rfl)
  (h1:(assignEach [.Subscript (.Name y py) ik iy] X.env).map (·.2)=[assign (.Subscript (.Name y py) ik iy) X.env]:=by rfl) :
  CS X (.Assign [.Subscript (.Name y py) ik iy] ev pos) (dJ i dk dv) :=
 PS.imp (CQ hv (Jl (yb hN hvs hd hcd) hk set_list ha) hs hw h1) λD σ H av=>by
  obtain⟨F,α,e,μ,S,h⟩:=av
  refine⟨F,α,e,μ,S,(bh.toS h).mono (λy μ1 h v H1 F1 α1 x1 S1 o1=>?_) λ_ _ h=>h⟩
  obtain⟨x,hx,h⟩:=bh.lift h
  obtain⟨ov,hov,oo⟩:=S1.sl i x hx
  refine⟨ov,hov,F1,α1,e,μ1,S1,(bh.toS h).mono (λz μ2 h v2 H2 F2 α2 x2 S2 o2=>?_) λ_ _ h=>h.mono x1⟩
  obtain⟨k,hk,h⟩:=bh.lift h
  have h:=h.toS
  have nk:=bC S2.st o2 hk
  cases hz:frz y μ2 with
  | err c μ3=>exact absurd hz (qG y μ2 c μ3)
  | bad=>rw[hz] at h;exact h.elim
  | ok t μ3 =>
   rw[hz] at h
   obtain⟨μ4,ha4,h⟩:=bh.lift h
   obtain⟨F3,s3,n3,S3,r3⟩:=oW S2.st (o1.mono x2.same x2.pre) hz
   cases x with
   | cel j =>
    obtain⟨ad,had,rfl⟩:=oo
    cases k with
    | int ki =>
     cases nk.int
     unfold setAt at ha4
     simp only at ha4
     have hc:∃us jj,μ3[j]?=some (true,.lst us)∧Fw.ixN us.length ki=some jj∧μ4=μ3.set j (true,.lst (us.set jj t)):=by
      split at ha4
      ·rename_i us hjs
       obtain⟨jj,e1,e2⟩:=Option.map_eq_some_iff.mp ha4
       exact⟨us,jj,hjs,e1,e2.symm⟩
      ·cases ha4
     obtain⟨us,jj,hj3,hjj,rfl⟩:=hc
     have ha3:α2[j]?=some ad:=lT x2.pre had
     obtain⟨_,ws,hw,rw'⟩:=(S3.cell j true _ ad hj3 ha3).1 rfl
     have el:=rw'.length
     refine⟨ad,ws,ki,jj,rfl,rfl,hw,by rw[← el];exact hjj,?_⟩
     have x3:Ex F α H F3 α2 H2:=x1.trans (x2.trans (Ex.qV s3 n3))
     exact h σ _ F3 α2 (x3.trans (Ex.put ha3)) ((S2.of s3 (List.prefix_refl _) S3).of (aZ.refl _) (List.prefix_refl _) (yH S3 hj3 ha3 ⟨_,aM,rw'.set jj r3⟩))
    | _=>unfold setAt at ha4;cases ha4
   | val t=>cases k<;>(unfold setAt at ha4;cases ha4)
   | box xs=>cases k<;>(unfold setAt at ha4;cases ha4)
theorem rP{r r':R2}{f g:T→T→Option T}(hs:eK X.K r f)(hs':eK X.K r' g)(hf:∀t u w,f t u=some w→∃k,w=.bl k)(σ:L2.St)(H:Hp)(Q:VK)(h:tD X (kU f g da db dc) σ H Q):yh r r' (tD X da) (tD X db) (tD X dc) σ H Q:=by
 obtain⟨F,α,e,μ,S,h⟩:=h
 refine⟨F,α,e,μ,S,?_⟩
 refine (R.wp_bind h).mono (λx μ1 h v H1 F1 α1 x1 S1 o1=>⟨F1,α1,e,μ1,S1,?_⟩) λ_ _ h=>h
 refine (R.wp_bind h).mono (λy μ2 h v2 H2 F2 α2 x2 S2 o2=>?_) λ_ _ h=>h.mono x1
 obtain⟨w,h9,h⟩:=R.bO (R.wp_bind h)
 obtain⟨t,u,w',ht,hu,hfw,rfl⟩:=qJ h9
 obtain⟨k,rfl⟩:=hf t u w' hfw
 obtain⟨k',e1,h⟩:=R.bO (R.wp_bind h)
 cases e1
 refine hs F2 H2 v v2 t u _ _ S2.st.ext (bC S2.st (o1.mono x2.same x2.pre) ht) (bC S2.st o2 hu) hfw λv' H' F' g1 rp=>?_
 have ev:v'=.bl k:=Rep.iu rp
 subst ev
 have x3:Ex F α H F' α2 H':=x1.trans (x2.trans (g1.ex S2.st.ext))
 have S3:=S2.grow g1
 refine⟨k,rfl,?_⟩
 cases k with
 | false =>
  rw[if_neg (by decide)] at h ⊢
  exact h _ H' F' α2 x3 S3 (Rep.bl' (K:=X.K) (F:=F') false)
 | true =>
  rw[if_pos rfl] at h ⊢
  refine⟨F',α2,e,μ2,S3,(R.wp_bind h).mono (λz μ3 h v3 H3 F3 α3 x4 S4 o4=>?_) λ_ _ h=>h.mono x3⟩
  obtain⟨w,h9,post⟩:=R.bO h
  obtain⟨t2,u2,w2,ht2,hu2,hgw,rfl⟩:=qJ h9
  exact hs' F3 H3 v2 v3 t2 u2 w2 Q S4.st.ext (bC S4.st ((o2.mono (g1.same S2.st.ext) (List.prefix_refl _)).mono x4.same x4.pre) ht2) (bC S4.st o4 hu2) hgw λv' H' F' g rp =>
   post v' H' F' α3 (x3.trans (x4.trans (g.ex S4.st.ext))) (S4.grow g) rp
theorem El(t u w:T)(h:fLe t u=some w):∃k,w=.bl k:=by
 cases t<;>cases u<;>first|(cases h;exact⟨_,rfl⟩)|cases h
theorem rQ(ha:CE X a da)(hb:CE X b db)(hc:CE X c dc)(hm:lastMarks [.LtE,.Lt] [b,c]=false:=by with_unfolding_all rfl):CE X (.Compare a [.LtE,.Lt] [b,c] pos) (kU fLe fLt da db dc) :=
 PE.imp (C6 C4 Ii ha hb hc hm) (rP yU D_ El)
theorem Em{t:TE}{d:D}(h:PT X a (C5 t))(i:∀σ H Q,tD X d σ H Q→t σ H Q):CT X a d:=PT.imp h λσ H Q av=>by
 obtain⟨F,α,e,μ,S,q⟩:=av
 refine i σ H _ ⟨F,α,e,μ,S,q.mono (λx μ1 dH v H1 F1 α1 x1 S1 o1=>?_) λ_ _ h=>h⟩
 obtain⟨k,e1,q⟩:=dH
 subst e1
 exact⟨k,Rep.iu (K:=X.K) (F:=F1) o1,q H1 F1 α1 x1 S1⟩
theorem rR(ha:CE X a da)(hb:CE X b db)(hc:CE X c dc)(hm:lastMarks [.LtE,.LtE] [b,c]=false:=by with_unfolding_all rfl):CT X (.Compare a [.LtE,.LtE] [b,c] pos) (kU fLe fLe da db dc) :=
 Em (C7 C4 C4 ha hb hc hm) (rP yU yU El)
theorem Hn{K:PySem.W.Frag}{F H:Hp}{v:V}{t:T}(h:Now K F H v t):decide (v=.non)=(match t with|.non=>true|_=>false):=by
 cases t with
 | non=>have e:v=.non:=Rep.j4 (K:=K) (F:=F) h;subst e;rfl
 | bl b=>have e:=h.bl;subst e;rfl
 | int b=>have e:=h.int;subst e;rfl
 | str b=>have e:=h.str;subst e;rfl
 | lst ts=>obtain⟨a,vs,rfl,_⟩:=h.o9;rfl
 | tup ts=>obtain⟨a,vs,rfl,_⟩:=h.rL;rfl
 | dct ts=>obtain⟨a,vs,rfl,_⟩:=h;rfl
 | exc c n=>have h:Rep K F (.exc c n) v:=h;rw[Rep] at h;obtain⟨a,rfl,_⟩:=h;rfl
 | dtt fz ts=>obtain⟨a,rfl,_⟩:=h;rfl
def MN:T→T→Option T:=λt u=>match u with
 | .non=>my t
 | _=>none
theorem Ho{K:PySem.W.Frag}:eK K (λx y H Q=>y=.non∧Q (.bl (decide (x=.non))) H) MN:=by
 intro F H v u t t' w Q s hv hu hw q
 cases t' with
 | non =>
  refine⟨Rep.j4 (K:=K) (F:=F) hu,?_⟩
  rw[Hn hv]
  refine q _ H F b8.refl ?_
  cases t<;>(cases hw;exact Rep.bl' _)
 | _=>cases hw
theorem Hq:ah MN da (dC .non)=dUn my da:=by
 funext e μ
 rw[nA,uT]
 cases da e μ with
 | ok x μ1=>rw[R.bw,R.bw,qH,R.bw];cases rd μ1 x<;>rfl
 | err c μ1=>rfl
 | bad=>rfl
theorem En{j}(ha:CE X a da):CT X (.Compare a [.Is] [.Constant .none j p] pos) (dUn my da):=Hq ▸ oY JD Ho (mG _) ha yI
end
section
variable{K:PySem.W.Frag}{F:Hp}
theorem bS.kK:bS K F [] []:=by rw[bS]
theorem bS.gp{k:Key}{t:T}{v:V}{kts:List (Key×T)}{kvs:List (Key×V)}(q:Rep K F t v)(r:bS K F kts kvs):bS K F ((k,t)::kts) ((k,v)::kvs):=by rw[bS];exact⟨v,kvs,rfl,q,r⟩
theorem Eo{p:Key×T}{r:List (Key×T)}{k:Key}(e:p.1=k):j8 (p::r) k=some p.2:=by simp[j8,List.find?_cons,e]
theorem Ep{p:Key×T}{r:List (Key×T)}{k:Key}(e:¬ p.1=k):j8 (p::r) k=j8 r k:=by simp[j8,List.find?_cons,e]
theorem bS.val:∀{kts:List (Key×T)}{kvs:List (Key×V)} (k:Key),bS K F kts kvs→(j8 kts k=none∧mq kvs k=none)∨∃t v,j8 kts k=some t∧mq kvs k=some v∧Rep K F t v
 | [],kvs,k,h=>by rw[bS] at h;subst h;exact .inl ⟨rfl,rfl⟩
 | (k0,t)::kts,kvs,k,h=>by
  rw[bS] at h
  obtain⟨v,oV,rfl,q,r⟩:=h
  by_cases e:k0=k
  ·exact .inr ⟨t,v,Eo (p:=(k0,t)) e,nj (p:=(k0,v)) e,q⟩
  ·rw[Ep (p:=(k0,t)) e,nq (p:=(k0,v)) e]
   exact bS.val k r
theorem bS.any:∀{kts:List (Key×T)}{kvs:List (Key×V)} (k:Key),bS K F kts kvs→(kts.any λkv=>decide (kv.1=k))=(kvs.any λkv=>decide (kv.1=k))
 | [],kvs,k,h=>by rw[bS] at h;subst h;rfl
 | (k0,t)::kts,kvs,k,h=>by
  rw[bS] at h
  obtain⟨v,oV,rfl,q,r⟩:=h
  rw[List.any_cons,List.any_cons,bS.any k r]
theorem bS.yp{t':T}{v':V}(q':Rep K F t' v')(k:Key):∀{kts:List (Key×T)}{kvs:List (Key×V)},bS K F kts kvs→bS K F (kts.map λkv=>if kv.1=k then (kv.1,t') else kv) (kvs.map λkv=>if kv.1=k then (kv.1,v') else kv)
 | [],kvs,h=>by rw[bS] at h;subst h;exact .kK
 | (k0,t)::kts,kvs,h=>by
  rw[bS] at h
  obtain⟨v,oV,rfl,q,r⟩:=h
  rw[List.map_cons,List.map_cons]
  by_cases e:k0=k
  ·simp only[e,if_true]
   exact .gp q' (bS.yp q' k r)
  ·simp only[e,if_false]
   exact .gp q (bS.yp q' k r)
theorem bS.append:∀{kts uts:List (Key×T)}{kvs uvs:List (Key×V)},bS K F kts kvs→bS K F uts uvs→bS K F (kts++uts) (kvs++uvs)
 | [],uts,kvs,uvs,h,g=>by rw[bS] at h;subst h;exact g
 | (k0,t)::kts,uts,kvs,uvs,h,g=>by
  rw[bS] at h
  obtain⟨v,oV,rfl,q,r⟩:=h
  exact .gp q (r.append g)
theorem bS.put{kts:List (Key×T)}{kvs:List (Key×V)}{t:T}{v:V}(h:bS K F kts kvs)(k:Key)(q:Rep K F t v):bS K F (u9 kts k t) (putK kvs k v):=by
 unfold u9 putK
 rw[h.any k]
 by_cases e:(kvs.any λkv=>decide (kv.1=k))=true
 ·rw[if_pos e,if_pos e];exact bS.yp q k h
 ·rw[if_neg e,if_neg e];exact h.append (.gp q .kK)
theorem vx{H:Hp}{v:V}{t:T}{k:Key}(h:Now K F H v t)(e:nO t=some k):v=kV k:=by
 cases t with
 | int i=>cases e;exact h.int
 | str x=>cases e;exact h.str
 | _=>cases e
end
section
variable{X:Cx}{a b c:Expr}{da db dc:D}{pos p p2:Pos}{k:Nat}
theorem rS(hr:eE k X.A):X.A.units+1<cLine:=by have:=hr.units;omega
theorem BY(σ:L2.St)(H:Hp)(Q:VK)(h:tD X (ah rD da db) σ H Q):Il (tD X da) (tD X db) σ H Q:=by
 obtain⟨F,α,e,μ,S,h⟩:=h
 refine⟨F,α,e,μ,S,?_⟩
 refine (R.wp_bind h).mono (λx μ1 h v H1 F1 α1 x1 S1 o1=>⟨F1,α1,e,μ1,S1,?_⟩) λ_ _ h=>h
 refine (R.wp_bind h).mono (λy μ2 h v2 H2 F2 α2 x2 S2 o2=>?_) λ_ _ h=>h.mono x1
 obtain⟨w,h9,post⟩:=R.bO h
 obtain⟨t,u,w',ht,hu,h,rfl⟩:=qJ h9
 have n1:=bC S2.st (o1.mono x2.same x2.pre) ht
 have n2:=bC S2.st o2 hu
 cases t with
 | dct kts =>
  obtain⟨kk,hk,h⟩:=Option.bind_eq_some_iff.mp (show (nO u).bind (λk=>j8 kts k)=some w' from h)
  obtain⟨ad,kvs,rfl,hq,rd⟩:=n1
  have ek:=vx n2 hk
  subst ek
  rcases rd.val kk with ⟨g1,_⟩|⟨t,v,g1,g2,g3⟩
  ·rw[g1] at h;cases h
  ·rw[g1] at h
   cases h
   exact⟨ad,v,rfl,by rw[← g2];exact qD.k hq,post v H2 F2 α2 (x1.trans x2) S2 g3⟩
 | _=>cases u<;>cases h
theorem Hr(hr:eE k X.A)(ha:CE X a da)(hb:CE X b db)(hs:JU b:=by intro _ _;rfl):CE X (.Subscript a b pos) (ah rD da db):=PE.imp (Gi (rS hr) ha hb hs) BY
theorem BZ(σ:L2.St)(H:Hp)(Q:VK)(h:tD X (ah uq da db) σ H Q):Ah (tD X da) (tD X db) σ H Q:=by
 obtain⟨F,α,e,μ,S,h⟩:=h
 refine⟨F,α,e,μ,S,?_⟩
 refine (R.wp_bind h).mono (λx μ1 h v H1 F1 α1 x1 S1 o1=>⟨F1,α1,e,μ1,S1,?_⟩) λ_ _ h=>h
 refine (R.wp_bind h).mono (λy μ2 h v2 H2 F2 α2 x2 S2 o2=>?_) λ_ _ h=>h.mono x1
 obtain⟨w,h9,post⟩:=R.bO h
 obtain⟨u,t,w',hu,ht,h,rfl⟩:=qJ h9
 have n1:=bC S2.st o2 ht
 have n2:=bC S2.st (o1.mono x2.same x2.pre) hu
 cases t with
 | dct kts =>
  have h:(nO u).map (λk=>T.bl (!(j8 kts k).isSome))=some w':=by cases u<;>exact h
  obtain⟨kk,hk,rfl⟩:=Option.map_eq_some_iff.mp h
  obtain⟨ad,kvs,rfl,hq,rd⟩:=n1
  have ek:=vx n2 hk
  subst ek
  refine⟨ad,mq kvs kk,rfl,qD.k hq,?_⟩
  have e1:(j8 kts kk).isSome=(mq kvs kk).isSome:=by
   rcases rd.val kk with ⟨g1,g2⟩|⟨t,v,g1,g2,g3⟩<;>rw[g1,g2]<;>rfl
  rw[← e1]
  exact post _ H2 F2 α2 (x1.trans x2) S2 (Rep.bl' (K:=X.K) (F:=F2) _)
 | _=>cases u<;>cases h
theorem AH(hr:eE k X.A)(i:Nat){y:Str}{py iy:Pos}{ik ev:Expr}{dk dv:D}(hk:CE X ik dk)(hv:CE X ev dv)(hN:X.N[i]?=some y:=by rfl)
  (hvs:Vis X.env.scope y:=by first|exact Or.inl rfl|exact Or.inr (Or.inl rfl)|exact Or.inr (Or.inr rfl)) (hd:(y==("__debug__":Str))=false:=by decide) (hcd:(y==("__classdict__":Str))=false:=by decide)
  (hs:swapsWith ev (some (.Subscript (.Name y py) ik iy)) pos.line X.env=pure false:=by rfl) :
  CS X (.Assign [.Subscript (.Name y py) ik iy] ev pos) (pT i dk dv) :=
 PS.imp (Gj (rS hr) (yb hN hvs hd hcd) hk hv hs) λD σ H av=>by
  obtain⟨F,α,e,μ,S,h⟩:=av
  refine⟨F,α,e,μ,S,(bh.toS h).mono (λy μ1 h v H1 F1 α1 x1 S1 o1=>?_) λ_ _ h=>h⟩
  obtain⟨x,hx,h⟩:=bh.lift h
  obtain⟨ov,hov,oo⟩:=S1.sl i x hx
  refine⟨ov,hov,F1,α1,e,μ1,S1,(bh.toS h).mono (λz μ2 h v2 H2 F2 α2 x2 S2 o2=>?_) λ_ _ h=>h.mono x1⟩
  obtain⟨k,hk,h⟩:=bh.lift h
  have h:=h.toS
  have nk:=bC S2.st o2 hk
  cases hz:frz y μ2 with
  | err c μ3=>exact absurd hz (qG y μ2 c μ3)
  | bad=>rw[hz] at h;exact h.elim
  | ok t μ3 =>
   rw[hz] at h
   obtain⟨μ4,ha4,h⟩:=bh.lift h
   obtain⟨F3,s3,n3,S3,r3⟩:=oW S2.st (o1.mono x2.same x2.pre) hz
   cases x with
   | cel j =>
    obtain⟨ad,had,rfl⟩:=oo
    unfold mM at ha4
    simp only at ha4
    have hc:∃kts kk,μ3[j]?=some (true,.dct kts)∧nO k=some kk∧kts.length<szL∧μ4=μ3.set j (true,.dct (u9 kts kk t)):=by
     split at ha4
     ·rename_i us hjs
      obtain⟨kk,e1,e2⟩:=Option.bind_eq_some_iff.mp ha4
      by_cases hl:us.length<szL
      ·rw[if_pos hl] at e2
       cases e2
       exact⟨us,kk,hjs,e1,hl,rfl⟩
      ·rw[if_neg hl] at e2;cases e2
     ·cases ha4
    obtain⟨kts,kk,hj3,hkk,hl,rfl⟩:=hc
    have ha3:α2[j]?=some ad:=lT x2.pre had
    obtain⟨_,kvs,hw,rw'⟩:=(S3.cell j true _ ad hj3 ha3).1 rfl
    have el:=rw'.length
    have ek:=vx nk hkk
    subst ek
    refine⟨ad,_,rfl,yq.k hw (by rw[vg] at hl;omega),?_⟩
    have x3:Ex F α H F3 α2 H2:=x1.trans (x2.trans (Ex.qV s3 n3))
    exact h σ _ F3 α2 (x3.trans (Ex.put ha3)) ((S2.of s3 (List.prefix_refl _) S3).of (aZ.refl _) (List.prefix_refl _) (yH S3 hj3 ha3 ⟨_,aM,rw'.put kk r3⟩))
   | val t=>unfold mM at ha4;cases ha4
   | box xs=>unfold mM at ha4;cases ha4
end
end Fw
namespace L2
open PySem PySem.Spec PyProof.Rows
theorem Iy{P:Program}{w:World}{k:Key}{u:Value}(h:(dG P w).is k u=true):RelV (kV k) u:=by
 rcases cU (show qw k u=true from h) with ⟨i,t,rfl,rfl⟩|⟨x,t,rfl,rfl⟩
 ·exact⟨t,rfl⟩
 ·exact⟨t,rfl⟩
theorem KV.get{kvs:List (Key×V)}{vs:List (Key×Value)}(r:KV kvs vs){i:Nat}{p:Key×V}(h:kvs[i]?=some p):∃u,vs[i]?=some (p.1,u)∧RelV p.2 u:=by
 unfold KV at r
 induction r generalizing i with
 | nil=>simp at h
 | @cons a b as bs h1 t ih =>
  cases i with
  | zero =>
   simp at h
   subst h
   refine⟨b.2,?_,h1.2⟩
   rw[h1.1]
   rfl
  | succ i=>simpa using ih (by simpa using h)
def Itd(d:Addr)(n:Nat):It :=
 ⟨λi H=>∃kvs p,H d=some (.dK kvs)∧kvs.length=n∧kvs[i]?=some p,
  λi H v H'=>∃q p,v=.ref q∧H q=none∧H'=upd H q (.tup [kV p.1,p.2])∧∀kvs,H d=some (.dK kvs)→kvs[i]?=some p,
  λi H=>∃kvs,H d=some (.dK kvs)∧kvs.length=n∧n≤i⟩
theorem yY{P:Program}{w:World}{K:PySem.W.Frag}{elts:List Expr}{x1:Nat}{pos:Pos}{it d:Addr}{n:Nat} :
  Turn P w K (.Tuple elts x1 pos) (Itd d n) [it] it (λi h=>∃ok ov,IsItemIter h it d i n n ok ov):=by
 refine⟨by simp,λi h ⟨ok,ov,st⟩ b hb=>?_,λi h h' ⟨ok,ov,st⟩ k=>⟨ok,ov,k it (by simp) _ st⟩,?_,?_,λA i s Q E ⟨ok,ov,st⟩ hq=>?_⟩
 ·simp at hb;subst hb
  exact⟨_,st,λv e=>by cases e⟩
 ·intro X hP hw hK hc i pins s σ H E I hf st hg
  obtain⟨kvs,p,hd,hn,hp⟩:=hg
  obtain⟨ok,ov,st⟩:=st
  subst hP hw hK
  obtain⟨z,hS,vs,rel,dd⟩:=wy I.hok (.inl hd)
  have hl:=rel.length
  obtain⟨u,hu,ru⟩:=rel.get hp
  have en:n=vs.length:=by lia
  rw[en] at st
  refine wpAny_pyNext_items_item st dd hu λkey h' hk OE ht hz MO=>⟨_,rfl,wpAny_letOwnedTupleGo_items OE λh'' hit hs=>?_⟩
  have hne:it≠s.heap.objs.size:=Nat.ne_of_lt (Heap.lt_size st)
  have ht2:h''.get? s.heap.objs.size=some { cls:=.type "tuple",data:=.seq #[key,u] }:=hs.extBut _ _ hne.symm ht
  refine⟨.ref s.heap.objs.size,upd H s.heap.objs.size (.tup [kV p.1,p.2]),?_,rfl,⟨s.heap.objs.size,p,rfl,I.hok.fresh (Nat.le_refl _),rfl,λws hw=>by rw[hd] at hw;cases hw;exact hp⟩,⟨_,_,by rw[en];exact hit⟩,λc hcm=>?_⟩
  ·refine I.vv (ch:=[it]) (λc o hcn e=>?_) (λc hcm=>hf c hcm) ?_
   ·simp at hcn
    exact hs.extBut _ _ hcn (MO c o hcn e)
   ·exact⟨by show 2≤sizeLine;decide,[key,u],.cons (Iy hk) (.cons ru .nil),⟨_,ht2,rfl,0,rfl⟩⟩
  ·simp at hcm
   subst hcm
   rw[aO hne]
   exact (hf c (by simp)).1
 ·intro X hP hw hK hc i pins s σ H E I hf st hg
  obtain⟨kvs,hd,hn,hle⟩:=hg
  obtain⟨ok,ov,st⟩:=st
  subst hP hw hK
  obtain⟨z,hS,vs,rel,dd⟩:=wy I.hok (.inl hd)
  have hl:=rel.length
  have en:n=vs.length:=by lia
  rw[en] at st
  refine wpAny_pyNext_items_end (I.ok.hd hc) st dd (List.getElem?_eq_none (by lia)) λh' hx=>⟨rfl,I.vt (t':=s.toks) (ch:=[it]) (λc o hcn e=>?_) λc hcm=>hf c hcm⟩
  simp at hcn
  exact hx c o hcn e
 ·exact PySem.W.kcp_self st hq
def Hs(tl:TE):TI:=λσ H R=>tl σ H λx H1=>∃d kvs,x=.ref d∧H1 d=some (.dK kvs)∧R (Itd d kvs.length) H1
theorem Er{X:Cx}{elts:List Expr}{x1:Nat}{iy apos pos:Pos}{o:Expr}{tl:TE}(ho:PE X o tl)(ni:attributeBase o "items" X.env (eval o X.env)=eval o X.env)(qC:(apos.endLine==pos.line)=true) :
  PI X (.Tuple elts x1 iy) (.Call (.Attribute o "items" apos) [] [] pos) (Hs tl):=by
 intro pins s σ H R I h
 refine wpAny_Call_method (T:="dict") (id:="dict.items") ni rfl qC PySem.F.plainAttrs_dict PySem.F.slot_dict_items PySem.F.type_dict_items (thn (ho pins s σ H _ I h) λv s1 av=>?_)
 obtain⟨x,H1,I1,r1,q1⟩:=av
 obtain⟨d,kvs,rfl,hd,q⟩:=q1
 cases r1
 obtain⟨z,hS,vs,rel,dd⟩:=wy I1.hok (.inl hd)
 have hl:=rel.length
 refine⟨dd.dictOf.typeIs,dd.dictOf.mapOf.noDict,?_⟩
 show wpAny _ _ (callWith pos (.builtin "dict.items") [.ref d] [] []) _ _ s1
 refine method_meetsIn PySem.F.slot_dict_items PySem.F.entry_dict_items rfl (PySem.evalArgs_none ⟨rfl,dd.dictOf.typeIs,PySem.F.args_dict_items_1 _,_,meets_dict_items (dG X.prog X.w) d hS,⟨vs,dd.dictOf⟩,?_⟩)
 refine wpAny_pyIter_items (d:=d) (kvs:=vs) (ep:=vs.length) ⟨_,Heap.get?_push_size _ rfl,rfl,rfl⟩ (dd.push _) ?_
 have I2:Inv X pins σ H1 { s1 with heap:=(s1.heap.push { cls:=.type "dict_items",data:=.fields #[.ref d] }).push { cls:=.type "dict_itemiterator",data:=.fields #[.none,.bool false,.ref d,.int 0 0,.int vs.length 0,.int vs.length 0,.none,.none] } } :=
  I1.kept (t':=s1.toks) λb o e=>Heap.get?_push_of_some _ (Heap.get?_push_of_some _ e)
 refine⟨_,[_],_,Itd d kvs.length,H1,rfl,I2,yY,⟨.none,.none,by rw[hl];exact Heap.get?_push_size _ rfl⟩,λb hb=>?_,q⟩
 have e:s1.heap.objs.size≤b:=by
  simp at hb
  subst hb
  exact Nat.le_succ _
 exact I1.yc e (I1.hok.fresh e)
theorem B0{P:Program}{w:World}{kvs:List (Key×V)}{vs:List (Key×Value)}(r:KV kvs vs){acc:List Value}(hl:acc.length=vs.length)(h:∀(i:Nat) (v:Value),acc[i]?=some v→∃(k:Key) (x:Value),vs[i]?=some (k,x)∧(dG P w).is k v=true):Vals (kvs.map λp=>kV p.1) acc:=by
 unfold KV at r
 induction r generalizing acc with
 | nil=>cases acc with
  | nil=>exact .nil
  | cons a l=>simp at hl
 | @cons p q ps qs h1 t ih =>
  cases acc with
  | nil=>simp at hl
  | cons a l =>
   obtain⟨k,x,e,hk⟩:=h 0 a rfl
   simp at e
   refine .cons ?_ (ih (by simpa using hl) λi v e=>by simpa using h (i+1) v (by simpa using e))
   have:p.1=k:=by rw[h1.1,e]
   show RelV (kV p.1) a
   rw[this]
   exact Iy hk
theorem yZ{X:Cx}(hc:X.calm=true):fF X (.type "list") (λxs H Q=>∃d kvs,xs=[.ref d]∧H d=some (.dK kvs)∧∀l,H l=none→Q (.ref l) (upd H l (.lst (kvs.map λp=>kV p.1)))):=by
 intro pins s σ H xs us Q I r h
 obtain⟨d,kvs,rfl,hd,q⟩:=h
 obtain⟨u,rfl,ru⟩:=vals1 r
 cases ru
 obtain⟨z,hS,vs,rel,dd⟩:=wy I.hok (.inl hd)
 have hl:=rel.length
 refine PySem.W.kdl_call (PySem.W.kdl_dict (knd:=dG X.prog X.w) (kvs:=vs) (ep:=vs.length) hS) (I.ok.hd hc) dd (by lia) λh' tk Ht c' hk hD Hu=>?_
 have hv:Vals (kvs.map λp=>kV p.1) Ht.toList:=B0 rel (by rw[Array.length_toList];exact Hu.1) λj v e=>Hu.2 j v (by rw[← Array.getElem?_toList];exact e)
 exact⟨.ref s.heap.objs.size,_,I.laid (a:=s.heap.objs.size) (o:=.lst (kvs.map λp=>kV p.1)) (h':=h') (t':=tk) hk (Nat.le_refl _) ⟨by rw[List.length_map];exact z,Ht.toList,c',hv,hD⟩,rfl,q _ I.fresh⟩
end L2
namespace Fw
open PySem PySem.Spec PyProof.Rows L2
section
variable{K:PySem.W.Frag}{F:Hp}
theorem AI(k:Key):Rep K F (wK k) (kV k):=by
 cases k with
 | inl i=>exact Rep.iC i
 | inr x=>exact Rep.GQ x
theorem bS.get:∀{kts:List (Key×T)}{kvs:List (Key×V)}{i:Nat}{p:Key×T},bS K F kts kvs→kts[i]?=some p→∃v,kvs[i]?=some (p.1,v)∧Rep K F p.2 v
 | [],_,_,_,_,e=>by simp at e
 | (k,t)::kts,kvs,0,p,h,e=>by
  rw[bS] at h
  obtain⟨v,oV,rfl,q,_⟩:=h
  simp at e;subst e
  exact⟨v,rfl,q⟩
 | (k,t)::kts,kvs,i+1,p,h,e=>by
  rw[bS] at h
  obtain⟨v,oV,rfl,q,r⟩:=h
  obtain⟨v',h1,h2⟩:=bS.get (i:=i) r (by simpa using e)
  exact⟨v',by simpa using h1,h2⟩
theorem bS.keys:∀{kts:List (Key×T)}{kvs:List (Key×V)},bS K F kts kvs→aH K F (kts.map λp=>wK p.1) (kvs.map λp=>kV p.1)
 | [],kvs,h=>by rw[bS] at h;subst h;exact .kK
 | (k,t)::kts,kvs,h=>by
  rw[bS] at h
  obtain⟨v,oV,rfl,q,r⟩:=h
  exact .gp (AI k) r.keys
end
section
variable{X:Cx}{a b:Expr}{da db:D}{pos p:Pos}
theorem rT{elts:List Expr}{x1:Nat}{iy apos iz:Pos}(ha:CE X a da)(ni:attributeBase a "items" X.env (eval a X.env)=eval a X.env:=by rfl)(qC:(apos.endLine==iz.line)=true:=by rfl) :
  CI X (.Tuple elts x1 iy) (.Call (.Attribute a "items" apos) [] [] iz) (j9 da) :=
 PI.imp (Er ha ni qC) λσ H R0 av=>by
  obtain⟨F,α,e,μ,S,h⟩:=av
  refine⟨F,α,e,μ,S,(R.wp_bind h).mono (λx μ1 h v H1 F1 α1 x1 S1 o1=>?_) λ_ _ h=>h⟩
  obtain⟨kts,ht,post⟩:=R.bO (R.wp_bind h)
  obtain⟨t,hr,ht⟩:=Option.bind_eq_some_iff.mp ht
  have n1:=bC S1.st o1 hr
  cases t with
  | dct us =>
   cases ht
   obtain⟨d,kvs,rfl,hq,hl⟩:=n1
   have hlen:=hl.length
   refine⟨d,kvs,rfl,hq,post _ H1 F1 α1 x1 S1 λF2 α2 μ2 H2 s2 p2 S2 same=>?_⟩
   obtain⟨d',oV,e1,hq2,hl2⟩:=bC S2 (o1.mono s2 p2) ((show rd μ2 x=rd μ1 x from same).trans hr)
   cases e1
   have Iz:=hl2.length
   refine⟨λi t hi=>?_,⟨oV,hq2,by lia,?_⟩⟩
   ·unfold eR at hi
    rw[List.getElem?_map] at hi
    obtain⟨p,hp,rfl⟩:=Option.map_eq_some_iff.mp hi
    obtain⟨v,hv,rv⟩:=hl2.get hp
    refine⟨⟨oV,(p.1,v),hq2,by lia,hv⟩,?_⟩
    rintro z H3 ⟨q,p',rfl,hq',rfl,f⟩
    have w1:=f oV hq2
    rw[hv] at w1
    cases w1
    have g:b8 F2 H2 (upd F2 q (.tup [kV p.1,v])) (upd H2 q (.tup [kV p.1,v])):=b8.new hq'
    refine⟨_,g,?_⟩
    rw[Rep]
    exact⟨q,_,rfl,SqT.of aM,.gp (AI p.1) (.gp (Rep.mono (g.same S2.ext) _ _ rv) .kK)⟩
   ·show kvs.length≤(eR kts).length
    unfold eR
    rw[List.length_map]
    lia
  | _=>cases ht
theorem Es(hm:X.mg "list"=none)(ha:CE X a da)(hc:X.calm=true:=by rfl)(hg:Gl X "list":=by rfl)(hs1:starEach [a] X.env=(false,eval a X.env)::starEach [] X.env:=by rfl)(hpl:(backTo pos (starEach [] X.env)).any (·.1)=false:=by rfl) :
  CF X (.Call (.Name "list" p) [a] [] pos) (dUn Am da):=Kh (yZ hc) (by
 intro F H v t w Q s hv hw q
 cases t with
 | dct ts =>
  cases hw
  obtain⟨a,vs,rfl,hq,hl⟩:=hv
  exact⟨a,vs,rfl,hq,λl hp=>q l _ hp ⟨_,aM,hl.keys⟩⟩
 | _=>cases hw) hm (by decide +kernel) ha hg (by decide) (by decide) hs1 hpl
end
section
variable{X:Cx}{a b:Expr}{da db:D}{pos p:Pos}{k:Nat}
theorem Et{t:TE}{d:D}(h:PT X a (tB t))(i:∀σ H Q,tD X d σ H Q→t σ H Q):CT X a d:=PT.imp h λσ H Q av=>by
 obtain⟨F,α,e,μ,S,q⟩:=av
 refine i σ H _ ⟨F,α,e,μ,S,q.mono (λx μ1 dH v H1 F1 α1 x1 S1 o1=>?_) λ_ _ h=>h⟩
 obtain⟨k,e1,q⟩:=dH
 subst e1
 exact⟨k,Rep.iu (K:=X.K) (F:=F1) o1,q H1 F1 α1 x1 S1⟩
theorem Hv(hr:eE k X.A)(ha:CE X a da)(hb:CE X b db)(hm:behindInMarks .NotIn b=false:=by with_unfolding_all rfl):CT X (.Compare a [.NotIn] [b] pos) (ah uq da db):=Et (Ja (Bn (rS hr) ha hb) hm) BZ
end
end Fw
namespace L2
open PySem PySem.Spec PyProof.Rows
open AutoSeq1 (wpAny_loadPart')
theorem Eu{prog:Program}{w:World}{A:Around}{k:Bool}(hh:A.handled=none)(it l:Addr)(hne:l≠it)(items:Array Value) :
  Draws prog w A it [it,l] items.size (λi v=>items[i]?=some v) (λi h=>KIt k h it l i∧KSq k h l items) where
 live:=λ_ _ st=>by obtain⟨o,ho,_⟩:=st.1.ob;exact⟨o,ho⟩
 frame:=λ_ _ _ st hk=>⟨st.1.at λo e=>hk it (by simp) o e,st.2.at λo e=>hk l (by simp) o e⟩
 item:=λi s Q E hi st hQ=>kb st.1 st.2 (x:=items[i]) (by simp[hi]) λh' OF hs'=>hQ _ h' s.toks (by simp[hi]) ⟨OF,st.2.at λo e=>hs'.extBut _ _ hne e⟩ hs'
 done:=λs Q E st hE=>o_ hh st.1 st.2 (by simp) hE
noncomputable abbrev eH (k : Bool) (h : Heap) (l : Addr) : Heap := (h.push (ix k l)).push { cls := .type "enumerate", data := .fields #[.none, .bool false, .ref h.objs.size, rawInt 0, .none, .none] }
set_option maxHeartbeats 4000000 in
theorem B1(l:Addr)(items:Array Value)(n:Nat)(dct:Option Addr)(sl:Array (Option Value)) :
  Meets (Builtin.«enumerate.__new__» ⟨[.type "enumerate",.ref l],[]⟩) (λ_ R s=>s.heap.get? l=some { cls:=.type "tuple",dict:=dct,data:=.seq items n,slots:=sl } ∧
   R (.ok (.ret (.ref (s.heap.push (ix false l)).objs.size))) { s with heap:=eH false s.heap l }) :=
 .of_wp λprog w A R s h=>by
  obtain⟨hp,g,d,tk,os⟩:=s
  obtain⟨hl,h⟩:=h
  have tq:=sub_enumerate
  have hT:Heap.IsTuple (Shared.heap ⟨hp,g,d,tk,os⟩) l items:=⟨_,hl,rfl,n,rfl⟩
  wp_walk using wpAny_loadPart' hl
  refine wpAny_stack_any λst=>wpAny_pure ?_
  split
  ·rename_i c _ _ _ _ _
   cases (c==Value.type "enumerate")
   ·(wp_walk using wpAny_loadPart' hl,wpAny_pyIter_tuple hT);exact⟨_,rfl,h⟩
   ·(wp_walk using wpAny_loadPart' hl,wpAny_pyIter_tuple hT);exact⟨_,rfl,h⟩
  ·(wp_walk using wpAny_loadPart' hl,wpAny_pyIter_tuple hT);exact⟨_,rfl,h⟩
section
variable{prog:Program}{w:World}{A:Around}{E:Value→Shared→Prop}{s:Shared}
theorem y9{k:Bool}{l:Addr}{xs:Array Value}{Q:Value→Shared→Prop}(hl:KSq k s.heap l xs)
  (h:∀h',IsEnum h' (s.heap.objs.size+1) s.heap.objs.size 0 .none→KIt k h' s.heap.objs.size l 0→h'.objs.size=s.heap.objs.size+2→(∀c o,s.heap.get? c=some o→h'.get? c=some o)→Q (.ref (s.heap.objs.size+1)) { s with heap:=h' }) :
  wpAny (model prog w) A (call (.type "enumerate") [.ref l]) Q E s:=by
 cases k with
 | true=>exact call_enumerate_list hl h
 | false =>
  obtain⟨⟨c,dct,dt,sl⟩,hg,hc,n,hd⟩:=hl
  simp only at hc hd
  subst hc hd
  refine callType_new F.called_enumerate (by decide) (F.typeCall_enumerate_1 _) (F.newCall_enumerate_1 _) (λobj=>F.args_object_init_2 obj _) F.entry_enumerate_new (B1 l xs n dct sl) ⟨hg,?_⟩
  have z1:(s.heap.push (ix false l)).objs.size=s.heap.objs.size+1:=Heap.size_push ..
  have g2:(eH false s.heap l).get? (s.heap.push (ix false l)).objs.size=some _:=Heap.get?_push_size _ rfl
  have g1:(eH false s.heap l).get? s.heap.objs.size=some (ix false l):=Heap.get?_push_of_some _ (Heap.get?_push_size _ rfl)
  show _∧_
  rw[z1] at g2
  rw[z1]
  exact⟨⟨_,g2,rfl⟩,h _ g2 (KIt.new g1) (by rw[Heap.size_push,z1]) λc o q=>Heap.get?_push_of_some _ (Heap.get?_push_of_some _ q)⟩
end
def Ite(K:PySem.W.Frag)(k:Bool)(a:Addr):It :=
 ⟨λi H=>∃xs x,js K k H a xs∧xs[i]?=some x,
  λi H v H'=>∃p x,v=.ref p∧H p=none∧H'=upd H p (.tup [.int (i:Int),x])∧∀xs,js K k H a xs→xs[i]?=some x,
  λi H=>∃xs,js K k H a xs∧xs.length=i⟩
structure ESt(k:Bool)(z i1 l1:Addr)(i:Nat)(h:Heap):Prop where
 z:∃old,IsEnum h z i1 (i:Int) old
 one:KIt k h i1 l1 i
theorem B3{P:Program}{w:World}{K:PySem.W.Frag}{elts:List Expr}{x1:Nat}{pos:Pos}{k:Bool}{z i1 l1:Addr}(d:z≠i1) :
  Turn P w K (.Tuple elts x1 pos) (Ite K k l1) [z,i1] z (ESt k z i1 l1):=by
 refine⟨by simp,λi h st b hb=>?_,λi h h' st k'=>?_,?_,?_,λA i s Q E st hq=>?_⟩
 ·obtain⟨old,hz⟩:=st.z
  obtain⟨o1,e1,q1⟩:=st.one.ob
  simp only[List.mem_cons,List.not_mem_nil,or_false] at hb
  rcases hb with rfl|rfl
  ·exact⟨_,hz,λv e=>by cases e⟩
  ·exact⟨_,e1,λv e=>by rw[q1] at e;cases e⟩
 ·obtain⟨old,hz⟩:=st.z
  exact⟨⟨old,k' z (by simp) _ hz⟩,st.one.at λo e=>k' i1 (by simp) o e⟩
 ·intro X hP hw hK hc i pins s σ H E I hf st hg
  obtain⟨xs,x,h1,hx⟩:=hg
  subst hP hw hK
  obtain⟨tw,r1,s1,z1⟩:=I.ksq h1
  obtain⟨u,hu,ru⟩:=r1.get hx
  obtain⟨old,hz⟩:=st.z
  have hli:l1≠i1:=iQ I h1 (hf i1 (by simp))
  have hlz:l1≠z:=iQ I h1 (hf z (by simp))
  obtain⟨o1,e1,_⟩:=st.one.ob
  have hlt:i<tw.toArray.size:=by
   have:=(List.getElem?_eq_some_iff.mp hu).1
   simpa using this
  have hne:z∉[i1,l1]:=by
   simp only[List.mem_cons,List.not_mem_nil,or_false,not_or]
   exact⟨d,λe=>hlz e.symm⟩
  refine wpAny_pyNext_enum_itemD (Eu (k:=k) (A:=X.A.in1) (I.ok.hd hc) i1 l1 hli tw.toArray) hz ⟨st.one,s1⟩ hlt d hne λy h' tk hy g1 g2 g3 g4 g5=>⟨_,rfl,?_⟩
  have ey:y=u:=by
   have hy:tw[i]?=some y:=by simpa using hy
   rw[hu] at hy
   exact (Option.some.inj hy).symm
  subst ey
  refine wpAny_letOwnedTupleGo_enum g1 λh'' q1 q2=>?_
  have lt:∀{c:Addr}{o:Obj},s.heap.get? c=some o→c≠s.heap.objs.size:=λe=>Nat.ne_of_lt (Heap.lt_size e)
  have hTz:s.heap.objs.size≠z:=(lt hz).symm
  have new:h''.get? s.heap.objs.size=some { cls:=.type "tuple",data:=.seq #[.int i tk,y] }:=q2.extBut _ _ hTz g3
  refine⟨.ref s.heap.objs.size,upd H s.heap.objs.size (.tup [.int (i:Int),x]),?_,rfl,⟨s.heap.objs.size,x,rfl,I.hok.fresh (Nat.le_refl _),rfl,λws hw=>by rw[I.vq hw h1];exact hx⟩,?_,λc hcm=>?_⟩
  ·refine (I.vv (ch:=[z,i1]) (h':=h'') (λc o hcn e=>?_) (λc hcm=>hf c hcm) ?_).tok _
   ·simp at hcn
    exact q2.extBut _ _ hcn.1 (g5 c o hcn.1 hcn.2 e)
   ·exact⟨by show 2≤sizeLine;decide,[.int i tk,y],.cons ⟨tk,rfl⟩ (.cons ru .nil),⟨_,new,rfl,0,rfl⟩⟩
  ·exact⟨⟨_,by simpa using q1⟩,g2.1.at λo e=>q2.extBut _ _ d.symm e⟩
  ·rw[aO]
   ·exact (hf c hcm).1
   ·simp only[List.mem_cons,List.not_mem_nil,or_false] at hcm
    rcases hcm with rfl|rfl
    ·exact lt hz
    ·exact lt e1
 ·intro X hP hw hK hc i pins s σ H E I hf st hg
  obtain⟨xs,h1,hle⟩:=hg
  subst hP hw hK
  obtain⟨tw,r1,s1,z1⟩:=I.ksq h1
  obtain⟨old,hz⟩:=st.z
  have hli:l1≠i1:=iQ I h1 (hf i1 (by simp))
  have l1':=r1.length
  have en:tw.toArray.size=i:=by simp;lia
  refine wpAny_pyNext_enum_endD (Eu (k:=k) (A:=X.A.in1) (I.ok.hd hc) i1 l1 hli tw.toArray) hz ⟨by rw[en];exact st.one,s1⟩ λh' g7=>⟨rfl,I.vt (t':=s.toks) (ch:=[z,i1]) (λc o hcn e=>?_) λc hcm=>hf c hcm⟩
  simp at hcn
  exact g7 c o hcn.2 e
 ·obtain⟨old,hz⟩:=st.z
  exact wpAny_pyIter_enum hz hq
def Kz(K:PySem.W.Frag)(t:TA):TI:=λσ H R=>t σ H λvs H1=>∃a k xs,vs=[.ref a]∧js K k H1 a xs∧R (Ite K k a) H1
theorem Hw{X:Cx}{elts:List Expr}{x1:Nat}{iy p pos:Pos}{a:Expr}{t:TA}(hg:Gl X "enumerate")(hm:X.mg "enumerate"=none)(ha:PA X [a] t)(he:starEach [a] X.env=(false,eval a X.env)::starEach [] X.env)(hpl:(backTo pos (starEach [] X.env)).any (·.1)=false) :
  PI X (.Tuple elts x1 iy) (.Call (.Name "enumerate" p) [a] [] pos) (Kz X.K t):=by
 intro pins s σ H R I h
 refine wpAny_Call_Name_kw (kM I hg hm PyProof.Rows.boot_enumerate ?_ (by decide) (by decide))
 refine PyProof.Rows.callWith_type1 (thn (ha pos pins s σ H _ I h) λus s1 av=>?_) he hpl
 obtain⟨vs,H1,I1,r1,q1⟩:=av
 obtain⟨c,k,xs,rfl,h1,q⟩:=q1
 obtain⟨u1,rfl,ru1⟩:=vals1 r1
 cases ru1
 obtain⟨tw,_,s1',_⟩:=I1.ksq h1
 refine y9 s1' λh' g1 g2 g6 g7=>wpAny_pyIter_enum g1 ?_
 have I2:Inv X pins σ H1 { s1 with heap:=h' }:=I1.kept (t':=s1.toks) g7
 refine⟨_,_,_,_,H1,rfl,I2,B3 (k:=k) (i1:=s1.heap.objs.size) (l1:=c) (λe=>by have e:s1.heap.objs.size+1=s1.heap.objs.size:=e;lia),⟨⟨_,g1⟩,g2⟩,λe he=>?_,q⟩
 have:s1.heap.objs.size≤e:=by
  simp only[List.mem_cons,List.not_mem_nil,or_false] at he
  rcases he with rfl|rfl
  ·exact Nat.le_add_right _ _
  ·exact Nat.le_refl _
 exact I1.yc this (I1.hok.fresh this)
end L2
namespace Fw
open PySem PySem.Spec PyProof.Rows L2
theorem vy{X:Cx}{elts:List Expr}{x1:Nat}{iy p pos:Pos}{a:Expr}{da:D}(hm:X.mg "enumerate"=none)(ha:CE X a da)(hg:Gl X "enumerate":=by rfl)(hs:starEach [a] X.env=(false,eval a X.env)::starEach [] X.env:=by rfl)(hpl:(backTo pos (starEach [] X.env)).any (·.1)=false:=by rfl) :
  CI X (.Tuple elts x1 iy) (.Call (.Name "enumerate" p) [a] [] pos) (uv da) :=
 PI.imp (Hw hg hm (ag ha aA hs) hs hpl) λσ H R0 av=>by
  obtain⟨F,α,e,μ,S,h⟩:=av
  refine qY ⟨F,α,e,μ,S,(R.wp_bind h).mono (λx μ1 h v H1 F1 α1 x1 S1 o1=>?_) λ_ _ h=>h⟩
  obtain⟨ts,ht,post⟩:=R.bO (R.wp_bind h)
  obtain⟨t,hr,ht⟩:=Option.bind_eq_some_iff.mp ht
  obtain⟨a1,vs1,k1,rfl,q1,r1,m1⟩:=kc S1.st.ext (bC S1.st o1 hr) ht
  refine⟨a1,k1,vs1,rfl,q1,post _ H1 F1 α1 x1 S1 λF2 α2 μ3 H2 s2 p2 S2 same=>?_⟩
  have e1:rd μ3 x=rd μ1 x:=same
  obtain⟨b1,ws1,j1,g1,n1,l1,m1'⟩:=kc S2.ext (bC S2 (o1.mono s2 p2) (e1.trans hr)) ht
  cases g1
  have ej1:j1=k1:=by rw[Bool.eq_iff_iff,m1,m1']
  subst ej1
  refine⟨λi t hi=>?_,?_⟩
  ·obtain⟨c,hc,rfl⟩:=uu hi
   obtain⟨v1,hv1,rv1⟩:=l1.get hc
   refine⟨⟨ws1,v1,n1,hv1⟩,?_⟩
   rintro z H3 ⟨q,z1,rfl,hq,rfl,f1⟩
   have w1:=f1 ws1 n1
   rw[hv1] at w1
   cases w1
   have g:b8 F2 H2 (upd F2 q (.tup [.int (i:Int),v1])) (upd H2 q (.tup [.int (i:Int),v1])):=b8.new hq
   refine⟨_,g,?_⟩
   rw[Rep]
   rw[Int.zero_add]
   exact⟨q,_,rfl,SqT.of aM,aH.mono (g.same S2.ext) _ _ (.gp (Rep.iC _) (.gp rv1 .kK))⟩
  ·refine⟨ws1,n1,?_⟩
   have:=l1.length
   show ws1.length=(g_ 0 ts).length
   rw[o7]
   lia
end Fw
namespace L2
open PySem PySem.Spec PyProof.Rows
def tE(n:Nat):List V:=(List.range n).map λ(k:Nat)=>V.int (k:Int)
theorem Ew{acc:Array Value}{n:Nat}(h:ItemsOf (λi v=>∃t,v=.int (0+(i:Int)*1) t) acc n):Vals (tE n) acc.toList:=by
 obtain⟨h1,h2⟩:=h
 have key:∀(vs:List V) (us:List Value),vs.length=us.length→(∀(i:Nat) (v:V) (u:Value),vs[i]?=some v→us[i]?=some u→RelV v u)→Vals vs us:=by
  intro vs
  induction vs with
  | nil=>intro us hl _;cases us with
   | nil=>exact .nil
   | cons a b=>simp at hl
  | cons v vs ih=>intro us hl h;cases us with
   | nil=>simp at hl
   | cons u us=>exact .cons (h 0 v u rfl rfl) (ih us (by simpa using hl) λi v u a b=>h (i+1) v u (by simpa using a) (by simpa using b))
 refine key _ _ (by simp[tE,h1]) λi v u hv hu=>?_
 have hi:i<n:=by
  have:=(List.getElem?_eq_some_iff.mp hv).1
  simpa [tE] using this
 have ev:v=.int (i:Int):=by
  unfold tE at hv
  rw[List.getElem?_map,List.getElem?_range hi] at hv
  simpa using hv.symm
 subst ev
 obtain⟨t,ht⟩:=h2 i u (by simpa using hu)
 exact⟨t,by rw[ht];simp⟩
def tLR(t:TA):TE:=λσ H Q=>t σ H λvs H1=>∃j:Int,vs=[.int j]∧-(2 ^ 62)≤j∧j<2 ^ 62∧j.toNat≤sizeLine∧∀p,H1 p=none→Q (.ref p) (upd H1 p (.lst (tE j.toNat)))
theorem y_{X:Cx}{a:Expr}{t:TA}{p p2 pos Ey:Pos}(hc:X.calm=true)(hg:Gl X "list")(hm:X.mg "list"=none)(hg2:Gl X "range")(hm2:X.mg "range"=none)(ha:PA X [a] t)(hs:starEach [a] X.env=[(false,eval a X.env)])
  (hs1:starEach [.Call (.Name "range" p2) [a] [] Ey] X.env=(false,eval (.Call (.Name "range" p2) [a] [] Ey) X.env)::starEach [] X.env) (hpl:(backTo pos (starEach [] X.env)).any (·.1)=false) :
  PE X (.Call (.Name "list" p) [.Call (.Name "range" p2) [a] [] Ey] [] pos) (tLR t):=by
 intro pins s σ H Q I h
 refine wpAny_Call_Name_kw (kM I hg hm (show bootBuiltins "list"=some (.type "list") by decide +kernel) ?_ (by decide) (by decide))
 refine PyProof.Rows.callWith_type1 ?_ hs1 hpl
 rw[hs1]
 show wpAny _ _ (spliced ((false,eval (.Call (.Name "range" p2) [a] [] Ey) X.env)::backTo pos (starEach [] X.env))) _ _ s
 refine Calls.spliced_cons ?_
 refine Call_ (kM I hg2 hm2 boot_range (PyProof.Rows.callWith_type1 (thn (ha Ey pins s σ H _ I h) λus s1 av=>?_) hs rfl))
 obtain⟨vs,H1,I1,r1,q1⟩:=av
 obtain⟨j,e,q1,q2,q3,q⟩:=q1
 subst e
 obtain⟨u1,rfl,ru1⟩:=vals1 r1
 obtain⟨tk,rfl⟩:=ru1
 refine call_range_1 ?_
 refine Calls.spliced_nil ?_
 have hn:Builtin.Range.rangeSize 0 j 1=((j.toNat:Nat):Int):=by rw[rangeSize_one];split<;>lia
 have hz:j.toNat≤2 ^ 24:=by
  have:sizeLine=2 ^ 24:=by decide
  lia
 refine call_list_range (I.ok.hd hc) (IsRange.new ..) (small_one (by lia) (by lia) q1 q2) hn hz λh' tk' Ht c' hk hS Hu=>?_
 have old:∀b o,s1.heap.get? b=some o→h'.get? b=some o:=λb o e=>hk b o (Heap.get?_push_of_some _ e)
 have hle:s1.heap.objs.size≤(s1.heap.push { cls:=.type "range",data:=.fields #[.int 0 s1.toks,.int j tk,.int 1 (s1.toks+1)] }).objs.size:=by rw[Heap.size_push];exact Nat.le_succ _
 have hv:=Ew Hu
 refine⟨.ref _,upd H1 _ (.lst (tE j.toNat)),I1.laid (t':=tk') old hle ?_,rfl,q _ (I1.hok.fresh hle)⟩
 refine⟨by unfold tE;rw[List.length_map,List.length_range];exact q3,Ht.toList,c',hv,?_⟩
 simpa using hS
end L2
namespace Fw
open PySem PySem.Spec PyProof.Rows L2
section
variable{K:PySem.W.Frag}
theorem xk{F:Hp}{t:T}{v:V}(h:Rep K F t v)(f:k_ t=true):mx v=true∧∀{t':T}{v':V},Rep K F t' v'→k_ t'=true→eqV v v'=eqT t t':=by
 cases t with
 | non=>cases h.j4;exact⟨rfl,λ{t' v'} h' f'=>by
   cases t' with
   | non=>cases h'.j4;simp[eqV,eqT]
   | bl b=>cases h'.iu;simp[eqV,eqT]
   | int b=>cases h'.kY;simp[eqV,eqT]
   | str b=>cases h'.mJ;simp[eqV,eqT]
   | _=>cases f'⟩
 | bl c=>cases h.iu;exact⟨rfl,λ{t' v'} h' f'=>by
   cases t' with
   | non=>cases h'.j4;simp[eqV,eqT]
   | bl b=>cases h'.iu;simp[eqV,eqT]
   | int b=>cases h'.kY;simp[eqV,eqT]
   | str b=>cases h'.mJ;simp[eqV,eqT]
   | _=>cases f'⟩
 | int c=>cases h.kY;exact⟨rfl,λ{t' v'} h' f'=>by
   cases t' with
   | non=>cases h'.j4;simp[eqV,eqT]
   | bl b=>cases h'.iu;simp[eqV,eqT]
   | int b=>cases h'.kY;simp[eqV,eqT]
   | str b=>cases h'.mJ;simp[eqV,eqT]
   | _=>cases f'⟩
 | str c=>cases h.mJ;exact⟨rfl,λ{t' v'} h' f'=>by
   cases t' with
   | non=>cases h'.j4;simp[eqV,eqT]
   | bl b=>cases h'.iu;simp[eqV,eqT]
   | int b=>cases h'.kY;simp[eqV,eqT]
   | str b=>cases h'.mJ;simp[eqV,eqT]
   | _=>cases f'⟩
 | _=>cases f
theorem uB{F:Hp}{t:T}{v:V}(h:Rep K F t v)(f:k_ t=true):∀{us:List T}{vs:List V},aH K F us vs→us.all k_=true→vs.all mx=true∧inV v vs=inT t us
 | [],vs,r,_=>by rw[aH] at r;subst r;exact⟨rfl,rfl⟩
 | u::us,vs,r,hf=>by
  rw[aH] at r
  obtain⟨v1,vs1,rfl,r1,r2⟩:=r
  rw[List.all_cons,Bool.and_eq_true] at hf
  obtain⟨a,b⟩:=uB h f r2 hf.2
  obtain⟨c,d⟩:=xk r1 hf.1
  refine⟨by rw[List.all_cons,c,a];rfl,?_⟩
  unfold inV inT at b ⊢
  rw[List.any_cons,List.any_cons,b,d h f]
theorem Now.flat{F H:Hp}{v:V}{t:T}(h:Now K F H v t)(f:k_ t=true):Rep K F t v:=by
 cases t with
 | non=>exact h
 | bl b=>exact h
 | int b=>exact h
 | str b=>exact h
 | _=>cases f
theorem KA:eK K (rIn K false) fIn:=by
 intro F H v u t t' w Q s hv hu hw q
 unfold fIn at hw
 cases e:cP t' with
 | none=>rw[e] at hw;cases hw
 | some us =>
  rw[e] at hw
  simp only at hw
  by_cases hf:(k_ t && us.all k_)=true
  ·rw[if_pos hf] at hw
   cases hw
   rw[Bool.and_eq_true] at hf
   obtain⟨a,vs,k,rfl,hq,hl,_⟩:=kc s hu e
   obtain⟨f1,f2⟩:=uB (hv.flat hf.1) hf.1 hl hf.2
   have fx:=(xk (hv.flat hf.1) hf.1).1
   refine⟨a,vs,rfl,?_,fx,f1,?_⟩
   ·cases k with
    | true=>exact .inl hq
    | false=>exact .inr hq
   ·rw[f2];exact q _ H F b8.refl (Rep.bl' _)
  ·rw[if_neg hf] at hw;cases hw
theorem EA(i:Int)(h:0≤i):Builtin.bitAnd i 1=i%2:=by
 obtain⟨n,rfl⟩:=Int.eq_ofNat_of_zero_le h
 unfold Builtin.bitAnd
 simp[Nat.and_one_is_mod]
end
section
variable{X:Cx}{a b c:Expr}{da db dc:D}{pos p p2:Pos}{k:Nat}
theorem IA(hr:eE k X.A)(ha:CE X a da)(hb:CE X b db)(hm:behindInMarks .In b=false:=by with_unfolding_all rfl):CT X (.Compare a [.In] [b] pos) (ah fIn da db):=oY Bi KA hm ha hb
theorem nR(hm:X.mg "int"=none)(ha:CE X a da)(hg:Gl X "int":=by rfl)(hs1:starEach [a] X.env=(false,eval a X.env)::starEach [] X.env:=by rfl)(hpl:(backTo pos (starEach [] X.env)).any (·.1)=false:=by rfl) :
  CE X (.Call (.Name "int" p) [a] [] pos) (dUn va da):=DT Bg (by
 intro F H v t w Q s hv hw q
 cases t with
 | int i=>cases hw;cases hv.int;exact .inl ⟨i,rfl,q _ H F b8.refl (Rep.iC _)⟩
 | bl i=>cases hw;cases Rep.iu (K:=X.K) (F:=F) hv;exact .inr ⟨i,rfl,q _ H F b8.refl (Rep.iC _)⟩
 | _=>cases hw) hm (by decide +kernel) ha hg (by decide) (by decide) hs1 hpl
theorem za(i j l:Nat){x y z:Str}{px py pz:Pos}{k:Nat}(hN:X.N.Nodup)(hc:X.calm=true)(hi:X.N[i]?=some x:=by rfl)(hj:X.N[j]?=some y:=by rfl)(hl:X.N[l]?=some z:=by rfl)(hx:Loc X.env.scope x:=by first|exact Or.inl rfl|exact Or.inr rfl)
  (hy:Loc X.env.scope y:=by first|exact Or.inl rfl|exact Or.inr rfl) (hz:Loc X.env.scope z:=by first|exact Or.inl rfl|exact Or.inr rfl)
  (hf:X.fn x=true∨X.env.scope.names.lookup x=some .local:=by first|exact .inl rfl|exact .inr rfl|assumption) (hf':X.fn y=true∨X.env.scope.names.lookup y=some .local:=by first|exact .inl rfl|exact .inr rfl|assumption)
  (OG:X.fn z=true∨X.env.scope.names.lookup z=some .local:=by first|exact .inl rfl|exact .inr rfl|assumption)
  : CB X (.Tuple [.Name x px,.Name y py,.Name z pz] k pos) (dn [i,j,l]) :=
 PG.imp (CP hc (kO (lQ hN hi hx hf) (kO (lQ hN hj hy hf') (kO (lQ hN hl hz OG) zU)))) λv σ H Q av=>by
  obtain⟨F,α,e,μ,t,e',S,r,hb,q⟩:=av
  cases t with
  | tup ts =>
   unfold dn at hb
   simp only at hb
   by_cases hl:ts.length=[i,j,l].length
   ·rw[if_pos hl] at hb
    rw[Rep] at r
    obtain⟨a,vs,rfl,hq,hr⟩:=r
    match ts,vs,hl,hr with
    | [t1,t2,t3],vs,_,hr =>
     rw[aH] at hr
     obtain⟨v1,vs1,rfl,r1,hr⟩:=hr
     rw[aH] at hr
     obtain⟨v2,vs2,rfl,r2,hr⟩:=hr
     rw[aH] at hr
     obtain⟨v3,vs3,rfl,r3,hr⟩:=hr
     rw[aH] at hr
     subst hr
     cases hb
     exact⟨a,_,rfl,aZ.i5 S.st.ext hq,rfl,v1,[v2,v3],rfl,v2,[v3],rfl,v3,[],rfl,rfl,q _ (((S.set (x:=.val t1) r1).set (x:=.val t2) r2).set (x:=.val t3) r3)⟩
   ·rw[if_neg hl] at hb;cases hb
  | _=>cases hb
theorem zb{tg:Expr}{is:List Nat}(hg:CB X tg (dn is))(he:CE X a da)(hs:swapsWithSole [tg] a pos.line X.env=pure false:=by rfl)(hw:swappedStores [tg] a X.env=pure none:=by rfl)
  (h1:(assignEach [tg] X.env).map (·.2)=[assign tg X.env]:=by rfl):CS X (.Assign [tg] a pos) (tj is da) :=
 PS.imp (CQ he hg hs hw h1) λD σ H ⟨F,α,e,μ,S,h⟩ =>
  ⟨F,α,e,μ,S,(bh.toS h).mono (λx μ1 h v H1 F1 α1 x1 S1 o1=>by
   obtain⟨e',hb,hp⟩:=bh.lift h
   obtain⟨t,ht,hb⟩:=Option.bind_eq_some_iff.mp hb
   cases x with
   | val t'=>cases ht;exact⟨F1,α1,e,μ1,t,e',S1,o1,hb,λσ' S'=>hp σ' H1 F1 α1 x1 S'⟩
   | cel _=>cases ht
   | box _=>cases ht) λ_ _ h=>h⟩
end
end Fw
namespace L2
open PySem PySem.Spec PyProof.Rows
end L2
namespace Fw
open PySem PySem.Spec PyProof.Rows L2
section
variable{X:Cx}{a b c:Expr}{da db dc:D}{pos p p2 pu pc:Pos}{k:Nat}
theorem aH.cnt{K:PySem.W.Frag}{F:Hp}(n:Nat):aH K F (b7 0 n) (tE n):=by
 rw[fH]
 have:tE n=(fE 0 n).map V.int:=by simp[tE,fE]
 rw[this]
 exact aH.u5 _
theorem rV(hc:X.calm=true)(hm:X.mg "list"=none)(hm2:X.mg "range"=none)(ha:CE X a da)(hg:Gl X "list":=by rfl)(hg2:Gl X "range":=by rfl)(hs:starEach [a] X.env=[(false,eval a X.env)]:=by rfl)
  (hs1:starEach [.Call (.Name "range" p2) [a] [] pc] X.env=(false,eval (.Call (.Name "range" p2) [a] [] pc) X.env)::starEach [] X.env:=by rfl) (hpl:(backTo pos (starEach [] X.env)).any (·.1)=false:=by rfl) :
  CF X (.Call (.Name "list" p) [.Call (.Name "range" p2) [a] [] pc] [] pos) (dUn G7 da) :=
 ⟨PE.imp (y_ hc hg hm hg2 hm2 (ag ha aA hs) hs hs1 hpl) (λσ H Q h=>by
  refine qY ?_
  obtain⟨F,α,e,μ,S,h⟩:=h
  refine⟨F,α,e,μ,S,(R.wp_bind h).mono (λx μ1 h v H1 F1 α1 x1 S1 o1=>?_) λ_ _ h=>h⟩
  obtain⟨w,h9,t',e1,post⟩:=R.bO h
  obtain⟨t,w',ht,h,e2⟩:=jX h9
  subst e1
  cases e2
  cases t with
  | int j =>
   cases (bC S1.st o1 ht).int
   have h:(if (eG j && decide (j.toNat≤szL))=true then some (T.lst (b7 0 j.toNat)) else none)=some t':=h
   by_cases hcc:(eG j && decide (j.toNat≤szL))=true
   ·rw[if_pos hcc] at h
    cases h
    rw[Bool.and_eq_true,decide_eq_true_eq] at hcc
    obtain⟨b1,b2⟩:=uf hcc.1
    exact⟨j,rfl,b1,b2,hcc.2,λq hq=>post q _ F1 α1 (x1.trans (Ex.lay hq)) (S1.of (aZ.refl _) (List.prefix_refl _) (S1.st.lay hq)) (x1.was S1.st hq) (S1.st.ext.free hq) (cM S1.st hq) ⟨_,aM,aH.cnt _⟩⟩
   ·rw[if_neg hcc] at h;cases h
  | _=>cases h),λ_ _ _ _ h=>Ar h⟩
end
section
variable{X:Cx}{a b c:Expr}{da db dc:D}{pos p p2 pu pc:Pos}{k:Nat}
end
section
variable{X:Cx}{pos:Pos}
end
section
variable{X:Cx}{pos p:Pos}{k:Nat}{a:Expr}{da:D}
end
section
variable{X:Cx}{a b:Expr}{da db:D}{pos p:Pos}{k:Nat}
end
theorem pb:fillsNumberSlot (.type "tuple") "mul"=pure false :=
 PySem.fillsNumberSlot_seq (id:="tuple.__mul__") (r:=some (.builtin "tuple.__rmul__")) F.slot_tuple_mul.lookup (by decide +kernel) F.slot_tuple_rmul.lookup (by decide +kernel)
theorem vA:seqRepeat? (.type "tuple")=pure (some (.builtin "tuple.__mul__")):=by
 unfold seqRepeat?
 rw[PySem.seqSlot_of (T:="tuple") (name:="__mul__") (id:="tuple.__mul__") F.slot_tuple_mul.lookup (by decide +kernel),PySem.seqSlot_of (T:="tuple") (name:="__rmul__") (id:="tuple.__rmul__") F.slot_tuple_rmul.lookup (by decide +kernel)]
 rfl
theorem rW(a:Int)(t:Tok)(l:Addr)(items:Array Value)(n:Nat)(d:Option Addr)(sl:Array (Option Value)) :
  Meets (Builtin.«int.__rmul__» ⟨[.int a t,.ref l],[]⟩) (λ_ R s=>s.heap.get? l=some { cls:=.type "tuple",dict:=d,data:=.seq items n,slots:=sl }∧R (.ok (.ret Value.notImplemented)) s) :=
 .of_wp λprog w A R s h=>by obtain⟨hp,g,d,tk,os⟩:=s;obtain⟨hl,h⟩:=h;wp_walk;exact⟨_,rfl,h⟩
theorem tG(l:Addr)(items:Array Value)(n:Nat)(d:Option Addr)(sl:Array (Option Value))(x:Int)(u:Tok)(hx:2≤x∧x<2 ^ 63)(hi:items.isEmpty=false)(hz:items.size*x.toNat≤sizeLine)(hf:(List.foldl (λx1 x2=>x1++x2) #[] (List.replicate x.toNat items)).size≤sizeLine) :
  Meets (Builtin.«tuple.__mul__» ⟨[.ref l,.int x u],[]⟩) (λ_ R s=>s.heap.get? l=some { cls:=.type "tuple",dict:=d,data:=.seq items n,slots:=sl }∧R (.ok (.ret (Value.ref s.heap.objs.size))) { s with heap:=s.heap.push { cls:=Value.type "tuple",data:=Data.seq (List.foldl (λx1 x2=>x1++x2) #[] (List.replicate x.toNat items)) },toks:=s.toks }) :=
 .of_wp λprog w A R s h=>by
  obtain⟨hp,g,d,tk,os⟩:=s;obtain⟨hl,h⟩:=h
  have f1:=AutoSeq1.idx_int
  have hsl:(sizeLine:Nat)≤(2 ^ 63-1) / 8:=by decide
  have hzz:(items.size:Int)*x≤(sizeLine:Int):=by
   have:((items.size*x.toNat:Nat):Int)≤(sizeLine:Int):=by exact_mod_cast hz
   rw[Int.natCast_mul,Int.toNat_of_nonneg (by omega)] at this
   exact this
  wp_walk using AutoSeq1.wpAny_loadPart' hl
  refine wpAny_ite_false (decide_eq_false (λhh=>by rw[Bool.or_eq_true,decide_eq_true_eq,decide_eq_true_eq] at hh;omega)) ?_
  wp_walk using AutoSeq1.wpAny_loadPart' hl
  refine wpAny_ite_false (decide_eq_false (λhh=>by rw[hi,Bool.false_or,beq_iff_eq] at hh;omega)) ?_
  wp_walk using AutoSeq1.wpAny_loadPart' hl
  refine wpAny_ite_false (decide_eq_false (λhh=>by rw[hi,Bool.or_false,decide_eq_true_eq] at hh;omega)) ?_
  wp_walk using AutoSeq1.wpAny_loadPart' hl
  refine wpAny_ite_false (decide_eq_false (by omega)) ?_
  wp_walk using AutoSeq1.wpAny_loadPart' hl
  refine wpAny_ite_false (decide_eq_false (λhh=>by unfold Builtin.Tuple.tupleTooMany at hh;rw[decide_eq_true_eq] at hh;omega)) ?_
  wp_walk using AutoSeq1.wpAny_loadPart' hl
  exact⟨_,rfl,h⟩
def IB(K:PySem.W.Frag):R2:=λx y H Q=>∃a k xs,x=.ref a∧y=.int k∧SqT K H a xs∧xs≠[]∧2≤k∧k<2 ^ 63∧xs.length*k.toNat≤sizeLine∧∀p,H p=none→Q (.ref p) (upd H p (.tup (List.replicate k.toNat xs).flatten))
section
variable{X:Cx}{a b:Expr}{da db:D}{pos:Pos}
theorem Hx:OpR X (binaryOp .Mult) (IB X.K):=by
 intro pins s σ H x y v u Q I rx ry h
 obtain⟨l,k,xs,rfl,rfl,hq,hne,h1,h2,hz,q⟩:=h
 cases rx
 obtain⟨t,rfl⟩:=ry
 obtain⟨its,r,pl,hzz⟩:=I.tuple hq
 obtain⟨⟨cls,d,data,sl⟩,e,hc,n,hd⟩:=id pl
 simp only at hc hd
 subst hc hd
 have hlen:its.toArray.size*k.toNat≤sizeLine:=by rw[List.size_toArray,← r.length];exact hz
 have hie:its.toArray.isEmpty=false:=by
  cases its with
  | nil=>exact absurd (r.nh.mp rfl) hne
  | cons _ _=>rfl
 have Ge:List.foldl (λx1 x2=>x1++x2) #[] (List.replicate k.toNat its.toArray)=(List.replicate k.toNat its).flatten.toArray:=by
  have:=foldl_rep its k.toNat []
  rw[List.nil_append] at this
  exact this
 refine wpAny_binaryOp_repeat_ref (T:="tuple") (U:="int") (by decide) ⟨_,e,rfl⟩ (λs'=>typeIs_int s' k t) pb F.fills_int_mul F.slot_int_rmul vA F.slot_int_index.lookup
  (call_meets F.slot_int_rmul (typeIs_int s k t) F.entry_int_rmul (F.args_int_rmul_2 _ _) (rW k t l its.toArray n d sl)
   ⟨e,rfl,⟨_,e,rfl⟩,call_meets F.slot_tuple_mul ⟨_,e,rfl⟩ F.entry_tuple_mul (F.args_tuple_mul_2 _ _) (tG l its.toArray n d sl k t ⟨h1,h2⟩ hie hlen (by rw[Ge,List.size_toArray,len_rep,Nat.mul_comm];exact hlen)) ⟨e,?_⟩⟩)
 rw[Ge]
 refine⟨.ref s.heap.objs.size,_,I.laid (t':=s.toks) (o:=.tup (List.replicate k.toNat xs).flatten) (λb ob q=>Heap.get?_push_of_some _ q) (Nat.le_refl _) ?_,rfl,q _ (I.hok.fresh (Nat.le_refl _))⟩
 exact⟨by rw[len_rep,Nat.mul_comm];exact hz,_,r.rep k.toNat,IsTup.new _ _⟩
theorem aH.rep{K:PySem.W.Frag}{F:Hp}{ts:List T}{vs:List V}(h:aH K F ts vs):∀k:Nat,aH K F (List.replicate k ts).flatten (List.replicate k vs).flatten
 | 0=>.kK
 | k+1=>by rw[List.replicate_succ,List.replicate_succ,List.flatten_cons,List.flatten_cons];exact h.append (h.rep k)
theorem EB{K:PySem.W.Frag}:eK K (IB K) rF:=by
 intro F H v u t t' w Q s hv hu hw q
 cases t with
 | tup xs =>
  cases t' with
  | int k =>
   by_cases hc:xs≠[]∧2≤k∧k<2 ^ 63∧xs.length*k.toNat≤szL
   ·rw[w6 xs k hc] at hw
    cases hw
    cases hu.int
    obtain⟨a,vs,rfl,ha,ra⟩:=hv.rL
    have hl:=ra.length
    refine⟨a,k,vs,rfl,rfl,aZ.i5 s ha,λe=>hc.1 (ra.nil_of e),hc.2.1,hc.2.2.1,by rw[← hl];exact hc.2.2.2,λp hp=>nP s hp (aH.rep ra k.toNat) q⟩
   ·rw[rF,if_neg hc] at hw;cases hw
  | _=>cases hw
 | _=>cases hw
theorem Hy(ha:CE X a da)(hb:CE X b db):CE X (.BinOp a .Mult b pos) (ah rF da db):=jq Hx EB ha hb
end
theorem B4(i:Int):Builtin.bitAnd i 1=i%2:=by
 by_cases h:0≤i
 ·exact EA i h
 ·unfold Builtin.bitAnd
  rw[decide_eq_false h,decide_eq_true (show (0:Int)≤1 by omega)]
  show (1:Int)-(((1:Int).toNat &&& (Builtin.bitNot i).toNat:Nat):Int)=_
  rw[show (1:Int).toNat=1 from rfl,Nat.and_comm,Nat.and_one_is_mod]
  unfold Builtin.bitNot
  omega
theorem B5{K:PySem.W.Frag}:eK K (rI0 λi j=>.int (Builtin.bitAnd i j)) j_:=by
 intro F H v u t t' w Q s hv hu hw q
 cases t<;>cases t'<;>first|cases hw|skip
 rename_i i j
 have hw:(if j=1 then some (T.int (i%2)) else none)=some w:=hw
 by_cases hc:j=1
 ·rw[if_pos hc] at hw
  cases hw
  subst hc
  cases hv.int
  cases hu.int
  refine⟨i,1,rfl,rfl,?_⟩
  show Q (V.int (Builtin.bitAnd i 1)) H
  rw[B4 i]
  exact q _ H F b8.refl (Rep.iC _)
 ·rw[if_neg hc] at hw;cases hw
theorem EC{X:Cx}{a b:Expr}{da db:D}{pos:Pos}(ha:CE X a da)(hb:CE X b db):CE X (.BinOp a .BitAnd b pos) (ah j_ da db):=jq JB B5 ha hb
section
variable{X:Cx}{body:List Stmt}{es:List Expr}{ds:List D}{d:DS}{pos np lp:Pos}
end
end Fw
namespace L2
open PySem PySem.Spec PyProof.Rows
section
variable{prog:Program}{w:World}{A:Around}{E:Value→Shared→Prop}{s:Shared}
end
section
variable{prog:Program}{w:World}{A:Around}{E:Value→Shared→Prop}{s:Shared}
end
end L2
namespace Fw
open PySem PySem.Spec PyProof.Rows L2
end Fw
namespace L2
open PySem PySem.Spec PyProof.Rows
open AutoSeq1 (wpAny_loadPart')
section
variable{prog:Program}{w:World}{A:Around}{E:Value→Shared→Prop}{s:Shared}
end
end L2
namespace HT
open PySem PySem.Spec PyProof.Rows L2
section
variable{prog:Program}{w:World}{A:Around}{E:Value→Shared→Prop}{s:Shared}
theorem mO{t sl:Addr}{items:Array Value}{vl vu:Value}{lo hi:Option Int}{Q:Value→Shared→Prop}(ht:IsTup s.heap t items)(hs:s.heap.IsSliceOf sl vl vu .none)(pl:IsPart vl lo)(pu:IsPart vu hi)
  (hw:sIx items.size 0 lo=0∧sIx items.size items.size hi=items.size) (h:Q (.ref t) s):wpAny (model prog w) A (getItem (.ref t) (.ref sl)) Q E s:=by
 obtain⟨os,hos,hcs,hds⟩:=id hs
 have hTs:s.TypeIs (.ref sl) "slice":=⟨os,hos,hcs⟩
 unfold getItem
 try with_reducible refine wpAny_holding ?_
 first|refine wpAny_bind (wpAny_pure ?_)|skip
 refine wpAny_bind (wpAny_sequenceKey ht.typeIs (by decide) ?_)
 refine wpAny_bind (wpAny_callSpecial?_slot (name:=Str.ofString "__getitem__") ht.typeIs PyProof.Rows.slot_tuple_getitem
  (wpAny_call_entry PyProof.Rows.slot_tuple_getitem ht.typeIs entry_tuple_getitem ?_ (args_tuple_getitem _ _)))
 show wpAny _ _ (Builtin.Tuple.tupleItemsOf (.ref t)>>=_) _ _ s
 refine wpAny_bind (tupleItemsOf_ ht ?_)
 refine wpAny_bind (wpAny_typeOf hTs ?_)
 rw[if_pos (by decide)]
 refine wpAny_bind (jH hs pl pu ?_)
 have OH:(((sIx items.size 0 lo:Nat):Int)==0 && (1:Int)==1 && (sIx items.size items.size hi-sIx items.size 0 lo)==items.size)=true:=by
  rw[hw.1,hw.2];simp
 show wpAny _ _ (if (((sIx items.size 0 lo:Nat):Int)==0 && (1:Int)==1 && (sIx items.size items.size hi-sIx items.size 0 lo)==items.size)=true then _ else _) _ _ s
 rw[if_pos OH]
 show wpAny _ _ (Builtin.Tuple.tupleIsExact (.ref t)>>=_) _ _ s
 refine wpAny_bind ?_
 unfold Builtin.Tuple.tupleIsExact
 refine wpAny_bind (wpAny_typeOf ht.typeIs (wpAny_pure ?_))
 show wpAny _ _ (if (Value.type "tuple"==Value.type "tuple")=true then _ else _) _ _ s
 rw[if_pos (by decide)]
 refine wpAny_bind (wpAny_rule ?_)
 first
  | exact wpAny_pure ⟨_,rfl,wpAny_pure h⟩
  | exact wpAny_bind (wpAny_pure (wpAny_pure ⟨_,rfl,wpAny_pure h⟩))
end
end HT
namespace L2
open PySem PySem.Spec PyProof.Rows
def OI(K:PySem.W.Frag):V→Option Int→Option Int→Hp→VK→Prop:=λx lo hi H Q=>∃a xs,x=.ref a∧SqT K H a xs∧(HT.sIx xs.length 0 lo=0∧HT.sIx xs.length xs.length hi=xs.length)∧Q (.ref a) H
theorem Hz{X:Cx}:SlR X (OI X.K):=by
 intro pins s σ H x v vl vu lo hi sl Q I rx hs pl pu h
 obtain⟨a,xs,rfl,hx,hw,q⟩:=h
 cases rx
 obtain⟨its,r,ht,hz⟩:=I.tuple hx
 have hlen:its.toArray.size=xs.length:=by rw[List.size_toArray];exact r.length.symm
 refine⟨"tuple",_,PyProof.Rows.slot_tuple_getitem.lookup,ht.typeIs,?_⟩
 refine HT.mO ht hs pl pu (by rw[hlen];exact hw) ?_
 exact⟨.ref a,H,I,rfl,q⟩
end L2
namespace Fw
open PySem PySem.Spec PyProof.Rows L2
theorem HA{X:Cx}{a:Expr}{da:D}{pos p2:Pos}{lo hi:Option Expr}{dl dh:Option D}(ha:CE X a da)(hl:CO X lo dl)(hh:CO X hi dh):CE X (.Subscript a (.Slice lo hi none p2) pos) (Ay da dl dh) :=
 PE.imp (wt (Ab.or (Dc.or Hz)) ha hl hh) λσ H Q av=>by
  obtain⟨F,α,e,μ,S,h⟩:=av
  refine⟨F,α,e,μ,S,(R.wp_bind h).mono (λx μ1 h v H1 F1 α1 x1 S1 o1=>⟨F1,α1,e,μ1,S1,?_⟩) λ_ _ h=>h⟩
  refine (R.wp_bind h).mono (λl μ2 h H2 F2 α2 x2 S2=>⟨F2,α2,e,μ2,S2,?_⟩) λ_ _ h=>h.mono x1
  refine (R.wp_bind h).mono (λr μ3 h H3 F3 α3 x3 S3=>?_) λ_ _ h=>h.mono (x1.trans x2)
  obtain⟨w,h9,post⟩:=R.bO h
  obtain⟨t,w',ht,h,rfl⟩:=jX h9
  have nt:=bC S3.st (o1.mono (x2.trans x3).same (x2.trans x3).pre) ht
  have fin:∀v' H' F',b8 F3 H3 F' H'→Rep X.K F' w' v'→Q v' H':=λv' H' F' g rp=>post v' H' F' α3 (x1.trans (x2.trans (x3.trans (g.ex S3.st.ext)))) (S3.grow g) rp
  cases t with
  | lst ts =>
   cases h
   obtain⟨c,vs,rfl,hq,hl⟩:=nt.o9
   exact .inl ⟨c,vs,rfl,hq,λq hq'=>vh S3.st.ext hq' (hl.cut l r) fin⟩
  | tup ts =>
   cases h
   obtain⟨c,vs,rfl,hq,hl⟩:=nt.rL
   have e:∀d o,HT.sIx vs.length d o=Fw.sIx ts.length d o:=λd o=>by rw[hl.length];cases o<;>rfl
   by_cases hc:Fw.sIx ts.length 0 l=0∧Fw.sIx ts.length ts.length r=ts.length
   ·refine .inr (.inr ⟨c,vs,rfl,aZ.i5 S3.st.ext hq,by rw[e,e,← hl.length];exact hc,fin _ _ F3 b8.refl ?_⟩)
    have ec:oS ts l r=ts:=by
     unfold oS
     rw[hc.1,hc.2,List.drop_zero,Nat.sub_zero,List.take_length]
    rw[ec,Rep]
    exact⟨c,vs,rfl,hq,hl⟩
   ·refine .inr (.inl ⟨c,vs,rfl,aZ.i5 S3.st.ext hq,?_,λq hq'=>nP S3.st.ext hq' (hl.cut l r) fin⟩)
    rw[e,e,← hl.length]
    exact hc
  | _=>cases h
end Fw
namespace Fw
open PySem L2 PyProof.Rows
noncomputable abbrev bmV : List Value := [.type "ValueError", .type "Exception", .type "BaseException", .type "object"]
theorem gT{K:PySem.W.Frag}{C:Addr}(h:PySem.W.excIn K C bmV "ValueError.__new__"=true):vc K C:=⟨⟨_,_,h,by decide⟩⟩
theorem ED{K:PySem.W.Frag}{C:Addr}{v:Value}{b:Bool}(h:PySem.W.mroIn K C v=some b):(PySem.W.clsIn K C).isSome=true:=by
 unfold PySem.W.mroIn at h
 cases q:PySem.W.clsIn K C with
 | none=>rw[q] at h;cases h
 | some cd=>rfl
theorem nS{K:PySem.W.Frag}{C:Addr}{v:Value}{b:Bool}(h:PySem.W.mroIn K C v=some b):(p_ K C).contains v=b:=by
 unfold PySem.W.mroIn PySem.W.clsIn at h
 unfold p_
 split at h
 ·rename_i ho
  rw[ho]
  simp only[Option.bind_some] at h
  split at h
  ·cases h
  ·exact Option.some.inj h
 ·cases h
theorem EE{α:Type}{P:α→Prop}:∀q∈([]:List α),P q:=λ_ h=>nomatch h
theorem lZ{α:Type}{P:α→Prop}{a:α}{l:List α}(h:P a)(hl:∀q∈l,P q):∀q∈a::l,P q:=λq hq=>by
 rcases List.mem_cons.mp hq with rfl|hq
 ·exact h
 ·exact hl q hq
theorem nT{R:Str}{b:Bool}{P:Str→Bool→Prop}(h:P R b):∀n b',(if n=R then some b else none)=some b'→P n b':=λn b' e=>by
 by_cases hn:n=R
 ·rw[if_pos hn] at e
  cases e
  rw[hn];exact h
 ·rw[if_neg hn] at e;cases e
noncomputable abbrev rX (X : Cx) : Cx := { X with xe := fun _ _ => False }
section
variable{X:Cx}{pins:List (Addr×Obj)}{σ:L2.St}{H:Hp}{s:Shared}
theorem zc(I:Inv X pins σ H s):Inv (rX X) pins σ H s :=
 ⟨⟨I.ok.mod,I.ok.kind,I.ok.glob,I.ok.blt,I.ok.above,I.ok.inj,I.ok.has,I.ok.cab,I.ok.hd,I.ok.frames,I.ok.stk,I.ok.exf,I.ok.bs,I.ok.bsz,I.ok.uI,I.ok.ya,I.ok.mF,I.ok.frf⟩,I.os,I.bare,I.base,I.loc,I.cell,I.free,I.gN,I.pin,I.hok,I.len⟩
theorem iE(ok:X.Ok)(I:Inv (rX X) pins σ H s):Inv X pins σ H s :=
 ⟨ok,I.os,I.bare,I.base,I.loc,I.cell,I.free,I.gN,I.pin,I.hok,I.len⟩
theorem xl{D:Ends}{f:Flow}(ok:X.Ok)(h:SP (rX X) pins D f s):SP X pins D f s:=by
 cases f with
 | next=>obtain⟨σ',H',I,q⟩:=h;exact⟨σ',H',iE ok I,q⟩
 | brk=>obtain⟨σ',H',I,q⟩:=h;exact⟨σ',H',iE ok I,q⟩
 | cont=>obtain⟨σ',H',I,q⟩:=h;exact⟨σ',H',iE ok I,q⟩
 | ret u=>obtain⟨v,σ',H',I,r,q⟩:=h;exact⟨v,σ',H',iE ok I,r,q⟩
end
theorem B6{X:Cx}{F H:Hp}{α:List Addr}{D:Ends}{d:DS}{e:Slots}{μ:af}(h:bh X F α H D (hG d e μ)):bh (rX X) F α H D (d e μ):=by
 unfold hG at h
 cases q:d e μ with
 | err c e1 μ1=>rw[q] at h;exact False.elim h
 | nx e1 μ1=>rw[q] at h;exact h
 | rt y μ1=>rw[q] at h;exact h
 | bk e1 μ1=>rw[q] at h;exact h
 | ct e1 μ1=>rw[q] at h;exact h
 | bad=>rw[q] at h;exact h
theorem EF{X:Cx}{body:List Stmt}{d:DS}(h:CSs (rX X) body d):CSs X body (hG d):=by
 intro pins s σ H D I ⟨F,α,e,μ,S,hd⟩
 exact wpAny_mono (h pins s σ H D (zc I) ⟨F,α,e,μ,S,B6 hd⟩) (λf s' q=>xl I.ok q) λ_ _ z=>z.elim
section
variable{X:Cx}{a:Expr}{da:D}{p pos:Pos}{b:Bool}
end
section
variable{X:Cx}{E:Value→Shared→Prop}{pins:List (Addr×Obj)}{σ:L2.St}{H:Hp}{s:Shared}
end
end Fw
namespace L2
open PySem PySem.Spec PyProof.Rows Fw
section
variable{X:Cx}
end
end L2
namespace Fw
open PySem PySem.Spec PyProof.Rows L2
section
variable{X:Cx}{a:Expr}{da:D}{p pos:Pos}
end
section
variable{X:Cx}{pins:List (Addr×Obj)}{σ:L2.St}{H:Hp}{s:Shared}{k:Nat}
end
section
variable{X:Cx}{a b:Expr}{da db:D}{pos:Pos}{k:Nat}
end
end Fw
namespace L2
open PySem PySem.Spec PyProof.Rows
end L2
namespace Fw
open PySem PySem.Spec PyProof.Rows L2
end Fw
namespace L2
open PySem PySem.Spec PyProof.Rows
section
variable{prog:Program}{w:World}{A:Around}{E:Value→Shared→Prop}{s:Shared}
noncomputable abbrev KC (h : Heap) (z TI TO a : Addr) (f : Bool) : Prop := h.get? z = some { cls := .type "zip", dict := none, data := .fields #[rawInt a, .bool f, .bool false, .ref TI, .ref TO], slots := #[] }
structure ZOA(z TI i1 i2 l1 l2:Addr):Prop where
 TIz:TI≠z
 i1z:i1≠z
 i2z:i2≠z
 i12:i1≠i2
 l1z:l1≠z
 l1i1:l1≠i1
 l2z:l2≠z
 l2i1:l2≠i1
end
section
variable{X:Cx}{pins:List (Addr×Obj)}{σ:L2.St}{H:Hp}{s:Shared}
structure ZO(k1 k2:Bool)(z TI TO i1 i2 l1 l2:Addr)(i:Nat)(H:Hp)(h:Heap):Prop where
 zz:IsZip h z TI TO .none∨∃a f ws,H a=some (.tup ws)∧KC h z TI TO a f
 ti:IsPair h TI (.ref i1) (.ref i2)
 to:∃a b,IsPair h TO a b
 one:KIt k1 h i1 l1 i
 two:KIt k2 h i2 l2 i
theorem ZO.keep{k1 k2:Bool}{z TI TO i1 i2 l1 l2:Addr}{i:Nat}{h h':Heap}(st:ZO k1 k2 z TI TO i1 i2 l1 l2 i H h)(k:∀b∈[z,TI,TO,i1,i2],∀o,h.get? b=some o→h'.get? b=some o):ZO k1 k2 z TI TO i1 i2 l1 l2 i H h':=by
 obtain⟨a,b,hto⟩:=st.to
 refine⟨?_,k TI (.tail _ (.head _)) _ st.ti,⟨a,b,k TO (.tail _ (.tail _ (.head _))) _ hto⟩,st.one.at λo e=>k i1 (.tail _ (.tail _ (.tail _ (.head _)))) o e,st.two.at λo e=>k i2 (.tail _ (.tail _ (.tail _ (.tail _ (.head _))))) o e⟩
 rcases st.zz with hz|⟨c,f,ws,hc,hz⟩
 ·exact .inl (k z (.head _) _ hz)
 ·exact .inr ⟨c,f,ws,hc,k z (.head _) _ hz⟩
theorem ZO.apart{k1 k2:Bool}{z TI TO i1 i2 l1 l2:Addr}{i:Nat}{xs ys:List V}(d1:TI≠TO)(d2:i1≠i2)(I:Inv X pins σ H s)(hf:∀b∈[z,TI,TO,i1,i2],kP X pins H b)(st:ZO k1 k2 z TI TO i1 i2 l1 l2 i H s.heap)(h1:js X.K k1 H l1 xs)(h2:js X.K k2 H l2 ys) :
  ZipApart z TI TO i1 i2 l1 l2∧ZOA z TI i1 i2 l1 l2:=by
 obtain⟨a,b,hto⟩:=st.to
 obtain⟨o1,e1,q1⟩:=st.one.ob
 obtain⟨o2,e2,q2⟩:=st.two.ob
 obtain⟨oz,vz,ez,qz,sz⟩:∃(oz:Obj) (vz:Array Value),s.heap.get? z=some oz∧oz.data=.fields vz∧vz.size=5:=by
  rcases st.zz with hz|⟨c,f,ws,hc,hz⟩
  ·exact⟨_,_,hz,rfl,rfl⟩
  ·exact⟨_,_,hz,rfl,rfl⟩
 have neP:∀{c d:Addr}{o:Obj}{u v:Value}{vs:Array Value},IsPair s.heap c u v→s.heap.get? d=some o→o.data=.fields vs→c≠d:=λ{c d o u v vs} hp ho hd e=>by
  subst e
  have hp:s.heap.get? c=some { cls:=.type "tuple",data:=.seq #[u,v] }:=hp
  rw[hp] at ho;cases ho;cases hd
 have neZ:∀{d:Addr}{l:Addr}{o:Obj}{n:Nat},s.heap.get? d=some o→o.data=.fields #[.ref l,.int n 0]→d≠z:=λ{d l o n} ho hd e=>by
  subst e
  rw[ez] at ho;cases ho
  rw[qz] at hd
  have:vz=#[.ref l,.int n 0]:=by injection hd
  rw[this] at sz
  exact absurd sz (by simp)
 have w:∀c∈[z,TI,TO,i1,i2],l1≠c∧l2≠c:=λc hc=>⟨iQ I h1 (hf c hc),iQ I h2 (hf c hc)⟩
 have D:ZipApart z TI TO i1 i2 l1 l2:={ TIz:=neP st.ti ez qz,TOz:=neP hto ez qz,i1z:=neZ e1 q1,i2z:=neZ e2 q2,TITO:=d1,TIi1:=neP st.ti e1 q1,TIi2:=neP st.ti e2 q2,TOi1:=neP hto e1 q1,TOi2:=neP hto e2 q2,i12:=d2,l1z:=(w z (.head _)).1,l1TO:=(w TO (.tail _ (.tail _ (.head _)))).1,l1i1:=(w i1 (.tail _ (.tail _ (.tail _ (.head _))))).1,l1i2:=(w i2 (.tail _ (.tail _ (.tail _ (.tail _ (.head _)))))).1,l2z:=(w z (.head _)).2,l2TO:=(w TO (.tail _ (.tail _ (.head _)))).2,l2i1:=(w i1 (.tail _ (.tail _ (.tail _ (.head _))))).2,l2i2:=(w i2 (.tail _ (.tail _ (.tail _ (.tail _ (.head _)))))).2 }
 exact⟨D,⟨D.TIz,D.i1z,D.i2z,D.i12,D.l1z,D.l1i1,D.l2z,D.l2i1⟩⟩
end
end L2
namespace Fw
open PySem PySem.Spec PyProof.Rows L2
end Fw
namespace L2
open PySem PySem.Spec PyProof.Rows
end L2
namespace Fw
open PySem PySem.Spec PyProof.Rows L2
end Fw
namespace L2
open PySem PySem.Spec PyProof.Rows
section
variable{prog:Program}{w:World}{A:Around}{E:Value→Shared→Prop}{s:Shared}{d it:Addr}{es:Array DictEntry}{ep i:Nat}
end
section
variable{X:Cx}{pins:List (Addr×Obj)}{σ:List (Option V)}{H:Hp}{s:Shared}{d:Addr}{kvs:List (List Key×V)}
end
end L2
namespace Fw
open PySem
end Fw
namespace Fw
open PySem PySem.Spec PyProof.Rows L2
section
variable{X:Cx}{a b c:Expr}{da db dc:D}{pos p p2:Pos}{k:Nat}
end
end Fw
namespace HT
open PySem PyProof.Rows
section
open PySem.SeqAt
open PySem.AutoSeq1 (wpAny_loadPart')
open PySem.MeetsSeq PySem.MeetsSeq2 PySem.MeetsSeq3
end
section
variable{prog:Program}{w:World}{A:Around}{E:Value→Shared→Prop}{s:Shared}
end
end HT
namespace HT
open PySem PySem.W PySem.Calls PyProof.Rows
section
variable{n:Nat}{p:Array Nat}
end
section
variable{prog:Program}{w:World}{A:Around}{E:Value→Shared→Prop}{s:Shared}
end
end HT
namespace Fw
open PySem
end Fw
namespace HT
open PySem PySem.W PySem.Calls PyProof.Rows
section
variable{prog:Program}{w:World}{A:Around}{E:Value→Shared→Prop}{s:Shared}
end
end HT
namespace L2
open PySem PySem.Spec PyProof.Rows Fw
section
variable{X:Cx}
def LsI(K:PySem.W.Frag)(H:Hp):List V→List (List Int)→Prop
 | [],[]=>True
 | v::vs,ns::nss=>(∃a,v=.ref a∧SqL K H a (ns.map V.int))∧LsI K H vs nss
 | _,_=>False
theorem LsI.len{K:PySem.W.Frag}{H:Hp}:∀{vs:List V}{nss:List (List Int)},LsI K H vs nss→vs.length=nss.length
 | [],[],_=>rfl
 | _::_,_::_,h=>by rw[List.length_cons,List.length_cons,LsI.len h.2]
end
end L2
namespace Fw
open PySem PySem.Spec PyProof.Rows L2
section
variable{K:PySem.W.Frag}{F H:Hp}
end
section
variable{X:Cx}{a:Expr}{da:D}{p pos:Pos}{k:Nat}
end
end Fw
namespace Fw
open PySem
end Fw
namespace Fw
open PySem PySem.Spec PyProof.Rows L2
section
variable{K:PySem.W.Frag}{F H:Hp}{α:List Addr}{μ:af}
end
section
variable{X:Cx}{a b:Expr}{da db:D}{pos:Pos}{k:Nat}
end
section
variable{X:Cx}{body:List Stmt}{it:Expr}{dv:D}{d:DS}{pos np:Pos}
end
end Fw
namespace HT
open PySem PySem.Calls PyProof.Rows
section
variable{prog:Program}{w:World}{A:Around}{E:Value→Shared→Prop}{s:Shared}
end
end HT
namespace L2
open PySem PySem.Spec PyProof.Rows Fw
section
variable{X:Cx}
end
end L2
namespace Fw
open PySem PySem.Spec PyProof.Rows L2
section
variable{X:Cx}{a:Expr}{da:D}{p pos:Pos}
end
end Fw
namespace Fw
open PySem
end Fw
namespace L2
open PySem PySem.Spec PyProof.Rows
end L2
namespace Fw
open PySem PySem.Spec PyProof.Rows L2
section
variable{X:Cx}{a b:Expr}{da db:D}{pos:Pos}{k:Nat}
end
section
variable{X:Cx}{a b:Expr}{da db:D}{pos:Pos}{k:Nat}
end
end Fw
namespace Fw
open PySem
def EG:T→T→Option T
 | .str a,.str b=>some (.bl (a==b))
 | _,_=>none
theorem xm(a b:Str):EG (.str a) (.str b)=some (.bl (a==b)):=(rfl)
end Fw
namespace Fw
open PySem L2
theorem EH{X:Cx}{hs:List ExceptHandler}{R R':Str}{d d':DS}(h:CH1 X hs R d)(h':CH1 X hs R' d'):CH X hs (λn=>if n=R then d else if n=R' then d' else uY):=CH.of λn=>by
 by_cases hn:n=R
 ·rw[if_pos hn,hn];exact h
 ·rw[if_neg hn]
  by_cases hn':n=R'
  ·rw[if_pos hn',hn'];exact h'
  ·rw[if_neg hn'];exact G8
theorem HB{K:PySem.W.Frag}:eK K rEq EG:=by
 intro F H v u t t' w Q s hv hu hw q
 cases t with
 | str a =>
  cases t' with
  | str b =>
   cases hw
   cases hv.str
   cases hu.str
   refine⟨rfl,?_⟩
   have e:decide (V.str a=V.str b)=(a==b):=m_
   rw[e]
   exact q _ H F b8.refl (Rep.bl' _)
  | _=>cases hw
 | _=>cases hw
section
variable{X:Cx}{a b:Expr}{da db:D}{pos:Pos}
theorem EI(ha:CE X a da)(hb:CE X b db):CE X (.Compare a [.Eq] [b] pos) (ah EG da db):=DK C3 HB (mG _) ha hb
end
end Fw
namespace Fw.k83
open PySem Fw
def mP:DS :=
 (az (aE 3 (ah aP (aa 2) (aa 0)))
 (az (sIf (ah fEq (aa 3) (dC (.int 0))) uY bB)
 (az (aE 4 (ah aP (aa 1) (aa 0)))
 (az (j0 (ah fNe (aa 3) (dC (.int 1))) (az (aE 4 (ah aP (ah aT (dUn p7 (aa 4)) (ah eD (aa 0) (aa 3))) (aa 0)))
 (aE 3 (ah aP (aa 0) (aa 3)))))
 (aG (aa 4))))))
def nU:FN:=fnV 5 mP
def kh:DS :=
 (aG (bo (eW (aa 2)) [none,some 0,some 1] (aL 0) (dC (.bl true)) (ah aP (ah aT (aa 2) (aa 0)) (aa 1))))
def lh:FN:=fnV 3 kh
def gU:DS :=
 (az (aE 4 (aC (aa 1) (aa 3)))
 (az (sIf (ah fEq (aa 4) (dC (.int 0))) (aG (aa 1)) bB)
 (aG (bo (p9 (aa 1) (aa 2)) [none,none,some 0,some 4] (dn [0,1]) (dC (.bl true)) (ah aP (ah oN (aa 0) (ah aT (aa 3) (aa 1))) (aa 2))))))
def nV:FN:=fnV 5 gU
def d6:DS :=
 (az (eJ (bp (aa 1)) (aL 2) (sIf (ah fNe (aC (aa 0) (aa 2)) (dC (.int 0))) (aG (aa 2)) bB))
 (aG (dC (.non))))
def iR:FN:=fnV 3 d6
def l_:DS :=
 (az (aE 3 (dI (dC (.dct []))))
 (az (aE 4 (dI (fD [])))
 (az (eJ (eW (aa 1)) (aL 5) (az (aE 6 (aa 5))
 (az (eJ (j9 (aa 3)) (dn [7,8]) (aE 6 (aB (cal nV) [(aa 0),(aa 6),(aa 8),(aa 7)])))
 (az (aE 9 (aB (cal iR) [(aa 6),(aa 2)]))
 (sIf (dUn my (aa 9)) (cy (aa 4) (aa 6)) (az (aE 10 (aB (cal lh) [(aa 0),(aB (cal nU) [(aa 0),(dC (.int 1)),(aC (aa 6) (aa 9))]),(aa 6)]))
 (az (eJ (eW (dUn Am (aa 3))) (aL 7) (pT 3 (aa 7) (aB (cal nV) [(aa 0),(ah rD (aa 3) (aa 7)),(aa 10),(aa 9)])))
 (pT 3 (aa 9) (aa 10)))))))))
 (aG (fZ [(aa 3),(aa 4)])))))
def hV:FN:=fnV 11 l_
def cz:DS :=
 (aG (bo (eW (aa 1)) [none,some 0,some 2] (aL 0) (dC (.bl true)) (ah aP (aC (aa 0) (aa 2)) (aa 1))))
def aY:FN:=fnV 3 cz
def kj:DS :=
 (az (aE 2 (dI (oM mr [(dC (.int 0))] (aa 0))))
 (az (dJ 2 (aa 1) (dC (.int 1)))
 (aG (aa 2))))
def ma:FN:=fnD 3 kj
def vB:FN:=fnV 3 kj
def lj:DS :=
 (az (aE 4 (cQ (aa 2)))
 (az (aE 5 (dI (fD [])))
 (az (eJ (bp (aa 1)) (aL 6) (cy (aa 5) (ah bT (ah bT (aB (cal aY) [(aa 0),(aa 2),(aa 6)]) (fD [(ah aP (aC (aa 3) (aa 6)) (aa 0))])) (aB (cal vB) [(aa 1),(aa 6)]))))
 (az (aE 7 (aB (cal hV) [(aa 0),(aa 5),(aa 4)]))
 (az (eJ (eW (aC (aa 7) (dC (.int 1)))) (aL 8) (sIf (ah fNe (aC (aa 8) (aa 4)) (dC (.int 0))) (aG (p6 [(dC (.str "turn")),(dUn cL (aB (cal lh) [(aa 0),(aB (cal nU) [(aa 0),(dC (.int 1)),(aC (aa 8) (aa 4))]),(DC (aa 8) (some (ah bT (aa 4) (dC (.int 1)))) none)]))])) bB))
 (az (aE 9 (dI (oM mr [(dC (.int 0))] (aa 4))))
 (az (eJ (j9 (aC (aa 7) (dC (.int 0)))) (dn [6,10]) (dJ 9 (aa 6) (aC (aa 10) (aa 4))))
 (aG (p6 [(dC (.str "sum")),(aa 9)])))))))))
def kl:FN:=fnK 11 lj
def iF:DS :=
 (az (aE 4 (aB (cal ma) [(aa 2),(aa 3)]))
 (az (eJ (j9 (aa 1)) (dn [5,6]) (dJ 4 (aa 5) (ah aP (dUn p7 (aC (aa 6) (aa 3))) (aa 0))))
 (aG (aa 4))))
def cW:FN:=fnV 7 iF
def fJ:DS :=
 (az (aE 3 (cQ (aa 2)))
 (az (aE 4 (aC (aB (cal hV) [(aa 0),(bo (bp (aa 1)) [none,some 0,some 2] (aL 0) (dC (.bl true)) (aB (cal aY) [(aa 1),(aa 2),(aa 0)])),(aa 3)]) (dC (.int 0))))
 (aG (bo (bp (aa 3)) [none,some 0,some 4,some 3] (aL 0) (ah uq (aa 0) (aa 2)) (aB (cal cW) [(aa 1),(aa 2),(aa 3),(aa 0)])))))
def bU:FN:=fnV 5 fJ
def B7:DS :=
 (aG (bo (uv (aC (aa 0) (dC (.int 2)))) [none,none,some 1] (dn [0,1]) (ah fIn (aC (aa 1) (dC (.int 0))) (aa 2)) (aa 0)))
def gh:FN:=fnV 2 B7
def km:DS :=
 (aG (bo (eW (aa 1)) [none,some 0] (aL 0) (dC (.bl true)) (aC (aC (aC (aa 1) (dC (.int 2))) (aa 0)) (dC (.int 1)))))
def b9:FN:=fnV 2 km
def gW:DS :=
 (aG (dUn cL (bo (bp (aa 0)) [none] (aL 0) (dC (.bl true)) (Gs (ah fEq (aa 0) (dC (.int 0))) (dC (.int 1)) (dC (.int 0))))))
def cG:FN:=fnV 1 gW
def eZ:DS :=
 (az (aE 2 (aB (cal kl) [(aC (aa 0) (dC (.int 0))),(aC (aa 0) (dC (.int 1))),(aB (cal b9) [(aa 0),(aa 1)]),(aB (cal cG) [(aC (aa 0) (dC (.int 1)))])]))
 (az (sIf (ah fEq (aC (aa 2) (dC (.int 0))) (dC (.str "sum"))) (aG (p6 [(dC (.str "open")),(aC (aa 2) (dC (.int 1)))])) bB)
 (aG (p6 [(dC (.str "shut")),(aC (aa 2) (dC (.int 1)))]))))
def dM:FN:=fnK 3 eZ
def dN:FN:=fnV 3 eZ
def ko:DS :=
 (aG (aB (cal dM) [(aa 0),(aB (cal gh) [(aa 0),(aa 1)])]))
def jM:FN:=fnV 2 ko
def rY:DS :=
 (az (aE 1 (aC (aa 0) (dC (.int 0))))
 (az (aE 2 (aC (aa 0) (dC (.int 2))))
 (az (sIf (ah fGt (cQ (aa 2)) (dC (.int 12))) uY bB)
 (az (aE 3 (dUn G7 (cQ (aa 2))))
 (az (aE 4 (aB (cal dN) [(aa 0),(aa 3)]))
 (az (sIf (ah fEq (aC (aa 4) (dC (.int 0))) (dC (.str "shut"))) uY bB)
 (az (aE 5 (ah bT (fD [(aC (aa 4) (dC (.int 1)))]) (aB (cal bU) [(aa 1),(aC (aa 0) (dC (.int 1))),(aB (cal b9) [(aa 0),(aa 3)])])))
 (az (aE 6 (bo (uv (aa 2)) [none,none,some 1,some 5] (dn [0,1]) (dC (.bl true)) (fZ [(aC (aa 1) (dC (.int 0))),(dUn cL (aB (cal aY) [(aa 2),(aa 3),(aa 0)]))])))
 (aG (fZ [(aa 1),(cQ (aa 5)),(dUn cL (aa 6))]))))))))))
def qa:FN:=fnV 7 rY
def fW:DS :=
 (az (aE 1 (aC (aa 0) (dC (.int 0))))
 (az (aE 2 (aC (aa 0) (dC (.int 2))))
 (az (sIf (ah fGt (cQ (aa 2)) (dC (.int 12))) (vb "TooMany") bB)
 (az (aE 3 (dUn G7 (cQ (aa 2))))
 (az (aE 4 (aB (cal dN) [(aa 0),(aa 3)]))
 (az (sIf (ah fEq (aC (aa 4) (dC (.int 0))) (dC (.str "shut"))) (vb "NoFit") bB)
 (hG (az (aE 5 (ah bT (fD [(aC (aa 4) (dC (.int 1)))]) (aB (cal bU) [(aa 1),(aC (aa 0) (dC (.int 1))),(aB (cal b9) [(aa 0),(aa 3)])])))
 (az (aE 6 (bo (uv (aa 2)) [none,none,some 1,some 5] (dn [0,1]) (dC (.bl true)) (fZ [(aC (aa 1) (dC (.int 0))),(dUn cL (aB (cal aY) [(aa 2),(aa 3),(aa 0)]))])))
 (aG (fZ [(aa 1),(cQ (aa 5)),(dUn cL (aa 6))])))))))))))
def aJ:FN:=fnV 7 fW
def xn:DS :=
 (az (sIf (ah fLt (aa 1) (cQ (aa 0))) (aG (aC (aa 0) (aa 1))) bB)
 (az (aE 2 (ah bT (ah aT (aa 1) (dC (.int 48271))) (dC (.int 977))))
 (az (sIf (ah fGt (cQ (aa 0)) (dC (.int 0))) (aE 2 (ah bT (aa 2) (ah aT (ah aP (aC (aa 0) (ah aP (ah aT (aa 1) (dC (.int 3))) (cQ (aa 0)))) (dC (.int 2147483647))) (dC (.int 40692))))) bB)
 (aG (ah aP (ah aT (ah aP (ah aT (aa 2) (aa 2)) (dC (.int 2147483629))) (dC (.int 69621))) (dC (.int 2147483587)))))))
def bg:FN:=fnV 3 xn
def vC:DS :=
 (az (aE 2 (ah aP (ah aT (ah bT (ah aP (aa 0) (dC (.int 2147483647))) (dC (.int 1))) (ah bT (dC (.int 48271)) (ah aT (aa 1) (aa 1)))) (dC (.int 2147483629))))
 (aG (ah aP (ah aT (ah aP (ah aT (aa 2) (ah bT (aa 2) (ah aT (dC (.int 977)) (aa 1)))) (dC (.int 2147483587))) (dC (.int 40692))) (dC (.int 2147483399)))))
def jt:FN:=fnV 3 vC
def rZ:DS :=
 (az (aE 4 (dI (fD [])))
 (az (eJ (bp (aa 2)) (aL 5) (sIf (aa 3) (az (cy (aa 4) (ah aP (aa 0) (aa 1)))
 (aE 0 (ah eD (aa 0) (aa 1)))) (cy (aa 4) (ah aP (ah eD (aB (cal jt) [(aa 0),(aa 5)]) (dC (.int 7))) (aa 1)))))
 (aG (aa 4))))
def ij:FN:=fnD 6 rZ
def vD:DS :=
 (az (aE 3 (aB (cal bg) [(aa 0),(aa 1)]))
 (az (aE 4 (ah fEq (ah aP (aa 3) (dC (.int 2))) (dC (.int 0))))
 (az (aE 5 (ah bT (dC (.int 1)) (ah aP (ah eD (aa 3) (dC (.int 2))) (dC (.int 4)))))
 (az (aE 6 (ah aP (ah eD (aa 3) (dC (.int 8))) (dC (.int 7))))
 (az (aE 7 (ah bT (dC (.int 1)) (ah aP (ah eD (aa 3) (dC (.int 56))) (dC (.int 5)))))
 (az (sIf (ah fEq (ah aP (ah eD (aa 3) (dC (.int 280))) (dC (.int 8))) (dC (.int 5))) (az (aE 5 (ah bT (aa 5) (dC (.int 2))))
 (aE 6 (ah bT (aa 6) (dC (.int 5))))) bB)
 (az (aE 8 (dI (fD [])))
 (az (eJ (bp (aa 6)) (aL 9) (az (aE 3 (aB (cal bg) [(aa 0),(ah bT (ah bT (aa 1) (dC (.int 1))) (aa 9))]))
 (az (aE 10 (aB (cal ij) [(ah eD (aa 3) (dC (.int 100))),(aa 2),(aa 5),(aa 4)]))
 (az (sIf (ah fEq (ah aP (ah eD (aa 3) (dC (.int 10))) (dC (.int 5))) (dC (.int 1))) (az (aE 11 (ah aP (ah eD (aa 3) (dC (.int 100))) (aa 2)))
 (az (aE 10 (dI (fD [(dC (.int 1))])))
 (j0 (ah fLt (cQ (aa 10)) (aa 5)) (cy (aa 10) (ah aP (ah aT (aC (aa 10) (dUn p7 (dC (.int 1)))) (aa 11)) (aa 2)))))) bB)
 (cy (aa 8) (fZ [(ah aP (aa 3) (aa 7)),(dUn cL (aa 10))]))))))
 (aG (fZ [(aa 2),(aa 5),(dUn cL (aa 8))]))))))))))
def fK:FN:=fnV 12 vD
def EJ:DS :=
 (aG (aC (fD [(dC (.int 2)),(dC (.int 3)),(dC (.int 5)),(dC (.int 7)),(dC (.int 11)),(dC (.int 13)),(dC (.int 2)),(dC (.int 97))]) (ah aP (aa 0) (dC (.int 8)))))
def jN:FN:=fnV 1 EJ
def xo:DS :=
 (aG (bo (bp (cQ (aC (aa 0) (dC (.int 2))))) [none,some 1,some 0] (aL 0) (ah fIn (aC (aC (aC (aa 2) (dC (.int 2))) (aa 0)) (dC (.int 0))) (aa 1)) (aa 0)))
def kq:FN:=fnV 2 xo
def vE:DS :=
 (aG (kQ (dIs .int (aa 0)) (kQ (dz (dIs .bool (aa 0))) (kU fLe fLt (dC (.int 0)) (aa 0) (aa 1)))))
def bV:FN:=fnV 2 vE
def r8:DS :=
 (az (tj [3,4,5] (aa 0))
 (az (sIf (dOr (dz (dIs .list (aa 2))) (ah fNe (cQ (aa 2)) (cQ (aa 1)))) (aG (dC (.bl false))) bB)
 (az (sIf (dz (dUn nG (bo (eW (aa 2)) [none,some 3] (aL 0) (dC (.bl true)) (aB (cal bV) [(aa 0),(aa 1)])))) (aG (dC (.bl false))) bB)
 (az (eJ (bp (aa 4)) (aL 6) (az (aE 7 (dUn qO (bo (p9 (aa 1) (aa 2)) [none,none,some 6,some 5] (dn [0,1]) (dC (.bl true)) (ah aT (aa 1) (aC (aC (aC (aa 3) (aa 0)) (dC (.int 1))) (aa 2))))))
 (sIf (ah fNe (ah aP (aa 7) (aa 3)) (dUn va (ah fEq (aa 6) (dC (.int 0))))) (aG (dC (.bl false))) bB)))
 (aG (dC (.bl true)))))))
def il:FN:=fnV 8 r8
def r_:DS :=
 (az (tj [3,4,5] (aa 0))
 (az (sIf (dOr (dz (dIs .tuple (aa 2))) (dOr (ah fNe (cQ (aa 2)) (aa 4)) (dz (dUn nG (bo (eW (aa 2)) [none,some 3] (aL 0) (dC (.bl true)) (aB (cal bV) [(aa 0),(aa 1)])))))) (aG (dC (.bl false))) bB)
 (az (sIf (ah fNe (aC (aa 2) (dC (.int 0))) (dC (.int 1))) (aG (dC (.bl false))) bB)
 (aG (dUn nG (bo (eW (aa 1)) [none,some 3,some 2,some 5] (aL 0) (dC (.bl true)) (ah fEq (ah aP (dUn qO (bo (p9 (aC (aC (aa 3) (aa 0)) (dC (.int 1))) (aa 2)) [none,none] (dn [0,1]) (dC (.bl true)) (ah aT (aa 0) (aa 1)))) (aa 1)) (dC (.int 0)))))))))
def ip:FN:=fnV 6 r_
def nW:DS :=
 (az (sIf (dOr (dz (dIs .tuple (aa 2))) (ah fNe (cQ (aa 2)) (dC (.int 2)))) (aG (dC (.bl false))) bB)
 (az (aE 3 (aB (cal kq) [(aa 0),(aa 1)]))
 (az (sIf (ah fEq (aC (aa 2) (dC (.int 0))) (dC (.str "open"))) (aG (aB (cal il) [(aa 0),(aa 3),(aC (aa 2) (dC (.int 1)))])) bB)
 (aG (kQ (ah fEq (aC (aa 2) (dC (.int 0))) (dC (.str "shut"))) (aB (cal ip) [(aa 0),(aa 3),(aC (aa 2) (dC (.int 1)))]))))))
def b6:FN:=fnV 4 nW
def nX:DS :=
 (aG (fZ [(aC (aa 0) (dC (.int 0))),(aC (aa 0) (dC (.int 1))),(dUn cL (bo (eW (aC (aa 0) (dC (.int 2)))) [none,none,some 1] (dn [0,1]) (dC (.bl true)) (fZ [(ah aP (aa 0) (aa 2)),(aa 1)])))]))
def eQ:FN:=fnV 2 nX
def mB:DS :=
 (az (tj [3,4,5] (aa 0))
 (az (aE 6 (ah bT (fD [(dC (.int 1))]) (oM mr [(dC (.int 0))] (ah oN (aa 4) (dC (.int 1))))))
 (az (eJ (eW (aa 5)) (dn [7,8]) (aE 6 (bo (p9 (aa 6) (aa 8)) [none,none,some 3,some 2] (dn [0,1]) (dC (.bl true)) (ah aP (ah bT (aa 0) (ah aT (ah eD (aa 3) (dC (.int 9))) (aa 1))) (aa 2)))))
 (aG (fZ [(aa 3),(aa 4),(ah bT (aa 5) (fZ [(fZ [(ah aP (aa 2) (aa 1)),(dUn cL (aa 6))])]))])))))
def lq:DS:=(tj [3,4,5] (aa 0))
def lu:DS:=(aE 6 (ah bT (fD [(dC (.int 1))]) (oM mr [(dC (.int 0))] (ah oN (aa 4) (dC (.int 1))))))
def lx:DS:=(eJ (eW (aa 5)) (dn [7,8]) (aE 6 (bo (p9 (aa 6) (aa 8)) [none,none,some 3,some 2] (dn [0,1]) (dC (.bl true)) (ah aP (ah bT (aa 0) (ah aT (ah eD (aa 3) (dC (.int 9))) (aa 1))) (aa 2)))))
def ly:DS:=(aG (fZ [(aa 3),(aa 4),(ah bT (aa 5) (fZ [(fZ [(ah aP (aa 2) (aa 1)),(dUn cL (aa 6))])]))]))
def lA:DS:=ly
def lB:DS:=az lx lA
def lC:DS:=az lu lB
def pV:DS:=az lq lC
theorem xp:mB=pV:=rfl
theorem sa(e:Slots)(μ:af):pV e μ=(lq e μ).seq lC:=rfl
theorem sd(e:Slots)(μ:af):lC e μ=(lu e μ).seq lB:=rfl
theorem se(e:Slots)(μ:af):lB e μ=(lx e μ).seq lA:=rfl
theorem sf(e:Slots)(μ:af):lA e μ=ly e μ:=rfl
def eg:FN:=fnV 9 mB
def nY:DS :=
 (az (aE 2 (dI (fD [])))
 (az (eJ (bp (ah yw (dC (.int 1)) (aa 1))) (aL 3) (az (aE 4 (bo (bp (aa 1)) [none,some 3] (aL 0) (ah fEq (ah j_ (ah wH (aa 1) (aa 0)) (dC (.int 1))) (dC (.int 1))) (aa 0)))
 (az (aE 5 (aB (cal jM) [(aa 0),(aa 4)]))
 (az (sIf (dz (aB (cal b6) [(aa 0),(aa 4),(aa 5)])) (aG (dC (.non))) bB)
 (cy (aa 2) (ah fEq (aC (aa 5) (dC (.int 0))) (dC (.str "open"))))))))
 (aG (aa 2))))
def mQ:DS:=(aE 2 (dI (fD [])))
def mR:DS:=(eJ (bp (ah yw (dC (.int 1)) (aa 1))) (aL 3) (az (aE 4 (bo (bp (aa 1)) [none,some 3] (aL 0) (ah fEq (ah j_ (ah wH (aa 1) (aa 0)) (dC (.int 1))) (dC (.int 1))) (aa 0)))
 (az (aE 5 (aB (cal jM) [(aa 0),(aa 4)]))
 (az (sIf (dz (aB (cal b6) [(aa 0),(aa 4),(aa 5)])) (aG (dC (.non))) bB)
 (cy (aa 2) (ah fEq (aC (aa 5) (dC (.int 0))) (dC (.str "open"))))))))
def mS:DS:=(aG (aa 2))
def mT:DS:=mS
def mU:DS:=az mR mT
def sg:DS:=az mQ mU
theorem zd:nY=sg:=rfl
theorem tH(e:Slots)(μ:af):sg e μ=(mQ e μ).seq mU:=rfl
theorem tI(e:Slots)(μ:af):mU e μ=(mR e μ).seq mT:=rfl
theorem tJ(e:Slots)(μ:af):mT e μ=mS e μ:=rfl
def cX:FN:=fnV 6 nY
def ja:DS :=
 (o8 (aG (aB aJ [(aa 0)])) (λn=>if n="NoFit" then (sAs 1 "NoFit" (az (sIf (dOr (kL (λn=>if n="NoFit" then some false else none) (aa 1)) (dz (kL (λn=>if n="NoFit" then some true else none) (aa 1)))) (aG (dC (.str "other"))) bB)
 (aG (aC (fD [(aC (fD [(dC (.str "other")),(dC (.str "fit"))]) (dUn va (kL (λn=>if n="NoFit" then some true else none) (aa 1)))),(dC (.str "many"))]) (dUn va (kL (λn=>if n="NoFit" then some false else none) (aa 1))))))) else if n="TooMany" then (sAs 1 "TooMany" (az (sIf (dOr (kL (λn=>if n="TooMany" then some false else none) (aa 1)) (dz (kL (λn=>if n="TooMany" then some true else none) (aa 1)))) (aG (dC (.str "other"))) bB)
 (aG (aC (fD [(aC (fD [(dC (.str "other")),(dC (.str "fit"))]) (dUn va (kL (λn=>if n="TooMany" then some false else none) (aa 1)))),(dC (.str "many"))]) (dUn va (kL (λn=>if n="TooMany" then some true else none) (aa 1))))))) else uY))
def cA:FN:=fnV 2 ja
def iS:DS :=
 (az (o8 (wL (aB aJ [(aa 0)])) (λn=>if n="NoFit" then (sAs 2 "NoFit" (aG (kQ (ah EG (aa 1) (dC (.str "fit"))) (dz (kL (λn=>if n="NoFit" then some false else none) (aa 2)))))) else if n="TooMany" then (hG (aG (ah EG (aa 1) (dC (.str "many"))))) else uY))
 (aG (dC (.bl false))))
def bK:FN:=fnV 3 iS
def kG:DS :=
 (az (sIf (dOr (dz (dIs .tuple (aa 0))) (dOr (ah fNe (cQ (aa 0)) (dC (.int 3))) (dOr (ah fNe (aC (aa 0) (dC (.int 0))) (aC (aa 1) (dC (.int 0)))) (dz (dIs .tuple (aC (aa 0) (dC (.int 2)))))))) (aG (dC (.bl false))) bB)
 (az (sIf (dOr (dz (dIs .int (aC (aa 0) (dC (.int 1))))) (dOr (dIs .bool (aC (aa 0) (dC (.int 1)))) (dz (kU fLe fLe (dC (.int 1)) (aC (aa 0) (dC (.int 1))) (dC (.int 12)))))) (aG (dC (.bl false))) bB)
 (az (sIf (ah fNe (bo (eW (aC (aa 0) (dC (.int 2)))) [none] (aL 0) (dC (.bl true)) (aC (aa 0) (dC (.int 0)))) (bo (eW (aC (aa 1) (dC (.int 2)))) [none] (aL 0) (dC (.bl true)) (aC (aa 0) (dC (.int 0))))) (aG (dC (.bl false))) bB)
 (az (eJ (eW (aC (aa 0) (dC (.int 2)))) (aL 2) (az (sIf (dOr (dz (dIs .tuple (aa 2))) (dOr (ah fNe (cQ (aa 2)) (dC (.int 2))) (dOr (dz (dIs .tuple (aC (aa 2) (dC (.int 1))))) (ah fNe (cQ (aC (aa 2) (dC (.int 1)))) (aC (aa 0) (dC (.int 1))))))) (aG (dC (.bl false))) bB)
 (sIf (dz (dUn nG (bo (eW (aC (aa 2) (dC (.int 1)))) [none,some 0] (aL 0) (dC (.bl true)) (aB (cal bV) [(aa 0),(aC (aa 1) (dC (.int 0)))])))) (aG (dC (.bl false))) bB)))
 (aG (dC (.bl true)))))))
def ju:DS:=(sIf (dOr (dz (dIs .tuple (aa 0))) (dOr (ah fNe (cQ (aa 0)) (dC (.int 3))) (dOr (ah fNe (aC (aa 0) (dC (.int 0))) (aC (aa 1) (dC (.int 0)))) (dz (dIs .tuple (aC (aa 0) (dC (.int 2)))))))) (aG (dC (.bl false))) bB)
def jv:DS:=(sIf (dOr (dz (dIs .int (aC (aa 0) (dC (.int 1))))) (dOr (dIs .bool (aC (aa 0) (dC (.int 1)))) (dz (kU fLe fLe (dC (.int 1)) (aC (aa 0) (dC (.int 1))) (dC (.int 12)))))) (aG (dC (.bl false))) bB)
def jw:DS:=(sIf (ah fNe (bo (eW (aC (aa 0) (dC (.int 2)))) [none] (aL 0) (dC (.bl true)) (aC (aa 0) (dC (.int 0)))) (bo (eW (aC (aa 1) (dC (.int 2)))) [none] (aL 0) (dC (.bl true)) (aC (aa 0) (dC (.int 0))))) (aG (dC (.bl false))) bB)
def jx:DS:=(eJ (eW (aC (aa 0) (dC (.int 2)))) (aL 2) (az (sIf (dOr (dz (dIs .tuple (aa 2))) (dOr (ah fNe (cQ (aa 2)) (dC (.int 2))) (dOr (dz (dIs .tuple (aC (aa 2) (dC (.int 1))))) (ah fNe (cQ (aC (aa 2) (dC (.int 1)))) (aC (aa 0) (dC (.int 1))))))) (aG (dC (.bl false))) bB)
 (sIf (dz (dUn nG (bo (eW (aC (aa 2) (dC (.int 1)))) [none,some 0] (aL 0) (dC (.bl true)) (aB (cal bV) [(aa 0),(aC (aa 1) (dC (.int 0)))])))) (aG (dC (.bl false))) bB)))
def jy:DS:=(aG (dC (.bl true)))
def jz:DS:=jy
def jA:DS:=az jx jz
def jB:DS:=az jw jA
def jC:DS:=az jv jB
def mC:DS:=az ju jC
theorem tK:kG=mC:=rfl
theorem pd(e:Slots)(μ:af):mC e μ=(ju e μ).seq jC:=rfl
theorem pe(e:Slots)(μ:af):jC e μ=(jv e μ).seq jB:=rfl
theorem pf(e:Slots)(μ:af):jB e μ=(jw e μ).seq jA:=rfl
theorem pg(e:Slots)(μ:af):jA e μ=(jx e μ).seq jz:=rfl
theorem ph(e:Slots)(μ:af):jz e μ=jy e μ:=rfl
def dw:FN:=fnV 3 kG
def EK:DS :=
 (az (aE 1 (aB (cal jN) [(aB (cal bg) [(aa 0),(dC (.int 0))])]))
 (az (aE 2 (ah bT (dC (.int 1)) (ah aP (aB (cal bg) [(aa 0),(dC (.int 1))]) (dC (.int 5)))))
 (az (aE 3 (ah aP (aB (cal bg) [(aa 0),(dC (.int 2))]) (ah Du (dC (.int 10)) (dC (.int 9)))))
 (az (aE 4 (aB (cal eQ) [(aB (cal fK) [(aa 0),(dC (.int 10)),(aa 1)]),(aa 2)]))
 (az (sIf (ah fGt (ah aP (aa 3) (dC (.int 3))) (dC (.int 0))) (aE 4 (aB (cal eg) [(aa 4),(aa 2),(ah eD (aa 3) (dC (.int 3)))])) bB)
 (az (sIf (kQ (ah fEq (ah aP (aB (cal bg) [(aa 0),(dC (.int 3))]) (dC (.int 8))) (dC (.int 5))) (ah fNe (aC (aa 4) (dC (.int 2))) (fZ []))) (aE 4 (fZ [(aa 1),(aC (aa 4) (dC (.int 1))),(Ay (ah rF (aC (aa 4) (dC (.int 2))) (dC (.int 13))) none (some (ah bT (dC (.int 13)) (ah aP (ah eD (aB (cal bg) [(aa 0),(dC (.int 3))]) (dC (.int 8))) (dC (.int 4))))))])) bB)
 (az (aE 5 (aB (cal cX) [(aa 4),(aa 2)]))
 (az (sIf (dUn my (aa 5)) (aG (dC (.bl false))) bB)
 (az (aE 6 (aB (cal cA) [(aa 4)]))
 (az (sIf (ah fGt (cQ (aC (aa 4) (dC (.int 2)))) (dC (.int 12))) (aG (kQ (ah fEq (aa 6) (dC (.str "many"))) (aB (cal bK) [(aa 4),(dC (.str "many"))]))) bB)
 (az (sIf (dz (aC (aa 5) (dUn p7 (dC (.int 1))))) (aG (kQ (ah fEq (aa 6) (dC (.str "fit"))) (aB (cal bK) [(aa 4),(dC (.str "fit"))]))) bB)
 (az (sIf (dz (aB (cal dw) [(aa 6),(aa 4)])) (aG (dC (.bl false))) bB)
 (az (aE 7 (aB (cal cX) [(aa 6),(aa 2)]))
 (aG (ah fEq (aa 7) (bo (bp (cQ (aa 5))) [none,some 5] (aL 0) (dC (.bl true)) (dz (aC (aa 1) (ah oN (ah oN (cQ (aa 1)) (dC (.int 1))) (aa 0))))))))))))))))))))
def ze:DS:=(aE 1 (aB (cal jN) [(aB (cal bg) [(aa 0),(dC (.int 0))])]))
def zf:DS:=(aE 2 (ah bT (dC (.int 1)) (ah aP (aB (cal bg) [(aa 0),(dC (.int 1))]) (dC (.int 5)))))
def zg:DS:=(aE 3 (ah aP (aB (cal bg) [(aa 0),(dC (.int 2))]) (ah Du (dC (.int 10)) (dC (.int 9)))))
def zh:DS:=(aE 4 (aB (cal eQ) [(aB (cal fK) [(aa 0),(dC (.int 10)),(aa 1)]),(aa 2)]))
def zi:DS:=(sIf (ah fGt (ah aP (aa 3) (dC (.int 3))) (dC (.int 0))) (aE 4 (aB (cal eg) [(aa 4),(aa 2),(ah eD (aa 3) (dC (.int 3)))])) bB)
def zj:DS:=(sIf (kQ (ah fEq (ah aP (aB (cal bg) [(aa 0),(dC (.int 3))]) (dC (.int 8))) (dC (.int 5))) (ah fNe (aC (aa 4) (dC (.int 2))) (fZ []))) (aE 4 (fZ [(aa 1),(aC (aa 4) (dC (.int 1))),(Ay (ah rF (aC (aa 4) (dC (.int 2))) (dC (.int 13))) none (some (ah bT (dC (.int 13)) (ah aP (ah eD (aB (cal bg) [(aa 0),(dC (.int 3))]) (dC (.int 8))) (dC (.int 4))))))])) bB)
def zk:DS:=(aE 5 (aB (cal cX) [(aa 4),(aa 2)]))
def zl:DS:=(sIf (dUn my (aa 5)) (aG (dC (.bl false))) bB)
def zm:DS:=(aE 6 (aB (cal cA) [(aa 4)]))
def si:DS:=(sIf (ah fGt (cQ (aC (aa 4) (dC (.int 2)))) (dC (.int 12))) (aG (kQ (ah fEq (aa 6) (dC (.str "many"))) (aB (cal bK) [(aa 4),(dC (.str "many"))]))) bB)
def qp:DS:=(sIf (dz (aC (aa 5) (dUn p7 (dC (.int 1))))) (aG (kQ (ah fEq (aa 6) (dC (.str "fit"))) (aB (cal bK) [(aa 4),(dC (.str "fit"))]))) bB)
def vF:DS:=(sIf (dz (aB (cal dw) [(aa 6),(aa 4)])) (aG (dC (.bl false))) bB)
def vG:DS:=(aE 7 (aB (cal cX) [(aa 6),(aa 2)]))
def vH:DS:=(aG (ah fEq (aa 7) (bo (bp (cQ (aa 5))) [none,some 5] (aL 0) (dC (.bl true)) (dz (aC (aa 1) (ah oN (ah oN (cQ (aa 1)) (dC (.int 1))) (aa 0)))))))
def vI:DS:=vH
def vJ:DS:=az vG vI
def vK:DS:=az vF vJ
def vL:DS:=az qp vK
def zo:DS:=az si vL
def zp:DS:=az zm zo
def zq:DS:=az zl zp
def vM:DS:=az zk zq
def vN:DS:=az zj vM
def zr:DS:=az zi vN
def zt:DS:=az zh zr
def zu:DS:=az zg zt
def zv:DS:=az zf zu
def EL:DS:=az ze zv
theorem KD:EK=EL:=rfl
theorem B8(e:Slots)(μ:af):EL e μ=(ze e μ).seq zv:=rfl
theorem B9(e:Slots)(μ:af):zv e μ=(zf e μ).seq zu:=rfl
theorem B_(e:Slots)(μ:af):zu e μ=(zg e μ).seq zt:=rfl
theorem Ca(e:Slots)(μ:af):zt e μ=(zh e μ).seq zr:=rfl
theorem Cb(e:Slots)(μ:af):zr e μ=(zi e μ).seq vN:=rfl
theorem Cc(e:Slots)(μ:af):vN e μ=(zj e μ).seq vM:=rfl
theorem Cd(e:Slots)(μ:af):vM e μ=(zk e μ).seq zq:=rfl
theorem Ce(e:Slots)(μ:af):zq e μ=(zl e μ).seq zp:=rfl
theorem Cf(e:Slots)(μ:af):zp e μ=(zm e μ).seq zo:=rfl
theorem pj(e:Slots)(μ:af):zo e μ=(si e μ).seq vL:=rfl
theorem sj(e:Slots)(μ:af):vL e μ=(qp e μ).seq vK:=rfl
theorem zw(e:Slots)(μ:af):vK e μ=(vF e μ).seq vJ:=rfl
theorem zx(e:Slots)(μ:af):vJ e μ=(vG e μ).seq vI:=rfl
theorem zy(e:Slots)(μ:af):vI e μ=vH e μ:=rfl
def pk:FN:=fnV 8 EK
end Fw.k83
section
set_option maxHeartbeats 4000000
namespace Fw.k83
open PySem L2 Fw
seal Fw.CE Fw.CT Fw.CA Fw.CS Fw.CSs Fw.CI Fw.CB Fw.CF Fw.CW Fw.CO L2.mv
def top(i:Nat):Stmt:=PySem.Challenge.pw_fewopen_k83_tables_turned_about.main.body.getD i (.Pass ⟨0,0,0,0⟩)
noncomputable abbrev kr : Stmt := top 8
noncomputable abbrev gX : Stmt := top 10
noncomputable abbrev iG : Stmt := top 11
noncomputable abbrev cY : Stmt := top 12
noncomputable abbrev iH : Stmt := top 13
noncomputable abbrev bZ : Stmt := top 14
noncomputable abbrev jD : Stmt := top 15
noncomputable abbrev ku : Stmt := top 16
noncomputable abbrev dO : Stmt := top 17
noncomputable abbrev bW : Stmt := top 18
noncomputable abbrev fC : Stmt := top 20
noncomputable abbrev cO : Stmt := top 22
noncomputable abbrev cf : Stmt := top 23
noncomputable abbrev cH : Stmt := top 24
noncomputable abbrev jb : Stmt := top 25
noncomputable abbrev br : Stmt := top 28
noncomputable abbrev dP : Stmt := top 30
noncomputable abbrev dQ : Stmt := top 31
noncomputable abbrev cI : Stmt := top 32
noncomputable abbrev dR : Stmt := top 33
noncomputable abbrev hX : Stmt := top 34
noncomputable abbrev dS : Stmt := top 36
noncomputable abbrev cB : Stmt := top 38
noncomputable abbrev bX : Stmt := top 39
noncomputable abbrev bE : Stmt := top 40
noncomputable abbrev bP : Stmt := top 41
noncomputable abbrev cS : Stmt := top 42
noncomputable abbrev cC : Stmt := top 43
noncomputable abbrev cT : Stmt := top 44
noncomputable abbrev ei : Stmt := top 45
noncomputable abbrev cJ : Stmt := top 46
noncomputable abbrev bu : Stmt := top 47
noncomputable abbrev lD : Stmt := top 48
structure Tx(K:PySem.W.Frag)(mg:Str→Option Value):Prop where
 nZ:mg "ValueError"=none
 AJ:mg "all"=none
 EM:mg "bool"=none
 lE:mg "enumerate"=none
 sk:mg "int"=none
 aS:mg "isinstance"=none
 e8:mg "len"=none
 vO:mg "list"=none
 eV:mg "range"=none
 IC:mg "sum"=none
 d9:mg "tuple"=none
 AK:mg "zip"=none
 pW:∃tk,mg "MOST_ROWS"=some (.int 12 tk)
structure Ec(K:PySem.W.Frag)(mg:Str→Option Value)(aj au ai aq aw ax:Addr):Prop where
 gm:mg "TooMany"=some (.ref aj)
 jO:PySem.W.nsIn K mainGlobals "TooMany"=some (some (.ref aj))
 jP:PySem.W.excIn K aj bmV "ValueError.__new__"=true
 me:D6 K aj
 kx:mg "NoFit"=some (.ref au)
 ky:PySem.W.nsIn K mainGlobals "NoFit"=some (some (.ref au))
 n_:PySem.W.excIn K au bmV "ValueError.__new__"=true
 oa:D6 K au
 pX:mg "OpenError"=some (.ref ai)
 ID:PySem.W.nsIn K mainGlobals "OpenError"=some (some (.ref ai))
 pY:PySem.W.excIn K ai bmV "ValueError.__new__"=true
 sm:mg "NoNumber"=some (.ref aq)
 KG:PySem.W.nsIn K mainGlobals "NoNumber"=some (some (.ref aq))
 xq:mg "NoText"=some (.ref aw)
 MP:PySem.W.nsIn K mainGlobals "NoText"=some (some (.ref aw))
 xr:mg "TooFew"=some (.ref ax)
 MQ:PySem.W.nsIn K mainGlobals "TooFew"=some (some (.ref ax))
 s0:(p_ K au).contains (.ref ai)=true
 s1:PySem.W.kitAny K (.ref au) [.ref aq,.ref aw,.ref ax]=some false
 s2:PySem.W.kitOne K (.ref au) (.type "ValueError")=some true
 s3:PySem.W.kitOne K (.ref au) (.ref au)=some true
 s4:PySem.W.kitOne K (.ref au) (.ref aj)=some false
 s5:(p_ K aj).contains (.ref ai)=true
 s6:PySem.W.kitAny K (.ref aj) [.ref aq,.ref aw,.ref ax]=some false
 s7:PySem.W.kitOne K (.ref aj) (.type "ValueError")=some true
 s8:PySem.W.kitOne K (.ref aj) (.ref au)=some false
 s9:PySem.W.kitOne K (.ref aj) (.ref aj)=some true
 s10:(p_ K au).contains (.ref au)=true
 s11:(p_ K aj).contains (.ref au)=false
 s12:(p_ K aj).contains (.ref aj)=true
noncomputable abbrev n0 : List Str := ["entry", "p", "number"]
noncomputable abbrev n1 : List Str := ["p", "number", "row"]
noncomputable abbrev n2 : List Str := ["entry", "other", "p", "number"]
noncomputable abbrev n3 : List Str := ["p", "row", "lead", "place", "number"]
noncomputable abbrev n4 : List Str := ["line", "p", "place"]
noncomputable abbrev n5 : List Str := ["p", "lines", "place"]
noncomputable abbrev n6 : List Str := ["place", "p", "lines"]
noncomputable abbrev n7 : List Str := ["p", "width", "lines", "many", "leads"]
noncomputable abbrev n8 : List Str := ["free", "p", "leads", "many"]
noncomputable abbrev n9 : List Str := ["number", "row", "hands"]
noncomputable abbrev n10 : List Str := ["table", "hands"]
noncomputable abbrev n11 : List Str := ["number", "table"]
noncomputable abbrev n12 : List Str := ["table", "numbers"]
noncomputable abbrev n13 : List Str := ["place"]
noncomputable abbrev n14 : List Str := ["wide"]
noncomputable abbrev n15 : List Str := ["number", "row", "p", "columns"]
noncomputable abbrev n16 : List Str := ["table", "p", "rows", "numbers", "found", "columns", "turned"]
noncomputable abbrev n17 : List Str := ["_law_k", "_law_hands_here", "_law_table_here"]
noncomputable abbrev n18 : List Str := ["_law_table_here", "_law_hands_here"]
noncomputable abbrev n19 : List Str := ["_law_number", "_law_p_here"]
noncomputable abbrev n20 : List Str := ["_law_table_here", "_law_numbers_here", "_law_multipliers", "_law_p_here", "_law_wide", "_law_rows_here", "_law_place", "_law_total"]
noncomputable abbrev n21 : List Str := ["_law_k", "_law_times", "_law_place", "_law_rows_here"]
noncomputable abbrev n22 : List Str := ["_law_table_here", "_law_numbers_here", "_law_turn", "_law_p_here", "_law_wide", "_law_rows_here"]
noncomputable abbrev n23 : List Str := ["_law_a", "_law_b"]
noncomputable abbrev n24 : List Str := ["_law_k", "_law_p_here", "_law_turn", "_law_rows_here"]
noncomputable abbrev n25 : List Str := ["_law_hand", "_law_line", "_law_many"]
noncomputable abbrev n26 : List Str := ["_law_table_here", "_law_many"]
noncomputable abbrev n27 : List Str := ["_law_a", "_law_b", "_law_p_here", "_law_cell_here"]
noncomputable abbrev n28 : List Str := ["_law_table_here", "_law_many", "_law_cell_here", "_law_p_here", "_law_wide", "_law_rows_here", "_law_due", "_law_hand", "_law_line"]
noncomputable abbrev n29 : List Str := ["_law_hand", "_law_number"]
noncomputable abbrev n30 : List Str := ["_law_table_here", "_law_many", "_law_found", "_law_number", "_law_hands_here", "_law_answer"]
noncomputable abbrev n31 : List Str := ["_law_row"]
noncomputable abbrev n32 : List Str := ["_law_found", "_law_table_here", "_law_row"]
noncomputable abbrev n33 : List Str := ["_law_number", "_law_found"]
noncomputable abbrev n34 : List Str := ["_law_number", "_law_words_here"]
noncomputable abbrev n35 : List Str := ["_law_script", "_law_p_here", "_law_many", "_law_cell_here", "_law_table_here", "_law_words_here", "_law_found", "_law_others"]
noncomputable abbrev n36 : List Str := ["p", "one", "other", "rest", "told"]
noncomputable abbrev n37 : List Str := ["p", "one", "other"]
noncomputable abbrev n38 : List Str := ["p", "row", "lead", "place"]
noncomputable abbrev n39 : List Str := ["row", "many", "place"]
noncomputable abbrev n40 : List Str := ["row", "many"]
noncomputable abbrev n41 : List Str := ["p", "rows", "many", "leads", "noughts", "row", "rest", "place", "lead", "found", "fresh"]
noncomputable abbrev n42 : List Str := ["p", "rows", "many"]
noncomputable abbrev n43 : List Str := ["width", "place", "row"]
noncomputable abbrev n44 : List Str := ["width", "place"]
noncomputable abbrev n45 : List Str := ["p", "width", "lines", "wished", "many", "rows", "place", "parted", "row", "multipliers", "lead"]
noncomputable abbrev n46 : List Str := ["p", "width", "lines", "wished"]
noncomputable abbrev n47 : List Str := ["p", "leads", "many", "free", "multipliers", "place", "lead"]
noncomputable abbrev n48 : List Str := ["p", "leads", "many", "free"]
noncomputable abbrev n49 : List Str := ["p", "width", "lines"]
noncomputable abbrev n50 : List Str := ["table", "numbers", "found"]
noncomputable abbrev n51 : List Str := ["table"]
noncomputable abbrev n52 : List Str := ["_law_script", "_law_k", "_law_number"]
noncomputable abbrev n53 : List Str := ["_law_script", "_law_k"]
noncomputable abbrev n54 : List Str := ["_law_cell_here", "_law_k", "_law_number"]
noncomputable abbrev n55 : List Str := ["_law_cell_here", "_law_k"]
noncomputable abbrev n56 : List Str := ["_law_cell_here", "_law_p_here", "_law_count", "_law_by_digits", "_law_found", "_law_k"]
noncomputable abbrev n57 : List Str := ["_law_cell_here", "_law_p_here", "_law_count", "_law_by_digits"]
noncomputable abbrev n58 : List Str := ["_law_script", "_law_at", "_law_p_here", "_law_cell_here", "_law_by_digits", "_law_wide", "_law_count", "_law_many", "_law_rows_here", "_law_k", "_law_line", "_law_x"]
noncomputable abbrev n59 : List Str := ["_law_script", "_law_at", "_law_p_here"]
noncomputable abbrev n60 : List Str := ["_law_cell_here"]
noncomputable abbrev n61 : List Str := ["_law_table_here", "_law_numbers_here", "_law_multipliers"]
noncomputable abbrev n62 : List Str := ["_law_table_here", "_law_numbers_here", "_law_turn"]
noncomputable abbrev n63 : List Str := ["_law_table_here", "_law_hands_here", "_law_found", "_law_numbers_here"]
noncomputable abbrev n64 : List Str := ["_law_table_here", "_law_hands_here", "_law_found"]
noncomputable abbrev n65 : List Str := ["_law_table_here", "_law_many", "_law_cell_here"]
noncomputable abbrev n66 : List Str := ["_law_table_here", "e"]
noncomputable abbrev n67 : List Str := ["_law_table_here"]
noncomputable abbrev n68 : List Str := ["_law_table_here", "_law_word", "e"]
noncomputable abbrev n69 : List Str := ["_law_table_here", "_law_word"]
noncomputable abbrev n70 : List Str := ["_law_found", "_law_table_here"]
noncomputable abbrev n71 : List Str := ["_law_script"]
section
variable{P:Program}{w:World}{K:PySem.W.Frag}{mg:Str→Option Value}{base:Heap}
theorem og:aV n36 n37 (ar kr):=⟨rfl,rfl,rfl,by decide +kernel,rfl,by decide +kernel,by decide +kernel⟩
theorem EN{lF:Addr}{lG:FuncData}(T:Tx K mg){aj au ai aq aw ax:Addr}(Y:Ec K mg aj au ai aq aw ax)(kA:Gf K mg "over" kr n37 lF lG) :
  aU P w K mg base CX0 1 lF lG n37 (spD K nU 3) :=
 cF .V kA.F og λcdv A outer s H E hr=>(ao (aK 3 og.nd (bq (ae 2) (ae 0)))
 (ao (cw (kF hr (ae 3) ak) (ay yM) a_)
 (ao (aK 4 og.nd (bq (ae 1) (ae 0)))
 (ao (wR PassesOwn.never (i_ hr (ae 3) ak) (ao (aK 4 og.nd (bq (eY (vf (ae 4)) (gO (ae 0) (ae 3))) (ae 0)))
 (ay (aK 3 og.nd (bq (ae 0) (ae 3))))))
 (ay (aI (ae 4)))))))
theorem EO:aV n1 n1 (ar gX):=⟨rfl,rfl,rfl,by decide +kernel,rfl,by decide +kernel,by decide +kernel⟩
theorem Cg{jc:Addr}{jd:FuncData}(T:Tx K mg){aj au ai aq aw ax:Addr}(Y:Ec K mg aj au ai aq aw ax)(iI:Gf K mg "times" gX n1 jc jd) :
  aU P w K mg base CX0 1 jc jd n1 (spD K lh 3) :=
 cF .V iI.F EO λcdv A outer s H E hr=>(ay (aI (CF.ce (cR (N':=n0) rfl (aN (ar gX) rfl n1 rfl (by decide +kernel)) rfl (bD rfl) (gf (ae 2)) (λ_ _ _ _ _=>(bY 0 (show n0.Nodup by decide +kernel))) (λ_ _ _ _ _=>bL) (λ_ _ _ _ _=>(bq (eY (ae 2) (ae 0)) (ae 1)))))))
theorem xt:aV n3 n38 (ar iG):=⟨rfl,rfl,rfl,by decide +kernel,rfl,by decide +kernel,by decide +kernel⟩
theorem Ci{oh:Addr}{oi:FuncData}(T:Tx K mg){aj au ai aq aw ax:Addr}(Y:Ec K mg aj au ai aq aw ax)(je:Gf K mg "freed" iG n38 oh oi) :
  aU P w K mg base CX0 1 oh oi n38 (spD K nV 4) :=
 cF .V je.F xt λcdv A outer s H E hr=>(ao (aK 4 xt.nd (aD (ae 1) (ae 3)))
 (ao (cw (kF hr (ae 4) ak) (ay (aI (ae 1))) a_)
 (ay (aI (CF.ce (cR (N':=n2) rfl (aN (ar iG) rfl n3 rfl (by decide +kernel)) rfl (eh rfl rfl) (vw T.AK (ae 1) (ae 2)) (λ_ _ _ _ _=>(fV 0 1 (show n2.Nodup by decide +kernel) rfl)) (λ_ _ _ _ _=>bL) (λ_ _ _ _ _=>(bq (ve (ae 0) (eY (ae 3) (ae 1))) (ae 2)))))))))
theorem lH:aV n39 n40 (ar cY):=⟨rfl,rfl,rfl,by decide +kernel,rfl,by decide +kernel,by decide +kernel⟩
theorem qb{fL:Addr}{fM:FuncData}(T:Tx K mg){aj au ai aq aw ax:Addr}(Y:Ec K mg aj au ai aq aw ax)(fN:Gf K mg "first_place" cY n40 fL fM) :
  aU P w K mg base CX0 1 fL fM n40 (spD K iR 2) :=
 cF .V fN.F lH λcdv A outer s H E hr=>(ao (gu PassesOwn.never rfl (dF T.eV (ae 1)) (bY 2 lH.nd) (ay (cw (i_ hr (aD (ae 0) (ae 2)) ak) (ay (aI (ae 2))) a_)))
 (ay (aI yI)))
theorem fO:aV n41 n42 (ar iH):=⟨rfl,rfl,rfl,by decide +kernel,rfl,by decide +kernel,by decide +kernel⟩
theorem Cj{jf:Addr}{jg:FuncData}(T:Tx K mg){aj au ai aq aw ax:Addr}(Y:Ec K mg aj au ai aq aw ax)(iJ:Gf K mg "eased" iH n42 jf jg)
  {oh:Addr}{oi:FuncData} (je:Gf K mg "freed" iG n38 oh oi)
  (xu:aU P w K mg base CX0 1 oh oi n38 (spD K nV 4))
  {fL:Addr}{fM:FuncData} (fN:Gf K mg "first_place" cY n40 fL fM)
  (su:aU P w K mg base CX0 1 fL fM n40 (spD K iR 2))
  {lF:Addr}{lG:FuncData} (kA:Gf K mg "over" kr n37 lF lG)
  (vP:aU P w K mg base CX0 1 lF lG n37 (spD K nU 3))
  {jc:Addr}{jd:FuncData} (iI:Gf K mg "times" gX n1 jc jd)
  (sx:aU P w K mg base CX0 1 jc jd n1 (spD K lh 3)) :
  aU P w K mg base CX0 2 jf jg n42 (spD K hV 3) :=
 cF .V iJ.F fO λcdv A outer s H E hr=>(ao (aK 3 fO.nd (CF.cell Kw))
 (ao (aK 4 fO.nd (CF.cell (gd aA)))
 (ao (gu PassesOwn.never rfl (gf (ae 1)) (bY 5 fO.nd) (ao (aK 6 fO.nd (ae 5))
 (ao (gu PassesOwn.never rfl (rT (ae 3)) (fV 7 8 fO.nd rfl) (ay (aK 6 fO.nd (aF xu (hr.mono (by decide)) je.m je.F.kp je.b (ag (ae 0) (ag (ae 6) (ag (ae 8) (ag (ae 7) aA))))))))
 (ao (aK 9 fO.nd (aF su (hr.mono (by decide)) fN.m fN.F.kp fN.b (ag (ae 6) (ag (ae 2) aA))))
 (ay (cw (En (ae 9)) (ay (gP (ae 4) (ae 6))) (ao (aK 10 fO.nd (aF sx (hr.mono (by decide)) iI.m iI.F.kp iI.b (ag (ae 0) (ag (aF vP (hr.mono (by decide)) kA.m kA.F.kp kA.b (ag (ae 0) (ag ak (ag (aD (ae 6) (ae 9)) aA)))) (ag (ae 6) aA)))))
 (ao (gu PassesOwn.never rfl (gf (CF.ce (Es T.vO (ae 3)))) (bY 7 fO.nd) (ay (AH hr 3 (ae 7) (aF xu (hr.mono (by decide)) je.m je.F.kp je.b (ag (ae 0) (ag (Hr hr (ae 3) (ae 7)) (ag (ae 10) (ag (ae 9) aA))))))))
 (ay (AH hr 3 (ae 9) (ae 10)))))))))))
 (ay (aI (gq (ag (ae 3) (ag (ae 4) aA))))))))
theorem tL:aV n5 n5 (ar bZ):=⟨rfl,rfl,rfl,by decide +kernel,rfl,by decide +kernel,by decide +kernel⟩
theorem sy{bz:Addr}{bA:FuncData}(T:Tx K mg){aj au ai aq aw ax:Addr}(Y:Ec K mg aj au ai aq aw ax)(ba:Gf K mg "numbers_at" bZ n5 bz bA) :
  aU P w K mg base CX0 1 bz bA n5 (spD K aY 3) :=
 cF .V ba.F tL λcdv A outer s H E hr=>(ay (aI (CF.ce (cR (N':=n4) rfl (aN (ar bZ) rfl n5 rfl (by decide +kernel)) rfl (bD rfl) (gf (ae 1)) (λ_ _ _ _ _=>(bY 0 (show n4.Nodup by decide +kernel))) (λ_ _ _ _ _=>bL) (λ_ _ _ _ _=>(bq (aD (ae 0) (ae 2)) (ae 1)))))))
theorem qq:aV n43 n44 (ar jD):=⟨rfl,rfl,rfl,by decide +kernel,rfl,by decide +kernel,by decide +kernel⟩
theorem ER{iT:Addr}{iU:FuncData}(T:Tx K mg){aj au ai aq aw ax:Addr}(Y:Ec K mg aj au ai aq aw ax)(iV:Gf K mg "unit" jD n44 iT iU) :
  aU P w K mg base CX0 1 iT iU n44 (spD K ma 2) :=
 cF .D iV.F qq λcdv A outer s H E hr=>(ao (aK 2 qq.nd (CF.cell (vo (ag ak aA) (ae 0))))
 (ao (kg 2 (ae 1) ak)
 (ay (aI (ae 2)))))
theorem ES{iT:Addr}{iU:FuncData}(T:Tx K mg){aj au ai aq aw ax:Addr}(Y:Ec K mg aj au ai aq aw ax)(iV:Gf K mg "unit" jD n44 iT iU) :
  aU P w K mg base CX0 1 iT iU n44 (spD K vB 2) :=
 cF .V iV.F qq λcdv A outer s H E hr=>(ao (aK 2 qq.nd (CF.cell (vo (ag ak aA) (ae 0))))
 (ao (kg 2 (ae 1) ak)
 (ay (aI (ae 2)))))
theorem jh:aV n45 n46 (ar ku):=⟨rfl,rfl,rfl,by decide +kernel,rfl,by decide +kernel,by decide +kernel⟩
theorem ET{lI:Addr}{lJ:FuncData}(T:Tx K mg){aj au ai aq aw ax:Addr}(Y:Ec K mg aj au ai aq aw ax)(kB:Gf K mg "held" ku n46 lI lJ)
  {bz:Addr}{bA:FuncData} (ba:Gf K mg "numbers_at" bZ n5 bz bA)
  (d7:aU P w K mg base CX0 1 bz bA n5 (spD K aY 3))
  {iT:Addr}{iU:FuncData} (iV:Gf K mg "unit" jD n44 iT iU)
  (HC:aU P w K mg base CX0 1 iT iU n44 (spD K vB 2))
  {jf:Addr}{jg:FuncData} (iJ:Gf K mg "eased" iH n42 jf jg)
  (sA:aU P w K mg base CX0 2 jf jg n42 (spD K hV 3))
  {lF:Addr}{lG:FuncData} (kA:Gf K mg "over" kr n37 lF lG)
  (vP:aU P w K mg base CX0 1 lF lG n37 (spD K nU 3))
  {jc:Addr}{jd:FuncData} (iI:Gf K mg "times" gX n1 jc jd)
  (sx:aU P w K mg base CX0 1 jc jd n1 (spD K lh 3)) :
  aU P w K mg base CX0 3 lI lJ n46 (spD K kl 4) :=
 cF .K kB.F jh λcdv A outer s H E hr=>(ao (aK 4 jh.nd (dy T.e8 (ae 2)))
 (ao (aK 5 jh.nd (CF.cell (gd aA)))
 (ao (gu PassesOwn.never rfl (dF T.eV (ae 1)) (bY 6 jh.nd) (ay (gP (ae 5) (d5 (d5 (aF d7 (hr.mono (by decide)) ba.m ba.F.kp ba.b (ag (ae 0) (ag (ae 2) (ag (ae 6) aA)))) (CF.ce (gd (ag (bq (aD (ae 3) (ae 6)) (ae 0)) aA)))) (aF HC (hr.mono (by decide)) iV.m iV.F.kp iV.b (ag (ae 1) (ag (ae 6) aA)))))))
 (ao (aK 7 jh.nd (aF sA (hr.mono (by decide)) iJ.m iJ.F.kp iJ.b (ag (ae 0) (ag (ae 5) (ag (ae 4) aA)))))
 (ao (gu PassesOwn.never rfl (gf (aD (ae 7) ak)) (bY 8 jh.nd) (ay (cw (i_ hr (aD (ae 8) (ae 4)) ak) (ay (aI (oX (ag cx (ag (fI T.d9 (aF sx (hr.mono (by decide)) iI.m iI.F.kp iI.b (ag (ae 0) (ag (aF vP (hr.mono (by decide)) kA.m kA.F.kp kA.b (ag (ae 0) (ag ak (ag (aD (ae 8) (ae 4)) aA)))) (ag (Ky (ae 8) (AG (d5 (ae 4) ak)) AF) aA))))) aA))))) a_)))
 (ao (aK 9 jh.nd (CF.cell (vo (ag ak aA) (ae 4))))
 (ao (gu PassesOwn.never rfl (rT (aD (ae 7) ak)) (fV 6 10 jh.nd rfl) (ay (kg 9 (ae 6) (aD (ae 10) (ae 4)))))
 (ay (aI (oX (ag cx (ag (ae 9) aA))))))))))))
theorem jE:aV n47 n48 (ar dO):=⟨rfl,rfl,rfl,by decide +kernel,rfl,by decide +kernel,by decide +kernel⟩
theorem sC{gw:Addr}{gx:FuncData}(T:Tx K mg){aj au ai aq aw ax:Addr}(Y:Ec K mg aj au ai aq aw ax)(gy:Gf K mg "nought_sum" dO n48 gw gx)
  {iT:Addr}{iU:FuncData} (iV:Gf K mg "unit" jD n44 iT iU)
  (HD:aU P w K mg base CX0 1 iT iU n44 (spD K ma 2)) :
  aU P w K mg base CX0 2 gw gx n48 (spD K cW 4) :=
 cF .V gy.F jE λcdv A outer s H E hr=>(ao (aK 4 jE.nd (aF HD (hr.mono (by decide)) iV.m iV.F.kp iV.b (ag (ae 2) (ag (ae 3) aA))))
 (ao (gu PassesOwn.never rfl (rT (ae 1)) (fV 5 6 jE.nd rfl) (ay (kg 4 (ae 5) (bq (vf (aD (ae 6) (ae 3))) (ae 0)))))
 (ay (aI (ae 4)))))
theorem iW:aV n7 n49 (ar bW):=⟨rfl,rfl,rfl,by decide +kernel,rfl,by decide +kernel,by decide +kernel⟩
theorem qc{cZ:Addr}{c_:FuncData}(T:Tx K mg){aj au ai aq aw ax:Addr}(Y:Ec K mg aj au ai aq aw ax)(cD:Gf K mg "nought_sums" bW n49 cZ c_)
  {bz:Addr}{bA:FuncData} (ba:Gf K mg "numbers_at" bZ n5 bz bA)
  (d7:aU P w K mg base CX0 1 bz bA n5 (spD K aY 3))
  {jf:Addr}{jg:FuncData} (iJ:Gf K mg "eased" iH n42 jf jg)
  (sA:aU P w K mg base CX0 2 jf jg n42 (spD K hV 3))
  {gw:Addr}{gx:FuncData} (gy:Gf K mg "nought_sum" dO n48 gw gx)
  (tM:aU P w K mg base CX0 2 gw gx n48 (spD K cW 4)) :
  aU P w K mg base CX0 3 cZ c_ n49 (spD K bU 3) :=
 cF .V cD.F iW λcdv A outer s H E hr=>(ao (aK 3 iW.nd (dy T.e8 (ae 2)))
 (ao (aK 4 iW.nd (aD (aF sA (hr.mono (by decide)) iJ.m iJ.F.kp iJ.b (ag (ae 0) (ag (CF.ce (cR (N':=n6) rfl (aN (ar bW) rfl n7 rfl (by decide +kernel)) rfl (bD rfl) (dF T.eV (ae 1)) (λ_ _ _ _ _=>(bY 0 (show n6.Nodup by decide +kernel))) (λ_ _ _ _ _=>bL) (λ_ _ _ _ _=>(aF d7 (hr.mono (by decide)) ba.m ba.F.kp ba.b (ag (ae 1) (ag (ae 2) (ag (ae 0) aA))))))) (ag (ae 3) aA)))) ak))
 (ay (aI (CF.ce (cR (N':=n8) rfl (aN (ar bW) rfl n7 rfl (by decide +kernel)) rfl (bD rfl) (dF T.eV (ae 3)) (λ_ _ _ _ _=>(bY 0 (show n8.Nodup by decide +kernel))) (λ_ _ _ _ _=>(lW (Hv hr (ae 0) (ae 2)))) (λ_ _ _ _ _=>(aF tM (hr.mono (by decide)) gy.m gy.F.kp gy.b (ag (ae 1) (ag (ae 2) (ag (ae 3) (ag (ae 0) aA))))))))))))
theorem zA:aV n10 n10 (ar fC):=⟨rfl,rfl,rfl,by decide +kernel,rfl,by decide +kernel,by decide +kernel⟩
theorem xv{jQ:Addr}{jR:FuncData}(T:Tx K mg){aj au ai aq aw ax:Addr}(Y:Ec K mg aj au ai aq aw ax)(jS:Gf K mg "rows_of" fC n10 jQ jR) :
  aU P w K mg base CX0 1 jQ jR n10 (spD K gh 2) :=
 cF .V jS.F zA λcdv A outer s H E hr=>(ay (aI (CF.ce (cR (N':=n9) rfl (aN (ar fC) rfl n10 rfl (by decide +kernel)) rfl (eh rfl rfl) (vy T.lE (aD (ae 0) ak)) (λ_ _ _ _ _=>(fV 0 1 (show n9.Nodup by decide +kernel) rfl)) (λ_ _ _ _ _=>(lW (IA hr (aD (ae 1) ak) (ae 2)))) (λ_ _ _ _ _=>(ae 0))))))
theorem xw:aV n12 n12 (ar cO):=⟨rfl,rfl,rfl,by decide +kernel,rfl,by decide +kernel,by decide +kernel⟩
theorem vQ{cj:Addr}{ck:FuncData}(T:Tx K mg){aj au ai aq aw ax:Addr}(Y:Ec K mg aj au ai aq aw ax)(bF:Gf K mg "lines_at" cO n12 cj ck) :
  aU P w K mg base CX0 1 cj ck n12 (spD K b9 2) :=
 cF .V bF.F xw λcdv A outer s H E hr=>(ay (aI (CF.ce (cR (N':=n11) rfl (aN (ar cO) rfl n12 rfl (by decide +kernel)) rfl (bD rfl) (gf (ae 1)) (λ_ _ _ _ _=>(bY 0 (show n11.Nodup by decide +kernel))) (λ_ _ _ _ _=>bL) (λ_ _ _ _ _=>(aD (aD (aD (ae 1) ak) (ae 0)) ak))))))
theorem sD:aV n14 n14 (ar cf):=⟨rfl,rfl,rfl,by decide +kernel,rfl,by decide +kernel,by decide +kernel⟩
theorem qd{df:Addr}{dg:FuncData}(T:Tx K mg){aj au ai aq aw ax:Addr}(Y:Ec K mg aj au ai aq aw ax)(cE:Gf K mg "hidden_line" cf n14 df dg) :
  aU P w K mg base CX0 1 df dg n14 (spD K cG 1) :=
 cF .V cE.F sD λcdv A outer s H E hr=>(ay (aI (fI T.d9 (CF.ce (cR (N':=n13) rfl (aN (ar cf) rfl n14 rfl (by decide +kernel)) rfl (bD rfl) (dF T.eV (ae 0)) (λ_ _ _ _ _=>(bY 0 (show n13.Nodup by decide +kernel))) (λ_ _ _ _ _=>bL) (λ_ _ _ _ _=>(Kb (kF hr (ae 0) ak) ak ak)))))))
theorem iK:aV n50 n12 (ar cH):=⟨rfl,rfl,rfl,by decide +kernel,rfl,by decide +kernel,by decide +kernel⟩
theorem tN{bQ:Addr}{bR:FuncData}(T:Tx K mg){aj au ai aq aw ax:Addr}(Y:Ec K mg aj au ai aq aw ax)(bG:Gf K mg "opened_by" cH n12 bQ bR)
  {cj:Addr}{ck:FuncData} (bF:Gf K mg "lines_at" cO n12 cj ck)
  (e9:aU P w K mg base CX0 1 cj ck n12 (spD K b9 2))
  {df:Addr}{dg:FuncData} (cE:Gf K mg "hidden_line" cf n14 df dg)
  (iX:aU P w K mg base CX0 1 df dg n14 (spD K cG 1))
  {lI:Addr}{lJ:FuncData} (kB:Gf K mg "held" ku n46 lI lJ)
  (vR:aU P w K mg base CX0 3 lI lJ n46 (spD K kl 4)) :
  aU P w K mg base CX0 4 bQ bR n12 (spD K dM 2) :=
 cF .K bG.F iK λcdv A outer s H E hr=>(ao (aK 2 iK.nd (aF vR (hr.mono (by decide)) kB.m kB.F.kp kB.b (ag (aD (ae 0) ak) (ag (aD (ae 0) ak) (ag (aF e9 (hr.mono (by decide)) bF.m bF.F.kp bF.b (ag (ae 0) (ag (ae 1) aA))) (ag (aF iX (hr.mono (by decide)) cE.m cE.F.kp cE.b (ag (aD (ae 0) ak) aA)) aA))))))
 (ao (cw (kF hr (aD (ae 2) ak) cx) (ay (aI (oX (ag cx (ag (aD (ae 2) ak) aA))))) a_)
 (ay (aI (oX (ag cx (ag (aD (ae 2) ak) aA)))))))
theorem tO{bQ:Addr}{bR:FuncData}(T:Tx K mg){aj au ai aq aw ax:Addr}(Y:Ec K mg aj au ai aq aw ax)(bG:Gf K mg "opened_by" cH n12 bQ bR)
  {cj:Addr}{ck:FuncData} (bF:Gf K mg "lines_at" cO n12 cj ck)
  (e9:aU P w K mg base CX0 1 cj ck n12 (spD K b9 2))
  {df:Addr}{dg:FuncData} (cE:Gf K mg "hidden_line" cf n14 df dg)
  (iX:aU P w K mg base CX0 1 df dg n14 (spD K cG 1))
  {lI:Addr}{lJ:FuncData} (kB:Gf K mg "held" ku n46 lI lJ)
  (vR:aU P w K mg base CX0 3 lI lJ n46 (spD K kl 4)) :
  aU P w K mg base CX0 4 bQ bR n12 (spD K dN 2) :=
 cF .V bG.F iK λcdv A outer s H E hr=>(ao (aK 2 iK.nd (aF vR (hr.mono (by decide)) kB.m kB.F.kp kB.b (ag (aD (ae 0) ak) (ag (aD (ae 0) ak) (ag (aF e9 (hr.mono (by decide)) bF.m bF.F.kp bF.b (ag (ae 0) (ag (ae 1) aA))) (ag (aF iX (hr.mono (by decide)) cE.m cE.F.kp cE.b (ag (aD (ae 0) ak) aA)) aA))))))
 (ao (cw (kF hr (aD (ae 2) ak) cx) (ay (aI (oX (ag cx (ag (aD (ae 2) ak) aA))))) a_)
 (ay (aI (oX (ag cx (ag (aD (ae 2) ak) aA)))))))
theorem EU:aV n10 n10 (ar jb):=⟨rfl,rfl,rfl,by decide +kernel,rfl,by decide +kernel,by decide +kernel⟩
theorem Ck{oj:Addr}{om:FuncData}(T:Tx K mg){aj au ai aq aw ax:Addr}(Y:Ec K mg aj au ai aq aw ax)(oq:Gf K mg "opens" jb n10 oj om)
  {jQ:Addr}{jR:FuncData} (jS:Gf K mg "rows_of" fC n10 jQ jR)
  (zB:aU P w K mg base CX0 1 jQ jR n10 (spD K gh 2))
  {bQ:Addr}{bR:FuncData} (bG:Gf K mg "opened_by" cH n12 bQ bR)
  (vS:aU P w K mg base CX0 4 bQ bR n12 (spD K dM 2)) :
  aU P w K mg base CX0 5 oj om n10 (spD K jM 2) :=
 cF .V oq.F EU λcdv A outer s H E hr=>(ay (aI (aF vS (hr.mono (by decide)) bG.m bG.F.kp bG.b (ag (ae 0) (ag (aF zB (hr.mono (by decide)) jS.m jS.F.kp jS.b (ag (ae 0) (ag (ae 1) aA))) aA)))))
theorem aX:aV n16 n51 (ar br):=⟨rfl,rfl,rfl,by decide +kernel,rfl,by decide +kernel,by decide +kernel⟩
theorem pq{bH:Addr}{bI:FuncData}(T:Tx K mg){aj au ai aq aw ax:Addr}(Y:Ec K mg aj au ai aq aw ax)(bJ:Gf K mg "turned_table" br n51 bH bI)
  {bQ:Addr}{bR:FuncData} (bG:Gf K mg "opened_by" cH n12 bQ bR)
  (kC:aU P w K mg base CX0 4 bQ bR n12 (spD K dN 2))
  {cj:Addr}{ck:FuncData} (bF:Gf K mg "lines_at" cO n12 cj ck)
  (e9:aU P w K mg base CX0 1 cj ck n12 (spD K b9 2))
  {cZ:Addr}{c_:FuncData} (cD:Gf K mg "nought_sums" bW n49 cZ c_)
  (iY:aU P w K mg base CX0 3 cZ c_ n49 (spD K bU 3))
  {bz:Addr}{bA:FuncData} (ba:Gf K mg "numbers_at" bZ n5 bz bA)
  (d7:aU P w K mg base CX0 1 bz bA n5 (spD K aY 3)) :
  aU P w K mg base CX0 5 bH bI n51 (spD K qa 1) :=
 cF .V bJ.F aX λcdv A outer s H E hr=>(ao (aK 1 aX.nd (aD (ae 0) ak))
 (ao (aK 2 aX.nd (aD (ae 0) ak))
 (ao (cw (xf (dy T.e8 (ae 2)) (Aq T.pW.choose_spec)) (ay yM) a_)
 (ao (aK 3 aX.nd (CF.ce (rV rfl T.vO T.eV (dy T.e8 (ae 2)))))
 (ao (aK 4 aX.nd (aF kC (hr.mono (by decide)) bG.m bG.F.kp bG.b (ag (ae 0) (ag (ae 3) aA))))
 (ao (cw (kF hr (aD (ae 4) ak) cx) (ay yM) a_)
 (ao (aK 5 aX.nd (d5 (CF.ce (gd (ag (aD (ae 4) ak) aA))) (aF iY (hr.mono (by decide)) cD.m cD.F.kp cD.b (ag (ae 1) (ag (aD (ae 0) ak) (ag (aF e9 (hr.mono (by decide)) bF.m bF.F.kp bF.b (ag (ae 0) (ag (ae 3) aA))) aA))))))
 (ao (j6 (i8 6 (N':=n15) rfl (aN (ar br) rfl n16 rfl (by decide +kernel)) rfl (eh rfl rfl) (vy T.lE (ae 2)) (λ_ _ _ _ _=>(fV 0 1 (show n15.Nodup by decide +kernel) rfl)) (λ_ _ _ _ _=>bL) (λ_ _ _ _ _=>(gq (ag (aD (ae 1) ak) (ag (fI T.d9 (aF d7 (hr.mono (by decide)) ba.m ba.F.kp ba.b (ag (ae 2) (ag (ae 3) (ag (ae 0) aA))))) aA)))) aX.nd) λ_ _ _ _ h=>jL h)
 (ay (aI (gq (ag (ae 1) (ag (dy T.e8 (ae 5)) (ag (fI T.d9 (ae 6)) aA))))))))))))))
theorem pv{bH:Addr}{bI:FuncData}(T:Tx K mg){aj au ai aq aw ax:Addr}(Y:Ec K mg aj au ai aq aw ax)(bJ:Gf K mg "turned_table" br n51 bH bI)
  {cj:Addr}{ck:FuncData} (bF:Gf K mg "lines_at" cO n12 cj ck)
  (e9:aU P w K mg base CX0 1 cj ck n12 (spD K b9 2))
  {cZ:Addr}{c_:FuncData} (cD:Gf K mg "nought_sums" bW n49 cZ c_)
  (iY:aU P w K mg base CX0 3 cZ c_ n49 (spD K bU 3))
  {bz:Addr}{bA:FuncData} (ba:Gf K mg "numbers_at" bZ n5 bz bA)
  (d7:aU P w K mg base CX0 1 bz bA n5 (spD K aY 3))
  {bQ:Addr}{bR:FuncData} (bG:Gf K mg "opened_by" cH n12 bQ bR)
  (kC:aU P w K mg base CX0 4 bQ bR n12 (spD K dN 2)) :
  aU P w K mg base (CX1 P w) 5 bH bI n51 (spX K mg aJ 1) :=
 Kj bJ.F aX λcdv A outer s H E hr=>(ao (aK 1 aX.nd (aD (ae 0) ak))
 (ao (aK 2 aX.nd (aD (ae 0) ak))
 (ao (cw (xf (dy T.e8 (ae 2)) (Aq T.pW.choose_spec)) (ay (w8 PySem.F.excBase_ValueError rfl Y.gm Y.jP)) a_)
 (ao (aK 3 aX.nd (CF.ce (rV rfl T.vO T.eV (dy T.e8 (ae 2)))))
 (ao (aK 4 aX.nd (aF kC (hr.mono (by decide)) bG.m bG.F.kp bG.b (ag (ae 0) (ag (ae 3) aA))))
 (ao (cw (kF hr (aD (ae 4) ak) cx) (ay (w8 PySem.F.excBase_ValueError rfl Y.kx Y.n_)) a_)
 (EF (ao (aK 5 aX.nd (d5 (CF.ce (gd (ag (aD (ae 4) ak) aA))) (aF iY (hr.mono (by decide)) cD.m cD.F.kp cD.b (ag (ae 1) (ag (aD (ae 0) ak) (ag (aF e9 (hr.mono (by decide)) bF.m bF.F.kp bF.b (ag (ae 0) (ag (ae 3) aA))) aA))))))
 (ao (j6 (i8 6 (N':=n15) rfl (aN (ar br) rfl n16 rfl (by decide +kernel)) rfl (eh rfl rfl) (vy T.lE (ae 2)) (λ_ _ _ _ _=>(fV 0 1 (show n15.Nodup by decide +kernel) rfl)) (λ_ _ _ _ _=>bL) (λ_ _ _ _ _=>(gq (ag (aD (ae 1) ak) (ag (fI T.d9 (aF d7 (hr.mono (by decide)) ba.m ba.F.kp ba.b (ag (ae 2) (ag (ae 3) (ag (ae 0) aA))))) aA)))) aX.nd) λ_ _ _ _ h=>jL h)
 (ay (aI (gq (ag (ae 1) (ag (dy T.e8 (ae 5)) (ag (fI T.d9 (ae 6)) aA)))))))))))))))
theorem kD:aV n52 n53 (ar dP):=⟨rfl,rfl,rfl,by decide +kernel,rfl,by decide +kernel,by decide +kernel⟩
theorem tP{eo:Addr}{eA:FuncData}(T:Tx K mg){aj au ai aq aw ax:Addr}(Y:Ec K mg aj au ai aq aw ax)(aQ:Gf K mg "_law_cell" dP n53 eo eA) :
  aU P w K mg base CX0 1 eo eA n53 (spD K bg 2) :=
 cF .V aQ.F kD λcdv A outer s H E hr=>(ao (cw (Ir (ae 1) (dy T.e8 (ae 0))) (ay (aI (aD (ae 0) (ae 1)))) a_)
 (ao (aK 2 kD.nd (d5 (eY (ae 1) ak) ak))
 (ao (cw (xf (dy T.e8 (ae 0)) ak) (ay (aK 2 kD.nd (d5 (ae 2) (eY (bq (aD (ae 0) (bq (eY (ae 1) ak) (dy T.e8 (ae 0)))) ak) ak)))) a_)
 (ay (aI (bq (eY (bq (eY (ae 2) (ae 2)) ak) ak) ak))))))
theorem mD:aV n54 n55 (ar dQ):=⟨rfl,rfl,rfl,by decide +kernel,rfl,by decide +kernel,by decide +kernel⟩
theorem sE{gz:Addr}{gA:FuncData}(T:Tx K mg){aj au ai aq aw ax:Addr}(Y:Ec K mg aj au ai aq aw ax)(gB:Gf K mg "_law_mixed" dQ n55 gz gA) :
  aU P w K mg base CX0 1 gz gA n55 (spD K jt 2) :=
 cF .V gB.F mD λcdv A outer s H E hr=>(ao (aK 2 mD.nd (bq (eY (d5 (bq (ae 0) ak) ak) (d5 ak (eY (ae 1) (ae 1)))) ak))
 (ay (aI (bq (eY (bq (eY (ae 2) (d5 (ae 2) (eY ak (ae 1)))) ak) ak) ak))))
theorem fX:aV n56 n57 (ar cI):=⟨rfl,rfl,rfl,by decide +kernel,rfl,by decide +kernel,by decide +kernel⟩
theorem pA{e_:Addr}{fb:FuncData}(T:Tx K mg){aj au ai aq aw ax:Addr}(Y:Ec K mg aj au ai aq aw ax)(fg:Gf K mg "_law_numbers" cI n57 e_ fb)
  {gz:Addr}{gA:FuncData} (gB:Gf K mg "_law_mixed" dQ n55 gz gA)
  (tQ:aU P w K mg base CX0 1 gz gA n55 (spD K jt 2)) :
  aU P w K mg base CX0 2 e_ fb n57 (spD K ij 4) :=
 cF .D fg.F fX λcdv A outer s H E hr=>(ao (aK 4 fX.nd (CF.cell (gd aA)))
 (ao (gu PassesOwn.never rfl (dF T.eV (ae 2)) (bY 5 fX.nd) (ay (cw (ef (ae 3)) (ao (gP (ae 4) (bq (ae 0) (ae 1)))
 (ay (aK 0 fX.nd (gO (ae 0) (ae 1))))) (ay (gP (ae 4) (bq (gO (aF tQ (hr.mono (by decide)) gB.m gB.F.kp gB.b (ag (ae 0) (ag (ae 5) aA))) ak) (ae 1)))))))
 (ay (aI (ae 4)))))
theorem bj:aV n58 n59 (ar dR):=⟨rfl,rfl,rfl,by decide +kernel,rfl,by decide +kernel,by decide +kernel⟩
theorem sF{gC:Addr}{gD:FuncData}(T:Tx K mg){aj au ai aq aw ax:Addr}(Y:Ec K mg aj au ai aq aw ax)(gE:Gf K mg "_law_table" dR n59 gC gD)
  {eo:Addr}{eA:FuncData} (aQ:Gf K mg "_law_cell" dP n53 eo eA)
  (dU:aU P w K mg base CX0 1 eo eA n53 (spD K bg 2))
  {e_:Addr}{fb:FuncData} (fg:Gf K mg "_law_numbers" cI n57 e_ fb)
  (qe:aU P w K mg base CX0 2 e_ fb n57 (spD K ij 4)) :
  aU P w K mg base CX0 3 gC gD n59 (spD K fK 3) :=
 cF .V gE.F bj λcdv A outer s H E hr=>(ao (aK 3 bj.nd (aF dU (hr.mono (by decide)) aQ.m aQ.F.kp aQ.b (ag (ae 0) (ag (ae 1) aA))))
 (ao (aK 4 bj.nd (pU hr (bq (ae 3) ak) ak))
 (ao (aK 5 bj.nd (d5 ak (bq (gO (ae 3) ak) ak)))
 (ao (aK 6 bj.nd (bq (gO (ae 3) ak) ak))
 (ao (aK 7 bj.nd (d5 ak (bq (gO (ae 3) ak) ak)))
 (ao (cw (kF hr (bq (gO (ae 3) ak) ak) ak) (ao (aK 5 bj.nd (d5 (ae 5) ak))
 (ay (aK 6 bj.nd (d5 (ae 6) ak)))) a_)
 (ao (aK 8 bj.nd (CF.cell (gd aA)))
 (ao (gu PassesOwn.never rfl (dF T.eV (ae 6)) (bY 9 bj.nd) (ao (aK 3 bj.nd (aF dU (hr.mono (by decide)) aQ.m aQ.F.kp aQ.b (ag (ae 0) (ag (d5 (d5 (ae 1) ak) (ae 9)) aA))))
 (ao (aK 10 bj.nd (aF qe (hr.mono (by decide)) fg.m fg.F.kp fg.b (ag (gO (ae 3) ak) (ag (ae 2) (ag (ae 5) (ag (ae 4) aA))))))
 (ao (cw (kF hr (bq (gO (ae 3) ak) ak) ak) (ao (aK 11 bj.nd (bq (gO (ae 3) ak) (ae 2)))
 (ao (aK 10 bj.nd (CF.cell (gd (ag ak aA))))
 (ay (wR PassesOwn.never (Ir (dy T.e8 (ae 10)) (ae 5)) (ay (gP (ae 10) (bq (eY (aD (ae 10) (vf ak)) (ae 11)) (ae 2)))))))) a_)
 (ay (gP (ae 8) (gq (ag (bq (ae 3) (ae 7)) (ag (fI T.d9 (ae 10)) aA)))))))))
 (ay (aI (gq (ag (ae 2) (ag (ae 5) (ag (fI T.d9 (ae 8)) aA))))))))))))))
theorem Cm:aV n60 n60 (ar hX):=⟨rfl,rfl,rfl,by decide +kernel,rfl,by decide +kernel,by decide +kernel⟩
theorem zC{lK:Addr}{lL:FuncData}(T:Tx K mg){aj au ai aq aw ax:Addr}(Y:Ec K mg aj au ai aq aw ax)(lM:Gf K mg "_law_p" hX n60 lK lL) :
  aU P w K mg base CX0 1 lK lL n60 (spD K jN 1) :=
 cF .V lM.F Cm λcdv A outer s H E hr=>(ay (aI (aD (CF.ce (gd (ag ak (ag ak (ag ak (ag ak (ag ak (ag ak (ag ak (ag ak aA)))))))))) (bq (ae 0) ak))))
theorem vT:aV n18 n18 (ar dS):=⟨rfl,rfl,rfl,by decide +kernel,rfl,by decide +kernel,by decide +kernel⟩
theorem tR{hZ:Addr}{h7:FuncData}(T:Tx K mg){aj au ai aq aw ax:Addr}(Y:Ec K mg aj au ai aq aw ax)(h_:Gf K mg "_law_rows" dS n18 hZ h7) :
  aU P w K mg base CX0 1 hZ h7 n18 (spD K kq 2) :=
 cF .V h_.F vT λcdv A outer s H E hr=>(ay (aI (CF.ce (cR (N':=n17) rfl (aN (ar dS) rfl n18 rfl (by decide +kernel)) rfl (bD rfl) (dF T.eV (dy T.e8 (aD (ae 0) ak))) (λ_ _ _ _ _=>(bY 0 (show n17.Nodup by decide +kernel))) (λ_ _ _ _ _=>(lW (IA hr (aD (aD (aD (ae 2) ak) (ae 0)) ak) (ae 1)))) (λ_ _ _ _ _=>(ae 0))))))
theorem tS:aV n19 n19 (ar cB):=⟨rfl,rfl,rfl,by decide +kernel,rfl,by decide +kernel,by decide +kernel⟩
theorem sG{cp:Addr}{cq:FuncData}(T:Tx K mg){aj au ai aq aw ax:Addr}(Y:Ec K mg aj au ai aq aw ax)(bM:Gf K mg "_law_whole" cB n19 cp cq) :
  aU P w K mg base CX0 1 cp cq n19 (spD K bV 2) :=
 cF .V bM.F tS λcdv A outer s H E hr=>(ay (aI (oZ (uz T.aS T.sk (ae 0)) (oZ (yL (rO T.aS T.EM (ae 0))) (qZ (rQ ak (ae 0) (ae 1)))))))
theorem fY:aV n20 n61 (ar bX):=⟨rfl,rfl,rfl,by decide +kernel,rfl,by decide +kernel,by decide +kernel⟩
theorem pB{fh:Addr}{fi:FuncData}(T:Tx K mg){aj au ai aq aw ax:Addr}(Y:Ec K mg aj au ai aq aw ax)(fj:Gf K mg "_law_opening" bX n61 fh fi)
  {cp:Addr}{cq:FuncData} (bM:Gf K mg "_law_whole" cB n19 cp cq)
  (fP:aU P w K mg base CX0 1 cp cq n19 (spD K bV 2)) :
  aU P w K mg base CX0 2 fh fi n61 (spD K il 3) :=
 cF .V fj.F fY λcdv A outer s H E hr=>(ao (zb (za 3 4 5 fY.nd rfl) (ae 0))
 (ao (cw (CW.ct (i7 (eX (ef (yW T.aS T.vO (ae 2)))) (gi (i_ hr (dy T.e8 (ae 2)) (dy T.e8 (ae 1)))))) (ay (aI iw)) a_)
 (ao (cw (eX (ef (vn hr T.AJ (CF.ce (cR (N':=n19) rfl (aN (ar bX) rfl n20 rfl (by decide +kernel)) rfl (bD rfl) (gf (ae 2)) (λ_ _ _ _ _=>(bY 0 (show n19.Nodup by decide +kernel))) (λ_ _ _ _ _=>bL) (λ_ _ _ _ _=>(aF fP (hr.mono (by decide)) bM.m bM.F.kp bM.b (ag (ae 0) (ag (ae 1) aA))))))))) (ay (aI iw)) a_)
 (ao (gu PassesOwn.never rfl (dF T.eV (ae 4)) (bY 6 fY.nd) (ao (aK 7 fY.nd (Ei hr T.IC (CF.ce (cR (N':=n21) rfl (aN (ar bX) rfl n20 rfl (by decide +kernel)) rfl (eh rfl rfl) (vw T.AK (ae 1) (ae 2)) (λ_ _ _ _ _=>(fV 0 1 (show n21.Nodup by decide +kernel) rfl)) (λ_ _ _ _ _=>bL) (λ_ _ _ _ _=>(eY (ae 1) (aD (aD (aD (ae 3) (ae 0)) ak) (ae 2))))))))
 (ay (cw (i_ hr (bq (ae 7) (ae 3)) (nR T.sk (pU hr (ae 6) ak))) (ay (aI iw)) a_))))
 (ay (aI iw))))))
theorem kH:aV n22 n62 (ar bE):=⟨rfl,rfl,rfl,by decide +kernel,rfl,by decide +kernel,by decide +kernel⟩
theorem pC{fk:Addr}{fo:FuncData}(T:Tx K mg){aj au ai aq aw ax:Addr}(Y:Ec K mg aj au ai aq aw ax)(fq:Gf K mg "_law_turning" bE n62 fk fo)
  {cp:Addr}{cq:FuncData} (bM:Gf K mg "_law_whole" cB n19 cp cq)
  (fP:aU P w K mg base CX0 1 cp cq n19 (spD K bV 2)) :
  aU P w K mg base CX0 2 fk fo n62 (spD K ip 3) :=
 cF .V fq.F kH λcdv A outer s H E hr=>(ao (zb (za 3 4 5 kH.nd rfl) (ae 0))
 (ao (cw (CW.ct (i7 (eX (ef (gk T.aS T.d9 (ae 2)))) (i7 (i_ hr (dy T.e8 (ae 2)) (ae 4)) (gi (eX (ef (vn hr T.AJ (CF.ce (cR (N':=n19) rfl (aN (ar bE) rfl n22 rfl (by decide +kernel)) rfl (bD rfl) (gf (ae 2)) (λ_ _ _ _ _=>(bY 0 (show n19.Nodup by decide +kernel))) (λ_ _ _ _ _=>bL) (λ_ _ _ _ _=>(aF fP (hr.mono (by decide)) bM.m bM.F.kp bM.b (ag (ae 0) (ag (ae 1) aA))))))))))))) (ay (aI iw)) a_)
 (ao (cw (i_ hr (aD (ae 2) ak) ak) (ay (aI iw)) a_)
 (ay (aI (vn hr T.AJ (CF.ce (cR (N':=n24) rfl (aN (ar bE) rfl n22 rfl (by decide +kernel)) rfl (bD rfl) (gf (ae 1)) (λ_ _ _ _ _=>(bY 0 (show n24.Nodup by decide +kernel))) (λ_ _ _ _ _=>bL) (λ_ _ _ _ _=>(pU hr (bq (Ei hr T.IC (CF.ce (cR (N':=n23) rfl (rK (ar bE) rfl (by decide +kernel)) rfl (eh rfl rfl) (vw T.AK (aD (aD (ae 3) (ae 0)) ak) (ae 2)) (λ_ _ _ _ _=>(fV 0 1 (show n23.Nodup by decide +kernel) rfl)) (λ_ _ _ _ _=>bL) (λ_ _ _ _ _=>(eY (ae 0) (ae 1)))))) (ae 1)) ak))))))))))
theorem iZ:aV n63 n64 (ar bP):=⟨rfl,rfl,rfl,by decide +kernel,rfl,by decide +kernel,by decide +kernel⟩
theorem mw{dW:Addr}{dX:FuncData}(T:Tx K mg){aj au ai aq aw ax:Addr}(Y:Ec K mg aj au ai aq aw ax)(dY:Gf K mg "_law_is_opening" bP n64 dW dX)
  {hZ:Addr}{h7:FuncData} (h_:Gf K mg "_law_rows" dS n18 hZ h7)
  (vU:aU P w K mg base CX0 1 hZ h7 n18 (spD K kq 2))
  {fh:Addr}{fi:FuncData} (fj:Gf K mg "_law_opening" bX n61 fh fi)
  (qf:aU P w K mg base CX0 2 fh fi n61 (spD K il 3))
  {fk:Addr}{fo:FuncData} (fq:Gf K mg "_law_turning" bE n62 fk fo)
  (qg:aU P w K mg base CX0 2 fk fo n62 (spD K ip 3)) :
  aU P w K mg base CX0 3 dW dX n64 (spD K b6 3) :=
 cF .V dY.F iZ λcdv A outer s H E hr=>(ao (cw (CW.ct (i7 (eX (ef (gk T.aS T.d9 (ae 2)))) (gi (i_ hr (dy T.e8 (ae 2)) ak)))) (ay (aI iw)) a_)
 (ao (aK 3 iZ.nd (aF vU (hr.mono (by decide)) h_.m h_.F.kp h_.b (ag (ae 0) (ag (ae 1) aA))))
 (ao (cw (kF hr (aD (ae 2) ak) cx) (ay (aI (aF qf (hr.mono (by decide)) fj.m fj.F.kp fj.b (ag (ae 0) (ag (ae 3) (ag (aD (ae 2) ak) aA)))))) a_)
 (ay (aI (oZ (pU hr (aD (ae 2) ak) cx) (qZ (aF qg (hr.mono (by decide)) fq.m fq.F.kp fq.b (ag (ae 0) (ag (ae 3) (ag (aD (ae 2) ak) aA)))))))))))
theorem tT:aV n26 n26 (ar cS):=⟨rfl,rfl,rfl,by decide +kernel,rfl,by decide +kernel,by decide +kernel⟩
theorem sH{gF:Addr}{gG:FuncData}(T:Tx K mg){aj au ai aq aw ax:Addr}(Y:Ec K mg aj au ai aq aw ax)(gH:Gf K mg "_law_below" cS n26 gF gG) :
  aU P w K mg base CX0 1 gF gG n26 (spD K eQ 2) :=
 cF .V gH.F tT λcdv A outer s H E hr=>(ay (aI (gq (ag (aD (ae 0) ak) (ag (aD (ae 0) ak) (ag (fI T.d9 (CF.ce (cR (N':=n25) rfl (aN (ar cS) rfl n26 rfl (by decide +kernel)) rfl (eh rfl rfl) (gf (aD (ae 0) ak)) (λ_ _ _ _ _=>(fV 0 1 (show n25.Nodup by decide +kernel) rfl)) (λ_ _ _ _ _=>bL) (λ_ _ _ _ _=>(gq (ag (bq (ae 0) (ae 2)) (ag (ae 1) aA))))))) aA))))))
theorem fu:aV n28 n65 (ar cC):=⟨rfl,rfl,rfl,by decide +kernel,rfl,by decide +kernel,by decide +kernel⟩
theorem qh{fQ:Addr}{fR:FuncData}(T:Tx K mg){aj au ai aq aw ax:Addr}(Y:Ec K mg aj au ai aq aw ax)(fS:Gf K mg "_law_opened" cC n65 fQ fR) :
  aU P w K mg base CX0 1 fQ fR n65 (spD K eg 3) :=
 cF .V fS.F fu λcdv A outer s H E hr=>(ao (zb (za 3 4 5 fu.nd rfl) (ae 0))
 (ao (aK 6 fu.nd (d5 (CF.ce (gd (ag ak aA))) (CF.ce (vo (ag ak aA) (ve (ae 4) ak)))))
 (ao (gu PassesOwn.never rfl (gf (ae 5)) (fV 7 8 fu.nd rfl) (ay (j6 (i8 6 (N':=n27) rfl (aN (ar cC) rfl n28 rfl (by decide +kernel)) rfl (eh rfl rfl) (vw T.AK (ae 6) (ae 8)) (λ_ _ _ _ _=>(fV 0 1 (show n27.Nodup by decide +kernel) rfl)) (λ_ _ _ _ _=>bL) (λ_ _ _ _ _=>(bq (d5 (ae 0) (eY (gO (ae 3) ak) (ae 1))) (ae 2))) fu.nd) λ_ _ _ _ h=>jL h)))
 (ay (aI (gq (ag (ae 3) (ag (ae 4) (ag (d5 (ae 5) (gq (ag (gq (ag (bq (ae 2) (ae 1)) (ag (fI T.d9 (ae 6)) aA))) aA))) aA)))))))))
theorem fT:aV n30 n26 (ar cT):=⟨rfl,rfl,rfl,by decide +kernel,rfl,by decide +kernel,by decide +kernel⟩
theorem sI{gI:Addr}{gJ:FuncData}(T:Tx K mg){aj au ai aq aw ax:Addr}(Y:Ec K mg aj au ai aq aw ax)(dZ:Gf K mg "_law_words" cT n26 gI gJ)
  {oj:Addr}{om:FuncData} (oq:Gf K mg "opens" jb n10 oj om)
  (EV:aU P w K mg base CX0 5 oj om n10 (spD K jM 2))
  {dW:Addr}{dX:FuncData} (dY:Gf K mg "_law_is_opening" bP n64 dW dX)
  (mV:aU P w K mg base CX0 3 dW dX n64 (spD K b6 3)) :
  aU P w K mg base CX0 6 gI gJ n26 (spD K cX 2) :=
 cF .V dZ.F fT λcdv A outer s H E hr=>(ao (aK 2 fT.nd (CF.cell (gd aA)))
 (ao (gu PassesOwn.never rfl (dF T.eV (Ks ak (ae 1))) (bY 3 fT.nd) (ao (j6 (i8 4 (N':=n29) rfl (aN (ar cT) rfl n30 rfl (by decide +kernel)) rfl (bD rfl) (dF T.eV (ae 1)) (λ_ _ _ _ _=>(bY 0 (show n29.Nodup by decide +kernel))) (λ_ _ _ _ _=>(lW (kF hr (EC (Kt (ae 1) (ae 0)) ak) ak))) (λ_ _ _ _ _=>(ae 0)) fT.nd) λ_ _ _ _ h=>jL h)
 (ao (aK 5 fT.nd (aF EV (hr.mono (by decide)) oq.m oq.F.kp oq.b (ag (ae 0) (ag (ae 4) aA))))
 (ao (cw (eX (ef (aF mV (hr.mono (by decide)) dY.m dY.F.kp dY.b (ag (ae 0) (ag (ae 4) (ag (ae 5) aA)))))) (ay (aI yI)) a_)
 (ay (gP (ae 2) (pU hr (aD (ae 5) ak) cx)))))))
 (ay (aI (ae 2)))))
theorem kE:aV n66 n67 (ar ei):=⟨rfl,rfl,rfl,by decide +kernel,rfl,by decide +kernel,by decide +kernel⟩
theorem tU{ia:Addr}{ib:FuncData}(T:Tx K mg){aj au ai aq aw ax:Addr}(Y:Ec K mg aj au ai aq aw ax)(ic:Gf K mg "_law_told" ei n67 ia ib)
  {bH:Addr}{bI:FuncData} (bJ:Gf K mg "turned_table" br n51 bH bI)
  (iq:aU P w K mg base (CX1 P w) 5 bH bI n51 (spX K mg aJ 1)) :
  aU P w K mg base CX0 6 ia ib n67 (spD K cA 1) :=
 cF .V ic.F kE λcdv A outer s H E hr=>(ay (D3 rfl rfl (λE pn=>(ay (aI (w_ iq (hr.mono (by decide)) bJ.m bJ.F.kp bJ.b (ag (ae 0) aA))))) (EH (D4 (i:=1) rfl rfl rfl kE.nd rfl rfl Y.kx Y.ky (gT Y.n_) Y.pX (gT Y.pY) Y.s0 λev=>(ao (cw (CW.ct (i7 (ef (AB [("NoNumber",_,aq),("NoText",_,aw),("TooFew",_,ax)] T.aS (lZ ⟨rfl,Y.sm,by show (("NoNumber":Str)=="__debug__")=false;decide⟩ (lZ ⟨rfl,Y.xq,by show (("NoText":Str)=="__debug__")=false;decide⟩ (lZ ⟨rfl,Y.xr,by show (("TooFew":Str)=="__debug__")=false;decide⟩ EE))) (Nat.le_of_ble_eq_true rfl) (nT ⟨_,⟨Y.ky,Y.oa⟩,Y.s1⟩) (ae 1))) (gi (eX (ef (AA (Tn:="ValueError") T.aS T.nZ (by decide +kernel) (nT ⟨_,⟨Y.ky,Y.oa⟩,Y.s2⟩) (ae 1))))))) (ay (aI cx)) a_)
 (ay (aI (aD (CF.ce (gd (ag (aD (CF.ce (gd (ag cx (ag cx aA)))) (nR T.sk (rJ T.aS Y.kx (nT ⟨_,⟨Y.ky,Y.oa⟩,Y.s3⟩) (ae 1)))) (ag cx aA)))) (nR T.sk (rJ T.aS Y.gm (nT ⟨_,⟨Y.ky,Y.oa⟩,Y.s4⟩) (ae 1)))))))) (D4 (i:=1) rfl rfl rfl kE.nd rfl rfl Y.gm Y.jO (gT Y.jP) Y.pX (gT Y.pY) Y.s5 λev=>(ao (cw (CW.ct (i7 (ef (AB [("NoNumber",_,aq),("NoText",_,aw),("TooFew",_,ax)] T.aS (lZ ⟨rfl,Y.sm,by show (("NoNumber":Str)=="__debug__")=false;decide⟩ (lZ ⟨rfl,Y.xq,by show (("NoText":Str)=="__debug__")=false;decide⟩ (lZ ⟨rfl,Y.xr,by show (("TooFew":Str)=="__debug__")=false;decide⟩ EE))) (Nat.le_of_ble_eq_true rfl) (nT ⟨_,⟨Y.jO,Y.me⟩,Y.s6⟩) (ae 1))) (gi (eX (ef (AA (Tn:="ValueError") T.aS T.nZ (by decide +kernel) (nT ⟨_,⟨Y.jO,Y.me⟩,Y.s7⟩) (ae 1))))))) (ay (aI cx)) a_)
 (ay (aI (aD (CF.ce (gd (ag (aD (CF.ce (gd (ag cx (ag cx aA)))) (nR T.sk (rJ T.aS Y.kx (nT ⟨_,⟨Y.jO,Y.me⟩,Y.s8⟩) (ae 1)))) (ag cx aA)))) (nR T.sk (rJ T.aS Y.gm (nT ⟨_,⟨Y.jO,Y.me⟩,Y.s9⟩) (ae 1)))))))))))
theorem kI:aV n68 n69 (ar cJ):=⟨rfl,rfl,rfl,by decide +kernel,rfl,by decide +kernel,by decide +kernel⟩
theorem pD{fv:Addr}{fw:FuncData}(T:Tx K mg){aj au ai aq aw ax:Addr}(Y:Ec K mg aj au ai aq aw ax)(cK:Gf K mg "_law_by_name" cJ n69 fv fw)
  {bH:Addr}{bI:FuncData} (bJ:Gf K mg "turned_table" br n51 bH bI)
  (iq:aU P w K mg base (CX1 P w) 5 bH bI n51 (spX K mg aJ 1)) :
  aU P w K mg base CX0 6 fv fw n69 (spD K bK 2) :=
 cF .V cK.F kI λcdv A outer s H E hr=>(ao (D3 rfl rfl (λE pn=>(ay (GU (w_ iq (hr.mono (by decide)) bJ.m bJ.F.kp bJ.b (ag (ae 0) aA))))) (EH (D4 (i:=2) rfl rfl rfl kI.nd rfl rfl Y.kx Y.ky (gT Y.n_) Y.kx (gT Y.n_) Y.s10 λev=>(ay (aI (oZ (EI (ae 1) cx) (qZ (yL (rJ T.aS Y.gm (nT ⟨_,⟨Y.ky,Y.oa⟩,Y.s4⟩) (ae 2)))))))) (G9 Y.gm (gT Y.jP) Y.kx (gT Y.n_) Y.s11 (G_ Y.gm (gT Y.jP) Y.gm (gT Y.jP) Y.s12 λev=>(ay (aI (EI (ae 1) cx)))))))
 (ay (aI iw)))
theorem jT:aV n32 n70 (ar bu):=⟨rfl,rfl,rfl,by decide +kernel,rfl,by decide +kernel,by decide +kernel⟩
theorem ot{eL:Addr}{eM:FuncData}(T:Tx K mg){aj au ai aq aw ax:Addr}(Y:Ec K mg aj au ai aq aw ax)(eN:Gf K mg "_law_is_table" bu n70 eL eM)
  {cp:Addr}{cq:FuncData} (bM:Gf K mg "_law_whole" cB n19 cp cq)
  (fP:aU P w K mg base CX0 1 cp cq n19 (spD K bV 2)) :
  aU P w K mg base CX0 2 eL eM n70 (spD K dw 2) :=
 cF .V eN.F jT λcdv A outer s H E hr=>(ao (cw (CW.ct (i7 (eX (ef (gk T.aS T.d9 (ae 0)))) (i7 (i_ hr (dy T.e8 (ae 0)) ak) (i7 (i_ hr (aD (ae 0) ak) (aD (ae 1) ak)) (gi (eX (ef (gk T.aS T.d9 (aD (ae 0) ak))))))))) (ay (aI iw)) a_)
 (ao (cw (CW.ct (i7 (eX (ef (uz T.aS T.sk (aD (ae 0) ak)))) (i7 (ef (rO T.aS T.EM (aD (ae 0) ak))) (gi (eX (rR ak (aD (ae 0) ak) ak)))))) (ay (aI iw)) a_)
 (ao (cw (i_ hr (CF.ce (cR (N':=n31) rfl (aN (ar bu) rfl n32 rfl (by decide +kernel)) rfl (bD rfl) (gf (aD (ae 0) ak)) (λ_ _ _ _ _=>(bY 0 (show n31.Nodup by decide +kernel))) (λ_ _ _ _ _=>bL) (λ_ _ _ _ _=>(aD (ae 0) ak)))) (CF.ce (cR (N':=n31) rfl (aN (ar bu) rfl n32 rfl (by decide +kernel)) rfl (bD rfl) (gf (aD (ae 1) ak)) (λ_ _ _ _ _=>(bY 0 (show n31.Nodup by decide +kernel))) (λ_ _ _ _ _=>bL) (λ_ _ _ _ _=>(aD (ae 0) ak))))) (ay (aI iw)) a_)
 (ao (gu PassesOwn.never rfl (gf (aD (ae 0) ak)) (bY 2 jT.nd) (ao (cw (CW.ct (i7 (eX (ef (gk T.aS T.d9 (ae 2)))) (i7 (i_ hr (dy T.e8 (ae 2)) ak) (i7 (eX (ef (gk T.aS T.d9 (aD (ae 2) ak)))) (gi (i_ hr (dy T.e8 (aD (ae 2) ak)) (aD (ae 0) ak))))))) (ay (aI iw)) a_)
 (ay (cw (eX (ef (vn hr T.AJ (CF.ce (cR (N':=n33) rfl (aN (ar bu) rfl n32 rfl (by decide +kernel)) rfl (bD rfl) (gf (aD (ae 2) ak)) (λ_ _ _ _ _=>(bY 0 (show n33.Nodup by decide +kernel))) (λ_ _ _ _ _=>bL) (λ_ _ _ _ _=>(aF fP (hr.mono (by decide)) bM.m bM.F.kp bM.b (ag (ae 0) (ag (aD (ae 1) ak) aA))))))))) (ay (aI iw)) a_))))
 (ay (aI iw))))))
theorem jF:aV n35 n71 (ar lD):=⟨rfl,rfl,rfl,by decide +kernel,rfl,by decide +kernel,by decide +kernel⟩
theorem HE{IE:Addr}{IF:FuncData}(T:Tx K mg){aj au ai aq aw ax:Addr}(Y:Ec K mg aj au ai aq aw ax)(MR:Gf K mg "law" lD n71 IE IF)
  {eo:Addr}{eA:FuncData} (aQ:Gf K mg "_law_cell" dP n53 eo eA)
  (dU:aU P w K mg base CX0 1 eo eA n53 (spD K bg 2))
  {lK:Addr}{lL:FuncData} (lM:Gf K mg "_law_p" hX n60 lK lL)
  (Cn:aU P w K mg base CX0 1 lK lL n60 (spD K jN 1))
  {gC:Addr}{gD:FuncData} (gE:Gf K mg "_law_table" dR n59 gC gD)
  (tV:aU P w K mg base CX0 3 gC gD n59 (spD K fK 3))
  {gF:Addr}{gG:FuncData} (gH:Gf K mg "_law_below" cS n26 gF gG)
  (tW:aU P w K mg base CX0 1 gF gG n26 (spD K eQ 2))
  {fQ:Addr}{fR:FuncData} (fS:Gf K mg "_law_opened" cC n65 fQ fR)
  (sJ:aU P w K mg base CX0 1 fQ fR n65 (spD K eg 3))
  {gI:Addr}{gJ:FuncData} (dZ:Gf K mg "_law_words" cT n26 gI gJ)
  (mE:aU P w K mg base CX0 6 gI gJ n26 (spD K cX 2))
  {ia:Addr}{ib:FuncData} (ic:Gf K mg "_law_told" ei n67 ia ib)
  (vV:aU P w K mg base CX0 6 ia ib n67 (spD K cA 1))
  {fv:Addr}{fw:FuncData} (cK:Gf K mg "_law_by_name" cJ n69 fv fw)
  (kJ:aU P w K mg base CX0 6 fv fw n69 (spD K bK 2))
  {eL:Addr}{eM:FuncData} (eN:Gf K mg "_law_is_table" bu n70 eL eM)
  (pE:aU P w K mg base CX0 2 eL eM n70 (spD K dw 2)) :
  aU P w K mg base CX0 7 IE IF n71 (spD K pk 1) :=
 cF .V MR.F jF λcdv A outer s H E hr=>(ao (aK 1 jF.nd (aF Cn (hr.mono (by decide)) lM.m lM.F.kp lM.b (ag (aF dU (hr.mono (by decide)) aQ.m aQ.F.kp aQ.b (ag (ae 0) (ag ak aA))) aA)))
 (ao (aK 2 jF.nd (d5 ak (bq (aF dU (hr.mono (by decide)) aQ.m aQ.F.kp aQ.b (ag (ae 0) (ag ak aA))) ak)))
 (ao (aK 3 jF.nd (bq (aF dU (hr.mono (by decide)) aQ.m aQ.F.kp aQ.b (ag (ae 0) (ag ak aA))) (Kr ak ak)))
 (ao (aK 4 jF.nd (aF tW (hr.mono (by decide)) gH.m gH.F.kp gH.b (ag (aF tV (hr.mono (by decide)) gE.m gE.F.kp gE.b (ag (ae 0) (ag ak (ag (ae 1) aA)))) (ag (ae 2) aA))))
 (ao (cw (xf (bq (ae 3) ak) ak) (ay (aK 4 jF.nd (aF sJ (hr.mono (by decide)) fS.m fS.F.kp fS.b (ag (ae 4) (ag (ae 2) (ag (gO (ae 3) ak) aA)))))) a_)
 (ao (cw (CW.ct (Ka (kF hr (bq (aF dU (hr.mono (by decide)) aQ.m aQ.F.kp aQ.b (ag (ae 0) (ag ak aA))) ak) ak) (yK (i_ hr (aD (ae 4) ak) (gq aA))))) (ay (aK 4 jF.nd (gq (ag (ae 1) (ag (aD (ae 4) ak) (ag (HA (Hy (aD (ae 4) ak) ak) AF (AG (d5 ak (bq (gO (aF dU (hr.mono (by decide)) aQ.m aQ.F.kp aQ.b (ag (ae 0) (ag ak aA))) ak) ak)))) aA)))))) a_)
 (ao (aK 5 jF.nd (aF mE (hr.mono (by decide)) dZ.m dZ.F.kp dZ.b (ag (ae 4) (ag (ae 2) aA))))
 (ao (cw (En (ae 5)) (ay (aI iw)) a_)
 (ao (aK 6 jF.nd (aF vV (hr.mono (by decide)) ic.m ic.F.kp ic.b (ag (ae 4) aA)))
 (ao (cw (xf (dy T.e8 (aD (ae 4) ak)) ak) (ay (aI (oZ (pU hr (ae 6) cx) (qZ (aF kJ (hr.mono (by decide)) cK.m cK.F.kp cK.b (ag (ae 4) (ag cx aA))))))) a_)
 (ao (cw (eX (ef (aD (ae 5) (vf ak)))) (ay (aI (oZ (pU hr (ae 6) cx) (qZ (aF kJ (hr.mono (by decide)) cK.m cK.F.kp cK.b (ag (ae 4) (ag cx aA))))))) a_)
 (ao (cw (eX (ef (aF pE (hr.mono (by decide)) eN.m eN.F.kp eN.b (ag (ae 6) (ag (ae 4) aA))))) (ay (aI iw)) a_)
 (ao (aK 7 jF.nd (aF mE (hr.mono (by decide)) dZ.m dZ.F.kp dZ.b (ag (ae 6) (ag (ae 2) aA))))
 (ay (aI (pU hr (ae 7) (CF.ce (cR (N':=n34) rfl (aN (ar lD) rfl n35 rfl (by decide +kernel)) rfl (bD rfl) (dF T.eV (dy T.e8 (ae 5))) (λ_ _ _ _ _=>(bY 0 (show n34.Nodup by decide +kernel))) (λ_ _ _ _ _=>bL) (λ_ _ _ _ _=>(yL (aD (ae 1) (ve (ve (dy T.e8 (ae 1)) ak) (ae 0)))))))))))))))))))))))
theorem us1{us:List Value}(h:us.length=1):∃a0,us=[a0]:=by
 obtain⟨a0,us,rfl⟩:=gS h;rw[List.length_cons] at h;replace h:=Nat.succ.inj h;cases List.eq_nil_of_length_eq_zero h;exact⟨_,rfl⟩
theorem us2{us:List Value}(h:us.length=2):∃a0 a1,us=[a0,a1]:=by
 obtain⟨a0,us,rfl⟩:=gS h;rw[List.length_cons] at h;replace h:=Nat.succ.inj h;obtain⟨a1,us,rfl⟩:=gS h;rw[List.length_cons] at h;replace h:=Nat.succ.inj h;cases List.eq_nil_of_length_eq_zero h;exact⟨_,_,rfl⟩
theorem us3{us:List Value}(h:us.length=3):∃a0 a1 a2,us=[a0,a1,a2]:=by
 obtain⟨a0,us,rfl⟩:=gS h;rw[List.length_cons] at h;replace h:=Nat.succ.inj h;obtain⟨a1,us,rfl⟩:=gS h;rw[List.length_cons] at h;replace h:=Nat.succ.inj h;obtain⟨a2,us,rfl⟩:=gS h;rw[List.length_cons] at h;replace h:=Nat.succ.inj h;cases List.eq_nil_of_length_eq_zero h;exact⟨_,_,_,rfl⟩
theorem us4{us:List Value}(h:us.length=4):∃a0 a1 a2 a3,us=[a0,a1,a2,a3]:=by
 obtain⟨a0,us,rfl⟩:=gS h;rw[List.length_cons] at h;replace h:=Nat.succ.inj h;obtain⟨a1,us,rfl⟩:=gS h;rw[List.length_cons] at h;replace h:=Nat.succ.inj h;obtain⟨a2,us,rfl⟩:=gS h;rw[List.length_cons] at h;replace h:=Nat.succ.inj h;obtain⟨a3,us,rfl⟩:=gS h;rw[List.length_cons] at h;replace h:=Nat.succ.inj h;cases List.eq_nil_of_length_eq_zero h;exact⟨_,_,_,_,rfl⟩
theorem all_mk{l:PySem.W.OpenLaw}{w:World}{K:PySem.W.Frag}{h:Heap}{mg:Str→Option Value}{fa:Addr}(X:K.In h)(G:h.Ns mainGlobals mg)(hfa:mg "law"=some (.ref fa))
  {f0 f1 f2 f3 f4 f5 f6 f7 f8 f9 f10 f11 f12 f13 f14 f15 f16 f17 f18 f19 f20 f21 f22 f23 f24 f25 f26 f27 f28 f29 f30 f31 f32:Addr}{od0 an0 od1 an1 od2 an2 od3 an3 od4 an4 od5 an5 od6 an6 od7 an7 od8 an8 od9 an9 OJ OK OL OM ON OO OP OQ OR OS OT OU OV OW OX OY OZ O0 O1 O2 O3 O4 O5 O6 O7 O8 O9 O_ Pa Pb Pc Pd Pe Pf Pg Ph Pj Pk Pl Pm Pn Po Pp Pq Pr MS:Option Addr}{sl0 sl1 sl2 sl3 sl4 sl5 sl6 sl7 sl8 sl9 Pt Pu Pw Px Py Pz PB PD PF PH PJ PK PL PM PN PQ PR PU PV PX PY PZ P0:Array (Option Value)}{oc0 kV0 dc0 pm0 cd0 ct0 oc1 kV1 dc1 pm1 cd1 ct1 oc2 kV2 dc2 pm2 cd2 ct2 oc3 kV3 dc3 pm3 cd3 ct3 oc4 kV4 dc4 pm4 cd4 ct4 oc5 kV5 dc5 pm5 cd5 ct5 oc6 kV6 dc6 pm6 cd6 ct6 oc7 kV7 dc7 pm7 cd7 ct7 oc8 kV8 dc8 pm8 cd8 ct8 oc9 kV9 dc9 pm9 cd9 ct9 P1 P2 P4 P5 MT P6 P7 P8 P9 P_ MU Qa Qb Qc Qd Qe MV Qf Qg Qh Qi Qj MW Qk Ql Qm Qn Qo MX Qp Qq Qr Qs Qt MY Qu Qv Qw Qx Qy MZ Qz QA QB QC QD M0 QE QF QG QH QI M1 QJ QK QL QM QN M3 QO QP QQ QR QS M4 QT QU QV QW QX M5 QY QZ Q0 Q1 Q2 M6 Q3 Q4 Q5 Q6 Q7 M7 Q8 Q9 Q_ Ra Rb M8 Rc Rf Rg Rh Ri M9 Rj Rk Rl Rm Rn M_ Ro Rp Rq Rr Rt Na Ru Rv Rx Ry Rz Nb RA RB RC RD RE Nc RF RG RH RI RJ Nd RK RL RM RN RO Nf RP RQ Ng Nh Ni KH Nj:Value}
  (a0:PySem.W.nsIn K mainGlobals "over"=some (some (.ref f0))) (l0:K.lookup f0=some ⟨oc0,od0,.func (PySem.W.fnOf "over" "over" (aW kr) (aR kr) (ar kr) .none kV0 dc0 pm0 an0 cd0 ct0),sl0⟩) (c0:PySem.W.codeIn K cd0 "over"=true) (k0:PySem.W.keepIn K (.ref f0)=true)
  (a1:PySem.W.nsIn K mainGlobals "times"=some (some (.ref f1))) (l1:K.lookup f1=some ⟨oc1,od1,.func (PySem.W.fnOf "times" "times" (aW gX) (aR gX) (ar gX) .none kV1 dc1 pm1 an1 cd1 ct1),sl1⟩) (c1:PySem.W.codeIn K cd1 "times"=true) (k1:PySem.W.keepIn K (.ref f1)=true)
  (a2:PySem.W.nsIn K mainGlobals "freed"=some (some (.ref f2))) (l2:K.lookup f2=some ⟨oc2,od2,.func (PySem.W.fnOf "freed" "freed" (aW iG) (aR iG) (ar iG) .none kV2 dc2 pm2 an2 cd2 ct2),sl2⟩) (c2:PySem.W.codeIn K cd2 "freed"=true) (k2:PySem.W.keepIn K (.ref f2)=true)
  (a3:PySem.W.nsIn K mainGlobals "first_place"=some (some (.ref f3))) (l3:K.lookup f3=some ⟨oc3,od3,.func (PySem.W.fnOf "first_place" "first_place" (aW cY) (aR cY) (ar cY) .none kV3 dc3 pm3 an3 cd3 ct3),sl3⟩) (c3:PySem.W.codeIn K cd3 "first_place"=true) (k3:PySem.W.keepIn K (.ref f3)=true)
  (a4:PySem.W.nsIn K mainGlobals "eased"=some (some (.ref f4))) (l4:K.lookup f4=some ⟨oc4,od4,.func (PySem.W.fnOf "eased" "eased" (aW iH) (aR iH) (ar iH) .none kV4 dc4 pm4 an4 cd4 ct4),sl4⟩) (c4:PySem.W.codeIn K cd4 "eased"=true) (k4:PySem.W.keepIn K (.ref f4)=true)
  (a5:PySem.W.nsIn K mainGlobals "numbers_at"=some (some (.ref f5))) (l5:K.lookup f5=some ⟨oc5,od5,.func (PySem.W.fnOf "numbers_at" "numbers_at" (aW bZ) (aR bZ) (ar bZ) .none kV5 dc5 pm5 an5 cd5 ct5),sl5⟩) (c5:PySem.W.codeIn K cd5 "numbers_at"=true) (k5:PySem.W.keepIn K (.ref f5)=true)
  (a6:PySem.W.nsIn K mainGlobals "unit"=some (some (.ref f6))) (l6:K.lookup f6=some ⟨oc6,od6,.func (PySem.W.fnOf "unit" "unit" (aW jD) (aR jD) (ar jD) .none kV6 dc6 pm6 an6 cd6 ct6),sl6⟩) (c6:PySem.W.codeIn K cd6 "unit"=true) (k6:PySem.W.keepIn K (.ref f6)=true)
  (a7:PySem.W.nsIn K mainGlobals "held"=some (some (.ref f7))) (l7:K.lookup f7=some ⟨oc7,od7,.func (PySem.W.fnOf "held" "held" (aW ku) (aR ku) (ar ku) .none kV7 dc7 pm7 an7 cd7 ct7),sl7⟩) (c7:PySem.W.codeIn K cd7 "held"=true) (k7:PySem.W.keepIn K (.ref f7)=true)
  (a8:PySem.W.nsIn K mainGlobals "nought_sum"=some (some (.ref f8))) (l8:K.lookup f8=some ⟨oc8,od8,.func (PySem.W.fnOf "nought_sum" "nought_sum" (aW dO) (aR dO) (ar dO) .none kV8 dc8 pm8 an8 cd8 ct8),sl8⟩) (c8:PySem.W.codeIn K cd8 "nought_sum"=true) (k8:PySem.W.keepIn K (.ref f8)=true)
  (a9:PySem.W.nsIn K mainGlobals "nought_sums"=some (some (.ref f9))) (l9:K.lookup f9=some ⟨oc9,od9,.func (PySem.W.fnOf "nought_sums" "nought_sums" (aW bW) (aR bW) (ar bW) .none kV9 dc9 pm9 an9 cd9 ct9),sl9⟩) (c9:PySem.W.codeIn K cd9 "nought_sums"=true) (k9:PySem.W.keepIn K (.ref f9)=true)
  (a10:PySem.W.nsIn K mainGlobals "rows_of"=some (some (.ref f10))) (l10:K.lookup f10=some ⟨P1,OJ,.func (PySem.W.fnOf "rows_of" "rows_of" (aW fC) (aR fC) (ar fC) .none P2 P4 P5 OK MT P6),Pt⟩) (c10:PySem.W.codeIn K MT "rows_of"=true) (k10:PySem.W.keepIn K (.ref f10)=true)
  (a11:PySem.W.nsIn K mainGlobals "lines_at"=some (some (.ref f11))) (l11:K.lookup f11=some ⟨P7,OL,.func (PySem.W.fnOf "lines_at" "lines_at" (aW cO) (aR cO) (ar cO) .none P8 P9 P_ OM MU Qa),Pu⟩) (c11:PySem.W.codeIn K MU "lines_at"=true) (k11:PySem.W.keepIn K (.ref f11)=true)
  (a12:PySem.W.nsIn K mainGlobals "hidden_line"=some (some (.ref f12))) (l12:K.lookup f12=some ⟨Qb,ON,.func (PySem.W.fnOf "hidden_line" "hidden_line" (aW cf) (aR cf) (ar cf) .none Qc Qd Qe OO MV Qf),Pw⟩) (c12:PySem.W.codeIn K MV "hidden_line"=true) (k12:PySem.W.keepIn K (.ref f12)=true)
  (a13:PySem.W.nsIn K mainGlobals "opened_by"=some (some (.ref f13))) (l13:K.lookup f13=some ⟨Qg,OP,.func (PySem.W.fnOf "opened_by" "opened_by" (aW cH) (aR cH) (ar cH) .none Qh Qi Qj OQ MW Qk),Px⟩) (c13:PySem.W.codeIn K MW "opened_by"=true) (k13:PySem.W.keepIn K (.ref f13)=true)
  (a14:PySem.W.nsIn K mainGlobals "opens"=some (some (.ref f14))) (l14:K.lookup f14=some ⟨Ql,OR,.func (PySem.W.fnOf "opens" "opens" (aW jb) (aR jb) (ar jb) .none Qm Qn Qo OS MX Qp),Py⟩) (c14:PySem.W.codeIn K MX "opens"=true) (k14:PySem.W.keepIn K (.ref f14)=true)
  (a15:PySem.W.nsIn K mainGlobals "turned_table"=some (some (.ref f15))) (l15:K.lookup f15=some ⟨Qq,OT,.func (PySem.W.fnOf "turned_table" "turned_table" (aW br) (aR br) (ar br) .none Qr Qs Qt OU MY Qu),Pz⟩) (c15:PySem.W.codeIn K MY "turned_table"=true) (k15:PySem.W.keepIn K (.ref f15)=true)
  (a16:PySem.W.nsIn K mainGlobals "_law_cell"=some (some (.ref f16))) (l16:K.lookup f16=some ⟨Qv,OV,.func (PySem.W.fnOf "_law_cell" "_law_cell" (aW dP) (aR dP) (ar dP) .none Qw Qx Qy OW MZ Qz),PB⟩) (c16:PySem.W.codeIn K MZ "_law_cell"=true) (k16:PySem.W.keepIn K (.ref f16)=true)
  (a17:PySem.W.nsIn K mainGlobals "_law_mixed"=some (some (.ref f17))) (l17:K.lookup f17=some ⟨QA,OX,.func (PySem.W.fnOf "_law_mixed" "_law_mixed" (aW dQ) (aR dQ) (ar dQ) .none QB QC QD OY M0 QE),PD⟩) (c17:PySem.W.codeIn K M0 "_law_mixed"=true) (k17:PySem.W.keepIn K (.ref f17)=true)
  (a18:PySem.W.nsIn K mainGlobals "_law_numbers"=some (some (.ref f18))) (l18:K.lookup f18=some ⟨QF,OZ,.func (PySem.W.fnOf "_law_numbers" "_law_numbers" (aW cI) (aR cI) (ar cI) .none QG QH QI O0 M1 QJ),PF⟩) (c18:PySem.W.codeIn K M1 "_law_numbers"=true) (k18:PySem.W.keepIn K (.ref f18)=true)
  (a19:PySem.W.nsIn K mainGlobals "_law_table"=some (some (.ref f19))) (l19:K.lookup f19=some ⟨QK,O1,.func (PySem.W.fnOf "_law_table" "_law_table" (aW dR) (aR dR) (ar dR) .none QL QM QN O2 M3 QO),PH⟩) (c19:PySem.W.codeIn K M3 "_law_table"=true) (k19:PySem.W.keepIn K (.ref f19)=true)
  (a20:PySem.W.nsIn K mainGlobals "_law_p"=some (some (.ref f20))) (l20:K.lookup f20=some ⟨QP,O3,.func (PySem.W.fnOf "_law_p" "_law_p" (aW hX) (aR hX) (ar hX) .none QQ QR QS O4 M4 QT),PJ⟩) (c20:PySem.W.codeIn K M4 "_law_p"=true) (k20:PySem.W.keepIn K (.ref f20)=true)
  (a21:PySem.W.nsIn K mainGlobals "_law_rows"=some (some (.ref f21))) (l21:K.lookup f21=some ⟨QU,O5,.func (PySem.W.fnOf "_law_rows" "_law_rows" (aW dS) (aR dS) (ar dS) .none QV QW QX O6 M5 QY),PK⟩) (c21:PySem.W.codeIn K M5 "_law_rows"=true) (k21:PySem.W.keepIn K (.ref f21)=true)
  (a22:PySem.W.nsIn K mainGlobals "_law_whole"=some (some (.ref f22))) (l22:K.lookup f22=some ⟨QZ,O7,.func (PySem.W.fnOf "_law_whole" "_law_whole" (aW cB) (aR cB) (ar cB) .none Q0 Q1 Q2 O8 M6 Q3),PL⟩) (c22:PySem.W.codeIn K M6 "_law_whole"=true) (k22:PySem.W.keepIn K (.ref f22)=true)
  (a23:PySem.W.nsIn K mainGlobals "_law_opening"=some (some (.ref f23))) (l23:K.lookup f23=some ⟨Q4,O9,.func (PySem.W.fnOf "_law_opening" "_law_opening" (aW bX) (aR bX) (ar bX) .none Q5 Q6 Q7 O_ M7 Q8),PM⟩) (c23:PySem.W.codeIn K M7 "_law_opening"=true) (k23:PySem.W.keepIn K (.ref f23)=true)
  (a24:PySem.W.nsIn K mainGlobals "_law_turning"=some (some (.ref f24))) (l24:K.lookup f24=some ⟨Q9,Pa,.func (PySem.W.fnOf "_law_turning" "_law_turning" (aW bE) (aR bE) (ar bE) .none Q_ Ra Rb Pb M8 Rc),PN⟩) (c24:PySem.W.codeIn K M8 "_law_turning"=true) (k24:PySem.W.keepIn K (.ref f24)=true)
  (a25:PySem.W.nsIn K mainGlobals "_law_is_opening"=some (some (.ref f25))) (l25:K.lookup f25=some ⟨Rf,Pc,.func (PySem.W.fnOf "_law_is_opening" "_law_is_opening" (aW bP) (aR bP) (ar bP) .none Rg Rh Ri Pd M9 Rj),PQ⟩) (c25:PySem.W.codeIn K M9 "_law_is_opening"=true) (k25:PySem.W.keepIn K (.ref f25)=true)
  (a26:PySem.W.nsIn K mainGlobals "_law_below"=some (some (.ref f26))) (l26:K.lookup f26=some ⟨Rk,Pe,.func (PySem.W.fnOf "_law_below" "_law_below" (aW cS) (aR cS) (ar cS) .none Rl Rm Rn Pf M_ Ro),PR⟩) (c26:PySem.W.codeIn K M_ "_law_below"=true) (k26:PySem.W.keepIn K (.ref f26)=true)
  (a27:PySem.W.nsIn K mainGlobals "_law_opened"=some (some (.ref f27))) (l27:K.lookup f27=some ⟨Rp,Pg,.func (PySem.W.fnOf "_law_opened" "_law_opened" (aW cC) (aR cC) (ar cC) .none Rq Rr Rt Ph Na Ru),PU⟩) (c27:PySem.W.codeIn K Na "_law_opened"=true) (k27:PySem.W.keepIn K (.ref f27)=true)
  (a28:PySem.W.nsIn K mainGlobals "_law_words"=some (some (.ref f28))) (l28:K.lookup f28=some ⟨Rv,Pj,.func (PySem.W.fnOf "_law_words" "_law_words" (aW cT) (aR cT) (ar cT) .none Rx Ry Rz Pk Nb RA),PV⟩) (c28:PySem.W.codeIn K Nb "_law_words"=true) (k28:PySem.W.keepIn K (.ref f28)=true)
  (a29:PySem.W.nsIn K mainGlobals "_law_told"=some (some (.ref f29))) (l29:K.lookup f29=some ⟨RB,Pl,.func (PySem.W.fnOf "_law_told" "_law_told" (aW ei) (aR ei) (ar ei) .none RC RD RE Pm Nc RF),PX⟩) (c29:PySem.W.codeIn K Nc "_law_told"=true) (k29:PySem.W.keepIn K (.ref f29)=true)
  (a30:PySem.W.nsIn K mainGlobals "_law_by_name"=some (some (.ref f30))) (l30:K.lookup f30=some ⟨RG,Pn,.func (PySem.W.fnOf "_law_by_name" "_law_by_name" (aW cJ) (aR cJ) (ar cJ) .none RH RI RJ Po Nd RK),PY⟩) (c30:PySem.W.codeIn K Nd "_law_by_name"=true) (k30:PySem.W.keepIn K (.ref f30)=true)
  (a31:PySem.W.nsIn K mainGlobals "_law_is_table"=some (some (.ref f31))) (l31:K.lookup f31=some ⟨RL,Pp,.func (PySem.W.fnOf "_law_is_table" "_law_is_table" (aW bu) (aR bu) (ar bu) .none RM RN RO Pq Nf RP),PZ⟩) (c31:PySem.W.codeIn K Nf "_law_is_table"=true) (k31:PySem.W.keepIn K (.ref f31)=true)
  (a32:PySem.W.nsIn K mainGlobals "law"=some (some (.ref f32))) (l32:K.lookup f32=some ⟨RQ,Pr,.func (PySem.W.fnOf "law" "law" (aW lD) (aR lD) (ar lD) .none Ng Nh Ni MS KH Nj),P0⟩) (c32:PySem.W.codeIn K KH "law"=true) (k32:PySem.W.keepIn K (.ref f32)=true)
  (z0:PySem.W.nsIn K mainGlobals "ValueError"=some none)
  (z1:PySem.W.nsIn K mainGlobals "all"=some none)
  (z2:PySem.W.nsIn K mainGlobals "bool"=some none)
  (z3:PySem.W.nsIn K mainGlobals "enumerate"=some none)
  (z4:PySem.W.nsIn K mainGlobals "int"=some none)
  (z5:PySem.W.nsIn K mainGlobals "isinstance"=some none)
  (z6:PySem.W.nsIn K mainGlobals "len"=some none)
  (z7:PySem.W.nsIn K mainGlobals "list"=some none)
  (z8:PySem.W.nsIn K mainGlobals "range"=some none)
  (z9:PySem.W.nsIn K mainGlobals "sum"=some none)
  (z10:PySem.W.nsIn K mainGlobals "tuple"=some none)
  (z11:PySem.W.nsIn K mainGlobals "zip"=some none)
  {tk0:Nat} (y0:PySem.W.nsIn K mainGlobals "MOST_ROWS"=some (some (.int 12 tk0)))
  {aj au ai aq aw ax:Addr}
  (x0:PySem.W.specialIn K (.builtin "object.__class__") "__get__"=some (some (.builtin "getset_descriptor.__get__")))
  (x1:PySem.W.takesIn K (.builtin "object.__class__")=some true)
  (x2:PySem.W.nsIn K mainGlobals "TooMany"=some (some (.ref aj)))
  (x3:PySem.W.excIn K aj [.type "ValueError",.type "Exception",.type "BaseException",.type "object"] "ValueError.__new__"=true)
  (x4:PySem.W.findIn K (.ref aj) "__getattribute__"=some (some (.builtin "BaseException.__getattribute__")))
  (x5:PySem.W.findIn K (.ref aj) "__getattr__"=some none)
  (x6:PySem.W.findIn K (.ref aj) "__class__"=some (some (.builtin "object.__class__")))
  (x7:PySem.W.mroIn K aj (.type "object")=some true)
  (x8:PySem.W.mroIn K aj (.type "BaseException")=some true)
  (x9:PySem.W.nsIn K mainGlobals "NoFit"=some (some (.ref au)))
  (x10:PySem.W.excIn K au [.type "ValueError",.type "Exception",.type "BaseException",.type "object"] "ValueError.__new__"=true)
  (x11:PySem.W.findIn K (.ref au) "__getattribute__"=some (some (.builtin "BaseException.__getattribute__")))
  (x12:PySem.W.findIn K (.ref au) "__getattr__"=some none)
  (x13:PySem.W.findIn K (.ref au) "__class__"=some (some (.builtin "object.__class__")))
  (x14:PySem.W.mroIn K au (.type "object")=some true)
  (x15:PySem.W.mroIn K au (.type "BaseException")=some true)
  (x16:PySem.W.nsIn K mainGlobals "OpenError"=some (some (.ref ai)))
  (x17:PySem.W.excIn K ai [.type "ValueError",.type "Exception",.type "BaseException",.type "object"] "ValueError.__new__"=true)
  (x18:PySem.W.nsIn K mainGlobals "NoNumber"=some (some (.ref aq)))
  (x19:PySem.W.nsIn K mainGlobals "NoText"=some (some (.ref aw)))
  (x20:PySem.W.nsIn K mainGlobals "TooFew"=some (some (.ref ax)))
  (x21:PySem.W.mroIn K au (.ref ai)=some true)
  (x22:PySem.W.kitAny K (.ref au) [.ref aq,.ref aw,.ref ax]=some false)
  (x23:PySem.W.kitOne K (.ref au) (.type "ValueError")=some true)
  (x24:PySem.W.kitOne K (.ref au) (.ref au)=some true)
  (x25:PySem.W.kitOne K (.ref au) (.ref aj)=some false)
  (x26:PySem.W.mroIn K aj (.ref ai)=some true)
  (x27:PySem.W.kitAny K (.ref aj) [.ref aq,.ref aw,.ref ax]=some false)
  (x28:PySem.W.kitOne K (.ref aj) (.type "ValueError")=some true)
  (x29:PySem.W.kitOne K (.ref aj) (.ref au)=some false)
  (x30:PySem.W.kitOne K (.ref aj) (.ref aj)=some true)
  (x31:PySem.W.mroIn K au (.ref au)=some true)
  (x32:PySem.W.mroIn K aj (.ref au)=some false)
  (x33:PySem.W.mroIn K aj (.ref aj)=some true)
  : ∃fd:FuncData,(∀(s:Shared) (v:Value),BindsTo s fd ⟨[v],[]⟩ [("_law_script",v)])∧∀base:Heap,K.In base→base.Ns mainGlobals mg→aU l.prog w K mg base CX0 7 fa fd ["_law_script"] (spD K pk 1):=by
 have e:=hfa.symm.trans (PySem.W.mg_of X G a32)
 cases e
 have T:Tx K mg:=⟨PySem.W.mg_none_of X G z0,PySem.W.mg_none_of X G z1,PySem.W.mg_none_of X G z2,PySem.W.mg_none_of X G z3,PySem.W.mg_none_of X G z4,PySem.W.mg_none_of X G z5,PySem.W.mg_none_of X G z6,PySem.W.mg_none_of X G z7,PySem.W.mg_none_of X G z8,PySem.W.mg_none_of X G z9,PySem.W.mg_none_of X G z10,PySem.W.mg_none_of X G z11,⟨_,PySem.W.mg_of X G y0⟩⟩
 have Y:Ec K mg aj au ai aq aw ax:=⟨PySem.W.mg_of X G x2,x2,x3,⟨⟨x4,x5,x6,x0,x1,x7,x8⟩,ED x7⟩,PySem.W.mg_of X G x9,x9,x10,⟨⟨x11,x12,x13,x0,x1,x14,x15⟩,ED x14⟩,PySem.W.mg_of X G x16,x16,x17,PySem.W.mg_of X G x18,x18,PySem.W.mg_of X G x19,x19,PySem.W.mg_of X G x20,x20,nS x21,x22,x23,x24,x25,nS x26,x27,x28,x29,x30,nS x31,nS x32,nS x33⟩
 have F0:=bN (st:=kr) l0 c0 k0
 have g0:Gf K mg "over" kr ["p","one","other"] _ _:=⟨F0,F0.binds (ps:=["p","one","other"]) λ_ _ _ _ _ _ us hl=>by obtain⟨_,_,_,rfl⟩:=us3 hl;rfl,PySem.W.mg_of X G a0⟩
 have F1:=bN (st:=gX) l1 c1 k1
 have g1:Gf K mg "times" gX ["p","number","row"] _ _:=⟨F1,F1.binds (ps:=["p","number","row"]) λ_ _ _ _ _ _ us hl=>by obtain⟨_,_,_,rfl⟩:=us3 hl;rfl,PySem.W.mg_of X G a1⟩
 have F2:=bN (st:=iG) l2 c2 k2
 have g2:Gf K mg "freed" iG ["p","row","lead","place"] _ _:=⟨F2,F2.binds (ps:=["p","row","lead","place"]) λ_ _ _ _ _ _ us hl=>by obtain⟨_,_,_,_,rfl⟩:=us4 hl;rfl,PySem.W.mg_of X G a2⟩
 have F3:=bN (st:=cY) l3 c3 k3
 have g3:Gf K mg "first_place" cY ["row","many"] _ _:=⟨F3,F3.binds (ps:=["row","many"]) λ_ _ _ _ _ _ us hl=>by obtain⟨_,_,rfl⟩:=us2 hl;rfl,PySem.W.mg_of X G a3⟩
 have F4:=bN (st:=iH) l4 c4 k4
 have g4:Gf K mg "eased" iH ["p","rows","many"] _ _:=⟨F4,F4.binds (ps:=["p","rows","many"]) λ_ _ _ _ _ _ us hl=>by obtain⟨_,_,_,rfl⟩:=us3 hl;rfl,PySem.W.mg_of X G a4⟩
 have F5:=bN (st:=bZ) l5 c5 k5
 have g5:Gf K mg "numbers_at" bZ ["p","lines","place"] _ _:=⟨F5,F5.binds (ps:=["p","lines","place"]) λ_ _ _ _ _ _ us hl=>by obtain⟨_,_,_,rfl⟩:=us3 hl;rfl,PySem.W.mg_of X G a5⟩
 have F6:=bN (st:=jD) l6 c6 k6
 have g6:Gf K mg "unit" jD ["width","place"] _ _:=⟨F6,F6.binds (ps:=["width","place"]) λ_ _ _ _ _ _ us hl=>by obtain⟨_,_,rfl⟩:=us2 hl;rfl,PySem.W.mg_of X G a6⟩
 have F7:=bN (st:=ku) l7 c7 k7
 have g7:Gf K mg "held" ku ["p","width","lines","wished"] _ _:=⟨F7,F7.binds (ps:=["p","width","lines","wished"]) λ_ _ _ _ _ _ us hl=>by obtain⟨_,_,_,_,rfl⟩:=us4 hl;rfl,PySem.W.mg_of X G a7⟩
 have F8:=bN (st:=dO) l8 c8 k8
 have g8:Gf K mg "nought_sum" dO ["p","leads","many","free"] _ _:=⟨F8,F8.binds (ps:=["p","leads","many","free"]) λ_ _ _ _ _ _ us hl=>by obtain⟨_,_,_,_,rfl⟩:=us4 hl;rfl,PySem.W.mg_of X G a8⟩
 have F9:=bN (st:=bW) l9 c9 k9
 have g9:Gf K mg "nought_sums" bW ["p","width","lines"] _ _:=⟨F9,F9.binds (ps:=["p","width","lines"]) λ_ _ _ _ _ _ us hl=>by obtain⟨_,_,_,rfl⟩:=us3 hl;rfl,PySem.W.mg_of X G a9⟩
 have F10:=bN (st:=fC) l10 c10 k10
 have g10:Gf K mg "rows_of" fC ["table","hands"] _ _:=⟨F10,F10.binds (ps:=["table","hands"]) λ_ _ _ _ _ _ us hl=>by obtain⟨_,_,rfl⟩:=us2 hl;rfl,PySem.W.mg_of X G a10⟩
 have F11:=bN (st:=cO) l11 c11 k11
 have g11:Gf K mg "lines_at" cO ["table","numbers"] _ _:=⟨F11,F11.binds (ps:=["table","numbers"]) λ_ _ _ _ _ _ us hl=>by obtain⟨_,_,rfl⟩:=us2 hl;rfl,PySem.W.mg_of X G a11⟩
 have F12:=bN (st:=cf) l12 c12 k12
 have g12:Gf K mg "hidden_line" cf ["wide"] _ _:=⟨F12,F12.binds (ps:=["wide"]) λ_ _ _ _ _ _ us hl=>by obtain⟨_,rfl⟩:=us1 hl;rfl,PySem.W.mg_of X G a12⟩
 have F13:=bN (st:=cH) l13 c13 k13
 have g13:Gf K mg "opened_by" cH ["table","numbers"] _ _:=⟨F13,F13.binds (ps:=["table","numbers"]) λ_ _ _ _ _ _ us hl=>by obtain⟨_,_,rfl⟩:=us2 hl;rfl,PySem.W.mg_of X G a13⟩
 have F14:=bN (st:=jb) l14 c14 k14
 have g14:Gf K mg "opens" jb ["table","hands"] _ _:=⟨F14,F14.binds (ps:=["table","hands"]) λ_ _ _ _ _ _ us hl=>by obtain⟨_,_,rfl⟩:=us2 hl;rfl,PySem.W.mg_of X G a14⟩
 have F15:=bN (st:=br) l15 c15 k15
 have g15:Gf K mg "turned_table" br ["table"] _ _:=⟨F15,F15.binds (ps:=["table"]) λ_ _ _ _ _ _ us hl=>by obtain⟨_,rfl⟩:=us1 hl;rfl,PySem.W.mg_of X G a15⟩
 have F16:=bN (st:=dP) l16 c16 k16
 have g16:Gf K mg "_law_cell" dP ["_law_script","_law_k"] _ _:=⟨F16,F16.binds (ps:=["_law_script","_law_k"]) λ_ _ _ _ _ _ us hl=>by obtain⟨_,_,rfl⟩:=us2 hl;rfl,PySem.W.mg_of X G a16⟩
 have F17:=bN (st:=dQ) l17 c17 k17
 have g17:Gf K mg "_law_mixed" dQ ["_law_cell_here","_law_k"] _ _:=⟨F17,F17.binds (ps:=["_law_cell_here","_law_k"]) λ_ _ _ _ _ _ us hl=>by obtain⟨_,_,rfl⟩:=us2 hl;rfl,PySem.W.mg_of X G a17⟩
 have F18:=bN (st:=cI) l18 c18 k18
 have g18:Gf K mg "_law_numbers" cI ["_law_cell_here","_law_p_here","_law_count","_law_by_digits"] _ _:=⟨F18,F18.binds (ps:=["_law_cell_here","_law_p_here","_law_count","_law_by_digits"]) λ_ _ _ _ _ _ us hl=>by obtain⟨_,_,_,_,rfl⟩:=us4 hl;rfl,PySem.W.mg_of X G a18⟩
 have F19:=bN (st:=dR) l19 c19 k19
 have g19:Gf K mg "_law_table" dR ["_law_script","_law_at","_law_p_here"] _ _:=⟨F19,F19.binds (ps:=["_law_script","_law_at","_law_p_here"]) λ_ _ _ _ _ _ us hl=>by obtain⟨_,_,_,rfl⟩:=us3 hl;rfl,PySem.W.mg_of X G a19⟩
 have F20:=bN (st:=hX) l20 c20 k20
 have g20:Gf K mg "_law_p" hX ["_law_cell_here"] _ _:=⟨F20,F20.binds (ps:=["_law_cell_here"]) λ_ _ _ _ _ _ us hl=>by obtain⟨_,rfl⟩:=us1 hl;rfl,PySem.W.mg_of X G a20⟩
 have F21:=bN (st:=dS) l21 c21 k21
 have g21:Gf K mg "_law_rows" dS ["_law_table_here","_law_hands_here"] _ _:=⟨F21,F21.binds (ps:=["_law_table_here","_law_hands_here"]) λ_ _ _ _ _ _ us hl=>by obtain⟨_,_,rfl⟩:=us2 hl;rfl,PySem.W.mg_of X G a21⟩
 have F22:=bN (st:=cB) l22 c22 k22
 have g22:Gf K mg "_law_whole" cB ["_law_number","_law_p_here"] _ _:=⟨F22,F22.binds (ps:=["_law_number","_law_p_here"]) λ_ _ _ _ _ _ us hl=>by obtain⟨_,_,rfl⟩:=us2 hl;rfl,PySem.W.mg_of X G a22⟩
 have F23:=bN (st:=bX) l23 c23 k23
 have g23:Gf K mg "_law_opening" bX ["_law_table_here","_law_numbers_here","_law_multipliers"] _ _:=⟨F23,F23.binds (ps:=["_law_table_here","_law_numbers_here","_law_multipliers"]) λ_ _ _ _ _ _ us hl=>by obtain⟨_,_,_,rfl⟩:=us3 hl;rfl,PySem.W.mg_of X G a23⟩
 have F24:=bN (st:=bE) l24 c24 k24
 have g24:Gf K mg "_law_turning" bE ["_law_table_here","_law_numbers_here","_law_turn"] _ _:=⟨F24,F24.binds (ps:=["_law_table_here","_law_numbers_here","_law_turn"]) λ_ _ _ _ _ _ us hl=>by obtain⟨_,_,_,rfl⟩:=us3 hl;rfl,PySem.W.mg_of X G a24⟩
 have F25:=bN (st:=bP) l25 c25 k25
 have g25:Gf K mg "_law_is_opening" bP ["_law_table_here","_law_hands_here","_law_found"] _ _:=⟨F25,F25.binds (ps:=["_law_table_here","_law_hands_here","_law_found"]) λ_ _ _ _ _ _ us hl=>by obtain⟨_,_,_,rfl⟩:=us3 hl;rfl,PySem.W.mg_of X G a25⟩
 have F26:=bN (st:=cS) l26 c26 k26
 have g26:Gf K mg "_law_below" cS ["_law_table_here","_law_many"] _ _:=⟨F26,F26.binds (ps:=["_law_table_here","_law_many"]) λ_ _ _ _ _ _ us hl=>by obtain⟨_,_,rfl⟩:=us2 hl;rfl,PySem.W.mg_of X G a26⟩
 have F27:=bN (st:=cC) l27 c27 k27
 have g27:Gf K mg "_law_opened" cC ["_law_table_here","_law_many","_law_cell_here"] _ _:=⟨F27,F27.binds (ps:=["_law_table_here","_law_many","_law_cell_here"]) λ_ _ _ _ _ _ us hl=>by obtain⟨_,_,_,rfl⟩:=us3 hl;rfl,PySem.W.mg_of X G a27⟩
 have F28:=bN (st:=cT) l28 c28 k28
 have g28:Gf K mg "_law_words" cT ["_law_table_here","_law_many"] _ _:=⟨F28,F28.binds (ps:=["_law_table_here","_law_many"]) λ_ _ _ _ _ _ us hl=>by obtain⟨_,_,rfl⟩:=us2 hl;rfl,PySem.W.mg_of X G a28⟩
 have F29:=bN (st:=ei) l29 c29 k29
 have g29:Gf K mg "_law_told" ei ["_law_table_here"] _ _:=⟨F29,F29.binds (ps:=["_law_table_here"]) λ_ _ _ _ _ _ us hl=>by obtain⟨_,rfl⟩:=us1 hl;rfl,PySem.W.mg_of X G a29⟩
 have F30:=bN (st:=cJ) l30 c30 k30
 have g30:Gf K mg "_law_by_name" cJ ["_law_table_here","_law_word"] _ _:=⟨F30,F30.binds (ps:=["_law_table_here","_law_word"]) λ_ _ _ _ _ _ us hl=>by obtain⟨_,_,rfl⟩:=us2 hl;rfl,PySem.W.mg_of X G a30⟩
 have F31:=bN (st:=bu) l31 c31 k31
 have g31:Gf K mg "_law_is_table" bu ["_law_found","_law_table_here"] _ _:=⟨F31,F31.binds (ps:=["_law_found","_law_table_here"]) λ_ _ _ _ _ _ us hl=>by obtain⟨_,_,rfl⟩:=us2 hl;rfl,PySem.W.mg_of X G a31⟩
 have F32:=bN (st:=lD) l32 c32 k32
 have g32:Gf K mg "law" lD ["_law_script"] _ _:=⟨F32,F32.binds (ps:=["_law_script"]) λ_ _ _ _ _ _ us hl=>by obtain⟨_,rfl⟩:=us1 hl;rfl,PySem.W.mg_of X G a32⟩
 refine⟨PySem.W.fnOf "law" "law" (aW lD) (aR lD) (ar lD) .none Ng Nh Ni MS KH Nj,λs v=>.of_eq rfl,λbase _ _=>?_⟩
 have oV0:=EN (P:=l.prog) (w:=w) (base:=base) T Y g0
 have oV1:=Cg (P:=l.prog) (w:=w) (base:=base) T Y g1
 have oV2:=Ci (P:=l.prog) (w:=w) (base:=base) T Y g2
 have oV3:=qb (P:=l.prog) (w:=w) (base:=base) T Y g3
 have oV4:=Cj (P:=l.prog) (w:=w) (base:=base) T Y g4 g2 oV2 g3 oV3 g0 oV0 g1 oV1
 have oV5:=sy (P:=l.prog) (w:=w) (base:=base) T Y g5
 have oD6:=ER (P:=l.prog) (w:=w) (base:=base) T Y g6
 have oV6:=ES (P:=l.prog) (w:=w) (base:=base) T Y g6
 have oK7:=ET (P:=l.prog) (w:=w) (base:=base) T Y g7 g5 oV5 g6 oV6 g4 oV4 g0 oV0 g1 oV1
 have oV8:=sC (P:=l.prog) (w:=w) (base:=base) T Y g8 g6 oD6
 have oV9:=qc (P:=l.prog) (w:=w) (base:=base) T Y g9 g5 oV5 g4 oV4 g8 oV8
 have RT:=xv (P:=l.prog) (w:=w) (base:=base) T Y g10
 have HF:=vQ (P:=l.prog) (w:=w) (base:=base) T Y g11
 have Nk:=qd (P:=l.prog) (w:=w) (base:=base) T Y g12
 have RU:=tN (P:=l.prog) (w:=w) (base:=base) T Y g13 g11 HF g12 Nk g7 oK7
 have Nl:=tO (P:=l.prog) (w:=w) (base:=base) T Y g13 g11 HF g12 Nk g7 oK7
 have RV:=Ck (P:=l.prog) (w:=w) (base:=base) T Y g14 g10 RT g13 RU
 have Ss:=pq (P:=l.prog) (w:=w) (base:=base) T Y g15 g13 Nl g11 HF g9 oV9 g5 oV5
 have Nm:=pv (P:=l.prog) (w:=w) (base:=base) T Y g15 g11 HF g9 oV9 g5 oV5 g13 Nl
 have Np:=tP (P:=l.prog) (w:=w) (base:=base) T Y g16
 have RW:=sE (P:=l.prog) (w:=w) (base:=base) T Y g17
 have RX:=pA (P:=l.prog) (w:=w) (base:=base) T Y g18 g17 RW
 have RY:=sF (P:=l.prog) (w:=w) (base:=base) T Y g19 g16 Np g18 RX
 have RZ:=zC (P:=l.prog) (w:=w) (base:=base) T Y g20
 have R1:=tR (P:=l.prog) (w:=w) (base:=base) T Y g21
 have KI:=sG (P:=l.prog) (w:=w) (base:=base) T Y g22
 have R3:=pB (P:=l.prog) (w:=w) (base:=base) T Y g23 g22 KI
 have R4:=pC (P:=l.prog) (w:=w) (base:=base) T Y g24 g22 KI
 have R5:=mw (P:=l.prog) (w:=w) (base:=base) T Y g25 g21 R1 g23 R3 g24 R4
 have R6:=sH (P:=l.prog) (w:=w) (base:=base) T Y g26
 have R7:=qh (P:=l.prog) (w:=w) (base:=base) T Y g27
 have R8:=sI (P:=l.prog) (w:=w) (base:=base) T Y g28 g14 RV g25 R5
 have R9:=tU (P:=l.prog) (w:=w) (base:=base) T Y g29 g15 Nm
 have R_:=pD (P:=l.prog) (w:=w) (base:=base) T Y g30 g15 Nm
 have Sa:=ot (P:=l.prog) (w:=w) (base:=base) T Y g31 g22 KI
 have Sb:=HE (P:=l.prog) (w:=w) (base:=base) T Y g32 g16 Np g20 RZ g19 RY g26 R6 g27 R7 g28 R8 g29 R9 g30 R_ g31 Sa
 exact Sb
end
theorem walk{l:PySem.W.OpenLaw}{q:Program}{loose:List Str}{XP:(Str→Option Value)→Heap→Prop}{YP:World→Heap→Prop}{d:DefRec}{K:Params→PySem.W.Frag}(hn:l.most=some 63)(hdf:d.params.defaults=[])
  (Kp:∀ns:List Int,ns.length≤63→∃μ',pk [.val (.lst (ns.map T.int))] []=.ok (.val (.bl true)) μ')
  (hY:∀(w:World) (h:Heap),YP w h→(K w.params).In h)
  (F:∀(w:World) (mg:Str→Option Value) (fa:Addr) (h:Heap),(K w.params).In h→h.Ns mainGlobals mg→mg d.name=some (.ref fa) →
   ∃fd:FuncData,(∀(s:Shared) (u:Value),BindsTo s fd ⟨[u],[]⟩ [("_law_script",u)])∧∀base:Heap,(K w.params).In base→base.Ns mainGlobals mg→aU l.prog w (K w.params) mg base CX0 7 fa fd ["_law_script"] (spD (K w.params) pk 1)) :
  PySem.W.WalkO q loose XP YP l.row.toRowW d [] (λf vs=>PySem.call f vs) :=
 L2.Gn (n:=63) (k:=7) (x:="_law_script") (CX:=λ_=>CX0) (sp:=λw=>spD (K w.params) pk 1) hn (by decide) hdf ⟨rfl,by decide,by decide⟩ hY F (λw H a ns hl hO hS=>Ko Kp hl hS hO) λ_ _ _ _ _ z=>z
end Fw.k83
end
namespace Fw.Sets
section
variable(O:List Int→Bool)
end
end Fw.Sets
namespace Fw.Sets
open Fw
section
variable(O:List Int→Bool)
end
end Fw.Sets
namespace Fw
open PySem Fw Fw.H
theorem Lu(a b:DS)(e:Slots)(μ:af):az a b e μ=(a e μ).seq b:=rfl
theorem Lv(i:Nat)(d:D)(e:Slots)(μ:af):aE i d e μ=(d e μ).toS e λx μ1=>.nx (e.set i (some x)) μ1:=rfl
theorem Lw(d:D)(e:Slots)(μ:af):aG d e μ=(d e μ).toS e λx μ1=>.rt x μ1:=rfl
theorem Nq(c:D)(a b:DS)(e:Slots)(μ:af):sIf c a b e μ=(c e μ).toS e λx μ1=>(R.lift (asB x) μ1).toS e λk μ1=>if k=true then a e μ1 else b e μ1:=rfl
theorem Lx(e:Slots)(μ:af):bB e μ=.nx e μ:=rfl
theorem Nr(f:T→Option T)(a:D)(e:Slots)(μ:af):dUn f a e μ=(a e μ).bind λx μ1=>R.lift (ap1 f (rd μ1 x)) μ1:=rfl
theorem Ly(f:T→T→Option T)(a b:D)(e:Slots)(μ:af):ah f a b e μ=(a e μ).bind λx μ1=>(b e μ1).bind λy μ2=>R.lift (ap2 f (rd μ2 x) (rd μ2 y)) μ2:=rfl
theorem Lz(i:Nat)(e:Slots)(μ:af):aa i e μ=R.lift (slot e i) μ:=rfl
theorem NZ(t:T)(e:Slots)(μ:af):dC t e μ=.ok (.val t) μ:=rfl
theorem KJ(f:FN)(ds:List D)(e:Slots)(μ:af):aB f ds e μ=(eF ds e μ).bind λxs μ1=>f xs μ1:=rfl
theorem HG(d:D)(ds:List D)(e:Slots)(μ:af):eF (d::ds) e μ=(d e μ).bind λx μ1=>(eF ds e μ1).bind λxs μ2=>.ok (x::xs) μ2:=rfl
theorem IG(e:Slots)(μ:af):eF [] e μ=.ok [] μ:=rfl
theorem LA(ds:List D)(e:Slots)(μ:af):fZ ds e μ=(eF ds e μ).bind λxs μ1=>(eB xs μ1).bind λts μ2=>.ok (.val (.tup ts)) μ2:=rfl
theorem LB(ds:List D)(e:Slots)(μ:af):fD ds e μ=(eF ds e μ).bind λxs μ1=>(eB xs μ1).bind λts μ2=>.ok (.val (.lst ts)) μ2:=rfl
theorem LC(a b:D)(e:Slots)(μ:af):aC a b e μ=(a e μ).bind λx μ1=>(b e μ1).bind λy μ2=>R.lift ((rd μ2 y).bind λu=>fA μ2 x u) μ2:=rfl
theorem LD(a:D)(e:Slots)(μ:af):cQ a e μ=(a e μ).bind λx μ1=>R.lift ((jn μ1 x).map SV.val) μ1:=rfl
theorem Nt(f:FN)(xs:List SV)(μ:af):cal f xs μ=(f xs μ).calm:=rfl
theorem IH(x:Option SV)(e:Slots)(i:Nat):slot (x::e) (i+1)=slot e i:=rfl
theorem II(x:SV)(e:Slots):slot (some x::e) 0=some x:=rfl
theorem KL{α:Type}(a:α)(e:Slots)(μ:af)(f:α→af→RS):(R.ok a μ).toS e f=f a μ:=rfl
theorem Nu(μ:af)(t:T):rd μ (.val t)=some t:=rfl
theorem KN(f:T→Option T)(t:T):ap1 f (some t)=(f t).map SV.val:=rfl
theorem KO(f:T→T→Option T)(t u:T):ap2 f (some t) (some u)=(f t u).map SV.val:=rfl
theorem Nv(b:Bool):asB (.val (.bl b))=some b:=rfl
theorem LF(μ:af)(t:T):frz (.val t) μ=.ok t μ:=rfl
theorem KP(μ:af):eB [] μ=.ok [] μ:=rfl
theorem IJ(x:SV)(xs:List SV)(μ:af):eB (x::xs) μ=(frz x μ).bind λt μ1=>(eB xs μ1).bind λts μ2=>.ok (t::ts) μ2:=rfl
theorem IK(e:Slots)(μ:af)(f:Slots→af→RS):(RS.nx e μ).seq f=f e μ:=rfl
theorem FJ{α:Type}(a:α)(μ:af):R.lift (some a) μ=.ok a μ:=rfl
theorem IL{α β:Type}(a:α)(μ:af)(f:α→af→R β):(R.ok a μ).bind f=f a μ:=rfl
theorem IM{α:Type}(a:α)(μ:af):(R.ok a μ).calm=.ok a μ:=rfl
theorem LG(a b:D)(e:Slots)(μ:af):kQ a b e μ=(a e μ).bind λx μ1=>(R.lift (asB x) μ1).bind λk μ1=>if k=true then b e μ1 else .ok (.val (.bl false)) μ1:=rfl
theorem Nw(a b:D)(e:Slots)(μ:af):dOr a b e μ=(a e μ).bind λx μ1=>(R.lift (asB x) μ1).bind λk μ1=>if k=true then .ok (.val (.bl true)) μ1 else b e μ1:=rfl
theorem LH(a:D)(e:Slots)(μ:af):dz a e μ=(a e μ).bind λx μ1=>(R.lift (asB x) μ1).bind λk μ1=>.ok (.val (.bl (!k))) μ1:=rfl
theorem LI(d:D)(e:Slots)(μ:af):eW d e μ=(d e μ).bind λx μ1=>(R.lift ((rd μ1 x).bind cP) μ1).bind λts μ1=>.ok ⟨ts,λμ'=>rd μ' x=rd μ1 x⟩ μ1:=rfl
theorem LJ(it:DI)(b:BD)(body:DS)(e:Slots)(μ:af):eJ it b body e μ=(it e μ).toS e λW μ1=>forL W.same b body W.items e μ1:=rfl
theorem LK(e:Slots):ini [] e=[]:=rfl
theorem KQ(mp:List (Option Nat))(e:Slots):ini (none::mp) e=none::ini mp e:=rfl
theorem KR(j:Nat)(mp:List (Option Nat))(e:Slots):ini (some j::mp) e=slot e j::ini mp e:=rfl
theorem KS(i:Nat)(t:T)(e:Slots):aL i t e=some (e.set i (some (.val t))):=rfl
end Fw
local macro_rules
 | `(tactic| simp_all! only [$ls,*]) => do
  let mut xs:Array (Lean.TSyntax `Lean.Parser.Tactic.simpLemma):=#[]
  for n in "Lu Lv Lw Nq Lx Nr Ly Lz NZ KJ HG IG LA LB LC LD Nt IH II KL Nu KN KO Nv LF KP IJ IK FJ IL IM LG Nw LH LI LJ LK KQ KR KS".splitOn " " do xs := xs.push (← `(Lean.Parser.Tactic.simpLemma| $(Lean.mkIdent (`Fw ++ n.toName)):term))
  `(tactic| try dsimp only [$(xs),*, Nat.reduceAdd, Nat.reduceSub, List.set_cons_succ, List.set_cons_zero, $ls,*])
namespace Fw.E
open PySem Fw Fw.H
structure Rw(p:Int)(L:Nat)(r:List Int):Prop where
 len:r.length=L
 lo:∀x∈r,0≤x
 hi:∀x∈r,x<p
def g(r:List Int)(k:Nat):Int:=r.getD k 0
theorem ir(x:Int)(r:List Int):g (x::r) 0=x:=by simp[g]
theorem eS(x:Int)(r:List Int)(k:Nat):g (x::r) (k+1)=g r k:=by simp[g]
theorem vW(r:List Int)(k:Nat)(h:k<r.length):g r k=r[k]:=by simp[g,h]
theorem Rw.g0{p:Int}{L:Nat}{r:List Int}(h:Rw p L r)(hp:0<p)(k:Nat):0≤g r k∧g r k<p:=by
 by_cases hk:k<r.length
 ·rw[vW r k hk];exact⟨h.lo _ (List.getElem_mem hk),h.hi _ (List.getElem_mem hk)⟩
 ·have:g r k=0:=by simp[g,Nat.le_of_not_lt hk]
  lia
def dot:List Int→List Int→Int
 | x::xs,y::ys=>x*y+dot xs ys
 | _,_=>0
@[simp] theorem N0(ys:List Int):dot [] ys=0:=by cases ys<;>rfl
@[simp] theorem EW(ys:List Int):dot ys []=0:=by cases ys<;>rfl
@[simp] theorem cu(x y:Int)(xs ys:List Int):dot (x::xs) (y::ys)=x*y+dot xs ys:=rfl
theorem sL(xs ys:List Int):dot xs ys=dot ys xs:=by
 induction xs generalizing ys with
 | nil=>cases ys<;>rfl
 | cons x xs ih=>cases ys with
  | nil=>rfl
  | cons y ys=>simp[ih,Int.mul_comm]
theorem zD(c1 c2 r1 r2:List Int)(h:c1.length=r1.length):dot (c1++c2) (r1++r2)=dot c1 r1+dot c2 r2:=by
 induction c1 generalizing r1 with
 | nil=>cases r1 with
  | nil=>simp
  | cons x r1=>simp at h
 | cons x c1 ih=>cases r1 with
  | nil=>simp at h
  | cons y r1=>simp[ih r1 (by simpa using h)];lia
theorem md(x p:Int):∃t,x%p=x-p*t:=⟨x / p,Int.emod_def x p⟩
def sub(p n:Int)(row lead:List Int):List Int:=(row.zip lead).map λq=>(q.1-n*q.2)%p
theorem AL(p n:Int):∀(row lead c:List Int),row.length=lead.length→∃t,dot c (sub p n row lead)=dot c row-n*dot c lead+p*t
 | [],lead,c,h=>by cases lead with
  | nil=>exact⟨0,by simp[sub]⟩
  | cons x l=>simp at h
 | e::row,[],c,h=>by simp at h
 | e::row,o::lead,[],h=>⟨0,by simp[sub]⟩
 | e::row,o::lead,c0::c,h=>by
  obtain⟨s,hs⟩:=AL p n row lead c (by simpa using h)
  obtain⟨t,ht⟩:=md (e-n*o) p
  refine⟨s-c0*t,?_⟩
  have e1:sub p n (e::row) (o::lead)=(e-n*o)%p::sub p n row lead:=rfl
  rw[e1,cu,cu,cu,hs,ht]
  grind
theorem IP(p n:Int):∀(row lead:List Int) (k:Nat),row.length=lead.length→g (sub p n row lead) k=(g row k-n*g lead k)%p
 | [],lead,k,h=>by cases lead with
  | nil=>simp[sub,g]
  | cons x l=>simp at h
 | e::row,[],k,h=>by simp at h
 | e::row,o::lead,0,h=>by simp[sub,g]
 | e::row,o::lead,k+1,h=>by
  have e1:sub p n (e::row) (o::lead)=(e-n*o)%p::sub p n row lead:=rfl
  rw[e1,eS,eS,eS]
  exact IP p n row lead k (by simpa using h)
theorem KU{p:Int}{L:Nat}{row lead:List Int}(hp:0<p)(n:Int)(h1:row.length=L)(h2:lead.length=L):Rw p L (sub p n row lead):=by
 refine⟨by simp[sub,h1,h2],λx hx=>?_,λx hx=>?_⟩
 ·obtain⟨q,_,rfl⟩:=List.mem_map.mp hx
  exact Int.emod_nonneg _ (by lia)
 ·obtain⟨q,_,rfl⟩:=List.mem_map.mp hx
  exact Int.emod_lt_of_pos _ hp
def fr(p:Int)(row lead:List Int)(q:Nat):List Int:=if g row q=0 then row else sub p (g row q) row lead
theorem EX{p:Int}{L:Nat}{row lead:List Int}(hp:0<p)(q:Nat)(h1:Rw p L row)(h2:Rw p L lead):Rw p L (fr p row lead q):=by
 unfold fr
 split
 ·exact h1
 ·exact KU hp _ h1.len h2.len
theorem Nx{p:Int}{L:Nat}{row lead:List Int}(hp:0<p)(q k:Nat)(h1:Rw p L row)(h2:Rw p L lead):g (fr p row lead q) k=(g row k-g row q*g lead k)%p:=by
 unfold fr
 split
 ·rename_i h
  have:=h1.g0 hp k
  rw[h]
  simp
  rw[Int.emod_eq_of_lt this.1 this.2]
 ·exact IP p _ row lead k (by rw[h1.len,h2.len])
def Z(p:Int)(c r:List Int):Prop:=p ∣ dot c r
theorem Ny{p:Int}{L:Nat}{row lead c:List Int}(q:Nat)(h1:Rw p L row)(h2:Rw p L lead)(hz:Z p c lead):Z p c (fr p row lead q)↔Z p c row:=by
 unfold fr
 split
 ·exact Iff.rfl
 ·obtain⟨t,ht⟩:=AL p (g row q) row lead c (by rw[h1.len,h2.len])
  obtain⟨s,hs⟩:=hz
  unfold Z
  rw[ht,hs]
  constructor
  ·rintro⟨u,hu⟩;exact⟨u+g row q*s-t,by grind⟩
  ·rintro⟨u,hu⟩;exact⟨u-g row q*s+t,by grind⟩
def tm(p n:Int)(row:List Int):List Int:=row.map λe=>n*e%p
theorem vX(p n:Int):∀(row c:List Int),∃t,dot c (tm p n row)=n*dot c row+p*t
 | [],c=>⟨0,by simp[tm]⟩
 | e::row,[]=>⟨0,by simp[tm]⟩
 | e::row,c0::c=>by
  obtain⟨s,hs⟩:=vX p n row c
  obtain⟨t,ht⟩:=md (n*e) p
  refine⟨s-c0*t,?_⟩
  have e1:tm p n (e::row)=n*e%p::tm p n row:=rfl
  rw[e1,cu,cu,hs,ht]
  grind
theorem Nz(p n:Int)(row:List Int)(k:Nat):g (tm p n row) k=n*g row k%p:=by
 induction row generalizing k with
 | nil=>simp[tm,g]
 | cons e row ih =>
  have e1:tm p n (e::row)=n*e%p::tm p n row:=rfl
  cases k with
  | zero=>rw[e1,ir,ir]
  | succ k=>rw[e1,eS,eS];exact ih k
theorem EY{p:Int}{L:Nat}{row:List Int}(hp:0<p)(n:Int)(h:row.length=L):Rw p L (tm p n row):=by
 refine⟨by simp[tm,h],λx hx=>?_,λx hx=>?_⟩
 ·obtain⟨q,_,rfl⟩:=List.mem_map.mp hx
  exact Int.emod_nonneg _ (by lia)
 ·obtain⟨q,_,rfl⟩:=List.mem_map.mp hx
  exact Int.emod_lt_of_pos _ hp
def Inv(p n a:Int):Prop:=n*a%p=1%p
theorem Sd{p n a:Int}(row c:List Int)(hi:Inv p n a):Z p c (tm p n row)↔Z p c row:=by
 obtain⟨t,ht⟩:=vX p n row c
 unfold Z
 rw[ht]
 constructor
 ·rintro⟨u,hu⟩
  obtain⟨m1,e1⟩:=md (n*a) p
  obtain⟨m2,e2⟩:=md 1 p
  have e3:n*a-p*m1=1-p*m2:=by rw[← e1,← e2];exact hi
  exact⟨a*(u-t)+(m2-m1)*dot c row,by grind⟩
 ·rintro⟨u,hu⟩;exact⟨n*u+t,by grind⟩
theorem NA{p:Int}(h:ka p)(r:Int)(h1:1<r)(h2:r<p):p%r≠0:=by
 have hb:=h.pos
 have key:∀p∈([2,3,5,7,11,13,17,19,23,29,31,37,41,43,47,53,59,61,67,71,73,79,83,89,97]:List Int),∀r:Nat,r<97→1<r→(r:Int)<p→p%(r:Int)≠0:=by decide +kernel
 have:=key p h r.toNat (by lia) (by lia) (by lia)
 rwa [show (r.toNat:Int)=r by lia] at this
noncomputable abbrev Ld := Nat × List Int
def frees(p:Int)(ls:List Ld)(row:List Int):List Int:=ls.foldl (λr q=>fr p r q.2 q.1) row
structure gM(p:Int)(L m:Nat)(ls:List Ld)(ns:List (List Int))(rows:List (List Int)):Prop where
 nd:(ls.map (·.1)).Nodup
 key:∀q∈ls,q.1<m
 rl:∀q∈ls,Rw p L q.2
 rn:∀r∈ns,Rw p L r
 one:∀q∈ls,g q.2 q.1=1
 off:∀q∈ls,∀q'∈ls,q'.1≠q.1→g q.2 q'.1=0
 no:∀r∈ns,∀j,j<m→g r j=0
 eq:∀c,(∀r∈rows,Z p c r)↔((∀q∈ls,Z p c q.2)∧∀r∈ns,Z p c r)
theorem gM.start(p:Int)(L m:Nat):gM p L m [] [] []:=⟨by simp,by simp,by simp,by simp,by simp,by simp,by simp,by simp⟩
theorem xx{p:Int}{L:Nat}{ls:List Ld}(hp:1<p)(rl:∀q∈ls,Rw p L q.2)(one:∀q∈ls,g q.2 q.1=1)(off:∀q∈ls,∀q'∈ls,q'.1≠q.1→g q.2 q'.1=0) :
  ∀(l D:List Ld) (row:List Int),(∀q∈l,q∈ls)→(∀q∈D,q∈ls)→Rw p L row→(∀q∈D,g row q.1=0) →
   Rw p L (frees p l row)∧(∀q∈D++l,g (frees p l row) q.1=0)∧∀c,(∀q∈l,Z p c q.2)→(Z p c (frees p l row)↔Z p c row)
 | [],D,row,_,_,hr,hd=>⟨hr,λq hq=>hd q (by simpa using hq),λc _=>Iff.rfl⟩
 | a::l,D,row,hl,hD,hr,hd=>by
  have ha:a∈ls:=hl a (by simp)
  have r1:=EX (by lia) a.1 hr (rl a ha)
  have hg:∀k,g (fr p row a.2 a.1) k=(g row k-g row a.1*g a.2 k)%p:=λk=>Nx (by lia) a.1 k hr (rl a ha)
  have h1:g (fr p row a.2 a.1) a.1=0:=by rw[hg,one a ha];simp
  obtain⟨i1,i2,i3⟩:=xx hp rl one off l (D++[a]) (fr p row a.2 a.1) (λq hq=>hl q (by simp[hq])) (λq hq=>by
   rcases List.mem_append.mp hq with h|h
   ·exact hD q h
   ·simp at h;subst h;exact ha) r1 (λq hq=>by
   rcases List.mem_append.mp hq with h|h
   ·by_cases e:q.1=a.1
    ·rw[e];exact h1
    ·rw[hg,hd q h,off a ha q (hD q h) e];simp
   ·simp at h;subst h;exact h1)
  refine⟨i1,λq hq=>i2 q (by simpa using hq),λc hc=>?_⟩
  exact (i3 c λq hq=>hc q (by simp[hq])).trans (Ny a.1 hr (rl a ha) (hc a (by simp)))
theorem gM.rest{p:Int}{L m:Nat}{ls:List Ld}{ns rows:List (List Int)}{row:List Int}(hp:1<p)(E:gM p L m ls ns rows)(hr:Rw p L row) :
  Rw p L (frees p ls row)∧(∀q∈ls,g (frees p ls row) q.1=0)∧∀c,(∀q∈ls,Z p c q.2)→(Z p c (frees p ls row)↔Z p c row):=by
 obtain⟨h1,h2,h3⟩:=xx hp E.rl E.one E.off ls [] row (λq h=>h) (by simp) hr (by simp)
 exact⟨h1,by simpa using h2,h3⟩
theorem gM.KW{p:Int}{L m:Nat}{ls:List Ld}{ns rows:List (List Int)}{row:List Int}(hp:1<p)(E:gM p L m ls ns rows)(hr:Rw p L row)(h0:∀j,j<m→g (frees p ls row) j=0) :
  gM p L m ls (ns++[frees p ls row]) (rows++[row]):=by
 obtain⟨h1,h2,h3⟩:=E.rest hp hr
 refine⟨E.nd,E.key,E.rl,λr h=>?_,E.one,E.off,λr h j hj=>?_,λc=>?_⟩
 ·rcases List.mem_append.mp h with h|h
  ·exact E.rn r h
  ·simp at h;subst h;exact h1
 ·rcases List.mem_append.mp h with h|h
  ·exact E.no r h j hj
  ·simp at h;subst h;exact h0 j hj
 ·constructor
  ·intro h
   have a:=(E.eq c).mp λr hr=>h r (by simp[hr])
   refine⟨a.1,λr hr=>?_⟩
   rcases List.mem_append.mp hr with hr|hr
   ·exact a.2 r hr
   ·simp at hr;subst hr;exact (h3 c a.1).mpr (h row (by simp))
  ·rintro⟨a,b⟩ r hr
   rcases List.mem_append.mp hr with hr|hr
   ·exact (E.eq c).mpr ⟨a,λr h=>b r (by simp[h])⟩ r hr
   ·simp at hr;subst hr;exact (h3 c a).mp (b _ (by simp))
def led(p:Int)(ls:List Ld)(fresh:List Int)(f:Nat):List Ld:=ls.map λq=>(q.1,fr p q.2 fresh f)
theorem gM.lead{p:Int}{L m:Nat}{ls:List Ld}{ns rows:List (List Int)}{row:List Int}{n:Int}{f:Nat}(hp:1<p)(E:gM p L m ls ns rows)(hr:Rw p L row)(hf:f<m)(h0:g (frees p ls row) f≠0)(hi:Inv p n (g (frees p ls row) f)) :
  gM p L m (led p ls (tm p n (frees p ls row)) f++[(f,tm p n (frees p ls row))]) ns (rows++[row]):=by
 obtain⟨h1,h2,h3⟩:=E.rest hp hr
 have k1:Rw p L (tm p n (frees p ls row)):=EY (by lia) n h1.len
 have kz:∀c,Z p c (tm p n (frees p ls row))↔Z p c (frees p ls row):=λc=>Sd _ c hi
 have kf:g (tm p n (frees p ls row)) f=1:=by
  rw[Nz]
  have:n*g (frees p ls row) f%p=1%p:=hi
  rw[this]
  exact Int.emod_eq_of_lt (by lia) hp
 have k0:∀q∈ls,g (tm p n (frees p ls row)) q.1=0:=λq hq=>by rw[Nz,h2 q hq];simp
 generalize tm p n (frees p ls row)=u at k1 kz kf k0
 have fne:∀q∈ls,q.1≠f:=λq hq e=>h0 (by rw[← e];exact h2 q hq)
 have hg:∀q∈ls,∀k,g (fr p q.2 u f) k=(g q.2 k-g q.2 f*g u k)%p:=λq hq k=>Nx (by lia) f k (E.rl q hq) k1
 have mem:∀q,q∈led p ls u f++[(f,u)]→(∃q0∈ls,q=(q0.1,fr p q0.2 u f))∨q=(f,u):=λq hq=>by
  rcases List.mem_append.mp hq with h|h
  ·obtain⟨q0,h1,h2⟩:=List.mem_map.mp h
   exact .inl ⟨q0,h1,h2.symm⟩
  ·simp at h;exact .inr h
 have up:∀q0∈ls,(q0.1,fr p q0.2 u f)∈led p ls u f++[(f,u)]:=λq0 h=>List.mem_append_left _ (List.mem_map.mpr ⟨q0,h,rfl⟩)
 refine⟨?_,λq hq=>?_,λq hq=>?_,E.rn,λq hq=>?_,λq hq q' hq' hne=>?_,E.no,λc=>?_⟩
 ·have e1:(led p ls u f++[(f,u)]).map (·.1)=ls.map (·.1)++[f]:=by simp[led]
  rw[e1,List.nodup_append]
  refine⟨E.nd,by simp,λa ha b hb=>?_⟩
  simp at hb
  obtain⟨q,hq,rfl⟩:=List.mem_map.mp ha
  rw[hb]
  exact fne q hq
 ·rcases mem q hq with ⟨q0,h,rfl⟩|rfl
  ·exact E.key q0 h
  ·exact hf
 ·rcases mem q hq with ⟨q0,h,rfl⟩|rfl
  ·exact EX (by lia) f (E.rl q0 h) k1
  ·exact k1
 ·rcases mem q hq with ⟨q0,h,rfl⟩|rfl
  ·show g (fr p q0.2 u f) q0.1=1
   rw[hg q0 h,E.one q0 h,k0 q0 h]
   simp
   exact Int.emod_eq_of_lt (by lia) hp
  ·exact kf
 ·rcases mem q hq with ⟨q0,h,rfl⟩|rfl
  ·show g (fr p q0.2 u f) q'.1=0
   rcases mem q' hq' with ⟨q1,h',rfl⟩|rfl
   ·have hne:q1.1≠q0.1:=hne
    show g (fr p q0.2 u f) q1.1=0
    rw[hg q0 h,E.off q0 h q1 h' hne,k0 q1 h']
    simp
   ·show g (fr p q0.2 u f) f=0
    rw[hg q0 h,kf]
    simp
  ·rcases mem q' hq' with ⟨q1,h',rfl⟩|rfl
   ·exact k0 q1 h'
   ·exact absurd rfl hne
 ·have key:∀q0∈ls,Z p c u→(Z p c (fr p q0.2 u f)↔Z p c q0.2):=λq0 h hz=>Ny f (E.rl q0 h) k1 hz
  constructor
  ·intro h
   have a:=(E.eq c).mp λr hr=>h r (by simp[hr])
   have hz:Z p c u:=(kz c).mpr ((h3 c a.1).mpr (h row (by simp)))
   refine⟨λq hq=>?_,a.2⟩
   rcases mem q hq with ⟨q0,h',rfl⟩|rfl
   ·exact (key q0 h' hz).mpr (a.1 q0 h')
   ·exact hz
  ·rintro⟨a,b⟩ r hr
   have hz:Z p c u:=a (f,u) (by simp)
   have al:∀q∈ls,Z p c q.2:=λq hq=>(key q hq hz).mp (a _ (up q hq))
   rcases List.mem_append.mp hr with hr|hr
   ·exact (E.eq c).mpr ⟨al,b⟩ r hr
   ·simp at hr;subst hr
    exact (h3 c al).mp ((kz c).mp hz)
def mP:DS :=
 (az (aE 3 (ah aP (aa 2) (aa 0)))
 (az (sIf (ah fEq (aa 3) (dC (.int 0))) uY bB)
 (az (aE 4 (ah aP (aa 1) (aa 0)))
 (az (j0 (ah fNe (aa 3) (dC (.int 1))) (az (aE 4 (ah aP (ah aT (dUn p7 (aa 4)) (ah eD (aa 0) (aa 3))) (aa 0)))
 (aE 3 (ah aP (aa 0) (aa 3)))))
 (aG (aa 4))))))
def kh:DS :=
 (aG (bo (eW (aa 2)) [none,some 0,some 1] (aL 0) (dC (.bl true)) (ah aP (ah aT (aa 2) (aa 0)) (aa 1))))
def gU:DS :=
 (az (aE 4 (aC (aa 1) (aa 3)))
 (az (sIf (ah fEq (aa 4) (dC (.int 0))) (aG (aa 1)) bB)
 (aG (bo (p9 (aa 1) (aa 2)) [none,none,some 0,some 4] (dn [0,1]) (dC (.bl true)) (ah aP (ah oN (aa 0) (ah aT (aa 3) (aa 1))) (aa 2))))))
def d6:DS :=
 (az (eJ (bp (aa 1)) (aL 2) (sIf (ah fNe (aC (aa 0) (aa 2)) (dC (.int 0))) (aG (aa 2)) bB))
 (aG (dC (.non))))
def l_:DS :=
 (az (aE 3 (dI (dC (.dct []))))
 (az (aE 4 (dI (fD [])))
 (az (eJ (eW (aa 1)) (aL 5) (az (aE 6 (aa 5))
 (az (eJ (j9 (aa 3)) (dn [7,8]) (aE 6 (aB (cal (fnV 5 gU)) [(aa 0),(aa 6),(aa 8),(aa 7)])))
 (az (aE 9 (aB (cal (fnV 3 d6)) [(aa 6),(aa 2)]))
 (sIf (dUn my (aa 9)) (cy (aa 4) (aa 6)) (az (aE 10 (aB (cal (fnV 3 kh)) [(aa 0),(aB (cal (fnV 5 mP)) [(aa 0),(dC (.int 1)),(aC (aa 6) (aa 9))]),(aa 6)]))
 (az (eJ (eW (dUn Am (aa 3))) (aL 7) (pT 3 (aa 7) (aB (cal (fnV 5 gU)) [(aa 0),(ah rD (aa 3) (aa 7)),(aa 10),(aa 9)])))
 (pT 3 (aa 9) (aa 10)))))))))
 (aG (fZ [(aa 3),(aa 4)])))))
noncomputable abbrev li (r : List Int) : T := .lst (r.map T.int)
theorem AM{p:Int}(hP:ka p)(one other:Int)(μ:af)(h0:other%p≠0) :
  ∃y,fnV 5 mP [.val (.int p),.val (.int one),.val (.int other)] μ=.ok (.val (.int y)) μ∧0≤y∧y<p∧(y*other-one)%p=0:=by
 have hb:=hP.pos
 have hp0:0<p:=Int.lt_of_lt_of_le (by decide) hb.1
 unfold mP
 have hp:0<p:=by lia
 have z:(other%p==0)=false:=by simpa using h0
 (try simp_all! only[]);simp[hp,z]
 have r0:=Int.emod_nonneg other (Int.ne_of_gt hp0)
 have r1:=Int.emod_lt_of_pos other hp
 refine rB (P:=λr=>∃y,RS.jo μ.length (r.seq (aG (aa 4)))=R.ok (SV.val (T.int y)) μ∧0≤y∧y<p∧(y*other-one)%p=0) ?_
  (λn e μ'=>μ'=μ∧∃rest told:Int,e=[some (.val (.int p)),some (.val (.int one)),some (.val (.int other)),some (.val (.int rest)),some (.val (.int told))]∧rest.toNat=n∧1≤rest∧rest<p∧0≤told∧told<p∧∃t,told*other=one*rest+p*t) ?_ (other%p).toNat _ _ ?_
 ·rintro⟨y,h,_⟩;cases h
 ·rintro m e μ' ⟨rfl,rest,told,rfl,hm,q1,q2,q3,q4,t,ht⟩
  by_cases e1:rest=1
  ·subst e1
   refine⟨false,μ',by simp,?_⟩
   rw[if_neg (by simp)]
   refine⟨told,by simp,q3,q4,?_⟩
   rw[ht]
   simp
   exact Int.emod_eq_zero_of_dvd ⟨t,by lia⟩
  ·refine⟨true,μ',by simp[e1],?_⟩
   rw[if_pos rfl]
   have d1:0≤p / rest:=Int.ediv_nonneg (by lia) (by lia)
   have d2:p / rest≤p:=Int.ediv_le_self _ (by lia)
   have hm2:aT (.int (-told)) (.int (p / rest))=some (.int (-told*(p / rest))):=i6 _ _ (by lia) (by lia)
   have hr:0<rest:=by lia
   have hr2:rest<1073741824:=by lia
   (try simp_all! only[]);simp[hp,hr,hr2,hm2]
   have m0:=Int.emod_nonneg p (show rest≠0 by lia)
   have m1:=Int.emod_lt_of_pos p hr
   have m2:=NA hP rest (by lia) q2
   have t0:=Int.emod_nonneg (-told*(p / rest)) (Int.ne_of_gt hp0)
   have t1:=Int.emod_lt_of_pos (-told*(p / rest)) hp
   refine⟨(p%rest).toNat,by lia,p%rest,-told*(p / rest)%p,⟨rfl,rfl⟩,rfl,by lia,by lia,t0,t1,?_⟩
   obtain⟨u,hu⟩:=md (-told*(p / rest)) p
   have e3:p%rest=p-rest*(p / rest):=Int.emod_def p rest
   rw[hu,e3]
   refine⟨-(u*other)-(p / rest)*t-one,?_⟩
   generalize p / rest=d
   grind
 ·have b0:=Int.emod_nonneg one (Int.ne_of_gt hp0)
  have b1:=Int.emod_lt_of_pos one hp
  refine⟨rfl,_,_,rfl,rfl,by lia,r1,b0,b1,?_⟩
  obtain⟨u,hu⟩:=md one p
  obtain⟨v,hv⟩:=md other p
  exact⟨one*v-u*other,by rw[hu,hv];grind⟩
theorem xy{p:Int}{L:Nat}(hp:0<p)(hp2:p<1000000)(n:Int)(r:List Int)(μ:af)(h:Rw p L r)(hl:L≤1000) :
  fnV 3 kh [.val (.int p),.val (.int n),.val (li r)] μ=.ok (.val (li (tm p n r))) μ:=by
 unfold kh
 simp
 rw[dq _ (λe:Int=>.int (n*e%p)) (by simp)]
 ·rw[R.eT,R.bw,if_pos (by have:=h.len;simp[szL];lia)]
  (try simp_all! only[]);simp[tm,Function.comp_def]
 ·intro e he
  have h1:=h.lo e he
  have h2:=h.hi e he
  refine⟨_,rfl,?_⟩
  have:aT (.int n) (.int e)=some (.int (n*e)):=gR _ _ (by lia) (by lia)
  (try simp_all! only[]);simp[this,hp]
theorem atg{r:List Int}{k:Int}(h0:0≤k)(h1:k<r.length):atI (r.map T.int) k=some (.int (g r k.toNat)):=by
 rw[j7 h0 h1,vW r k.toNat (by lia)]
theorem xA{p:Int}{L:Nat}(hp:0<p)(hp2:p<1000000)(q:Nat)(row lead:List Int)(μ:af)(h1:Rw p L row)(h2:Rw p L lead)(hl:L≤1000)(hq:q<L) :
  fnV 5 gU [.val (.int p),.val (li row),.val (li lead),.val (.int q)] μ=.ok (.val (li (fr p row lead q))) μ:=by
 unfold gU
 have ha:atI (row.map T.int) (q:Int)=some (.int (g row q)):=atg (by lia) (by have:=h1.len;lia)
 simp[ha]
 by_cases e:g row q=0
 ·simp[e,fr]
 ·have e':(g row q==0)=false:=by simpa using e
  simp[e,e']
  rw[lY,dq _ (λz:Int×Int=>.int ((z.1-g row q*z.2)%p)) (by simp)]
  ·rw[R.eT,R.bw,if_pos (by have:=h1.len;simp[szL];lia)]
   (try simp_all! only[]);simp[fr,e,sub,Function.comp_def]
  ·rintro⟨x,y⟩ hz
   have b:=h1.g0 hp q
   refine⟨_,rfl,?_⟩
   have:aT (.int (g row q)) (.int y)=some (.int (g row q*y)):=i6 _ _ (by lia) (by lia)
   simp[this,hp]
theorem EZ{p:Int}{L m:Nat}(r:List Int)(μ:af)(h:Rw p L r)(hm:m≤L)(hl:L≤1000) :
  (fnV 3 d6 [.val (li r),.val (.int m)] μ=.ok (.val .non) μ∧∀j,j<m→g r j=0) ∨
  ∃f:Nat,fnV 3 d6 [.val (li r),.val (.int m)] μ=.ok (.val (.int f)) μ∧f<m∧g r f≠0:=by
 unfold d6
 simp (disch:=lia)
 refine nL (P:=λx=>(RS.jo μ.length (x.seq (aG (dC .non)))=R.ok (SV.val .non) μ∧∀j,j<m→g r j=0)∨∃f:Nat,RS.jo μ.length (x.seq (aG (dC .non)))=R.ok (SV.val (.int f)) μ∧f<m∧g r f≠0)
  (λi e μ'=>μ'=μ∧(∀j,j<i→g r j=0)∧∃x,e=[some (.val (li r)),some (.val (.int m)),x]) (λ_ _ _ _=>trivial) ?_ ?_ ⟨rfl,by simp,none,rfl⟩
 ·rintro i t e μ' ht ⟨rfl,hz,x,rfl⟩
  obtain⟨hi,rfl⟩:=rz ht
  refine⟨_,rfl,?_⟩
  have hi':i<m:=by lia
  have ha:atI (r.map T.int) ((0:Int)+i)=some (.int (g r i)):=by
   have:=atg (r:=r) (k:=(0:Int)+i) (by lia) (by have:=h.len;lia)
   rwa [show ((0:Int)+i).toNat=i by lia] at this
  simp at ha
  (try simp_all! only[]);simp[ha]
  by_cases e:g r i=0
  ·(try simp_all! only[]);simp[e]
   intro j hj
   by_cases ej:j=i
   ·rw[ej];exact e
   ·exact hz j (by lia)
  ·have e':(g r i==0)=false:=by simpa using e
   (try simp_all! only[]);simp[e,e']
   exact⟨i,rfl,hi',e⟩
 ·rintro e μ' ⟨rfl,hz,x,rfl⟩
  left
  refine⟨by simp,?_⟩
  rw[eP] at hz
  intro j hj
  exact hz j (by lia)
def dk(ls:List Ld):List (Key×T):=ls.map λq=>((.inl (q.1:Int):Key),li q.2)
theorem pF(a b:List Ld):dk (a++b)=dk a++dk b:=by simp[dk]
theorem E1(a:List Ld):(dk a).length=a.length:=by simp[dk]
theorem pG{ls:List Ld}{i:Nat}{t:T}(h:(eR (dk ls))[i]?=some t):∃q,ls[i]?=some q∧i<ls.length∧t=.tup [.int (q.1:Int),li q.2]:=by
 unfold eR dk at h
 rw[List.map_map,List.getElem?_map] at h
 obtain⟨q,h1,rfl⟩:=Option.map_eq_some_iff.mp h
 exact⟨q,h1,(List.getElem?_eq_some_iff.mp h1).1,rfl⟩
theorem zE(p:Int)(ls:List Ld)(row:List Int)(i:Nat)(q:Ld)(h:ls[i]?=some q):frees p (ls.take (i+1)) row=fr p (frees p (ls.take i) row) q.2 q.1:=by
 unfold frees
 rw[List.take_add_one,h]
 simp
theorem xB{p:Int}{L:Nat}(hp:0<p):∀(ls:List Ld) (row:List Int),(∀q∈ls,Rw p L q.2)→Rw p L row→Rw p L (frees p ls row)
 | [],row,_,h=>h
 | q::ls,row,hq,h=>xB hp ls _ (λq' h'=>hq q' (by simp[h'])) (EX hp q.1 h (hq q (by simp)))
theorem HH{ls:List Ld}{q:Ld}(hn:(ls.map (·.1)).Nodup)(h:q∈ls):j8 (dk ls) (.inl (q.1:Int))=some (li q.2):=by
 induction ls with
 | nil=>simp at h
 | cons a ls ih =>
  have hn':(a.1::ls.map (·.1)).Nodup:=hn
  obtain⟨h1,h2⟩:=List.nodup_cons.mp hn'
  have e:dk (a::ls)=((.inl (a.1:Int):Key),li a.2)::dk ls:=rfl
  rw[e]
  unfold j8
  rw[List.find?_cons]
  by_cases ea:a.1=q.1
  ·have:q=a:=by
    rcases List.mem_cons.mp h with h|h
    ·exact h
    ·exact absurd (List.mem_map.mpr ⟨q,h,ea.symm⟩) h1
   subst this
   simp
  ·have hne:¬ ((Sum.inl (a.1:Int):Key)=.inl (q.1:Int)):=λz=>ea (by have:=Sum.inl.inj z;lia)
   have:q∈ls:=by
    rcases List.mem_cons.mp h with h|h
    ·subst h;exact absurd rfl ea
    ·exact h
   simp only[hne,decide_false]
   exact ih h2 this
theorem zF(ls:List Ld)(f:Nat):((dk ls).any λkv=>decide (kv.1=(.inl (f:Int):Key)))=ls.any λq=>decide (q.1=f):=by
 unfold dk
 rw[List.any_map]
 congr 1
 funext q
 show decide ((Sum.inl (q.1:Int):Key)=.inl (f:Int))=decide (q.1=f)
 by_cases e:q.1=f
 ·simp[e]
 ·have:¬ ((Sum.inl (q.1:Int):Key)=.inl (f:Int)):=λz=>e (by have:=Sum.inl.inj z;lia)
  simp[e,this]
theorem E3{ls:List Ld}{f:Nat}(r:List Int)(h:∀q∈ls,q.1≠f):u9 (dk ls) (.inl (f:Int)) (li r)=dk (ls++[(f,r)]):=by
 unfold u9
 rw[zF,if_neg,pF]
 ·rfl
 ·intro hc
  obtain⟨q,hq,e⟩:=List.any_eq_true.mp hc
  exact h q hq (of_decide_eq_true e)
theorem E4{a b:List Ld}{q:Ld}(r:List Int)(hn:((a++q::b).map (·.1)).Nodup):u9 (dk (a++q::b)) (.inl (q.1:Int)) (li r)=dk (a++(q.1,r)::b):=by
 unfold u9
 rw[zF,if_pos (List.any_eq_true.mpr ⟨q,by simp,by simp⟩)]
 have ne:∀x∈a++b,¬ ((Sum.inl (x.1:Int):Key)=.inl (q.1:Int)):=λx hx z=>by
  have e:x.1=q.1:=by have:=Sum.inl.inj z;lia
  rw[List.map_append,List.nodup_append] at hn
  obtain⟨_,n2,n3⟩:=hn
  rcases List.mem_append.mp hx with h|h
  ·exact n3 x.1 (List.mem_map.mpr ⟨x,h,rfl⟩) q.1 (by simp) e
  ·have n2':(q.1::b.map (·.1)).Nodup:=n2
   exact (List.nodup_cons.mp n2').1 (List.mem_map.mpr ⟨x,h,e⟩)
 have same:∀l:List Ld,(∀x∈l,x∈a++b)→(dk l).map (λkv=>if kv.1=(.inl (q.1:Int):Key) then (kv.1,li r) else kv)=dk l:=λl hl=>by
  unfold dk
  rw[List.map_map]
  refine List.map_congr_left λx hx=>?_
  show (if (Sum.inl (x.1:Int):Key)=.inl (q.1:Int) then _ else _)=_
  rw[if_neg (ne x (hl x hx))]
 rw[pF,List.map_append,same a (λx h=>by simp[h]),pF]
 congr 1
 show (if (Sum.inl (q.1:Int):Key)=.inl (q.1:Int) then _ else _)::(dk b).map _=_
 rw[if_pos rfl,same b (λx h=>by simp[h])]
 rfl
section
variable{p:Int}{L m:Nat}
theorem KY(hP:ka p)(hl:L≤1000)(hmL:m≤L){ls:List Ld}{row:List Int}(hk:∀q∈ls,q.1<m)(rl:∀q∈ls,Rw p L q.2)(hr:Rw p L row)(same:af→Prop)(μ:af)(hs:same μ)(x1 x2 x3 x4 x5 x7 x8 x9 x10:Option SV) :
  ∃y7 y8,forL same (dn [7,8]) (aE 6 (aB (cal (fnV 5 gU)) [(aa 0),(aa 6),(aa 8),(aa 7)])) (eR (dk ls)) [some (.val (.int p)),x1,x2,x3,x4,x5,some (.val (li row)),x7,x8,x9,x10] μ =
   .nx [some (.val (.int p)),x1,x2,x3,x4,x5,some (.val (li (frees p ls row))),y7,y8,x9,x10] μ:=by
 have hb:=hP.pos
 have hp0:0<p:=Int.lt_of_lt_of_le (by decide) hb.1
 obtain⟨e',μ',h1,y7,y8,h2,h3⟩:=gv (same:=same) (b:=dn [7,8]) (body:=aE 6 (aB (cal (fnV 5 gU)) [(aa 0),(aa 6),(aa 8),(aa 7)])) (ts:=eR (dk ls))
  (e:=[some (.val (.int p)),x1,x2,x3,x4,x5,some (.val (li row)),x7,x8,x9,x10]) (μ:=μ)
  (λi e μ'=>∃y7 y8,μ'=μ∧e=[some (.val (.int p)),x1,x2,x3,x4,x5,some (.val (li (frees p (ls.take i) row))),y7,y8,x9,x10])
  (λi e μ' av=>by obtain⟨_,_,h,_⟩:=av;rw[h];exact hs) (λi t e μ' ht dH=>by
   obtain⟨y7,y8,hμ,he⟩:=dH
   subst hμ he
   obtain⟨q,hq,hi,rfl⟩:=pG ht
   have hm:q∈ls:=List.mem_of_getElem? hq
   have hf:=xA (p:=p) (L:=L) (by lia) (by lia) q.1 (frees p (ls.take i) row) q.2 μ' (xB (by lia) _ _ (λq' h'=>rl q' (List.mem_of_mem_take h')) hr) (rl q hm) hl (by have:=hk q hm;lia)
   refine⟨_,_,_,ee _ _ _ _ _,?_,some (.val (.int q.1)),some (.val (li q.2)),rfl,rfl⟩
   rw[zE p ls row i q hq]
   simp only[jZ,gZ,cg,eU,eO,List.set_cons_succ,List.set_cons_zero,dm,dj,R.bf,R.bw,kR]
   rw[hf]
   rfl) ⟨x7,x8,rfl,rfl⟩
 refine⟨y7,y8,?_⟩
 rw[h1,h2,h3]
 have:(eR (dk ls)).length=ls.length:=by simp[eR,dk]
 rw[this,List.take_length]
theorem E5(u:List Int)(f:Nat)(ls:List Ld)(i:Nat)(q:Ld)(h:ls[i]?=some q):led p (ls.take (i+1)) u f=led p (ls.take i) u f++[(q.1,fr p q.2 u f)]:=by
 unfold led
 rw[List.take_add_one,h]
 simp
theorem E6{ls:List Ld}{i:Nat}{t:T}(h:((dk ls).map λp=>wK p.1)[i]?=some t):∃q,ls[i]?=some q∧i<ls.length∧t=.int (q.1:Int):=by
 unfold dk at h
 rw[List.map_map,List.getElem?_map] at h
 obtain⟨q,h1,rfl⟩:=Option.map_eq_some_iff.mp h
 exact⟨q,h1,(List.getElem?_eq_some_iff.mp h1).1,rfl⟩
theorem KZ(hP:ka p)(hl:L≤1000)(hmL:m≤L){ls:List Ld}{u:List Int}{f:Nat}(hn:(ls.map (·.1)).Nodup)(hf:f<m)(rl:∀q∈ls,Rw p L q.2)(hu:Rw p L u)(hsz:ls.length<szL)(same:af→Prop)(hs:∀μ,same μ)(μ tl:af)(x1 x2 x4 x5 x6 x7 x8:Option SV) :
  ∃y7,forL same (aL 7) (pT 3 (aa 7) (aB (cal (fnV 5 gU)) [(aa 0),(ah rD (aa 3) (aa 7)),(aa 10),(aa 9)])) ((dk ls).map λp=>wK p.1)
   [some (.val (.int p)),x1,x2,some (.cel μ.length),x4,x5,x6,x7,x8,some (.val (.int f)),some (.val (li u))] (μ++(true,.dct (dk ls))::tl) =
   .nx [some (.val (.int p)),x1,x2,some (.cel μ.length),x4,x5,x6,y7,x8,some (.val (.int f)),some (.val (li u))] (μ++(true,.dct (dk (led p ls u f)))::tl):=by
 have hb:=hP.pos
 have hp0:0<p:=Int.lt_of_lt_of_le (by decide) hb.1
 obtain⟨e',μ',h1,y7,h2,h3⟩:=gv (same:=same) (b:=aL 7) (body:=pT 3 (aa 7) (aB (cal (fnV 5 gU)) [(aa 0),(ah rD (aa 3) (aa 7)),(aa 10),(aa 9)])) (ts:=(dk ls).map λp=>wK p.1)
  (e:=[some (.val (.int p)),x1,x2,some (.cel μ.length),x4,x5,x6,x7,x8,some (.val (.int f)),some (.val (li u))]) (μ:=μ++(true,.dct (dk ls))::tl)
  (λi e μ'=>∃y7,μ'=μ++(true,.dct (dk (led p (ls.take i) u f++ls.drop i)))::tl∧e=[some (.val (.int p)),x1,x2,some (.cel μ.length),x4,x5,x6,y7,x8,some (.val (.int f)),some (.val (li u))])
  (λi e μ' _=>hs μ') (λi t e μ' ht av=>by
   obtain⟨y7,hμ,he⟩:=av
   subst hμ he
   obtain⟨q,hq,hi,rfl⟩:=E6 ht
   have hm:q∈ls:=List.mem_of_getElem? hq
   have hd:ls.drop i=q::ls.drop (i+1):=by
    rw[List.drop_eq_getElem_cons hi]
    congr 1
    rw[List.getElem?_eq_getElem hi] at hq
    exact Option.some.inj hq
   have IQ:(led p (ls.take i) u f++q::ls.drop (i+1)).map (·.1)=ls.map (·.1):=by
    rw[← hd,List.map_append]
    have:(led p (ls.take i) u f).map (·.1)=(ls.take i).map (·.1):=by unfold led;rw[List.map_map];rfl
    rw[this,← List.map_append,List.take_append_drop]
   have hnd:((led p (ls.take i) u f++q::ls.drop (i+1)).map (·.1)).Nodup:=by rw[IQ];exact hn
   have hlen:(dk (led p (ls.take i) u f++q::ls.drop (i+1))).length<szL:=by
    have:=congrArg List.length IQ
    simp only[List.length_map] at this
    rw[E1,this];exact hsz
   have hv:=HH hnd (q:=q) (by simp)
   have hfr:=xA (p:=p) (L:=L) (by lia) (by lia) f q.2 u (μ++(true,.dct (dk (led p (ls.take i) u f++q::ls.drop (i+1))))::tl) (rl q hm) hu hl (by lia)
   rw[hd]
   refine⟨_,_,_,kW _ _ _,?_,some (.val (.int q.1)),rfl,rfl⟩
   rw[E5 u f ls i q hq,List.append_assoc,List.singleton_append,← E4 (fr p q.2 u f) hnd]
   simp only[rE,gZ,cg,eU,eO,List.set_cons_succ,List.set_cons_zero,dm,dj,R.bf,R.bw,R.toS_ok,kR,nA,mK,jl,iD,Option.map_some,ny,BG,hv]
   rw[hfr]
   simp only[R.eT,R.toS_ok,nr]
   rw[ur (kts:=dk (led p (ls.take i) u f++q::ls.drop (i+1))) (by simp) hlen]
   simp) ⟨x7,by simp[led],rfl⟩
 refine⟨y7,?_⟩
 rw[h1,h2,h3]
 have:((dk ls).map λp=>wK p.1).length=ls.length:=by simp[dk]
 rw[this,List.take_length,List.drop_length,List.append_nil]
end
seal RS.yQ
theorem xC{r:RS}{k:Slots→af→RS}{I:Slots→af→Prop}{P:RS→Prop}{e':Slots}{μ':af}(h:r=.nx e' μ')(hk:(k e' μ').yQ I P):(r.seq k).yQ I P:=by rw[h];exact hk
section
variable{p:Int}{L m:Nat}
theorem xD(hP:ka p)(hl:L≤1000)(hmL:m≤L)(rows:List (List Int))(hR:∀r∈rows,Rw p L r)(hrn:rows.length≤1000)(x:SV)(μ:af)(hx:∀l,rd (μ++l) x=some (.lst (rows.map li))) :
  ∃ls ns,fnV 11 l_ [.val (.int p),x,.val (.int m)] μ=.ok (.val (.tup [.dct (dk ls),.lst (ns.map li)])) μ∧gM p L m ls ns rows∧ls.length+ns.length=rows.length:=by
 have hb:=hP.pos
 have hp0:0<p:=Int.lt_of_lt_of_le (by decide) hb.1
 unfold l_
 simp[hx]
 refine nL (P:=λr=>∃ls ns,RS.jo μ.length (r.seq (aG (fZ [aa 3,aa 4])))=R.ok (SV.val (.tup [.dct (dk ls),.lst (ns.map li)])) μ∧gM p L m ls ns rows∧ls.length+ns.length=rows.length)
  (λi e μ'=>∃ls ns x5 x6 x7 x8 x9 x10,e=[some (.val (.int p)),some x,some (.val (.int m)),some (.cel μ.length),some (.cel (μ.length+1)),x5,x6,x7,x8,x9,x10]∧μ'=μ++[(true,.dct (dk ls)),(true,.lst (ns.map li))]∧gM p L m ls ns (rows.take i)∧ls.length+ns.length=i)
  ?_ ?_ ?_ ⟨[],[],none,none,none,none,none,none,rfl,rfl,gM.start p L m,rfl⟩
 ·rintro i e μ' ⟨ls,ns,_,_,_,_,_,_,_,h,_⟩
  rw[h];exact hx _
 ·rintro i t e μ' ht ⟨ls,ns,x5,x6,x7,x8,x9,x10,rfl,rfl,E,hlen⟩
  rw[List.getElem?_map] at ht
  obtain⟨row,K0,rfl⟩:=Option.map_eq_some_iff.mp ht
  have hi:i<rows.length:=(List.getElem?_eq_some_iff.mp K0).1
  have hr:Rw p L row:=hR row (List.mem_of_getElem? K0)
  have htk:rows.take (i+1)=rows.take i++[row]:=by rw[List.take_add_one,K0];rfl
  obtain⟨r1,r2,r3⟩:=E.rest (by lia) hr
  refine⟨_,kW _ _ _,?_⟩
  (try simp_all! only[]);simp only[fU,jZ,eU,List.set_cons_succ,List.set_cons_zero,dm,dj,R.bf,R.toS_ok,RS.ig,lS,o5,R.bw,mK,iD,Option.map_some,Option.bind_some,u_]
  obtain⟨y7,y8,h⟩:=KY hP hl hmL E.key E.rl hr (λμ'=>Option.map (λx=>x.snd) μ'[List.length μ]?=some (T.dct (dk ls))) (μ++[(true,T.dct (dk ls)),(true,T.lst (ns.map li))]) (by simp) (some x) (some (.val (.int m))) (some (.cel μ.length)) (some (.cel (μ.length+1))) (some (.val (li row))) x7 x8 x9 x10
  refine xC h ?_
  clear h
  simp only[fU,jZ,eU,gZ,cg,eO,kR,List.set_cons_succ,List.set_cons_zero,dm,dj,R.bf,R.bw,R.toS_ok,RS.ig]
  have hfo:=EZ (m:=m) (frees p ls row) (μ++[(true,T.dct (dk ls)),(true,T.lst (ns.map li))]) r1 hmL hl
  generalize fnV 3 d6 [.val (li (frees p ls row)),.val (.int m)] (μ++[(true,T.dct (dk ls)),(true,T.lst (ns.map li))])=G at hfo ⊢
  rcases hfo with ⟨rfl,hz⟩|⟨f,rfl,hfm,hne⟩
  ·skip
   have hsz:(ns.map li).length<szL:=by rw[List.length_map];unfold szL;lia
   (try simp_all! only[]);simp[yO _ _ _ _ _ hsz]
   refine⟨ls,ns++[frees p ls row],⟨rfl,by simp⟩,?_,by simp;lia⟩
   rw[htk]
   exact E.KW (by lia) hr hz
  ·skip
   have ha:atI ((frees p ls row).map T.int) (f:Int)=some (.int (g (frees p ls row) f)):=atg (by lia) (by rw[r1.len];lia)
   have gb:=r1.g0 (p:=p) (by lia) f
   have ou:g (frees p ls row) f%p≠0:=by rw[Int.emod_eq_of_lt gb.1 gb.2];exact hne
   obtain⟨y,ho,y0,y1,yz⟩:=AM hP 1 (g (frees p ls row) f) (μ++[(true,T.dct (dk ls)),(true,T.lst (ns.map li))]) ou
   have ht:=xy (p:=p) (L:=L) (by lia) (by lia) y (frees p ls row) (μ++[(true,T.dct (dk ls)),(true,T.lst (ns.map li))]) r1 hl
   have hinv:Inv p y (g (frees p ls row) f):=by
    unfold Inv
    exact Int.emod_eq_emod_iff_emod_sub_eq_zero.mpr yz
   have hE:=E.lead (by lia) hr hfm hne hinv
   have fne:∀q∈ls,q.1≠f:=λq hq e=>hne (by rw[← e];exact r2 q hq)
   generalize hu:tm p y (frees p ls row)=u at ht hE
   have hu2:Rw p L u:=by rw[← hu];exact EY (by lia) y r1.len
   (try simp_all! only[]);simp only[R.eT,R.toS_ok,yF,uT,eU,List.set_cons_succ,List.set_cons_zero,dm,dj,R.bf,R.bw,jl,qI,Bx,Option.map_some,iN,Bool.false_eq_true,if_false,fU,jZ,gZ,cg,eO,kR,qH,jY,Option.bind_some,kS,ha,ho,ht,RS.ig,lS,u3,mK,iD,Am,iB]
   refine (KZ hP hl hmL E.nd hfm E.rl hu2 (by unfold szL;lia) _ ?_ _ _ _ _ _ _ _ _ _).elim λy7 h=>xC h ?_
   ·intro μ'';trivial
   have hkl:(dk (led p ls u f)).length<szL:=by rw[E1];simp[led];unfold szL;lia
   simp only[rE,eU,dm,dj,R.bf,R.toS_ok,jl,nr]
   rw[ur (kts:=dk (led p ls u f)) (by simp) hkl]
   (try simp_all! only[]);simp only[R.bf,R.toS_ok,Aw,qm]
   rw[E3 u (λq hq=>by
    obtain⟨q0,h0,rfl⟩:=List.mem_map.mp hq
    exact fne q0 h0)]
   refine⟨_,ns,_,_,_,_,_,_,rfl,rfl,?_,?_⟩
   ·rw[htk];exact hE
   ·simp[led];lia
 ·rintro e μ' ⟨ls,ns,x5,x6,x7,x8,x9,x10,rfl,rfl,E,hlen⟩
  rw[List.length_map,List.take_length] at E
  rw[List.length_map] at hlen
  exact⟨ls,ns,by simp,E,hlen⟩
end
def eu(n k:Nat):List Int:=(List.replicate n 0).set k 1
theorem iL(n:Nat)(r:List Int):dot (List.replicate n 0) r=0:=by
 induction n generalizing r with
 | zero=>simp
 | succ n ih=>cases r with
  | nil=>simp
  | cons x r=>rw[List.replicate_succ,cu,ih];simp
theorem mW:∀(n k:Nat) (r:List Int),k<n→dot (eu n k) r=g r k
 | 0,k,r,h=>by lia
 | n+1,0,r,h=>by
  cases r with
  | nil=>simp[g]
  | cons x r =>
   have:eu (n+1) 0=1::List.replicate n 0:=by simp[eu,List.replicate_succ]
   rw[this,cu,iL,ir];lia
 | n+1,k+1,r,h=>by
  have e:eu (n+1) (k+1)=0::eu n k:=by simp[eu,List.replicate_succ]
  cases r with
  | nil=>simp[g]
  | cons x r=>rw[e,cu,eS,mW n k r (by lia)];lia
theorem AN(l r:List Int):dot (l.map λx=>-x) r=- dot l r:=by
 induction l generalizing r with
 | nil=>simp
 | cons x l ih=>cases r with
  | nil=>simp
  | cons y r=>simp only[List.map_cons,cu,ih];rw[Int.neg_mul];lia
theorem sM:∀(xs ys:List Int),(∀i,g xs i*g ys i=0)→dot xs ys=0
 | [],ys,h=>by simp
 | x::xs,[],h=>by simp
 | x::xs,y::ys,h=>by
  rw[cu,sM xs ys λi=>by simpa [eS] using h (i+1)]
  have:=h 0
  rw[ir,ir] at this
  lia
theorem sN:∀(xs ys:List Int) (k:Nat),(∀i,i≠k→g xs i*g ys i=0)→dot xs ys=g xs k*g ys k
 | [],ys,k,h=>by simp[g]
 | x::xs,[],k,h=>by simp[g]
 | x::xs,y::ys,0,h=>by
  rw[cu,sM xs ys λi=>by simpa [eS] using h (i+1) (by lia),ir,ir];lia
 | x::xs,y::ys,k+1,h=>by
  have:=h 0 (by lia)
  rw[ir,ir] at this
  rw[cu,this,sN xs ys k λi hi=>by simpa [eS] using h (i+1) (by lia),eS,eS];lia
theorem vY(r:List Int)(n k:Nat)(h:k<n):g (r.take n) k=g r k:=by
 simp[g,List.getD_eq_getElem?_getD,List.getElem?_take,h]
theorem zG(r:List Int)(n k:Nat)(h:n≤k):g (r.take n) k=0:=by
 simp[g,List.getD_eq_getElem?_getD,List.getElem?_take,Nat.not_lt.mpr h]
theorem AO(r:List Int)(k j:Nat)(v:Int)(h:k<r.length):g (r.set k v) j=if j=k then v else g r j:=by
 by_cases e:j=k
 ·subst e;simp[g,List.getD_eq_getElem?_getD,h]
 ·simp[g,List.getD_eq_getElem?_getD,List.getElem?_set,e,Ne.symm e]
theorem E7(r:List Int)(m:Nat)(h:m<r.length):r=r.take m++g r m::r.drop (m+1):=by
 rw[vW r m h,← List.drop_eq_getElem_cons h,List.take_append_drop]
theorem jU(a c r:List Int)(b:Int)(m:Nat)(ha:a.length=m)(h:m<r.length):dot (a++b::c) r=dot a (r.take m)+b*g r m+dot c (r.drop (m+1)):=by
 have e:=E7 r m h
 have:dot (a++b::c) (r.take m++g r m::r.drop (m+1))=dot a (r.take m)+(b*g r m+dot c (r.drop (m+1))):=by
  rw[zD _ _ _ _ (by simp[ha];lia),cu]
 rw[← e] at this
 rw[this];lia
theorem E8(n k:Nat):(eu n k).length=n:=by simp[eu]
theorem ox{p:Int}(hp:1<p)(n:Nat):Rw p n (List.replicate n 0):=⟨by simp,λx hx=>by have:=(List.mem_replicate.mp hx).2;lia,λx hx=>by have:=(List.mem_replicate.mp hx).2;lia⟩
theorem Rw.set{p:Int}{n k:Nat}{r:List Int}{v:Int}(h:Rw p n r)(h0:0≤v)(h1:v<p):Rw p n (r.set k v):=by
 refine⟨by simp[h.len],λx hx=>?_,λx hx=>?_⟩
 ·rcases List.mem_or_eq_of_mem_set hx with z|z
  ·exact h.lo x z
  ·lia
 ·rcases List.mem_or_eq_of_mem_set hx with z|z
  ·exact h.hi x z
  ·lia
theorem Rw.append{p:Int}{n k:Nat}{r s:List Int}(h:Rw p n r)(h':Rw p k s):Rw p (n+k) (r++s):=by
 refine⟨by simp[h.len,h'.len],λx hx=>?_,λx hx=>?_⟩
 ·rcases List.mem_append.mp hx with z|z
  ·exact h.lo x z
  ·exact h'.lo x z
 ·rcases List.mem_append.mp hx with z|z
  ·exact h.hi x z
  ·exact h'.hi x z
theorem Rw.drop{p:Int}{n k:Nat}{r:List Int}(h:Rw p n r):Rw p (n-k) (r.drop k) :=
 ⟨by simp[h.len],λx hx=>h.lo x (List.mem_of_mem_drop hx),λx hx=>h.hi x (List.mem_of_mem_drop hx)⟩
def col(lines:List (List Int))(j:Nat):List Int:=lines.map λl=>g l j
def aug(w:Nat)(lines:List (List Int))(ws:List Int)(j:Nat):List Int:=(col lines j++[g ws j])++eu w j
section
variable{p:Int}{w:Nat}{lines:List (List Int)}{ws:List Int}
theorem E9(hp:0<p)(hl:∀l∈lines,Rw p w l)(j:Nat):Rw p lines.length (col lines j):=by
 refine⟨by simp[col],λx hx=>?_,λx hx=>?_⟩
 ·obtain⟨l,h,rfl⟩:=List.mem_map.mp hx
  exact ((hl l h).g0 hp j).1
 ·obtain⟨l,h,rfl⟩:=List.mem_map.mp hx
  exact ((hl l h).g0 hp j).2
theorem K1(hp:1<p)(hl:∀l∈lines,Rw p w l)(hw:Rw p w ws)(j:Nat):Rw p (lines.length+1+w) (aug w lines ws j):=by
 have g0:=hw.g0 (by lia) j
 have h1:Rw p 1 [g ws j]:=⟨rfl,λx hx=>by simp at hx;lia,λx hx=>by simp at hx;lia⟩
 exact ((E9 (by lia) hl j).append h1).append ((ox hp w).set (by lia) hp)
theorem NB(k j:Nat)(h:k<lines.length):g (col lines j) k=g lines[k] j:=by
 rw[vW _ _ (by simp[col,h])];simp[col]
theorem uC(j:Nat):(aug w lines ws j).take lines.length=col lines j∧g (aug w lines ws j) lines.length=g ws j∧(aug w lines ws j).drop (lines.length+1)=eu w j:=by
 have hc:(col lines j).length=lines.length:=by simp[col]
 refine⟨?_,?_,?_⟩
 ·unfold aug;rw[List.append_assoc,List.take_append_of_le_length (by lia),List.take_of_length_le (by lia)]
 ·unfold aug;rw[vW _ _ (by simp[hc])];simp[hc]
 ·unfold aug;rw[List.drop_append_of_le_length (by simp[hc]),List.drop_of_length_le (by simp[hc]),List.nil_append]
theorem told{ls:List Ld}{ns:List (List Int)}(hp:1<p)(E:gM p (lines.length+1+w) lines.length ls ns ((List.range w).map λj=>aug w lines ws j)){r:List Int}(hr:r∈ns)(hw:ws.length=w)(hl:∀l∈lines,l.length=w) :
  (∀l∈lines,p ∣ dot l (r.drop (lines.length+1)))∧p ∣ g r lines.length-dot ws (r.drop (lines.length+1)):=by
 have hrl:=(E.rn r hr).len
 have use:∀(a v:List Int) (b:Int),a.length=lines.length→(∀j,j<w→dot a (col lines j)+b*g ws j=g v j)→p ∣ dot a (r.take lines.length)+b*g r lines.length-dot v (r.drop (lines.length+1)):=λa v b ha hv=>by
  have hz:=((E.eq (a++b::v.map λx=>-x)).mp λq hq=>by
   obtain⟨j,hj,rfl⟩:=List.mem_map.mp hq
   have hj:j<w:=List.mem_range.mp hj
   obtain⟨e1,e2,e3⟩:=uC (w:=w) (lines:=lines) (ws:=ws) j
   unfold Z
   rw[jU a _ _ b lines.length ha (by simp[aug,col]),e1,e2,e3,AN,sL v (eu w j),mW w j v hj,hv j hj]
   exact⟨0,by lia⟩).2 r hr
  unfold Z at hz
  rw[jU a _ _ b lines.length ha (by lia),AN] at hz
  exact hz
 refine⟨λl hl'=>?_,?_⟩
 ·obtain⟨k,hk,rfl⟩:=List.mem_iff_getElem.mp hl'
  have:=use (eu lines.length k) lines[k] 0 (E8 _ _) λj hj=>by rw[mW _ _ _ hk,NB k j hk];lia
  rw[mW _ _ _ hk,vY _ _ _ hk,E.no r hr k hk] at this
  obtain⟨t,ht⟩:=this
  exact⟨-t,by rw[Int.mul_neg];lia⟩
 ·have:=use (List.replicate lines.length 0) ws 1 (by simp) λj hj=>by rw[iL];lia
  rw[iL] at this
  simpa using this
theorem K2{ls:List Ld}{ns:List (List Int)}(hp:1<p)(E:gM p (lines.length+1+w) lines.length ls ns ((List.range w).map λj=>aug w lines ws j))(h0:∀r∈ns,g r lines.length=0){ms:List Int}(hm:ms.length=lines.length)
  (h1:∀q∈ls,g ms q.1=g q.2 lines.length) (h2:∀i,(∀q∈ls,q.1≠i)→g ms i=0) (j:Nat) (hj:j<w):p ∣ dot ms (col lines j)-g ws j:=by
 have hz:=(E.eq (ms++(-1)::List.replicate w 0)).mpr ⟨λq hq=>?_,λr hr=>?_⟩ (aug w lines ws j) (List.mem_map.mpr ⟨j,List.mem_range.mpr hj,rfl⟩)
 ·obtain⟨e1,e2,e3⟩:=uC (w:=w) (lines:=lines) (ws:=ws) j
  unfold Z at hz
  rw[jU ms _ _ _ lines.length hm (by simp[aug,col]),e1,e2,iL] at hz
  obtain⟨t,ht⟩:=hz
  exact⟨t,by lia⟩
 ·unfold Z
  rw[jU ms _ _ _ lines.length hm (by rw[(E.rl q hq).len];lia),iL,sN ms (q.2.take lines.length) q.1,vY _ _ _ (E.key q hq),E.one q hq,h1 q hq]
  ·exact⟨0,by lia⟩
  ·intro i hi
   by_cases hk:∃q'∈ls,q'.1=i
   ·obtain⟨q',hq',rfl⟩:=hk
    rw[vY _ _ _ (E.key q' hq'),E.off q hq q' hq' hi];simp
   ·rw[h2 i λq' hq' e=>hk ⟨q',hq',e⟩];simp
 ·unfold Z
  rw[jU ms _ _ _ lines.length hm (by rw[(E.rn r hr).len];lia),iL,h0 r hr,sM]
  ·exact⟨0,by lia⟩
  ·intro i
   by_cases hi:i<lines.length
   ·rw[vY _ _ _ hi,E.no r hr i hi];simp
   ·rw[zG _ _ _ (by lia)];simp
end
def cz:DS :=
 (aG (bo (eW (aa 1)) [none,some 0,some 2] (aL 0) (dC (.bl true)) (ah aP (aC (aa 0) (aa 2)) (aa 1))))
def kj:DS :=
 (az (aE 2 (dI (oM mr [(dC (.int 0))] (aa 0))))
 (az (dJ 2 (aa 1) (dC (.int 1)))
 (aG (aa 2))))
def lj:DS :=
 (az (aE 4 (cQ (aa 2)))
 (az (aE 5 (dI (fD [])))
 (az (eJ (bp (aa 1)) (aL 6) (cy (aa 5) (ah bT (ah bT (aB (cal (fnV 3 cz)) [(aa 0),(aa 2),(aa 6)]) (fD [(ah aP (aC (aa 3) (aa 6)) (aa 0))])) (aB (cal (fnV 3 kj)) [(aa 1),(aa 6)]))))
 (az (aE 7 (aB (cal (fnV 11 l_)) [(aa 0),(aa 5),(aa 4)]))
 (az (eJ (eW (aC (aa 7) (dC (.int 1)))) (aL 8) (sIf (ah fNe (aC (aa 8) (aa 4)) (dC (.int 0))) (aG (p6 [(dC (.str "turn")),(dUn cL (aB (cal (fnV 3 kh)) [(aa 0),(aB (cal (fnV 5 mP)) [(aa 0),(dC (.int 1)),(aC (aa 8) (aa 4))]),(DC (aa 8) (some (ah bT (aa 4) (dC (.int 1)))) none)]))])) bB))
 (az (aE 9 (dI (oM mr [(dC (.int 0))] (aa 4))))
 (az (eJ (j9 (aC (aa 7) (dC (.int 0)))) (dn [6,10]) (dJ 9 (aa 6) (aC (aa 10) (aa 4))))
 (aG (p6 [(dC (.str "sum")),(aa 9)])))))))))
noncomputable abbrev tu (r : List Int) : T := .tup (r.map T.int)
theorem vZ{μ:af}{x:SV}{ts:List T}(h:rd μ x=some (.lst ts)):jn μ x=some (.int ts.length):=by
 cases x with
 | val t=>cases h;rfl
 | cel k=>rw[Dz,h];rfl
 | box xs=>cases h
theorem AQ{μ:af}{x:SV}{ts:List T}{i:Int}(h:rd μ x=some (.lst ts)):fA μ x (.int i)=(atI ts i).map SV.val:=by
 cases x with
 | val t=>cases h;rfl
 | cel k=>rw[Dy,h];rfl
 | box xs=>cases h
section
variable{p:Int}{w:Nat}{lines:List (List Int)}{ws:List Int}
def mdl(p:Int)(l:List Int):List Int:=l.map (·%p)
theorem Se(p:Int)(l:List Int)(j:Nat):g (mdl p l) j=g l j%p:=by
 unfold g mdl
 rw[List.getD_eq_getElem?_getD,List.getD_eq_getElem?_getD,List.getElem?_map]
 cases l[j]? with
 | none=>simp
 | some x=>simp
theorem NC{l:List Int}(hp:0<p)(h:l.length=w):Rw p w (mdl p l):=by
 refine⟨by unfold mdl;rw[List.length_map];exact h,λx hx=>?_,λx hx=>?_⟩
 ·obtain⟨y,_,rfl⟩:=List.mem_map.mp hx;exact Int.emod_nonneg _ (by lia)
 ·obtain⟨y,_,rfl⟩:=List.mem_map.mp hx;exact Int.emod_lt_of_pos _ hp
theorem ND{l:List Int}(h:Rw p w l):mdl p l=l:=by
 unfold mdl
 exact (List.map_congr_left λx hx=>Int.emod_eq_of_lt (h.2 x hx) (h.3 x hx)).trans (List.map_id' l)
theorem E_(hl:∀l∈lines,Rw p w l):lines.map (mdl p)=lines:=(List.map_congr_left λl h=>ND (hl l h)).trans (List.map_id' lines)
theorem pZ(hp:0<p)(hl:∀l∈lines,l.length=w)(hn:lines.length≤1000)(j:Nat)(hj:j<w)(x:SV)(μ:af)(hx:rd μ x=some (.lst (lines.map tu))) :
  fnV 3 cz [.val (.int p),x,.val (.int j)] μ=.ok (.val (li (col (lines.map (mdl p)) j))) μ:=by
 unfold cz
 (try simp_all! only[]);simp[hx]
 rw[dq _ (λl:List Int=>.int (g l j%p)) (by simp[hx])]
 ·rw[R.eT,R.bw,if_pos (by simp[szL];lia)]
  (try simp_all! only[]);simp[col,Function.comp_def,Se]
 ·intro l hm
  have h:=hl l hm
  refine⟨_,rfl,?_⟩
  have ha:atI (l.map T.int) (j:Int)=some (.int (g l j)):=by
   have:=atg (r:=l) (k:=(j:Int)) (by lia) (by rw[h];lia)
   simpa using this
  (try simp_all! only[]);simp[ha,hp]
theorem zH(hp:0<p)(hl:∀l∈lines,Rw p w l)(hn:lines.length≤1000)(j:Nat)(hj:j<w)(x:SV)(μ:af)(hx:rd μ x=some (.lst (lines.map tu))) :
  fnV 3 cz [.val (.int p),x,.val (.int j)] μ=.ok (.val (li (col lines j))) μ:=by
 rw[pZ hp (λl h=>(hl l h).1) hn j hj x μ hx,E_ hl]
theorem AR(xs:List T)(k:Int)(h:-(2 ^ 63)≤k∧k<2 ^ 63∧xs.length*k.toNat≤szL):mr (.lst xs) (.int k)=some (.lst (List.replicate k.toNat xs).flatten):=if_pos h
theorem rep0(n:Nat)(h:n≤1000):mr (.lst [.int 0]) (.int (n:Int))=some (li (List.replicate n 0)):=by
 have hn:(n:Int).toNat=n:=by lia
 have hz:[T.int 0].length*(n:Int).toNat≤szL:=by
  rw[hn]
  unfold szL
  simp
  lia
 rw[AR _ _ ⟨by lia,by lia,hz⟩,hn,List.flatten_replicate_singleton,li,List.map_replicate]
theorem hs_(w j:Nat)(hj:j<w)(μ:af):setAt (.cel μ.length) (.int (j:Int)) (.int 1) (μ++[(true,li (List.replicate w 0))])=some (μ++[(true,li (eu w j))]):=by
  rw[rk (ts:=(List.replicate w 0).map T.int) iD (by lia) (by rw[List.length_map,List.length_replicate];lia),qm]
  have:(j:Int).toNat=j:=by lia
  rw[this]
  unfold eu li
  rw[List.map_set]
theorem K3(f:T→T→Option T)(x y:Int)(z z2:T)(μ:af)(hr:f (.lst [.int 0]) (.int x)=some z)(hs:setAt (.cel μ.length) (.int y) (.int 1) (μ++[(true,z)])=some (μ++[(true,z2)])):fnV 3 (az (aE 2 (dI (oM f [(dC (.int 0))] (aa 0))))
 (az (dJ 2 (aa 1) (dC (.int 1)))
 (aG (aa 2)))) [.val (.int x),.val (.int y)] μ=.ok (.val z2) μ:=by
 simp[hr,hs]
theorem HI(j:Nat)(hj:j<w)(hw:w≤1000)(μ:af):fnV 3 kj [.val (.int w),.val (.int j)] μ=.ok (.val (li (eu w j))) μ :=
 K3 mr w j _ _ μ (rep0 w hw) (hs_ w j hj μ)
theorem Fb(f:T→T→Option T)(i j:Nat)(e:Slots)(μ:af)(k:Int)(t:T)(hs:slot e j=some (.val (.int k)))(h:f (.lst [.int 0]) (.int k)=some t):aE i (dI (oM f [dC (.int 0)] (aa j))) e μ=.nx (e.set i (some (.cel μ.length))) (μ++[(true,t)]):=by
 (try simp_all! only[]);simp[hs,h]
theorem v7{raw:List (List Int)}(hP:ka p)(hl:∀l∈raw,l.length=w)(Co:raw.map (mdl p)=lines)(hw:Rw p w ws)(hn:lines.length≤200)(hw2:w≤100)(x:SV)(μ:af)(hx:∀l,rd (μ++l) x=some (.lst (raw.map tu)))(same:af→Prop)(Fc:∀μ',same μ')(x4 x6 x7 x8 x9 x10:Option SV) :
  ∃y6,forL same (aL 6) (cy (aa 5) (ah bT (ah bT (aB (cal (fnV 3 cz)) [(aa 0),(aa 2),(aa 6)]) (fD [(ah aP (aC (aa 3) (aa 6)) (aa 0))])) (aB (cal (fnV 3 kj)) [(aa 1),(aa 6)]))) (b7 0 w)
   [some (.val (.int p)),some (.val (.int w)),some x,some (.val (tu ws)),x4,some (.cel μ.length),x6,x7,x8,x9,x10] (μ++[(true,.lst [])]) =
   .nx [some (.val (.int p)),some (.val (.int w)),some x,some (.val (tu ws)),x4,some (.cel μ.length),y6,x7,x8,x9,x10] (μ++[(true,.lst (((List.range w).map λj=>aug w lines ws j).map li))]):=by
 have hb:=hP.pos
 have hp0:0<p:=Int.lt_of_lt_of_le (by decide) hb.1
 have hrl:raw.length=lines.length:=by rw[← Co,List.length_map]
 obtain⟨e',μ',h1,y6,h2,h3⟩:=gv (same:=same) (b:=aL 6) (body:=cy (aa 5) (ah bT (ah bT (aB (cal (fnV 3 cz)) [(aa 0),(aa 2),(aa 6)]) (fD [(ah aP (aC (aa 3) (aa 6)) (aa 0))])) (aB (cal (fnV 3 kj)) [(aa 1),(aa 6)]))) (ts:=b7 0 w)
  (e:=[some (.val (.int p)),some (.val (.int w)),some x,some (.val (tu ws)),x4,some (.cel μ.length),x6,x7,x8,x9,x10]) (μ:=μ++[(true,.lst [])])
  (λi e μ'=>∃y6,e=[some (.val (.int p)),some (.val (.int w)),some x,some (.val (tu ws)),x4,some (.cel μ.length),y6,x7,x8,x9,x10]∧μ'=μ++[(true,.lst (((List.range i).map λj=>aug w lines ws j).map li))])
  (λi e μ' _=>Fc μ') (λi t e μ' ht av=>by
   obtain⟨y6,he,hμ⟩:=av
   subst he hμ
   obtain⟨hi,rfl⟩:=rz ht
   have e0:(0:Int)+(i:Int)=(i:Int):=by lia
   rw[e0]
   generalize hc:(true,T.lst (((List.range i).map λj=>aug w lines ws j).map li))=c
   have HJ:=pZ (p:=p) (w:=w) (by lia) hl (by lia) i (by lia) x (μ++[c]) (hx _)
   rw[Co] at HJ
   have hun:=HI (w:=w) i (by lia) (by lia) (μ++[c])
   have gb:=hw.g0 (p:=p) (by lia) i
   have ha:atI (ws.map T.int) (i:Int)=some (.int (g ws i)):=by
    have:=atg (r:=ws) (k:=(i:Int)) (by lia) (by rw[hw.len];lia)
    simpa using this
   have ou:g ws i%p=g ws i:=Int.emod_eq_of_lt gb.1 gb.2
   have a1:bT (li (col lines i)) (.lst [.int (g ws i)])=some (li (col lines i++[g ws i])):=by
    rw[nC _ _ (by simp[col,szL];lia)];simp
   have a2:bT (li (col lines i++[g ws i])) (li (eu w i))=some (li (aug w lines ws i)):=by
    rw[nC _ _ (by simp[col,szL,eu];lia)];simp[aug]
   have hls:p8 (.cel μ.length) (μ++[c])=some ():=by rw[← hc];exact rj _ _ _ _
   have hap:∀t,appendAt (.cel μ.length) t (μ++[c])=some (μ++[(true,T.lst (((List.range i).map λj=>aug w lines ws j).map li++[t]))]):=λt=>by rw[← hc];exact mL _ _ _ _ (by simp[szL];lia)
   refine⟨_,_,_,kW _ _ _,?_,some (.val (.int i)),rfl,rfl⟩
   simp only[hls,hap,qR,gZ,cg,eO,eU,kR,nA,uU,jY,lR,qF,nr,List.set_cons_succ,List.set_cons_zero,dm,dj,R.bf,R.bw,R.toS_ok,jl,ny,Option.bind_some,nE,ha,Option.map_some,d_ _ _ hp0,ou,HJ,hun,R.eT,a1,a2]
   rw[List.range_succ,List.map_append,List.map_append]
   rfl) ⟨x6,rfl,rfl⟩
 refine⟨y6,?_⟩
 rw[h1,h2,h3,eP]
end
theorem Sf(r:List Int)(i:Int)(h0:0≤i)(h1:i≤r.length):J7 (li r) (some i) none=some (li (r.drop i.toNat)):=by
 have e1:sIx (r.map T.int).length 0 (some i)=i.toNat:=by show (if i<0 then _ else min i.toNat (r.map T.int).length)=_;rw[if_neg (by omega),List.length_map];omega
 have e2:sIx (r.map T.int).length (r.map T.int).length none=(r.map T.int).length:=rfl
 show some (T.lst (oS (r.map T.int) (some i) none))=_
 unfold oS
 rw[e1,e2,List.take_of_length_le (by simp)]
 simp
theorem atn{r:List Int}{k:Nat}(h:k<r.length):atI (r.map T.int) (k:Int)=some (.int (g r k)):=by
 have:=atg (r:=r) (k:=(k:Int)) (by omega) (by omega)
 simpa using this
section
variable{p:Int}{w:Nat}{lines:List (List Int)}{ws:List Int}
theorem HK{L m:Nat}(hp:0<p){ls:List Ld}(hn:(ls.map (·.1)).Nodup)(hk:∀q∈ls,q.1<m)(rl:∀q∈ls,Rw p L q.2)(hmL:m<L)(hp1:1<p)(same:af→Prop)(Fc:∀μ',same μ')(μ:af)(c:Bool×T)(x0 x1 x2 x3 x5 x6 x7 x8 x10:Option SV) :
  ∃y6 y10 ms,forL same (dn [6,10]) (dJ 9 (aa 6) (aC (aa 10) (aa 4))) (eR (dk ls)) [x0,x1,x2,x3,some (.val (.int m)),x5,x6,x7,x8,some (.cel (μ.length+1)),x10] (μ++[c,(true,li (List.replicate m 0))]) =
   .nx [x0,x1,x2,x3,some (.val (.int m)),x5,y6,x7,x8,some (.cel (μ.length+1)),y10] (μ++[c,(true,li ms)])∧Rw p m ms∧(∀q∈ls,g ms q.1=g q.2 m)∧∀j,(∀q∈ls,q.1≠j)→g ms j=0:=by
 obtain⟨e',μ',h1,y6,y10,ms,h2,h3,h4,h5,h6⟩:=gv (same:=same) (b:=dn [6,10]) (body:=dJ 9 (aa 6) (aC (aa 10) (aa 4))) (ts:=eR (dk ls))
  (e:=[x0,x1,x2,x3,some (.val (.int m)),x5,x6,x7,x8,some (.cel (μ.length+1)),x10]) (μ:=μ++[c,(true,li (List.replicate m 0))])
  (λi e μ'=>∃y6 y10 ms,e=[x0,x1,x2,x3,some (.val (.int m)),x5,y6,x7,x8,some (.cel (μ.length+1)),y10]∧μ'=μ++[c,(true,li ms)]∧Rw p m ms∧(∀q∈ls.take i,g ms q.1=g q.2 m)∧∀j,(∀q∈ls.take i,q.1≠j)→g ms j=0)
  (λi e μ' _=>Fc μ') (λi t e μ' ht av=>by
   obtain⟨y6,y10,ms,he,hμ,hr,h5,h6⟩:=av
   subst he hμ
   obtain⟨q,hq,hi,rfl⟩:=pG ht
   have hm:q∈ls:=List.mem_of_getElem? hq
   have hkq:=hk q hm
   have ha:=atn (r:=q.2) (k:=m) (by rw[(rl q hm).len];exact hmL)
   have gb:=(rl q hm).g0 hp m
   have K4:setAt (.cel (μ.length+1)) (.int (q.1:Int)) (.int (g q.2 m)) (μ++[c,(true,li ms)])=some (μ++[c,(true,li (ms.set q.1 (g q.2 m)))]):=by
    rw[rk (ts:=ms.map T.int) GY (by omega) (by rw[List.length_map,hr.len];omega),GZ]
    have:(q.1:Int).toNat=q.1:=by omega
    rw[this,← List.map_set]
   have htk:ls.take (i+1)=ls.take i++[q]:=by rw[List.take_add_one,hq];rfl
   have hne:∀q'∈ls.take i,q'.1≠q.1:=λq' hq' e=>by
    have hd:ls=ls.take i++q::ls.drop (i+1):=by
     have:ls.drop i=q::ls.drop (i+1):=by
      rw[List.drop_eq_getElem_cons hi]
      congr 1
      rw[List.getElem?_eq_getElem hi] at hq
      exact Option.some.inj hq
     rw[← this,List.take_append_drop]
    rw[hd,List.map_append,List.nodup_append] at hn
    exact hn.2.2 q'.1 (List.mem_map.mpr ⟨q',hq',rfl⟩) q.1 (by simp) e
   have hlen:q.1<ms.length:=by rw[hr.len];exact hkq
   refine⟨_,_,_,ee _ _ _ _ _,?_,some (.val (.int q.1)),some (.val (li q.2)),ms.set q.1 (g q.2 m),rfl,rfl,hr.set gb.1 gb.2,λq' hq'=>?_,λj hj=>?_⟩
   ·simp only[pS,jY,eU,List.set_cons_succ,List.set_cons_zero,dm,dj,R.bf,R.bw,R.toS_ok,jl,Option.bind_some,kS,ha,Option.map_some,nr,K4]
   ·rw[AO _ _ _ _ hlen]
    rw[htk] at hq'
    rcases List.mem_append.mp hq' with h|h
    ·rw[if_neg (hne q' h)];exact h5 q' h
    ·simp at h;subst h;rw[if_pos rfl]
   ·rw[AO _ _ _ _ hlen,if_neg (λe=>hj q (by rw[htk];simp) e.symm)]
    exact h6 j λq' hq'=>hj q' (by rw[htk];simp[hq'])) ⟨x6,x10,_,rfl,rfl,ox hp1 m,by simp,λj _=>by
     by_cases hj:j<m
     ·rw[vW _ _ (by simp[hj])];simp
     ·simp[g,List.getD_eq_getElem?_getD,hj]⟩
 have hil:(eR (dk ls)).length=ls.length:=by simp[eR,dk]
 rw[hil,List.take_length] at h5 h6
 exact⟨y6,y10,ms,by rw[h1,h2,h3],h4,h5,h6⟩
end
inductive Cp(p:Int)(w:Nat)(lines:List (List Int))(ws:List Int)(μ:af):RS→Prop where
 | turn (c:T) (tv:List Int) (h:Rw p w tv) (h1:∀l∈lines,p ∣ dot l tv) (h2:p ∣ dot ws tv-1):Cp p w lines ws μ (.rt (.box [.inl (.str "turn"),.inl (tu tv)]) (μ++[(true,c)]))
 | sum (c:T) (ms:List Int) (h:Rw p lines.length ms) (h1:∀j,j<w→p ∣ dot ms (col lines j)-g ws j):Cp p w lines ws μ (.rt (.box [.inl (.str "sum"),.inr (μ.length+1)]) (μ++[(true,c),(true,li ms)]))
section
variable{p:Int}{w:Nat}{lines:List (List Int)}{ws:List Int}
theorem Fe{raw:List (List Int)}(hP:ka p)(hrw:∀l∈raw,l.length=w)(Co:raw.map (mdl p)=lines)(hw:Rw p w ws)(hn:lines.length≤200)(hw2:w≤100)(x:SV)(μ:af)(hx:∀l,rd (μ++l) x=some (.lst (raw.map tu))) :
  Cp p w lines ws μ (lj (starts 11 [.val (.int p),.val (.int w),x,.val (tu ws)]) μ):=by
 have hb:=hP.pos
 have hp0:0<p:=Int.lt_of_lt_of_le (by decide) hb.1
 have hl:∀l∈lines,Rw p w l:=λl h=>by
  rw[← Co] at h
  obtain⟨r,hr,rfl⟩:=List.mem_map.mp h
  exact NC hp0 (hrw r hr)
 have hx0:rd μ x=some (.lst (raw.map tu)):=by simpa using hx []
 have hlen:=vZ hx0
 rw[List.length_map,show raw.length=lines.length by rw[← Co,List.length_map]] at hlen
 unfold lj
 simp only[uo,fU,jZ,Ak,eU,List.map_cons,List.map_nil,List.length_cons,List.length_nil,List.cons_append,List.nil_append,Nat.reduceAdd,Nat.reduceSub,List.replicate_succ,List.replicate_zero,dm,dj,R.bf,R.bw,R.toS_ok,hlen,Option.map_some,List.set_cons_succ,List.set_cons_zero,RS.ig,qK,uU,eO,qF,toCell_val,lS,qS,jl,Option.bind_some,oU,eI (show (0:Int)≤(w:Int) by lia) (show (w:Int)≤1000000 by lia),if_true,Int.toNat_natCast]
 obtain⟨y6,h1⟩:=v7 hP hrw Co hw hn hw2 x μ hx (λ_=>True) (λ_=>trivial) (some (.val (.int lines.length))) none none none none none
 rw[h1,RS.ig]
 clear h1
 have Ff:∀r∈(List.range w).map λj=>aug w lines ws j,Rw p (lines.length+1+w) r:=λr hr=>by
  obtain⟨j,_,rfl⟩:=List.mem_map.mp hr
  exact K1 (by lia) hl hw j
 obtain⟨ls,ns,h2,E,_⟩:=xD (m:=lines.length) hP (L:=lines.length+1+w) (by lia) (by lia) ((List.range w).map λj=>aug w lines ws j) Ff (by simp;lia) (.cel μ.length) (μ++[(true,.lst (((List.range w).map λj=>aug w lines ws j).map li))]) (λl=>by simp)
 generalize hc:T.lst (((List.range w).map λj=>aug w lines ws j).map li)=c at h2 ⊢
 (try simp_all! only[]);simp only[fU,jZ,eU,gZ,cg,eO,kR,List.set_cons_succ,List.set_cons_zero,dm,dj,R.bf,R.bw,R.toS_ok,h2,R.eT,RS.ig,lS,u3,jY,qH,jl,Option.bind_some,nE,Av,Option.map_some,iB]
 refine nL (P:=λr=>Cp p w lines ws μ (r.seq (az (aE 9 (dI (oM mr [dC (.int 0)] (aa 4))))
  (az (eJ (j9 (aC (aa 7) (dC (.int 0)))) (dn [6,10]) (dJ 9 (aa 6) (aC (aa 10) (aa 4)))) (aG (p6 [dC (.str "sum"),aa 9]))))))
  (λi e μ'=>∃y8,e=[some (.val (.int p)),some (.val (.int w)),some x,some (.val (tu ws)),some (.val (.int lines.length)),some (.cel μ.length),y6,some (.val (.tup [.dct (dk ls),.lst (ns.map li)])),y8,none,none]∧μ'=μ++[(true,c)]∧∀r∈ns.take i,g r lines.length=0)
  ?_ ?_ ?_ ⟨none,rfl,rfl,by simp⟩
 ·intro i e μ' _;trivial
 ·rintro i t e μ' ht ⟨y8,rfl,rfl,hz⟩
  rw[List.getElem?_map] at ht
  obtain⟨r,hr,rfl⟩:=Option.map_eq_some_iff.mp ht
  have hm:r∈ns:=List.mem_of_getElem? hr
  have hR:=E.rn r hm
  have ha:=atn (r:=r) (k:=lines.length) (by rw[hR.len];lia)
  refine⟨_,kW _ _ _,?_⟩
  by_cases e0:g r lines.length=0
  ·(try simp_all! only[]);simp[ha,e0]
   intro r' hr'
   rw[List.take_add_one,hr] at hr'
   rcases List.mem_append.mp hr' with h|h
   ·exact hz r' h
   ·simp at h;subst h;exact e0
  ·have gb:=hR.g0 (p:=p) (by lia) lines.length
   obtain⟨y,ho,y0,y1,yz⟩:=AM hP 1 (g r lines.length) (μ++[(true,c)]) (by rw[Int.emod_eq_of_lt gb.1 gb.2];exact e0)
   have hR2:Rw p w (r.drop (lines.length+1)):=by
    have:=hR.drop (k:=lines.length+1)
    rwa [show lines.length+1+w-(lines.length+1)=w by lia] at this
   have ht2:=xy (p:=p) (L:=w) (by lia) (by lia) y (r.drop (lines.length+1)) (μ++[(true,c)]) hR2 (by lia)
   have NF:=Sf r ((lines.length:Int)+1) (by lia) (by rw[hR.len];lia)
   rw[show ((lines.length:Int)+1).toNat=lines.length+1 by lia] at NF
   have e1:(g r lines.length==0)=false:=by simpa using e0
   have tl:=told (by lia) E hm hw.len λl h=>(hl l h).len
   obtain⟨t,hts⟩:∃t,g r lines.length-dot ws (r.drop (lines.length+1))=p*t:=tl.2
   obtain⟨s,hs⟩:∃s,y*g r lines.length-1=p*s:=Int.dvd_of_emod_eq_zero yz
   have NG:Cp p w lines ws μ (.rt (.box [.inl (.str "turn"),.inl (tu (tm p y (r.drop (lines.length+1))))]) (μ++[(true,c)])):=by
    refine .turn c _ (EY (by lia) y hR2.len) (λl h=>?_) ?_
    ·obtain⟨u,hu⟩:=vX p y (r.drop (lines.length+1)) l
     obtain⟨v,hv⟩:=tl.1 l h
     rw[hu,hv]
     exact⟨y*v+u,by grind⟩
    ·obtain⟨u,hu⟩:=vX p y (r.drop (lines.length+1)) ws
     rw[hu]
     exact⟨s-y*t+u,by grind⟩
   have hb2:fNe (.int (g r lines.length)) (.int 0)=some (.bl true):=by rw[uX,e1];rfl
   have goal:∀(e:Slots),slot e 0=some (.val (.int p))→slot e 4=some (.val (.int lines.length))→slot e 8=some (.val (li r)) →
     sIf (ah fNe (aC (aa 8) (aa 4)) (dC (.int 0))) (aG (p6 [(dC (.str "turn")),(dUn cL (aB (cal (fnV 3 kh)) [(aa 0),(aB (cal (fnV 5 mP)) [(aa 0),(dC (.int 1)),(aC (aa 8) (aa 4))]),(DC (aa 8) (some (ah bT (aa 4) (dC (.int 1)))) none)]))])) bB e (μ++[(true,c)]) =
     .rt (.box [.inl (.str "turn"),.inl (tu (tm p y (r.drop (lines.length+1))))]) (μ++[(true,c)]):=λe q0 q4 q8=>by
    (try simp_all! only[]);simp only[yF,nA,jY,eU,qH,q0,q4,q8,R.bf,R.bw,R.toS_ok,jl,Option.bind_some,kS,ha,Option.map_some,ny,hb2,iN,if_true,uZ,uV,cg,eO,uT,gZ,kR,ho,R.eT,An,ue,ud,wF,oU,qI,NF,ht2,qN,boxed]
   rw[goal _ rfl rfl rfl,G3]
   exact NG
 ·rintro e μ' ⟨y8,rfl,rfl,hz⟩
  rw[List.length_map,List.take_length] at hz
  rw[RS.ig,fU,Fb mr 9 4 _ _ (lines.length:Int) _ rfl (rep0 lines.length (by lia)),RS.ig]
  obtain⟨z6,z10,ms,h3,h4,h5,h6⟩:=HK (p:=p) (L:=lines.length+1+w) (m:=lines.length) (by lia) E.nd E.key E.rl (by lia) (by lia) (λ_=>True) (λ_=>trivial) μ (true,c) (some (.val (.int p))) (some (.val (.int w))) (some x) (some (.val (tu ws))) (some (.cel μ.length)) y6 (some (.val (.tup [.dct (dk ls),.lst (ns.map li)]))) y8 none
  have Iz:(μ++[(true,c)]).length=μ.length+1:=by simp
  have hap:μ++[(true,c)]++[(true,li (List.replicate lines.length 0))]=μ++[(true,c),(true,li (List.replicate lines.length 0))]:=by simp
  rw[Iz,hap]
  (try simp_all! only[]);simp only[fU,lS,o5,jY,eU,qH,List.set_cons_succ,List.set_cons_zero,dm,dj,R.bf,R.bw,R.toS_ok,jl,Option.bind_some,nE,wY,Option.map_some,u_]
  rw[h3,RS.ig]
  (try simp_all! only[]);simp only[uZ,uV,cg,eO,qH,eU,dm,dj,R.bf,R.bw,R.toS_ok,boxed,Option.map_some]
  exact .sum c ms h4 λj hj=>K2 (by lia) E hz h4.len h5 h6 j hj
theorem AS(hP:ka p)(hl:∀l∈lines,Rw p w l)(hw:Rw p w ws)(hn:lines.length≤100)(hw2:w≤100)(x:SV)(μ:af)(hx:∀l,rd (μ++l) x=some (.lst (lines.map tu))) :
  Cp p w lines ws μ (lj (starts 11 [.val (.int p),.val (.int w),x,.val (tu ws)]) μ):=Fe hP (λl h=>(hl l h).1) (E_ hl) hw (by lia) hw2 x μ hx
end
def less(n:Int)(v l:List Int):List Int:=(v.zip l).map λq=>q.1-n*q.2
theorem sO(n:Int):∀(v l t:List Int),v.length=l.length→dot (less n v l) t=dot v t-n*dot l t
 | [],l,t,h=>by cases l with
  | nil=>simp[less]
  | cons x l=>simp at h
 | a::v,[],t,h=>by simp at h
 | a::v,b::l,[],h=>by simp[less]
 | a::v,b::l,c::t,h=>by
  have e:less n (a::v) (b::l)=(a-n*b)::less n v l:=rfl
  rw[e,cu,cu,cu,sO n v l t (by simpa using h)]
  grind
theorem zI(n:Int):∀(v l:List Int) (j:Nat),v.length=l.length→g (less n v l) j=g v j-n*g l j
 | [],l,j,h=>by cases l with
  | nil=>simp[less,g]
  | cons x l=>simp at h
 | a::v,[],j,h=>by simp at h
 | a::v,b::l,0,h=>by simp[less,g]
 | a::v,b::l,j+1,h=>by
  have e:less n (a::v) (b::l)=(a-n*b)::less n v l:=rfl
  rw[e,eS,eS,eS]
  exact zI n v l j (by simpa using h)
theorem v8(p:Int):∀(v t:List Int),(∀j,j<v.length→p ∣ g v j)→p ∣ dot v t
 | [],t,_=>⟨0,by simp⟩
 | a::v,[],_=>⟨0,by simp⟩
 | a::v,b::t,h=>by
  rw[cu]
  have h0:=h 0 (by simp)
  rw[ir] at h0
  obtain⟨s,hs⟩:=h0
  obtain⟨u,hu⟩:=v8 p v t λj hj=>by have:=h (j+1) (by simp;lia);rwa [eS] at this
  exact⟨s*b+u,by rw[hs,hu];grind⟩
theorem xE(p:Int)(w:Nat)(t:List Int):∀(lines:List (List Int)) (ms v:List Int),ms.length=lines.length→(∀l∈lines,l.length=w)→v.length=w→(∀j,j<w→p ∣ dot ms (col lines j)-g v j)→(∀l∈lines,p ∣ dot l t)→p ∣ dot v t
 | [],ms,v,_,_,hv,h,_=>v8 p v t λj hj=>by
  obtain⟨s,hs⟩:=h j (by lia)
  rw[show col ([]:List (List Int)) j=[] from rfl,EW] at hs
  exact⟨-s,by rw[Int.mul_neg];lia⟩
 | l::lines,[],v,h,_,_,_,_=>by simp at h
 | l::lines,m::ms,v,hm,hl,hv,h,ht=>by
  have hl0:=hl l (by simp)
  have ih:=xE p w t lines ms (less m v l) (by simpa using hm) (λl' h'=>hl l' (by simp[h'])) (by simp[less,hv,hl0]) (λj hj=>by
   obtain⟨s,hs⟩:=h j hj
   rw[show col (l::lines) j=g l j::col lines j from rfl,cu] at hs
   rw[zI _ _ _ _ (by lia)]
   exact⟨s,by grind⟩) λl' h'=>ht l' (by simp[h'])
  rw[sO _ _ _ _ (by lia)] at ih
  obtain⟨s,hs⟩:=ih
  obtain⟨u,hu⟩:=ht l (by simp)
  exact⟨s+m*u,by grind⟩
theorem Fg{p:Int}{w:Nat}{lines:List (List Int)}{ws ms tv:List Int}(hp:1<p)(hl:∀l∈lines,l.length=w)(hw:ws.length=w)(hm:ms.length=lines.length)(h:∀j,j<w→p ∣ dot ms (col lines j)-g ws j)(h1:∀l∈lines,p ∣ dot l tv)(h2:p ∣ dot ws tv-1):False:=by
 obtain⟨a,ha⟩:=xE p w tv lines ms ws hm hl hw h h1
 obtain⟨b,hb⟩:=h2
 have:p*(a-b)=1:=by grind
 have h3:p ∣ 1:=⟨a-b,this.symm⟩
 have:=Int.le_of_dvd (by lia) h3
 lia
theorem qr:∀(xs ys:List Int) (n:Nat),xs.length=n→ys.length=n→((List.range n).map λi=>g xs i*g ys i).sum=dot xs ys
 | [],ys,n,h,_=>by simp at h;subst h;simp
 | x::xs,[],n,h,h'=>by simp at h h';lia
 | x::xs,y::ys,0,h,_=>by simp at h
 | x::xs,y::ys,n+1,h,h'=>by
  rw[List.range_succ_eq_map,List.map_cons,List.map_map,List.sum_cons,cu,ir,ir]
  have e:((λi=>g (x::xs) i*g (y::ys) i) ∘ Nat.succ)=λi=>g xs i*g ys i:=by funext i;show g (x::xs) (i+1)*g (y::ys) (i+1)=_;rw[eS,eS]
  rw[e,qr xs ys n (by simpa using h) (by simpa using h')]
theorem K5{p:Int}{w:Nat}{a b:List Int}(ha:Rw p w a)(hb:Rw p w b)(h:∀j,j<w→g a j=g b j):a=b:=by
 refine List.ext_getElem (by rw[ha.len,hb.len]) λi h1 h2=>?_
 have:=h i (by rw[← ha.len];exact h1)
 rwa [vW a i h1,vW b i h2] at this
theorem iM(n:Nat):fE 0 n=(List.range n).map λ(i:Nat)=>(i:Int):=by simp[fE]
theorem Rw.snoc{p:Int}{n:Nat}{r:List Int}{a:Int}(h:Rw p n r)(h0:0≤a)(h1:a<p):Rw p (n+1) (r++[a]) :=
 Rw.append h (k:=1) ⟨rfl,by simp;exact h0,by simp;exact h1⟩
theorem xF{p:Int}{w:Nat}{lines:List (List Int)}{ws:List Int}(hP:ka p)(hl:∀l∈lines,Rw p w l)(hw:Rw p w ws)(hn:lines.length≤100)(hw2:w≤100) :
  (∃ms,Rw p lines.length ms∧∀j,j<w→p ∣ dot ms (col lines j)-g ws j)∨∃tv,Rw p w tv∧(∀l∈lines,p ∣ dot l tv)∧p ∣ dot ws tv-1:=by
 have h:=AS hP hl hw hn hw2 (.val (.lst (lines.map tu))) [] λl=>rfl
 generalize lj (starts 11 [.val (.int p),.val (.int w),.val (.lst (lines.map tu)),.val (tu ws)]) []=r at h
 cases h with
 | turn c tv h h1 h2=>exact .inr ⟨tv,h,h1,h2⟩
 | sum c ms h h1=>exact .inl ⟨ms,h,h1⟩
def cols(w:Nat)(lines:List (List Int)):List (List Int):=(List.range w).map λj=>col lines j
end Fw.E
namespace Fw.F
open PySem Fw Fw.H Fw.E
noncomputable abbrev Rows := List (Int × List Int)
def rt(q:Int×List Int):T:=.tup [.int q.1,tu q.2]
def tb(p:Int)(w:Nat)(rows:Rows):T:=.tup [.int p,.int w,.tup (rows.map rt)]
structure Tbl(p:Int)(w:Nat)(rows:Rows):Prop where
 pr:ka p
 w0:0<w
 w1:w≤12
 n:rows.length≤24
 li:∀q∈rows,Rw p w q.2
theorem HL(xs ys:List Int):((xs.zip ys).map λq=>q.1*q.2).sum=dot xs ys:=by
 induction xs generalizing ys with
 | nil=>rfl
 | cons x xs ih =>
  cases ys with
  | nil=>rfl
  | cons y ys=>simp[dot,ih]
def b_(rows:Rows)(i:Nat):Int×List Int:=rows.getD i (0,[])
def rowsOf(rows:Rows)(bx:List Int):List Nat:=(List.range rows.length).filter λi=>decide ((b_ rows i).1∈bx)
theorem enum_rows(rows:Rows):g_ 0 (rows.map rt)=(List.range rows.length).map λ(i:Nat)=>.tup [.int (i:Int),rt (b_ rows i)]:=by
 apply List.ext_getElem?
 intro i
 rw[DV,List.getElem?_map,List.getElem?_map]
 by_cases h:i<rows.length
 ·rw[List.getElem?_range h,List.getElem?_eq_getElem h]
  simp[b_,h]
 ·rw[List.getElem?_eq_none (by lia),List.getElem?_eq_none (by simp;lia)]
  rfl
theorem Fh(μ:af)(t:T):gc μ.length (.cel μ.length) (μ++[(true,t)])=.ok (.cel μ.length) (μ++[(true,t)]):=by
 unfold gc
 simp
theorem AU(μ:af)(t:T):ice μ.length (.cel μ.length) (μ++[(true,t)])=.ok (.val t) μ:=by
 unfold ice
 rw[yN (b:=true) (t:=t) (by simp),R.bw]
 simp
def nums(is:List Nat):List Int:=is.map λ(i:Nat)=>(i:Int)
theorem zJ(is:List Nat):(is.map λ(i:Nat)=>T.int (i:Int))=(nums is).map T.int:=by simp[nums]
end Fw.F
namespace Fw
open PySem Fw Fw.H Fw.E
theorem HM:fEq (.lst []) (.lst [])=some (.bl true):=wJ [] []
theorem HN:fNe (.lst []) (.lst [])=some (.bl false):=qL [] []
theorem K6(x:SV)(μ:af):R.ok x (μ.take μ.length)=R.ok x μ:=by rw[List.take_length]
def stw:=And.intro @fU <| And.intro @jZ <| And.intro @uZ <| And.intro @yF <| And.intro @DD <| And.intro @GL <| And.intro @qR <| And.intro @G6 <| And.intro @BJ <| And.intro @pS <| And.intro @rE <| And.intro @lS <| And.intro @qK <| And.intro @uT <| And.intro @nA <| And.intro @eU <| And.intro @qH <| And.intro @gZ <| And.intro @cg <| And.intro @eO <| And.intro @Gv <| And.intro @Gu <| And.intro @J0 <| And.intro @Gw <| And.intro @Gx <| And.intro @uU <| And.intro @jY <| And.intro @Ak <| And.intro @DE <| And.intro @An <| And.intro @ud <| And.intro @ue <| And.intro @uV <| And.intro @u3 <| And.intro @qS <| And.intro @yG <| And.intro @GO <| And.intro @DW <| And.intro @o5 <| And.intro @GP <| And.intro @DF <| And.intro @DG <| And.intro @kW <| And.intro @ee <| And.intro @DZ <| And.intro @kR <| And.intro @dE <| And.intro @kX <| And.intro @j3 <| And.intro @uo <| And.intro @dm <| And.intro @dj <| And.intro @Bs <| And.intro @R.toS_ok <| And.intro @jl <| And.intro @mK <| And.intro @G5 <| And.intro @qI <| And.intro @ny <| And.intro @toCell_val <| And.intro @iN <| And.intro @oU <| And.intro @nr <| And.intro @qF <| And.intro @lR <| And.intro @RS.ig <| And.intro @RS.J8 <| And.intro @nI <| And.intro @Ao <| And.intro @u4 <| And.intro @G1 <| And.intro @Bu <| And.intro @qN <| And.intro @yB <| And.intro @iB <| And.intro @u0 <| And.intro @qM <| And.intro @nF <| And.intro @kS <| And.intro @nE <| And.intro @Dx <| And.intro @wF <| And.intro @Dt <| And.intro @d_ <| And.intro @wG <| And.intro @Dv <| And.intro @i6 <| And.intro @gR <| And.intro @Gz <| And.intro @GA <| And.intro @iA <| And.intro @GB <| And.intro @GH <| And.intro @uX <| And.intro @GI <| And.intro @GJ <| And.intro @wJ <| And.intro @qL <| And.intro @HM <| And.intro @HN <| And.intro @K6 <| And.intro @BI <| And.intro @DY <| And.intro @G4 <| And.intro @yD <| And.intro @yE <| And.intro @D0 <| And.intro @R.bf <| And.intro @R.bw <| And.intro @R.eT <| And.intro @wY <| And.intro @Av <| @G2
def stc:=And.intro @Option.bind_some.{0,0} <| And.intro @Option.map_some.{0,0} <| And.intro @List.map_cons.{0,0} <| And.intro @List.map_nil.{0,0} <| And.intro @List.length_cons.{0} <| And.intro @List.length_nil.{0} <| And.intro @List.cons_append.{0} <| And.intro @List.nil_append.{0} <| And.intro @List.replicate_succ.{0} <| And.intro @List.replicate_zero.{0} <| And.intro @List.set_cons_succ.{0} <| And.intro @List.set_cons_zero.{0} <| And.intro @List.getElem?_cons_zero.{0} <| And.intro @List.getElem?_cons_succ.{0} <| And.intro @List.take_zero.{0} <| And.intro @List.take_nil.{0} <| And.intro @beq_self_eq_true.{0} <| And.intro @if_false.{1} <| And.intro @if_true.{1} <| And.intro @Bool.false_eq_true <| And.intro @Bool.not_true <| @Bool.not_false
end Fw
local macro_rules
  | `(tactic| simp?! only [$ls,*]) => `(tactic| simp (disch := first | decide | omega | assumption) only [Fw.stw, Fw.stc, Nat.reduceAdd, Nat.reduceSub, $ls,*])
namespace Fw
open PySem Fw Fw.H Fw.E
end Fw
local macro_rules
 | `(tactic| simp! only [$ls,*]) => do
  let mut xs:Array (Lean.TSyntax `Lean.Parser.Tactic.simpLemma):=#[]
  for n in "Lu Lv Lw Nq Lx Nr Ly Lz NZ KJ HG IG LA LB LC LD Nt IH II KL Nu KN KO Nv LF KP IJ IK FJ IL IM LG Nw LH LI LJ LK KQ KR KS DD qR G6 BJ pS rE qK Gw DE An ud ue uV qS yG GO DW o5 ee DZ dE kX j3 uo Bs mK G5 toCell_val oU RS.J8 nI Ao u4 G1 Bu qN yB iB u0 qM nF kS nE Dx wF Dt d_ wG Dv i6 gR Gz GA iA GB GH uX GI GJ wJ qL HM HN K6 BI DY G4 yD yE D0 wY Av G2".splitOn " " do xs := xs.push (← `(Lean.Parser.Tactic.simpLemma| $(Lean.mkIdent (`Fw ++ n.toName)):term))
  `(tactic| simp (disch := first | decide | omega | assumption) only [$(xs),*, Fw.stc, Nat.reduceAdd, Nat.reduceSub, $ls,*])
local macro_rules
 | `(tactic| dsimp! only [$ls,*]) => do
  let mut xs:Array (Lean.TSyntax `Lean.Parser.Tactic.simpLemma):=#[]
  for n in "IH II Lz NZ Nu LF Nv fU jZ uZ yF DD GL qR G6 BJ pS rE lS qK uT nA gZ cg eO Gv Gu J0 Gw Gx uU jY Ak DE An ud ue uV u3 qS yG GO DW o5 GP DF DG kW ee DZ kR dE kX j3 uo Bs R.toS_ok mK G5 qI ny toCell_val oU qF lR RS.ig RS.J8 nI Ao u4 G1 Bu qN yB iB u0 qM nF kS nE Dx wF Dt d_ wG Dv i6 gR Gz GA iA GB GH uX GI GJ wJ qL HM HN K6 BI DY G4 yD yE D0 R.bf R.bw R.eT wY Av G2".splitOn " " do xs := xs.push (← `(Lean.Parser.Tactic.simpLemma| $(Lean.mkIdent (`Fw ++ n.toName)):term))
  `(tactic| simp (disch := first | decide | omega | assumption) only [$(xs),*, Fw.stc, Nat.reduceAdd, Nat.reduceSub, $ls,*])
namespace Fw.F
open PySem Fw Fw.H Fw.E
def kl:FN:=fnK 11 E.lj
def sP:DS :=
 (aG (bo (uv (aC (aa 0) (dC (.int 2)))) [none,none,some 1] (dn [0,1]) (ah fIn (aC (aa 1) (dC (.int 0))) (aa 2)) (aa 0)))
def gh:FN:=fnV 2 sP
def km:DS :=
 (aG (bo (eW (aa 1)) [none,some 0] (aL 0) (dC (.bl true)) (aC (aC (aC (aa 1) (dC (.int 2))) (aa 0)) (dC (.int 1)))))
def b9:FN:=fnV 2 km
def gW:DS :=
 (aG (dUn cL (bo (bp (aa 0)) [none] (aL 0) (dC (.bl true)) (Gs (ah fEq (aa 0) (dC (.int 0))) (dC (.int 1)) (dC (.int 0))))))
def cG:FN:=fnV 1 gW
def eZ:DS :=
 (az (aE 2 (aB (cal kl) [(aC (aa 0) (dC (.int 0))),(aC (aa 0) (dC (.int 1))),(aB (cal b9) [(aa 0),(aa 1)]),(aB (cal cG) [(aC (aa 0) (dC (.int 1)))])]))
 (az (sIf (ah fEq (aC (aa 2) (dC (.int 0))) (dC (.str "sum"))) (aG (p6 [(dC (.str "open")),(aC (aa 2) (dC (.int 1)))])) bB)
 (aG (p6 [(dC (.str "shut")),(aC (aa 2) (dC (.int 1)))]))))
def dM:FN:=fnK 3 eZ
def ko:DS :=
 (aG (aB (cal dM) [(aa 0),(aB (cal gh) [(aa 0),(aa 1)])]))
theorem Cq{p:Int}{w:Nat}{rows:Rows}(hn:rows.length≤24)(bx:List Int)(y:SV)(μ:af)(h2:rd μ y=some (.lst (bx.map T.int))) :
  gh [.val (tb p w rows),y] μ=.ok (.val (li (nums (rowsOf rows bx)))) μ:=by
 unfold gh sP tb
 simp! only[h2]
 rw[enum_rows,nM (λ(i:Nat)=>.tup [.int (i:Int),rt (b_ rows i)]) (λi=>decide ((b_ rows i).1∈bx)) (λ(i:Nat)=>.int (i:Int)) (by simp)]
 ·rw[R.eT,R.bw,if_pos (by simp[szL];lia)]
  simp! only[]
  rw[zJ]
  rfl
 ·intro i hi
  refine⟨_,ee 0 1 _ _ _,?_,λ_=>?_⟩
  ·simp! only[rt,h2,w5]
  ·simp! only[]
def linesAt(rows:Rows)(is:List Nat):List (List Int):=is.map λi=>(b_ rows i).2
theorem xG{p:Int}{w:Nat}{rows:Rows}(is:List Nat)(hi:∀i∈is,i<rows.length)(hl:is.length≤1000)(y:SV)(μ:af)(h2:rd μ y=some (li (nums is))) :
  b9 [.val (tb p w rows),y] μ=.ok (.val (.lst ((linesAt rows is).map tu))) μ:=by
 unfold b9 km
 simp! only[h2]
 rw[← zJ,dq (λ(i:Nat)=>.int (i:Int)) (λ(i:Nat)=>tu (b_ rows i).2) (by simp[h2])]
 ·rw[R.eT,R.bw,if_pos (by simp[szL];lia)]
  simp! only[]
  simp[linesAt,Function.comp_def]
 ·intro i hm
  have hlt:=hi i hm
  have a1:atI (rows.map rt) (i:Int)=some (rt (b_ rows i)):=by
   rw[j7 (by lia) (by lia)]
   simp[b_,hlt]
  refine⟨_,rfl,?_⟩
  unfold tb
  simp! only[a1,rt]
theorem qt(w:Nat)(h:0<w):eu w 0=1::List.replicate (w-1) 0:=by
 obtain⟨n,rfl⟩:∃n,w=n+1:=⟨w-1,by lia⟩
 simp[eu,List.replicate_succ]
theorem Cr(w:Nat)(h:0<w)(h2:w≤1000)(μ:af):cG [.val (.int w)] μ=.ok (.val (tu (eu w 0))) μ:=by
 unfold cG gW
 have hr:eG (w:Int)=true:=eI (by lia) (by lia)
 dsimp! only[hr]
 rw[fH,lX (λk=>.int (if k=0 then 1 else 0)) trivial]
 ·rw[R.eT,R.bw,if_pos (by simp[szL];lia)]
  dsimp! only[]
  have e:((fE 0 (w:Int).toNat).map λk=>T.int (if k=0 then 1 else 0))=(eu w 0).map T.int:=by
   rw[iM,Int.toNat_natCast,qt w h]
   obtain⟨n,rfl⟩:∃n,w=n+1:=⟨w-1,by lia⟩
   rw[List.range_succ_eq_map]
   simp only[List.map_cons,List.map_map,Nat.add_sub_cancel,List.map_replicate]
   refine congr (congrArg _ rfl) ?_
   refine List.eq_replicate_iff.mpr ⟨by simp,λb hb=>?_⟩
   obtain⟨k,_,rfl⟩:=List.mem_map.mp hb
   show T.int (if ((Nat.succ k:Nat):Int)=0 then 1 else 0)=_
   rw[if_neg (by lia)]
  rw[e]
 ·intro k hk
  refine⟨_,rfl,?_⟩
  dsimp! only[]
  by_cases hk0:k=0
  ·subst hk0;rfl
  ·rw[if_neg (by simpa using hk0),if_neg hk0]
inductive Opened(p:Int)(w:Nat)(lines:List (List Int))(μ:af):R SV→Prop where
 | xH (c:T) (tv:List Int) (h:Rw p w tv) (h1:∀l∈lines,p ∣ dot l tv) (h2:g tv 0=1):Opened p w lines μ (.ok (.box [.inl (.str "shut"),.inl (tu tv)]) (μ++[(true,c)]))
 | opn (c:T) (ms:List Int) (h:Rw p lines.length ms) (h1:∀j,j<w→p ∣ dot ms (col lines j)-g (eu w 0) j):Opened p w lines μ (.ok (.box [.inl (.str "open"),.inr (μ.length+1)]) (μ++[(true,c),(true,li ms)]))
theorem v9{p:Int}{w:Nat}{rows:Rows}(H:Tbl p w rows){i:Nat}(h:i<rows.length):Rw p w (b_ rows i).2:=by
 have:b_ rows i=rows[i]:=by simp[b_,h]
 rw[this];exact H.li _ (List.getElem_mem h)
theorem mX{p:Int}{w:Nat}{rows:Rows}(H:Tbl p w rows){is:List Nat}(hi:∀i∈is,i<rows.length):∀l∈linesAt rows is,Rw p w l:=λl hl=>by
 obtain⟨i,hm,rfl⟩:=List.mem_map.mp hl
 exact v9 H (hi i hm)
theorem AV{p:Int}(hp:1<p)(w k:Nat):Rw p w (eu w k):=Rw.set (ox hp w) (by lia) (by lia)
theorem Fi{p x:Int}(hp:1<p)(h0:0≤x)(h1:x<p)(h:p ∣ x-1):x=1:=by
 obtain⟨k,hk⟩:=h
 rcases Int.lt_trichotomy k 0 with z|z|z
 ·have:p*k≤p*(-1):=Int.mul_le_mul_of_nonneg_left (by lia) (by lia)
  lia
 ·subst z;lia
 ·have:p*1≤p*k:=Int.mul_le_mul_of_nonneg_left (by lia) (by lia)
  lia
theorem AW{p:Int}{w:Nat}{rows:Rows}(H:Tbl p w rows)(is:List Nat)(hi:∀i∈is,i<rows.length)(hl:is.length≤100)(y:SV)(μ:af)(h2:rd μ y=some (li (nums is))) :
  Opened p w (linesAt rows is) μ (dM [.val (tb p w rows),y] μ):=by
 have hb:=H.pr.pos
 have hp0:0<p:=Int.lt_of_lt_of_le (by decide) hb.1
 have hw:=H.w1
 have e1:=xG (p:=p) (w:=w) is hi (by lia) y μ h2
 have e2:=Cr w H.w0 (by lia) μ
 have hL:=mX H hi
 have hh:=AS H.pr hL (AV (by lia) w 0) (by simp[linesAt];lia) (by lia) (.val (.lst ((linesAt rows is).map tu))) μ (λ_=>rfl)
 unfold dM eZ tb
 unfold tb at e1
 dsimp! only[e1,e2]
 generalize hr:E.lj (starts 11 [.val (.int p),.val (.int w),.val (.lst ((linesAt rows is).map tu)),.val (tu (eu w 0))]) μ=r at hh
 have hf:∀r',r.nH=r'→kl [.val (.int p),.val (.int w),.val (.lst ((linesAt rows is).map tu)),.val (tu (eu w 0))] μ=r':=λr' h=>by
  rw[← h,← hr];rfl
 cases hh with
 | turn c tv h h1 h3 =>
  rw[hf _ rfl]
  have hp0:tv.length=w:=h.1
  have h4:g tv 0=1:=by
   rw[mW w 0 tv H.w0] at h3
   have:=h.g0 (p:=p) (by lia) 0
   exact Fi (by lia) this.1 this.2 h3
  have s1:((Str.ofString "turn")==(Str.ofString "sum"))=false:=by decide
  dsimp! only[pick,s1]
  exact .xH c tv h h1 h4
 | sum c ms h h1 =>
  rw[hf _ rfl]
  dsimp! only[pick]
  exact .opn c ms h h1
structure Sq(μ:af)(x:SV)(xs:List Int):Prop where
 len:jn μ x=some (.int xs.length)
 at_:∀k:Int,0≤k→k<xs.length→fA μ x (.int k)=some (.val (.int (g xs k.toNat)))
 it:(rd μ x).bind cP=some (xs.map T.int)
theorem NH(μ:af)(xs:List Int):Sq μ (.val (li xs)) xs:=⟨by simp,λk h0 h1=>by rw[kS,atg h0 h1];rfl,rfl⟩
theorem K7{μ:af}{k:Nat}{xs:List Int}(h:rd μ (.cel k)=some (li xs)):Sq μ (.cel k) xs :=
 ⟨by rw[vZ h];simp,λk h0 h1=>by rw[AQ h,atg h0 h1];rfl,by rw[h];rfl⟩
theorem xI(p:Int)(w:Nat)(fs:List Int):∀(lines:List (List Int)) (ms v:List Int),ms.length=lines.length→(∀l∈lines,l.length=w)→v.length=w→(∀j,j<w→p ∣ dot ms (col lines j)-g v j)→p ∣ dot ms (lines.map λl=>dot l fs)-dot v fs
 | [],ms,v,hm,_,hv,h=>by
  have e:ms=[]:=List.length_eq_zero_iff.mp (by simpa using hm)
  subst e
  have:=v8 p v fs λj hj=>by
   obtain⟨k,hk⟩:=h j (by lia)
   exact⟨-k,by simp[col,dot] at hk;grind⟩
  obtain⟨k,hk⟩:=this
  exact⟨-k,by simp[dot];grind⟩
 | l::lines,[],v,hm,_,_,_=>by simp at hm
 | l::lines,m::ms,v,hm,hl,hv,h=>by
  have hll:=hl l (by simp)
  have ih:=xI p w fs lines ms (less m v l) (by simpa using hm) (λl' h'=>hl l' (by simp[h'])) (by simp[less,hv,hll]) λj hj=>by
   obtain⟨k,hk⟩:=h j hj
   rw[zI m v l j (by rw[hv,hll])]
   simp only[col,List.map_cons,dot] at hk
   exact⟨k,by simp only[col];grind⟩
  obtain⟨k,hk⟩:=ih
  rw[sO m v l fs (by rw[hv,hll])] at hk
  exact⟨k,by rw[List.map_cons,dot];grind⟩
theorem sQ(p:Int):∀(ms xs:List Int),p ∣ dot ms (xs.map λx=>x%p)-dot ms xs
 | [],xs=>⟨0,by simp[dot]⟩
 | m::ms,[]=>⟨0,by simp[dot]⟩
 | m::ms,x::xs=>by
  obtain⟨k,hk⟩:=sQ p ms xs
  obtain⟨t,ht⟩:=md x p
  exact⟨k-m*t,by rw[List.map_cons,dot,dot,ht];grind⟩
theorem gK(rows:Rows)(bx:List Int):linesAt rows (rowsOf rows bx)=(rows.filter λq=>decide (q.1∈bx)).map (·.2):=by
 have key:∀(l:List Nat),(l.filter λi=>decide ((b_ rows i).1∈bx)).map (λi=>(b_ rows i).2)=((l.map (b_ rows)).filter λq=>decide (q.1∈bx)).map (·.2):=by
  intro l
  induction l with
  | nil=>rfl
  | cons i l ih =>
   rw[List.filter_cons,List.map_cons,List.filter_cons]
   by_cases h:decide ((b_ rows i).1∈bx)=true
   ·rw[if_pos h,if_pos h,List.map_cons,List.map_cons,ih]
   ·rw[if_neg h,if_neg h,ih]
 have e:(List.range rows.length).map (b_ rows)=rows:=by
  apply List.ext_getElem?
  intro i
  rw[List.getElem?_map]
  by_cases h:i<rows.length
  ·rw[List.getElem?_range h,List.getElem?_eq_getElem h]
   simp[b_,h]
  ·rw[List.getElem?_eq_none (by simp;lia),List.getElem?_eq_none (by lia)];rfl
 unfold linesAt rowsOf
 rw[key,e]
theorem toNat_mod(a b:Int)(h:0<b):∃n:Nat,a%b=(n:Int)∧(n:Int)<b:=⟨(a%b).toNat,by have:=Int.emod_nonneg a (show b≠0 by lia);lia,by have:=Int.emod_nonneg a (show b≠0 by lia);have:=Int.emod_lt_of_pos a h;lia⟩
theorem jV{rows:Rows}{bx:List Int}:∀i∈rowsOf rows bx,i<rows.length:=λi hi=>List.mem_range.mp (List.mem_filter.mp hi).1
theorem mY(rows:Rows)(bx:List Int):(rowsOf rows bx).length≤rows.length:=Nat.le_trans (List.length_filter_le _ _) (by simp)
theorem K8{p:Int}{w:Nat}{rows:Rows}(H:Tbl p w rows)(bx:List Int)(y:SV)(μ:af)(h2:rd μ y=some (li bx)) :
  Opened p w (linesAt rows (rowsOf rows bx)) μ (fnK 2 ko [.val (tb p w rows),y] μ):=by
 have hn:=H.n
 have e1:=Cq (p:=p) (w:=w) H.n bx y μ h2
 have ho:=AW H (rowsOf rows bx) jV (by have:=mY rows bx;lia) (.val (li (nums (rowsOf rows bx)))) μ rfl
 unfold ko
 simp! only[e1]
 generalize dM [.val (tb p w rows),.val (li (nums (rowsOf rows bx)))] μ=r at ho
 cases ho with
 | xH c tv h h1 h2=>exact .xH c tv h h1 h2
 | opn c ms h h1=>exact .opn c ms h h1
theorem K9{p:Int}{w:Nat}{rows:Rows}(H:Tbl p w rows)(bx:List Int)(y:SV)(μ:af)(h2:rd μ y=some (li bx)) :
  (∃tv,fnV 2 ko [.val (tb p w rows),y] μ=.ok (.val (.tup [.str "shut",tu tv])) μ∧Rw p w tv∧(∀l∈linesAt rows (rowsOf rows bx),p ∣ dot l tv)∧g tv 0=1) ∨
  ∃ms,fnV 2 ko [.val (tb p w rows),y] μ=.ok (.val (.tup [.str "open",li ms])) μ∧Rw p (linesAt rows (rowsOf rows bx)).length ms∧∀j,j<w→p ∣ dot ms (col (linesAt rows (rowsOf rows bx)) j)-g (eu w 0) j:=by
 have h:=K8 H bx y μ h2
 rw[j3] at h
 rw[dE]
 generalize ko (starts 2 [.val (tb p w rows),y]) μ=r at h ⊢
 cases r with
 | rt x μ' =>
  rw[u4] at h
  rw[nI]
  generalize hq:R.ok x μ'=q at h
  cases h with
  | xH c tv h h1 h2 =>
   cases hq
   exact .inl ⟨tv,by simp[ice,frz,jI,sZ],h,h1,h2⟩
  | opn c ms h h1 =>
   cases hq
   exact .inr ⟨ms,by simp[ice,frz,jI,sZ],h,h1⟩
 | nx e μ'=>generalize hq:(RS.nx e μ').nH=q at h;cases h<;>cases hq
 | bk e μ'=>generalize hq:(RS.bk e μ').nH=q at h;cases h<;>cases hq
 | ct e μ'=>generalize hq:(RS.ct e μ').nH=q at h;cases h<;>cases hq
 | err c e μ'=>generalize hq:(RS.err c e μ').nH=q at h;cases h<;>cases hq
 | bad=>generalize hq:RS.bad.nH=q at h;cases h<;>cases hq
end Fw.F
namespace Fw.Sets
open PySem Fw Fw.H Fw.E Fw.F
def Mul(p:Int)(w:Nat)(lines:List (List Int))(ms:List Int):Prop:=ms.length=lines.length∧∀j,j<w→p ∣ dot ms (col lines j)-g (eu w 0) j
def Op(p:Int)(w:Nat)(rows:Rows)(s:List Int):Prop:=∃ms,Mul p w (linesAt rows (rowsOf rows s)) ms
section
variable{p:Int}{w n:Nat}{rows:Rows}
end
section
variable{p:Int}{w n:Nat}{rows:Rows}{O:List Int→Bool}
end
theorem v_{p:Int}{w:Nat}{rows:Rows}(H:Tbl p w rows){s tv:List Int}(h1:∀l∈linesAt rows (rowsOf rows s),p ∣ dot l tv)(h2:g tv 0=1):¬ Op p w rows s:=λav=>by
 obtain⟨ms,hl,h⟩:=av
 have hb:=H.pr.pos
 have hL:=mX H (is:=rowsOf rows s) jV
 refine Fg (p:=p) (w:=w) (ws:=eu w 0) (by omega) (λl hl=>(hL l hl).1) (E8 _ _) hl h h1 ?_
 rw[mW w 0 tv H.w0,h2]
 exact⟨0,by omega⟩
end Fw.Sets
namespace Fw.E
open PySem Fw Fw.H
theorem HP(f:T→T→Option T)(x y:Int)(z z2:T)(μ:af)(hr:f (.lst [.int 0]) (.int x)=some z)(hs:setAt (.cel μ.length) (.int y) (.int 1) (μ++[(true,z)])=some (μ++[(true,z2)])):fnD 3 (az (aE 2 (dI (oM f [(dC (.int 0))] (aa 0))))
 (az (dJ 2 (aa 1) (dC (.int 1)))
 (aG (aa 2)))) [.val (.int x),.val (.int y)] μ=.ok (.cel μ.length) (μ++[(true,z2)]):=by
 simp[hr,hs,F.Fh]
theorem Fj{w:Nat}(j:Nat)(hj:j<w)(hw:w≤1000)(μ:af):fnD 3 kj [.val (.int w),.val (.int j)] μ=.ok (.cel μ.length) (μ++[(true,li (eu w j))]) :=
 HP mr w j _ _ μ (rep0 w hw) (hs_ w j hj μ)
def ma:FN:=fnD 3 kj
def hV:FN:=fnV 11 l_
def aY:FN:=fnV 3 cz
def iF:DS :=
 (az (aE 4 (aB (cal ma) [(aa 2),(aa 3)]))
 (az (eJ (j9 (aa 1)) (dn [5,6]) (dJ 4 (aa 5) (ah aP (dUn p7 (aC (aa 6) (aa 3))) (aa 0))))
 (aG (aa 4))))
def cW:FN:=fnV 7 iF
def nv(p:Int)(m:Nat)(ls:List Ld)(f:Nat):List Int:=(List.range m).map λj=>match ls.find? (λq=>q.1==j) with
 | some q=>(-g q.2 f)%p
 | none=>if j=f then 1 else 0
theorem xJ{p:Int}(hp:1<p)(m:Nat)(ls:List Ld)(f:Nat):Rw p m (nv p m ls f):=by
 have b:∀x∈nv p m ls f,0≤x∧x<p:=λx hx=>by
  obtain⟨j,_,rfl⟩:=List.mem_map.mp hx
  cases ls.find? (λq=>q.1==j) with
  | some q=>exact⟨Int.emod_nonneg _ (by omega),Int.emod_lt_of_pos _ (by omega)⟩
  | none=>simp only;split<;>omega
 exact⟨by simp[nv],λx hx=>(b x hx).1,λx hx=>(b x hx).2⟩
theorem K_(p:Int)(m:Nat)(ls:List Ld)(f j:Nat)(hj:j<m):g (nv p m ls f) j=match ls.find? (λq=>q.1==j) with
  | some q=>(-g q.2 f)%p
  | none=>if j=f then 1 else 0:=by
 unfold g nv
 rw[List.getD_eq_getElem?_getD,List.getElem?_map,List.getElem?_range hj]
 rfl
theorem mf{ls:List Ld}{q:Ld}(hn:(ls.map (·.1)).Nodup)(h:q∈ls):ls.find? (λa=>a.1==q.1)=some q:=by
 induction ls with
 | nil=>simp at h
 | cons a ls ih =>
  have hn':=List.nodup_cons.mp (by simpa using hn:(a.1::ls.map (·.1)).Nodup)
  rw[List.find?_cons]
  rcases List.mem_cons.mp h with rfl|h
  ·simp
  ·have:a.1≠q.1:=λe=>hn'.1 (e ▸ List.mem_map.mpr ⟨q,h,rfl⟩)
   rw[show (a.1==q.1)=false by simpa using this]
   exact ih hn'.2 h
theorem find_none{ls:List Ld}{j:Nat}(h:∀q∈ls,q.1≠j):ls.find? (λa=>a.1==j)=none:=by
 rw[List.find?_eq_none]
 intro q hq
 simpa using h q hq
theorem tX{p:Int}{m:Nat}(hP:ka p){ls:List Ld}(hn:(ls.map (·.1)).Nodup)(hk:∀q∈ls,q.1<m)(rl:∀q∈ls,Rw p m q.2)(hm:m≤1000)(f:Nat)(hf:f<m)(hfl:∀q∈ls,q.1≠f)(μ:af) :
  cW [.val (.int p),.val (.dct (dk ls)),.val (.int m),.val (.int f)] μ=.ok (.val (li (nv p m ls f))) μ:=by
 have hb:=hP.pos
 have hu:ma [.val (.int m),.val (.int f)] μ=.ok (.cel μ.length) (μ++[(true,li (eu m f))]):=Fj f hf hm μ
 obtain⟨e',μ',h1,y5,y6,ms,h2,h3,h4,h5,h6⟩:=gv (same:=λ_=>True) (b:=dn [5,6]) (body:=dJ 4 (aa 5) (ah aP (dUn p7 (aC (aa 6) (aa 3))) (aa 0))) (ts:=eR (dk ls))
  (e:=[some (.val (.int p)),some (.val (.dct (dk ls))),some (.val (.int m)),some (.val (.int f)),some (.cel μ.length),none,none]) (μ:=μ++[(true,li (eu m f))])
  (λi e μ'=>∃y5 y6 ms,e=[some (.val (.int p)),some (.val (.dct (dk ls))),some (.val (.int m)),some (.val (.int f)),some (.cel μ.length),y5,y6]∧μ'=μ++[(true,li ms)]∧Rw p m ms∧(∀q∈ls.take i,g ms q.1=(-g q.2 f)%p)∧∀j,(∀q∈ls.take i,q.1≠j)→g ms j=g (eu m f) j)
  (λi e μ' _=>trivial) (λi t e μ' ht av=>by
   obtain⟨y5,y6,ms,he,hμ,hr,h5,h6⟩:=av
   subst he hμ
   obtain⟨q,hq,hi,rfl⟩:=pG ht
   have hmm:q∈ls:=List.mem_of_getElem? hq
   have hkq:=hk q hmm
   have ha:=atn (r:=q.2) (k:=f) (by rw[(rl q hmm).len];exact hf)
   have v0:=Int.emod_nonneg (-g q.2 f) (show p≠0 by omega)
   have v1:=Int.emod_lt_of_pos (-g q.2 f) (show 0<p by omega)
   have K4:∀v,setAt (.cel μ.length) (.int (q.1:Int)) (.int v) (μ++[(true,li ms)])=some (μ++[(true,li (ms.set q.1 v))]):=λv=>by
    rw[rk (ts:=ms.map T.int) iD (by omega) (by rw[List.length_map,hr.len];omega),qm]
    have:(q.1:Int).toNat=q.1:=by omega
    rw[this,← List.map_set]
   have htk:ls.take (i+1)=ls.take i++[q]:=by rw[List.take_add_one,hq];rfl
   have gs:∀j,g (ms.set q.1 ((-g q.2 f)%p)) j=if j=q.1 then (-g q.2 f)%p else g ms j:=λj=>AO ms q.1 j _ (by rw[hr.len];omega)
   refine⟨_,_,_,ee 5 6 (.int (q.1:Int)) (li q.2) _,?_,some (.val (.int (q.1:Int))),some (.val (li q.2)),ms.set q.1 ((-g q.2 f)%p),rfl,rfl,Rw.set hr v0 v1,?_,?_⟩
   ·simp?! only[ha,K4]
   ·intro q' hq'
    rw[htk] at hq'
    rw[gs]
    rcases List.mem_append.mp hq' with h|h
    ·by_cases e:q'.1=q.1
     ·have eq':q'=q:=by
       have a1:=mf hn (List.mem_of_mem_take h)
       have a2:=mf hn hmm
       rw[e,a2] at a1
       exact (Option.some.inj a1).symm
      subst eq';rw[if_pos rfl]
     ·rw[if_neg e];exact h5 q' h
    ·simp at h;subst h;rw[if_pos rfl]
   ·intro j hj
    rw[htk] at hj
    rw[gs,if_neg λe=>hj q (by simp) e.symm]
    exact h6 j λq' hq'=>hj q' (by simp[hq']))
  ⟨none,none,eu m f,rfl,rfl,Rw.set (ox (by omega) m) (by omega) (by omega),by simp,λj _=>rfl⟩
 subst h2 h3
 have hlen:(eR (dk ls)).length=ls.length:=by simp[eR,dk]
 rw[hlen,List.take_length] at h5 h6
 have hms:ms=nv p m ls f:=K5 h4 (xJ (by omega) m ls f) λj hj=>by
  rw[K_ p m ls f j hj]
  by_cases h:∃q∈ls,q.1=j
  ·obtain⟨q,hq,rfl⟩:=h
   rw[mf hn hq,h5 q hq]
  ·have h':∀q∈ls,q.1≠j:=λq hq e=>h ⟨q,hq,e⟩
   rw[find_none h',h6 j h']
   unfold eu
   rw[AO _ _ _ _ (by simp;exact hf)]
   by_cases e:j=f
   ·simp[e]
   ·simp[e,g,List.getElem?_replicate,hj]
 subst hms
 unfold cW iF
 simp?! only[hu,u_,h1,F.AU]
theorem Cs(ls:List Ld)(j:Nat):(j8 (dk ls) (.inl (j:Int))).isSome=ls.any λq=>decide (q.1=j):=by
 rw[← zF]
 unfold j8
 rw[Option.isSome_map]
 induction dk ls with
 | nil=>rfl
 | cons a l ih =>
  rw[List.find?_cons,List.any_cons]
  cases decide (a.1=(.inl (j:Int):Key)) with
  | true=>rfl
  | false=>simpa using ih
def freeOf(m:Nat)(ls:List Ld):List Nat:=(List.range m).filter λj=>!(ls.any λq=>decide (q.1=j))
theorem Fl{m:Nat}{ls:List Ld}(hn:(ls.map (·.1)).Nodup)(hk:∀q∈ls,q.1<m):(freeOf m ls).length+ls.length=m:=by
 have h1:((List.range m).filter λj=>ls.any λq=>decide (q.1=j)).Perm (ls.map (·.1)):=by
  refine (List.perm_ext_iff_of_nodup (List.nodup_range.sublist List.filter_sublist) hn).mpr λj=>?_
  rw[List.mem_filter,List.mem_map,List.mem_range,List.any_eq_true]
  constructor
  ·rintro⟨_,q,hq,e⟩;exact⟨q,hq,by simpa using e⟩
  ·rintro⟨q,hq,rfl⟩;exact⟨hk q hq,q,hq,by simp⟩
 have h2:=h1.length_eq
 rw[List.length_map] at h2
 have h3:=List.length_eq_countP_add_countP (λj=>ls.any λq=>decide (q.1=j)) (l:=List.range m)
 rw[List.length_range,List.countP_eq_length_filter,List.countP_eq_length_filter,h2] at h3
 unfold freeOf
 have e:(List.range m).filter (λj=>!(ls.any λq=>decide (q.1=j)))=(List.range m).filter (λa=>decide ¬ (ls.any λq=>decide (q.1=a))=true):=by
  congr 1;funext j;cases (ls.any λq=>decide (q.1=j))<;>rfl
 rw[e]
 omega
theorem pH{m:Nat}{ls:List Ld}{j:Nat}(h:j∈freeOf m ls):j<m∧∀q∈ls,q.1≠j:=by
 unfold freeOf at h
 rw[List.mem_filter,List.mem_range] at h
 refine⟨h.1,λq hq e=>?_⟩
 have:=h.2
 rw[Bool.not_eq_true',List.any_eq_false] at this
 exact this q hq (by simp[e])
def fJ:DS :=
 (az (aE 3 (cQ (aa 2)))
 (az (aE 4 (aC (aB (cal hV) [(aa 0),(bo (bp (aa 1)) [none,some 0,some 2] (aL 0) (dC (.bl true)) (aB (cal aY) [(aa 1),(aa 2),(aa 0)])),(aa 3)]) (dC (.int 0))))
 (aG (bo (bp (aa 3)) [none,some 0,some 4,some 3] (aL 0) (ah uq (aa 0) (aa 2)) (aB (cal cW) [(aa 1),(aa 2),(aa 3),(aa 0)])))))
theorem sR{p:Int}{w:Nat}{lines:List (List Int)}(hP:ka p)(hl:∀l∈lines,Rw p w l)(hn:lines.length≤100)(hw2:w≤100)(x:SV)(μ:af)(hx:rd μ x=some (.lst (lines.map tu))) :
  ∃ls ns,fJ (starts 5 [.val (.int p),.val (.int w),x]) μ=.rt (.val (.lst ((freeOf lines.length ls).map λf=>li (nv p lines.length ls f)))) μ∧gM p lines.length lines.length ls ns (cols w lines):=by
 have hb:=hP.pos
 have hlen:=vZ hx
 rw[List.length_map] at hlen
 have rw_:eG (w:Int)=true:=eI (by omega) (by omega)
 have lw:(b7 0 (w:Int).toNat).length≤szL:=by rw[eP];unfold szL;omega
 have rm:eG (lines.length:Int)=true:=eI (by omega) (by omega)
 have lm:(b7 0 (lines.length:Int).toNat).length≤szL:=by rw[eP];unfold szL;omega
 have Ff:∀r∈cols w lines,Rw p lines.length r:=λr hr=>by
  obtain⟨j,_,rfl⟩:=List.mem_map.mp hr
  exact E9 (by omega) hl j
 obtain⟨ls,ns,h2,E,_⟩:=xD (m:=lines.length) hP (L:=lines.length) (by omega) (Nat.le_refl _) (cols w lines) Ff (by simp[cols];omega) (.val (.lst ((cols w lines).map li))) μ (λl=>rfl)
 have h2:hV [.val (.int p),.val (.lst ((cols w lines).map li)),.val (.int lines.length)] μ=_:=h2
 refine⟨ls,ns,?_,E⟩
 have e1:cV (λ_=>True) (aL 0) (dC (.bl true)) (aB (cal aY) [(aa 1),(aa 2),(aa 0)]) [none,some (.val (.int p)),some x] (b7 0 (w:Int).toNat) μ=.ok ((cols w lines).map li) μ:=by
  rw[fH,Int.toNat_natCast,iM,List.map_map]
  rw[show (List.map (T.int ∘ λ(i:Nat)=>(i:Int)) (List.range w))=(List.range w).map λ(i:Nat)=>T.int (i:Int) from rfl]
  rw[dq (λ(i:Nat)=>T.int (i:Int)) (λj=>li (col lines j)) trivial]
  ·rw[cols,List.map_map];rfl
  ·intro j hj
   have hj:=List.mem_range.mp hj
   have HJ:aY [.val (.int p),x,.val (.int j)] μ=.ok (.val (li (col lines j))) μ:=zH (by omega) hl (by omega) j hj x μ hx
   refine⟨_,rfl,?_⟩
   simp?! only[HJ]
 have e2:cV (λ_=>True) (aL 0) (ah uq (aa 0) (aa 2)) (aB (cal cW) [(aa 1),(aa 2),(aa 3),(aa 0)]) [none,some (.val (.int p)),some (.val (.dct (dk ls))),some (.val (.int lines.length))] (b7 0 (lines.length:Int).toNat) μ=.ok ((freeOf lines.length ls).map λf=>li (nv p lines.length ls f)) μ:=by
  rw[fH,Int.toNat_natCast,iM,List.map_map]
  rw[show (List.map (T.int ∘ λ(i:Nat)=>(i:Int)) (List.range lines.length))=(List.range lines.length).map λ(i:Nat)=>T.int (i:Int) from rfl]
  rw[nM (λ(i:Nat)=>T.int (i:Int)) (λj=>!(ls.any λq=>decide (q.1=j))) (λf=>li (nv p lines.length ls f)) trivial]
  ·rfl
  ·intro j hj
   have hj:=List.mem_range.mp hj
   refine⟨_,rfl,?_,λh=>?_⟩
   ·simp?! only[BH,Cs]
   ·have hfl:∀q∈ls,q.1≠j:=λq hq e=>by
     rw[Bool.not_eq_true',List.any_eq_false] at h
     exact h q hq (by simp[e])
    have hs:=tX hP E.nd E.key E.rl (by omega) j hj hfl μ
    simp?! only[hs]
 unfold fJ
 simp?! only[hlen,rw_,lw,e1,h2,rm,lm,e2]
end Fw.E
namespace Fw.La
open PySem Fw Fw.H Fw.E Fw.F Fw.Sets
theorem oy(F:Nat→Int):∀l:List Nat,(∀j∈l,F j=0)→(l.map F).sum=0
 | [],_=>rfl
 | a::l,h=>by rw[List.map_cons,List.sum_cons,h a (by simp),oy F l λj hj=>h j (by simp[hj])];rfl
theorem oA(F:Nat→Int)(i:Nat):∀l:List Nat,l.Nodup→i∈l→(∀j∈l,j≠i→F j=0)→(l.map F).sum=F i
 | [],_,h,_=>by cases h
 | a::l,hd,hm,h=>by
  rw[List.nodup_cons] at hd
  rw[List.map_cons,List.sum_cons]
  by_cases e:a=i
  ·subst e
   rw[oy F l λj hj=>h j (by simp[hj]) λe=>hd.1 (e ▸ hj),Int.add_zero]
  ·rw[h a (by simp) e,Int.zero_add]
   exact oA F i l hd.2 ((List.mem_cons.mp hm).resolve_left λq=>e q.symm) λj hj=>h j (by simp[hj])
theorem xK(F:Nat→Int)(P:Nat→Bool):∀l:List Nat,(l.map F).sum=((l.filter P).map F).sum+((l.filter λj=>!P j).map F).sum
 | []=>rfl
 | a::l=>by
  rw[List.map_cons,List.sum_cons,xK F P l]
  cases q:P a<;>simp[q]<;>omega
theorem AX{p:Int}(F G:Nat→Int):∀l:List Nat,(∀j∈l,p ∣ F j-G j)→p ∣ (l.map F).sum-(l.map G).sum
 | [],_=>⟨0,by simp⟩
 | a::l,h=>by
  obtain⟨s,hs⟩:=h a (by simp)
  obtain⟨t,ht⟩:=AX F G l λj hj=>h j (by simp[hj])
  refine⟨s+t,?_⟩
  rw[List.map_cons,List.map_cons,List.sum_cons,List.sum_cons,Int.mul_add]
  omega
theorem xM(c:Int)(F:Nat→Int):∀l:List Nat,(l.map λj=>c*F j).sum=c*(l.map F).sum
 | []=>by simp
 | a::l=>by rw[List.map_cons,List.map_cons,List.sum_cons,List.sum_cons,xM c F l,Int.mul_add]
section
variable{p:Int}{m:Nat}{ls:List Ld}{ns rows:List (List Int)}
theorem AY(E:gM p m m ls ns rows){f:Nat}{q:Ld}(h:q∈ls):g (nv p m ls f) q.1=(-g q.2 f)%p:=by
 rw[K_ p m ls f q.1 (E.key q h),mf E.nd h]
theorem qu{f j:Nat}(hj:j<m)(h:∀q∈ls,q.1≠j):g (nv p m ls f) j=if j=f then 1 else 0:=by
 rw[K_ p m ls f j hj,find_none h]
theorem Fm{j:Nat}:j∈freeOf m ls↔j<m∧∀q∈ls,q.1≠j:=by
 refine⟨pH,λav=>?_⟩
 obtain⟨h1,h2⟩:=av
 unfold Fw.E.freeOf
 rw[List.mem_filter,List.mem_range,Bool.not_eq_true',List.any_eq_false]
 exact⟨h1,λq hq e=>h2 q hq (of_decide_eq_true e)⟩
theorem AZ:(freeOf m ls).Nodup:=List.nodup_range.sublist List.filter_sublist
theorem xN(E:gM p m m ls ns rows){q:Ld}(h:q∈ls)(c:List Int)(hc:c.length=m):dot c q.2=((freeOf m ls).map λf=>g c f*g q.2 f).sum+g c q.1:=by
 rw[← qr c q.2 m hc (E.rl q h).1,xK _ (λj=>!(ls.any λq=>decide (q.1=j))) (List.range m)]
 congr 1
 have hq:q.1∈(List.range m).filter λj=>!!(ls.any λq=>decide (q.1=j)):=List.mem_filter.mpr ⟨List.mem_range.mpr (E.key q h),by rw[Bool.not_not];exact List.any_eq_true.mpr ⟨q,h,decide_eq_true rfl⟩⟩
 rw[oA _ q.1 _ (List.nodup_range.sublist List.filter_sublist) hq,E.one q h,Int.mul_one]
 intro j hj ne
 obtain⟨_,h2⟩:=List.mem_filter.mp hj
 rw[Bool.not_not,List.any_eq_true] at h2
 obtain⟨q',h',e⟩:=h2
 have e:q'.1=j:=of_decide_eq_true e
 subst e
 rw[E.off q h q' h' ne,Int.mul_zero]
theorem HQ(hp:1<p)(E:gM p m m ls ns rows){f:Nat}(hf:f∈freeOf m ls):∀r∈rows,p ∣ dot (nv p m ls f) r:=by
 obtain⟨hfm,hfl⟩:=pH hf
 refine (E.eq (nv p m ls f)).mpr ⟨λq h=>?_,λr h=>?_⟩
 ·show p ∣ dot _ _
  rw[xN E h _ (xJ hp m ls f).1,oA _ f _ AZ hf,qu hfm hfl,if_pos rfl,AY E h]
  ·obtain⟨t,ht⟩:=md (-g q.2 f) p
   exact⟨-t,by rw[Int.mul_neg];omega⟩
  ·intro j hj ne
   obtain⟨a,b⟩:=pH hj
   rw[qu a b,if_neg ne,Int.zero_mul]
 ·show p ∣ dot _ _
  rw[← qr _ _ m (xJ hp m ls f).1 (E.rn r h).1,oy _ _ λj hj=>by rw[E.no r h j (List.mem_range.mp hj),Int.mul_zero]]
  exact⟨0,by omega⟩
theorem Ct(E:gM p m m ls ns rows){c:List Int}(hc:c.length=m)(h:∀r∈rows,p ∣ dot c r)(i:Nat)(hi:i<m):p ∣ ((freeOf m ls).map λf=>g c f*g (nv p m ls f) i).sum-g c i:=by
 by_cases hl:∃q∈ls,q.1=i
 ·obtain⟨q,hq,rfl⟩:=hl
  have h1:p ∣ dot c q.2:=((E.eq c).mp h).1 q hq
  rw[xN E hq c hc] at h1
  have h2:=AX (p:=p) (λf=>g c f*g (nv p m ls f) q.1) (λf=>-1*(g c f*g q.2 f)) (freeOf m ls) λf _=>by
   rw[AY E hq]
   obtain⟨t,ht⟩:=md (-g q.2 f) p
   refine⟨-(g c f*t),?_⟩
   have e:(-g q.2 f)%p=-g q.2 f-p*t:=by omega
   show g c f*((-g q.2 f)%p)- -1*(g c f*g q.2 f)=_
   rw[e]
   grind
  rw[xM] at h2
  obtain⟨a,ha⟩:=h1
  obtain⟨b,hb⟩:=h2
  exact⟨b-a,by rw[Int.mul_sub];omega⟩
 ·have hl:∀q∈ls,q.1≠i:=λq hq e=>hl ⟨q,hq,e⟩
  have hf:i∈freeOf m ls:=Fm.mpr ⟨hi,hl⟩
  rw[oA _ i _ AZ hf,qu hi hl,if_pos rfl]
  ·exact⟨0,by omega⟩
  ·intro j hj ne
   rw[qu hi hl,if_neg (λe=>ne e.symm),Int.mul_zero]
end
theorem lO(a:Int)(l:List Int)(i:Nat):g (a::l) (i+1)=g l i:=by simp[g]
theorem ie(a:Int)(l:List Int):g (a::l) 0=a:=by simp[g]
theorem pI(r:Int×List Int)(rows:Rows)(i:Nat):b_ (r::rows) (i+1)=b_ rows i:=by simp[b_]
theorem uD(r:Int×List Int)(rows:Rows):b_ (r::rows) 0=r:=by simp[b_]
theorem spread(P:Int→Bool):∀(rows:Rows) (ms:List Int),ms.length=(rows.filter λq=>P q.1).length →
  ∃c,c.length=rows.length∧(∀i,i<rows.length→P (b_ rows i).1=false→g c i=0)∧∀j,dot c (col (rows.map (·.2)) j)=dot ms (col ((rows.filter λq=>P q.1).map (·.2)) j)
 | [],ms,hl=>⟨[],rfl,λi hi=>by simp at hi,λj=>by simp[col]⟩
 | r::rows,ms,hl=>by
  cases hp:P r.1 with
  | true =>
   rw[List.filter_cons_of_pos (p:=λq:Int×List Int=>P q.1) hp] at hl ⊢
   cases ms with
   | nil=>simp at hl
   | cons m ms =>
    obtain⟨c,h1,h2,h3⟩:=spread P rows ms (by simpa using hl)
    refine⟨m::c,by simp[h1],λi hi hq=>?_,λj=>?_⟩
    ·cases i with
     | zero=>rw[uD,hp] at hq;cases hq
     | succ i=>rw[pI] at hq;rw[lO];exact h2 i (by simpa using hi) hq
    ·have:=h3 j
     unfold col at this ⊢
     simp only[List.map_cons,dot,this]
  | false =>
   rw[List.filter_cons_of_neg (p:=λq:Int×List Int=>P q.1) (by rw[hp];decide)] at hl ⊢
   obtain⟨c,h1,h2,h3⟩:=spread P rows ms hl
   refine⟨0::c,by simp[h1],λi hi hq=>?_,λj=>?_⟩
   ·cases i with
    | zero=>exact ie _ _
    | succ i=>rw[pI] at hq;rw[lO];exact h2 i (by simpa using hi) hq
   ·have:=h3 j
    unfold col at this ⊢
    simp only[List.map_cons,dot,this,Int.zero_mul,Int.zero_add]
theorem A0(p:Int)(P:Int→Bool):∀(rows:Rows) (c:List Int),c.length=rows.length→(∀i,i<rows.length→P (b_ rows i).1=false→p ∣ g c i) →
  ∃ms,ms.length=(rows.filter λq=>P q.1).length∧∀j,p ∣ dot ms (col ((rows.filter λq=>P q.1).map (·.2)) j)-dot c (col (rows.map (·.2)) j)
 | [],c,hl,_=>⟨[],rfl,λj=>⟨0,by simp[col]⟩⟩
 | r::rows,c,hl,h=>by
  cases c with
  | nil=>simp at hl
  | cons a c =>
   obtain⟨ms,h1,h2⟩:=A0 p P rows c (by simpa using hl) λi hi hq=>by
    have:=h (i+1) (by simpa using hi) (by rw[pI];exact hq)
    rwa [lO] at this
   cases hp:P r.1 with
   | true =>
    rw[List.filter_cons_of_pos (p:=λq:Int×List Int=>P q.1) hp]
    refine⟨a::ms,by simp[h1],λj=>?_⟩
    obtain⟨t,ht⟩:=h2 j
    refine⟨t,?_⟩
    unfold col at ht ⊢
    simp only[List.map_cons,dot]
    omega
   | false =>
    rw[List.filter_cons_of_neg (p:=λq:Int×List Int=>P q.1) (by rw[hp];decide)]
    refine⟨ms,h1,λj=>?_⟩
    obtain⟨t,ht⟩:=h2 j
    obtain⟨s,hs⟩:=h 0 (by simp) (by rw[uD];exact hp)
    rw[ie] at hs
    refine⟨t-s*g r.2 j,?_⟩
    unfold col at ht ⊢
    simp only[List.map_cons,dot]
    rw[hs,Int.mul_sub,Int.mul_assoc]
    omega
theorem HR{p:Int}{w:Nat}{rows:Rows}{S:List Int}(o:Op p w rows S):∃c,c.length=rows.length∧(∀i,i<rows.length→(b_ rows i).1∉S→g c i=0)∧∀j,j<w→p ∣ dot c (col (rows.map (·.2)) j)-g (eu w 0) j:=by
 obtain⟨ms,h1,h2⟩:=o
 rw[gK,List.length_map] at h1
 obtain⟨c,k1,k2,k3⟩:=spread (λx=>decide (x∈S)) rows ms h1
 refine⟨c,k1,λi hi hn=>k2 i hi (decide_eq_false hn),λj hj=>?_⟩
 have:=h2 j hj
 rw[gK] at this
 rw[k3 j]
 exact this
theorem A1{p:Int}{w:Nat}{rows:Rows}{S c:List Int}(hc:c.length=rows.length)(h:∀i,i<rows.length→(b_ rows i).1∉S→p ∣ g c i)(h2:∀j,j<w→p ∣ dot c (col (rows.map (·.2)) j)-g (eu w 0) j):Op p w rows S:=by
 obtain⟨ms,k1,k2⟩:=A0 p (λx=>decide (x∈S)) rows c hc λi hi hn=>h i hi (of_decide_eq_false hn)
 refine⟨ms,by rw[gK,List.length_map];exact k1,λj hj=>?_⟩
 rw[gK]
 obtain⟨s,hs⟩:=k2 j
 obtain⟨t,ht⟩:=h2 j hj
 exact⟨s+t,by rw[Int.mul_add];omega⟩
theorem xO(F G:Nat→Int):∀l:List Nat,dot (l.map F) (l.map G)=(l.map λf=>F f*G f).sum
 | []=>by simp
 | a::l=>by simp only[List.map_cons,dot,List.sum_cons,xO F G l]
def cls(p:Int)(m:Nat)(ls:List Ld)(ms:List Int):List (List Int):=ms::(freeOf m ls).map λf=>nv p m ls f
def tln(p:Int)(m:Nat)(ls:List Ld)(ms:List Int)(i:Nat):List Int:=(col (cls p m ls ms) i).map λx=>x%p
section
variable{p:Int}{w m:Nat}{ls:List Ld}{ns lines:List (List Int)}{ms:List Int}
theorem A2(i:Nat):col (cls p m ls ms) i=g ms i::(freeOf m ls).map λf=>g (nv p m ls f) i:=by
 unfold col cls
 rw[List.map_cons,List.map_map]
 rfl
theorem xP:∀(c d r:List Int),c.length=d.length→dot ((c.zip d).map λq=>q.1-q.2) r=dot c r-dot d r
 | [],[],r,_=>by simp
 | a::c,b::d,[],_=>by simp
 | a::c,b::d,x::r,h=>by
  simp only[List.zip_cons_cons,List.map_cons,dot]
  rw[xP c d r (by simpa using h),Int.sub_mul]
  omega
theorem Lb{c d:List Int}(h:c.length=d.length)(i:Nat):g ((c.zip d).map λq=>q.1-q.2) i=g c i-g d i:=by
 by_cases hi:i<c.length
 ·have h1:i<d.length:=by omega
  have gg:∀{C:List Int}{i:Nat} (h:i<C.length),g C i=C[i]:=λh=>by simp[g,h]
  rw[gg (by simp;omega),gg hi,gg h1]
  simp
 ·have h1:¬ i<d.length:=by omega
  simp only[g,List.getD_eq_getElem?_getD]
  rw[List.getElem?_eq_none (by simp;omega),List.getElem?_eq_none (by omega),List.getElem?_eq_none (by omega)]
  rfl
theorem A3(j:Nat)(hj:j<w):col lines j∈cols w lines:=List.mem_map.mpr ⟨j,List.mem_range.mpr hj,rfl⟩
theorem HS(E:gM p lines.length lines.length ls ns (cols w lines))(hms:ms.length=lines.length)(h1:∀j,j<w→p ∣ dot ms (col lines j)-g (eu w 0) j){c:List Int}(hc:c.length=lines.length)(h2:∀j,j<w→p ∣ dot c (col lines j)-g (eu w 0) j) :
  ∃tv,g tv 0=1∧∀i,i<lines.length→p ∣ dot (tln p lines.length ls ms i) tv-g c i:=by
 refine⟨1::(freeOf lines.length ls).map λf=>g c f-g ms f,ie _ _,λi hi=>?_⟩
 have hcl:c.length=ms.length:=by omega
 have sp:=Ct E (c:=(c.zip ms).map λq=>q.1-q.2) (by simp;omega) (λr hr=>by
  obtain⟨j,hj,rfl⟩:=List.mem_map.mp hr
  have hj:=List.mem_range.mp hj
  rw[xP c ms _ hcl]
  obtain⟨s,hs⟩:=h1 j hj
  obtain⟨t,ht⟩:=h2 j hj
  exact⟨t-s,by rw[Int.mul_sub];omega⟩) i hi
 simp only[Lb hcl] at sp
 obtain⟨a,ha⟩:=sQ p (1::(freeOf lines.length ls).map λf=>g c f-g ms f) (col (cls p lines.length ls ms) i)
 obtain⟨b,hb⟩:=sp
 unfold tln
 rw[sL]
 have e:dot (1::(freeOf lines.length ls).map λf=>g c f-g ms f) (col (cls p lines.length ls ms) i)=g ms i+((freeOf lines.length ls).map λf=>(g c f-g ms f)*g (nv p lines.length ls f) i).sum:=by
  rw[A2]
  simp only[dot,xO,Int.one_mul]
 refine⟨a+b,?_⟩
 rw[Int.mul_add]
 omega
theorem HU(hp:1<p)(E:gM p lines.length lines.length ls ns (cols w lines))(hms:ms.length=lines.length)(h1:∀j,j<w→p ∣ dot ms (col lines j)-g (eu w 0) j){tv:List Int}(htl:tv.length=(freeOf lines.length ls).length+1)(ht:g tv 0=1) :
  ∃c,c.length=lines.length∧(∀i,i<lines.length→g c i=dot (tln p lines.length ls ms i) tv)∧∀j,j<w→p ∣ dot c (col lines j)-g (eu w 0) j:=by
 refine⟨(List.range lines.length).map λi=>dot (tln p lines.length ls ms i) tv,by simp,λi hi=>?_,λj hj=>?_⟩
 ·simp[g,hi]
 have hg:∀i,i<lines.length→g ((List.range lines.length).map λi=>dot (tln p lines.length ls ms i) tv) i=dot (tln p lines.length ls ms i) tv:=λi hi=>by simp[g,hi]
 have cm:=xI p lines.length (col lines j) (cls p lines.length ls ms) tv ((List.range lines.length).map λi=>dot (tln p lines.length ls ms i) tv) (by simp[cls,htl]) (λl hl=>by
  rcases List.mem_cons.mp hl with rfl|hl
  ·exact hms
  ·obtain⟨f,_,rfl⟩:=List.mem_map.mp hl
   exact (xJ hp _ _ _).1) (by simp) (λi hi=>by
  rw[hg i hi]
  obtain⟨a,ha⟩:=sQ p tv (col (cls p lines.length ls ms) i)
  unfold tln
  rw[sL (List.map _ _) tv]
  exact⟨-a,by rw[Int.mul_neg];omega⟩)
 cases tv with
 | nil=>simp at htl
 | cons t0 tv =>
  rw[ie] at ht
  subst ht
  have nz:∀(l:List Nat) (tv:List Int),(∀f∈l,f∈freeOf lines.length ls)→p ∣ dot tv (l.map λf=>dot (nv p lines.length ls f) (col lines j)):=by
   intro l
   induction l with
   | nil=>intro tv _;exact⟨0,by simp⟩
   | cons f l ih =>
    intro tv hf
    cases tv with
    | nil=>exact⟨0,by simp⟩
    | cons t tv =>
     obtain⟨a,ha⟩:=HQ hp E (hf f (by simp)) (col lines j) (A3 j hj)
     obtain⟨b,hb⟩:=ih tv λx hx=>hf x (by simp[hx])
     refine⟨t*a+b,?_⟩
     simp only[List.map_cons,dot]
     rw[ha,hb,Int.mul_add]
     grind
  obtain⟨b,hb⟩:=nz (freeOf lines.length ls) tv λf hf=>hf
  obtain⟨a,ha⟩:=cm
  obtain⟨s,hs⟩:=h1 j hj
  unfold cls at ha
  simp only[List.map_cons,dot,Int.one_mul,List.map_map] at ha
  have hb:dot tv (List.map ((λl=>dot l (col lines j)) ∘ λf=>nv p lines.length ls f) (freeOf lines.length ls))=p*b:=hb
  refine⟨s+b-a,?_⟩
  rw[Int.mul_sub,Int.mul_add]
  omega
end
def gL(p:Int)(ls:List Ld)(ms:List Int)(rows:Rows):Rows:=(List.range rows.length).map λi=>((b_ rows i).1,tln p rows.length ls ms i)
section
variable{p:Int}{w:Nat}{rows:Rows}{ls:List Ld}{ns:List (List Int)}{ms:List Int}
theorem pJ:(rows.map (·.2)).length=rows.length:=List.length_map _
theorem pK:(gL p ls ms rows).length=rows.length:=by unfold gL;rw[List.length_map,List.length_range]
theorem oB{i:Nat}(hi:i<rows.length):b_ (gL p ls ms rows) i=((b_ rows i).1,tln p rows.length ls ms i):=by
 unfold gL
 simp[b_,hi]
theorem Lc(hp:0<p)(i:Nat):Rw p ((freeOf rows.length ls).length+1) (tln p rows.length ls ms i):=by
 unfold tln
 rw[A2]
 refine⟨by simp,λa ha=>?_,λa ha=>?_⟩
 ·obtain⟨x,_,rfl⟩:=List.mem_map.mp ha
  exact Int.emod_nonneg _ (by omega)
 ·obtain⟨x,_,rfl⟩:=List.mem_map.mp ha
  exact Int.emod_lt_of_pos _ hp
theorem xQ(hp:1<p)(hw:0<w)(E:gM p rows.length rows.length ls ns (cols w (rows.map (·.2))))(h1:∀j,j<w→p ∣ dot ms (col (rows.map (·.2)) j)-g (eu w 0) j)(hms:ms.length=rows.length):(freeOf rows.length ls).length+1≤rows.length:=by
 have hf:=Fl E.nd E.key
 cases ls with
 | cons q r=>rw[List.length_cons] at hf;omega
 | nil =>
  exfalso
  have z:=(E.eq ms).mpr (by
   refine⟨λq hq=>absurd hq (by simp),λr hr=>?_⟩
   show p ∣ dot _ _
   rw[← qr _ _ rows.length hms (E.rn r hr).1,oy _ _ λj hj=>by rw[E.no r hr j (List.mem_range.mp hj),Int.mul_zero]]
   exact⟨0,by omega⟩)
  obtain⟨a,ha⟩:=z _ (A3 (lines:=rows.map (·.2)) 0 hw)
  obtain⟨b,hb⟩:=h1 0 hw
  have e:g (eu w 0) 0=1:=by rw[qt w hw];exact ie _ _
  rw[e,ha] at hb
  have hb:p*(a-b)=1:=by rw[Int.mul_sub];omega
  have:p ∣ 1:=⟨a-b,hb.symm⟩
  have:=Int.le_of_dvd (by decide) this
  omega
theorem uE(H:Tbl p w rows)(E:gM p rows.length rows.length ls ns (cols w (rows.map (·.2))))(h1:∀j,j<w→p ∣ dot ms (col (rows.map (·.2)) j)-g (eu w 0) j)(hms:ms.length=rows.length)(hr:rows.length≤12):Tbl p ((freeOf rows.length ls).length+1) (gL p ls ms rows):=by
 have hb:=H.pr.pos
 have ff:=xQ (by omega) H.w0 E h1 hms
 refine⟨H.pr,by omega,by omega,by rw[pK];omega,λq hq=>?_⟩
 obtain⟨i,_,rfl⟩:=List.mem_map.mp hq
 exact Lc (by omega) i
theorem Sg(H:Tbl p w rows)(E:gM p rows.length rows.length ls ns (cols w (rows.map (·.2))))(h1:∀j,j<w→p ∣ dot ms (col (rows.map (·.2)) j)-g (eu w 0) j)(hms:ms.length=rows.length)(hr:rows.length≤12)
  {S Sc:List Int} (hS:∀q∈rows,q.1∈S↔q.1∉Sc):Op p ((freeOf rows.length ls).length+1) (gL p ls ms rows) S↔¬ Op p w rows Sc:=by
 have hb:=H.pr.pos
 have H':=uE H E h1 hms hr
 have hS:∀i,i<rows.length→((b_ rows i).1∈S↔(b_ rows i).1∉Sc):=λi hi=>hS _ (by unfold b_;rw[List.getD_eq_getElem?_getD,List.getElem?_eq_getElem hi];exact List.getElem_mem hi)
 have hll:(rows.map (·.2)).length=rows.length:=pJ
 have E':gM p (rows.map (·.2)).length (rows.map (·.2)).length ls ns (cols w (rows.map (·.2))):=by rw[hll];exact E
 have at_:∀l∈linesAt (gL p ls ms rows) (rowsOf (gL p ls ms rows) S),∃i,i<rows.length∧(b_ rows i).1∈S∧l=tln p rows.length ls ms i:=λl hl=>by
  obtain⟨i,hi,rfl⟩:=List.mem_map.mp hl
  unfold rowsOf at hi
  rw[List.mem_filter,List.mem_range,pK] at hi
  have hin:=of_decide_eq_true hi.2
  rw[oB hi.1] at hin
  exact⟨i,hi.1,hin,by rw[oB hi.1]⟩
 constructor
 ·intro o o2
  obtain⟨c,k1,k2,k3⟩:=HR o2
  obtain⟨tv,t1,t2⟩:=HS E' (ms:=ms) (by rw[hll];exact hms) h1 (c:=c) (by rw[hll];exact k1) k3
  refine v_ H' (tv:=tv) (λl hl=>?_) t1 o
  obtain⟨i,hi,hin,rfl⟩:=at_ l hl
  have:=t2 i (by rw[hll];exact hi)
  rw[hll,k2 i hi ((hS i hi).mp hin),Int.sub_zero] at this
  exact this
 ·intro no
  have hl:=mX H' (is:=rowsOf (gL p ls ms rows) S) jV
  have hlen:(linesAt (gL p ls ms rows) (rowsOf (gL p ls ms rows) S)).length≤24:=by
   unfold linesAt
   rw[List.length_map]
   exact Nat.le_trans (mY _ _) H'.n
  have hw1:=H'.w1
  rcases xF H.pr hl (AV (p:=p) (by omega) ((freeOf rows.length ls).length+1) 0) (by omega) (by omega) with ⟨mu,m1,m2⟩|⟨tv,t1,t2,t3⟩
  ·exact⟨mu,m1.1,m2⟩
  ·exfalso
   rw[mW _ 0 tv H'.w0] at t3
   have g1:g tv 0=1:=by
    have b:=t1.g0 (p:=p) (by omega) 0
    exact Fi (by omega) b.1 b.2 t3
   obtain⟨c,c1,c2,c3⟩:=HU (p:=p) (by omega) E' (ms:=ms) (by rw[hll];exact hms) h1 (tv:=tv) (by rw[hll];exact t1.1) g1
   refine no (A1 (c:=c) (by rw[c1,hll]) (λi hi hn=>?_) c3)
   rw[c2 i (by rw[hll];exact hi),hll]
   have hin:(b_ rows i).1∈S:=Classical.byContradiction λq=>hn (Classical.byContradiction λz=>q ((hS i hi).mpr z))
   refine t2 _ (List.mem_map.mpr ⟨i,?_,by rw[oB hi]⟩)
   unfold rowsOf
   rw[List.mem_filter,List.mem_range,pK]
   exact⟨hi,decide_eq_true (by rw[oB hi];exact hin)⟩
end
end Fw.La
namespace Fw.Sets
open PySem Fw Fw.H Fw.E Fw.F
section
variable{p:Int}{n:Nat}{rows:Rows}{X:Int→Int}
end
section
variable{p:Int}{n:Nat}{rows:Rows}{X:Int→Int}{O:List Int→Bool}
end
section
variable{p:Int}{n:Nat}{rows:Rows}{O:List Int→Bool}
end
section
variable{p:Int}{w n:Nat}{rows:Rows}{O:List Int→Bool}
end
def bs(n k:Nat):List Int:=(fE 0 n).filter λh=>decide ((k:Int) / 2 ^ h.toNat%2=1)
theorem zK{n k:Nat}{x:Int}:x∈bs n k↔(0≤x∧x<(n:Int))∧k.testBit x.toNat=true:=by
 unfold bs
 rw[List.mem_filter,rq,decide_eq_true_iff,Nat.testBit_eq_decide_div_mod_eq,decide_eq_true_iff]
 have e:(k:Int) / 2 ^ x.toNat%2=((k / 2 ^ x.toNat%2:Nat):Int):=by push_cast;rfl
 rw[e]
 omega
end Fw.Sets
namespace Fw.J
open PySem Fw Fw.H Fw.E Fw.F
end Fw.J
namespace Fw.K
open PySem Fw Fw.H Fw.E Fw.F Fw.J
def Fn:DS :=
 (az (sIf (ah fLt (aa 1) (cQ (aa 0))) (aG (aC (aa 0) (aa 1))) bB)
 (az (aE 2 (ah bT (ah aT (aa 1) (dC (.int 48271))) (dC (.int 977))))
 (az (sIf (ah fGt (cQ (aa 0)) (dC (.int 0))) (aE 2 (ah bT (aa 2) (ah aT (ah aP (aC (aa 0) (ah aP (ah aT (aa 1) (dC (.int 3))) (cQ (aa 0)))) (dC (.int 2147483647))) (dC (.int 40692))))) bB)
 (aG (ah aP (ah aT (ah aP (ah aT (aa 2) (aa 2)) (dC (.int 2147483629))) (dC (.int 69621))) (dC (.int 2147483587)))))))
def mh:FN:=fnV 3 Fn
theorem NI{p a b:Int}(hp:p≤97)(h:0≤a∧a<p):aT (.int a) (.int b)=some (.int (a*b)):=i6 _ _ (by omega) (by omega)
theorem Fo{k:Int}(h0:0≤k)(h1:k≤1000)(a:Int):-18446744073709551616<k*48271+977+a%2147483647*40692∧k*48271+977+a%2147483647*40692<18446744073709551616:=by omega
theorem Cu{k:Int}(h0:0≤k)(h1:k≤1000):-18446744073709551616<k*48271+977∧k*48271+977<18446744073709551616:=by omega
def Fp:DS:=(aG (ah aP (ah aT (ah aP (ah aT (aa 2) (aa 2)) (dC (.int 2147483629))) (dC (.int 69621))) (dC (.int 2147483587))))
theorem xR(ns:T)(k y:Int)(h:-18446744073709551616<y∧y<18446744073709551616)(μ:af):Fp [some (.val ns),some (.val (.int k)),some (.val (.int y))] μ=.rt (.val (.int (y*y%2147483629*69621%2147483587))) μ:=by
 unfold Fp
 have hyy:aT (.int y) (.int y)=some (.int (y*y)):=gR _ _ h.1 h.2
 have m4:∀a,aT (.int a) (.int 69621)=some (.int (a*69621)):=λa=>gR _ _ (by decide) (by decide)
 simp?! only[hyy,m4]
theorem Cv:Fn=(az (sIf (ah fLt (aa 1) (cQ (aa 0))) (aG (aC (aa 0) (aa 1))) bB)
 (az (aE 2 (ah bT (ah aT (aa 1) (dC (.int 48271))) (dC (.int 977))))
 (az (sIf (ah fGt (cQ (aa 0)) (dC (.int 0))) (aE 2 (ah bT (aa 2) (ah aT (ah aP (aC (aa 0) (ah aP (ah aT (aa 1) (dC (.int 3))) (cQ (aa 0)))) (dC (.int 2147483647))) (dC (.int 40692))))) bB)
 Fp))):=rfl
theorem ji(ns:List Int)(k:Int)(h0:0≤k)(h1:k≤1000):∃c,∀μ,mh [.val (.lst (ns.map T.int)),.val (.int k)] μ=.ok (.val (.int c)) μ:=by
 unfold mh
 rw[Cv]
 have m1:aT (.int k) (.int 48271)=some (.int (k*48271)):=gR _ _ (by decide) (by decide)
 by_cases h:k<ns.length
 ·have hl:decide (k<(ns.length:Int))=true:=decide_eq_true h
  exact⟨_,λμ=>by simp?! only[List.length_map,hl,j7 h0 h];rfl⟩
 ·have hl:decide (k<(ns.length:Int))=false:=decide_eq_false h
  by_cases h2:0<ns.length
  ·have hp:(0:Int)<ns.length:=Int.ofNat_lt.mpr h2
   have p1:k*3%(ns.length:Int)<ns.length:=Int.emod_lt_of_pos _ hp
   have n0:decide ((ns.length:Int) > 0)=true:=decide_eq_true hp
   have n0':decide (0<(ns.length:Int))=true:=decide_eq_true hp
   obtain⟨a,ht⟩:∃a,atI (ns.map T.int) (k*3%(ns.length:Int))=some (.int a):=⟨_,j7 (xs:=ns) (f:=T.int) (Int.emod_nonneg _ (Int.ne_of_gt hp)) p1⟩
   have m3:aT (.int k) (.int 3)=some (.int (k*3)):=gR _ _ (by decide) (by decide)
   have hmm:aP (.int (k*3)) (.int (ns.length:Int))=some (.int (k*3%(ns.length:Int))):=d_ _ _ hp
   have hma:aT (.int (a%2147483647)) (.int 40692)=some (.int (a%2147483647*40692)):=gR _ _ (by decide) (by decide)
   exact⟨_,λμ=>by simp?! only[List.length_map,hl,m1,m3,n0,n0',hmm,ht,hma,xR _ _ _ (Fo h0 h1 a)];rfl⟩
  ·have hp:¬ (0:Int)<ns.length:=λh=>h2 (Int.ofNat_lt.mp h)
   have n0:decide ((ns.length:Int) > 0)=false:=decide_eq_false hp
   have n0':decide (0<(ns.length:Int))=false:=decide_eq_false hp
   exact⟨_,λμ=>by simp?! only[List.length_map,hl,m1,n0,n0',xR _ _ _ (Cu h0 h1)];rfl⟩
def A4:DS :=
 (az (aE 2 (ah aP (ah aT (ah bT (ah aP (aa 0) (dC (.int 2147483647))) (dC (.int 1))) (ah bT (dC (.int 48271)) (ah aT (aa 1) (aa 1)))) (dC (.int 2147483629))))
 (aG (ah aP (ah aT (ah aP (ah aT (aa 2) (ah bT (aa 2) (ah aT (dC (.int 977)) (aa 1)))) (dC (.int 2147483587))) (dC (.int 40692))) (dC (.int 2147483399)))))
def sS:FN:=fnV 3 A4
theorem Fq(c k:Int)(h0:0≤k)(h1:k≤1000):∃d,∀μ,sS [.val (.int c),.val (.int k)] μ=.ok (.val (.int d)) μ:=by
 unfold sS A4
 have m1:aT (.int k) (.int k)=some (.int (k*k)):=gR _ _ (by omega) (by omega)
 have m2:∀b,aT (.int (c%2147483647+1)) (.int b)=some (.int ((c%2147483647+1)*b)):=λb=>i6 _ _ (by omega) (by omega)
 have m3:aT (.int 977) (.int k)=some (.int (977*k)):=i6 _ _ (by decide) (by decide)
 have m4:∀a b,aT (.int (a%2147483629)) (.int b)=some (.int (a%2147483629*b)):=λa b=>i6 _ _ (by omega) (by omega)
 have m5:∀a,aT (.int (a%2147483587)) (.int 40692)=some (.int (a%2147483587*40692)):=λa=>gR _ _ (by decide) (by decide)
 exact⟨_,λμ=>by simp?! only[m1,m2,m3,m4,m5];rfl⟩
def oE:DS:=(sIf (aa 3) (az (cy (aa 4) (ah aP (aa 0) (aa 1)))
 (aE 0 (ah eD (aa 0) (aa 1)))) (cy (aa 4) (ah aP (ah eD (aB (cal sS) [(aa 0),(aa 5)]) (dC (.int 7))) (aa 1))))
def mi:DS :=
 (az (aE 4 (dI (fD [])))
 (az (eJ (bp (aa 2)) (aL 5) oE)
 (aG (aa 4))))
theorem zL(c base:Int)(n:Nat)(bd:Bool)(hm:0<base)(hm2:base<1000000)(hn:n≤1000)(μ:af) :
  ∃r,mi (starts 6 [.val (.int c),.val (.int base),.val (.int n),.val (.bl bd)]) μ=.rt (.cel μ.length) (μ++[(true,li r)])∧Rw base n r:=by
 have rn:eG (n:Int)=true:=eI (by omega) (by omega)
 obtain⟨e',μ',h1,x0,x5,r,rfl,rfl,hR⟩:=gv (same:=λ_=>True) (b:=aL 5) (ts:=b7 0 (n:Int).toNat) (body:=oE)
  (I:=λi e μ1=>∃x0 x5 r,e=[some (.val (.int x0)),some (.val (.int base)),some (.val (.int n)),some (.val (.bl bd)),some (.cel μ.length),x5]∧μ1=μ++[(true,li r)]∧Rw base i r)
  (λ_ _ _ _=>trivial) (λi t e μ1 ht av=>by
   obtain⟨x0,x5,r,he,hμ,hR⟩:=av
   subst he hμ
   obtain⟨k,rfl,hi,hk⟩:=qo ht
   have hi:i<n:=by simpa using hi
   have hl:(r.map T.int).length<szL:=by have:=hR.1;unfold szL;simp;omega
   generalize hq:(true,li r)=q
   have hls:p8 (.cel μ.length) (μ++[q])=some ():=by rw[← hq];exact rj _ _ _ _
   have hap:∀t,appendAt (.cel μ.length) t (μ++[q])=some (μ++[(true,T.lst (r.map T.int++[t]))]):=λt=>by rw[← hq];exact mL _ _ _ _ hl
   have ou:∀a:Int,aP (.int a) (.int base)=some (.int (a%base)):=λa=>d_ _ _ (by omega)
   have hdiv:∀a:Int,eD (.int a) (.int base)=some (.int (a / base)):=λa=>wG _ _ (by omega) (by omega)
   cases bd with
   | true =>
    refine⟨_,_,_,rfl,?_,x0 / base,some (.val (.int k)),r++[x0%base],rfl,rfl,E.Rw.snoc hR (Int.emod_nonneg _ (by omega)) (Int.emod_lt_of_pos _ hm)⟩
    unfold oE
    simp?! only[hls,hap,ou,hdiv]
    simp
   | false =>
    obtain⟨d,hd⟩:=Fq x0 k (by omega) (by omega)
    refine⟨_,_,_,rfl,?_,x0,some (.val (.int k)),r++[d / 7%base],rfl,rfl,E.Rw.snoc hR (Int.emod_nonneg _ (by omega)) (Int.emod_lt_of_pos _ hm)⟩
    unfold oE
    simp?! only[hd,hls,hap,ou]
    simp)
  (e:=[some (.val (.int c)),some (.val (.int base)),some (.val (.int n)),some (.val (.bl bd)),some (.cel μ.length),none]) (μ:=μ++[(true,li [])]) ⟨c,none,[],rfl,rfl,rfl,by simp,by simp⟩
 rw[eP,Int.toNat_natCast] at hR
 refine⟨r,?_,hR⟩
 unfold mi
 simp?! only[rn]
 rw[show (true,T.lst [])=(true,li []) from rfl,h1]
 simp?! only[]
theorem Fs(c base:Int)(n:Nat)(bd:Bool)(hm:0<base)(hm2:base<1000000)(hn:n≤1000)(μ:af) :
  ∃r,fnD 6 mi [.val (.int c),.val (.int base),.val (.int n),.val (.bl bd)] μ=.ok (.cel μ.length) (μ++[(true,li r)])∧Rw base n r:=by
 obtain⟨r,h,hR⟩:=zL c base n bd hm hm2 hn μ
 exact⟨r,by rw[kX,h,Ao,Fh],hR⟩
def mZ:FN:=fnD 6 mi
def Le:DS:=(j0 (ah fLt (cQ (aa 10)) (aa 5)) (cy (aa 10) (ah aP (ah aT (aC (aa 10) (dUn p7 (dC (.int 1)))) (aa 11)) (aa 2))))
def pL:DS:=(az (aE 3 (aB (cal mh) [(aa 0),(ah bT (ah bT (aa 1) (dC (.int 1))) (aa 9))]))
 (az (aE 10 (aB (cal mZ) [(ah eD (aa 3) (dC (.int 100))),(aa 2),(aa 5),(aa 4)]))
 (az (sIf (ah fEq (ah aP (ah eD (aa 3) (dC (.int 10))) (dC (.int 5))) (dC (.int 1))) (az (aE 11 (ah aP (ah eD (aa 3) (dC (.int 100))) (aa 2)))
 (az (aE 10 (dI (fD [(dC (.int 1))])))
 Le)) bB)
 (cy (aa 8) (fZ [(ah aP (aa 3) (aa 7)),(dUn cL (aa 10))])))))
def A5:DS :=
 (az (aE 3 (aB (cal mh) [(aa 0),(aa 1)]))
 (az (aE 4 (ah fEq (ah aP (aa 3) (dC (.int 2))) (dC (.int 0))))
 (az (aE 5 (ah bT (dC (.int 1)) (ah aP (ah eD (aa 3) (dC (.int 2))) (dC (.int 4)))))
 (az (aE 6 (ah aP (ah eD (aa 3) (dC (.int 8))) (dC (.int 7))))
 (az (aE 7 (ah bT (dC (.int 1)) (ah aP (ah eD (aa 3) (dC (.int 56))) (dC (.int 5)))))
 (az (sIf (ah fEq (ah aP (ah eD (aa 3) (dC (.int 280))) (dC (.int 8))) (dC (.int 5))) (az (aE 5 (ah bT (aa 5) (dC (.int 2))))
 (aE 6 (ah bT (aa 6) (dC (.int 5))))) bB)
 (az (aE 8 (dI (fD [])))
 (az (eJ (bp (aa 6)) (aL 9) pL)
 (aG (fZ [(aa 2),(aa 5),(dUn cL (aa 8))]))))))))))
theorem Lf{p x:Int}(hp:2≤p∧p≤97)(hx:0≤x∧x<p)(w:Nat)(hw:0<w∧w≤12)(a0 a1 a3 a4 a6 a7 a8 a9:Option SV)(k:Nat)(μ:af)(h:μ[k]?=some (true,li [1])) :
  ∃l,Le [a0,a1,some (.val (.int p)),a3,a4,some (.val (.int w)),a6,a7,a8,a9,some (.cel k),some (.val (.int x))] μ=.nx [a0,a1,some (.val (.int p)),a3,a4,some (.val (.int w)),a6,a7,a8,a9,some (.cel k),some (.val (.int x))] (μ.set k (true,li l))∧Rw p w l:=by
 have hp0:0<p:=by omega
 have hk:k<μ.length:=(List.getElem?_eq_some_iff.mp h).1
 have ou:∀a:Int,aP (.int a) (.int p)=some (.int (a%p)):=λa=>d_ _ _ hp0
 refine rB (P:=λr=>∃l,r=.nx [a0,a1,some (.val (.int p)),a3,a4,some (.val (.int w)),a6,a7,a8,a9,some (.cel k),some (.val (.int x))] (μ.set k (true,li l))∧Rw p w l) (by rintro⟨l,h,_⟩;cases h)
  (λm e μ1=>∃(l:List Int) (i:Nat),e=[a0,a1,some (.val (.int p)),a3,a4,some (.val (.int w)),a6,a7,a8,a9,some (.cel k),some (.val (.int x))]∧μ1=μ.set k (true,li l)∧Rw p i l∧0<i∧i≤w∧m=w-i) ?_ (w-1) _ μ ⟨[1],1,rfl,?_,⟨rfl,by simp,by simp;omega⟩,by omega,by omega,rfl⟩
 ·rintro m e μ1 ⟨l,i,rfl,rfl,hR,hi0,hiw,rfl⟩
  have hg:(μ.set k (true,li l))[k]?=some (true,li l):=by simp[hk]
  have hlen:jn (μ.set k (true,li l)) (.cel k)=some (.int i):=by
   have h3:rd (μ.set k (true,li l)) (.cel k)=some (li l):=by rw[mK,hg];rfl
   have:=(K7 h3).len
   rw[hR.1] at this;exact this
  refine⟨decide ((i:Int)<w),μ.set k (true,li l),by simp?! only[hlen],?_⟩
  by_cases hlt:i<w
  ·rw[if_pos (decide_eq_true (by omega))]
   have Bl:fA (μ.set k (true,li l)) (.cel k) (.int (-1))=some (.val (.int (g l (i-1)))):=by
    have h3:rd (μ.set k (true,li l)) (.cel k)=some (li l):=by rw[mK,hg];rfl
    rw[AQ h3]
    show (atI (l.map T.int) (-1)).map SV.val=_
    have hl:=hR.1
    have e1:ixN (l.map T.int).length (-1)=some (i-1):=by
     unfold ixN
     rw[List.length_map,hl,if_neg (by omega),if_pos (by omega)]
     congr 1
     omega
    unfold atI
    rw[e1,Option.bind_some,List.getElem?_map,List.getElem?_eq_getElem (by omega),vW _ _ (by omega)]
    rfl
   have b1:=hR.g0 hp0 (i-1)
   have hmu:aT (.int (g l (i-1))) (.int x)=some (.int (g l (i-1)*x)):=NI hp.2 b1
   have hls:p8 (.cel k) (μ.set k (true,li l))=some ():=qk hg
   have hap:appendAt (.cel k) (.int (g l (i-1)*x%p)) (μ.set k (true,li l))=some (μ.set k (true,li (l++[g l (i-1)*x%p]))):=by
    rw[append_at hg (by rw[List.length_map,hR.1];unfold szL;omega),List.set_set]
    simp[li]
   have eb:(cy (aa 10) (ah aP (ah aT (aC (aa 10) (dUn p7 (dC (.int 1)))) (aa 11)) (aa 2))) [a0,a1,some (.val (.int p)),a3,a4,some (.val (.int w)),a6,a7,a8,a9,some (.cel k),some (.val (.int x))] (μ.set k (true,li l))=.nx [a0,a1,some (.val (.int p)),a3,a4,some (.val (.int w)),a6,a7,a8,a9,some (.cel k),some (.val (.int x))] (μ.set k (true,li (l++[g l (i-1)*x%p]))):=by
    simp?! only[hls,Bl,hmu,ou,hap]
   rw[eb,Aw]
   exact⟨w-(i+1),Nat.sub_lt_sub_left hlt (Nat.lt_succ_self i),_,i+1,rfl,rfl,E.Rw.snoc hR (Int.emod_nonneg _ (Int.ne_of_gt hp0)) (Int.emod_lt_of_pos _ hp0),Nat.succ_pos i,hlt,rfl⟩
  ·rw[if_neg (by simp;omega)]
   have:i=w:=by omega
   subst this
   exact⟨l,rfl,hR⟩
 ·exact (List.ext_getElem? λj=>by
   by_cases e:k=j
   ·subst e;rw[List.getElem?_set_self hk,h]
   ·rw[List.getElem?_set_ne e])
theorem Ft{α:Type}(M ex:List α)(j:Nat)(v:α)(h:j<M.length):((M++ex).set j v)[j]?=some v∧((M++ex).set j v).take j=M.take j:=by
 refine⟨?_,?_⟩
 ·rw[List.getElem?_set_self (by rw[List.length_append];omega)]
 ·rw[List.take_set_of_le (Nat.le_refl j),List.take_append_of_le_length (Nat.le_of_lt h)]
theorem HV{d mn:Int}(h:0<mn∧mn≤5):0≤d%mn∧d%mn<5 :=
 ⟨Int.emod_nonneg d (by omega),Int.lt_of_lt_of_le (Int.emod_lt_of_pos d h.1) h.2⟩
def Lg:DS:=(cy (aa 8) (fZ [(ah aP (aa 3) (aa 7)),(dUn cL (aa 10))]))
theorem uF:pL=(az (aE 3 (aB (cal mh) [(aa 0),(ah bT (ah bT (aa 1) (dC (.int 1))) (aa 9))]))
 (az (aE 10 (aB (cal mZ) [(ah eD (aa 3) (dC (.int 100))),(aa 2),(aa 5),(aa 4)]))
 (az (sIf (ah fEq (ah aP (ah eD (aa 3) (dC (.int 10))) (dC (.int 5))) (dC (.int 1))) (az (aE 11 (ah aP (ah eD (aa 3) (dC (.int 100))) (aa 2)))
 (az (aE 10 (dI (fD [(dC (.int 1))])))
 Le)) bB)
 Lg))):=rfl
theorem HW(ns:List Int){p mn at_ k:Int}{w j:Nat}(hb:2≤p∧p≤97)(hp0:0<p)(hpz:p≠0)(hp1:p<1000000)(hp3:p<1073741824)(hw:0<w∧w≤12)(hw1:w≤1000)(hmn:0<mn∧mn≤5)(hm3:mn<1073741824)(bd:Bool)(h0:0≤at_+1+k)(h1:at_+1+k≤1000)(ts:List T)(hts:ts.length<szL)(M:af)(hM:M[j]?=some (true,.lst ts))(x3 x6 x10 x11:Option SV) :
  ∃(d:Int) (l:List Int) (c:Nat) (y:Option SV) (ex:af),pL [some (.val (.lst (ns.map T.int))),some (.val (.int at_)),some (.val (.int p)),x3,some (.val (.bl bd)),some (.val (.int w)),x6,some (.val (.int mn)),some (.cel j),some (.val (.int k)),x10,x11] M =
   .nx [some (.val (.lst (ns.map T.int))),some (.val (.int at_)),some (.val (.int p)),some (.val (.int d)),some (.val (.bl bd)),some (.val (.int w)),x6,some (.val (.int mn)),some (.cel j),some (.val (.int k)),some (.cel c),y] ((M++ex).set j (true,.lst (ts++[rt (d%mn,l)])))∧Rw p w l:=by
 obtain⟨d,hd⟩:=ji ns (at_+1+k) h0 h1
 obtain⟨r,hr,hR⟩:=Fs (d / 100) p w bd hp0 hp1 hw1 M
 have hr:mZ [.val (.int (d / 100)),.val (.int p),.val (.int w),.val (.bl bd)] M=.ok (.cel M.length) (M++[(true,li r)]):=hr
 have ou:∀a:Int,aP (.int a) (.int p)=some (.int (a%p)):=λa=>d_ _ _ hp0
 have NJ:∀a:Int,aP (.int a) (.int mn)=some (.int (a%mn)):=λa=>d_ _ _ hmn.1
 have hj:j<M.length:=(List.getElem?_eq_some_iff.mp hM).1
 have key:∀(ex:af) (c:Nat) (l:List Int) (y:Option SV),(M++ex)[c]?=some (true,li l) →
   Lg [some (.val (.lst (ns.map T.int))),some (.val (.int at_)),some (.val (.int p)),some (.val (.int d)),some (.val (.bl bd)),some (.val (.int w)),x6,some (.val (.int mn)),some (.cel j),some (.val (.int k)),some (.cel c),y] (M++ex) =
   .nx [some (.val (.lst (ns.map T.int))),some (.val (.int at_)),some (.val (.int p)),some (.val (.int d)),some (.val (.bl bd)),some (.val (.int w)),x6,some (.val (.int mn)),some (.cel j),some (.val (.int k)),some (.cel c),y] ((M++ex).set j (true,.lst (ts++[rt (d%mn,l)]))):=λex c l y hc=>by
  unfold Lg
  have g1:(M++ex)[j]?=some (true,T.lst ts):=by rw[List.getElem?_append_left hj];exact hM
  have hls:p8 (.cel j) (M++ex)=some ():=qk g1
  have hap:∀t,appendAt (.cel j) t (M++ex)=some ((M++ex).set j (true,T.lst (ts++[t]))):=λt=>append_at g1 hts
  simp?! only[hls,hap,NJ,hc]
  rfl
 cases hz:(d / 10%5==1) with
 | false =>
  refine⟨d,r,M.length,x11,[(true,li r)],?_,hR⟩
  have k1:=key [(true,li r)] M.length r x11 (iD ..)
  rw[uF]
  simp?! only[hd,hr,hz]
  exact k1
 | true =>
  have hN:(M++[(true,li r)]++[(true,li [1])])[(M++[(true,li r)]).length]?=some (true,li [1]):=iD ..
  obtain⟨l,hpw,hRl⟩:=Lf hb ⟨Int.emod_nonneg (d / 100) hpz,Int.emod_lt_of_pos (d / 100) hp0⟩ w hw (some (.val (.lst (ns.map T.int)))) (some (.val (.int at_))) (some (.val (.int d))) (some (.val (.bl bd))) x6 (some (.val (.int mn))) (some (.cel j)) (some (.val (.int k))) (M++[(true,li r)]).length (M++[(true,li r)]++[(true,li [1])]) hN
  have e1:(M++[(true,li r)]++[(true,li [1])]).set (M++[(true,li r)]).length (true,li l)=M++[(true,li r),(true,li l)]:=by rw[qm,List.append_assoc];rfl
  rw[e1] at hpw
  have k1:=key [(true,li r),(true,li l)] (M++[(true,li r)]).length l (some (.val (.int (d / 100%p)))) (by rw[show M++[(true,li r),(true,li l)]=(M++[(true,li r)])++[(true,li l)] from (List.append_assoc M [_] [_]).symm];exact iD ..)
  have l1:T.lst [.int 1]=li [1]:=rfl
  generalize hNN:M++[(true,li r)]=Nn at *
  refine⟨d,l,Nn.length,some (.val (.int (d / 100%p))),[(true,li r),(true,li l)],?_,hRl⟩
  rw[uF]
  simp?! only[hd,hr,hz,ou,l1,hpw]
  exact k1
theorem Cw{p:Int}{w:Nat}{rows:Rows}{h:Int}{l:List Int}(h3:∀q∈rows,Rw p w q.2)(h4:∀q∈rows,0≤q.1∧q.1<5)(hl:Rw p w l)(hh:0≤h∧h<5):(∀q∈rows++[(h,l)],Rw p w q.2)∧∀q∈rows++[(h,l)],0≤q.1∧q.1<5:=by
 constructor
 ·intro q hq
  rcases List.mem_append.mp hq with hq|hq
  ·exact h3 q hq
  ·cases List.mem_singleton.mp hq;exact hl
 ·intro q hq
  rcases List.mem_append.mp hq with hq|hq
  ·exact h4 q hq
  ·cases List.mem_singleton.mp hq;exact hh
theorem HX(ns:List Int){p mn at_:Int}{w m:Nat}(hP:ka p)(hw:0<w∧w≤6)(hmn:0<mn∧mn≤5)(hm:m≤11)(ha:0≤at_∧at_≤500)(bd:Bool)(c:Int)(μ:af):∃(rows:Rows),((az (aE 8 (dI (fD [])))
 (az (eJ (bp (aa 6)) (aL 9) pL)
 (aG (fZ [(aa 2),(aa 5),(dUn cL (aa 8))]))):DS) [some (.val (.lst (ns.map T.int))),some (.val (.int at_)),some (.val (.int p)),some (.val (.int c)),some (.val (.bl bd)),some (.val (.int w)),some (.val (.int m)),some (.val (.int mn)),none,none,none,none] μ).jo μ.length=.ok (.val (tb p w rows)) μ∧Tbl p w rows∧rows.length≤11∧∀q∈rows,0≤q.1∧q.1<5:=by
 have hb:=hP.pos
 have hp0:0<p:=Int.lt_of_lt_of_le (by decide) hb.1
 have rm:eG (m:Int)=true:=eI (by omega) (by omega)
 have hp0:0<p:=by omega
 have hpz:p≠0:=by omega
 have hp1:p<1000000:=by omega
 have hp3:p<1073741824:=by omega
 have hm3:mn<1073741824:=by omega
 have Sh:0<w∧w≤12:=by omega
 have hw1:w≤1000:=by omega
 have hsz:11<szL:=by decide
 obtain⟨e',μ',h1,rows,x3,x9,x10,x11,rfl,g1,g2,h2,h3,h4⟩:=gv (same:=λ_=>True) (b:=aL 9) (ts:=b7 0 (m:Int).toNat) (body:=pL)
  (I:=λi e μ1=>∃(rows:Rows),∃x3 x9 x10 x11,e=[some (.val (.lst (ns.map T.int))),some (.val (.int at_)),some (.val (.int p)),x3,some (.val (.bl bd)),some (.val (.int w)),some (.val (.int m)),some (.val (.int mn)),some (.cel μ.length),x9,x10,x11]∧μ1[μ.length]?=some (true,.lst (rows.map rt))∧μ1.take μ.length=μ∧rows.length=i∧(∀q∈rows,Rw p w q.2)∧∀q∈rows,0≤q.1∧q.1<5)
  (λ_ _ _ _=>trivial) (λi t e μ1 ht hI=>by
   obtain⟨rows,x3,x9,x10,x11,rfl,g1,g2,h2,h3,h4⟩:=hI
   obtain⟨k,rfl,hi,hk⟩:=qo ht
   have hi:i<m:=hi
   obtain⟨d,l,cc,y,ex,hs,hR⟩:=HW (at_:=at_) (k:=k) ns hb hp0 hpz hp1 hp3 Sh hw1 hmn hm3 bd (by omega) (by omega) (rows.map rt) (by rw[List.length_map,h2];exact Nat.lt_of_le_of_lt (by omega) hsz) μ1 g1 x3 (some (.val (.int m))) x10 x11
   have hkp:=Ft μ1 ex μ.length (true,T.lst (rows.map rt++[rt (d%mn,l)])) (List.getElem?_eq_some_iff.mp g1).1
   have hsn:=Cw h3 h4 hR (HV (d:=d) hmn)
   exact⟨_,_,_,rfl,hs,rows++[(d%mn,l)],_,_,_,_,rfl,by rw[hkp.1,List.map_append];rfl,hkp.2.trans g2,by rw[List.length_append,h2];rfl,hsn.1,hsn.2⟩)
  (e:=[some (.val (.lst (ns.map T.int))),some (.val (.int at_)),some (.val (.int p)),some (.val (.int c)),some (.val (.bl bd)),some (.val (.int w)),some (.val (.int m)),some (.val (.int mn)),some (.cel μ.length),none,none,none]) (μ:=μ++[(true,.lst [])]) ⟨[],_,none,none,none,rfl,iD ..,G0 ..,rfl,by simp,by simp⟩
 rw[eP,Int.toNat_natCast] at h2
 refine⟨rows,?_,⟨hP,hw.1,by omega,by omega,h3⟩,by omega,h4⟩
 simp?! only[rm,h1,g1,g2]
 rfl
def Fu:DS:=(sIf (ah fEq (ah aP (ah eD (aa 3) (dC (.int 280))) (dC (.int 8))) (dC (.int 5))) (az (aE 5 (ah bT (aa 5) (dC (.int 2))))
 (aE 6 (ah bT (aa 6) (dC (.int 5))))) bB)
def Lh:DS:=(az (aE 8 (dI (fD [])))
 (az (eJ (bp (aa 6)) (aL 9) pL)
 (aG (fZ [(aa 2),(aa 5),(dUn cL (aa 8))]))))
theorem zM:A5 =
 (az (aE 3 (aB (cal mh) [(aa 0),(aa 1)]))
 (az (aE 4 (ah fEq (ah aP (aa 3) (dC (.int 2))) (dC (.int 0))))
 (az (aE 5 (ah bT (dC (.int 1)) (ah aP (ah eD (aa 3) (dC (.int 2))) (dC (.int 4)))))
 (az (aE 6 (ah aP (ah eD (aa 3) (dC (.int 8))) (dC (.int 7))))
 (az (aE 7 (ah bT (dC (.int 1)) (ah aP (ah eD (aa 3) (dC (.int 56))) (dC (.int 5)))))
 (az Fu Lh)))))):=rfl
theorem Fv(x0 x1 x2 x4 x7 x8 x9 x10 x11:Option SV)(c:Int)(a b:Nat)(μ:af):∃a' b':Nat,Fu [x0,x1,x2,some (.val (.int c)),x4,some (.val (.int (1+a))),some (.val (.int b)),x7,x8,x9,x10,x11] μ=.nx [x0,x1,x2,some (.val (.int c)),x4,some (.val (.int (1+a':Nat))),some (.val (.int b')),x7,x8,x9,x10,x11] μ∧a'≤a+2∧b'≤b+5:=by
 unfold Fu
 cases hz:(c / 280%8==5) with
 | false=>exact⟨a,b,by simp?! only[hz];rfl,Nat.le_add_right _ _,Nat.le_add_right _ _⟩
 | true=>exact⟨a+2,b+5,by simp?! only[hz];rfl,Nat.le_refl _,Nat.le_refl _⟩
theorem sT(ns:List Int){p:Int}(hP:ka p)(at_:Int)(ha:0≤at_∧at_≤500)(μ:af) :
  ∃(w:Nat) (rows:Rows),fnV 12 A5 [.val (.lst (ns.map T.int)),.val (.int at_),.val (.int p)] μ=.ok (.val (tb p w rows)) μ∧Tbl p w rows∧w≤6∧rows.length≤11∧∀q∈rows,0≤q.1∧q.1<5:=by
 obtain⟨c,hc⟩:=ji ns at_ ha.1 (Int.le_trans ha.2 (by decide))
 generalize hbd:(c%2==0)=bd
 obtain⟨mn,hmn,Si⟩:∃mn:Int,1+c / 56%5=mn∧0<mn∧mn≤5:=⟨_,rfl,by omega⟩
 obtain⟨a,ha1,ha2⟩:=toNat_mod (c / 2) 4 (by decide)
 obtain⟨b,hb1,hb2⟩:=toNat_mod (c / 8) 7 (by decide)
 obtain⟨a',b',hif,ha3,hb3⟩:=Fv (some (.val (.lst (ns.map T.int)))) (some (.val (.int at_))) (some (.val (.int p))) (some (.val (.bl bd))) (some (.val (.int mn))) none none none none c a b μ
 obtain⟨rows,k1,k2,k3,k4⟩:=HX (w:=1+a') (m:=b') ns hP (by omega) Si (by omega) ha bd c μ
 refine⟨1+a',rows,?_,k2,by omega,k3,k4⟩
 rw[zM]
 simp?! only[hc,hbd,ha1,hb1,hmn,hif]
 exact k1
def b_p:DS :=
 (aG (aC (fD [(dC (.int 2)),(dC (.int 3)),(dC (.int 5)),(dC (.int 7)),(dC (.int 11)),(dC (.int 13)),(dC (.int 2)),(dC (.int 97))]) (ah aP (aa 0) (dC (.int 8)))))
theorem Li(c:Int):∃p,ka p∧∀μ,fnV 1 b_p [.val (.int c)] μ=.ok (.val (.int p)) μ:=by
 have h0:=Int.emod_nonneg c (show (8:Int)≠0 by omega)
 have h1:=Int.emod_lt_of_pos c (show (0:Int)<8 by omega)
 have key:∀x∈([2,3,5,7,11,13,2,97]:List Int),x∈([2,3,5,7,11,13,17,19,23,29,31,37,41,43,47,53,59,61,67,71,73,79,83,89,97]:List Int):=by decide +kernel
 have e:=j7 (xs:=([2,3,5,7,11,13,2,97]:List Int)) (f:=T.int) (i:=c%8) h0 (by show c%8<(8:Nat);omega)
 refine⟨_,key _ (List.getElem_mem (by show (c%8).toNat<8;omega)),λμ=>?_⟩
 unfold b_p
 simp only[List.map_cons,List.map_nil] at e
 simp?! only[e]
theorem HY(i k:Int)(h0:0≤k)(h1:k≤64):wH (.int i) (.int k)=some (.int (i / 2 ^ k.toNat)):=if_pos ⟨h0,h1⟩
def zN:DS :=
 (aG (bo (bp (cQ (aC (aa 0) (dC (.int 2))))) [none,some 1,some 0] (aL 0) (ah fIn (aC (aC (aC (aa 2) (dC (.int 2))) (aa 0)) (dC (.int 0))) (aa 1)) (aa 0)))
theorem v7{p:Int}{w:Nat}{rows:Rows}(hn:rows.length≤24)(bx:List Int)(y:SV)(μ:af)(h2:rd μ y=some (li bx)) :
  fnV 2 zN [.val (tb p w rows),y] μ=.ok (.val (li (nums (rowsOf rows bx)))) μ:=by
 have Sj:(List.map rt rows).length=rows.length:=List.length_map ..
 have rn:eG (rows.length:Int)=true:=eI (by omega) (by omega)
 have ln:(b7 0 (rows.length:Int).toNat).length≤szL:=by rw[eP];unfold szL;omega
 have e12:cV (λ_=>True) (aL 0) (ah fIn (aC (aC (aC (aa 2) (dC (.int 2))) (aa 0)) (dC (.int 0))) (aa 1)) (aa 0) [none,some y,some (.val (.tup [.int p,.int w,.tup (rows.map rt)]))] (b7 0 (rows.length:Int).toNat) μ=.ok ((nums (rowsOf rows bx)).map T.int) μ:=by
  have e0:b7 0 (rows.length:Int).toNat=(List.range rows.length).map λ(i:Nat)=>T.int (i:Int):=by rw[fH,iM,Int.toNat_natCast,List.map_map];rfl
  rw[e0,nM (λ(i:Nat)=>T.int (i:Int)) (λi=>decide ((b_ rows i).1∈bx)) (λ(i:Nat)=>T.int (i:Int)) trivial]
  ·rw[← zJ];rfl
  ·intro i hi
   have hi:=List.mem_range.mp hi
   have a1:atI (rows.map rt) (i:Int)=some (rt (b_ rows i)):=by
    rw[j7 (by omega) (by omega)]
    simp[b_,hi]
   refine⟨_,rfl,?_,λ_=>?_⟩
   ·simp?! only[a1,rt,h2,w5]
   ·simp?! only[]
 unfold zN tb
 simp?! only[Sj,rn,ln,e12]
theorem Fx{p:Int}{w:Nat}{l:List Int}(hR:Rw p w l)(hp:p≤97)(fs:List Int)(S:af→Prop)(μ:af)(hS:S μ) :
  cV S (dn [0,1]) (dC (.bl true)) (ah aT (aa 0) (aa 1)) [none,none] (i4 (l.map T.int) (fs.map T.int)) μ=.ok ((l.zip fs).map λq=>T.int (q.1*q.2)) μ:=by
 rw[lY,dq _ (λq:Int×Int=>.int (q.1*q.2)) hS]
 rintro⟨a,b⟩ hq
 have hm:=(List.of_mem_zip hq).1
 have b0:=hR.2 a hm
 have b1:=hR.3 a hm
 have:aT (.int a) (.int b)=some (.int (a*b)):=i6 _ _ (by omega) (by omega)
 refine⟨_,ee 0 1 _ _ _,?_⟩
 simp?! only[this]
def A6:DS :=
 (aG (kQ (dIs .int (aa 0)) (kQ (dz (dIs .bool (aa 0))) (kU fLe fLt (dC (.int 0)) (aa 0) (aa 1)))))
def lP:FN:=fnV 2 A6
theorem oF{p k:Int}(h0:0≤k)(h1:k<p)(μ:af):lP [.val (.int k),.val (.int p)] μ=.ok (.val (.bl true)) μ:=by
 unfold lP A6
 simp[isK,h0,h1]
theorem Fy{p:Int}{n:Nat}{r:List Int}(h:Rw p n r)(S:af→Prop)(μ:af)(hS:S μ) :
  cV S (aL 0) (dC (.bl true)) (aB (cal lP) [(aa 0),(aa 1)]) [none,some (.val (.int p))] (r.map T.int) μ=.ok (r.map λ_=>T.bl true) μ:=by
 rw[lX (λ_=>T.bl true) hS]
 intro k hk
 have:=oF (p:=p) (h.2 k hk) (h.3 k hk) μ
 refine⟨_,rfl,?_⟩
 simp?! only[this]
theorem all_true(r:List Int):nG (.lst (r.map λ_=>T.bl true))=some (.bl true):=by
 rw[DU (λ_=>true)]
 simp
def xS:DS:=(az (aE 7 (dUn qO (bo (p9 (aa 1) (aa 2)) [none,none,some 6,some 5] (dn [0,1]) (dC (.bl true)) (ah aT (aa 1) (aC (aC (aC (aa 3) (aa 0)) (dC (.int 1))) (aa 2))))))
 (sIf (ah fNe (ah aP (aa 7) (aa 3)) (dUn va (ah fEq (aa 6) (dC (.int 0))))) (aG (dC (.bl false))) bB))
def pM:DS :=
 (az (tj [3,4,5] (aa 0))
 (az (sIf (dOr (dz (dIs .list (aa 2))) (ah fNe (cQ (aa 2)) (cQ (aa 1)))) (aG (dC (.bl false))) bB)
 (az (sIf (dz (dUn nG (bo (eW (aa 2)) [none,some 3] (aL 0) (dC (.bl true)) (aB (cal lP) [(aa 0),(aa 1)])))) (aG (dC (.bl false))) bB)
 (az (eJ (bp (aa 4)) (aL 6) xS)
 (aG (dC (.bl true)))))))
theorem A7(rows:Rows)(j:Nat):∀(is:List Nat) (ms:List Int),ms.length=is.length→(((nums is).zip ms).map λq=>q.2*g (b_ rows q.1.toNat).2 j).sum=dot ms (col (linesAt rows is) j)
 | [],[],_=>rfl
 | [],_::_,h=>by simp at h
 | _::_,[],h=>by simp at h
 | i::is,m::ms,h=>by
  have:=A7 rows j is ms (by simpa using h)
  unfold nums linesAt col at this ⊢
  simp only[List.map_cons,List.zip_cons_cons,List.sum_cons,dot,this,Int.toNat_natCast]
theorem Lj{p:Int}(hp:1<p){w j:Nat}{a:Int}(h:p ∣ a-g (eu w 0) j):a%p=g (eu w 0) j:=by
 obtain⟨t,ht⟩:=h
 have hb:=(AV hp w 0).g0 (by omega) j
 rw[show a=g (eu w 0) j+p*t by omega,Int.add_mul_emod_self_left,Int.emod_eq_of_lt hb.1 hb.2]
theorem Sk(w j:Nat)(hw:0<w):g (eu w 0) j=if (j:Int)=0 then 1 else 0:=by
 rw[qt w hw]
 cases j with
 | zero=>rfl
 | succ j =>
  rw[eS,if_neg (by omega)]
  unfold g
  by_cases h:j<w-1<;>simp[h]
theorem xT{is:List Nat}{k:Int}(h:k∈nums is):∃i∈is,k=(i:Int):=by
 obtain⟨i,hi,rfl⟩:=List.mem_map.mp h
 exact⟨i,hi,rfl⟩
section
variable{p:Int}{w:Nat}{rows:Rows}{is:List Nat}
theorem Fz(hi:∀i∈is,i<rows.length){k:Int}(hk:k∈nums is):atI (rows.map rt) k=some (rt (b_ rows k.toNat))∧k.toNat<rows.length:=by
 obtain⟨i,hm,rfl⟩:=xT hk
 have hlt:=hi i hm
 refine⟨?_,by omega⟩
 rw[j7 (by omega) (by omega)]
 simp[b_,hlt]
theorem zO(H:Tbl p w rows)(hi:∀i∈is,i<rows.length)(hn:is.length≤24){ms:List Int}(hm:Rw p is.length ms)(h1:∀j,j<w→p ∣ dot ms (col (linesAt rows is) j)-g (eu w 0) j)(y:SV)(μ:af)(hy:Sq μ y ms)(his:isS .list μ y=some (.bl true)) :
  fnV 8 pM [.val (tb p w rows),.val (li (nums is)),y] μ=.ok (.val (.bl true)) μ:=by
 have hb:=H.pr.pos
 have hp0:0<p:=Int.lt_of_lt_of_le (by decide) hb.1
 have hw:=H.w1
 have hw0:=H.w0
 have hlen:=hy.len
 rw[hm.1] at hlen
 have ln:(nums is).length=is.length:=by unfold nums;rw[List.length_map]
 have ou:∀a:Int,aP (.int a) (.int p)=some (.int (a%p)):=λa=>d_ _ _ (by lia)
 have rw_:eG (w:Int)=true:=eI (by omega) (by omega)
 have lm:ms.length≤szL:=by rw[hm.1];unfold szL;omega
 have wh:=λS hS=>Fy hm S μ hS
 have hit:=hy.it
 obtain⟨e',μ',hf,x6,x7,rfl,rfl⟩:=gv (same:=λ_=>True) (b:=aL 6) (ts:=b7 0 (w:Int).toNat) (body:=xS)
  (I:=λi e μ1=>∃x6 x7,e=[some (.val (tb p w rows)),some (.val (li (nums is))),some y,some (.val (.int p)),some (.val (.int w)),some (.val (.tup (rows.map rt))),x6,x7]∧μ=μ1)
  (λ_ _ _ _=>trivial) (λj t e μ1 ht av=>by
   obtain⟨x6,x7,he,hμ⟩:=av
   subst he hμ
   obtain⟨k,rfl,hj,hk⟩:=qo ht
   have hj:j<w:=by simpa using hj
   have ek:k=(j:Int):=by omega
   subst ek
   have ez:∀S:af→Prop,S μ→cV S (dn [0,1]) (dC (.bl true)) (ah aT (aa 1) (aC (aC (aC (aa 3) (aa 0)) (dC (.int 1))) (aa 2))) [none,none,some (.val (.int j)),some (.val (.tup (rows.map rt)))] (i4 ((nums is).map T.int) (ms.map T.int)) μ=.ok (((nums is).zip ms).map λq=>T.int (q.2*g (b_ rows q.1.toNat).2 j)) μ:=λS hS=>by
    rw[lY,dq _ (λq:Int×Int=>T.int (q.2*g (b_ rows q.1.toNat).2 j)) hS]
    rintro⟨a,b⟩ hq
    obtain⟨m1,m2⟩:=List.of_mem_zip hq
    obtain⟨a1,a2⟩:=Fz hi m1
    have hR:=v9 H a2
    have b0:=hm.2 b m2
    have b1:=hm.3 b m2
    have a3:atI ((b_ rows a.toNat).2.map T.int) (j:Int)=some (.int (g (b_ rows a.toNat).2 j)):=by rw[atg (by lia) (by rw[hR.1];omega),Int.toNat_natCast]
    have hmu:aT (.int b) (.int (g (b_ rows a.toNat).2 j))=some (.int (b*g (b_ rows a.toNat).2 j)):=NI hb.2 ⟨b0,b1⟩
    refine⟨_,ee 0 1 _ _ _,?_⟩
    simp?! only[a1,rt,a3,hmu]
   have lz:(i4 ((nums is).map T.int) (ms.map T.int)).length≤szL:=by rw[nN,List.length_map,ln];unfold szL;omega
   have hs:qO (.lst (((nums is).zip ms).map λq=>T.int (q.2*g (b_ rows q.1.toNat).2 j)))=some (.int (dot ms (col (linesAt rows is) j))):=by rw[wZ,A7 rows j is ms hm.1]
   have NK:=Lj (by lia) (h1 j hj)
   rw[Sk w j hw0] at NK
   have hne:fNe (.int (if (j:Int)=0 then 1 else 0)) (.int (if ((j:Int)==0)=true then 1 else 0))=some (.bl false):=by
    rw[uX]
    by_cases h:(j:Int)=0<;>simp[h]
   refine⟨_,_,_,rfl,?_,some (.val (.int j)),some (.val (.int (dot ms (col (linesAt rows is) j)))),rfl,rfl⟩
   unfold xS
   simp?! only[hit]
   rw[ez _ (by simp)]
   simp?! only[lz,hs,ou,NK,hne])
  (e:=[some (.val (tb p w rows)),some (.val (li (nums is))),some y,some (.val (.int p)),some (.val (.int w)),some (.val (.tup (rows.map rt))),none,none]) (μ:=μ) ⟨none,none,rfl,rfl⟩
 unfold pM
 have s0:(tj [3,4,5] (aa 0)) (starts 8 [.val (tb p w rows),.val (li (nums is)),y]) μ=.nx [some (.val (tb p w rows)),some (.val (li (nums is))),some y,some (.val (.int p)),some (.val (.int w)),some (.val (.tup (rows.map rt))),none,none] μ:=by
  unfold tb
  simp?! only[]
 rw[dE,fU,s0,RS.ig]
 have fin:((eJ (bp (aa 4)) (aL 6) xS) [some (.val (tb p w rows)),some (.val (li (nums is))),some y,some (.val (.int p)),some (.val (.int w)),some (.val (.tup (rows.map rt))),none,none] μ)=.nx [some (.val (tb p w rows)),some (.val (li (nums is))),some y,some (.val (.int p)),some (.val (.int w)),some (.val (.tup (rows.map rt))),x6,x7] μ:=by
  simp?! only[rw_,hf]
 simp?! only[oR,his,hlen,List.length_map,ln,hit]
 rw[wh _ (by simp)]
 have fin2:forL (λ_=>True) (aL 6) xS (b7 0 (w:Int).toNat) [some (.val (tb p w rows)),some (.val (li (nums is))),some y,some (.val (.int p)),some (.val (.int w)),some (.val (.tup (rows.map rt))),none,none] μ=.nx [some (.val (tb p w rows)),some (.val (li (nums is))),some y,some (.val (.int p)),some (.val (.int w)),some (.val (.tup (rows.map rt))),x6,x7] μ:=hf
 simp?! only[List.length_map,lm,all_true,rw_,fin2]
def pN:DS :=
 (az (tj [3,4,5] (aa 0))
 (az (sIf (dOr (dz (dIs .tuple (aa 2))) (dOr (ah fNe (cQ (aa 2)) (aa 4)) (dz (dUn nG (bo (eW (aa 2)) [none,some 3] (aL 0) (dC (.bl true)) (aB (cal lP) [(aa 0),(aa 1)])))))) (aG (dC (.bl false))) bB)
 (az (sIf (ah fNe (aC (aa 2) (dC (.int 0))) (dC (.int 1))) (aG (dC (.bl false))) bB)
 (aG (dUn nG (bo (eW (aa 1)) [none,some 3,some 2,some 5] (aL 0) (dC (.bl true)) (ah fEq (ah aP (dUn qO (bo (p9 (aC (aC (aa 3) (aa 0)) (dC (.int 1))) (aa 2)) [none,none] (dn [0,1]) (dC (.bl true)) (ah aT (aa 0) (aa 1)))) (aa 1)) (dC (.int 0)))))))))
theorem zP(H:Tbl p w rows)(hi:∀i∈is,i<rows.length)(hn:is.length≤24){tv:List Int}(ht:Rw p w tv)(h1:∀l∈linesAt rows is,p ∣ dot l tv)(h2:g tv 0=1)(μ:af) :
  fnV 6 pN [.val (tb p w rows),.val (li (nums is)),.val (tu tv)] μ=.ok (.val (.bl true)) μ:=by
 have hb:=H.pr.pos
 have hp0:0<p:=Int.lt_of_lt_of_le (by decide) hb.1
 have hw:=H.w1
 have hw0:=H.w0
 have ou:∀a:Int,aP (.int a) (.int p)=some (.int (a%p)):=λa=>d_ _ _ (by lia)
 have it:isT .tuple (tu tv)=some (.bl true):=rfl
 have i0:atI (tv.map T.int) 0=some (.int 1):=by rw[atg (by lia) (by rw[ht.1];omega)];rw[show (0:Int).toNat=0 from rfl,h2]
 have ln:(tv.map T.int).length=w:=by rw[List.length_map,ht.1]
 have lm:(tv.map T.int).length≤szL:=by rw[ln];unfold szL;omega
 have wh:=Fy ht (λ_=>True) μ trivial
 have lw:w≤szL:=by unfold szL;omega
 have ec:cV (λ_=>True) (aL 0) (dC (.bl true)) (ah fEq (ah aP (dUn qO (bo (p9 (aC (aC (aa 3) (aa 0)) (dC (.int 1))) (aa 2)) [none,none] (dn [0,1]) (dC (.bl true)) (ah aT (aa 0) (aa 1)))) (aa 1)) (dC (.int 0))) [none,some (.val (.int p)),some (.val (tu tv)),some (.val (.tup (rows.map rt)))] ((nums is).map T.int) μ=.ok ((nums is).map λ_=>T.bl true) μ:=by
  rw[lX (λ_=>T.bl true) trivial]
  intro k hk
  obtain⟨a1,a2⟩:=Fz hi hk
  have hR:=v9 H a2
  have hz:=Fx hR hb.2 tv (λ_=>True) μ trivial
  have hlw:(b_ rows k.toNat).2.length=w:=hR.1
  have ls:(i4 ((b_ rows k.toNat).2.map T.int) (tv.map T.int)).length≤szL:=by rw[nN,List.length_map];unfold szL;omega
  have hd:dot (b_ rows k.toNat).2 tv%p=0:=by
   obtain⟨i,hm,rfl⟩:=xT hk
   rw[Int.toNat_natCast]
   exact Int.emod_eq_zero_of_dvd (h1 _ (List.mem_map.mpr ⟨i,hm,rfl⟩))
  have hs:qO (.lst (((b_ rows k.toNat).2.zip tv).map λq=>T.int (q.1*q.2)))=some (.int (dot (b_ rows k.toNat).2 tv)):=by rw[wZ,HL]
  refine⟨_,rfl,?_⟩
  simp?! only[a1,rt,and_self]
  rw[hz]
  simp?! only[ls,hs,ou,hd]
 have ls:((nums is).map T.int).length≤szL:=by unfold nums;rw[List.length_map,List.length_map];unfold szL;omega
 unfold pN
 have s0:(tj [3,4,5] (aa 0)) (starts 6 [.val (tb p w rows),.val (li (nums is)),.val (tu tv)]) μ=.nx [some (.val (tb p w rows)),some (.val (li (nums is))),some (.val (tu tv)),some (.val (.int p)),some (.val (.int w)),some (.val (.tup (rows.map rt)))] μ:=by
  unfold tb
  simp?! only[]
 rw[dE,fU,s0,RS.ig]
 simp?! only[oR,GK,it,ln,wh,lw,all_true,i0,ec,ls]
end
inductive Told(p:Int)(w:Nat)(lines:List (List Int))(μ:af)(x:SV):Prop where
 | opn (y:SV) (ms:List Int) (h0:fA μ x (.int 0)=some (.val (.str "open"))) (h1:fA μ x (.int 1)=some y) (hy:Sq μ y ms) (his:isS .list μ y=some (.bl true)) (hm:Rw p lines.length ms) (h:∀j,j<w→p ∣ dot ms (col lines j)-g (eu w 0) j)
 | xH (tv:List Int) (h0:fA μ x (.int 0)=some (.val (.str "shut"))) (h1:fA μ x (.int 1)=some (.val (tu tv))) (ht:Rw p w tv) (hs:∀l∈lines,p ∣ dot l tv) (h2:g tv 0=1)
theorem Lk:(("open":Str)=="open")=true:=by decide +kernel
theorem IS:(("shut":Str)=="open")=false:=by decide +kernel
def A8:FN:=fnV 2 zN
def sU:FN:=fnV 8 pM
def sV:FN:=fnV 6 pN
def oG:DS :=
 (az (sIf (dOr (dz (dIs .tuple (aa 2))) (ah fNe (cQ (aa 2)) (dC (.int 2)))) (aG (dC (.bl false))) bB)
 (az (aE 3 (aB (cal A8) [(aa 0),(aa 1)]))
 (az (sIf (ah fEq (aC (aa 2) (dC (.int 0))) (dC (.str "open"))) (aG (aB (cal sU) [(aa 0),(aa 3),(aC (aa 2) (dC (.int 1)))])) bB)
 (aG (kQ (ah fEq (aC (aa 2) (dC (.int 0))) (dC (.str "shut"))) (aB (cal sV) [(aa 0),(aa 3),(aC (aa 2) (dC (.int 1)))]))))))
theorem pJ(rows:Rows)(is:List Nat):(linesAt rows is).length=is.length:=by unfold linesAt;rw[List.length_map]
theorem gY{p:Int}{w:Nat}{rows:Rows}(H:Tbl p w rows)(bx:List Int)(x:SV)(μ:af)(hx:Told p w (linesAt rows (rowsOf rows bx)) μ x)(hlen:jn μ x=some (.int 2))(his:isS .tuple μ x=some (.bl true)) :
  fnV 4 oG [.val (tb p w rows),.val (li bx),x] μ=.ok (.val (.bl true)) μ:=by
 have hn:=H.n
 have hr:A8 [.val (tb p w rows),.val (li bx)] μ=.ok (.val (li (nums (rowsOf rows bx)))) μ:=v7 hn bx (.val (li bx)) μ rfl
 have hlt:∀i∈rowsOf rows bx,i<rows.length:=jV
 have h24:(rowsOf rows bx).length≤24:=Nat.le_trans (mY rows bx) hn
 unfold oG
 simp?! only[oR,his,hlen,hr]
 cases hx with
 | opn y ms h0 h1 hy Sl hm h =>
  rw[pJ] at hm
  have ho:sU [.val (tb p w rows),.val (li (nums (rowsOf rows bx))),y] μ=.ok (.val (.bl true)) μ:=zO H hlt h24 hm h y μ hy Sl
  simp?! only[h0,h1,ho]
 | xH tv h0 h1 ht hs h2 =>
  have ho:sV [.val (tb p w rows),.val (li (nums (rowsOf rows bx))),.val (tu tv)] μ=.ok (.val (.bl true)) μ:=zP H hlt h24 ht hs h2 μ
  simp?! only[h0,h1,IS,ho]
end Fw.K
namespace Fw.k83
open PySem Fw Fw.H Fw.E Fw.F Fw.Sets Fw.La
theorem ji(ns:List Int)(k:Int)(h0:0≤k)(h1:k≤1000):∃c,∀μ,bg [.val (.lst (ns.map T.int)),.val (.int k)] μ=.ok (.val (.int c)) μ:=K.ji ns k h0 h1
theorem Li(c:Int):∃p,ka p∧∀μ,jN [.val (.int c)] μ=.ok (.val (.int p)) μ:=K.Li c
theorem sT(ns:List Int){p:Int}(hP:ka p)(at_:Int)(ha:0≤at_∧at_≤500)(μ:af) :
  ∃(w:Nat) (rows:Rows),fK [.val (.lst (ns.map T.int)),.val (.int at_),.val (.int p)] μ=.ok (.val (tb p w rows)) μ∧Tbl p w rows∧w≤6∧rows.length≤11∧∀q∈rows,0≤q.1∧q.1<5:=K.sT ns hP at_ ha μ
theorem gY{p:Int}{w:Nat}{rows:Rows}(H:Tbl p w rows)(bx:List Int)(x:SV)(μ:af)(hx:K.Told p w (linesAt rows (rowsOf rows bx)) μ x)(hlen:jn μ x=some (.int 2))(his:isS .tuple μ x=some (.bl true)) :
  b6 [.val (tb p w rows),.val (li bx),x] μ=.ok (.val (.bl true)) μ:=K.gY H bx x μ hx hlen his
open Classical in
def ow(p:Int)(w:Nat)(rows:Rows)(s:List Int):Bool:=decide (Op p w rows s)
theorem pO{p:Int}{w:Nat}{rows:Rows}(s:List Int):ow p w rows s=true↔Op p w rows s:=by unfold ow;exact @decide_eq_true_iff _ (Classical.propDecidable _)
theorem HZ{p:Int}{w:Nat}{rows:Rows}(H:Tbl p w rows)(s:List Int)(μ:af):∃a t,jM [.val (tb p w rows),.val (li s)] μ=.ok (.val (.tup [.str a,t])) μ∧(a=="open")=ow p w rows s ∧
  b6 [.val (tb p w rows),.val (li s),.val (.tup [.str a,t])] μ=.ok (.val (.bl true)) μ:=by
 have i0:∀(x t:T) (μ:af),fA μ (.val (.tup [x,t])) (.int 0)=some (.val x):=λ_ _ _=>rfl
 have i1:∀(x t:T) (μ:af),fA μ (.val (.tup [x,t])) (.int 1)=some (.val t):=λ_ _ _=>rfl
 rcases F.K9 H s (.val (li s)) μ rfl with ⟨tv,h1,h2,h3,h4⟩|⟨ms,h1,h2,h3⟩
 ·refine⟨_,_,h1,?_,gY H s _ μ (.xH tv (i0 _ _ _) (i1 _ _ _) h2 h3 h4) rfl rfl⟩
  rw[K.IS]
  cases e:ow p w rows s with
  | true=>exact absurd ((pO s).mp e) (v_ H h3 h4)
  | false=>rfl
 ·refine⟨_,_,h1,?_,gY H s _ μ (.opn (.val (li ms)) ms (i0 _ _ _) (i1 _ _ _) (NH _ _) rfl h2 h3) rfl rfl⟩
  rw[K.Lk]
  exact ((pO s).mpr ⟨ms,h2.1,h3⟩).symm
theorem NL{n:Nat}(h:n≤5):2 ^ n≤32:=Nat.le_trans (Nat.pow_le_pow_right (by decide) h) (by decide)
theorem Ll{n:Nat}(h:n≤8):yw (.int 1) (.int (n:Int))=some (.int ((2 ^ n:Nat):Int)):=by
 have e:yw (.int 1) (.int (n:Int))=some (.int (1*2 ^ (n:Int).toNat)):=if_pos ⟨by omega,by omega⟩
 rw[e,Int.toNat_natCast,Int.one_mul]
 congr 2
theorem NM(k:Nat){h:Int}(h0:0≤h)(h1:h≤64)(e:Slots)(μ:af)(dk dh:D)(hk:dk e μ=.ok (.val (.int (k:Int))) μ)(hh:dh e μ=.ok (.val (.int h)) μ) :
  (ah fEq (ah j_ (ah wH dk dh) (dC (.int 1))) (dC (.int 1))) e μ=.ok (.val (.bl (decide ((k:Int) / 2 ^ h.toNat%2=1)))) μ:=by
 have f1:=K.HY (k:Int) h h0 h1
 have f2:=yR ((k:Int) / 2 ^ h.toNat)
 simp?! only[hk,hh,f1,f2]
 congr 3
theorem H_{n k:Nat}(hn:n≤8)(μ:af):cV (λ_=>True) (aL 0) (ah fEq (ah j_ (ah wH (aa 1) (aa 0)) (dC (.int 1))) (dC (.int 1))) (aa 0) [none,some (.val (.int (k:Int)))] (b7 0 n) μ=.ok ((bs n k).map T.int) μ:=by
 rw[fH,rA (λh=>decide ((k:Int) / 2 ^ h.toNat%2=1)) T.int trivial (fE 0 n)]
 ·rfl
 ·intro h hm
  have h0:=rq.mp hm
  exact⟨_,rfl,NM k (by omega) (by omega) _ μ _ _ rfl rfl,λ_=>rfl⟩
def wds(O:List Int→Bool)(n m:Nat):List T:=(List.range m).map λk=>T.bl (O (bs n k))
theorem FA(O:List Int→Bool)(n m:Nat):wds O n (m+1)=wds O n m++[T.bl (O (bs n m))]:=by simp[wds,List.range_succ]
def wdB:DS:=(az (aE 4 (bo (bp (aa 1)) [none,some 3] (aL 0) (ah fEq (ah j_ (ah wH (aa 1) (aa 0)) (dC (.int 1))) (dC (.int 1))) (aa 0)))
 (az (aE 5 (aB (cal jM) [(aa 0),(aa 4)]))
 (az (sIf (dz (aB (cal b6) [(aa 0),(aa 4),(aa 5)])) (aG (dC (.non))) bB)
 (cy (aa 2) (ah fEq (aC (aa 5) (dC (.int 0))) (dC (.str "open")))))))
theorem xU{p:Int}{w:Nat}{rows:Rows}(H:Tbl p w rows){n:Nat}(hn:n≤5)(μ:af):cX [.val (tb p w rows),.val (.int n)] μ=.ok (.val (.lst (wds (ow p w rows) n (2 ^ n)))) μ:=by
 have h8:=NL hn
 have sh:=Ll (n:=n) (by omega)
 have rwn:eG (n:Int)=true:=eI (by omega) (by omega)
 have lsn:(b7 0 n).length≤szL:=by rw[eP];unfold szL;omega
 generalize hN:2 ^ n=N at h8 sh ⊢
 have rw_:eG (N:Int)=true:=eI (by omega) (by omega)
 obtain⟨e',M',hf,x3,x4,x5,rfl,rfl⟩:=gv (same:=λ_=>True) (b:=aL 3) (ts:=b7 0 (N:Int).toNat) (body:=wdB)
  (I:=λi e M=>∃x3 x4 x5,e=[some (.val (tb p w rows)),some (.val (.int n)),some (.cel μ.length),x3,x4,x5]∧M=μ++[(true,.lst (wds (ow p w rows) n i))])
  (λ_ _ _ _=>trivial) (λi t e M ht av=>by
   obtain⟨x3,x4,x5,he,hM⟩:=av
   subst he hM
   obtain⟨k,rfl,hi,hk⟩:=qo ht
   have hi:i<N:=by simpa using hi
   have hk:k=(i:Int):=by omega
   subst hk
   have ec:=H_ (n:=n) (k:=i) (by omega) (μ++[(true,.lst (wds (ow p w rows) n i))])
   obtain⟨a,t,h1,h2,h3⟩:=HZ H (bs n i) (μ++[(true,.lst (wds (ow p w rows) n i))])
   have hls:p8 (.cel μ.length) (μ++[(true,.lst (wds (ow p w rows) n i))])=some ():=rj _ _ _ _
   have hap:=mL μ [] (wds (ow p w rows) n i) (.bl (ow p w rows (bs n i))) (by unfold wds szL;rw[List.length_map,List.length_range];omega)
   rw[← FA] at hap
   have lb:T.lst ((bs n i).map T.int)=li (bs n i):=rfl
   refine⟨_,_,μ++[(true,.lst (wds (ow p w rows) n (i+1)))],rfl,?_,some (.val (.int (i:Int))),some (.val (li (bs n i))),some (.val (.tup [.str a,t])),rfl,rfl⟩
   unfold wdB
   simp?! only[rwn,Int.toNat_natCast,lsn,ec,lb,h1,h3,h2,hls,hap])
  (e:=[some (.val (tb p w rows)),some (.val (.int n)),some (.cel μ.length),none,none,none]) (μ:=μ++[(true,.lst [])]) ⟨none,none,none,rfl,rfl⟩
 rw[eP,Int.toNat_natCast] at hf
 unfold cX
 rw[dE,zd,tH]
 unfold mQ
 simp?! only[]
 rw[tI,show mR=eJ (bp (ah yw (dC (.int 1)) (aa 1))) (aL 3) wdB from rfl]
 simp?! only[sh,rw_,Int.toNat_natCast,hf]
 rw[tJ]
 unfold mS
 simp?! only[AU]
section
variable{p:Int}{w:Nat}{rows:Rows}
theorem FC(H:Tbl p w rows)(n:Nat)(hn:0<n∧n≤5)(μ:af):∃d8:Rows,eQ [.val (tb p w rows),.val (.int n)] μ=.ok (.val (tb p w d8)) μ∧Tbl p w d8∧d8.length=rows.length∧∀q∈d8,0≤q.1∧q.1<(n:Int):=by
 have hr:=H.n
 have hmo:∀a,aP (.int a) (.int (n:Int))=some (.int (a%n)):=λa=>d_ _ _ (by omega)
 have ec:cV (λ_=>True) (dn [0,1]) (dC (.bl true)) (fZ [(ah aP (aa 0) (aa 2)),(aa 1)]) [none,none,some (.val (.int n))] (rows.map rt) μ=.ok ((rows.map λq=>(q.1%(n:Int),q.2)).map rt) μ:=by
  rw[dq rt (λq=>rt (q.1%(n:Int),q.2)) trivial,List.map_map]
  ·rfl
  ·intro q _
   refine⟨_,ee 0 1 _ _ _,?_⟩
   simp?! only[hmo]
   rfl
 have lr:(rows.map rt).length≤szL:=by rw[List.length_map];unfold szL;omega
 have i0:fA μ (.val (tb p w rows)) (.int 0)=some (.val (.int p)):=rfl
 have i1:fA μ (.val (tb p w rows)) (.int 1)=some (.val (.int w)):=rfl
 have i2:fA μ (.val (tb p w rows)) (.int 2)=some (.val (.tup (rows.map rt))):=rfl
 refine⟨rows.map λq=>(q.1%(n:Int),q.2),?_,⟨H.pr,H.w0,H.w1,by rw[List.length_map];exact hr,λq hq=>?_⟩,List.length_map _,λq hq=>?_⟩
 ·unfold eQ nX
  simp?! only[i0,i1,i2,lr,ec]
  rfl
 ·obtain⟨r,h,rfl⟩:=List.mem_map.mp hq
  exact H.li r h
 ·obtain⟨r,h,rfl⟩:=List.mem_map.mp hq
  exact⟨Int.emod_nonneg _ (by omega),Int.emod_lt_of_pos _ (by omega)⟩
end
end Fw.k83
namespace Fw.F
open PySem Fw Fw.H Fw.E
theorem NN(t:T)(n:Nat)(h:n≤1000):mr (.lst [t]) (.int (n:Int))=some (.lst (List.replicate n t)):=by
 have hz:([t]:List T).length*(n:Int).toNat≤szL:=by rw[List.length_singleton,Int.toNat_natCast];unfold szL;omega
 rw[AR _ _ ⟨by omega,by omega,hz⟩,Int.toNat_natCast,List.flatten_replicate_singleton]
def bU:FN:=fnV 5 E.fJ
section
variable{p:Int}{w:Nat}
end
theorem nn:(("none":Str)=="none")=true:=by decide +kernel
theorem on:(("one":Str)=="none")=false:=by decide +kernel
theorem an:(("any":Str)=="none")=false:=by decide +kernel
end Fw.F
namespace Fw.k83
open PySem Fw Fw.H Fw.E Fw.F Fw.Sets Fw.La
def opB:DS:=(aE 6 (bo (p9 (aa 6) (aa 8)) [none,none,some 3,some 2] (dn [0,1]) (dC (.bl true)) (ah aP (ah bT (aa 0) (ah aT (ah eD (aa 3) (dC (.int 9))) (aa 1))) (aa 2))))
section
variable{p:Int}{w:Nat}{rows:Rows}
theorem Cy(H:Tbl p w rows)(n:Nat)(hn:0<n∧n≤5)(hr:rows.length≤23)(hh:∀q∈rows,0≤q.1∧q.1<(n:Int))(c:Int)(μ:af):∃d8:Rows,eg [.val (tb p w rows),.val (.int n),.val (.int c)] μ=.ok (.val (tb p w d8)) μ∧Tbl p w d8∧d8.length=rows.length+1∧∀q∈d8,0≤q.1∧q.1<(n:Int):=by
 have hb:=H.pr.pos
 have hw0:=H.w0
 have hw1:=H.w1
 have hmo:∀a,aP (.int a) (.int p)=some (.int (a%p)):=λa=>d_ _ _ (by omega)
 have hmn:∀a,aP (.int a) (.int (n:Int))=some (.int (a%n)):=λa=>d_ _ _ (by omega)
 obtain⟨e',M',hf,x7,x8,due,rfl,rfl,hd⟩:=gv (same:=λ_=>True) (b:=dn [7,8]) (ts:=rows.map rt) (body:=opB)
  (I:=λi e M=>∃x7 x8 due,e=[some (.val (tb p w rows)),some (.val (.int n)),some (.val (.int c)),some (.val (.int p)),some (.val (.int w)),some (.val (.tup (rows.map rt))),some (.val (li due)),x7,x8]∧μ=M∧Rw p w due)
  (λ_ _ _ _=>trivial) (λi t e M ht av=>by
   obtain⟨x7,x8,due,he,hM,hd⟩:=av
   subst he hM
   rw[List.getElem?_map] at ht
   obtain⟨q,h1,rfl⟩:=Option.map_eq_some_iff.mp ht
   have hq:=H.li q (List.mem_of_getElem? h1)
   have ec:cV (λ_=>True) (dn [0,1]) (dC (.bl true)) (ah aP (ah bT (aa 0) (ah aT (ah eD (aa 3) (dC (.int 9))) (aa 1))) (aa 2)) [none,none,some (.val (.int p)),some (.val (.int c))] (i4 (due.map T.int) (q.2.map T.int)) μ=.ok (((due.zip q.2).map λz=>(z.1+c / 9*z.2)%p).map T.int) μ:=by
    rw[lY,dq _ (λz:Int×Int=>.int ((z.1+c / 9*z.2)%p)) trivial]
    ·rw[List.map_map];rfl
    ·rintro⟨a,b⟩ hz
     have hbb:=hq.3 b (List.of_mem_zip hz).2
     have hb0:=hq.2 b (List.of_mem_zip hz).2
     have fm:aT (.int (c / 9)) (.int b)=some (.int (c / 9*b)):=gR _ _ (by omega) (by omega)
     refine⟨_,ee 0 1 _ _ _,?_⟩
     simp?! only[fm,hmo]
   have ls:(i4 (due.map T.int) (q.2.map T.int)).length≤szL:=by rw[nN,List.length_map,hd.1];unfold szL;omega
   refine⟨_,_,μ,ee 7 8 _ _ _,?_,some (.val (.int q.1)),some (.val (tu q.2)),(due.zip q.2).map λz=>(z.1+c / 9*z.2)%p,rfl,rfl,?_⟩
   ·unfold opB
    simp?! only[and_self,ec,ls]
   ·refine⟨by rw[List.length_map,List.length_zip,hd.1,hq.1];omega,λa ha=>?_,λa ha=>?_⟩
    ·obtain⟨z,_,rfl⟩:=List.mem_map.mp ha
     exact Int.emod_nonneg _ (by omega)
    ·obtain⟨z,_,rfl⟩:=List.mem_map.mp ha
     exact Int.emod_lt_of_pos _ (by omega))
  (e:=[some (.val (tb p w rows)),some (.val (.int n)),some (.val (.int c)),some (.val (.int p)),some (.val (.int w)),some (.val (.tup (rows.map rt))),some (.val (li (eu w 0))),none,none]) (μ:=μ) ⟨none,none,eu w 0,rfl,rfl,AV (by omega) w 0⟩
 have bt:∀e,dn [3,4,5] (tb p w rows) e=some (((e.set 3 (some (.val (.int p)))).set 4 (some (.val (.int w)))).set 5 (some (.val (.tup (rows.map rt))))):=λe=>rfl
 have rp:mr (.lst [.int 0]) (.int ((w:Int)-1))=some (.lst ((List.replicate (w-1) 0).map T.int)):=by
  have:=NN (.int 0) (w-1) (by omega)
  rw[show ((w-1:Nat):Int)=(w:Int)-1 by omega] at this
  rw[this,List.map_replicate]
 have fa:bT (.lst [.int 1]) (.lst ((List.replicate (w-1) 0).map T.int))=some (li (eu w 0)):=by
  rw[nC _ _ (by simp[szL];omega),qt w hw0]
  rfl
 have ft:bT (.tup (rows.map rt)) (.tup [.tup [.int (c%n),tu due]])=some (.tup ((rows++[(c%(n:Int),due)]).map rt)):=by
  rw[Dr _ _ (by simp[szL];omega),List.map_append]
  rfl
 refine⟨rows++[(c%(n:Int),due)],?_,⟨H.pr,hw0,hw1,by simp;omega,λq hq=>?_⟩,by simp,λq hq=>?_⟩
 ·unfold eg
  rw[dE,xp,sa]
  unfold lq
  simp?! only[bt]
  rw[sd]
  unfold lu
  generalize hR:mr=rf at rp
  simp?! only[Gy,rp,fa]
  rw[se,show lx=eJ (eW (aa 5)) (dn [7,8]) opB from rfl]
  simp?! only[hf]
  rw[sf]
  unfold ly
  have ftu:cL (li due)=some (tu due):=rfl
  simp?! only[hmn,ftu,ft]
  rfl
 ·rcases List.mem_append.mp hq with hq|hq
  ·exact H.li q hq
  ·simp at hq;subst hq;exact hd
 ·rcases List.mem_append.mp hq with hq|hq
  ·exact hh q hq
  ·simp at hq;subst hq;exact⟨Int.emod_nonneg _ (by omega),Int.emod_lt_of_pos _ (by omega)⟩
theorem FD(H:Tbl p w rows)(is:List Nat)(hi:∀i∈is,i<rows.length)(hl:is.length≤100)(μ:af) :
  (∃tv,dN [.val (tb p w rows),.val (li (nums is))] μ=.ok (.val (.tup [.str "shut",tu tv])) μ∧(∀l∈linesAt rows is,p ∣ dot l tv)∧g tv 0=1) ∨
  ∃ms,dN [.val (tb p w rows),.val (li (nums is))] μ=.ok (.val (.tup [.str "open",li ms])) μ∧Rw p (linesAt rows is).length ms∧∀j,j<w→p ∣ dot ms (col (linesAt rows is) j)-g (eu w 0) j:=by
 have h:Opened p w (linesAt rows is) μ (fnK 3 eZ [.val (tb p w rows),.val (li (nums is))] μ):=AW H is hi hl (.val (li (nums is))) μ rfl
 unfold dN
 rw[j3] at h
 rw[dE]
 generalize eZ (starts 3 [.val (tb p w rows),.val (li (nums is))]) μ=r at h ⊢
 cases r with
 | rt x μ' =>
  rw[u4] at h
  rw[nI]
  generalize hq:R.ok x μ'=q at h
  cases h with
  | xH c tv h h1 h2 =>
   cases hq
   exact .inl ⟨tv,by simp[ice,frz,jI,sZ],h1,h2⟩
  | opn c ms h h1 =>
   cases hq
   exact .inr ⟨ms,by simp[ice,frz,jI,sZ],h,h1⟩
 | nx e μ'=>generalize hq:(RS.nx e μ').nH=q at h;cases h<;>cases hq
 | bk e μ'=>generalize hq:(RS.bk e μ').nH=q at h;cases h<;>cases hq
 | ct e μ'=>generalize hq:(RS.ct e μ').nH=q at h;cases h<;>cases hq
 | err c e μ'=>generalize hq:(RS.err c e μ').nH=q at h;cases h<;>cases hq
 | bad=>generalize hq:RS.bad.nH=q at h;cases h<;>cases hq
end
theorem xV(n:Nat)(c:T)(e:Slots)(μ:af):RS.jo n (.err c e μ)=.err c (μ.take n):=(rfl)
theorem A9(c:T)(e:Slots)(μ:af)(f:Slots→af→RS):(RS.err c e μ).seq f=.err c e μ:=(rfl)
theorem uG(n:Str)(e:Slots)(μ:af):vb n e μ=.err (.exc n none) e μ:=(rfl)
theorem Lm:(("open":Str)=="shut")=false:=by decide +kernel
theorem Ln:(("shut":Str)=="shut")=true:=by decide +kernel
section
variable{p:Int}{w:Nat}{rows:Rows}
theorem Lo(hp:0<p)(m i:Nat)(hi:i<m)(L:List (List Int))(hL:∀l∈L,l.length=m)(hl:L.length≤1000)(μ:af):aY [.val (.int p),.val (.lst (L.map li)),.val (.int (i:Int))] μ=.ok (.val (li ((col L i).map λx=>x%p))) μ:=by
 have hmo:∀a,aP (.int a) (.int p)=some (.int (a%p)):=λa=>d_ _ _ hp
 have ec:cV (λ_=>True) (aL 0) (dC (.bl true)) (ah aP (aC (aa 0) (aa 2)) (aa 1)) [none,some (.val (.int p)),some (.val (.int (i:Int)))] (L.map li) μ=.ok (((col L i).map λx=>x%p).map T.int) μ:=by
  rw[dq li (λl=>.int (g l i%p)) trivial]
  ·unfold col;rw[List.map_map,List.map_map];rfl
  ·intro l hm
   have a1:atI (l.map T.int) (i:Int)=some (.int (g l i)):=by rw[atg (by omega) (by rw[hL l hm];omega)];rfl
   refine⟨_,rfl,?_⟩
   simp?! only[a1,hmo]
 have ls:(L.map li).length≤szL:=by rw[List.length_map];unfold szL;omega
 unfold aY cz
 simp?! only[ls,ec]
theorem pP:linesAt rows (List.range rows.length)=rows.map (·.2):=by
 unfold linesAt
 apply List.ext_getElem?
 intro i
 rw[List.getElem?_map,List.getElem?_map]
 by_cases hi:i<rows.length
 ·rw[List.getElem?_range hi,List.getElem?_eq_getElem hi]
  simp[b_,hi]
 ·rw[List.getElem?_eq_none (by simp;omega),List.getElem?_eq_none (by omega)];rfl
theorem nso:bU=F.bU:=rfl
theorem Cz(H:Tbl p w rows)(μ:af) :
  (12<rows.length∧aJ [.val (tb p w rows)] μ=.err (.exc "TooMany" none) μ) ∨
  (rows.length≤12∧(∃tv,(∀l∈rows.map (·.2),p ∣ dot l tv)∧g tv 0=1)∧aJ [.val (tb p w rows)] μ=.err (.exc "NoFit" none) μ) ∨
  (rows.length≤12∧∃ls ns ms,gM p rows.length rows.length ls ns (cols w (rows.map (·.2)))∧ms.length=rows.length∧(∀j,j<w→p ∣ dot ms (col (rows.map (·.2)) j)-g (eu w 0) j) ∧
   aJ [.val (tb p w rows)] μ=.ok (.val (tb p ((freeOf rows.length ls).length+1) (gL p ls ms rows))) μ):=by
 have hb:=H.pr.pos
 have hn:=H.n
 have hw1:=H.w1
 have i0:fA μ (.val (tb p w rows)) (.int 0)=some (.val (.int p)):=rfl
 have i1:fA μ (.val (tb p w rows)) (.int 1)=some (.val (.int w)):=rfl
 have i2:fA μ (.val (tb p w rows)) (.int 2)=some (.val (.tup (rows.map rt))):=rfl
 have ll:jn μ (.val (.tup (rows.map rt)))=some (.int rows.length):=by rw[nF,List.length_map]
 unfold aJ
 rw[dE]
 by_cases h12:12<rows.length
 ·refine .inl ⟨h12,?_⟩
  have hq:decide ((12:Int)<(rows.length:Int))=true:=decide_eq_true (by omega)
  unfold fW
  simp?! only[i0,i2,ll,iA,hq,uG,A9,xV]
  rw[List.take_length]
 ·have hq:decide ((12:Int)<(rows.length:Int))=false:=decide_eq_false (by omega)
  have fr:G7 (.int (rows.length:Int))=some (li (nums (List.range rows.length))):=by
   show (if (eG (rows.length:Int) && decide ((rows.length:Int).toNat≤szL))=true then some (T.lst (b7 0 (rows.length:Int).toNat)) else none)=_
   rw[eI (by omega) (by omega),Int.toNat_natCast,decide_eq_true (show rows.length≤szL by unfold szL;omega),Bool.and_self,if_pos rfl,fH,iM]
   rfl
  have hr:∀i∈List.range rows.length,i<rows.length:=λi hi=>List.mem_range.mp hi
  rcases FD H (List.range rows.length) hr (by rw[List.length_range];omega) μ with ⟨tv,e,h1,h2⟩|⟨ms,e,h1,h2⟩
  ·refine .inr (.inl ⟨by omega,⟨tv,by rw[← pP];exact h1,h2⟩,?_⟩)
   unfold fW
   simp?! only[i0,i2,ll,iA,hq,fr,e,Ln,uG,A9,xV]
   rw[List.take_length]
  ·rw[pP] at h1 h2
   rw[List.length_map] at h1
   have hl:∀l∈rows.map (·.2),Rw p w l:=λl hl=>by
    obtain⟨q,hq,rfl⟩:=List.mem_map.mp hl
    exact H.li q hq
   have hla:b9 [.val (tb p w rows),.val (li (nums (List.range rows.length)))] μ=.ok (.val (.lst ((rows.map (·.2)).map tu))) μ:=by
    have:=xG (p:=p) (w:=w) (List.range rows.length) hr (by rw[List.length_range];omega) (.val (li (nums (List.range rows.length)))) μ rfl
    rw[pP] at this
    exact this
   obtain⟨ls,ns,hns,Ez⟩:=sR H.pr hl (by rw[List.length_map];omega) (by omega) (.val (.lst ((rows.map (·.2)).map tu))) μ rfl
   rw[List.length_map] at hns Ez
   have hnv:bU [.val (.int p),.val (.int w),.val (.lst ((rows.map (·.2)).map tu))] μ=.ok (.val (.lst ((freeOf rows.length ls).map λf=>li (nv p rows.length ls f)))) μ:=by
    rw[nso]
    unfold F.bU
    rw[dE,hns,nI]
    simp[ice]
   have ff:=xQ (p:=p) (by omega) H.w0 Ez h2 h1.1
   have fa:bT (.lst [li ms]) (.lst ((freeOf rows.length ls).map λf=>li (nv p rows.length ls f)))=some (.lst ((cls p rows.length ls ms).map li)):=by
    rw[nC _ _ (by simp[szL];omega)]
    unfold cls
    rw[List.map_cons,List.map_map]
    rfl
   have cl:(cls p rows.length ls ms).length=(freeOf rows.length ls).length+1:=by unfold cls;simp
   have cm:∀l∈cls p rows.length ls ms,l.length=rows.length:=λl hl=>by
    rcases List.mem_cons.mp hl with rfl|hl
    ·exact h1.1
    ·obtain⟨f,_,rfl⟩:=List.mem_map.mp hl
     exact (xJ (by omega) _ _ _).1
   have ec:cV (λ_=>True) (dn [0,1]) (dC (.bl true)) (fZ [(aC (aa 1) (dC (.int 0))),(dUn cL (aB (cal aY) [(aa 2),(aa 3),(aa 0)]))]) [none,none,some (.val (.int p)),some (.val (.lst ((cls p rows.length ls ms).map li)))] (g_ 0 (rows.map rt)) μ=.ok ((gL p ls ms rows).map rt) μ:=by
    rw[enum_rows,dq (λ(i:Nat)=>.tup [.int (i:Int),rt (b_ rows i)]) (λi=>rt ((b_ rows i).1,tln p rows.length ls ms i)) trivial]
    ·unfold gL;rw[List.map_map];rfl
    ·intro i hi
     have hi:=List.mem_range.mp hi
     have hnu:=Lo (p:=p) (by omega) rows.length i hi (cls p rows.length ls ms) cm (by rw[cl];omega) μ
     refine⟨_,ee 0 1 _ _ _,?_⟩
     unfold rt
     have ft:∀l:List Int,cL (li l)=some (tu l):=λ_=>rfl
     simp?! only[hnu,ft]
     rfl
   have le:(g_ 0 (rows.map rt)).length≤szL:=by rw[o7,List.length_map];unfold szL;omega
   have lc:jn μ (.val (.lst ((cls p rows.length ls ms).map li)))=some (.int ((freeOf rows.length ls).length+1:Nat)):=by rw[qM,List.length_map,cl]
   refine .inr (.inr ⟨by omega,ls,ns,ms,Ez,h1.1,h2,?_⟩)
   unfold fW hG
   simp?! only[i0,i1,i2,ll,iA,hq,fr,e,Lm,hla,hnv,fa,ec,le]
   rw[List.length_map,cl]
   rfl
end
theorem wb{f:Str→Option Bool}{d:D}{e:Slots}{μ μ1:af}{n:Str}{b:Bool}(h:d e μ=.ok (.val (.exc n none)) μ1)(hf:f n=some b):kL f d e μ=.ok (.val (.bl b)) μ1:=by
 unfold kL
 rw[h,R.bw]
 simp only[hf]
theorem Lp{b:DS}{g:Str→DS}{e:Slots}{μ μ':af}{x:SV}(h:b e μ=.rt x μ'):o8 b g e μ=.rt x μ':=by unfold o8;rw[h]
theorem qv{b:DS}{g:Str→DS}{e e':Slots}{μ μ':af}{n:Str}(h:b e μ=.err (.exc n none) e' μ'):o8 b g e μ=g n e' μ':=by unfold o8;rw[h]
theorem NO:¬ (("TooMany":Str)="NoFit"):=by decide +kernel
theorem mm:(("many":Str)=="many")=true:=by decide +kernel
theorem ff:(("fit":Str)=="fit")=true:=by decide +kernel
section
variable{t u:T}
theorem Ia(h:aJ [.val t] []=.ok (.val u) []):cA [.val t] []=.ok (.val u) []:=by
 have hb:(aG (aB aJ [(aa 0)])) [some (.val t),none] []=.rt (.val u) []:=by simp?! only[h]
 unfold cA ja
 rw[dE]
 show (o8 _ _ [some (.val t),none] []).jo 0=_
 rw[Lp hb]
 rfl
theorem FE(h:aJ [.val t] []=.err (.exc "NoFit" none) []):cA [.val t] []=.ok (.val (.str "fit")) []:=by
 have hb:(aG (aB aJ [(aa 0)])) [some (.val t),none] []=.err (.exc "NoFit" none) [some (.val t),none] []:=by
  simp?! only[h]
  rfl
 have g1:∀b,kL (λn=>if n="NoFit" then some b else none) (aa 1) [some (.val t),some (.val (.exc "NoFit" none))] []=.ok (.val (.bl b)) []:=λb=>wb rfl (if_pos rfl)
 unfold cA ja
 rw[dE]
 show (o8 _ _ [some (.val t),none] []).jo 0=_
 rw[qv hb]
 show ((if ("NoFit":Str)="NoFit" then _ else _:DS) [some (.val t),none] []).jo 0=_
 rw[if_pos rfl]
 unfold sAs hG
 simp?! only[g1]
 rfl
theorem CC(h:aJ [.val t] []=.err (.exc "TooMany" none) []):cA [.val t] []=.ok (.val (.str "many")) []:=by
 have hb:(aG (aB aJ [(aa 0)])) [some (.val t),none] []=.err (.exc "TooMany" none) [some (.val t),none] []:=by
  simp?! only[h]
  rfl
 have g1:∀b,kL (λn=>if n="TooMany" then some b else none) (aa 1) [some (.val t),some (.val (.exc "TooMany" none))] []=.ok (.val (.bl b)) []:=λb=>wb rfl (if_pos rfl)
 unfold cA ja
 rw[dE]
 show (o8 _ _ [some (.val t),none] []).jo 0=_
 rw[qv hb]
 show ((if ("TooMany":Str)="NoFit" then _ else if ("TooMany":Str)="TooMany" then _ else _:DS) [some (.val t),none] []).jo 0=_
 rw[if_neg NO,if_pos rfl]
 unfold sAs hG
 simp?! only[g1]
 rfl
theorem FF(h:aJ [.val t] []=.err (.exc "NoFit" none) []):bK [.val t,.val (.str "fit")] []=.ok (.val (.bl true)) []:=by
 have hb:(wL (aB aJ [(aa 0)])) [some (.val t),some (.val (.str "fit")),none] []=.err (.exc "NoFit" none) [some (.val t),some (.val (.str "fit")),none] []:=by
  simp?! only[h]
  rfl
 have g1:∀b,kL (λn=>if n="NoFit" then some b else none) (aa 2) [some (.val t),some (.val (.str "fit")),some (.val (.exc "NoFit" none))] []=.ok (.val (.bl b)) []:=λb=>wb rfl (if_pos rfl)
 unfold bK iS
 rw[dE,fU]
 show ((o8 _ _ [some (.val t),some (.val (.str "fit")),none] []).seq _).jo 0=_
 rw[qv hb]
 show (((if ("NoFit":Str)="NoFit" then _ else _:DS) [some (.val t),some (.val (.str "fit")),none] []).seq _).jo 0=_
 rw[if_pos rfl]
 unfold sAs hG
 simp?! only[xm,ff,g1]
 rfl
theorem CD(h:aJ [.val t] []=.err (.exc "TooMany" none) []):bK [.val t,.val (.str "many")] []=.ok (.val (.bl true)) []:=by
 have hb:(wL (aB aJ [(aa 0)])) [some (.val t),some (.val (.str "many")),none] []=.err (.exc "TooMany" none) [some (.val t),some (.val (.str "many")),none] []:=by
  simp?! only[h]
  rfl
 unfold bK iS
 rw[dE,fU]
 show ((o8 _ _ [some (.val t),some (.val (.str "many")),none] []).seq _).jo 0=_
 rw[qv hb]
 show (((if ("TooMany":Str)="NoFit" then _ else if ("TooMany":Str)="TooMany" then _ else _:DS) [some (.val t),some (.val (.str "many")),none] []).seq _).jo 0=_
 rw[if_neg NO,if_pos rfl]
 unfold hG
 simp?! only[xm,mm]
end
section
variable{p:Int}{w w':Nat}{rows d8:Rows}
theorem oF{k:Int}(h0:0≤k)(h1:k<p)(μ:af):bV [.val (.int k),.val (.int p)] μ=.ok (.val (.bl true)) μ:=K.oF h0 h1 μ
theorem xW(rs:Rows)(μ:af):cV (λ_=>True) (aL 0) (dC (.bl true)) (aC (aa 0) (dC (.int 0))) [none] (rs.map rt) μ=.ok ((rs.map (·.1)).map T.int) μ:=by
 rw[dq rt (λq=>T.int q.1) trivial,List.map_map]
 ·rfl
 ·intro q _
  refine⟨_,rfl,?_⟩
  unfold rt
  simp?! only[]
def itB:DS:=(az (sIf (dOr (dz (dIs .tuple (aa 2))) (dOr (ah fNe (cQ (aa 2)) (dC (.int 2))) (dOr (dz (dIs .tuple (aC (aa 2) (dC (.int 1))))) (ah fNe (cQ (aC (aa 2) (dC (.int 1)))) (aC (aa 0) (dC (.int 1))))))) (aG (dC (.bl false))) bB)
 (sIf (dz (dUn nG (bo (eW (aC (aa 2) (dC (.int 1)))) [none,some 0] (aL 0) (dC (.bl true)) (aB (cal bV) [(aa 0),(aC (aa 1) (dC (.int 0)))])))) (aG (dC (.bl false))) bB))
theorem Ib(H':Tbl p w' d8)(q:Int×List Int)(hq:q∈d8)(x1:Option SV):itB [some (.val (tb p w' d8)),x1,some (.val (rt q))] []=.nx [some (.val (tb p w' d8)),x1,some (.val (rt q))] []:=by
 have R:=H'.li q hq
 have hw1:=H'.w1
 have k1:isS .tuple [] (.val (rt q))=some (.bl true):=rfl
 have k2:jn [] (.val (rt q))=some (.int 2):=rfl
 have k3:fA [] (.val (rt q)) (.int 1)=some (.val (tu q.2)):=rfl
 have k4:isS .tuple [] (.val (tu q.2))=some (.bl true):=rfl
 have k5:jn [] (.val (tu q.2))=some (.int w'):=by unfold tu;rw[nF,List.length_map,R.1]
 have k6:fA [] (.val (tb p w' d8)) (.int 1)=some (.val (.int w')):=rfl
 have k7:fA [] (.val (tb p w' d8)) (.int 0)=some (.val (.int p)):=rfl
 have ec:cV (λ_=>True) (aL 0) (dC (.bl true)) (aB (cal bV) [(aa 0),(aC (aa 1) (dC (.int 0)))]) [none,some (.val (tb p w' d8))] (q.2.map T.int) []=.ok (q.2.map λ_=>T.bl true) []:=by
  rw[lX (λ_=>T.bl true) trivial]
  intro k hk
  have hwk:=oF (p:=p) (R.2 k hk) (R.3 k hk) []
  refine⟨_,rfl,?_⟩
  simp?! only[k7,hwk]
 have ls:(q.2.map T.int).length≤szL:=by rw[List.length_map,R.1];unfold szL;omega
 have is:cP (tu q.2)=some (q.2.map T.int):=rfl
 have fa:=K.all_true q.2
 have ww:((w':Int)==(w':Int))=true:=beq_self_eq_true _
 unfold itB
 simp?! only[oR,k1,k2,k3,k4,k5,k6,is,ls,ec,fa]
theorem xX(H':Tbl p w' d8)(hh:d8.map (·.1)=rows.map (·.1))(hl:rows.length≤24):dw [.val (tb p w' d8),.val (tb p w rows)] []=.ok (.val (.bl true)) []:=by
 have hw0:=H'.w0
 have hw1:=H'.w1
 have hn:=H'.n
 have a0:∀(v:Nat) (rs:Rows),fA [] (.val (tb p v rs)) (.int 0)=some (.val (.int p)):=λ_ _=>rfl
 have a1:∀(v:Nat) (rs:Rows),fA [] (.val (tb p v rs)) (.int 1)=some (.val (.int v)):=λ_ _=>rfl
 have a2:∀(v:Nat) (rs:Rows),fA [] (.val (tb p v rs)) (.int 2)=some (.val (.tup (rs.map rt))):=λ_ _=>rfl
 have k1:isS .tuple [] (.val (tb p w' d8))=some (.bl true):=rfl
 have k2:jn [] (.val (tb p w' d8))=some (.int 3):=rfl
 have k3:∀ts,isS .tuple [] (.val (.tup ts))=some (.bl true):=λ_=>rfl
 have k4:∀i,isS .int [] (.val (.int i))=some (.bl true):=λ_=>rfl
 have k5:∀i,isS .bool [] (.val (.int i))=some (.bl false):=λ_=>rfl
 have c1:=xW d8 []
 have c2:=xW rows []
 have l1:(d8.map rt).length≤szL:=by rw[List.length_map];unfold szL;omega
 have l2:(rows.map rt).length≤szL:=by rw[List.length_map];unfold szL;omega
 have ne:fNe (.lst ((d8.map (·.1)).map T.int)) (.lst ((rows.map (·.1)).map T.int))=some (.bl false):=by rw[qL,hh];simp
 have d1:decide ((1:Int)≤(w':Int))=true:=decide_eq_true (by omega)
 have d2:decide ((w':Int)≤12)=true:=decide_eq_true (by omega)
 obtain⟨e',M',hf,x2,rfl,rfl⟩:=gv (same:=λ_=>True) (b:=aL 2) (ts:=d8.map rt) (body:=itB)
  (I:=λi e M=>∃x2,e=[some (.val (tb p w' d8)),some (.val (tb p w rows)),x2]∧([]:af)=M)
  (λ_ _ _ _=>trivial) (λi t e M ht av=>by
   obtain⟨x2,he,hM⟩:=av
   subst he hM
   rw[List.getElem?_map] at ht
   obtain⟨q,h1,rfl⟩:=Option.map_eq_some_iff.mp ht
   exact⟨_,_,[],rfl,Ib H' q (List.mem_of_getElem? h1) _,some (.val (rt q)),rfl,rfl⟩)
  (e:=[some (.val (tb p w' d8)),some (.val (tb p w rows)),none]) (μ:=[]) ⟨none,rfl,rfl⟩
 have pp:∀a:Int,(!(a==a))=false:=λa=>by simp
 unfold dw
 rw[dE,tK,pd]
 unfold ju
 simp?! only[oR,k1,k2,a0,a2,k3]
 rw[pe]
 unfold jv
 simp?! only[oR,a1,k4,k5,By,d1,d2]
 rw[pf]
 unfold jw
 simp?! only[a2,l1,l2,c1,c2,ne]
 rw[pg,show jx=eJ (eW (aC (aa 0) (dC (.int 2)))) (aL 2) itB from rfl]
 simp?! only[a2,hf]
 rw[ph]
 unfold jy
 simp?! only[]
end
theorem xY(rows:Rows):∀k:Nat,(List.replicate k (rows.map rt)).flatten=(List.replicate k rows).flatten.map rt
 | 0=>rfl
 | k+1=>by rw[List.replicate_succ,List.flatten_cons,xY rows k,List.replicate_succ,List.flatten_cons,List.map_append]
theorem xZ{rows:Rows}{q:Int×List Int}:∀{k:Nat},q∈(List.replicate k rows).flatten→q∈rows
 | 0,h=>by simp at h
 | k+1,h=>by
  rw[List.replicate_succ,List.flatten_cons] at h
  rcases List.mem_append.mp h with h|h
  ·exact h
  ·exact xZ h
theorem NP(xs:List T)(i:Nat):D1 (.tup xs) none (some (i:Int))=some (.tup (xs.take i)):=by
 have e1:sIx xs.length xs.length (some (i:Int))=min i xs.length:=by unfold sIx;simp only;rw[if_neg (by omega),Int.toNat_natCast]
 show some (T.tup (oS xs none (some (i:Int))))=_
 unfold oS
 rw[e1,show sIx xs.length 0 none=0 from rfl,List.drop_zero,Nat.sub_zero]
 congr 2
 by_cases h:i≤xs.length
 ·rw[Nat.min_eq_left h]
 ·rw[Nat.min_eq_right (by omega),List.take_of_length_le (Nat.le_refl _),List.take_of_length_le (by omega)]
theorem Ic(rows:Rows):fNe (.tup (rows.map rt)) (.tup [])=some (.bl (!rows.isEmpty)):=by
 have ok:okT 100 (.tup (rows.map rt))=true:=by
  rw[uW,nD]
  intro t ht
  obtain⟨q,_,rfl⟩:=List.mem_map.mp ht
  unfold rt tu
  rw[uW,oO,oO,Dw,GC,uW,Bt]
  rfl
 rw[yA ok (by simp)]
 cases rows<;>simp
theorem wc(O:List Int→Bool)(n m:Nat):(wds O n m).length=m:=by simp[wds]
theorem Lq(O:List Int→Bool)(n m k:Nat)(h:k<m):atI (wds O n m) (k:Int)=some (.bl (O (bs n k))):=by
 rw[nK (by omega),Int.toNat_natCast]
 unfold wds
 rw[List.getElem?_map,List.getElem?_range h]
 rfl
theorem FG(O:List Int→Bool)(n m:Nat)(h:0<m):atI (wds O n m) (-1)=some (.bl (O (bs n (m-1)))):=by
 have e:ixN (wds O n m).length (-1)=some (m-1):=by
  unfold ixN
  rw[wc,if_neg (by omega),if_pos (by omega)]
  congr 1
  omega
 unfold atI
 rw[e,Option.bind_some]
 unfold wds
 rw[List.getElem?_map,List.getElem?_range (by omega)]
 rfl
theorem FH{n k:Nat}(hk:k<2 ^ n){h:Int}(h0:0≤h∧h<(n:Int)):h∈bs n k↔h∉bs n (2 ^ n-(k+1)):=by
 rw[zK,zK,Nat.testBit_two_pow_sub_succ hk,decide_eq_true (show h.toNat<n by omega),Bool.true_and]
 cases k.testBit h.toNat<;>simp[h0]
theorem Ie{n:Nat}{h:Int}(h0:0≤h∧h<(n:Int)):h∈bs n (2 ^ n-1):=by
 rw[zK,show 2 ^ n-1=2 ^ n-(0+1) from rfl,Nat.testBit_two_pow_sub_succ (Nat.two_pow_pos n),decide_eq_true (show h.toNat<n by omega)]
 exact⟨h0,by simp⟩
section
variable{p:Int}{w n:Nat}{rows:Rows}
theorem wd(H:Tbl p w rows)(h0:0<n∧n≤5)(hh:∀q∈rows,0≤q.1∧q.1<(n:Int))(x0 x1 x3:Option SV) :
  ∃μ',(vM [x0,x1,some (.val (.int n)),x3,some (.val (tb p w rows)),none,none,none] []).jo 0=.ok (.val (.bl true)) μ':=by
 have hn:=H.n
 have hb:=H.pr.pos
 have hN:=NL h0.2
 have hN0:=Nat.two_pow_pos n
 have hwd:=xU H h0.2 []
 have a2:fA [] (.val (tb p w rows)) (.int 2)=some (.val (.tup (rows.map rt))):=rfl
 have ll:jn [] (.val (.tup (rows.map rt)))=some (.int rows.length):=by rw[nF,List.length_map]
 have hnn:my (.lst (wds (ow p w rows) n (2 ^ n)))=some (.bl false):=rfl
 rw[Cd]
 unfold zk
 simp?! only[hwd]
 rw[Ce]
 unfold zl
 simp?! only[hnn]
 rw[Cf]
 unfold zm
 have inS:∀i,i<rows.length→(b_ rows i).1∈bs n (2 ^ n-1):=λi hi=>Ie (hh _ (by unfold b_;rw[List.getD_eq_getElem?_getD,List.getElem?_eq_getElem hi];exact List.getElem_mem hi))
 have wl:=FG (ow p w rows) n (2 ^ n) hN0
 rcases Cz H [] with ⟨h12,e⟩|⟨h12,⟨tv,t1,t2⟩,e⟩|⟨h12,ls,ns,ms,Ez,h1,h2,e⟩
 ·have et:=CC e
  have en:=CD e
  have hq:decide ((12:Int)<(rows.length:Int))=true:=decide_eq_true (by omega)
  simp?! only[et]
  rw[pj]
  unfold si
  refine⟨[],?_⟩
  simp?! only[a2,ll,iA,hq,mm,en]
 ·have et:=FE e
  have en:=FF e
  have hq:decide ((12:Int)<(rows.length:Int))=false:=decide_eq_false (by omega)
  have os:ow p w rows (bs n (2 ^ n-1))=false:=by
   cases q:ow p w rows (bs n (2 ^ n-1)) with
   | false=>rfl
   | true =>
    refine absurd ((pO _).mp q) (v_ H (tv:=tv) (λl hl=>?_) t2)
    obtain⟨i,hi,rfl⟩:=List.mem_map.mp hl
    have hi:=jV i hi
    refine t1 _ (List.mem_map.mpr ⟨b_ rows i,?_,rfl⟩)
    unfold b_;rw[List.getD_eq_getElem?_getD,List.getElem?_eq_getElem hi];exact List.getElem_mem hi
  rw[os] at wl
  simp?! only[et]
  rw[pj]
  unfold si
  simp?! only[a2,ll,iA,hq]
  rw[sj]
  unfold qp
  refine⟨[],?_⟩
  simp?! only[wl,ff,en]
 ·have et:=Ia e
  have hq:decide ((12:Int)<(rows.length:Int))=false:=decide_eq_false (by omega)
  have H':=uE H Ez h2 h1 h12
  have os:ow p w rows (bs n (2 ^ n-1))=true:=(pO _).mpr (A1 h1 (λi hi hx=>absurd (inS i hi) hx) h2)
  rw[os] at wl
  have hfs:(gL p ls ms rows).map (·.1)=rows.map (·.1):=by
   unfold gL
   rw[List.map_map]
   apply List.ext_getElem?
   intro i
   rw[List.getElem?_map,List.getElem?_map]
   by_cases hi:i<rows.length
   ·rw[List.getElem?_range hi,List.getElem?_eq_getElem hi]
    simp[b_,hi]
   ·rw[List.getElem?_eq_none (by simp;omega),List.getElem?_eq_none (by omega)];rfl
  have hit:=xX (w:=w) H' hfs hn
  have hw2:=xU H' h0.2 []
  have du:∀k,k<2 ^ n→ow p ((freeOf rows.length ls).length+1) (gL p ls ms rows) (bs n k)=!ow p w rows (bs n (2 ^ n-(k+1))):=λk hk=>by
   have d:=Sg H Ez h2 h1 h12 (S:=bs n k) (Sc:=bs n (2 ^ n-(k+1))) λq hq=>FH hk (hh q hq)
   rw[← pO,← pO] at d
   cases q1:ow p w rows (bs n (2 ^ n-(k+1))) with
   | true =>
    rw[q1] at d
    cases q2:ow p ((freeOf rows.length ls).length+1) (gL p ls ms rows) (bs n k) with
    | true=>exact absurd rfl (d.mp q2)
    | false=>rfl
   | false =>
    rw[q1] at d
    exact d.mpr Bool.false_ne_true
  generalize hO:ow p w rows=O at *
  generalize hO':ow p ((freeOf rows.length ls).length+1) (gL p ls ms rows)=O' at *
  have lw:jn [] (.val (.lst (wds O n (2 ^ n))))=some (.int ((2 ^ n:Nat):Int)):=by rw[qM,wc]
  have wa:=λk hk=>Lq O n (2 ^ n) k hk
  have wln:=wc O n (2 ^ n)
  generalize hW:wds O n (2 ^ n)=W at *
  have ed:wds O' n (2 ^ n)=(List.range (2 ^ n)).map λk=>T.bl (!O (bs n (2 ^ n-(k+1)))):=by
   unfold wds
   exact List.map_congr_left λk hk=>by rw[du k (List.mem_range.mp hk)]
  rw[ed] at hw2
  generalize 2 ^ n=N at *
  have rN:eG (N:Int)=true:=eI (by omega) (by omega)
  have lN:(b7 0 N).length≤szL:=by rw[eP];unfold szL;omega
  have ec:cV (λ_=>True) (aL 0) (dC (.bl true)) (dz (aC (aa 1) (ah oN (ah oN (cQ (aa 1)) (dC (.int 1))) (aa 0)))) [none,some (.val (.lst W))] (b7 0 N) []=.ok ((List.range N).map λk=>T.bl (!O (bs n (N-(k+1))))) []:=by
   rw[fH,iM,List.map_map]
   rw[show (List.map (T.int ∘ λ(i:Nat)=>(i:Int)) (List.range N))=(List.range N).map λ(i:Nat)=>T.int (i:Int) from rfl]
   rw[dq (λ(i:Nat)=>T.int (i:Int)) (λk=>T.bl (!O (bs n (N-(k+1))))) trivial]
   intro k hk
   have hk:=List.mem_range.mp hk
   have w1:=wa (N-(k+1)) (by omega)
   rw[show ((N-(k+1):Nat):Int)=(N:Int)-1-(k:Int) by omega] at w1
   refine⟨_,rfl,?_⟩
   simp?! only[wln,w1]
  have fe:fEq (.lst ((List.range N).map λk=>T.bl (!O (bs n (N-(k+1)))))) (.lst ((List.range N).map λk=>T.bl (!O (bs n (N-(k+1))))))=some (.bl true):=by
   have ok:okT 100 (.lst ((List.range N).map λk=>T.bl (!O (bs n (N-(k+1))))))=true:=by
    rw[GD,nD]
    intro t ht
    obtain⟨k,_,rfl⟩:=List.mem_map.mp ht
    exact J4 _ _
   rw[yx ok ok,wI 100 _ ok]
  simp?! only[et]
  rw[pj]
  unfold si
  simp?! only[a2,ll,iA,hq]
  rw[sj]
  unfold qp
  simp?! only[wl]
  rw[zw]
  unfold vF
  simp?! only[hit]
  rw[zx]
  unfold vG
  simp?! only[hw2]
  rw[zy]
  unfold vH
  refine⟨[],?_⟩
  generalize hR:(List.range N).map (λk=>T.bl (!O (bs n (N-(k+1)))))=RR at ec fe
  simp?! only[wln,rN,Int.toNat_natCast,lN,ec,fe]
theorem x_(ns:List Int)(H:Tbl p w rows)(hr:rows.length≤12)(h0:0<n∧n≤5)(hh:∀q∈rows,0≤q.1∧q.1<(n:Int))(x3:Option SV) :
  ∃μ',(vN [some (.val (.lst (ns.map T.int))),some (.val (.int p)),some (.val (.int n)),x3,some (.val (tb p w rows)),none,none,none] []).jo 0=.ok (.val (.bl true)) μ':=by
 obtain⟨c3,hc3⟩:=ji ns 3 (by decide) (by decide)
 obtain⟨b4,hb4,Su⟩:=toNat_mod (c3 / 8) 4 (by decide)
 have a1:fA [] (.val (tb p w rows)) (.int 1)=some (.val (.int w)):=rfl
 have a2:fA [] (.val (tb p w rows)) (.int 2)=some (.val (.tup (rows.map rt))):=rfl
 have ne:=Ic rows
 rw[Cc]
 unfold zj
 cases hq:(c3%8==5) with
 | false =>
  obtain⟨μ',k⟩:=wd H h0 hh (some (.val (.lst (ns.map T.int)))) (some (.val (.int p))) x3
  refine⟨μ',?_⟩
  rw[← k]
  simp?! only[hc3,hq]
 | true =>
  cases he:rows.isEmpty with
  | true =>
   obtain⟨μ',k⟩:=wd H h0 hh (some (.val (.lst (ns.map T.int)))) (some (.val (.int p))) x3
   refine⟨μ',?_⟩
   rw[← k]
   rw[he] at ne
   simp?! only[hc3,hq,a2,ne]
  | false =>
   rw[he] at ne
   have hne:rows≠[]:=λe=>by rw[e] at he;cases he
   have fr:rF (.tup (rows.map rt)) (.int 13)=some (.tup ((List.replicate 13 rows).flatten.map rt)):=by
    rw[w6 _ 13 ⟨by simpa using hne,by decide,by decide,by rw[List.length_map];show rows.length*13≤szL;unfold szL;omega⟩]
    rw[show (13:Int).toNat=13 from rfl,xY]
   have fc:=NP ((List.replicate 13 rows).flatten.map rt) (13+b4)
   rw[← List.map_take] at fc
   generalize hR:((List.replicate 13 rows).flatten.take (13+b4))=IT at fc
   have hm:∀q∈IT,q∈rows:=λq hq=>xZ (List.mem_of_mem_take (by rw[hR];exact hq))
   have H3:Tbl p w IT:=⟨H.pr,H.w0,H.w1,by rw[← hR,List.length_take];omega,λq hq=>H.li q (hm q hq)⟩
   obtain⟨μ',k⟩:=wd H3 h0 (λq hq=>hh q (hm q hq)) (some (.val (.lst (ns.map T.int)))) (some (.val (.int p))) x3
   refine⟨μ',?_⟩
   rw[← k]
   generalize (List.replicate 13 rows).flatten.map rt=FL at fr fc
   have e13:(13:Int)+(b4:Int)=((13+b4:Nat):Int):=by omega
   simp?! only[hc3,hq,a1,a2,ne,fr,hb4,D2,e13,fc]
   rfl
end
theorem holds(ns:List Int)(hl:ns.length≤63):∃μ',pk [.val (.lst (ns.map T.int))] []=.ok (.val (.bl true)) μ':=by
 obtain⟨c0,hc0⟩:=ji ns 0 (by decide) (by decide)
 obtain⟨c1,hc1⟩:=ji ns 1 (by decide) (by decide)
 obtain⟨c2,hc2⟩:=ji ns 2 (by decide) (by decide)
 obtain⟨p,hP,hp⟩:=Li c0
 obtain⟨w,rows0,ht,H0,_,hr0,_⟩:=sT ns hP 10 (by decide) []
 obtain⟨b5,hb5,Sv⟩:=toNat_mod c1 5 (by decide)
 obtain⟨rows,hbl,H,hrl,hh⟩:=FC H0 (1+b5) (by omega) []
 have pw:Du (.int 10) (.int 9)=some (.int 1000000000):=rfl
 have en:(1:Int)+(b5:Int)=((1+b5:Nat):Int):=by omega
 show ∃μ',(EK (starts 8 [.val (.lst (ns.map T.int))]) []).jo 0=_
 rw[KD,B8]
 unfold ze
 simp?! only[hc0,hp]
 rw[B9]
 unfold zf
 simp?! only[hc1,hb5,en]
 rw[B_]
 unfold zg
 simp?! only[hc2,pw]
 rw[Ca]
 unfold zh
 simp?! only[ht,hbl]
 rw[Cb]
 unfold zi
 cases hq:decide ((0:Int)<c2%1000000000%3) with
 | false =>
  simp?! only[iA,hq]
  exact x_ ns H (by omega) (by omega) hh _
 | true =>
  obtain⟨Sm,ho,H2,hr2,hh2⟩:=Cy H (1+b5) (by omega) (by omega) hh (c2%1000000000 / 3) []
  simp?! only[iA,hq,ho]
  exact x_ ns H2 (by omega) (by omega) hh2 _
end Fw.k83
open PySem PySem.W PyProof.Rows
namespace PySem.W.Fast
theorem tw11820036128089990908 : True := trivial
theorem te2977495431082169396 : True := trivial
theorem tw1849697124199799673 : True := trivial
theorem tw17219290444240266064 : True := trivial
theorem tw17559181707443294649 : True := trivial
theorem tw2480563121981247222 : True := trivial
theorem tw11340047663562963859 : True := trivial
theorem tw11971923000561242846 : True := trivial
theorem tw2488947401708897327 : True := trivial
theorem tw9807229401810142039 : True := trivial
theorem tw9180621006999534587 : True := trivial
theorem tw1899068509859426064 : True := trivial
theorem tw15402467398586036318 : True := trivial
theorem tw9894410148512333248 : True := trivial
theorem tw6208364837874088483 : True := trivial
theorem tw16246614967868459823 : True := trivial
theorem tw7000415015031066378 : True := trivial
theorem tw16680024032157478098 : True := trivial
theorem tw8182499983422734008 : True := trivial
theorem tw17644819445016573006 : True := trivial
theorem tw2397827122048202995 : True := trivial
theorem tw6684323480977397106 : True := trivial
theorem tw13598683183407415784 : True := trivial
theorem tw2433949261578726430 : True := trivial
theorem tw15333889498396933486 : True := trivial
theorem tw9676280037445610650 : True := trivial
theorem tw9719352453893887158 : True := trivial
theorem tw10688893327079477813 : True := trivial
theorem tw8887495053312483243 : True := trivial
theorem tw16834927422242120555 : True := trivial
theorem tw2165044085292893680 : True := trivial
theorem tw14630375352966216967 : True := trivial
theorem tw10376223976418364076 : True := trivial
theorem tw12300816416598547631 : True := trivial
theorem tw4472240026838908096 : True := trivial
theorem tw5348820831710432827 : True := trivial
theorem tw7122640861938351746 : True := trivial
theorem tw6164314118217554965 : True := trivial
theorem tw5536495309149269258 : True := trivial
theorem tw17343400033753402806 : True := trivial
theorem tw10111560820541802261 : True := trivial
theorem tw10624991650168303959 : True := trivial
theorem tw9415121227837308879 : True := trivial
end PySem.W.Fast
set_option maxRecDepth 100000 in
set_option maxHeartbeats 0 in
theorem PySem.Challenge.cw_fewopen_k83_tables_turned_about_holds : PySem.Challenge.rw_fewopen_k83_tables_turned_about.Holds := by
 w_on;o_law;k_head;(case hw=>w_witness2)
 k_fill
 refine Fw.k83.walk (l:=PySem.Challenge.rw_fewopen_k83_tables_turned_about) rfl rfl Fw.k83.holds (λw h Y=>PySem.W.kIn_of Y) ?F
 case F =>
  intro w mg fa h KX G hmg
  refine' Fw.k83.all_mk KX G hmg ?a0 ?l0 ?c0 ?k0 ?a1 ?l1 ?c1 ?k1 ?a2 ?l2 ?c2 ?k2 ?a3 ?l3 ?c3 ?k3 ?a4 ?l4 ?c4 ?k4 ?a5 ?l5 ?c5 ?k5 ?a6 ?l6 ?c6 ?k6 ?a7 ?l7 ?c7 ?k7 ?a8 ?l8 ?c8 ?k8 ?a9 ?l9 ?c9 ?k9 ?a10 ?l10 ?c10 ?k10 ?a11 ?l11 ?c11 ?k11 ?a12 ?l12 ?c12 ?k12 ?a13 ?l13 ?c13 ?k13 ?a14 ?l14 ?c14 ?k14 ?a15 ?l15 ?c15 ?k15 ?a16 ?l16 ?c16 ?k16 ?a17 ?l17 ?c17 ?k17 ?a18 ?l18 ?c18 ?k18 ?a19 ?l19 ?c19 ?k19 ?a20 ?l20 ?c20 ?k20 ?a21 ?l21 ?c21 ?k21 ?a22 ?l22 ?c22 ?k22 ?a23 ?l23 ?c23 ?k23 ?a24 ?l24 ?c24 ?k24 ?a25 ?l25 ?c25 ?k25 ?a26 ?l26 ?c26 ?k26 ?a27 ?l27 ?c27 ?k27 ?a28 ?l28 ?c28 ?k28 ?a29 ?l29 ?c29 ?k29 ?a30 ?l30 ?c30 ?k30 ?a31 ?l31 ?c31 ?k31 ?a32 ?l32 ?c32 ?k32 ?z0 ?z1 ?z2 ?z3 ?z4 ?z5 ?z6 ?z7 ?z8 ?z9 ?z10 ?z11 ?y0 ?x0 ?x1 ?x2 ?x3 ?x4 ?x5 ?x6 ?x7 ?x8 ?x9 ?x10 ?x11 ?x12 ?x13 ?x14 ?x15 ?x16 ?x17 ?x18 ?x19 ?x20 ?x21 ?x22 ?x23 ?x24 ?x25 ?x26 ?x27 ?x28 ?x29 ?x30 ?x31 ?x32 ?x33
  (case a0=>k_is)
  (case l0=>k_is)
  (case c0=>k_is)
  (case k0=>k_is)
  (case a1=>k_is)
  (case l1=>k_is)
  (case c1=>k_is)
  (case k1=>k_is)
  (case a2=>k_is)
  (case l2=>k_is)
  (case c2=>k_is)
  (case k2=>k_is)
  (case a3=>k_is)
  (case l3=>k_is)
  (case c3=>k_is)
  (case k3=>k_is)
  (case a4=>k_is)
  (case l4=>k_is)
  (case c4=>k_is)
  (case k4=>k_is)
  (case a5=>k_is)
  (case l5=>k_is)
  (case c5=>k_is)
  (case k5=>k_is)
  (case a6=>k_is)
  (case l6=>k_is)
  (case c6=>k_is)
  (case k6=>k_is)
  (case a7=>k_is)
  (case l7=>k_is)
  (case c7=>k_is)
  (case k7=>k_is)
  (case a8=>k_is)
  (case l8=>k_is)
  (case c8=>k_is)
  (case k8=>k_is)
  (case a9=>k_is)
  (case l9=>k_is)
  (case c9=>k_is)
  (case k9=>k_is)
  (case a10=>k_is)
  (case l10=>k_is)
  (case c10=>k_is)
  (case k10=>k_is)
  (case a11=>k_is)
  (case l11=>k_is)
  (case c11=>k_is)
  (case k11=>k_is)
  (case a12=>k_is)
  (case l12=>k_is)
  (case c12=>k_is)
  (case k12=>k_is)
  (case a13=>k_is)
  (case l13=>k_is)
  (case c13=>k_is)
  (case k13=>k_is)
  (case a14=>k_is)
  (case l14=>k_is)
  (case c14=>k_is)
  (case k14=>k_is)
  (case a15=>k_is)
  (case l15=>k_is)
  (case c15=>k_is)
  (case k15=>k_is)
  (case a16=>k_is)
  (case l16=>k_is)
  (case c16=>k_is)
  (case k16=>k_is)
  (case a17=>k_is)
  (case l17=>k_is)
  (case c17=>k_is)
  (case k17=>k_is)
  (case a18=>k_is)
  (case l18=>k_is)
  (case c18=>k_is)
  (case k18=>k_is)
  (case a19=>k_is)
  (case l19=>k_is)
  (case c19=>k_is)
  (case k19=>k_is)
  (case a20=>k_is)
  (case l20=>k_is)
  (case c20=>k_is)
  (case k20=>k_is)
  (case a21=>k_is)
  (case l21=>k_is)
  (case c21=>k_is)
  (case k21=>k_is)
  (case a22=>k_is)
  (case l22=>k_is)
  (case c22=>k_is)
  (case k22=>k_is)
  (case a23=>k_is)
  (case l23=>k_is)
  (case c23=>k_is)
  (case k23=>k_is)
  (case a24=>k_is)
  (case l24=>k_is)
  (case c24=>k_is)
  (case k24=>k_is)
  (case a25=>k_is)
  (case l25=>k_is)
  (case c25=>k_is)
  (case k25=>k_is)
  (case a26=>k_is)
  (case l26=>k_is)
  (case c26=>k_is)
  (case k26=>k_is)
  (case a27=>k_is)
  (case l27=>k_is)
  (case c27=>k_is)
  (case k27=>k_is)
  (case a28=>k_is)
  (case l28=>k_is)
  (case c28=>k_is)
  (case k28=>k_is)
  (case a29=>k_is)
  (case l29=>k_is)
  (case c29=>k_is)
  (case k29=>k_is)
  (case a30=>k_is)
  (case l30=>k_is)
  (case c30=>k_is)
  (case k30=>k_is)
  (case a31=>k_is)
  (case l31=>k_is)
  (case c31=>k_is)
  (case k31=>k_is)
  (case a32=>k_is)
  (case l32=>k_is)
  (case c32=>k_is)
  (case k32=>k_is)
  (case z0=>k_is)
  (case z1=>k_is)
  (case z2=>k_is)
  (case z3=>k_is)
  (case z4=>k_is)
  (case z5=>k_is)
  (case z6=>k_is)
  (case z7=>k_is)
  (case z8=>k_is)
  (case z9=>k_is)
  (case z10=>k_is)
  (case z11=>k_is)
  (case y0=>k_is)
  (case x0=>k_is)
  (case x1=>k_is)
  (case x2=>k_is)
  (case x3=>k_exc)
  (case x4=>k_is)
  (case x5=>k_is)
  (case x6=>k_is)
  (case x7=>k_is)
  (case x8=>k_is)
  (case x9=>k_is)
  (case x10=>k_exc)
  (case x11=>k_is)
  (case x12=>k_is)
  (case x13=>k_is)
  (case x14=>k_is)
  (case x15=>k_is)
  (case x16=>k_is)
  (case x17=>k_exc)
  (case x18=>k_is)
  (case x19=>k_is)
  (case x20=>k_is)
  (case x21=>k_is)
  (case x22=>kit_is)
  (case x23=>kit_is)
  (case x24=>kit_is)
  (case x25=>kit_is)
  (case x26=>k_is)
  (case x27=>kit_is)
  (case x28=>kit_is)
  (case x29=>kit_is)
  (case x30=>kit_is)
  (case x31=>k_is)
  (case x32=>k_is)
  (case x33=>k_is)
