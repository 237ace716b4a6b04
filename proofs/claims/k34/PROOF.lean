import PyProof.Rows.All
import Wide.All
import OpenK.AllK
import Wide.FinOn
import Lean
import PyProof.EqAt
import PyProof.EqKinds
import PyProof.TupleCall
import PyProof.NeData
import PyProof.P3Eq
import PyProof.ConsumeWalk
import PyProof.ZipIter
import PyProof.DictItemsLoops
import KE.KDictList
import KE.KPairComp
import PyProof.Draws
import PyProof.EnumMake
import PyProof.EnumFor
import PyProof.ListRange
import PyProof.ListMulAny
import KE.KRevIter
import PyProof.Rows.SortShell
import PyProof.ListNew
import KE.KDictIter
import PyProof.DictWalks
import PyProof.StrCalls2
import KE.KSortAsk
import KE.KEqDict
import PyProof.StrCalls3
import PyProof.FString
import PyProof.Rows.FStr
import PyProof.CallType
import PyProof.EnumStmt
import PyProof.Rows.CallKwBuiltin
import PyProof.StrLaws
import PyProof.StrLawsIn
import PySem.Challenge.RW_fewopen_k34_whole_tables_keep_their_rule
set_option compiler.extract_closed false
set_option bootstrap.genMatcherCode false
set_option genSizeOf false
set_option Elab.async false
set_option linter.all false
set_option maxRecDepth 100000
noncomputable section
namespace L2
open PySem PySem.Spec PyProof.Rows
abbrev Key:=Sum Int Str
def pY:Key→Value→Bool
 | .inl k,v=>Value.isInt k v
 | .inr x,v=>Value.isStrOf x v
def OQ(w:World):Key→Int
 | .inl k=>hashInt k
 | .inr x=>hashStr w x
theorem ck:∀{k:Key}{v:Value},pY k v=true→(∃i t,k=Sum.inl i∧v=Value.int i t)∨(∃x t,k=Sum.inr x∧v=Value.str x t)
 | .inl i,v,h=>by
  obtain⟨t,e⟩:=Value.isInt_shape (k:=i) (v:=v) h
  exact .inl ⟨i,t,rfl,e⟩
 | .inr x,v,h=>by
  obtain⟨t,e⟩:=Value.isStrOf_shape (x:=x) (v:=v) h
  exact .inr ⟨x,t,rfl,e⟩
theorem Bo(i:Int)(t:Tok):pY (.inl i) (.int i t)=true:=by simp[pY,Value.isInt]
theorem Bp(x:Str)(t:Tok):pY (.inr x) (.str x t)=true:=by simp[pY,Value.isStrOf]
theorem JW(a b:Int):decide ((Sum.inl a:Key)=Sum.inl b)=(a==b):=by
 by_cases e:a=b
 ·subst e;simp
 ·have h:¬ (Sum.inl a:Key)=Sum.inl b:=λq=>e (Sum.inl.inj q)
  rw[decide_eq_false h]
  exact(beq_eq_false_iff_ne.mpr e).symm
theorem JX(a b:Str):decide ((Sum.inr a:Key)=Sum.inr b)=decide (a=b):=by
 by_cases e:a=b
 ·subst e;simp
 ·have h:¬ (Sum.inr a:Key)=Sum.inr b:=λq=>e (Sum.inr.inj q)
  rw[decide_eq_false h,decide_eq_false e]
theorem JY(a:Int)(b:Str):decide ((Sum.inl a:Key)=Sum.inr b)=false:=decide_eq_false (λq=>nomatch q)
theorem JZ(a:Str)(b:Int):decide ((Sum.inr a:Key)=Sum.inl b)=false:=decide_eq_false (λq=>nomatch q)
def cE(prog:Program)(w:World):PySem.KeyKind prog w Key where
 is:=pY
 hash:=OQ w
 inj:=λv a b ha hb=>by
  rcases ck ha with ⟨i,t,rfl,rfl⟩|⟨x,t,rfl,rfl⟩
  ·rcases ck hb with ⟨j,u,rfl,e⟩|⟨y,u,rfl,e⟩
   ·injection e with e1 _;rw[e1]
   ·exact nomatch e
  ·rcases ck hb with ⟨j,u,rfl,e⟩|⟨y,u,rfl,e⟩
   ·exact nomatch e
   ·injection e with e1 _;rw[e1]
 byValue:=λk v h=>by
  rcases ck h with ⟨i,t,rfl,rfl⟩|⟨x,t,rfl,rfl⟩<;>rfl
 pyHash:=λhv h=>by
  rcases ck hv with ⟨i,t,rfl,rfl⟩|⟨x,t,rfl,rfl⟩
  ·exact wpAny_pyHash_int h
  ·exact wpAny_pyHash_str h
 eqBool:=λhu hv h=>by
  rcases ck hu with ⟨i,t,rfl,rfl⟩|⟨x,t,rfl,rfl⟩
  ·rcases ck hv with ⟨j,u,rfl,rfl⟩|⟨y,u,rfl,rfl⟩
   ·rw[JW] at h;exact wpAny_eqBool_int h
   ·rw[JY] at h;exact SeqAt.EqAt.int_str i t y u _ _ _ _ h
  ·rcases ck hv with ⟨j,u,rfl,rfl⟩|⟨y,u,rfl,rfl⟩
   ·rw[JZ] at h;exact SeqAt.EqAt.str_int x t j u _ _ _ _ h
   ·rw[JX] at h;exact wpAny_eqBool_str h
 «strs»:=λk x t v h=>by
  rcases ck h with ⟨i,u,rfl,e⟩|⟨y,u,rfl,e⟩
  ·exact nomatch e
  ·injection e with e1 _
   subst e1
   cases v<;>rfl
theorem vn(prog:Program)(w:World)(i:Int)(t:Tok):(cE prog w).is (.inl i) (.int i t)=true:=Bo i t
theorem vo(prog:Program)(w:World)(x:Str)(t:Tok):(cE prog w).is (.inr x) (.str x t)=true:=Bp x t
inductive V where
 | non|bl (b:Bool)|int (i:Int)|str (x:Str)|byt (b:Array UInt8)|flt (b:UInt64)|ref (a:Addr)|ty (n:String)
 deriving DecidableEq
def RelV:V→Value→Prop
 | .non,u=>u=Value.none
 | .bl b,u=>u=Value.bool b
 | .int i,u=>∃t,u=Value.int i t
 | .str x,u=>∃t,u=Value.str x t
 | .byt b,u=>∃t,u=Value.bytes b t
 | .flt b,u=>∃t,u=Value.float b t
 | .ref a,u=>u=Value.ref a
 | .ty n,u=>u=Value.type n
abbrev Vals:List V→List Value→Prop:=Paired RelV
theorem Vals.length{xs:List V}{us:List Value}(r:Vals xs us):xs.length=us.length:=Paired.length r
theorem Vals.get:∀{xs:List V}{us:List Value}{i:Nat}{x:V},Vals xs us→xs[i]?=some x→∃u,us[i]?=some u∧RelV x u
 | _,_,_,_,.nil,e=>by simp at e
 | _,_,0,_,.cons r _,e=>by simp at e;subst e;exact⟨_,rfl,r⟩
 | _,_,i+1,x,.cons _ t,e=>by
  obtain⟨u,h1,h2⟩:=Vals.get (i:=i) (x:=x) t (by simpa using e)
  exact⟨u,by simpa using h1,h2⟩
theorem Vals.set{x:V}{u:Value}(r:RelV x u):∀{xs:List V}{us:List Value} (i:Nat),Vals xs us→Vals (xs.set i x) (us.set i u)
 | _,_,_,.nil=>.nil
 | _,_,0,.cons _ t=>.cons r t
 | _,_,i+1,.cons q t=>.cons q (Vals.set r i t)
theorem Vals.append:∀{xs ys:List V}{us ws:List Value},Vals xs us→Vals ys ws→Vals (xs++ys) (us++ws)
 | _,_,_,_,.nil,s=>s
 | _,_,_,_,.cons r t,s=>.cons r (Vals.append t s)
theorem Vals.take:∀{xs:List V}{us:List Value} (n:Nat),Vals xs us→Vals (xs.take n) (us.take n)
 | _,_,0,_=>.nil
 | _,_,_+1,.nil=>.nil
 | _,_,n+1,.cons r t=>.cons r (Vals.take n t)
theorem Vals.drop:∀{xs:List V}{us:List Value} (n:Nat),Vals xs us→Vals (xs.drop n) (us.drop n)
 | _,_,0,r=>r
 | _,_,_+1,.nil=>.nil
 | _,_,n+1,.cons _ t=>Vals.drop n t
def oR:Option V→Option Value→Prop
 | some v,some u=>RelV v u
 | none,none=>True
 | _,_=>False
def KV{κ:Type}:List (κ×V)→List (κ×Value)→Prop:=Paired λ(p:κ×V) (q:κ×Value)=>p.1=q.1∧RelV p.2 q.2
def kV:Key→V
 | .inl i=>.int i
 | .inr x=>.str x
inductive HO where
 | lst (xs:List V)
 | tup (xs:List V)
 | dK (kvs:List (Key×V))|dT (kvs:List (List Key×V))
 | set (S:Int→Bool) (n:Nat)
 | ins (C dx:Addr) (fs:List (Str×V))
 | own (x:Addr)
 | xd (fs:List (Str×V))
 | met (f x:Addr)
 | rng (lo hi:Int)
 | frz (o:Obj) (u:HO)
 | tbl (ps:Array Value)
 | ext (φ:Heap→Prop)
abbrev Hp:=Addr→Option HO
def upd(H:Hp)(a:Addr)(o:HO):Hp:=λb=>if b=a then some o else H b
theorem aB{H:Hp}{a:Addr}{o:HO}:upd H a o a=some o:=by unfold upd;rw[if_pos rfl]
theorem aG{H:Hp}{a b:Addr}{o:HO}(h:b≠a):upd H a o b=H b:=by unfold upd;rw[if_neg h]
theorem MO{H:Hp}{a b:Addr}{o u:HO}(h:H a=some o)(h':H b=some u)(d:o≠u):a≠b:=by
 intro e;subst e;rw[h] at h';exact d (Option.some.inj h')
theorem cH{H:Hp}{a b:Addr}{o:HO}(h:H a=some o)(h':H b=none):a≠b:=by
 intro e;subst e;rw[h] at h';cases h'
section
variable(P:Program)(w:World)
def cw(H:Hp)(h:Heap)(a:Addr):HO→Prop
 | .lst xs=>xs.length≤sizeLine∧∃(its:List Value) (n:Nat),Vals xs its∧h.get? a=some { cls:=.type "list",data:=.seq its.toArray n }
 | .tup xs=>xs.length≤sizeLine∧∃its:List Value,Vals xs its∧IsTup h a its.toArray
 | .dK kvs=>kvs.length≤sizeLine∧(a==sysModules)=false∧∃vs,KV kvs vs∧h.DictAt (cE P w) a vs vs.length
 | .dT kvs=>kvs.length≤sizeLine∧(a==sysModules)=false∧∃xs:List (List Key×Addr×Value),
   Paired (λ(p:List Key×V) (q:List Key×Addr×Value)=>p.1=q.1∧H q.2.1=some (.tup (p.1.map kV))∧RelV p.2 q.2.2) kvs xs ∧
   ∃o es ep,h.get? a=some o∧o.ExactDict∧o.data=.dict es ep∧es.toList=xs.map (entryOfKey (tupleKind (cE P w)))∧(xs.map (·.1)).Nodup
 | .set S n=>h.SetOf (intKind P w) a S n
 | .ins C dx fs=>H dx=some (.own a)∧fs.length≤1000∧dx≠a∧h.get? a=some (PySem.W.instObj C dx) ∧
   ∃mA,h.Ns1 dx mA∧(∀f,oR (fs.lookup f) (mA f))∧PySem.Within mA (fs.map (·.1))
 | .own _=>∃o,h.get? a=some o
 | .xd fs=>∃mA,h.Ns1 a mA∧∀f,oR (fs.lookup f) (mA f)
 | .rng lo hi=>∃t u v,h.get? a=some { cls:=.type "range",data:=.fields #[.int lo t,.int hi u,.int 1 v] }
 | .frz o u=>h.get? a=some o∧cw H h a u
 | .tbl ps=>h.get? a=some { cls:=.none,data:=.fields ps }
 | .met f x=>h.get? a=some (PySem.W.methodObj (.ref f) (.ref x))
 | .ext φ=>φ h∧(∃o,h.get? a=some o)∧∀h1 h2:Heap,φ h1→(∀o,h1.get? a=some o→h2.get? a=some o)→φ h2
def HOk(H:Hp)(h:Heap):Prop:=∀a o,H a=some o→cw P w H h a o
end
section
variable{P:Program}{w:World}{H H':Hp}{h h':Heap}{a:Addr}{o:HO}
theorem cw.lt(x:cw P w H h a o):a<h.objs.size:=by
 cases o with
 | lst xs=>obtain⟨_,_,_,_,e⟩:=x;exact Heap.lt_size e
 | tup xs=>obtain⟨_,_,_,p⟩:=x;exact p.lt
 | dK kvs=>obtain⟨_,_,_,_,o,_,e,_⟩:=x;exact Heap.lt_size e
 | dT kvs=>obtain⟨_,_,_,_,o,_,_,e,_⟩:=x;exact Heap.lt_size e
 | set S n=>obtain⟨o,_,_,_,e,_⟩:=x;exact Heap.lt_size e
 | ins C dx fs=>obtain⟨_,_,_,e,_⟩:=x;exact Heap.lt_size e
 | own y=>obtain⟨_,e⟩:=x;exact Heap.lt_size e
 | xd fs=>obtain⟨_,⟨_,_,_,e,_⟩,_⟩:=x;exact Heap.lt_size e
 | rng lo hi=>obtain⟨_,_,_,e⟩:=x;exact Heap.lt_size e
 | frz ob u=>obtain⟨e,_⟩:=x;exact Heap.lt_size e
 | tbl ps=>exact Heap.lt_size (show h.get? a=some _ from x)
 | met f y=>exact Heap.lt_size (show h.get? a=some _ from x)
 | ext φ=>obtain⟨_,⟨_,e⟩,_⟩:=x;exact Heap.lt_size e
theorem Paired.Gy{α β:Type}{F G:α→β→Prop}:∀{l₁:List α}{l₂:List β},Paired F l₁ l₂→(∀a b,F a b→G a b)→Paired G l₁ l₂
 | _,_,.nil,_=>.nil
 | _,_,.cons r t,f=>.cons (f _ _ r) (Paired.Gy t f)
theorem Paired.imp'{α β:Type}{F G:α→β→Prop}(f:∀a b,F a b→G a b){l₁:List α}{l₂:List β}(r:Paired F l₁ l₂):Paired G l₁ l₂:=Paired.Gy r f
theorem cw.rA(x:cw P w H h a o)(k:∀b u,(b=a∨H b=some (.own a))→h.get? b=some u→h'.get? b=some u)
  (ho:∀b,H b=some (.own a)→H' b=some (.own a)) (ht:∀b xs,H b=some (.tup xs)→H' b=some (.tup xs)):cw P w H' h' a o:=by
 induction o with
 | lst xs=>obtain⟨z,its,n,r,e⟩:=x;exact⟨z,its,n,r,k _ _ (.inl rfl) e⟩
 | tup xs=>obtain⟨z,its,r,ob,e,c⟩:=x;exact⟨z,its,r,ob,k _ _ (.inl rfl) e,c⟩
 | dK kvs=>obtain⟨z,y,vs,r,ob,es,e,c⟩:=x;exact⟨z,y,vs,r,ob,es,k _ _ (.inl rfl) e,c⟩
 | dT kvs =>
  obtain⟨z,y,xs,r,ob,es,ep,e,c⟩:=x
  exact⟨z,y,xs,Paired.Gy r λp q z=>⟨z.1,ht _ _ z.2.1,z.2.2⟩,ob,es,ep,k _ _ (.inl rfl) e,c⟩
 | set S n=>obtain⟨ob,es,ep,t,e,c⟩:=x;exact⟨ob,es,ep,t,k _ _ (.inl rfl) e,c⟩
 | ins C dx fs =>
  obtain⟨d,z,ne,e,mA,⟨od,es,ep,e2,c⟩,r⟩:=x
  exact⟨ho _ d,z,ne,k _ _ (.inl rfl) e,mA,⟨od,es,ep,k _ _ (.inr d) e2,c⟩,r⟩
 | own y=>obtain⟨ob,e⟩:=x;exact⟨ob,k _ _ (.inl rfl) e⟩
 | xd fs=>obtain⟨mA,⟨od,es,ep,e,c⟩,r⟩:=x;exact⟨mA,⟨od,es,ep,k _ _ (.inl rfl) e,c⟩,r⟩
 | rng lo hi=>obtain⟨t,u,v,e⟩:=x;exact⟨t,u,v,k _ _ (.inl rfl) e⟩
 | frz ob u ih=>obtain⟨e,q⟩:=x;exact⟨k _ _ (.inl rfl) e,ih q⟩
 | tbl ps =>
  have e:h.get? a=some { cls:=.none,data:=.fields ps }:=x
  show h'.get? a=some { cls:=.none,data:=.fields ps }
  exact k a _ (.inl rfl) e
 | met f y =>
  have e:h.get? a=some (PySem.W.methodObj (.ref f) (.ref y)):=x
  show h'.get? a=some (PySem.W.methodObj (.ref f) (.ref y))
  exact k a _ (.inl rfl) e
 | ext φ=>obtain⟨p,⟨o,e⟩,st⟩:=x;exact⟨st _ _ p λo q=>k _ _ (.inl rfl) q,⟨o,k _ _ (.inl rfl) e⟩,st⟩
theorem HOk.lt(x:HOk P w H h)(e:H a=some o):a<h.objs.size:=(x a o e).lt
theorem HOk.fresh(x:HOk P w H h)(e:h.objs.size≤a):H a=none:=by
 cases q:H a with
 | none=>rfl
 | some u=>exact absurd (Nat.lt_of_lt_of_le (x.lt q) e) (Nat.lt_irrefl _)
theorem HOk.kept(x:HOk P w H h)(k:∀b u,h.get? b=some u→h'.get? b=some u):HOk P w H h':=λa o e =>
 (x a o e).rA (λb u _ q=>k b u q) (λ_ q=>q) λ_ _ q=>q
theorem HOk.laid(x:HOk P w H h)(k:∀b u,h.get? b=some u→h'.get? b=some u)(hp:h.objs.size≤a)(new:cw P w (upd H a o) h' a o):HOk P w (upd H a o) h':=λb u e=>by
 have hn:=x.fresh hp
 by_cases hb:b=a
 ·subst hb;rw[aB] at e;cases e;exact new
 ·rw[aG hb] at e
  exact(x b u e).rA (λc v _ q=>k c v q) (λc q=>by rw[aG (cH q hn)];exact q) λc xs q=>by rw[aG (cH q hn)];exact q
end
def Rd(H:Hp)(a:Addr)(u:HO):Prop:=H a=some u∨∃o,H a=some (.frz o u)
theorem Rd.ok{P:Program}{w:World}{H:Hp}{h:Heap}{a:Addr}{u:HO}(r:Rd H a u)(x:HOk P w H h):cw P w H h a u:=by
 rcases r with r|⟨o,r⟩
 ·exact x a u r
 ·obtain⟨_,q⟩:=x a _ r
  exact q
def Mut:Option HO→Prop
 | some (.lst _)=>True
 | some (.dK _)=>True
 | some (.dT _)=>True
 | some (.set _ _)=>True
 | some (.ins _ _ _)=>True
 | some (.ext _)=>True
 | _=>False
section
variable{P:Program}{w:World}{H:Hp}{h h':Heap}{x e:Addr}{o':HO}
theorem HOk.write(ok:HOk P w H h)(mu:Mut (H x))(he:e=x∨H e=some (.own x))(k:∀b u,b≠e→h.get? b=some u→h'.get? b=some u)(heo:∃u,h'.get? e=some u)
  (new:cw P w (upd H x o') h' x o'):HOk P w (upd H x o') h':=λb u q=>by
 have MP:∀c y,H c=some (.own y)→c≠x:=λc y r z=>by subst z;rw[r] at mu;exact mu
 have OR:∀c xs,H c=some (.tup xs)→c≠x:=λc xs r z=>by subst z;rw[r] at mu;exact mu
 by_cases hb:b=x
 ·subst hb;rw[aB] at q;cases q;exact new
 ·rw[aG hb] at q
  by_cases hbe:b=e
  ·have q':H b=some (.own x):=by
    rcases he with z|z
    ·exact absurd (hbe.trans z) hb
    ·rw[hbe];exact z
   rw[q] at q';cases q'
   obtain⟨v,hv⟩:=heo
   exact⟨v,by rw[hbe];exact hv⟩
  ·refine(ok b u q).rA (λc v hc r=>k c v ?_ r) (λc r=>by rw[aG (MP c b r)];exact r) λc xs r=>by rw[aG (OR c xs r)];exact r
   rcases hc with rfl|hc
   ·exact hbe
   ·rintro rfl
    rcases he with z|z
    ·exact MP c b hc z
    ·rw[hc] at z;cases z;exact hb rfl
end
structure Un(fs ex:List Addr)(H H':Hp)(h h':Heap):Prop where
 keep:∀b o,h.get? b=some o→H b=none→b∉fs→b∉ex→h'.get? b=some o
 slot:∀b o,h.get? b=some o→H b=none→b∈fs→b∉ex→∃sl,h'.get? b=some { o with slots:=sl }
 free:∀b o,h.get? b=some o→H b=none→b∉ex→H' b=none
 there:∀b o,h.get? b=some o→b∉ex→∃o',h'.get? b=some o'
 mm:∀b xs,H b=some (.tup xs)→H' b=some (.tup xs)
 c8:∀b o u,H b=some (.frz o u)→H' b=some (.frz o u)
 mq:∀b ps,H b=some (.tbl ps)→∃more,H' b=some (.tbl (ps++more))
section
variable{fs fs' ex ex':List Addr}{H H1 H2:Hp}{h h1 h2 h':Heap}{a x e:Addr}{o:HO}
theorem Un.any(u:Un fs ex H H1 h h1){b:Addr}{ob:Obj}(q:h.get? b=some ob)(n:H b=none)(hx:b∉ex):∃sl,h1.get? b=some { ob with slots:=sl }:=by
 by_cases hb:b∈fs
 ·exact u.slot b ob q n hb hx
 ·exact⟨ob.slots,u.keep b ob q n hb hx⟩
theorem Un.kept(k:∀b u,h.get? b=some u→h'.get? b=some u):Un fs ex H H h h' :=
 ⟨λb ob q _ _ _=>k b ob q,λb ob q _ _ _=>⟨ob.slots,k b ob q⟩,λ_ _ _ n _=>n,λb ob q _=>⟨ob,k b ob q⟩,λ_ _ q=>q,λ_ _ _ q=>q,λ_ ps q=>⟨#[],by rw[q];simp⟩⟩
theorem Un.refl:Un fs ex H H h h:=Un.kept λ_ _ q=>q
theorem Un.laid(k:∀b u,h.get? b=some u→h'.get? b=some u)(hp:h.objs.size≤a)(hn:H a=none):Un fs ex H (upd H a o) h h' where
 keep:=λb u q _ _ _=>k b u q
 slot:=λb u q _ _ _=>⟨u.slots,k b u q⟩
 free:=λb u q n _=>by rw[aG (Nat.ne_of_lt (Nat.lt_of_lt_of_le (Heap.lt_size q) hp))];exact n
 there:=λb u q _=>⟨u,k b u q⟩
 mm:=λb xs q=>by rw[aG (cH q hn)];exact q
 c8:=λb u xs q=>by rw[aG (cH q hn)];exact q
 mq:=λb ps q=>⟨#[],by rw[aG (cH q hn),q];simp⟩
theorem Un.write(mu:Mut (H x))(he:e=x∨H e=some (.own x))(k:∀b u,b≠e→h.get? b=some u→h'.get? b=some u)(heo:∃u,h'.get? e=some u):Un fs ex H (upd H x o) h h':=by
 have hx:∀b,H b=none→b≠x:=λb n z=>by subst z;rw[n] at mu;exact mu
 have hb:∀b,H b=none→b≠e:=λb n z=>by
  subst z
  rcases he with r|r
  ·exact hx b n r
  ·rw[n] at r;cases r
 have hm:∀b u,H b=some u→¬ Mut (some u)→b≠x:=λb u q nm z=>by subst z;rw[q] at mu;exact nm mu
 refine⟨λb u q n _ _=>k b u (hb b n) q,λb u q n _ _=>⟨u.slots,k b u (hb b n) q⟩,λb u q n _=>by rw[aG (hx b n)];exact n,λb u q _=>?_,
  λb xs q=>by rw[aG (hm b _ q λz=>z)];exact q,λb u xs q=>by rw[aG (hm b _ q λz=>z)];exact q,λb ps q=>⟨#[],by rw[aG (hm b _ q λz=>z),q];simp⟩⟩
 by_cases hbe:b=e
 ·subst hbe;exact heo
 ·exact⟨u,k b u hbe q⟩
end
def trk(h:Heap)(H:Hp):List Addr:=(List.range h.objs.size).filter λa=>(H a).isSome
def tS(h:Heap)(H:Hp):Heap:=PySem.W.hideAll h (trk h H)
theorem Bq(h:Heap)(H:Hp):(tS h H).objs.size=h.objs.size:=PySem.W.hideAll_size _ _
theorem C1{h:Heap}{H:Hp}{b:Addr}{o:Obj}(e:h.get? b=some o)(n:H b=none):(tS h H).get? b=some o :=
 PySem.W.hideAll_get _ e λhm=>by
  have q:(H b).isSome=true:=(List.mem_filter.mp hm).2
  rw[n] at q;simp at q
theorem Gz{h:Heap}{H:Hp}{b:Addr}{o:Obj}(e:(tS h H).get? b=some o):h.get? b=some o∧H b=none:=by
 have e':h.get? b=some o:=PySem.W.of_hideAll (trk h H) e
 refine⟨e',?_⟩
 cases q:H b with
 | none=>rfl
 | some x =>
  have hm:b∈trk h H:=List.mem_filter.mpr ⟨List.mem_range.mpr (Heap.lt_size e'),by simp[q]⟩
  have z:(tS h H).get? b=none:=PySem.W.hideAll_none (trk h H) hm
  rw[z] at e;cases e
structure Mod(K:PySem.W.Frag)(mg:Str→Option Value)(base:Heap):Prop where
 kin:K.In base
 glob:base.Ns mainGlobals mg
 blt:∃mb,base.Ns builtinsNs mb∧∀x:Str,x≠"__name__"→mb x=bootBuiltins x
 nolimit:base.NoLimit
structure Cx where
 prog:Program
 w:World
 K:PySem.W.Frag
 mg:Str→Option Value
 base:Heap
 A:Around
 N:List Str
 s₀:Shared
 H₀:Hp
 env:Env
 outer:List Env
 stack:List Env
 ex:List Addr
 fn:Str→Bool
 calm:Bool
 pn:List (Addr×Obj)
 xe:Value→Shared→Prop
def frs(l:List Env):List Addr:=l.filterMap (·.frame)
abbrev Cx.fs(X:Cx):List Addr:=frs X.outer
def Vis(sc:Scope)(x:Str):Prop:=sc.names.lookup x=some .local∨sc.names.lookup x=some .cell∨sc.names.lookup x=some .free
def Loc(sc:Scope)(x:Str):Prop:=sc.names.lookup x=some .local∨sc.names.lookup x=some .cell
def Look(env:Env)(h:Heap)(m:Str→Option Value)(x:Str)(u:Value):Prop :=
 (env.kindOf x=some .local∧m x=some u)∨((env.kindOf x=some .cell∨env.kindOf x=some .free)∧∃c,env.cells.lookup x=some c∧h.IsCell c (some u))
structure Cx.Ok(X:Cx):Prop where
 mod:Mod X.K X.mg X.base
 kind:X.env.scope.kind=.function
 glob:X.env.globals=mainGlobals
 blt:X.env.builtins=builtinsNs
 above:X.s₀.heap.objs.size≤X.env.locals
 inj:∀x y c,X.env.cells.lookup x=some c→X.env.cells.lookup y=some c→x=y
 has:∀x,(X.env.kindOf x=some .cell∨X.env.kindOf x=some .free)→∃c,X.env.cells.lookup x=some c
 cab:∀x c,X.fn x=true→X.env.cells.lookup x=some c→X.s₀.heap.objs.size≤c
 hd:X.calm=true→X.A.handled=none
 frames:X.A.frames=some X.stack
 stk:X.stack=X.outer∨(X.stack=X.env::X.outer∧X.env.frame=some X.env.locals)
 exf:∀b∈X.ex,b≠X.env.locals∧∀x c,X.env.cells.lookup x=some c→c≠b
 bs:∀b o,X.base.get? b=some o→X.s₀.heap.get? b=some o∧X.H₀ b=none
 bsz:X.base.objs.size≤X.s₀.heap.objs.size
 tT:∀b o,X.base.get? b=some o→b∉X.ex
 xw:∀b∈X.ex,b∉X.fs
 lM:X.s₀.heap.FunFrames X.base X.outer
 frf:∀b∈X.fs,X.H₀ b=none
structure Inv(X:Cx)(pins:List (Addr×Obj))(σ:List (Option V))(H:Hp)(s:Shared):Prop where
 ok:X.Ok
 os:s.os=X.s₀.os
 bare:AllBare s.gens
 base:Un X.fs X.ex X.H₀ H X.s₀.heap s.heap
 loc:∃m,s.heap.Ns X.env.locals m∧∀(i:Nat) (x:Str) (v:V),X.N[i]?=some x→σ[i]?=some (some v)→Vis X.env.scope x→∃u,RelV v u∧Look X.env s.heap m x u
 cell:∀x c,X.env.cells.lookup x=some c→∃v,s.heap.IsCell c v
 free:H X.env.locals=none
 fZ:∀x c,X.env.cells.lookup x=some c→H c=none
 pin:∀p∈X.pn++pins,s.heap.get? p.1=some p.2∧H p.1=none∧p.1≠X.env.locals∧p.1∉X.fs∧∀v,p.2.data≠.cell v
 hok:HOk X.prog X.w H s.heap
 len:σ.length=X.N.length
section
variable{X:Cx}{pins:List (Addr×Obj)}{σ:List (Option V)}{H H':Hp}{s:Shared}{h':Heap}
theorem Cx.Ok.OS(ok:X.Ok){b:Addr}{o:Obj}(e:X.base.get? b=some o):b∉X.fs:=λhb=>by
 have:=(ok.lM.mem hb).1
 rw[e] at this;cases this
theorem Inv.bs(I:Inv X pins σ H s):∀b o,X.base.get? b=some o→s.heap.get? b=some o∧H b=none:=λb o e =>
 ⟨I.base.keep b o (I.ok.bs b o e).1 (I.ok.bs b o e).2 (I.ok.OS e) (I.ok.tT b o e),I.base.free b o (I.ok.bs b o e).1 (I.ok.bs b o e).2 (I.ok.tT b o e)⟩
theorem Inv.bk(I:Inv X pins σ H s):∀b o,X.base.get? b=some o→s.heap.get? b=some o:=λb o e=>(I.bs b o e).1
theorem Inv.mod(I:Inv X pins σ H s):Mod X.K X.mg X.base:=I.ok.mod
theorem Inv.kIn(I:Inv X pins σ H s):X.K.In s.heap:=I.ok.mod.kin.keeps I.bk
theorem Inv.nolimit(I:Inv X pins σ H s):s.heap.NoLimit:=I.ok.mod.nolimit.keeps I.bk
theorem Inv.lt(I:Inv X pins σ H s):X.env.locals<s.heap.objs.size:=let ⟨_,hn,_⟩:=I.loc;hn.lt
theorem Inv.sz(I:Inv X pins σ H s):X.s₀.heap.objs.size≤s.heap.objs.size:=Nat.le_trans I.ok.above (Nat.le_of_lt I.lt)
theorem Inv.OT(I:Inv X pins σ H s){a:Addr}(h:s.heap.objs.size≤a):a∉X.fs:=λhb=>by
 obtain⟨_,o,ho,_⟩:=I.ok.lM.mem hb
 exact absurd (Nat.lt_of_lt_of_le (Heap.lt_size ho) (Nat.le_trans I.sz h)) (Nat.lt_irrefl _)
theorem Inv.cne(I:Inv X pins σ H s):∀x c,X.env.cells.lookup x=some c→c≠X.env.locals:=λx c e z=>by
 obtain⟨v,o,ho,hd⟩:=I.cell x c e
 obtain⟨m,⟨o',es,ep,ho',hd',_⟩,_⟩:=I.loc
 rw[z,ho'] at ho;cases ho;rw[hd'] at hd;cases hd
theorem Inv.lM(I:Inv X pins σ H s):s.heap.FunFrames X.base X.outer:=by
 have all:∀(l:List Env),(∀b∈frs l,b∈X.fs)→X.s₀.heap.FunFrames X.base l→s.heap.FunFrames X.base l:=by
  intro l
  induction l with
  | nil=>intro _ _;trivial
  | cons env r ih =>
   intro hs hl
   obtain⟨hk,⟨L,o,hf,hn,ho,hd⟩,hr⟩:=hl
   have hL:L∈X.fs:=hs L (by unfold frs;rw[List.filterMap_cons,hf];exact List.mem_cons_self)
   obtain⟨sl,e⟩:=I.base.slot L o ho (I.ok.frf L hL) hL λz=>I.ok.xw L z hL
   exact⟨hk,⟨L,_,hf,hn,e,hd⟩,ih (λb hb=>hs b (by unfold frs;rw[List.filterMap_cons,hf];exact List.mem_cons_of_mem _ hb)) hr⟩
 exact all X.outer (λ_ hb=>hb) I.ok.lM
theorem Inv.stack(I:Inv X pins σ H s):s.heap.FunFrames X.base X.stack:=by
 rcases I.ok.stk with e|⟨e,hf⟩
 ·rw[e];exact I.lM
 ·rw[e]
  obtain⟨m,hn,_⟩:=I.loc
  refine .cons (by rw[I.ok.kind];decide) hf hn ?_ I.lM
  exact Heap.get?_none_of_le (Nat.le_trans I.ok.bsz I.ok.above)
theorem Inv.tU(I:Inv X pins σ H s):∀b∈frs X.stack,b∈X.env.locals::X.fs:=λb hb=>by
 rcases I.ok.stk with e|⟨e,hf⟩
 ·rw[e] at hb;exact List.mem_cons_of_mem _ hb
 ·rw[e] at hb
  unfold frs at hb
  rw[List.filterMap_cons,hf] at hb
  exact hb
theorem Inv.pk(I:Inv X pins σ H s):∀b∈frs X.stack,H b=none:=λb hb=>by
 rcases List.mem_cons.mp (I.tU b hb) with e|hb
 ·rw[e];exact I.free
 ·obtain⟨_,o,ho,_⟩:=I.ok.lM.mem hb
  exact I.base.free b o ho (I.ok.frf b hb) λz=>I.ok.xw b z hb
theorem Inv.step{g':Array GenState}{t':Nat}{d':Drawn}{ch:List Addr}(I:Inv X pins σ H s)
  (hch:∀b∈ch,(b∈X.ex∨X.s₀.heap.objs.size≤b)∧b≠X.env.locals∧(∀x c,X.env.cells.lookup x=some c→c≠b)∧∀p∈X.pn++pins,p.1≠b)
  (keep:∀b o,b≠X.env.locals→b∉X.fs→b∉ch→s.heap.get? b=some o→H b=none→h'.get? b=some o)
  (slot:∀b o,b≠X.env.locals→b∈X.fs→b∉ch→s.heap.get? b=some o→H b=none→∃sl,h'.get? b=some { o with slots:=sl }) (free:∀b o,b∉ch→s.heap.get? b=some o→H b=none→H' b=none)
  (there:∀b o,b∉ch→s.heap.get? b=some o→∃o',h'.get? b=some o')
  (mm:∀b xs,H b=some (.tup xs)→H' b=some (.tup xs)) (c8:∀b o u,H b=some (.frz o u)→H' b=some (.frz o u)) (mq:∀b ps,H b=some (.tbl ps)→∃more,H' b=some (.tbl (ps++more)))
  (ns:∀m,s.heap.Ns X.env.locals m→h'.Ns X.env.locals m) (hok:HOk X.prog X.w H' h') (hg:AllBare g') :
  Inv X pins σ H' { s with heap:=h',gens:=g',drawn:=d',toks:=t' }:=by
 have neL:∀b o,X.s₀.heap.get? b=some o→b≠X.env.locals:=λb o e=>Nat.ne_of_lt (Nat.lt_of_lt_of_le (Heap.lt_size e) I.ok.above)
 have neC:∀b o,X.s₀.heap.get? b=some o→b∉X.ex→b∉ch:=λb o e hx hb=>by
  rcases (hch b hb).1 with z|z
  ·exact hx z
  ·exact absurd (Nat.lt_of_lt_of_le (Heap.lt_size e) z) (Nat.lt_irrefl _)
 have cellK:∀x c,X.env.cells.lookup x=some c→∀v,s.heap.IsCell c v→h'.IsCell c v:=λx c e v au=>by
  obtain⟨o,ho,hd⟩:=au
  have nch:c∉ch:=λz=>(hch c z).2.2.1 x c e rfl
  by_cases hc:c∈X.fs
  ·obtain⟨sl,q⟩:=slot c o (I.cne x c e) hc nch ho (I.fZ x c e)
   exact⟨_,q,hd⟩
  ·exact⟨o,keep c o (I.cne x c e) hc nch ho (I.fZ x c e),hd⟩
 refine⟨I.ok,I.os,hg,⟨λb o e n hb hx=>?_,λb o e n hb hx=>?_,λb o e n hx=>?_,λb o e hx=>?_,λb xs e=>mm b xs (I.base.mm b xs e),λb o xs e=>c8 b o xs (I.base.c8 b o xs e),λb ps e=>?_⟩,?_,λx c e=>?_,?_,λx c e=>?_,λp hp=>?_,hok,I.len⟩
 ·exact keep b o (neL b o e) hb (neC b o e hx) (I.base.keep b o e n hb hx) (I.base.free b o e n hx)
 ·obtain⟨sl,e1⟩:=I.base.slot b o e n hb hx
  obtain⟨sl',e2⟩:=slot b _ (neL b o e) hb (neC b o e hx) e1 (I.base.free b o e n hx)
  exact⟨sl',e2⟩
 ·obtain⟨o',e1⟩:=I.base.there b o e hx
  exact free b o' (neC b o e hx) e1 (I.base.free b o e n hx)
 ·obtain⟨o',e1⟩:=I.base.there b o e hx
  exact there b o' (neC b o e hx) e1
 ·obtain⟨m1,e1⟩:=I.base.mq b ps e
  obtain⟨m2,e2⟩:=mq b _ e1
  exact⟨m1++m2,by rw[e2,Array.append_assoc]⟩
 ·obtain⟨m,hn,hl⟩:=I.loc
  refine⟨m,ns m hn,λi x v e1 e2 e3=>?_⟩
  obtain⟨u,r,l⟩:=hl i x v e1 e2 e3
  refine⟨u,r,?_⟩
  rcases l with l|⟨k,c,e,z⟩
  ·exact .inl l
  ·exact .inr ⟨k,c,e,cellK x c e _ z⟩
 ·obtain⟨v,z⟩:=I.cell x c e
  exact⟨v,cellK x c e v z⟩
 ·obtain⟨m,⟨o,_,_,ho,_⟩,_⟩:=I.loc
  exact free _ o (λz=>(hch _ z).2.1 rfl) ho I.free
 ·obtain⟨v,o,ho,hd⟩:=I.cell x c e
  exact free c o (λz=>(hch c z).2.2.1 x c e rfl) ho (I.fZ x c e)
 ·obtain⟨e,n,ne,nf,d⟩:=I.pin p hp
  have nch:p.1∉ch:=λz=>(hch p.1 z).2.2.2 p hp rfl
  exact⟨keep p.1 p.2 ne nf nch e n,free p.1 p.2 nch e n,ne,nf,d⟩
theorem Inv.un{t':Nat}(I:Inv X pins σ H s)(u:Un X.fs [] H H' s.heap h')(hok:HOk X.prog X.w H' h'):Inv X pins σ H' { s with heap:=h',toks:=t' }:=by
 obtain⟨m,⟨o,es,ep,ho,r⟩,_⟩:=id I.loc
 obtain⟨sl,hL⟩:=u.any ho I.free (by simp)
 exact I.step (g':=s.gens) (d':=s.drawn) (ch:=[]) (λ_ z=>nomatch z) (λb o _ hb _ e n=>u.keep b o e n hb (by simp)) (λb o _ hb _ e n=>u.slot b o e n hb (by simp)) (λb o _ e n=>u.free b o e n (by simp)) (λb o _ e=>u.there b o e (by simp)) u.mm u.c8 u.mq (λm' hm=>by
  obtain⟨o',es',ep',ho',r'⟩:=hm
  rw[ho] at ho';cases ho'
  exact⟨_,es',ep',hL,r'⟩) hok I.bare
theorem Inv.call{g':Array GenState}{t':Nat}{d':Drawn}{ch:List Addr}(I:Inv X pins σ H s)(u:Un (frs X.stack) ch H H' s.heap h')(hok:HOk X.prog X.w H' h')(hg:AllBare g')
  (hch:∀b∈ch,(b∈X.ex∨X.s₀.heap.objs.size≤b)∧b≠X.env.locals∧(∀x c,X.env.cells.lookup x=some c→c≠b)∧∀p∈X.pn++pins,p.1≠b) :
  Inv X pins σ H' { s with heap:=h',gens:=g',drawn:=d',toks:=t' }:=by
 obtain⟨m,⟨o,es,ep,ho,r⟩,_⟩:=id I.loc
 obtain⟨sl,hL⟩:=u.any ho I.free λz=>(hch _ z).2.1 rfl
 exact I.step (ch:=ch) hch (λb o hL hb hc e n=>u.keep b o e n (λz=>(List.mem_cons.mp (I.tU b z)).elim hL hb) hc) (λb o _ _ hc e n=>u.any e n hc) (λb o hc e n=>u.free b o e n hc) (λb o hc e=>u.there b o e hc) u.mm u.c8 u.mq (λm' hm=>by
  obtain⟨o',es',ep',ho',r'⟩:=hm
  rw[ho] at ho';cases ho'
  exact⟨_,es',ep',hL,r'⟩) hok hg
theorem Inv.turned{t':Nat}{it:Addr}(I:Inv X pins σ H s)(k:∀b o,b≠it→s.heap.get? b=some o→h'.get? b=some o)(hn:H it=none)(hL:it≠X.env.locals)
  (h1:it∈X.ex∨X.s₀.heap.objs.size≤it) (h2:∀x c,X.env.cells.lookup x=some c→c≠it) (h3:∀p∈X.pn++pins,p.1≠it):Inv X pins σ H { s with heap:=h',toks:=t' }:=by
 have nit:∀b u,H b=some u→b≠it:=λb u e z=>by rw[z,hn] at e;cases e
 refine I.step (g':=s.gens) (d':=s.drawn) (ch:=[it]) (λb hb=>?_) (λb o _ _ hc e _=>k b o (λz=>hc (by simp[z])) e) (λb o _ _ hc e _=>⟨o.slots,k b o (λz=>hc (by simp[z])) e⟩) (λ_ _ _ _ n=>n)
  (λb o hc e=>⟨o,k b o (λz=>hc (by simp[z])) e⟩) (λ_ _ e=>e) (λ_ _ _ e=>e) (λb ps e=>⟨#[],by rw[e];simp⟩) (λm hm=>?_) (λb u e=>?_) I.bare
 ·have e:b=it:=by simpa using hb
  subst e
  exact⟨h1,hL,h2,h3⟩
 ·obtain⟨o,es,ep,ho,r⟩:=hm
  exact⟨o,es,ep,k _ o (Ne.symm hL) ho,r⟩
 ·refine(I.hok b u e).rA (λc v hc q=>k c v ?_ q) (λ_ q=>q) λ_ _ q=>q
  rcases hc with z|z
  ·rw[z];exact nit b u e
  ·exact nit c _ z
theorem Inv.tok(I:Inv X pins σ H s)(t:Nat):Inv X pins σ H { s with toks:=t }:=I.un (h':=s.heap) (t':=t) Un.refl I.hok
theorem Inv.kept{t':Nat}(I:Inv X pins σ H s)(k:∀b u,s.heap.get? b=some u→h'.get? b=some u):Inv X pins σ H { s with heap:=h',toks:=t' }:=I.un (Un.kept k) (I.hok.kept k)
theorem Inv.laid{a:Addr}{o:HO}{t':Nat}(I:Inv X pins σ H s)(k:∀b u,s.heap.get? b=some u→h'.get? b=some u)(hp:s.heap.objs.size≤a)(new:cw X.prog X.w (upd H a o) h' a o) :
  Inv X pins σ (upd H a o) { s with heap:=h',toks:=t' }:=I.un (Un.laid k hp (I.hok.fresh hp)) (I.hok.laid k hp new)
theorem Inv.write{x e:Addr}{o:HO}{t':Nat}(I:Inv X pins σ H s)(mu:Mut (H x))(he:e=x∨H e=some (.own x))(k:∀b u,b≠e→s.heap.get? b=some u→h'.get? b=some u)(heo:∃u,h'.get? e=some u)
  (new:cw X.prog X.w (upd H x o) h' x o):Inv X pins σ (upd H x o) { s with heap:=h',toks:=t' }:=I.un (Un.write mu he k heo) (I.hok.write mu he k heo new)
theorem Inv.zE{vp:List (Addr×Obj)}(I:Inv X pins σ H s)(h:∀p∈vp,s.heap.get? p.1=some p.2∧H p.1=none∧p.1≠X.env.locals∧p.1∉X.fs∧∀v,p.2.data≠.cell v):Inv X vp σ H s :=
 ⟨I.ok,I.os,I.bare,I.base,I.loc,I.cell,I.free,I.fZ,λp hp=>(List.mem_append.mp hp).elim (λz=>I.pin p (List.mem_append_left _ z)) (h p),I.hok,I.len⟩
theorem vq{N:List Str}(hN:N.Nodup){i j:Nat}{x:Str}(a:N[i]?=some x)(b:N[j]?=some x):i=j:=by
 obtain⟨h1,e1⟩:=List.getElem?_eq_some_iff.mp a
 obtain⟨h2,e2⟩:=List.getElem?_eq_some_iff.mp b
 exact(List.getElem_inj hN).mp (e1.trans e2.symm)
theorem rV{M:Model}{A:Around}{E:Value→Shared→Prop}{i:Nat}{x:Str}{v:V}{u:Value}{Q:Unit→Shared→Prop}(I:Inv X pins σ H s)(hN:X.N.Nodup)(hi:X.N[i]?=some x)(hx:Loc X.env.scope x)(r:RelV v u)
  (h:∀s',Inv X pins (σ.set i (some v)) H s'→(∃a,Heap.SameBut a s.heap s'.heap∧(a=X.env.locals∨X.env.cells.lookup x=some a))→Q () s') (hf:X.fn x=true∨X.env.scope.names.lookup x=some .local:=by first|exact .inl rfl|exact .inr rfl|assumption):wpAny M A (storeName X.env x u) Q E s:=by
 obtain⟨m,hn,hl⟩:=id I.loc
 have C3:(X.env.scope.kind==.class || (X.env.scope.kind==.module && X.env.locals != X.env.globals))=false:=by rw[I.ok.kind];rfl
 have hiσ:i<σ.length:=by rw[I.len];exact(List.getElem?_eq_some_iff.mp hi).1
 have cne:=I.cne
 have tracked:∀{a:Addr}{h':Heap},(∃o,s.heap.get? a=some o∧H a=none)→Heap.SameBut a s.heap h'→HOk X.prog X.w H h':=λ{a h'} ha hs b ob e=>by
  obtain⟨_,_,Jk⟩:=ha
  refine(I.hok b ob e).rA (λc w' hc q=>(hs.2 c ?_).trans q) (λ_ q=>q) λ_ _ q=>q
  rintro rfl
  rcases hc with rfl|hc
  ·rw[Jk] at e;cases e
  ·rw[Jk] at hc;cases hc
 rcases hx with hk|hk
 ·refine wpAny_storeName_local hk hn (λh' hn' hs=>?_) C3
  obtain⟨oL,_,_,hoL,_⟩:=id hn
  refine h _ ⟨I.ok,I.os,I.bare,⟨λb o e n hb hx=>?_,λb o e n hb hx=>?_,I.base.free,λb o e hx=>?_,I.base.mm,I.base.c8,I.base.mq⟩,⟨_,hn',λj y v' e1 e2 e3=>?_⟩,λy c e=>?_,I.free,I.fZ,λp hp=>?_,tracked ⟨oL,hoL,I.free⟩ hs,by simpa using I.len⟩ ⟨_,hs,.inl rfl⟩
  ·exact(hs.2 b (Nat.ne_of_lt (Nat.lt_of_lt_of_le (Heap.lt_size e) I.ok.above))).trans (I.base.keep b o e n hb hx)
  ·obtain⟨sl,e1⟩:=I.base.slot b o e n hb hx
   exact⟨sl,(hs.2 b (Nat.ne_of_lt (Nat.lt_of_lt_of_le (Heap.lt_size e) I.ok.above))).trans e1⟩
  ·obtain⟨o',e1⟩:=I.base.there b o e hx
   exact⟨o',(hs.2 b (Nat.ne_of_lt (Nat.lt_of_lt_of_le (Heap.lt_size e) I.ok.above))).trans e1⟩
  ·by_cases hj:j=i
   ·subst hj
    rw[hi] at e1;cases e1
    rw[List.getElem?_set_self hiσ] at e2
    cases e2
    exact⟨u,r,.inl ⟨hk,by simp⟩⟩
   ·rw[List.getElem?_set_ne (Ne.symm hj)] at e2
    obtain⟨u',r',q⟩:=hl j y v' e1 e2 e3
    refine⟨u',r',?_⟩
    rcases q with ⟨k,e⟩|⟨k,c,e,z⟩
    ·refine .inl ⟨k,?_⟩
     have:y≠x:=λe=>hj (vq hN e1 (e ▸ hi))
     simp[this,e]
    ·exact .inr ⟨k,c,e,z.sameBut hs (cne y c e)⟩
  ·obtain⟨w',z⟩:=I.cell y c e
   exact⟨w',z.sameBut hs (cne y c e)⟩
  ·obtain⟨e,n,ne,nf,d⟩:=I.pin p hp
   exact⟨(hs.2 p.1 ne).trans e,n,ne,nf,d⟩
 ·have hfn:X.fn x=true:=by
   rcases hf with z|z
   ·exact z
   ·rw[z] at hk;cases hk
  obtain⟨c,hc⟩:=I.ok.has x (.inl hk)
  obtain⟨w',z⟩:=I.cell x c hc
  refine wpAny_storeName_cell I.ok.kind hk hc z (λh' hc' hs=>?_)
  obtain⟨oc,hoc,OU⟩:=id z
  refine h { s with heap:=h' } ⟨I.ok,I.os,I.bare,⟨λb o e n hb hx=>?_,λb o e n hb hx=>?_,I.base.free,λb o e hx=>?_,I.base.mm,I.base.c8,I.base.mq⟩,⟨m,hn.sameBut hs (Ne.symm (cne x c hc)),λj y v' e1 e2 e3=>?_⟩,λy c' e=>?_,I.free,I.fZ,λp hp=>?_,tracked ⟨oc,hoc,I.fZ x c hc⟩ hs,by simpa using I.len⟩ ⟨c,hs,.inr hc⟩
  ·exact(hs.2 b (Nat.ne_of_lt (Nat.lt_of_lt_of_le (Heap.lt_size e) (I.ok.cab x c hfn hc)))).trans (I.base.keep b o e n hb hx)
  ·obtain⟨sl,e1⟩:=I.base.slot b o e n hb hx
   exact⟨sl,(hs.2 b (Nat.ne_of_lt (Nat.lt_of_lt_of_le (Heap.lt_size e) (I.ok.cab x c hfn hc)))).trans e1⟩
  ·obtain⟨o',e1⟩:=I.base.there b o e hx
   exact⟨o',(hs.2 b (Nat.ne_of_lt (Nat.lt_of_lt_of_le (Heap.lt_size e) (I.ok.cab x c hfn hc)))).trans e1⟩
  ·by_cases hj:j=i
   ·subst hj
    rw[hi] at e1;cases e1
    rw[List.getElem?_set_self hiσ] at e2
    cases e2
    exact⟨u,r,.inr ⟨.inl hk,c,hc,hc'⟩⟩
   ·rw[List.getElem?_set_ne (Ne.symm hj)] at e2
    obtain⟨u',r',q⟩:=hl j y v' e1 e2 e3
    refine⟨u',r',?_⟩
    rcases q with q|⟨k,c',e,z'⟩
    ·exact .inl q
    ·refine .inr ⟨k,c',e,z'.sameBut hs ?_⟩
     rintro rfl
     exact hj (vq hN e1 (I.ok.inj _ _ _ e hc ▸ hi))
  ·by_cases hcc:c'=c
   ·subst hcc;exact⟨_,hc'⟩
   ·obtain⟨w2,z2⟩:=I.cell y c' e
    exact⟨w2,z2.sameBut hs hcc⟩
  ·obtain⟨e,n,ne,nf,d⟩:=I.pin p hp
   refine⟨(hs.2 p.1 ?_).trans e,n,ne,nf,d⟩
   intro q
   rw[q,hoc] at e
   have q':oc=p.2:=Option.some.inj e
   exact d w' (by rw[← q'];exact OU)
theorem vt{M:Model}{A:Around}{E:Value→Shared→Prop}{i:Nat}{x:Str}{v:V}{u:Value}{Q:Unit→Shared→Prop}(I:Inv X pins σ H s)(hN:X.N.Nodup)(hi:X.N[i]?=some x)(hx:Loc X.env.scope x)(r:RelV v u)
  (h:∀s',Inv X pins (σ.set i (some v)) H s'→Q () s') (hf:X.fn x=true∨X.env.scope.names.lookup x=some .local:=by first|exact .inl rfl|exact .inr rfl|assumption):wpAny M A (storeName X.env x u) Q E s :=
 rV I hN hi hx r (λs' I' _=>h s' I') hf
theorem Inv.Jl{s':Shared}{ch:List Addr}(I:Inv X pins σ H s)(ho:s'.os=s.os)(u:Un (frs X.stack) ch H H' s.heap s'.heap)(hok:HOk X.prog X.w H' s'.heap)(hg:AllBare s'.gens)
  (hch:∀b∈ch,(b∈X.ex∨X.s₀.heap.objs.size≤b)∧b≠X.env.locals∧(∀x c,X.env.cells.lookup x=some c→c≠b)∧∀p∈X.pn++pins,p.1≠b):Inv X pins σ H' s':=by
 obtain⟨h',g',d',t',o'⟩:=s'
 have e:o'=s.os:=ho
 subst e
 exact I.call (g':=g') (t':=t') (d':=d') u hok hg hch
end
abbrev XK:=Value→Option Addr→Hp→Prop
abbrev St:=List (Option V)
abbrev VK:=V→Hp→Prop
abbrev TE:=St→Hp→VK→Prop
abbrev TT:=St→Hp→(Bool→Hp→Prop)→Prop
abbrev TA:=St→Hp→(List V→Hp→Prop)→Prop
structure Ends where
 nx:St→Hp→Prop
 rt:VK
 bk:St→Hp→Prop:=λ_ _=>False
 ct:St→Hp→Prop:=λ_ _=>False
abbrev TS:=Ends→St→Hp→Prop
def EP(X:Cx)(pins:List (Addr×Obj))(σ:St)(Q:VK)(u:Value)(s':Shared):Prop:=∃v H',Inv X pins σ H' s'∧RelV v u∧Q v H'
def TP(X:Cx)(pins:List (Addr×Obj))(σ:St)(Q:Bool→Hp→Prop)(b:Bool)(s':Shared):Prop:=∃H',Inv X pins σ H' s'∧Q b H'
def AP(X:Cx)(pins:List (Addr×Obj))(σ:St)(Q:List V→Hp→Prop)(us:List Value)(s':Shared):Prop:=∃vs H',Inv X pins σ H' s'∧Vals vs us∧Q vs H'
def SP(X:Cx)(pins:List (Addr×Obj))(D:Ends)(f:Flow)(s':Shared):Prop :=
 match f with
 | .next=>∃σ' H',Inv X pins σ' H' s'∧D.nx σ' H'
 | .brk=>∃σ' H',Inv X pins σ' H' s'∧D.bk σ' H'
 | .cont=>∃σ' H',Inv X pins σ' H' s'∧D.ct σ' H'
 | .ret u=>∃v σ' H',Inv X pins σ' H' s'∧RelV v u∧D.rt v H'
def PE(X:Cx)(e:Expr)(t:TE):Prop :=
 ∀(pins:List (Addr×Obj)) (s:Shared) (σ:St) (H:Hp) (Q:VK),Inv X pins σ H s→t σ H Q→wpAny (model X.prog X.w) X.A (eval e X.env) (EP X pins σ Q) X.xe s
def PT(X:Cx)(e:Expr)(t:TT):Prop :=
 ∀(pins:List (Addr×Obj)) (s:Shared) (σ:St) (H:Hp) (Q:Bool→Hp→Prop),Inv X pins σ H s→t σ H Q→wpAny (model X.prog X.w) X.A (isTrue e X.env (eval e X.env)) (TP X pins σ Q) X.xe s
def PW(X:Cx)(e:Expr)(t:TT):Prop :=
 ∀(whole:Sem Value) (pins:List (Addr×Obj)) (s:Shared) (σ:St) (H:Hp) (Q:Bool→Hp→Prop),Inv X pins σ H s→t σ H Q→wpAny (model X.prog X.w) X.A (isTrue e X.env whole) (TP X pins σ Q) X.xe s
theorem PW.pt{X:Cx}{e:Expr}{t:TT}(h:PW X e t):PT X e t:=h _
def PA(X:Cx)(es:List Expr)(t:TA):Prop :=
 ∀(pos:Pos) (pins:List (Addr×Obj)) (s:Shared) (σ:St) (H:Hp) (Q:List V→Hp→Prop),Inv X pins σ H s→t σ H Q→wpAny (model X.prog X.w) X.A (spliced (backTo pos (starEach es X.env))) (AP X pins σ Q) X.xe s
def PS(X:Cx)(st:Stmt)(t:TS):Prop :=
 ∀(pins:List (Addr×Obj)) (s:Shared) (σ:St) (H:Hp) (D:Ends),Inv X pins σ H s→t D σ H→wpAny (model X.prog X.w) X.A (exec st X.env) (SP X pins D) X.xe s
def PSs(X:Cx)(st:List Stmt)(t:TS):Prop :=
 ∀(pins:List (Addr×Obj)) (s:Shared) (σ:St) (H:Hp) (D:Ends),Inv X pins σ H s→t D σ H→wpAny (model X.prog X.w) X.A (execs st X.env) (SP X pins D) X.xe s
theorem thn{α:Type}{t:Sem α}{Q Q':α→Shared→Prop}{M:Model}{A:Around}{E:Value→Shared→Prop}{s:Shared}(h:wpAny M A t Q E s)(hQ:∀a s,Q a s→Q' a s):wpAny M A t Q' E s:=wpAny_mono h hQ λ_ _ x=>x
section
variable{X:Cx}
theorem bin{a b:Expr}{ta tb:TE}(ha:PE X a ta)(hb:PE X b tb){pins:List (Addr×Obj)}{s:Shared}{σ:St}{H:Hp}{R:V→V→Hp→Prop}(I:Inv X pins σ H s)(h:ta σ H λx H1=>tb σ H1 λy H2=>R x y H2)
  {α:Type}{Q:α→Shared→Prop}{f:Value→Value→Sem α}
  (hf:∀v u s2 x y H2,Inv X pins σ H2 s2→RelV x v→RelV y u→R x y H2→wpAny (model X.prog X.w) X.A (f v u) Q X.xe s2) :
  wpAny (model X.prog X.w) X.A (eval a X.env) (λv s₁=>wpAny (model X.prog X.w) X.A (eval b X.env) (λu s₂=>wpAny (model X.prog X.w) X.A (f v u) Q X.xe s₂) X.xe s₁) X.xe s:=by
 refine thn (ha pins s σ H _ I h) λv s1 au=>?_
 obtain⟨x,H1,I1,r1,q1⟩:=au
 refine thn (hb pins s1 σ H1 _ I1 q1) λu s2 cK=>?_
 obtain⟨y,H2,I2,r2,q2⟩:=cK
 exact hf v u s2 x y H2 I2 r1 r2 q2
def OV(i:Nat):TE:=λσ H Q=>∃v,σ[i]?=some (some v)∧Q v H
def tC(v:V):TE:=λ_ H Q=>Q v H
theorem tV{i:Nat}{x:Str}{pos:Pos}(hN:X.N[i]?=some x)(hv:Vis X.env.scope x)(hd:(x==("__debug__":Str))=false:=by decide)(hcd:(x==("__classdict__":Str))=false:=by decide):PE X (.Name x pos) (OV i):=by
 intro pins s σ H Q I h
 obtain⟨v,e,h⟩:=h
 obtain⟨m,hn,hl⟩:=I.loc
 obtain⟨u,r,l⟩:=hl i x v hN e hv
 have fin:EP X pins σ Q u s:=⟨v,H,I,r,h⟩
 rcases l with ⟨hk,hm⟩|⟨hk,c,hc,ot⟩
 ·exact wpAny_Name (wpAny_loadName_local I.ok.kind hk hn hm fin) hd
 ·rcases hk with hk|hk
  ·exact wpAny_Name (wpAny_loadName_cell I.ok.kind hk hc ot fin) hd
  ·exact wpAny_Name (wpAny_loadName_free I.ok.kind hk hc ot fin hcd) hd
theorem C4{i j pos}:PE X (.Constant (.int i) j pos) (tC (.int i)):=λ_ _ _ H _ I h=>wpAny_Constant_int ⟨.int i,H,I.tok _,⟨_,rfl⟩,h⟩
theorem MQ{b j pos}:PE X (.Constant (.bool b) j pos) (tC (.bl b)):=λ_ _ _ H _ I h=>Constant_bool ⟨.bl b,H,I,rfl,h⟩
theorem J0{j pos}:PE X (.Constant .none j pos) (tC .non):=λ_ _ _ H _ I h=>Constant_none ⟨.non,H,I,rfl,h⟩
theorem J1{x j pos}:PE X (.Constant (.str x) j pos) (tC (.str x)):=λ_ _ _ H _ I h=>Calls.Constant_str ⟨.str x,H,I.tok _,⟨_,rfl⟩,h⟩
def Gl(X:Cx)(x:Str):Prop:=X.env.kindOf x=some .globalImplicit
theorem mr{E:Value→Shared→Prop}{pins:List (Addr×Obj)}{s:Shared}{σ:St}{H:Hp}{x:Str}{u:Value}{pos:Pos}{Q:Value→Shared→Prop}(I:Inv X pins σ H s)(hg:Gl X x)(hm:X.mg x=some u)(h:Q u s)
  (hd:(x==("__debug__":Str))=false:=by decide):wpAny (model X.prog X.w) X.A (eval (.Name x pos) X.env) Q E s :=
 Calls.Name_function_global I.ok.kind hg (Calls.loadGlobal_global (by rw[I.ok.glob];exact I.mod.glob.keeps I.bk) hm h) hd
theorem lO{E:Value→Shared→Prop}{pins:List (Addr×Obj)}{s:Shared}{σ:St}{H:Hp}{x:Str}{u:Value}{pos:Pos}{Q:Value→Shared→Prop}(I:Inv X pins σ H s)(hg:Gl X x)(hm:X.mg x=none)(hv:bootBuiltins x=some u)(h:Q u s)
  (hn:x≠"__name__":=by decide) (hd:(x==("__debug__":Str))=false:=by decide):wpAny (model X.prog X.w) X.A (eval (.Name x pos) X.env) Q E s:=by
 obtain⟨mb,h1,h2⟩:=I.mod.blt
 exact Calls.Name_function_global I.ok.kind hg (Calls.loadGlobal_builtin (by rw[I.ok.glob];exact I.mod.glob.keeps I.bk) hm (by rw[I.ok.blt];exact h1.keeps I.bk) ((h2 x hn).trans hv) h) hd
theorem GA{x:Str}{v:V}{u:Value}{pos:Pos}(hg:Gl X x)(hm:X.mg x=some u)(r:RelV v u)(hd:(x==("__debug__":Str))=false:=by decide):PE X (.Name x pos) (tC v) :=
 λ_ _ _ H _ I h=>mr I hg hm ⟨v,H,I,r,h⟩ hd
variable{a b:Expr}{ta tb:TE}{pos:Pos}
def PC(X:Cx)(op:CmpOp)(a b:Expr)(t:TE):Prop :=
 ∀(pins:List (Addr×Obj)) (s:Shared) (σ:St) (H:Hp) (Q:VK),Inv X pins σ H s→t σ H Q →
  wpAny (model X.prog X.w) X.A (eval a X.env) (λv s₁=>wpAny (model X.prog X.w) X.A (eval b X.env) (λu s₂=>wpAny (model X.prog X.w) X.A (compareOp op v u) (EP X pins σ Q) X.xe s₂) X.xe s₁) X.xe s
theorem C5(b:Expr){op:CmpOp}(h:op≠.In)(h2:op≠.NotIn):behindInMarks op b=false:=by
 have e1:(op==CmpOp.In)=false:=by cases op<;>first|rfl|exact absurd rfl h
 have e2:(op==CmpOp.NotIn)=false:=by cases op<;>first|rfl|exact absurd rfl h2
 cases b<;>simp[behindInMarks,e1,e2]
def tB(t:TE):TT:=λσ H Q=>t σ H λx H1=>∃c,x=.bl c∧Q c H1
theorem OW{op:CmpOp}{t:TE}(h:PC X op a b t)(h1:behindInMarks op b=false:=by first|exact C5 _ (by decide) (by decide)|rfl):PT X (.Compare a [op] [b] pos) (tB t):=by
 intro pins s σ H Q I hw
 refine wpAny_isTrue_Compare1 (thn (h pins s σ H _ I hw) λv s1 h1=>thn h1 λu s2 h2=>thn h2 λc s3 au=>?_) h1
 obtain⟨x,H1,I1,r1,q1⟩:=au
 obtain⟨d,rfl,q⟩:=q1
 cases r1
 exact wpAny_truthy_bool ⟨H1,I1,q⟩
theorem J2{e:Expr}{t:TE}(h:PE X e t)(he:∀whole,isTrue e X.env whole=(do let v ← whole;standAt e.pos;holding [v] (truthy v)):=by intro _;rfl):PT X e (tB t):=by
 intro pins s σ H Q I hw
 refine isTrue_plain (thn (h pins s σ H _ I hw) λv s1 au=>?_) (he _)
 obtain⟨x,H1,I1,r1,q1⟩:=au
 obtain⟨d,rfl,q⟩:=q1
 cases r1
 exact wpAny_truthy_bool ⟨H1,I1,q⟩
variable{tA tB':TT}{rest:List Expr}
def OX(t u:TT):TT:=λσ H Q=>t σ H λc H1=>if c=true then u σ H1 Q else Q false H1
def tOr(t u:TT):TT:=λσ H Q=>t σ H λc H1=>if c=true then Q true H1 else u σ H1 Q
def OY(t:TT):TT:=λσ H Q=>t σ H λc H1=>Q (!c) H1
theorem GB(ha:PT X a tA):PW X (.BoolOp .And [a] pos) tA:=by
 intro wh pins s σ H Q I h
 refine isTrue_and (thn (ha pins s σ H Q I h) λc s1 e=>?_)
 cases c with
 | true=>exact isTrue_and_nil e
 | false=>exact e
theorem J3(ha:PT X a tA):PW X (.BoolOp .Or [a] pos) tA:=by
 intro wh pins s σ H Q I h
 refine isTrue_or (thn (ha pins s σ H Q I h) λc s1 e=>?_)
 cases c with
 | false=>exact isTrue_or_nil e
 | true=>exact e
theorem J4(ha:PT X a tA)(hb:PW X (.BoolOp .And (b::rest) pos) tB'):PW X (.BoolOp .And (a::b::rest) pos) (OX tA tB'):=by
 intro wh pins s σ H Q I h
 refine isTrue_and (thn (ha pins s σ H _ I h) λc s1 au=>?_)
 obtain⟨H1,I1,q1⟩:=au
 cases c with
 | true=>exact hb wh pins s1 σ H1 Q I1 q1
 | false=>exact⟨H1,I1,q1⟩
theorem MR(ha:PT X a tA)(hb:PW X (.BoolOp .Or (b::rest) pos) tB'):PW X (.BoolOp .Or (a::b::rest) pos) (tOr tA tB'):=by
 intro wh pins s σ H Q I h
 refine isTrue_or (thn (ha pins s σ H _ I h) λc s1 au=>?_)
 obtain⟨H1,I1,q1⟩:=au
 cases c with
 | true=>exact⟨H1,I1,q1⟩
 | false=>exact hb wh pins s1 σ H1 Q I1 q1
theorem J5(ha:PT X a tA):PT X (.UnaryOp .Not a pos) (OY tA):=by
 intro pins s σ H Q I h
 exact isTrue_not (ha pins s σ H (λc H1=>Q (!c) H1) I h)
def MS(ta tb:TE):TE:=λσ H Q=>ta σ H λx H1=>∃c,x=.bl c∧if c=true then tb σ H1 Q else Q (.bl false) H1
def MT(ta:TE):TE:=λσ H Q=>ta σ H λx H1=>∃c,x=.bl c∧Q (.bl (!c)) H1
theorem J6{op}{t:TE}(h:PE X a t):PE X (.BoolOp op [a] pos) t:=λpins s σ H Q I hw=>BoolOp_one (h pins s σ H Q I hw)
theorem J7(ha:PE X a ta)(hb:PE X (.BoolOp .And (b::rest) pos) tb):PE X (.BoolOp .And (a::b::rest) pos) (MS ta tb):=by
 intro pins s σ H Q I h
 refine BoolOp_and (thn (ha pins s σ H _ I h) λv s1 au=>?_)
 obtain⟨x,H1,I1,r1,q1⟩:=au
 obtain⟨c,rfl,q1⟩:=q1
 cases r1
 refine wpAny_truthy_bool ?_
 cases c with
 | true=>exact hb pins s1 σ H1 Q I1 q1
 | false=>exact⟨.bl false,H1,I1,rfl,q1⟩
theorem J8(ha:PE X a ta):PE X (.UnaryOp .Not a pos) (MT ta):=by
 intro pins s σ H Q I h
 refine UnaryOp_ (thn (ha pins s σ H _ I h) λv s1 au=>?_)
 obtain⟨x,H1,I1,r1,q1⟩:=au
 obtain⟨c,rfl,q1⟩:=q1
 cases r1
 exact not_of (wpAny_truthy_bool ⟨.bl (!c),H1,I1,rfl,q1⟩)
def tIf(t:TT)(ta tb:TE):TE:=λσ H Q=>t σ H λc H1=>if c=true then ta σ H1 Q else tb σ H1 Q
theorem C6{c:Expr}(hc:PT X c tA)(ha:PE X a ta)(hb:PE X b tb):PE X (.IfExp c a b pos) (tIf tA ta tb):=by
 intro pins s σ H Q I h
 refine wpAny_IfExp (thn (hc pins s σ H _ I h) λd s1 au=>?_)
 obtain⟨H1,I1,q1⟩:=au
 cases d with
 | true=>exact ha pins s1 σ H1 Q I1 q1
 | false=>exact hb pins s1 σ H1 Q I1 q1
end
def SqL(K:PySem.W.Frag)(H:Hp)(a:Addr)(xs:List V):Prop :=
 Rd H a (.lst xs) ∨
  ∃(o:Obj) (its:Array Value) (n:Nat),K.lookup a=some o∧o.cls=.type "list"∧o.dict=none∧o.data=.seq its n∧its.size≤sizeLine∧Vals xs its.toList
def SqT(K:PySem.W.Frag)(H:Hp)(a:Addr)(xs:List V):Prop :=
 H a=some (.tup xs)
def OZ:Value→Option V
 | .none=>some .non
 | .bool b=>some (.bl b)
 | .int i _=>some (.int i)
 | .str x _=>some (.str x)
 | .bytes b _=>some (.byt b)
 | .float b _=>some (.flt b)
 | .ref a=>some (.ref a)
 | .type n=>some (.ty n)
 | _=>none
theorem RelV.abs{x:V}{u:Value}(r:RelV x u):OZ u=some x:=by
 cases x with
 | non=>cases r;rfl
 | bl _=>cases r;rfl
 | int _=>obtain⟨t,rfl⟩:=r;rfl
 | str _=>obtain⟨t,rfl⟩:=r;rfl
 | byt _=>obtain⟨t,rfl⟩:=r;rfl
 | flt _=>obtain⟨t,rfl⟩:=r;rfl
 | ref _=>cases r;rfl
 | ty _=>cases r;rfl
theorem RelV.inj{x y:V}{u:Value}(r:RelV x u)(q:RelV y u):x=y:=Option.some.inj (r.abs.symm.trans q.abs)
theorem Vals.inj:∀{xs ys:List V}{us:List Value},Vals xs us→Vals ys us→xs=ys
 | _,_,_,.nil,.nil=>rfl
 | _,_,_,.cons r t,.cons r' t'=>by rw[r.inj r',Vals.inj t t']
section
variable{X:Cx}{pins:List (Addr×Obj)}{σ:St}{H:Hp}{s:Shared}{a:Addr}{xs ys:List V}
theorem SqL.of{K:PySem.W.Frag}(h:H a=some (.lst xs)):SqL K H a xs:=.inl (.inl h)
theorem SqT.of{K:PySem.W.Frag}(h:H a=some (.tup xs)):SqT K H a xs:=h
theorem Inv.list(I:Inv X pins σ H s)(h:SqL X.K H a xs):∃its:List Value,Vals xs its∧PlainL s.heap a its.toArray∧xs.length≤sizeLine:=by
 rcases h with h|⟨o,its,n,hk,hc,hd,hs,hz,r⟩
 ·obtain⟨z,its,n,r,e⟩:=h.ok I.hok
  exact⟨its,r,⟨_,n,e,rfl,rfl,rfl⟩,z⟩
 ·refine⟨its.toList,r,⟨o,n,I.kIn a o hk,hc,hd,by simpa using hs⟩,?_⟩
  have e:=r.length
  simp only[Array.length_toList] at e
  lia
theorem Inv.tuple(I:Inv X pins σ H s)(h:SqT X.K H a xs):∃its:List Value,Vals xs its∧IsTup s.heap a its.toArray∧xs.length≤sizeLine:=by
 obtain⟨z,its,r,p⟩:=(show cw X.prog X.w H s.heap a (.tup xs) from I.hok a _ h)
 exact⟨its,r,p,z⟩
theorem Inv.vv(I:Inv X pins σ H s)(h:SqL X.K H a xs)(h':SqL X.K H a ys):xs=ys:=by
 obtain⟨its,r,⟨o,n,e,_,_,d⟩,_⟩:=I.list h
 obtain⟨its',r',⟨o',n',e',_,_,d'⟩,_⟩:=I.list h'
 rw[e] at e';cases e'
 rw[d] at d'
 injection d' with d1 _
 have:its=its':=by simpa using congrArg Array.toList d1
 subst this
 exact r.inj r'
theorem Inv.rW(I:Inv X pins σ H s)(h:SqT X.K H a xs)(h':SqT X.K H a ys):xs=ys:=by
 obtain⟨its,r,⟨o,e,_,n,d⟩,_⟩:=I.tuple h
 obtain⟨its',r',⟨o',e',_,n',d'⟩,_⟩:=I.tuple h'
 rw[e] at e';cases e'
 rw[d] at d'
 injection d' with d1 _
 have:its=its':=by simpa using congrArg Array.toList d1
 subst this
 exact r.inj r'
end
abbrev Cx.rB(X:Cx)(E:Value→Shared→Prop):Cx:={ X with xe:=E }
abbrev Cx.nox(X:Cx):Cx:=X.rB λ_ _=>False
theorem Cx.Ok.rB{X:Cx}(ok:X.Ok)(E:Value→Shared→Prop):(X.rB E).Ok :=
 ⟨ok.mod,ok.kind,ok.glob,ok.blt,ok.above,ok.inj,ok.has,ok.cab,ok.hd,ok.frames,ok.stk,ok.exf,ok.bs,ok.bsz,ok.tT,ok.xw,ok.lM,ok.frf⟩
theorem Cx.Ok.jU{X:Cx}{E:Value→Shared→Prop}(ok:(X.rB E).Ok):X.Ok :=
 ⟨ok.mod,ok.kind,ok.glob,ok.blt,ok.above,ok.inj,ok.has,ok.cab,ok.hd,ok.frames,ok.stk,ok.exf,ok.bs,ok.bsz,ok.tT,ok.xw,ok.lM,ok.frf⟩
section
variable{X:Cx}{pins:List (Addr×Obj)}{σ:St}{H:Hp}{s:Shared}{E:Value→Shared→Prop}
theorem Inv.rB(I:Inv X pins σ H s)(E:Value→Shared→Prop):Inv (X.rB E) pins σ H s:=⟨I.ok.rB E,I.os,I.bare,I.base,I.loc,I.cell,I.free,I.fZ,I.pin,I.hok,I.len⟩
theorem Inv.jU(I:Inv (X.rB E) pins σ H s):Inv X pins σ H s:=⟨I.ok.jU,I.os,I.bare,I.base,I.loc,I.cell,I.free,I.fZ,I.pin,I.hok,I.len⟩
theorem SP.jU{D:Ends}{f:Flow}{s':Shared}(h:SP (X.rB E) pins D f s'):SP X pins D f s':=by
 cases f with
 | next=>obtain⟨σ',H',I,q⟩:=h;exact⟨σ',H',I.jU,q⟩
 | brk=>obtain⟨σ',H',I,q⟩:=h;exact⟨σ',H',I.jU,q⟩
 | cont=>obtain⟨σ',H',I,q⟩:=h;exact⟨σ',H',I.jU,q⟩
 | ret u=>obtain⟨v,σ',H',I,r,q⟩:=h;exact⟨v,σ',H',I.jU,r,q⟩
theorem PSs.nox{st:List Stmt}{t:TS}(h:PSs X.nox st t):PSs X st t:=λpins s σ H D I hw =>
 wpAny_mono (h pins s σ H D (I.rB _) hw) (λ_ _ q=>q.jU) λ_ _ z=>False.elim z
end
section
variable{X:Cx}{st:Stmt}{rest:List Stmt}{t u:TS}{e:Expr}{te:TE}{pos:Pos}
def MU:TS:=λD σ H=>D.nx σ H
def O0(t u:TS):TS:=λD σ H=>t { D with nx:=u D } σ H
theorem GC:PSs X [] MU:=λ_ _ σ H _ I h=>wpAny_execs_nil ⟨σ,H,I,h⟩
theorem C7(h1:PS X st t)(h2:PSs X rest u):PSs X (st::rest) (O0 t u):=by
 intro pins s σ H D I h
 refine wpAny_execs_cons (thn (h1 pins s σ H { D with nx:=u D } I h) λf s1 q=>?_)
 cases f with
 | next =>
  obtain⟨σ',H',I',q⟩:=q
  exact h2 pins s1 σ' H' D I' q
 | ret v=>exact q
 | brk=>exact q
 | cont=>exact q
theorem GD(h1:PS X st t):PSs X [st] t:=by
 intro pins s σ H D I h
 refine wpAny_execs_cons (thn (h1 pins s σ H D I h) λf s1 q=>?_)
 cases f with
 | next=>exact wpAny_execs_nil q
 | ret v=>exact q
 | brk=>exact q
 | cont=>exact q
theorem Inv.quiet{pins:List (Addr×Obj)}{σ:St}{H:Hp}{s:Shared}(I:Inv X pins σ H s):interactive X.env=false:=by simp[interactive,I.ok.kind]
def MV(te:TE):TS:=λD σ H=>te σ H λ_ H1=>D.nx σ H1
theorem zF(he:PE X e te)(hs:swapsWith e none pos.line X.env=pure false:=by rfl):PS X (.Expr e pos) (MV te):=by
 intro pins s σ H D I h
 exact wpAny_Expr_any (thn (he pins s σ H _ I h) λv s1 ⟨x,H1,I1,r1,q1⟩=>⟨σ,H1,I1,q1⟩) I.quiet hs
def O1(te:TE):TS:=λD σ H=>te σ H D.rt
theorem J9(he:PE X e te):PS X (.Return (some e) pos) (O1 te):=by
 intro pins s σ H D I h
 exact wpAny_Return_some (thn (he pins s σ H _ I h) λv s1 ⟨x,H1,I1,r1,q1⟩=>⟨x,σ,H1,I1,r1,q1⟩)
def O2(c:TT)(t u:TS):TS:=λD σ H=>c σ H λb H1=>if b=true then t D σ H1 else u D σ H1
theorem MW{c:Expr}{a b:List Stmt}{tc:TT}(hc:PT X c tc)(ha:PSs X a t)(hb:PSs X b u):PS X (.If c a b pos) (O2 tc t u):=by
 intro pins s σ H D I h
 refine wpAny_If (thn (hc pins s σ H _ I h) λd s1 au=>?_)
 obtain⟨H1,I1,q1⟩:=au
 cases d with
 | true=>exact ha pins s1 σ H1 D I1 q1
 | false=>exact hb pins s1 σ H1 D I1 q1
def J_:TS:=λ_ _ _=>False
theorem C8:PS X st J_:=λ_ _ _ _ _ _ h=>h.elim
end
abbrev TG:=V→St→Hp→(St→Hp→Prop)→Prop
abbrev TGs:=List V→St→Hp→(St→Hp→Prop)→Prop
def PG(X:Cx)(target:Expr)(t:TG):Prop :=
 ∀(pins:List (Addr×Obj)) (s:Shared) (σ:St) (H:Hp) (v:V) (u:Value) (Q:St→Hp→Prop),Inv X pins σ H s→RelV v u→t v σ H Q →
  wpAny (model X.prog X.w) X.A (assign target X.env u) (λ_ s'=>∃σ' H',Inv X pins σ' H' s'∧Q σ' H') X.xe s
def PGs(X:Cx)(ts:List Expr)(t:TGs):Prop :=
 ∀(pins:List (Addr×Obj)) (s:Shared) (σ:St) (H:Hp) (vs:List V) (us:List Value) (Q:St→Hp→Prop),Inv X pins σ H s→Vals vs us→t vs σ H Q →
  wpAny (model X.prog X.w) X.A (assignInOrder ((assignEach ts X.env).map (·.2)) us) (λ_ s'=>∃σ' H',Inv X pins σ' H' s'∧Q σ' H') X.xe s
abbrev Ka:=V→V→V→Hp→(Hp→Prop)→Prop
def MX(X:Cx)(t:Ka):Prop :=
 ∀(pins:List (Addr×Obj)) (s:Shared) (σ:St) (H:Hp) (o i v:V) (ov iv u:Value) (Q:Hp→Prop),Inv X pins σ H s→RelV o ov→RelV i iv→RelV v u→t o i v H Q →
  wpAny (model X.prog X.w) X.A (setItem ov iv u) (λ_ s'=>∃H',Inv X pins σ H' s'∧Q H') X.xe s
section
variable{X:Cx}{pos:Pos}
def C9(i:Nat):TG:=λv σ H Q=>Q (σ.set i (some v)) H
theorem tW{i:Nat}{x:Str}(hN:X.N.Nodup)(hi:X.N[i]?=some x)(hx:Loc X.env.scope x)(hf:X.fn x=true∨X.env.scope.names.lookup x=some .local:=by first|exact .inl rfl|exact .inr rfl|assumption):PG X (.Name x pos) (C9 i):=by
 intro pins s σ H v u Q I r h
 exact wpAny_assign_Name (vt I hN hi hx r (λs' I'=>⟨_,H,I',h⟩) hf)
def O3:TGs:=λvs σ H Q=>vs=[]∧Q σ H
def MY(t:TG)(u:TGs):TGs:=λvs σ H Q=>∃v r,vs=v::r∧t v σ H λσ' H'=>u r σ' H' Q
theorem GF:PGs X [] O3:=by
 intro pins s σ H vs us Q I r h
 obtain⟨e,h⟩:=h
 subst e
 cases r
 exact assignInOrder_nil ⟨σ,H,I,h⟩
theorem vw{e:Expr}{es:List Expr}{t:TG}{u:TGs}(h1:PG X e t)(h2:PGs X es u)
  (hs:(assignEach (e::es) X.env).map (·.2)=assign e X.env::(assignEach es X.env).map (·.2):=by rfl):PGs X (e::es) (MY t u):=by
 intro pins s σ H vs us Q I r h
 obtain⟨v,vr,e1,h⟩:=h
 subst e1
 cases r with
 | cons r rr =>
  rw[hs]
  refine assignInOrder_cons (thn (h1 pins s σ H _ _ _ I r h) λ_ s1 au=>?_)
  obtain⟨σ1,H1,I1,q1⟩:=au
  exact h2 pins s1 σ1 H1 _ _ Q I1 rr q1
def O4(K:PySem.W.Frag)(n:Nat)(t:TGs):TG:=λv σ H Q=>∃a xs,v=.ref a∧SqT K H a xs∧xs.length=n∧t xs σ H Q
theorem Kb{es:List Expr}{k:Nat}{t:TGs}{n:Nat}(hc:X.calm=true)(h:PGs X es t)
  (hn:(assignEach es X.env).length=n:=by rfl) (hst:(assignEach es X.env).findIdx? (·.1)=none:=by rfl):PG X (.Tuple es k pos) (O4 X.K n t):=by
 intro pins s σ H v u Q I r hw
 obtain⟨a,xs,e1,hq,hl,hw⟩:=hw
 subst e1
 cases r
 obtain⟨its,rv,ht,hz⟩:=I.tuple hq
 refine assign_Tuple_tuple (I.ok.hd hc) ht (by simp[hn,← hl,rv.length]) hst λh' hx=>?_
 have I1:Inv X pins σ H { s with heap:=h' }:=I.kept (t':=s.toks) λb o e=>hx b o (Nat.ne_of_lt (Heap.lt_size e)) e
 exact h pins _ σ H xs _ Q I1 (by simpa using rv) hw
def O5(to ti:TE)(t:Ka):TG:=λv σ H Q=>to σ H λo H1=>ti σ H1 λi H2=>t o i v H2 λH3=>Q σ H3
theorem Kc{o i:Expr}{to ti:TE}{t:Ka}(ho:PE X o to)(hi:PE X i ti)(hs:MX X t)
  (ha:∀v,assign (.Subscript o i pos) X.env v=(do
   let ov ← holding [v] (eval o X.env)
   let iv ← holding [v,ov] (eval i X.env)
   standAt pos
   holding [v,ov,iv] (setItem ov iv v)
   release [v,ov,iv] []):=by intro _;rfl):PG X (.Subscript o i pos) (O5 to ti t):=by
 intro pins s σ H v u Q I r h
 rw[ha]
 refine wpAny_bind (wpAny_holding (thn (ho pins s σ H _ I h) λov s1 au=>?_))
 obtain⟨x,H1,I1,r1,q1⟩:=au
 refine wpAny_bind (wpAny_holding (thn (hi pins s1 σ H1 _ I1 q1) λiv s2 cK=>?_))
 obtain⟨y,H2,I2,r2,q2⟩:=cK
 refine wpAny_bind (wpAny_standAt (wpAny_bind (wpAny_holding (thn (hs pins s2 σ H2 x y v ov iv u _ I2 r1 r2 r q2) λ_ s3 vx=>?_))))
 obtain⟨H3,I3,q3⟩:=vx
 exact wpAny_release ⟨σ,H3,I3,q3⟩
def Ke(te:TE)(g:TG):TS:=λD σ H=>te σ H λx H1=>g x σ H1 D.nx
theorem Kf{tg e:Expr}{te:TE}{g:TG}(he:PE X e te)(hg:PG X tg g)(hs:swapsWithSole [tg] e pos.line X.env=pure false:=by rfl)(hw:swappedStores [tg] e X.env=pure none:=by rfl)
  (h1:(assignEach [tg] X.env).map (·.2)=[assign tg X.env]:=by rfl):PS X (.Assign [tg] e pos) (Ke te g):=by
 intro pins s σ H D I h
 refine wpAny_Assign_stores (thn (he pins s σ H _ I h) λv s1 au=>?_) hs hw
 obtain⟨x,H1,I1,r1,q1⟩:=au
 rw[h1]
 exact thn (hg pins s1 σ H1 x v _ I1 r1 q1) λ_ s2 q=>q
theorem Kg{i:Nat}{x:Str}{e:Expr}{te:TE}{pos':Pos}(hN:X.N.Nodup)(hi:X.N[i]?=some x)(hx:Loc X.env.scope x)(he:PE X e te)(hs:swapsWith e (some (.Name x pos')) pos.line X.env=pure false:=by rfl)(hf:X.fn x=true∨X.env.scope.names.lookup x=some .local:=by first|exact .inl rfl|exact .inr rfl|assumption) :
  PS X (.Assign [.Name x pos'] e pos) (Ke te (C9 i)):=by
 intro pins s σ H D I h
 refine wpAny_Assign_Name (thn (he pins s σ H _ I h) λv s1 au=>?_) hs
 obtain⟨y,H1,I1,r1,q1⟩:=au
 exact vt I1 hN hi hx r1 (λs2 I2=>⟨_,H1,I2,q1⟩) hf
end
section
variable{X:Cx}{pos:Pos}
def Kh(c:TT)(tb:TS):TS:=λD σ H=>∃W:Nat→St→Hp→Prop,(∃m,W m σ H)∧∀m σ H,W m σ H →
 c σ H λb H1=>if b=true then ∃N:St→Hp→Prop,(∀σ' H',N σ' H'→∃m',m'<m∧W m' σ' H')∧tb { D with nx:=N,ct:=N,bk:=D.nx } σ H1 else D.nx σ H1
theorem C_{c:Expr}{body:List Stmt}{tc:TT}{tb:TS}(hp:PassesOwn (model X.prog X.w) X.A X.env X.xe)(hc:PT X c tc)(hb:PSs X body tb):PS X (.While c body [] pos) (Kh tc tb):=by
 intro pins s σ H D I h
 obtain⟨W,⟨m0,w0⟩,turn⟩:=h
 refine wpAny_While (codeAny_whileLoop (λn s'=>∃σ' H',Inv X pins σ' H' s'∧W n σ' H') ?_ m0 ⟨σ,H,I,w0⟩)
 rintro n s1 ⟨σ1,H1,I1,w1⟩
 refine wpAny_passesOwn hp (thn (hc pins s1 σ1 H1 _ I1 (turn n σ1 H1 w1)) λb s2 au=>?_)
 obtain⟨H2,I2,q2⟩:=au
 cases b with
 | true =>
  obtain⟨N,hN,q2⟩:=q2
  rw[if_pos rfl]
  refine wpAny_passesOwn hp (thn (hb pins s2 σ1 H2 _ I2 q2) λf s3 q3=>?_)
  cases f with
  | next =>
   obtain⟨σ3,H3,I3,n3⟩:=q3
   obtain⟨m',hm,w3⟩:=hN σ3 H3 n3
   exact⟨m',hm,σ3,H3,I3,w3⟩
  | cont =>
   obtain⟨σ3,H3,I3,n3⟩:=q3
   obtain⟨m',hm,w3⟩:=hN σ3 H3 n3
   exact⟨m',hm,σ3,H3,I3,w3⟩
  | brk=>exact q3
  | ret v=>exact q3
 | false =>
  rw[if_neg Bool.false_ne_true]
  exact wpAny_execs_nil ⟨σ1,H2,I2,q2⟩
end
structure It where
 go:Nat→Hp→Prop
 yld:Nat→Hp→V→Hp→Prop
 stop:Nat→Hp→Prop
def jV(X:Cx)(pins:List (Addr×Obj))(H:Hp)(b:Addr):Prop :=
 H b=none∧b≠X.env.locals∧b∉X.fs∧(b∈X.ex∨X.s₀.heap.objs.size≤b)∧(∀x c,X.env.cells.lookup x=some c→c≠b)∧∀p∈X.pn++pins,p.1≠b
theorem Inv.tX{X:Cx}{pins:List (Addr×Obj)}{σ:St}{H H':Hp}{s:Shared}{b:Addr}(I:Inv X pins σ H s)(hb:s.heap.objs.size≤b)(hn:H' b=none):jV X pins H' b:=by
 refine⟨hn,Nat.ne_of_gt (Nat.lt_of_lt_of_le I.lt hb),I.OT hb,.inr (Nat.le_trans I.sz hb),λx c e z=>?_,λp hp z=>?_⟩
 ·obtain⟨v,q⟩:=I.cell x c e
  exact absurd (Nat.lt_of_lt_of_le q.lt (by rw[z];exact hb)) (Nat.lt_irrefl _)
 ·exact absurd (Nat.lt_of_lt_of_le (Heap.lt_size (I.pin p hp).1) (by rw[z];exact hb)) (Nat.lt_irrefl _)
structure Turn(P:Program)(w:World)(K:PySem.W.Frag)(tg:Expr)(J:It)(fp:List Addr)(it:Addr)(tn:Nat→Heap→Prop):Prop where
 mem:it∈fp
 obj:∀i h,tn i h→∀b∈fp,∃o,h.get? b=some o∧∀v,o.data≠.cell v
 keep:∀i h h',tn i h→(∀b∈fp,∀o,h.get? b=some o→h'.get? b=some o)→tn i h'
 item:∀(X:Cx),X.prog=P→X.w=w→X.K=K→X.calm=true→∀(i:Nat) (pins:List (Addr×Obj)) (s:Shared) (σ:St) (H:Hp) (E:Value→Shared→Prop),Inv X pins σ H s→(∀b∈fp,jV X pins H b)→tn i s.heap→J.go i H →
  wpAny (model P w) X.A (pyNext (.ref it)) (λr s1=>∃u,r=some u ∧
   wpAny (model P w) X.A (letOwnedTupleGo tg (.ref it) u) (λ_ s2=>∃x H',Inv X pins σ H' s2∧RelV x u∧J.yld i H x H'∧tn (i+1) s2.heap∧∀b∈fp,H' b=none) E s1) E s
 done:∀(X:Cx),X.prog=P→X.w=w→X.K=K→X.calm=true→∀(i:Nat) (pins:List (Addr×Obj)) (s:Shared) (σ:St) (H:Hp) (E:Value→Shared→Prop),Inv X pins σ H s→(∀b∈fp,jV X pins H b)→tn i s.heap→J.stop i H →
  wpAny (model P w) X.A (pyNext (.ref it)) (λr s1=>r=none∧Inv X pins σ H s1) E s
 self:∀(A:Around) (i:Nat) (s:Shared) (Q:Value→Shared→Prop) (E:Value→Shared→Prop),tn i s.heap→Q (.ref it) s→wpAny (model P w) A (pyIter (.ref it)) Q E s
abbrev TI:=St→Hp→(It→Hp→Prop)→Prop
def PIE(X:Cx)(pins:List (Addr×Obj))(σ:St)(tg:Expr)(R:It→Hp→Prop)(itv:Value)(s2:Shared):Prop :=
 ∃(it:Addr) (fp:List Addr) (tn:Nat→Heap→Prop) (J:It) (H':Hp),itv=.ref it∧Inv X pins σ H' s2∧Turn X.prog X.w X.K tg J fp it tn∧tn 0 s2.heap∧(∀b∈fp,jV X pins H' b)∧R J H'
def PI(X:Cx)(tg iter:Expr)(wi:TI):Prop :=
 ∀(pins:List (Addr×Obj)) (s:Shared) (σ:St) (H:Hp) (R:It→Hp→Prop),Inv X pins σ H s→wi σ H R →
  wpAny (model X.prog X.w) X.A (eval iter X.env) (λv s1=>wpAny (model X.prog X.w) X.A (pyIter v) (PIE X pins σ tg R) X.xe s1) X.xe s
theorem zG {M : Model} {A : Around} {E : Value → Shared → Prop} {s : Shared} {tg : Expr} {it : Addr} {u : Value} {o : Obj} {n : String} {vs : Array Value} {Q : Unit → Shared → Prop} (ho : s.heap.get? it = some o) (hc : o.cls = .type n) (hd : o.data = .fields vs)
    (hn : ["enumerate", "zip", "dict_itemiterator", "dict_reverseitemiterator", "odict_iterator", "itertools.zip_longest", "itertools.pairwise"].contains n = false) (hQ : Q () s) : wpAny M A (letOwnedTupleGo tg (.ref it) u) Q E s := by
  unfold letOwnedTupleGo
  cases tg <;> first
    | exact wpAny_pure hQ
    | (cases u <;> first
        | exact wpAny_pure hQ
        | (refine wpAny_bind (wpAny_load ho ?_)
           rw [hc, hd]
           show wpAny M A (if (["enumerate", "zip", "dict_itemiterator", "dict_reverseitemiterator", "odict_iterator", "itertools.zip_longest", "itertools.pairwise"].contains n && vs[0]? == some (rawInt _)) = true then _ else _) Q E s
           rw [if_neg (by intro h; rw [hn, Bool.false_and] at h; cases h)]
           exact wpAny_pure hQ))
def Itl(K:PySem.W.Frag)(a:Addr):It :=
 ⟨λi H=>∃xs x,SqL K H a xs∧xs[i]?=some x,λi H x H'=>H'=H∧∀xs,SqL K H a xs→xs[i]?=some x,λi H=>∃xs,SqL K H a xs∧xs.length≤i⟩
def Itt(K:PySem.W.Frag)(a:Addr):It :=
 ⟨λi H=>∃xs x,SqT K H a xs∧xs[i]?=some x,λi H x H'=>H'=H∧∀xs,SqT K H a xs→xs[i]?=some x,λi H=>∃xs,SqT K H a xs∧xs.length≤i⟩
def Itr(lo:Int)(n:Nat):It:=⟨λi _=>i<n,λi H x H'=>H'=H∧x=.int (lo+i),λi _=>n≤i⟩
theorem Br{P:Program}{w:World}{K:PySem.W.Frag}{tg:Expr}(a it:Addr):Turn P w K tg (Itl K a) [it] it (λi h=>h.IsListIter it a i) where
 mem:=by simp
 obj:=λi h st b hb=>by
  have e:b=it:=by simpa using hb
  subst e
  obtain⟨o,e,c,d⟩:=st
  exact⟨o,e,λv z=>by rw[d] at z;cases z⟩
 keep:=λi h h' st k=>st.at λo e=>k it (by simp) o e
 item:=by
  intro X hP hw hK hc i pins s σ H E I hf st hg
  subst hP hw hK
  obtain⟨xs,x,hq,hx⟩:=hg
  obtain⟨its,rv,p,hz⟩:=I.list hq
  obtain⟨u,hu,ru⟩:=rv.get hx
  obtain⟨f0,f1,f2,f3,f4,f5⟩:=hf it (by simp)
  refine wpAny_pyNext_list_item st p.isList (x:=u) (by simpa using hu) λh' st' sb=>?_
  have I1:Inv X pins σ H { s with heap:=h' }:=I.turned (t':=s.toks) (λb o hb e=>(sb.2 b hb).trans e) f0 f1 f3 f4 f5
  obtain⟨o,e,c,d⟩:=id st'
  exact⟨u,rfl,zG (s:={ s with heap:=h' }) e c d (by decide) ⟨x,H,I1,ru,⟨rfl,λys hy=>by rw[I.vv hy hq];exact hx⟩,st',λb hb=>(hf b hb).1⟩⟩
 done:=by
  intro X hP hw hK hc i pins s σ H E I hf st hg
  subst hP hw hK
  obtain⟨xs,hq,hx⟩:=hg
  obtain⟨its,rv,p,hz⟩:=I.list hq
  obtain⟨f0,f1,f2,f3,f4,f5⟩:=hf it (by simp)
  have hl:=rv.length
  exact wpAny_pyNext_list_end (I.ok.hd hc) st p.isList (by simp;lia) λh' eb=>⟨rfl,I.turned (t':=s.toks) (λb o hb e=>eb b o hb e) f0 f1 f3 f4 f5⟩
 self:=λ_ _ _ _ _ st h=>wpAny_pyIter_listiter st h
theorem xx{P:Program}{w:World}{K:PySem.W.Frag}{tg:Expr}(a it:Addr):Turn P w K tg (Itt K a) [it] it (λi h=>h.IsTupleIter it a i) where
 mem:=by simp
 obj:=λi h st b hb=>by
  have e:b=it:=by simpa using hb
  subst e
  obtain⟨o,e,c,d⟩:=st
  exact⟨o,e,λv z=>by rw[d] at z;cases z⟩
 keep:=λi h h' st k=>st.at λo e=>k it (by simp) o e
 item:=by
  intro X hP hw hK hc i pins s σ H E I hf st hg
  subst hP hw hK
  obtain⟨xs,x,hq,hx⟩:=hg
  obtain⟨its,rv,p,hz⟩:=I.tuple hq
  obtain⟨u,hu,ru⟩:=rv.get hx
  obtain⟨f0,f1,f2,f3,f4,f5⟩:=hf it (by simp)
  refine wpAny_pyNext_tuple_item st (show s.heap.IsTuple a its.toArray from p) (x:=u) (by simpa using hu) λh' st' sb=>?_
  have I1:Inv X pins σ H { s with heap:=h' }:=I.turned (t':=s.toks) (λb o hb e=>(sb.2 b hb).trans e) f0 f1 f3 f4 f5
  obtain⟨o,e,c,d⟩:=id st'
  exact⟨u,rfl,zG (s:={ s with heap:=h' }) e c d (by decide) ⟨x,H,I1,ru,⟨rfl,λys hy=>by rw[I.rW hy hq];exact hx⟩,st',λb hb=>(hf b hb).1⟩⟩
 done:=by
  intro X hP hw hK hc i pins s σ H E I hf st hg
  subst hP hw hK
  obtain⟨xs,hq,hx⟩:=hg
  obtain⟨its,rv,p,hz⟩:=I.tuple hq
  obtain⟨f0,f1,f2,f3,f4,f5⟩:=hf it (by simp)
  have hl:=rv.length
  exact wpAny_pyNext_tuple_end (I.ok.hd hc) st (show s.heap.IsTuple a its.toArray from p) (by simp;lia) λh' eb=>⟨rfl,I.turned (t':=s.toks) (λb o hb e=>eb b o hb e) f0 f1 f3 f4 f5⟩
 self:=λ_ _ _ _ _ st h=>wpAny_pyIter_tupleiter st h
theorem xy{P:Program}{w:World}{K:PySem.W.Frag}{tg:Expr}(it:Addr)(lo:Int)(n:Nat):Turn P w K tg (Itr lo n) [it] it (λi h=>IsRangeIter h it (lo+(i:Nat)*1) ((n:Int)-(i:Nat)) 1) where
 mem:=by simp
 obj:=λi h st b hb=>by
  have e:b=it:=by simpa using hb
  subst e
  exact⟨_,st,λv z=>by
   have z':Data.fields _=Data.cell v:=z
   cases z'⟩
 keep:=λi h h' st k=>k it (by simp) _ st
 item:=by
  intro X hP hw hK hc i pins s σ H E I hf st hg
  subst hP hw hK
  obtain⟨f0,f1,f2,f3,f4,f5⟩:=hf it (by simp)
  have W:=Walks.range (prog:=X.prog) (w:=X.w) (I.ok.hd hc) it lo 1 n
  refine W.item i s _ _ hg st λv h' tk hv st' kk=>?_
  obtain⟨t,rfl⟩:=hv
  have I1:Inv X pins σ H { s with heap:=h',toks:=tk }:=I.turned (λb o hb e=>kk b o (by simpa using hb) e) f0 f1 f3 f4 f5
  refine⟨_,rfl,zG (s:={ s with heap:=h',toks:=tk }) (n:="range_iterator") st' rfl rfl (by decide) ⟨.int (lo+i),H,I1,⟨t,?_⟩,⟨rfl,rfl⟩,st',λb hb=>(hf b hb).1⟩⟩
  rw[Int.mul_one]
 done:=by
  intro X hP hw hK hc i pins s σ H E I hf st hg
  subst hP hw hK
  obtain⟨f0,f1,f2,f3,f4,f5⟩:=hf it (by simp)
  exact wpAny_pyNext_range_end (I.ok.hd hc) st (by have:n≤i:=hg;lia) λh' eb=>⟨rfl,I.turned (t':=s.toks) (λb o hb e=>eb b o hb e) f0 f1 f3 f4 f5⟩
 self:=λ_ _ _ _ _ st h=>wpAny_pyIter_rangeiter st h
section
variable{X:Cx}{tg:Expr}
theorem vy{pins:List (Addr×Obj)}{σ:St}{H:Hp}{s:Shared}{R:It→Hp→Prop}{E:Value→Shared→Prop}{lo hi:Int}{t u v:Tok}{tk:Nat}(I:Inv X pins σ H s)(h1:-(2 ^ 62)≤lo)(h2:lo<2 ^ 62)(h3:-(2 ^ 62)≤hi)(h4:hi<2 ^ 62)
  (q:R (Itr lo (hi-lo).toNat) H):wpAny (model X.prog X.w) X.A (pyIter (.ref s.heap.objs.size)) (PIE X pins σ tg R) E { s with heap:=s.heap.push { cls:=.type "range",data:=.fields #[.int lo t,.int hi u,.int 1 v] },toks:=tk }:=by
 refine wpAny_pyIter_range (IsRange.new ..) (small_one h1 h2 h3 h4) ?_
 have I1:Inv X pins σ H { s with heap:=s.heap.push { cls:=.type "range",data:=.fields #[.int lo t,.int hi u,.int 1 v] },toks:=tk }:=I.kept λb o e=>Heap.get?_push_of_some _ e
 refine⟨(s.heap.push { cls:=.type "range",data:=.fields #[.int lo t,.int hi u,.int 1 v] }).objs.size,[(s.heap.push { cls:=.type "range",data:=.fields #[.int lo t,.int hi u,.int 1 v] }).objs.size],_,_,H,rfl,
  I1.kept (t':=tk) λb o e=>Heap.get?_push_of_some _ e,xy _ lo (hi-lo).toNat,?_,λb hb=>?_,q⟩
 ·have e1:lo+((0:Nat):Int)*1=lo:=by simp
  have e2:(((hi-lo).toNat:Nat):Int)-((0:Nat):Int)=Builtin.Range.rangeSize lo hi 1:=by rw[rangeSize_one];split<;>lia
  show IsRangeIter _ _ (lo+((0:Nat):Int)*1) ((((hi-lo).toNat:Nat):Int)-((0:Nat):Int)) 1
  rw[e1,e2]
  exact Heap.get?_push_size _ rfl
 ·have e:b=(s.heap.push { cls:=.type "range",data:=.fields #[.int lo t,.int hi u,.int 1 v] }).objs.size:=by simpa using hb
  subst e
  exact I1.tX (Nat.le_refl _) (I1.hok.fresh (Nat.le_refl _))
def MZ(ta:TA):TI:=λσ H R=>ta σ H λvs H1=>∃j:Int,vs=[.int j]∧-(2 ^ 62)≤j∧j<2 ^ 62∧R (Itr 0 j.toNat) H1
def M0(ta:TA):TI:=λσ H R=>ta σ H λvs H1=>∃i j:Int,vs=[.int i,.int j]∧(-(2 ^ 62)≤i∧i<2 ^ 62∧-(2 ^ 62)≤j∧j<2 ^ 62)∧R (Itr i (j-i).toNat) H1
theorem Bs{a:Expr}{ta:TA}{p pos:Pos}(hg:Gl X "range")(hm:X.mg "range"=none)(ha:PA X [a] ta)(hs:starEach [a] X.env=[(false,eval a X.env)]:=by rfl):PI X tg (.Call (.Name "range" p) [a] [] pos) (MZ ta):=by
 intro pins s σ H R I h
 refine Call_ (lO I hg hm boot_range (PyProof.Rows.callWith_type1 (thn (ha pos pins s σ H _ I h) λus s1 au=>?_) hs rfl))
 obtain⟨vs,H1,I1,r1,q1⟩:=au
 obtain⟨j,e,q1,q2,q⟩:=q1
 subst e
 cases r1 with
 | cons r rr =>
  cases rr
  obtain⟨t,rfl⟩:=r
  exact call_range_1 (vy I1 (by lia) (by lia) q1 q2 (by simpa using q))
theorem Bt{a b:Expr}{ta:TA}{p pos:Pos}(hg:Gl X "range")(hm:X.mg "range"=none)(ha:PA X [a,b] ta)(hs:starEach [a,b] X.env=[(false,eval a X.env),(false,eval b X.env)]:=by rfl)(hs2:starEach [b] X.env=[(false,eval b X.env)]:=by rfl) :
  PI X tg (.Call (.Name "range" p) [a,b] [] pos) (M0 ta):=by
 intro pins s σ H R I h
 refine Call_ (lO I hg hm boot_range (PyProof.Rows.callWith_type1 (thn (ha pos pins s σ H _ I h) λus s1 au=>?_) (by rw[hs,hs2]) (by rw[hs2];rfl)))
 obtain⟨vs,H1,I1,r1,q1⟩:=au
 obtain⟨i,j,e,⟨q1,q2,q3,q4⟩,q⟩:=q1
 subst e
 cases r1 with
 | cons r rr =>
  cases rr with
  | cons r' rr =>
   cases rr
   obtain⟨t,rfl⟩:=r
   obtain⟨t',rfl⟩:=r'
   exact call_range_2 (vy I1 q1 q2 q3 q4 q)
def O6(wi:TI)(g:TG)(tb:TS):TS:=λD σ H=>wi σ H λJ H1=>∃W:Nat→Nat→St→Hp→Prop,(∃m,W 0 m σ H1)∧∀i m σ H,W i m σ H →
 (J.stop i H∧D.nx σ H)∨(J.go i H∧∃N:St→Hp→Prop,(∀σ' H',N σ' H'→∃m',m'<m∧W (i+1) m' σ' H')∧∀x H',J.yld i H x H'→g x σ H' λσ2 H2=>tb { D with nx:=N,ct:=N,bk:=D.nx } σ2 H2)
def pZ(fp:List Addr)(h:Heap):List (Addr×Obj):=fp.filterMap λb=>(h.get? b).map λo=>(b,o)
theorem i7{fp:List Addr}{h:Heap}{b:Addr}{o:Obj}(hb:b∈fp)(e:h.get? b=some o):(b,o)∈pZ fp h:=List.mem_filterMap.mpr ⟨b,hb,by rw[e];rfl⟩
theorem Bu{fp:List Addr}{h:Heap}{p:Addr×Obj}(hp:p∈pZ fp h):p.1∈fp∧h.get? p.1=some p.2:=by
 obtain⟨b,hb,e⟩:=List.mem_filterMap.mp hp
 cases q:h.get? b with
 | none=>rw[q] at e;cases e
 | some o =>
  rw[q] at e
  have e':(b,o)=p:=Option.some.inj e
  subst e'
  exact⟨hb,q⟩
theorem Inv.pinned{pins:List (Addr×Obj)}{σ:St}{H:Hp}{s:Shared}{fp:List Addr}(I:Inv X pins σ H s)(hf:∀b∈fp,jV X pins H b)(ho:∀b∈fp,∃o,s.heap.get? b=some o∧∀v,o.data≠.cell v):Inv X (pins++pZ fp s.heap) σ H s :=
 I.zE λp hp=>(List.mem_append.mp hp).elim (λz=>I.pin p (List.mem_append_right _ z)) λz=>by
  obtain⟨hb,e⟩:=Bu z
  obtain⟨f0,f1,f2,_⟩:=hf p.1 hb
  obtain⟨o,e',d⟩:=ho p.1 hb
  rw[e] at e';cases e'
  exact⟨e,f0,f1,f2,d⟩
theorem Inv.mv{pins pl:List (Addr×Obj)}{σ:St}{H:Hp}{s:Shared}(I:Inv X (pins++pl) σ H s):Inv X pins σ H s:=I.zE λp hp=>I.pin p (List.mem_append_right _ (List.mem_append_left _ hp))
theorem Ki{iter:Expr}{body:List Stmt}{wi:TI}{g:TG}{tb:TS}{pos:Pos}(hp:PassesOwn (model X.prog X.w) X.A X.env X.xe)(hc:X.calm=true)(hi:PI X tg iter wi)(hg:PG X tg g)(hb:PSs X body tb)
  (hs:∀x,foldedSetIterable iter X.env x=pure x:=by intro _;rfl):PS X (.For tg iter body [] pos) (O6 wi g tb):=by
 intro pins s σ H D I h
 refine wpAny_For (thn (hi pins s σ H _ I h) λv s1 h1=>thn h1 λitv s2 h2=>?_) hs
 obtain⟨it,fp,tn,J,H2,e,I2,T,st2,f2,W,⟨m0,w0⟩,turn⟩:=h2
 subst e
 have xA:∀{H':Hp},(∀b∈fp,H' b=none)→∀b∈fp,jV X pins H' b:=λhn b hb=>⟨hn b hb,(f2 b hb).2⟩
 refine codeAny_forLoop_any (λn s'=>∃i σ' H',Inv X pins σ' H' s'∧tn i s'.heap∧(∀b∈fp,H' b=none)∧W i n σ' H') ?_ m0 ⟨0,σ,H2,I2,st2,λb hb=>(f2 b hb).1,w0⟩
 rintro n s3 ⟨i,σ3,H3,I3,st3,fr3,w3⟩
 rcases turn i n σ3 H3 w3 with ⟨stop,qn⟩|⟨go,N,hN,step⟩
 ·refine wpAny_passesOwn hp (thn (T.done X rfl rfl rfl hc i pins s3 σ3 H3 X.xe I3 (xA fr3) st3 stop) λr s4 ⟨hr,I4⟩=>?_)
  subst hr
  exact wpAny_execs_nil ⟨σ3,H3,I4,qn⟩
 ·refine wpAny_passesOwn hp (thn (T.item X rfl rfl rfl hc i pins s3 σ3 H3 X.xe I3 (xA fr3) st3 go) λr s4 ⟨u,hr,h4⟩=>?_)
  subst hr
  refine wpAny_passesOwn hp (thn h4 λ_ s5 au=>?_)
  obtain⟨x,H5,I5,r5,y5,st5,fr5⟩:=au
  have I5':=I5.pinned (xA fr5) (T.obj _ _ st5)
  refine wpAny_passesOwn hp (thn (hg _ s5 σ3 H5 x u _ I5' r5 (step x H5 y5)) λ_ s6 cK=>?_)
  obtain⟨σ6,H6,I6,q6⟩:=cK
  refine wpAny_passesOwn hp (thn (hb _ s6 σ6 H6 _ I6 q6) λf s7 q7=>?_)
  have again:∀{σ7:St}{H7:Hp},Inv X (pins++pZ fp s5.heap) σ7 H7 s7→N σ7 H7→∃m,m<n∧∃i σ' H',Inv X pins σ' H' s7∧tn i s7.heap∧(∀b∈fp,H' b=none)∧W i m σ' H':=λ{σ7 H7} I7 n7=>by
   obtain⟨m',hm,w7⟩:=hN σ7 H7 n7
   refine⟨m',hm,i+1,σ7,H7,I7.mv,T.keep _ _ _ st5 λb hb o e=>(I7.pin (b,o) (List.mem_append_right _ (List.mem_append_right _ (i7 hb e)))).1,λb hb=>?_,w7⟩
   obtain⟨o,e,d⟩:=T.obj _ _ st5 b hb
   exact(I7.pin (b,o) (List.mem_append_right _ (List.mem_append_right _ (i7 hb e)))).2.1
  cases f with
  | next=>obtain⟨σ7,H7,I7,n7⟩:=q7;exact again I7 n7
  | cont=>obtain⟨σ7,H7,I7,n7⟩:=q7;exact again I7 n7
  | brk=>obtain⟨σ7,H7,I7,q7⟩:=q7;exact⟨σ7,H7,I7.mv,q7⟩
  | ret v=>obtain⟨x7,σ7,H7,I7,r7,q7⟩:=q7;exact⟨x7,σ7,H7,I7.mv,r7,q7⟩
end
abbrev R2:=V→V→Hp→VK→Prop
def OpR(X:Cx)(f:Value→Value→Sem Value)(r:R2):Prop :=
 ∀(pins:List (Addr×Obj)) (s:Shared) (σ:St) (H:Hp) (x y:V) (v u:Value) (Q:VK),Inv X pins σ H s→RelV x v→RelV y u→r x y H Q →
  wpAny (model X.prog X.w) X.A (f v u) (EP X pins σ Q) X.xe s
def UnR(X:Cx)(f:Value→Sem Value)(r:V→Hp→VK→Prop):Prop :=
 ∀(pins:List (Addr×Obj)) (s:Shared) (σ:St) (H:Hp) (x:V) (v:Value) (Q:VK),Inv X pins σ H s→RelV x v→r x H Q →
  wpAny (model X.prog X.w) X.A (f v) (EP X pins σ Q) X.xe s
def cT(X:Cx)(f:Value)(r:List V→Hp→VK→Prop):Prop :=
 ∀(pins:List (Addr×Obj)) (s:Shared) (σ:St) (H:Hp) (xs:List V) (us:List Value) (Q:VK),Inv X pins σ H s→Vals xs us→r xs H Q →
  wpAny (model X.prog X.w) X.A (call f us) (EP X pins σ Q) X.xe s
def tOp(r:R2)(ta tb:TE):TE:=λσ H Q=>ta σ H λx H1=>tb σ H1 λy H2=>r x y H2 Q
def tUn(r:V→Hp→VK→Prop)(ta:TE):TE:=λσ H Q=>ta σ H λx H1=>r x H1 Q
def rI(C:Int→Int→Prop)(g:Int→Int→V):R2:=λx y H Q=>∃i j,x=.int i∧y=.int j∧C i j∧Q (g i j) H
def rI0(g:Int→Int→V):R2:=λx y H Q=>∃i j,x=.int i∧y=.int j∧Q (g i j) H
def rU(g:Int→V):V→Hp→VK→Prop:=λx H Q=>∃i,x=.int i∧Q (g i) H
section
variable{X:Cx}{a b c:Expr}{ta tb tc:TE}{pos:Pos}
theorem Kj(ha:PE X a ta)(hb:PE X b tb){pins:List (Addr×Obj)}{s:Shared}{σ:St}{H:Hp}{R:V→V→Hp→Prop}(I:Inv X pins σ H s)
  (h:ta σ H λx H1=>tb σ H1 λy H2=>R x y H2) {Q:Value→Shared→Prop}{f:Value→Value→Sem Value}
  (hf:∀v u s2 x y H2,Inv X pins σ H2 s2→RelV x v→RelV y u→R x y H2→wpAny (model X.prog X.w) X.A (f v u) Q X.xe s2) :
  wpAny (model X.prog X.w) X.A (eval a X.env) (λv s₁=>wpAny (model X.prog X.w) X.A (eval b X.env) (λu s₂=>wpAny (model X.prog X.w) X.A (f v u) Q X.xe s₂) X.xe s₁) X.xe s:=by
 refine thn (ha pins s σ H _ I h) λv s1 au=>?_
 obtain⟨x,H1,I1,r1,q1⟩:=au
 refine thn (hb pins s1 σ H1 _ I1 q1) λu s2 cK=>?_
 obtain⟨y,H2,I2,r2,q2⟩:=cK
 exact hf v u s2 x y H2 I2 r1 r2 q2
theorem Jm{op:Operator}{r:R2}(ho:OpR X (binaryOp op) r)(ha:PE X a ta)(hb:PE X b tb):PE X (.BinOp a op b pos) (tOp r ta tb):=by
 intro pins s σ H Q I h
 exact wpAny_BinOp (Kj ha hb I h λv u s2 x y H2 I2 rx ry q=>ho pins s2 σ H2 x y v u Q I2 rx ry q)
theorem M3{op:UnaryOp}{r:V→Hp→VK→Prop}(ho:UnR X (unaryOp op) r)(ha:PE X a ta):PE X (.UnaryOp op a pos) (tUn r ta):=by
 intro pins s σ H Q I h
 exact UnaryOp_ (thn (ha pins s σ H _ I h) λv s1 ⟨x,H1,I1,r1,q1⟩=>ho pins s1 σ H1 x v Q I1 r1 q1)
theorem opI{f:Value→Value→Sem Value}{C:Int→Int→Prop}{g:Int→Int→Int}
  (rule:∀(i j:Int) (t u:Tok) (s:Shared) (Q:Value→Shared→Prop) (E:Value→Shared→Prop),C i j→Q (.int (g i j) s.toks) { s with toks:=s.toks+1 }→wpAny (model X.prog X.w) X.A (f (.int i t) (.int j u)) Q E s) :
  OpR X f (rI C λi j=>.int (g i j)):=by
 intro pins s σ H x y v u Q I rx ry h
 obtain⟨i,j,rfl,rfl,hc,q⟩:=h
 obtain⟨t,rfl⟩:=rx
 obtain⟨t',rfl⟩:=ry
 exact rule i j t t' s _ _ hc ⟨.int (g i j),H,I.tok _,⟨_,rfl⟩,q⟩
theorem M4{f:Value→Value→Sem Value}{g:Int→Int→Int}
  (rule:∀(i j:Int) (t u:Tok) (s:Shared) (Q:Value→Shared→Prop) (E:Value→Shared→Prop),Q (.int (g i j) s.toks) { s with toks:=s.toks+1 }→wpAny (model X.prog X.w) X.A (f (.int i t) (.int j u)) Q E s) :
  OpR X f (rI0 λi j=>.int (g i j)):=by
 intro pins s σ H x y v u Q I rx ry h
 obtain⟨i,j,rfl,rfl,q⟩:=h
 obtain⟨t,rfl⟩:=rx
 obtain⟨t',rfl⟩:=ry
 exact rule i j t t' s _ _ ⟨.int (g i j),H,I.tok _,⟨_,rfl⟩,q⟩
theorem Kk{f:Value→Value→Sem Value}{g:Int→Int→Bool}
  (rule:∀(i j:Int) (t u:Tok) (s:Shared) (Q:Value→Shared→Prop) (E:Value→Shared→Prop),Q (.bool (g i j)) s→wpAny (model X.prog X.w) X.A (f (.int i t) (.int j u)) Q E s) :
  OpR X f (rI0 λi j=>.bl (g i j)):=by
 intro pins s σ H x y v u Q I rx ry h
 obtain⟨i,j,rfl,rfl,q⟩:=h
 obtain⟨t,rfl⟩:=rx
 obtain⟨t',rfl⟩:=ry
 exact rule i j t t' s _ _ ⟨.bl (g i j),H,I,rfl,q⟩
def Kl(i j:Int):Prop:=0<j∧j<1073741824
def Dc(i j:Int):Prop:=(-(2 ^ 64)<i∧i<2 ^ 64)∨(-(2 ^ 64)<j∧j<2 ^ 64)
theorem Dc.ok{i j:Int}(h:Dc i j):IntMulOk i j:=by
 rcases h with ⟨h1,h2⟩|⟨h1,h2⟩
 ·exact .of_left (intBits_le_64 h1 h2)
 ·exact .of_right (intBits_le_64 h1 h2)
theorem Km:OpR X (binaryOp .Add) (rI0 λi j=>.int (i+j)):=M4 λ_ _ _ _ _ _ _ q=>add_int q
theorem Kn:OpR X (binaryOp .Sub) (rI0 λi j=>.int (i-j)):=M4 λ_ _ _ _ _ _ _ q=>sub_int q
theorem Ko:OpR X (binaryOp .Mult) (rI Dc λi j=>.int (i*j)):=opI λ_ _ _ _ _ _ _ hc q=>mul_int q hc.ok
theorem GH:OpR X (binaryOp .FloorDiv) (rI Kl λi j=>.int (i / j)):=opI λi j _ _ _ _ _ hc q=>by
 have h1:(0:Int)<j:=hc.1
 have h2:j<1073741824:=hc.2
 exact floordiv_int (by lia) (by rw[Int.fdiv_eq_ediv_of_nonneg i (by lia)];exact q) (.inl (PyProof.noPylong_small (by lia)))
theorem Kp:OpR X (binaryOp .Mod) (rI (λ_ j=>0<j) λi j=>.int (i%j)):=opI λi j _ _ _ _ _ hc q=>by
 have h1:(0:Int)<j:=hc
 exact mod_int' (by lia) (by rw[Int.fmod_eq_emod_of_nonneg i (by lia)];exact q)
theorem unI{f:Value→Sem Value}{g:Int→Int}
  (rule:∀(i:Int) (t:Tok) (s:Shared) (Q:Value→Shared→Prop) (E:Value→Shared→Prop),Q (.int (g i) s.toks) { s with toks:=s.toks+1 }→wpAny (model X.prog X.w) X.A (f (.int i t)) Q E s) :
  UnR X f (rU λi=>.int (g i)):=by
 intro pins s σ H x v Q I rx h
 obtain⟨i,rfl,q⟩:=h
 obtain⟨t,rfl⟩:=rx
 exact rule i t s _ _ ⟨.int (g i),H,I.tok _,⟨_,rfl⟩,q⟩
theorem Kq:UnR X (unaryOp .USub) (rU λi=>.int (-i)):=unI λ_ _ _ _ _ q=>neg_int q
end
def M5:V→V→Bool
 | .non,.non=>true|.non,.int _=>true|.int _,.non=>true|.non,.bl _=>true|.bl _,.non=>true|.non,.str _=>true|.str _,.non=>true
 | .int _,.int _=>true|.bl _,.bl _=>true|.str _,.str _=>true|.byt _,.byt _=>true
 | .int _,.str _=>true|.str _,.int _=>true|.bl _,.str _=>true|.str _,.bl _=>true
 | _,_=>false
def rEq:R2:=λx y H Q=>M5 x y=true∧Q (.bl (decide (x=y))) H
def rNe:R2:=λx y H Q=>M5 x y=true∧Q (.bl (!decide (x=y))) H
theorem zH{i j:Int}:decide (V.int i=V.int j)=(i==j):=by
 rw[Bool.eq_iff_iff]
 simp
theorem Dd{i j:Bool}:decide (V.bl i=V.bl j)=(i==j):=by
 rw[Bool.eq_iff_iff]
 simp
theorem pq{i j:Str}:decide (V.str i=V.str j)=(i==j):=by
 rw[Bool.eq_iff_iff]
 simp
theorem zI{i j:Array UInt8}:decide (V.byt i=V.byt j)=(i.toList==j.toList):=by
 rw[Bool.eq_iff_iff]
 cases i
 cases j
 simp
section
variable{X:Cx}{a b c:Expr}{ta tb tc:TE}{pos:Pos}
theorem bq{pins:List (Addr×Obj)}{σ:St}{H:Hp}{s:Shared}{Q:VK}{k k':Bool}(I:Inv X pins σ H s)(q:Q (.bl k) H)(e:k=k'):EP X pins σ Q (.bool k') s:=by
 subst e
 exact⟨.bl k,H,I,rfl,q⟩
theorem Jn:OpR X (compareOp .Eq) rEq:=by
 intro pins s σ H x y v u Q I rx ry h
 obtain⟨hs,q⟩:=h
 cases x with
 | non =>
  cases rx
  cases y with
  | non=>cases ry;exact PySem.EqNone.eq_none_none (bq I q (by simp))
  | bl j=>cases ry;exact PySem.EqNone.eq_none_bool (bq I q (by simp))
  | int j=>obtain⟨t',rfl⟩:=ry;exact PySem.EqNone.eq_none_int (bq I q (by simp))
  | str j=>obtain⟨t',rfl⟩:=ry;exact PySem.EqNone.eq_none_str (bq I q (by simp))
  | _=>exact absurd (show false=true from hs) Bool.false_ne_true
 | bl i =>
  cases rx
  cases y with
  | non=>cases ry;exact PySem.EqNone.eq_bool_none (bq I q (by simp))
  | bl j=>cases ry;exact eq_bool (bq I q Dd)
  | str j=>obtain⟨t',rfl⟩:=ry;exact PySem.EqMixed.eq_bool_str (bq I q (by simp))
  | _=>exact absurd (show false=true from hs) Bool.false_ne_true
 | int i =>
  obtain⟨t,rfl⟩:=rx
  cases y with
  | non=>cases ry;exact PySem.EqNone.eq_int_none (bq I q (by simp))
  | int j=>obtain⟨t',rfl⟩:=ry;exact eq_int (bq I q zH)
  | str j=>obtain⟨t',rfl⟩:=ry;exact PySem.EqMixed.eq_int_str (bq I q (by simp))
  | _=>exact absurd (show false=true from hs) Bool.false_ne_true
 | str i =>
  obtain⟨t,rfl⟩:=rx
  cases y with
  | non=>cases ry;exact PySem.EqNone.eq_str_none (bq I q (by simp))
  | bl j=>cases ry;exact PySem.EqMixed.eq_str_bool (bq I q (by simp))
  | int j=>obtain⟨t',rfl⟩:=ry;exact PySem.EqMixed.eq_str_int (bq I q (by simp))
  | str j=>obtain⟨t',rfl⟩:=ry;exact eq_str (bq I q pq)
  | _=>exact absurd (show false=true from hs) Bool.false_ne_true
 | byt i =>
  obtain⟨t,rfl⟩:=rx
  cases y with
  | byt j=>obtain⟨t',rfl⟩:=ry;exact PySem.W.eq_bytes (bq I q zI)
  | _=>exact absurd (show false=true from hs) Bool.false_ne_true
 | _=>cases y<;>exact absurd (show false=true from hs) Bool.false_ne_true
theorem M6:OpR X (compareOp .NotEq) rNe:=by
 intro pins s σ H x y v u Q I rx ry h
 obtain⟨hs,q⟩:=h
 cases x with
 | non =>
  cases rx
  cases y with
  | non=>cases ry;exact PySem.EqNone.ne_none_none (bq I q (by simp))
  | bl j=>cases ry;exact PySem.EqNone.ne_none_bool (bq I q (by simp))
  | int j=>obtain⟨t',rfl⟩:=ry;exact PySem.EqNone.ne_none_int (bq I q (by simp))
  | str j=>obtain⟨t',rfl⟩:=ry;exact PySem.EqNone.ne_none_str (bq I q (by simp))
  | _=>exact absurd (show false=true from hs) Bool.false_ne_true
 | bl i =>
  cases rx
  cases y with
  | non=>cases ry;exact PySem.EqNone.ne_bool_none (bq I q (by simp))
  | bl j=>cases ry;exact ne_bool (bq I q (congrArg not Dd))
  | str j=>obtain⟨t',rfl⟩:=ry;exact PySem.EqMixed.ne_bool_str (bq I q (by simp))
  | _=>exact absurd (show false=true from hs) Bool.false_ne_true
 | int i =>
  obtain⟨t,rfl⟩:=rx
  cases y with
  | non=>cases ry;exact PySem.EqNone.ne_int_none (bq I q (by simp))
  | int j=>obtain⟨t',rfl⟩:=ry;exact ne_int (bq I q (congrArg not zH))
  | str j=>obtain⟨t',rfl⟩:=ry;exact PySem.EqMixed.ne_int_str (bq I q (by simp))
  | _=>exact absurd (show false=true from hs) Bool.false_ne_true
 | str i =>
  obtain⟨t,rfl⟩:=rx
  cases y with
  | non=>cases ry;exact PySem.EqNone.ne_str_none (bq I q (by simp))
  | bl j=>cases ry;exact PySem.EqMixed.ne_str_bool (bq I q (by simp))
  | int j=>obtain⟨t',rfl⟩:=ry;exact PySem.EqMixed.ne_str_int (bq I q (by simp))
  | str j=>obtain⟨t',rfl⟩:=ry;exact ne_str (bq I q (congrArg not pq))
  | _=>exact absurd (show false=true from hs) Bool.false_ne_true
 | byt i =>
  obtain⟨t,rfl⟩:=rx
  cases y with
  | byt j=>obtain⟨t',rfl⟩:=ry;exact PySem.W.ne_bytes (bq I q (congrArg not zI))
  | _=>exact absurd (show false=true from hs) Bool.false_ne_true
 | _=>cases y<;>exact absurd (show false=true from hs) Bool.false_ne_true
theorem M7:OpR X (compareOp .Lt) (rI0 λi j=>.bl (decide (i<j))):=Kk λ_ _ _ _ _ _ _ q=>lt_int q
theorem M8:OpR X (compareOp .Gt) (rI0 λi j=>.bl (decide (j<i))):=Kk λ_ _ _ _ _ _ _ q=>gt_int q
theorem Jo:OpR X (compareOp .GtE) (rI0 λi j=>.bl (decide (j≤i))):=Kk λ_ _ _ _ _ _ _ q=>ge_int q
theorem Kr:OpR X (compareOp .Is) (λx y H Q=>y=.non∧Q (.bl (decide (x=.non))) H):=by
 intro pins s σ H x y v u Q I rx ry h
 obtain⟨rfl,q⟩:=h
 cases ry
 refine is_none_gen (bq I q ?_)
 cases x<;>first
  | (cases rx;rfl)
  | (obtain⟨t,rfl⟩:=rx;rfl)
theorem GI:OpR X (compareOp .IsNot) (λx y H Q=>y=.non∧Q (.bl (!decide (x=.non))) H):=by
 intro pins s σ H x y v u Q I rx ry h
 obtain⟨rfl,q⟩:=h
 cases ry
 refine isnot_none_gen (bq I q ?_)
 cases x<;>first
  | (cases rx;rfl)
  | (obtain⟨t,rfl⟩:=rx;rfl)
theorem OpR.or{f:Value→Value→Sem Value}{r r':R2}(h:OpR X f r)(h':OpR X f r'):OpR X f (λx y H Q=>r x y H Q∨r' x y H Q):=by
 intro pins s σ H x y v u Q I rx ry q
 rcases q with q|q
 ·exact h pins s σ H x y v u Q I rx ry q
 ·exact h' pins s σ H x y v u Q I rx ry q
theorem i8(b:Expr){op:CmpOp}(h:op≠.In:=by decide)(h2:op≠.NotIn:=by decide):behindInMarks op b=false:=by
 have e1:(op==CmpOp.In)=false:=by cases op<;>first|rfl|exact absurd rfl h
 have e2:(op==CmpOp.NotIn)=false:=by cases op<;>first|rfl|exact absurd rfl h2
 cases b<;>simp[behindInMarks,e1,e2]
theorem GJ{op:CmpOp}{r:R2}(ho:OpR X (compareOp op) r)(ha:PE X a ta)(hb:PE X b tb)(hm:behindInMarks op b=false):PE X (.Compare a [op] [b] pos) (tOp r ta tb):=by
 intro pins s σ H Q I h
 exact wpAny_Compare1 (Kj ha hb I h λv u s2 x y H2 I2 rx ry q=>ho pins s2 σ H2 x y v u Q I2 rx ry q) hm
def M9(t:TE):TT:=λσ H Q=>t σ H λx H'=>∃k,x=.bl k∧Q k H'
theorem GK{op:CmpOp}{r:R2}(ho:OpR X (compareOp op) r)(ha:PE X a ta)(hb:PE X b tb)(hm:behindInMarks op b=false):PT X (.Compare a [op] [b] pos) (M9 (tOp r ta tb)):=by
 intro pins s σ H Q I h
 refine wpAny_isTrue_Compare1 (thn (ha pins s σ H _ I h) λv s1 ⟨x,H1,I1,r1,q1⟩=>thn (hb pins s1 σ H1 _ I1 q1) λu s2 ⟨y,H2,I2,r2,q2⟩ =>
  thn (ho pins s2 σ H2 x y v u _ I2 r1 r2 q2) λc s3 ⟨z,H3,I3,r3,k,e,q3⟩=>?_) hm
 subst e
 cases r3
 exact wpAny_truthy_bool ⟨H3,I3,q3⟩
theorem nh:(sizeLine:Nat)<2 ^ 63:=by rw[sizeLine_eq];decide
theorem xB:OpR X (binaryOp .Add) (λx y H Q=>∃i j,x=.str i∧y=.str j∧i.length+j.length≤sizeLine∧Q (.str (i++j)) H):=by
 intro pins s σ H x y v u Q I rx ry h
 obtain⟨i,j,rfl,rfl,hz,q⟩:=h
 obtain⟨t,rfl⟩:=rx
 obtain⟨t',rfl⟩:=ry
 exact add_str (λt' tk=>⟨.str (i++j),H,I.tok _,⟨_,rfl⟩,q⟩) hz
theorem vals1{x:V}{us:List Value}(r:Vals [x] us):∃u,us=[u]∧RelV x u:=by
 cases r with
 | cons r1 r2=>cases r2;exact⟨_,rfl,r1⟩
theorem vals2{x y:V}{us:List Value}(r:Vals [x,y] us):∃u w',us=[u,w']∧RelV x u∧RelV y w':=by
 cases r with
 | cons r1 r2 =>
  cases r2 with
  | cons r3 r4=>cases r4;exact⟨_,_,rfl,r1,r3⟩
theorem Bv(hc:X.calm=true):cT X (.builtin "max") (λxs H Q=>∃i j,xs=[.int i,.int j]∧Q (.int (if j > i then j else i)) H):=by
 intro pins s σ H xs us Q I r h
 obtain⟨i,j,rfl,q⟩:=h
 obtain⟨u,w',rfl,⟨t,rfl⟩,⟨t',rfl⟩⟩:=vals2 r
 refine max_two_ints (I.ok.hd hc) λh' tk k=>⟨_,H,I.kept k,?_,q⟩
 by_cases hj:j > i
 ·rw[if_pos hj,if_pos hj];exact⟨_,rfl⟩
 ·rw[if_neg hj,if_neg hj];exact⟨_,rfl⟩
theorem Bw(hc:X.calm=true):cT X (.builtin "min") (λxs H Q=>∃i j,xs=[.int i,.int j]∧Q (.int (if j<i then j else i)) H):=by
 intro pins s σ H xs us Q I r h
 obtain⟨i,j,rfl,q⟩:=h
 obtain⟨u,w',rfl,⟨t,rfl⟩,⟨t',rfl⟩⟩:=vals2 r
 refine min_two_ints (I.ok.hd hc) λh' tk k=>⟨_,H,I.kept k,?_,q⟩
 by_cases hj:j<i
 ·rw[if_pos hj,if_pos hj];exact⟨_,rfl⟩
 ·rw[if_neg hj,if_neg hj];exact⟨_,rfl⟩
theorem Bx:cT X (.type "int") (λxs H Q=>(∃i,xs=[.int i]∧Q (.int i) H)∨∃k,xs=[.bl k]∧Q (.int (if k then 1 else 0)) H):=by
 intro pins s σ H xs us Q I r h
 rcases h with ⟨i,rfl,q⟩|⟨k,rfl,q⟩
 ·obtain⟨u,rfl,t,rfl⟩:=vals1 r
  exact call_int_int ⟨.int i,H,I,⟨_,rfl⟩,q⟩
 ·obtain⟨u,rfl,r1⟩:=vals1 r
  cases r1
  exact call_int_bool ⟨.int (if k then 1 else 0),H,I.tok _,⟨_,rfl⟩,q⟩
end
section
variable{prog:Program}{w:World}{A:Around}{E:Value→Shared→Prop}{s:Shared}{K:PySem.W.Frag}{x dx C f:Addr}{mA:Str→Option Value}{name:Str}{v:Value}
end
theorem oR.some_of{v:V}{o:Option Value}(r:oR (some v) o):∃u,o=some u∧RelV v u:=by
 cases o with
 | none=>exact(show False from r).elim
 | some u=>exact⟨u,rfl,r⟩
section
variable{P:Program}{w:World}{H H':Hp}{h h':Heap}{a C dx:Addr}{fs fs':List (Str×V)}
end
section
variable{X:Cx}{pins:List (Addr×Obj)}{σ:St}{H:Hp}{s:Shared}{a C dx:Addr}{fs:List (Str×V)}{f:Str}{v:V}{A:Around}{E:Value→Shared→Prop}
theorem Inv.made(I:Inv X pins σ H s):Inv X pins σ (upd (upd H s.heap.objs.size (.own (s.heap.objs.size+1))) (s.heap.objs.size+1) (.ins C s.heap.objs.size []))
  { s with heap:=(s.heap.push PySem.W.emptyDict).push (PySem.W.instObj C s.heap.objs.size) }:=by
 have e1:(s.heap.push PySem.W.emptyDict).get? s.heap.objs.size=some PySem.W.emptyDict:=Heap.get?_push_size s.heap rfl
 have e2:((s.heap.push PySem.W.emptyDict).push (PySem.W.instObj C s.heap.objs.size)).get? (s.heap.objs.size+1)=some (PySem.W.instObj C s.heap.objs.size):=by
  have:=Heap.get?_push_size (s.heap.push PySem.W.emptyDict) (o:=PySem.W.instObj C s.heap.objs.size) rfl
  rwa [Heap.size_push] at this
 have e3:(s.heap.push PySem.W.emptyDict).Ns s.heap.objs.size (λ_=>none):=⟨PySem.W.emptyDict,#[],_,e1,rfl,(λe he=>absurd he (by simp)),λ_=>rfl⟩
 have I1:=I.laid (a:=s.heap.objs.size) (o:=.own (s.heap.objs.size+1)) (h':=s.heap.push PySem.W.emptyDict) (t':=s.toks) (λb u q=>Heap.get?_push_of_some _ q) (Nat.le_refl _) ⟨_,e1⟩
 refine I1.laid (a:=s.heap.objs.size+1) (o:=.ins C s.heap.objs.size []) (t':=s.toks) (λb u q=>Heap.get?_push_of_some _ q) (Nat.le_of_eq (Heap.size_push _ _)) ?_
 have ne:s.heap.objs.size≠s.heap.objs.size+1:=Nat.ne_of_lt (Nat.lt_succ_self _)
 refine⟨by rw[aG ne,aB],Nat.zero_le _,ne,e2,λ_=>none,(Heap.Ns1.of_empty e3).at λo q=>Heap.get?_push_of_some _ q,λ_=>True.intro,λy hy=>absurd rfl hy⟩
end
section
variable{X:Cx}{o e value:Expr}{f:Str}{pos pos' dX:Pos}{ta tv:TE}
end
section
variable{X:Cx}{pins:List (Addr×Obj)}{σ:St}{H:Hp}{s:Shared}{A:Around}{E:Value→Shared→Prop}{Q:Value→Shared→Prop}{c:Value}{b:Bool}
end
structure b_(k:Nat)(A:Around):Prop where
 hd:A.handled=none
 dp:A.depth+3*k+5<recursionLimit
 un:A.units+16*k+200<cLine
theorem b_.mono{j k:Nat}{A:Around}(r:b_ k A)(h:j≤k):b_ j A:=⟨r.hd,by have:=r.dp;lia,by have:=r.un;lia⟩
theorem b_.deeper{k:Nat}{A:Around}(r:b_ (k+1) A)(env:Env):b_ k (A.deeper env) :=
 ⟨r.hd,by have:=r.dp;show A.depth+1+3*k+5<_;lia,by have:=r.un;show A.units+3+16*k+200<_;lia⟩
theorem b_.in1{k:Nat}{A:Around}(r:b_ (k+1) A):b_ k A.in1 :=
 ⟨r.hd,by have:=r.dp;show A.depth+3*k+5<_;lia,by have:=r.un;show A.units+1+16*k+200<_;lia⟩
theorem b_.depth{k:Nat}{A:Around}(r:b_ k A):A.depth<recursionLimit:=by have:=r.dp;lia
theorem b_.units{k:Nat}{A:Around}(r:b_ k A):A.units+64<cLine:=by have:=r.un;lia
def O7:TA:=λ_ H Q=>Q [] H
def M_(ta:TE)(tr:TA):TA:=λσ H Q=>ta σ H λx H1=>tr σ H1 λxs H2=>Q (x::xs) H2
section
variable{X:Cx}{e:Expr}{es:List Expr}{te:TE}{t:TA}{pos:Pos}
theorem Ks:PA X [] O7:=λ_ _ _ _ H Q I h=>Calls.spliced_nil ⟨[],H,I,.nil,h⟩
theorem GL(ha:PE X e te)(hr:PA X es t)(hs:starEach (e::es) X.env=(false,eval e X.env)::starEach es X.env:=by rfl):PA X (e::es) (M_ te t):=by
 intro pos pins s σ H Q I h
 rw[hs]
 show wpAny _ _ (spliced ((false,eval e X.env)::backTo pos (starEach es X.env))) _ _ s
 refine Calls.spliced_cons (thn (ha pins s σ H _ I h) λu s1 au=>?_)
 obtain⟨x,H1,I1,r1,q1⟩:=au
 exact thn (hr pos pins s1 σ H1 _ I1 q1) λus s2 ⟨xs,H2,I2,r2,q2⟩=>⟨x::xs,H2,I2,.cons r1 r2,q2⟩
def O8(t:TA):TE:=λσ H Q=>t σ H λxs H1=>xs.length≤sizeLine∧∀p,H1 p=none→Q (.ref p) (upd H1 p (.tup xs))
def O9(t:TA):TE:=λσ H Q=>t σ H λxs H1=>xs.length≤sizeLine∧∀p,H1 p=none→Q (.ref p) (upd H1 p (.lst xs))
theorem De{x1}(h:PA X es t):PE X (.Tuple es x1 pos) (O8 t):=by
 intro pins s σ H Q I hq
 refine wpAny_Tuple_spliced (thn (h pos pins s σ H _ I hq) λus s1 ⟨xs,H1,I1,r,z,q⟩=>⟨by rw[← r.length];exact z,?_⟩)
 have hf:H1 s1.heap.objs.size=none:=I1.hok.fresh (Nat.le_refl _)
 refine⟨.ref s1.heap.objs.size,upd H1 s1.heap.objs.size (.tup xs),I1.laid (t':=s1.toks) (λb u e=>Heap.get?_push_of_some _ e) (Nat.le_refl _) ?_,rfl,q _ hf⟩
 exact⟨z,us,r,⟨_,Heap.get?_push_size _ rfl,rfl,_,rfl⟩⟩
theorem Df(h:PA X es t):PE X (.List es pos) (O9 t):=by
 intro pins s σ H Q I hq
 refine wpAny_List_spliced (thn (h pos pins s σ H _ I hq) λus s1 ⟨xs,H1,I1,r,z,q⟩=>⟨by rw[← r.length];exact z,?_⟩)
 have hf:H1 s1.heap.objs.size=none:=I1.hok.fresh (Nat.le_refl _)
 refine⟨.ref s1.heap.objs.size,upd H1 s1.heap.objs.size (.lst xs),I1.laid (t':=s1.toks) (λb u e=>Heap.get?_push_of_some _ e) (Nat.le_refl _) ?_,rfl,q _ hf⟩
 exact⟨z,us,0,r,Heap.get?_push_size _ rfl⟩
end
abbrev Sp:=List V→Hp→VK→XK→Prop
abbrev CXT:=List Env→Hp→Shared→XK→Value→Shared→Prop
structure xC(P:Program)(w:World)(K:PySem.W.Frag)(mg:Str→Option Value)(base:Heap)(A:Around)(outer:List Env)(s:Shared)(H:Hp):Prop where
 frames:A.frames=some outer
 mod:Mod K mg base
 bs:∀b o,base.get? b=some o→s.heap.get? b=some o∧H b=none
 bsz:base.objs.size≤s.heap.objs.size
 lM:s.heap.FunFrames base outer
 frf:∀b∈frs outer,H b=none
 hok:HOk P w H s.heap
 bare:AllBare s.gens
def CE(outer:List Env)(P:Program)(w:World)(H:Hp)(s:Shared)(Q:VK)(u:Value)(s':Shared):Prop :=
 ∃v H',s'.os=s.os∧AllBare s'.gens∧Un (frs outer) [] H H' s.heap s'.heap∧HOk P w H' s'.heap∧RelV v u∧Q v H'
def CR(CX:CXT)(outer:List Env)(P:Program)(w:World)(H:Hp)(s:Shared)(Q:VK)(E:XK)(r:Result)(s':Shared):Prop :=
 match r with
 | .ok (.ret u)=>CE outer P w H s Q u s'
 | .ok _=>False
 | .error e=>CX outer H s E e s'
structure i9(P:Program)(w:World)(K:PySem.W.Frag)(mg:Str→Option Value)(base:Heap)(CX:CXT)(k:Nat)(f:Addr)(fd:FuncData)(ps:List Str)(sp:Sp):Prop where
 len:∀vs H Q E,sp vs H Q E→vs.length=ps.length
 run:∀(A:Around) (outer:List Env) (s:Shared) (H:Hp) (args:Args) (us:List Value) (vs:List V) (Q:VK) (E:XK),b_ k A→xC P w K mg base A outer s H→BindsTo s fd args (ps.zip us)→Vals vs us→sp vs H Q E →
  codeAny (model P w) A (.call (.ref f) args) (CR CX outer P w H s Q E) s
theorem i9.mono{P:Program}{w:World}{K:PySem.W.Frag}{mg:Str→Option Value}{base:Heap}{CX:CXT}{j k:Nat}{f:Addr}{fd:FuncData}{ps:List Str}{sp:Sp}(F:i9 P w K mg base CX j f fd ps sp)(h:j≤k) :
  i9 P w K mg base CX k f fd ps sp:=⟨F.len,λA outer s H args us vs Q E hr=>F.run A outer s H args us vs Q E (hr.mono h)⟩
theorem xC.in1{P:Program}{w:World}{K:PySem.W.Frag}{mg:Str→Option Value}{base:Heap}{A:Around}{outer:List Env}{s:Shared}{H:Hp}(e:xC P w K mg base A outer s H) :
  xC P w K mg base A.in1 outer s H:=⟨e.frames,e.mod,e.bs,e.bsz,e.lM,e.frf,e.hok,e.bare⟩
section
variable{X:Cx}{pins:List (Addr×Obj)}{σ:St}{H:Hp}{s s':Shared}
theorem Inv.GN(I:Inv X pins σ H s):xC X.prog X.w X.K X.mg X.base X.A X.stack s H :=
 ⟨I.ok.frames,I.ok.mod,I.bs,Nat.le_trans I.ok.bsz I.sz,I.stack,I.pk,I.hok,I.bare⟩
theorem Inv.after{Q:VK}{u:Value}(I:Inv X pins σ H s)(h:CE X.stack X.prog X.w H s Q u s'):EP X pins σ Q u s':=by
 obtain⟨v,H',os,bare,un,hok,r,q⟩:=h
 obtain⟨hh,g,d,t,os'⟩:=s'
 obtain rfl:os'=s.os:=os
 exact⟨v,H',I.call (h':=hh) (g':=g) (d':=d) (t':=t) (ch:=[]) un hok bare (λb z=>absurd z (by simp)),r,q⟩
end
def Jp(sp:Sp)(dvs:List V)(E:XK)(t:TA):TE:=λσ H Q=>t σ H λvs H1=>sp (vs++dvs) H1 Q E
def Binds(K:PySem.W.Frag)(fd:FuncData)(ps:List Str)(ds:List Value):Prop :=
 ∀(s:Shared) (us:List Value),K.In s.heap→(us++ds).length=ps.length→BindsTo s fd ⟨us,[]⟩ (ps.zip (us++ds))
theorem Binds.all{K:PySem.W.Frag}{fd:FuncData}{ps:List Str}(h:∀us:List Value,us.length=ps.length→bindArgs fd ⟨us,[]⟩=pure (ps.zip us)):Binds K fd ps []:=λs us _ hl=>by
 rw[List.append_nil] at hl ⊢
 exact .of_eq (h us hl)
def Passes(CX:CXT)(X:Cx)(E:XK):Prop:=∀(pins:List (Addr×Obj)) (σ:St) (H:Hp) (s:Shared) (e:Value) (s':Shared),Inv X pins σ H s→CX X.stack H s E e s'→X.xe e s'
section
variable{X:Cx}{CX:CXT}{k:Nat}{f C:Addr}{fd:FuncData}{ps:List Str}{sp:Sp}{dvs:List V}{ds:List Value}{E:XK}{x m:Str}{p pos apos:Pos}{e o:Expr}{es:List Expr}{ta:TE}{t:TA}
theorem Kt{pins:List (Addr×Obj)}{σ:St}{H:Hp}{s:Shared}{Q:VK}{us:List Value}{vs:List V}(F:i9 X.prog X.w X.K X.mg X.base CX k f fd ps sp)(hr:b_ k X.A)(hb:Binds X.K fd ps ds)(hd:Vals dvs ds)(hx:Passes CX X E)
  (I:Inv X pins σ H s) (r:Vals vs us) (h:sp (vs++dvs) H Q E):wpAny (model X.prog X.w) X.A (call (.ref f) us) (EP X pins σ Q) X.xe s:=by
 have r2:Vals (vs++dvs) (us++ds):=r.append hd
 have hl:(us++ds).length=ps.length:=by rw[← r2.length];exact F.len _ _ _ _ h
 refine wpAny_call (codeAny_mono (F.run X.A X.stack s H ⟨us,[]⟩ (us++ds) (vs++dvs) Q E hr I.GN (hb s us I.kIn hl) r2 h) λr s' hq=>?_)
 cases r with
 | error e=>exact hx pins σ H s e s' I hq
 | ok fl =>
  cases fl with
  | ret u=>exact I.after hq
  | next=>exact False.elim hq
  | brk=>exact False.elim hq
  | cont=>exact False.elim hq
theorem GO(F:i9 X.prog X.w X.K X.mg X.base CX k f fd ps sp)(hr:b_ k X.A)(hg:Gl X x)(hm:X.mg x=some (.ref f))(hk:PySem.W.keepIn X.K (.ref f)=true)(hb:Binds X.K fd ps ds)(hd:Vals dvs ds)(hx:Passes CX X E)
  (ha:PA X (e::es) t) (hdb:(x==("__debug__":Str))=false:=by decide) (he:starEach (e::es) X.env=(false,eval e X.env)::starEach es X.env:=by rfl) (hpl:(backTo pos (starEach es X.env)).any (·.1)=false:=by rfl) :
  PE X (.Call (.Name x p) (e::es) [] pos) (Jp sp dvs E t):=by
 intro pins s σ H Q I h
 refine wpAny_Call_Name_kw (mr I hg hm ?_ hdb)
 refine PySem.W.callWith_K (h₀:=X.base) I.ok.mod.kin hk (thn (ha pos pins s σ H _ I h) λus s1 ⟨vs,H1,I1,r,q⟩=>⟨I1.kIn,?_⟩) he hpl
 exact Kt F hr hb hd hx I1 r q
end
section
variable{X:Cx}{CX:CXT}{k:Nat}{f C:Addr}{fd:FuncData}{ps ks:List Str}{sp:Sp}{E:XK}{x m:Str}{p pos apos PL:Pos}{e o:Expr}{es:List Expr}{kws:List Keyword}{te ta:TE}{t tk:TA}{nm:Option Str}
variable{g:List Value→List Value→List Value}{gV:List V→List V→List V}
end
structure aH(N P:List Str)(sc:Scope):Prop where
 kind:sc.kind=.function
 co:sc.isCoroutine=false
 gen:sc.isGenerator=false
 nd:N.Nodup
 pre:N.take P.length=P
 par:∀x∈P,sc.names.lookup x=some .local∨sc.names.lookup x=some .cell
 Ku:∀y∈sc.names,y.2≠.free
theorem rX{kindOf:Str→Option NameKind}{x:Str}:∀{binds:List (Str×Value)}{m:Str→Option Value},(∀v,(x,v)∉binds)→bindL kindOf binds m x=m x
 | [],_,_=>rfl
 | (n,v)::r,m,h=>by
  unfold bindL
  rw[rX λw hw=>h w (List.mem_cons_of_mem _ hw)]
  split
  ·have:x≠n:=by rintro rfl;exact h v List.mem_cons_self
   simp[this]
  ·rfl
theorem rY{kindOf:Str→Option NameKind}{x:Str}:∀{binds:List (Str×Value)}{m:Str→Option Value},(∀v,(x,v)∉binds)→bindC kindOf binds m x=m x
 | [],_,_=>rfl
 | (n,v)::r,m,h=>by
  unfold bindC
  rw[rY λw hw=>h w (List.mem_cons_of_mem _ hw)]
  split
  ·rfl
  ·have:x≠n:=by rintro rfl;exact h v List.mem_cons_self
   simp[this]
theorem rZ{kindOf:Str→Option NameKind}{x:Str}{v:Value}:∀{P:List Str}{vs:List Value}{i:Nat}{m:Str→Option Value},P.Nodup→P[i]?=some x→vs[i]?=some v→kindOf x=some .local →
  bindL kindOf (P.zip vs) m x=some v
 | [],_,_,_,_,h,_,_=>by simp at h
 | _::_,[],_,_,_,_,h,_=>by simp at h
 | p::P,w::vs,0,m,nd,h1,h2,hk=>by
  simp at h1 h2;subst h1;subst h2
  show bindL kindOf ((p,w)::P.zip vs) m p=_
  unfold bindL
  rw[rX λv hv=>(List.nodup_cons.mp nd).1 (List.of_mem_zip hv).1,if_pos hk]
  simp
 | p::P,w::vs,i+1,m,nd,h1,h2,hk=>by
  show bindL kindOf ((p,w)::P.zip vs) m x=_
  unfold bindL
  exact rZ (i:=i) (List.nodup_cons.mp nd).2 (by simpa using h1) (by simpa using h2) hk
theorem r8{kindOf:Str→Option NameKind}{x:Str}{v:Value}:∀{P:List Str}{vs:List Value}{i:Nat}{m:Str→Option Value},P.Nodup→P[i]?=some x→vs[i]?=some v→kindOf x≠some .local →
  bindC kindOf (P.zip vs) m x=some v
 | [],_,_,_,_,h,_,_=>by simp at h
 | _::_,[],_,_,_,_,h,_=>by simp at h
 | p::P,w::vs,0,m,nd,h1,h2,hk=>by
  simp at h1 h2;subst h1;subst h2
  show bindC kindOf ((p,w)::P.zip vs) m p=_
  unfold bindC
  rw[rY λv hv=>(List.nodup_cons.mp nd).1 (List.of_mem_zip hv).1,if_neg hk]
  simp
 | p::P,w::vs,i+1,m,nd,h1,h2,hk=>by
  show bindC kindOf ((p,w)::P.zip vs) m x=_
  unfold bindC
  exact r8 (i:=i) (List.nodup_cons.mp nd).2 (by simpa using h1) (by simpa using h2) hk
def start(N:List Str)(vs:List V):St:=vs.map some++List.replicate (N.length-vs.length) none
def mw(CX:CXT)(P:Program)(w:World)(K:PySem.W.Frag)(mg:Str→Option Value)(base:Heap)(N:List Str)(qual:Str)(scope:Scope)(f:Addr)(cd:Value)(A:Around)(outer:List Env)(s:Shared)(H:Hp)(E:XK):Cx where
 prog:=P
 w:=w
 K:=K
 mg:=mg
 base:=base
 A:=A.deeper (envOfC qual scope s.heap.objs.size f cd)
 N:=N
 s₀:=s
 H₀:=H
 env:=envOfC qual scope s.heap.objs.size f cd
 outer:=outer
 stack:=envOfC qual scope s.heap.objs.size f cd::outer
 ex:=[]
 calm:=true
 fn:=λ_=>true
 pn:=[]
 xe:=λe s'=>wpAny (model P w) (A.deeper (envOfC qual scope s.heap.objs.size f cd)) (leaving (envOfC qual scope s.heap.objs.size f cd) e) (λ_ s''=>CX outer H s E e s'') (λe' s''=>CX outer H s E e' s'') s'
theorem vA{sc:Scope}{n:Nat}{x:Str}(h:sc.names.lookup x=some .cell):∃c,(cellsFrom n sc.names []).lookup x=some c:=by
 have q:=PySem.W.cellsFrom_some sc.names n [] (.inl h)
 exact Option.isSome_iff_exists.mp q
theorem By{CX:CXT}{P:Program}{w:World}{K:PySem.W.Frag}{mg:Str→Option Value}{base:Heap}{N ps:List Str}{qual:Str}{scope:Scope}{f:Addr}{cd:Value}{A:Around}{outer:List Env}{s s1:Shared}{H:Hp}{E:XK}{us:List Value}{vs:List V}
  (S:aH N ps scope) (hd:A.handled=none) (e0:xC P w K mg base A outer s H) (hl:vs.length=ps.length) (r:Vals vs us)
  (x:InCallC s s.heap.objs.size (bindL (envOfC qual scope s.heap.objs.size f cd).kindOf (ps.zip us) λ_=>none) (cellsFrom (s.heap.objs.size+1) scope.names []) (bindC (envOfC qual scope s.heap.objs.size f cd).kindOf (ps.zip us) λ_=>none) s1) :
  Inv (mw CX P w K mg base N qual scope f cd A outer s H E) [] (start N vs) H s1:=by
 have hpl:ps.length≤N.length:=by have:=congrArg List.length S.pre;rw[List.length_take] at this;lia
 obtain⟨h1,tk,rfl,hk⟩:=x.done
 have noA:∀b:Addr,b∉(mw CX P w K mg base N qual scope f cd A outer s H E).ex:=λb z=>absurd (show b∈([]:List Addr) from z) (by simp)
 refine⟨⟨e0.mod,S.kind,rfl,rfl,Nat.le_refl _,λy z c h1 h2=>?_,λy hy=>?_,λy c _ h=>?_,λ_=>hd,Around.frames_deeper e0.frames,.inr ⟨rfl,rfl⟩,λb z=>absurd z (noA b),e0.bs,e0.bsz,λb _ _=>noA b,λb z=>absurd z (noA b),e0.lM,e0.frf⟩,
  rfl,e0.bare,Un.kept hk,⟨_,x.toInCall.ns,λi y v h1 h2 h3=>?_⟩,λy c h=>⟨_,x.cell y c h⟩,e0.hok.fresh (Nat.le_refl _),λy c h=>?_,λp hp=>absurd (show p∈([]:List (Addr×Obj)) from hp) (by simp),e0.hok.kept hk,?_⟩
 ·exact name_of_addr x.apart (PySem.mem_of_lookup h1) (PySem.mem_of_lookup h2)
 ·have hy:scope.names.lookup y=some .cell∨scope.names.lookup y=some .free:=hy
  rcases hy with hy|hy
  ·exact vA hy
  ·exact absurd rfl (S.Ku _ (PySem.mem_of_lookup hy))
 ·exact Nat.le_of_lt (x.above y c (PySem.mem_of_lookup h))
 ·have hi:i<vs.length:=by
   unfold start at h2
   by_cases hi:i<vs.length
   ·exact hi
   ·rw[List.getElem?_append_right (by simpa using hi)] at h2
    rw[List.getElem?_replicate] at h2
    split at h2<;>cases h2
  have ha:vs[i]?=some v:=by
   unfold start at h2
   rw[List.getElem?_append_left (by simpa using hi),List.getElem?_map] at h2
   cases e:vs[i]? with
   | none=>rw[e] at h2;cases h2
   | some a=>rw[e] at h2;cases h2;rfl
  obtain⟨u,hu,rv⟩:=r.get ha
  have hp:ps[i]?=some y:=by
   rw[← S.pre,List.getElem?_take_of_lt (by lia)];exact h1
  have ndP:ps.Nodup:=by rw[← S.pre];exact S.nd.sublist (List.take_sublist _ _)
  refine⟨u,rv,?_⟩
  rcases S.par y (List.mem_of_getElem? hp) with k|k
  ·exact .inl ⟨k,rZ ndP hp hu k⟩
  ·obtain⟨c,e⟩:=vA (n:=s.heap.objs.size+1) k
   refine .inr ⟨.inl k,c,e,?_⟩
   have q:=x.cell y c e
   rw[r8 ndP hp hu (by show scope.names.lookup y≠_;rw[k];decide)] at q
   exact q
 ·exact e0.hok.fresh (Nat.le_of_lt (x.above y c (PySem.mem_of_lookup h)))
 ·unfold start
  show _=N.length
  rw[List.length_append,List.length_map,List.length_replicate]
  lia
theorem Jq{CX:CXT}{P:Program}{w:World}{K:PySem.W.Frag}{mg:Str→Option Value}{base:Heap}{k:Nat}{f:Addr}{name qual:Str}{params:Arguments}{body:List Stmt}{scope:Scope}{dV kV doc pm cdv ct oc:Value}{an od:Option Addr}
  {osl:Array (Option Value)}{N ps:List Str}{sp:Sp} (lk:K.lookup f=some ⟨oc,od,.func (PySem.W.fnOf name qual params body scope dV kV doc pm an cdv ct),osl⟩) (hcd:PySem.W.codeIn K cdv qual=true) (S:aH N ps scope)
  (len:∀vs H Q E,sp vs H Q E→vs.length=ps.length)
  (Dg:∀(A:Around) (outer:List Env) (s:Shared) (H:Hp) (vs:List V) (Q:VK) (E:XK),b_ k (A.deeper (envOfC qual scope s.heap.objs.size f cdv))→sp vs H Q E →
   ∃t,PSs (mw CX P w K mg base N qual scope f cdv A outer s H E) body t∧t { nx:=λ_ H'=>Q .non H',rt:=Q } (start N vs) H) :
  i9 P w K mg base CX (k+1) f (PySem.W.fnOf name qual params body scope dV kV doc pm an cdv ct) ps sp:=by
 refine⟨len,λA outer s H args us vs Q E hr e0 hb r hsp=>?_⟩
 have hl:=len _ _ _ _ hsp
 have KX:K.In s.heap:=e0.mod.kin.keeps λb o e=>(e0.bs b o e).1
 have lim:s.heap.NoLimit:=e0.mod.nolimit.keeps λb o e=>(e0.bs b o e).1
 have Na:∀y∈ps.zip us,scope.names.lookup y.1=some .local∨(scope.names.lookup y.1=some .cell∧((cellsFrom (s.heap.objs.size+1) scope.names []).lookup y.1).isSome=true):=λau hy=>by
  obtain⟨n,v⟩:=au
  rcases S.par n (List.of_mem_zip hy).1 with q|q
  ·exact .inl q
  ·exact .inr ⟨q,PySem.W.cellsFrom_some _ _ _ (.inl q)⟩
 refine codeAny_call_function hr.depth (KX _ _ lk) rfl S.co S.gen rfl (PySem.W.codeRec_of KX hcd) (hb _ _ _ _ ?_)
 refine wpAny_newFunctionEnv_cells S.kind Na λenv he s1 x=>?_
 subst he
 refine⟨lim.keeps x.toInCall.keep,codeAny_func ?_⟩
 obtain⟨t,ht,hq⟩:=Dg A outer s H vs Q E (hr.deeper _) hsp
 have I:Inv (mw CX P w K mg base N qual scope f cdv A outer s H E) [] (start N vs) H s1:=By S hr.hd e0 hl r x
 refine wpAny_mono (ht [] s1 (start N vs) H _ I hq) (λfl s' hs=>?_) λe s' hs=>hs
 have fin:∀{σ':St}{H':Hp}{v:V}{u:Value},Inv (mw CX P w K mg base N qual scope f cdv A outer s H E) [] σ' H' s'→RelV v u→Q v H'→CE outer P w H s Q u s' :=
  λ{σ' H' v u} J rv q=>⟨v,H',J.os,J.bare,J.base,J.hok,rv,q⟩
 cases fl with
 | ret u =>
  obtain⟨v,σ',H',J,rv,q⟩:=hs
  exact fin J rv q
 | next =>
  obtain⟨σ',H',J,q⟩:=hs
  exact fin (v:=V.non) (u:=Value.none) J rfl q
 | brk =>
  obtain⟨_,_,_,q⟩:=hs
  exact False.elim q
 | cont =>
  obtain⟨_,_,_,q⟩:=hs
  exact False.elim q
section
variable{X:Cx}{x:Str}{p pos:Pos}{e:Expr}{es:List Expr}{t:TA}{id T:String}{r:List V→Hp→VK→Prop}
def tCB(r:List V→Hp→VK→Prop)(t:TA):TE:=λσ H Q=>t σ H λvs H1=>r vs H1 Q
theorem mx(hc:cT X (.builtin id) r)(hg:Gl X x)(hm:X.mg x=none)(hv:bootBuiltins x=some (.builtin id))(ha:PA X (e::es) t)(hn:x≠"__name__":=by decide)(hdb:(x==("__debug__":Str))=false:=by decide)
  (he:starEach (e::es) X.env=(false,eval e X.env)::starEach es X.env:=by rfl) (hpl:(backTo pos (starEach es X.env)).any (·.1)=false:=by rfl):PE X (.Call (.Name x p) (e::es) [] pos) (tCB r t):=by
 intro pins s σ H Q I h
 refine wpAny_Call_Name_kw (lO I hg hm hv ?_ hn hdb)
 exact PyProof.Rows.callWith_builtin1 (thn (ha pos pins s σ H _ I h) λus s1 ⟨vs,H1,I1,r1,q1⟩=>hc pins s1 σ H1 vs us Q I1 r1 q1) he hpl
theorem r_(hc:cT X (.type T) r)(hg:Gl X x)(hm:X.mg x=none)(hv:bootBuiltins x=some (.type T))(ha:PA X (e::es) t)(hn:x≠"__name__":=by decide)(hdb:(x==("__debug__":Str))=false:=by decide)
  (he:starEach (e::es) X.env=(false,eval e X.env)::starEach es X.env:=by rfl) (hpl:(backTo pos (starEach es X.env)).any (·.1)=false:=by rfl):PE X (.Call (.Name x p) (e::es) [] pos) (tCB r t):=by
 intro pins s σ H Q I h
 refine wpAny_Call_Name_kw (lO I hg hm hv ?_ hn hdb)
 exact PyProof.Rows.callWith_type1 (thn (ha pos pins s σ H _ I h) λus s1 ⟨vs,H1,I1,r1,q1⟩=>hc pins s1 σ H1 vs us Q I1 r1 q1) he hpl
end
end L2
namespace HT
open PySem PyProof.Rows
def lexLt:List Int→List Int→Bool
 | [],[]=>false
 | [],_::_=>true
 | _::_,[]=>false
 | x::xs,y::ys=>if x=y then lexLt xs ys else decide (x<y)
theorem xD(x y:Int)(xs ys:List Int):lexLt (x::xs) (y::ys)=if x=y then lexLt xs ys else decide (x<y):=rfl
theorem Dh(A:Around)(s:Shared)(a:Int)(t:Tok)(c:Int)(u:Tok):∃e,SeqAt.EqAt A s (.int a t) (.int c u) e∧(e=true↔a=c) :=
 ⟨(a==c),SeqAt.EqAt.int_int a t c u,by simp⟩
theorem Di(A:Around)(s:Shared)(a:Int)(t:Tok)(c:Int)(u:Tok)(prog:Program)(w:World)(E:Value→Shared→Prop)(Q:Value→Shared→Prop)(h:Q (.bool (decide (a<c))) s) :
  wpAny (model prog w) A (richCompare .Lt (.int a t) (.int c u)) Q E s :=
 (PyProof.Rows.lt_int h:wpAny (model prog w) A (compareOp .Lt (.int a t) (.int c u)) Q E s)
section
open PySem.SeqAt
open PySem.AutoSeq1 (wpAny_loadPart')
open PySem.MeetsSeq PySem.MeetsSeq2 PySem.MeetsSeq3
end
section
variable{prog:Program}{w:World}{A:Around}{E:Value→Shared→Prop}{s:Shared}
theorem GP{t b:Addr}{vs ws:List Value}{Q:Value→Shared→Prop}(ht:IsTup s.heap t vs.toArray)(hb:IsTup s.heap b ws.toArray)(hv:vs≠[])
  (h1:ws=[]→Q (.ref t) s) (h2:ws≠[]→Q (.ref s.heap.objs.size) { s with heap:=s.heap.push { cls:=.type "tuple",data:=.seq (vs++ws).toArray } })
  (hsz:vs.length+ws.length≤sizeLine):wpAny (model prog w) A (binaryOp .Add (.ref t) (.ref b)) Q E s:=by
 obtain⟨⟨cls,dd,data,sl⟩,ho,hc,n,hd⟩:=id ht
 obtain⟨⟨Kv,dd2,data2,sl2⟩,ho2,hc2,n2,hd2⟩:=id hb
 simp only at hc hd hc2 hd2
 subst hc hd hc2 hd2
 have e:vs.toArray++ws.toArray=(vs++ws).toArray:=by simp
 by_cases hw:ws=[]
 ·exact concat_meets ⟨_,ho,rfl⟩ ⟨_,ho2,rfl⟩ noFill_tuple_add seq_tuple_add PySem.F.slot_tuple_add PySem.F.entry_tuple_add (PySem.F.args_tuple_add_2 _ _)
   (tuple_addW1 t b vs.toArray ws.toArray n n2 dd dd2 sl sl2 (by simpa using hv) (by simp[hw])) ⟨ho,ho2,h1 hw⟩
 ·refine concat_meets ⟨_,ho,rfl⟩ ⟨_,ho2,rfl⟩ noFill_tuple_add seq_tuple_add PySem.F.slot_tuple_add PySem.F.entry_tuple_add (PySem.F.args_tuple_add_2 _ _)
   (tuple_addW2 t b vs.toArray ws.toArray n n2 dd dd2 sl sl2 (by simpa using hv) (by simpa using hw) (by rw[List.size_toArray,List.size_toArray];exact hsz)) ⟨ho,ho2,?_⟩
  rw[e]
  exact h2 hw
def sIx(n d:Nat):Option Int→Nat
 | none=>d
 | some v=>if v<0 then (v+(n:Int)).toNat else min v.toNat n
theorem Kw(n d:Nat)(hd:d≤n)(o:Option Int):sIx n d o≤n:=by
 cases o with
 | none=>exact hd
 | some v =>
  show(if v<0 then (v+(n:Int)).toNat else min v.toNat n)≤n
  by_cases hv:v<0
  ·rw[if_pos hv];lia
  ·rw[if_neg hv];exact Nat.min_le_right _ _
theorem zJ(v:Int)(n d:Nat):(if v<0 then max (v+(n:Int)) 0 else min v (n:Int))=((sIx n d (some v):Nat):Int):=by
 show(if v<0 then max (v+(n:Int)) 0 else min v (n:Int))=(((if v<0 then (v+(n:Int)).toNat else min v.toNat n):Nat):Int)
 by_cases hv:v<0
 ·simp only[if_pos hv];lia
 ·simp only[if_neg hv];lia
theorem xE(lo hi:Option Int)(n:Nat):Builtin.Slice.sliceAdjust lo hi 1 (n:Int)=(((sIx n 0 lo:Nat):Int),((sIx n n hi:Nat):Int)):=by
 have h1:¬ ((1:Int)<0):=by lia
 unfold Builtin.Slice.sliceAdjust
 simp only[h1,if_false]
 refine Prod.ext ?_ ?_
 ·cases lo with
  | none=>rfl
  | some v=>exact zJ v n 0
 ·cases hi with
  | none=>rfl
  | some v=>exact zJ v n n
theorem xF(i j:Nat):Builtin.Slice.slicePlaces (i:Int) (j:Int) 1=j-i:=by
 unfold Builtin.Slice.slicePlaces
 have h1:(1:Int) > 0:=by lia
 simp only[h1,if_true,Int.ediv_one]
 split<;>lia
theorem p4{v:Value}{o:Option Int}{Q:Option Int→Shared→Prop}(p:IsPart v o)(h:Q o s):wpAny (model prog w) A (Builtin.Slice.slicePartIndex v) Q E s:=by
 cases p with
 | none=>exact slicePart_none h
 | int i t=>exact slicePart_int h
theorem ni{sl:Addr}{vl vu:Value}{lo hi:Option Int}{n:Nat}{Q:Int×Int×Nat→Shared→Prop}(hs:s.heap.IsSliceOf sl vl vu .none)(pl:IsPart vl lo)(pu:IsPart vu hi)
  (h:Q (((sIx n 0 lo:Nat):Int),1,sIx n n hi-sIx n 0 lo) s):wpAny (model prog w) A (Builtin.Slice.sliceApplied (.ref sl) (pure (n:Int))) Q E s:=by
 obtain⟨os,hos,hcs,hds⟩:=id hs
 unfold Builtin.Slice.sliceApplied Builtin.Slice.sliceFields
 refine wpAny_bind (wpAny_bind (wpAny_field hos hds (x:=vl) rfl (wpAny_bind (wpAny_field hos hds (x:=vu) rfl (wpAny_bind (wpAny_field hos hds (x:=.none) rfl (wpAny_pure ?_)))))))
 refine wpAny_bind (slicePart_none ?_)
 show wpAny _ _ (if ((1:Int)==0)=true then _ else _) _ _ s
 rw[if_neg (by decide)]
 refine wpAny_bind (p4 pl (wpAny_bind (p4 pu (wpAny_bind (wpAny_pure ?_)))))
 show wpAny _ _ (match Builtin.Slice.sliceAdjust lo hi 1 (n:Int) with|(lo,hi)=>pure (lo,(1:Int),Builtin.Slice.slicePlaces lo hi 1)) _ _ s
 rw[xE lo hi n]
 show wpAny _ _ (pure (((sIx n 0 lo:Nat):Int),(1:Int),Builtin.Slice.slicePlaces ((sIx n 0 lo:Nat):Int) ((sIx n n hi:Nat):Int) 1)) _ _ s
 rw[xF]
 exact wpAny_pure h
theorem Dj(xs:Array Value)(i k:Nat):((List.range k).filterMap λ(m:Nat)=>xs[((i:Int)+(m:Int)*1).toNat]?).toArray=((xs.toList.drop i).take k).toArray:=by
 have e:(λ(m:Nat)=>xs[((i:Int)+(m:Int)*1).toNat]?)=λm=>xs[i+m]?:=by
  funext m
  have:((i:Int)+(m:Int)*1).toNat=i+m:=by lia
  rw[this]
 rw[e]
 have:=pick_run xs i k
 rw[List.filterMap_map] at this
 have e2:((λx=>xs[x]?) ∘ λx=>i+x)=λm=>xs[i+m]?:=rfl
 rw[e2] at this
 rw[this]
theorem my{t sl:Addr}{items:Array Value}{vl vu:Value}{lo hi:Option Int}{Q:Value→Shared→Prop}(ht:IsTup s.heap t items)(hs:s.heap.IsSliceOf sl vl vu .none)(pl:IsPart vl lo)(pu:IsPart vu hi)
  (hw:¬ (sIx items.size 0 lo=0∧sIx items.size items.size hi=items.size))
  (h:Q (.ref s.heap.objs.size) { s with heap:=s.heap.push { cls:=.type "tuple",data:=.seq ((items.toList.drop (sIx items.size 0 lo)).take (sIx items.size items.size hi-sIx items.size 0 lo)).toArray } })
  (hsz:items.size≤sizeLine):wpAny (model prog w) A (getItem (.ref t) (.ref sl)) Q E s:=by
 have sa:sizeOk (.seq ((items.toList.drop (sIx items.size 0 lo)).take (sIx items.size items.size hi-sIx items.size 0 lo)).toArray):=by
  show((items.toList.drop (sIx items.size 0 lo)).take (sIx items.size items.size hi-sIx items.size 0 lo)).toArray.size≤sizeLine
  rw[List.size_toArray,List.length_take,List.length_drop,Array.length_toList]
  lia
 have hj:sIx items.size items.size hi≤items.size:=Kw _ _ (Nat.le_refl _) hi
 obtain⟨os,hos,hcs,hds⟩:=id hs
 have hTs:s.TypeIs (.ref sl) "slice":=⟨os,hos,hcs⟩
 unfold getItem
 try with_reducible refine wpAny_holding ?_
 first|refine wpAny_bind (wpAny_pure ?_)|skip
 refine wpAny_bind (wpAny_sequenceKey ht.typeIs (by decide) ?_)
 refine wpAny_bind (wpAny_callSpecial?_slot (name:=Str.ofString "__getitem__") ht.typeIs PyProof.Rows.slot_tuple_getitem
  (wpAny_call_entry PyProof.Rows.slot_tuple_getitem ht.typeIs entry_tuple_getitem ?_ (args_tuple_getitem _ _)))
 show wpAny _ _ (Builtin.Tuple.tupleItemsOf (.ref t)>>=_) _ _ s
 refine wpAny_bind (tupleItemsOf_ ht ?_)
 refine wpAny_bind (wpAny_typeOf hTs ?_)
 rw[if_pos (by decide)]
 refine wpAny_bind (ni hs pl pu ?_)
 have hno:¬ ((((sIx items.size 0 lo:Nat):Int)==0 && (1:Int)==1 && (sIx items.size items.size hi-sIx items.size 0 lo)==items.size)=true):=by
  intro q
  rw[Bool.and_eq_true,Bool.and_eq_true] at q
  have q1:((sIx items.size 0 lo:Nat):Int)=0:=eq_of_beq q.1.1
  have q2:sIx items.size items.size hi-sIx items.size 0 lo=items.size:=eq_of_beq q.2
  exact hw ⟨by lia,by lia⟩
 show wpAny _ _ (if (((sIx items.size 0 lo:Nat):Int)==0 && (1:Int)==1 && (sIx items.size items.size hi-sIx items.size 0 lo)==items.size)=true then _ else _) _ _ s
 rw[if_neg hno,Dj]
 first
  | exact wpAny_bind (m:=Builtin.Tuple.tupleExact _) (wpAny_newObj_type (wpAny_pure ⟨_,rfl,wpAny_pure h⟩) sa)
  | exact wpAny_bind (m:=Builtin.Tuple.tupleExact _) (wpAny_newObj_type (wpAny_bind (wpAny_pure (wpAny_pure ⟨_,rfl,wpAny_pure h⟩))) sa)
  | exact wpAny_bind (wpAny_bind (m:=Builtin.Tuple.tupleExact _) (wpAny_newObj_type (wpAny_pure (wpAny_pure ⟨_,rfl,wpAny_pure h⟩)) sa))
  | exact wpAny_bind (wpAny_bind (m:=Builtin.Tuple.tupleExact _) (wpAny_newObj_type (wpAny_pure ⟨_,rfl,wpAny_pure h⟩) sa))
end
end HT
namespace L2
open PySem PySem.Spec PyProof.Rows
abbrev TO:=St→Hp→(Option Int→Hp→Prop)→Prop
def PO(X:Cx)(e:Option Expr)(t:TO):Prop :=
 ∀(pins:List (Addr×Obj)) (s:Shared) (σ:St) (H:Hp) (Q:Option Int→Hp→Prop),Inv X pins σ H s→t σ H Q →
  wpAny (model X.prog X.w) X.A (evalPart e X.env) (λu s'=>∃o H',Inv X pins σ H' s'∧IsPart u o∧Q o H') X.xe s
def GQ:TO:=λ_ H Q=>Q none H
def Nb(t:TE):TO:=λσ H Q=>t σ H λx H1=>∃i,x=.int i∧Q (some i) H1
theorem intsAre_of{ns:List Int}:∀{us:List Value},Vals (ns.map V.int) us→IntsAre us ns:=by
 induction ns with
 | nil=>intro us r;rw[List.map_nil] at r;cases r;exact .nil
 | cons n ns ih =>
  intro us r
  rw[List.map_cons] at r
  cases r with
  | cons r1 r2 =>
   obtain⟨t,e⟩:=r1
   subst e
   exact .cons n t (ih r2)
section
variable{X:Cx}{e:Expr}{te:TE}{lo hi:Option Expr}{tl th:TO}{pos p2:Pos}
theorem GR:PO X none GQ:=by
 intro pins s σ H Q I h
 rw[evalPart_none]
 exact wpAny_pure ⟨none,H,I,.none,h⟩
theorem GS(h:PE X e te):PO X (some e) (Nb te):=by
 intro pins s σ H Q I hw
 rw[evalPart_some]
 refine thn (h pins s σ H _ I hw) λu s1 au=>?_
 obtain⟨x,H1,I1,r1,q1⟩:=au
 obtain⟨i,rfl,q⟩:=q1
 obtain⟨t,rfl⟩:=r1
 exact⟨some i,H1,I1,.int i t,q⟩
def SlR(X:Cx)(r:V→Option Int→Option Int→Hp→VK→Prop):Prop :=
 ∀(pins:List (Addr×Obj)) (s:Shared) (σ:St) (H:Hp) (x:V) (v vl vu:Value) (lo hi:Option Int) (sl:Addr) (Q:VK),Inv X pins σ H s→RelV x v→s.heap.IsSliceOf sl vl vu .none→IsPart vl lo→IsPart vu hi→r x lo hi H Q →
  ∃T id,typeLookup (.type T) "__getitem__"=pure (some (.builtin id))∧s.TypeIs v T∧wpAny (model X.prog X.w) X.A (getItem v (.ref sl)) (EP X pins σ Q) X.xe s
theorem SlR.or{r r':V→Option Int→Option Int→Hp→VK→Prop}(h:SlR X r)(h':SlR X r'):SlR X (λx lo hi H Q=>r x lo hi H Q∨r' x lo hi H Q):=by
 intro pins s σ H x v vl vu lo hi sl Q I rx hs pl pu q
 rcases q with q|q
 ·exact h pins s σ H x v vl vu lo hi sl Q I rx hs pl pu q
 ·exact h' pins s σ H x v vl vu lo hi sl Q I rx hs pl pu q
def tSl(r:V→Option Int→Option Int→Hp→VK→Prop)(te:TE)(tl th:TO):TE:=λσ H Q=>te σ H λx H1=>tl σ H1 λl H2=>th σ H2 λu H3=>r x l u H3 Q
theorem Dk{r:V→Option Int→Option Int→Hp→VK→Prop}(hr:SlR X r)(he:PE X e te)(hl:PO X lo tl)(hu:PO X hi th):PE X (.Subscript e (.Slice lo hi none p2) pos) (tSl r te tl th):=by
 intro pins s σ H Q I h
 refine Subscript_ (thn (he pins s σ H _ I h) λv s1 au=>?_)
 obtain⟨x,H1,I1,r1,q1⟩:=au
 refine wpAny_Slice (thn (hl pins s1 σ H1 _ I1 q1) λvl s2 ⟨l,H2,I2,pl,q2⟩=>thn (hu pins s2 σ H2 _ I2 q2) λvu s3 cK=>?_)
 obtain⟨u,H3,I3,pu,q3⟩:=cK
 rw[evalPart_none]
 refine wpAny_pure ?_
 have I4:Inv X pins σ H3 { s3 with heap:=s3.heap.push { cls:=.type "slice",data:=.fields #[vl,vu,.none] } }:=I3.kept (t':=s3.toks) λb ob q=>Heap.get?_push_of_some _ q
 obtain⟨T,id,hT,ht,hg⟩:=hr pins { s3 with heap:=s3.heap.push { cls:=.type "slice",data:=.fields #[vl,vu,.none] } } σ H3 x v vl vu l u s3.heap.objs.size Q I4 r1 (Heap.IsSliceOf.new ..) pl pu q3
 show wpAny (model X.prog X.w) X.A (subscriptTail e (.Slice lo hi none p2) v (.ref s3.heap.objs.size)) (EP X pins σ Q) X.xe { s3 with heap:=s3.heap.push { cls:=.type "slice",data:=.fields #[vl,vu,.none] } }
 exact tail_any (ops:=[.ref s3.heap.objs.size,v]) ht hT hg (by with_unfolding_all rfl)
def vB(xs:List V)(lo hi:Option Int):List V:=(xs.drop (HT.sIx xs.length 0 lo)).take (HT.sIx xs.length xs.length hi-HT.sIx xs.length 0 lo)
theorem ou(xs:List V)(lo hi:Option Int):(vB xs lo hi).length≤xs.length:=by
 unfold vB
 rw[List.length_take,List.length_drop]
 lia
def O_(K:PySem.W.Frag):V→Option Int→Option Int→Hp→VK→Prop:=λx lo hi H Q=>∃a xs,x=.ref a∧SqT K H a xs ∧
 ¬ (HT.sIx xs.length 0 lo=0∧HT.sIx xs.length xs.length hi=xs.length)∧∀p,H p=none→Q (.ref p) (upd H p (.tup (vB xs lo hi)))
theorem Kx:SlR X (O_ X.K):=by
 intro pins s σ H x v vl vu lo hi sl Q I rx hs pl pu h
 obtain⟨a,xs,rfl,hx,hw,q⟩:=h
 cases rx
 obtain⟨its,r,ht,hz⟩:=I.tuple hx
 have hlen:its.toArray.size=xs.length:=by rw[List.size_toArray];exact r.length.symm
 refine⟨"tuple",_,PyProof.Rows.slot_tuple_getitem.lookup,ht.typeIs,?_⟩
 refine HT.my ht hs pl pu (by rw[hlen];exact hw) ?_ (by rw[hlen];exact hz)
 rw[hlen]
 refine⟨.ref s.heap.objs.size,_,I.laid (t':=s.toks) (o:=.tup (vB xs lo hi)) (λb ob q=>Heap.get?_push_of_some _ q) (Nat.le_refl _) ?_,rfl,q _ (I.hok.fresh (Nat.le_refl _))⟩
 exact⟨Nat.le_trans (ou xs lo hi) hz,_,(r.drop (HT.sIx xs.length 0 lo)).take (HT.sIx xs.length xs.length hi-HT.sIx xs.length 0 lo),IsTup.new _ _⟩
def Nc(K:PySem.W.Frag):R2:=λx y H Q=>∃a b xs ys,x=.ref a∧y=.ref b∧SqT K H a xs∧SqT K H b ys∧xs≠[]∧xs.length+ys.length≤sizeLine ∧
 (ys=[]→Q (.ref a) H)∧(ys≠[]→∀p,H p=none→Q (.ref p) (upd H p (.tup (xs++ys))))
theorem Vals.pv{xs:List V}{us:List Value}(r:Vals xs us):us=[]↔xs=[]:=by
 cases r with
 | nil=>simp
 | cons _ _=>simp
theorem GU:OpR X (binaryOp .Add) (Nc X.K):=by
 intro pins s σ H x y v u Q I rx ry h
 obtain⟨a,b,xs,ys,rfl,rfl,ha,hb,hx,hz,q1,q2⟩:=h
 cases rx
 cases ry
 obtain⟨its,r1,p1,_⟩:=I.tuple ha
 obtain⟨lb,r2,p2,_⟩:=I.tuple hb
 refine HT.GP p1 p2 (λz=>hx (r1.pv.mp z)) (λz=>⟨.ref a,H,I,rfl,q1 (r2.pv.mp z)⟩) (λz=>?_) (by rw[← r1.length,← r2.length];exact hz)
 refine⟨.ref s.heap.objs.size,_,I.laid (t':=s.toks) (o:=.tup (xs++ys)) (λb ob q=>Heap.get?_push_of_some _ q) (Nat.le_refl _) ?_,rfl,q2 (λw=>z (r2.pv.mpr w)) _ (I.hok.fresh (Nat.le_refl _))⟩
 exact⟨by rw[List.length_append];exact hz,_,r1.append r2,IsTup.new _ _⟩
end
def ixN(n:Nat)(i:Int):Option Nat:=if 0≤i then (if i<n then some i.toNat else none) else if -(n:Int)≤i then some (i+n).toNat else none
def atI{α:Type}(xs:List α)(i:Int):Option α:=(ixN xs.length i).bind λj=>xs[j]?
theorem zK{n:Nat}{i:Int}{j:Nat}(h:ixN n i=some j):seqIndex? i n=some j∧j<n∧-(n:Int)≤i∧i<n:=by
 unfold ixN at h
 by_cases h0:0≤i
 ·rw[if_pos h0] at h
  by_cases h1:i<n
  ·rw[if_pos h1] at h
   have e:i.toNat=j:=Option.some.inj h
   exact⟨by rw[seqIndex_of h0 h1,e],by lia,by lia,h1⟩
  ·rw[if_neg h1] at h;cases h
 ·rw[if_neg h0] at h
  by_cases h1:-(n:Int)≤i
  ·rw[if_pos h1] at h
   have e:(i+n).toNat=j:=Option.some.inj h
   exact⟨by rw[seqIndex_neg (by lia) h1,e],by lia,h1,by lia⟩
  ·rw[if_neg h1] at h;cases h
theorem tY{α:Type}{xs:List α}{i:Int}{v:α}(h:atI xs i=some v):∃j,seqIndex? i xs.length=some j∧xs[j]?=some v∧j<xs.length∧-(xs.length:Int)≤i∧i<xs.length:=by
 unfold atI at h
 cases e:ixN xs.length i with
 | none=>rw[e] at h;cases h
 | some j =>
  rw[e] at h
  obtain⟨h1,h2,h3,h4⟩:=zK e
  exact⟨j,h1,h,h2,h3,h4⟩
def zL(b:Expr):Prop:=∀o i,subscripted b false o i=operate [o,i] (getItem o i)
def IxR(X:Cx)(r:R2):Prop :=
 ∀(value slice:Expr) (pins:List (Addr×Obj)) (s:Shared) (σ:St) (H:Hp) (x y:V) (v u:Value) (Q:VK),Inv X pins σ H s→RelV x v→RelV y u→r x y H Q →
  subscripted slice false v u=operate [v,u] (getItem v u)→wpAny (model X.prog X.w) X.A (subscriptTail value slice v u) (EP X pins σ Q) X.xe s
def MtR(X:Cx)(id:String)(r:V→List V→Hp→VK→Prop):Prop :=
 ∀(pins:List (Addr×Obj)) (s:Shared) (σ:St) (H:Hp) (x:V) (xs:List V) (v:Value) (us:List Value) (Q:VK),Inv X pins σ H s→RelV x v→Vals xs us→r x xs H Q →
  wpAny (model X.prog X.w) X.A (call (.builtin id) (v::us)) (EP X pins σ Q) X.xe s
section
variable{X:Cx}{a b:Expr}{ta tb:TE}{pos:Pos}
theorem IxR.or{r r':R2}(h:IxR X r)(h':IxR X r'):IxR X (λx y H Q=>r x y H Q∨r' x y H Q):=by
 intro value slice pins s σ H x y v u Q I rx ry q hs
 rcases q with q|q
 ·exact h value slice pins s σ H x y v u Q I rx ry q hs
 ·exact h' value slice pins s σ H x y v u Q I rx ry q hs
theorem Nd{r:R2}(hr:IxR X r)(ha:PE X a ta)(hb:PE X b tb)(hs:zL b):PE X (.Subscript a b pos) (tOp r ta tb):=by
 intro pins s σ H Q I h
 exact Subscript_ (Kj ha hb I h λv u s2 x y H2 I2 rx ry q=>hr a b pins s2 σ H2 x y v u Q I2 rx ry q (hs _ _))
def Nf(K:PySem.W.Frag):R2:=λx y H Q=>∃p xs i v,x=.ref p∧y=.int i∧SqL K H p xs∧atI xs i=some v∧Q v H
def Ng(K:PySem.W.Frag):R2:=λx y H Q=>∃p xs i v,x=.ref p∧y=.int i∧SqT K H p xs∧atI xs i=some v∧Q v H
def Nh:R2:=λx y H Q=>∃z i c,x=.str z∧y=.int i∧z.length≤sizeLine∧atI z.cps.toList i=some c∧Q (.str ⟨#[c]⟩) H
theorem GV:IxR X (Nf X.K):=by
 intro value slice pins s σ H x y v u Q I rx ry h hs
 obtain⟨p,xs,i,z,rfl,rfl,hq,he,q⟩:=h
 cases rx
 obtain⟨t,rfl⟩:=ry
 obtain⟨its,r,pl,hz⟩:=I.list hq
 obtain⟨j,h1,h2,h3,h4,h5⟩:=tY he
 obtain⟨w,ew,rw'⟩:=r.get h2
 have hl:=r.length
 have hn:=nh
 have fin:EP X pins σ Q w s:=⟨z,H,I,rw',q⟩
 by_cases h0:0≤i
 ·have hj:i.toNat=j:=by
   rw[seqIndex_of h0 h5] at h1
   exact Option.some.inj h1
  exact item_listR pl.isList h0 (by lia) (by rw[hj];simpa using ew) fin hs
 ·have hj:(i+(its.toArray.size:Int)).toNat=j:=by
   rw[seqIndex_neg (by lia) h4] at h1
   rw[List.size_toArray,← hl]
   exact Option.some.inj h1
  exact subscriptTail_builtinR (x:=w) pl.isList.typeIs slot_list_getitem.lookup
   (wpAny_getItem_list_neg (Q:=λr s'=>r=w∧EP X pins σ Q r s') pl.isList (by lia) (by rw[List.size_toArray]<;>lia) (by lia) (by rw[hj];simpa using ew) ⟨rfl,fin⟩) hs
theorem Ky:IxR X (Ng X.K):=by
 intro value slice pins s σ H x y v u Q I rx ry h hs
 obtain⟨p,xs,i,z,rfl,rfl,hq,he,q⟩:=h
 cases rx
 obtain⟨t,rfl⟩:=ry
 obtain⟨its,r,pl,hz⟩:=I.tuple hq
 obtain⟨j,h1,h2,h3,h4,h5⟩:=tY he
 obtain⟨w,ew,rw'⟩:=r.get h2
 have hl:=r.length
 have hn:=nh
 have fin:EP X pins σ Q w s:=⟨z,H,I,rw',q⟩
 exact subscriptTail_builtinR (x:=w) pl.typeIs slot_tuple_getitem.lookup
  (getItem_tuple (j:=j) (Q:=λr s'=>r=w∧EP X pins σ Q r s') pl (by lia) (by lia) (by rw[List.size_toArray,← hl];exact h1) (by simpa using ew) ⟨rfl,fin⟩) hs
theorem Kz:IxR X Nh:=by
 intro value slice pins s σ H x y v u Q I rx ry h hs
 obtain⟨z,i,c,rfl,rfl,hz,he,q⟩:=h
 obtain⟨t,rfl⟩:=rx
 obtain⟨t',rfl⟩:=ry
 obtain⟨j,h1,h2,h3,h4,h5⟩:=tY he
 have hl:z.cps.toList.length=z.length:=by simp[Str.length]
 rw[hl] at h1 h4 h5
 have hn:=nh
 exact tail_any (typeIs_str s z t) slot_str_getitem.lookup (getItem_str (c:=c) (by
  have e1:decide (i< -(2 ^ 63:Int))=false:=decide_eq_false (by lia)
  have e2:decide (i ≥ 2 ^ 63)=false:=decide_eq_false (by lia)
  rw[e1,e2,Bool.or_false]) (by rw[h1];simpa using h2) ⟨.str ⟨#[c]⟩,H,I.tok _,⟨_,rfl⟩,q⟩) hs
def rIx(K:PySem.W.Frag):R2:=λx y H Q=>Nf K x y H Q∨Ng K x y H Q∨Nh x y H Q
theorem KA:IxR X (rIx X.K):=GV.or (Ky.or Kz)
theorem xG(its:List Value)(n j:Nat)(u:Value):Obj.mapSeq (·.setIfInBounds j u) { cls:=.type "list",data:=.seq its.toArray n }={ cls:=.type "list",data:=.seq (its.set j u).toArray n }:=by
 simp[Obj.mapSeq]
theorem Inv.lst{pins:List (Addr×Obj)}{σ:St}{H:Hp}{s:Shared}{p:Addr}{xs:List V}(I:Inv X pins σ H s)(h:H p=some (.lst xs)) :
  ∃(its:List Value) (n:Nat),Vals xs its∧s.heap.get? p=some { cls:=.type "list",data:=.seq its.toArray n }∧xs.length≤sizeLine:=by
 obtain⟨z,its,n,r,e⟩:=I.hok p _ h
 exact⟨its,n,r,e,z⟩
theorem Inv.KC{pins:List (Addr×Obj)}{σ:St}{H:Hp}{s:Shared}{p:Addr}{xs ys:List V}{its its':List Value}{n n':Nat}{f:Obj→Obj}(I:Inv X pins σ H s)(h:H p=some (.lst xs))
  (ho:s.heap.get? p=some { cls:=.type "list",data:=.seq its.toArray n }) (hf:f { cls:=.type "list",data:=.seq its.toArray n }={ cls:=.type "list",data:=.seq its'.toArray n' }) (r:Vals ys its') (hz:ys.length≤sizeLine) (t:Nat) :
  Inv X pins σ (upd H p (.lst ys)) { s with heap:=s.heap.update p f,toks:=t }:=by
 have e:(s.heap.update p f).get? p=some { cls:=.type "list",data:=.seq its'.toArray n' }:=by
  rw[Heap.get?_update_self f ho (by rw[hf]<;>rfl),hf]
 refine I.write (x:=p) (e:=p) (by rw[h];trivial) (.inl rfl) (λb u hb q=>(Heap.get?_update_other _ _ (Ne.symm hb)).trans q) ⟨_,e⟩ ?_
 exact⟨hz,its',n',r,e⟩
def Ni:V→V→V→Hp→(Hp→Prop)→Prop:=λo i v H Q=>∃p xs k j,o=.ref p∧i=.int k∧H p=some (.lst xs)∧ixN xs.length k=some j∧Q (upd H p (.lst (xs.set j v)))
theorem set_list:MX X Ni:=by
 intro pins s σ H o i v ov iv u Q I ro ri rv h
 obtain⟨p,xs,k,j,rfl,rfl,hp,hj,q⟩:=h
 cases ro
 obtain⟨t,rfl⟩:=ri
 obtain⟨its,n,r,ho,hz⟩:=I.lst hp
 obtain⟨h1,h2,h3,h4⟩:=zK hj
 have hl:=r.length
 have hn:=nh
 have I':Inv X pins σ (upd H p (.lst (xs.set j v))) { s with heap:=s.heap.update p (Obj.mapSeq (·.setIfInBounds j u)) } :=
  I.KC hp ho (xG its n j u) (r.set rv j) (by rw[List.length_set];exact hz) s.toks
 by_cases h0:0≤k
 ·have hk:k.toNat=j:=by
   rw[seqIndex_of h0 h4] at h1
   exact Option.some.inj h1
  exact PySem.W.ki_setAt ho h0 (by lia) (by rw[List.size_toArray,← hl];exact h4) (by rw[hk];exact⟨_,I',q⟩)
 ·have hk:(k+(its.toArray.size:Int)).toNat=j:=by
   rw[seqIndex_neg (by lia) h3] at h1
   rw[List.size_toArray,← hl]
   exact Option.some.inj h1
  exact PySem.W.ki_setBack ho (by lia) (by rw[List.size_toArray,← hl];exact h3) (by lia) (by rw[hk];exact⟨_,I',q⟩)
theorem tZ(lo hi:Option Int)(n:Nat):(sliceBounds lo hi none n).1=((HT.sIx n 0 lo:Nat):Int)∧(sliceBounds lo hi none n).2.1=((HT.sIx n n hi:Nat):Int)∧(sliceBounds lo hi none n).2.2=1:=by
 refine⟨?_,?_,rfl⟩
 ·cases lo with
  | none=>simp[sliceBounds,HT.sIx]
  | some i =>
   simp only[sliceBounds,HT.sIx,Option.getD_none,show(1:Int) > 0 by decide,if_true]
   by_cases h:i<0
   ·simp only[h,if_true]<;>lia
   ·simp only[h,if_false]<;>lia
 ·cases hi with
  | none=>simp[sliceBounds,HT.sIx]
  | some i =>
   simp only[sliceBounds,HT.sIx,Option.getD_none,show(1:Int) > 0 by decide,if_true]
   by_cases h:i<0
   ·simp only[h,if_true]<;>lia
   ·simp only[h,if_false]<;>lia
theorem rD(its:List Value)(lo hi:Option Int):slicePick its.toArray lo hi none=((its.drop (HT.sIx its.length 0 lo)).take (HT.sIx its.length its.length hi-HT.sIx its.length 0 lo)).toArray:=by
 obtain⟨h1,h2,h3⟩:=tZ lo hi its.toArray.size
 unfold slicePick
 rw[h1,h2,h3]
 simp only[sliceRange_one,pick_run,List.size_toArray]<;>rfl
def Pa(K:PySem.W.Frag):V→Option Int→Option Int→Hp→VK→Prop:=λx lo hi H Q=>∃a xs,x=.ref a∧SqL K H a xs∧∀p,H p=none→Q (.ref p) (upd H p (.lst (vB xs lo hi)))
theorem GW:SlR X (Pa X.K):=by
 intro pins s σ H x v vl vu lo hi sl Q I rx hs pl pu h
 obtain⟨a,xs,rfl,hx,q⟩:=h
 cases rx
 obtain⟨its,r,ht,hz⟩:=I.list hx
 have hlen:=r.length
 refine⟨"list",_,slot_list_getitem.lookup,ht.isList.typeIs,?_⟩
 refine wpAny_getItem_list_slice ht.isList hs pl pu .none (by simp) ?_ (by rw[List.size_toArray]<;>lia)
 rw[rD,← hlen]
 refine⟨.ref s.heap.objs.size,_,I.laid (t':=s.toks) (o:=.lst (vB xs lo hi)) (λb ob q=>Heap.get?_push_of_some _ q) (Nat.le_refl _) ?_,rfl,q _ (I.hok.fresh (Nat.le_refl _))⟩
 exact⟨Nat.le_trans (ou xs lo hi) hz,_,0,(r.drop (HT.sIx xs.length 0 lo)).take (HT.sIx xs.length xs.length hi-HT.sIx xs.length 0 lo),Heap.get?_push_size _ rfl⟩
def lr:V→Bool
 | .non=>true
 | .bl _=>true
 | .int _=>true
 | .str _=>true
 | _=>false
def eqV:V→V→Bool
 | .non,.non=>true
 | .bl a,.bl b=>a==b
 | .bl a,.int b=>(if a then 1 else 0)==b
 | .int a,.bl b=>a==(if b then 1 else 0)
 | .int a,.int b=>a==b
 | .str a,.str b=>a==b
 | _,_=>false
theorem KD{A:Around}{s:Shared}{y x:V}{u v:Value}(ry:RelV y u)(rx:RelV x v)(fy:lr y=true)(fx:lr x=true):SeqAt.EqAt A s u v (eqV y x):=by
 cases y with
 | non =>
  cases ry
  cases x with
  | non=>cases rx;exact SeqAt.EqAt.same _
  | bl b=>cases rx;exact SeqAt.EqAt.none_bool b
  | int b=>obtain⟨t,rfl⟩:=rx;exact SeqAt.EqAt.none_int b t
  | str b=>obtain⟨t,rfl⟩:=rx;exact SeqAt.EqAt.none_str b t
  | _=>exact absurd (show false=true from fx) Bool.false_ne_true
 | bl a =>
  cases ry
  cases x with
  | non=>cases rx;exact SeqAt.EqAt.bool_none a
  | bl b=>cases rx;exact SeqAt.EqAt.bool_bool a b
  | int b=>obtain⟨t,rfl⟩:=rx;exact SeqAt.EqAt.bool_int a b t
  | str b=>obtain⟨t,rfl⟩:=rx;exact SeqAt.EqAt.bool_str a b t
  | _=>exact absurd (show false=true from fx) Bool.false_ne_true
 | int a =>
  obtain⟨t',rfl⟩:=ry
  cases x with
  | non=>cases rx;exact SeqAt.EqAt.int_none a t'
  | bl b=>cases rx;exact SeqAt.EqAt.int_bool a t' b
  | int b=>obtain⟨t,rfl⟩:=rx;exact SeqAt.EqAt.int_int a t' b t
  | str b=>obtain⟨t,rfl⟩:=rx;exact SeqAt.EqAt.int_str a t' b t
  | _=>exact absurd (show false=true from fx) Bool.false_ne_true
 | str a =>
  obtain⟨t',rfl⟩:=ry
  cases x with
  | non=>cases rx;exact SeqAt.EqAt.str_none a t'
  | bl b=>cases rx;exact SeqAt.EqAt.str_bool a t' b
  | int b=>obtain⟨t,rfl⟩:=rx;exact SeqAt.EqAt.str_int a t' b t
  | str b=>obtain⟨t,rfl⟩:=rx;exact SeqAt.EqAt.str_str a t' b t
  | _=>exact absurd (show false=true from fx) Bool.false_ne_true
 | _=>exact absurd (show false=true from fy) Bool.false_ne_true
def eqU(x:V)(u:Value):Bool:=match u with
 | .none=>eqV .non x
 | .bool b=>eqV (.bl b) x
 | .int i _=>eqV (.int i) x
 | .str z _=>eqV (.str z) x
 | _=>false
theorem Dl{x y:V}{u:Value}(r:RelV y u)(f:lr y=true):eqU x u=eqV y x:=by
 cases y with
 | non=>cases r;rfl
 | bl b=>cases r;rfl
 | int i=>obtain⟨t,rfl⟩:=r;rfl
 | str z=>obtain⟨t,rfl⟩:=r;rfl
 | _=>exact absurd (show false=true from f) Bool.false_ne_true
theorem mz{x:V}:∀{xs:List V}{us:List Value},Vals xs us→xs.all lr=true→us.any (eqU x)=xs.any λy=>eqV y x
 | _,_,.nil,_=>rfl
 | y::xs,u::us,.cons r t,f=>by
  rw[List.all_cons,Bool.and_eq_true] at f
  rw[List.any_cons,List.any_cons,Dl r f.1,mz t f.2]
theorem jW{A:Around}{s:Shared}{x:V}{v:Value}(rx:RelV x v)(fx:lr x=true):∀{xs:List V}{us:List Value},Vals xs us→xs.all lr=true→∀u∈us,SeqAt.EqAt A s u v (eqU x u)
 | _,_,.nil,_=>λu hu=>by cases hu
 | y::xs,u::us,.cons r t,f=>λu' hu=>by
  rw[List.all_cons,Bool.and_eq_true] at f
  rcases List.mem_cons.mp hu with rfl|hu
  ·rw[Dl r f.1];exact KD r rx f.1 fx
  ·exact jW rx fx t f.2 u' hu
def inV(x:V)(xs:List V):Bool:=xs.any λy=>eqV y x
def rIn(K:PySem.W.Frag)(neg:Bool):R2:=λx y H Q=>∃p xs,y=.ref p∧(SqL K H p xs∨SqT K H p xs)∧lr x=true∧xs.all lr=true∧Q (.bl (if neg then !inV x xs else inV x xs)) H
theorem sd:OpR X (compareOp .In) (rIn X.K false):=by
 intro pins s σ H x y v u Q I rx ry h
 obtain⟨p,xs,rfl,hq,fx,fs,q⟩:=h
 cases ry
 rcases hq with hq|hq
 ·obtain⟨its,r,pl,hz⟩:=I.list hq
  refine SeqAt.in_listAt (eqU x) pl.isList (λw hw=>jW rx fx r fs w (by simpa using hw)) ⟨.bl _,H,I,rfl,?_⟩
  rw[show its.toArray.any (eqU x)=its.any (eqU x) by simp,mz r fs]
  exact q
 ·obtain⟨its,r,pl,hz⟩:=I.tuple hq
  refine SeqAt.in_tupleAt (eqU x) pl (λw hw=>jW rx fx r fs w (by simpa using hw)) ⟨.bl _,H,I,rfl,?_⟩
  rw[show its.toArray.any (eqU x)=its.any (eqU x) by simp,mz r fs]
  exact q
theorem t6:OpR X (compareOp .NotIn) (rIn X.K true):=by
 intro pins s σ H x y v u Q I rx ry h
 obtain⟨p,xs,rfl,hq,fx,fs,q⟩:=h
 cases ry
 rcases hq with hq|hq
 ·obtain⟨its,r,pl,hz⟩:=I.list hq
  refine SeqAt.notIn_listAt (eqU x) pl.isList (λw hw=>jW rx fx r fs w (by simpa using hw)) ⟨.bl _,H,I,rfl,?_⟩
  rw[show its.toArray.any (eqU x)=its.any (eqU x) by simp,mz r fs]
  exact q
 ·obtain⟨its,r,pl,hz⟩:=I.tuple hq
  refine SeqAt.notIn_tupleAt (eqU x) pl (λw hw=>jW rx fx r fs w (by simpa using hw)) ⟨.bl _,H,I,rfl,?_⟩
  rw[show its.toArray.any (eqU x)=its.any (eqU x) by simp,mz r fs]
  exact q
theorem t7:cT X (.builtin "len") (λxs H Q=>∃p ys,xs=[.ref p]∧(SqL X.K H p ys∨SqT X.K H p ys)∧Q (.int ys.length) H):=by
 intro pins s σ H xs us Q I r h
 obtain⟨p,ys,rfl,hq,q⟩:=h
 obtain⟨u,rfl,rx⟩:=vals1 r
 cases rx
 have hn:=nh
 rcases hq with hq|hq
 ·obtain⟨its,r',pl,hz⟩:=I.list hq
  have hlen:=r'.length
  exact Calls.call_len_list pl.isList (by simp only[List.size_toArray]<;>lia) ⟨.int ys.length,H,I.tok _,⟨s.toks+1,by rw[List.size_toArray,hlen]⟩,q⟩
 ·obtain⟨its,r',pl,hz⟩:=I.tuple hq
  have hlen:=r'.length
  exact len_tuple pl (by simp only[List.size_toArray]<;>lia) ⟨.int ys.length,H,I.tok _,⟨s.toks+1,by rw[List.size_toArray,hlen]⟩,q⟩
theorem t8:cT X (.builtin "len") (λxs H Q=>∃z,xs=[.str z]∧z.length≤sizeLine∧Q (.int z.length) H):=by
 intro pins s σ H xs us Q I r h
 obtain⟨z,rfl,hz,q⟩:=h
 obtain⟨u,rfl,t,rfl⟩:=vals1 r
 have hn:=nh
 exact len_str (by lia) ⟨.int z.length,H,I.tok _,⟨_,rfl⟩,q⟩
theorem cT.or{f:Value}{r r':List V→Hp→VK→Prop}(h:cT X f r)(h':cT X f r'):cT X f (λxs H Q=>r xs H Q∨r' xs H Q):=by
 intro pins s σ H xs us Q I rs q
 rcases q with q|q
 ·exact h pins s σ H xs us Q I rs q
 ·exact h' pins s σ H xs us Q I rs q
theorem t9:cT X (.type "list") (λxs H Q=>∃p ys,xs=[.ref p]∧(SqL X.K H p ys∨SqT X.K H p ys)∧∀l,H l=none→Q (.ref l) (upd H l (.lst ys))):=by
 intro pins s σ H xs us Q I r h
 obtain⟨p,ys,rfl,hq,q⟩:=h
 obtain⟨u,rfl,rx⟩:=vals1 r
 cases rx
 have fin:∀(its:List Value),Vals ys its→ys.length≤sizeLine→∀(h':Heap) (c':Nat),(∀b o',s.heap.get? b=some o'→h'.get? b=some o') →
   h'.get? s.heap.objs.size=some { cls:=.type "list",dict:=none,data:=.seq its.toArray c',slots:=#[] }→EP X pins σ Q (.ref s.heap.objs.size) { s with heap:=h' }:=λits r' hz h' c' kp e =>
  ⟨.ref s.heap.objs.size,_,I.laid (t':=s.toks) kp (Nat.le_refl _) (show cw X.prog X.w _ h' _ (.lst ys) from ⟨hz,its,c',r',e⟩),rfl,q _ (I.hok.fresh (Nat.le_refl _))⟩
 rcases hq with hq|hq
 ·obtain⟨its,r',pl,hz⟩:=I.list hq
  have hlen:=r'.length
  obtain⟨o,ho,hc,n,hd⟩:=pl.isList
  exact call_list_seq p (.inl rfl) ho hc hd (λh' c' kp e=>fin its r' hz h' c' kp e) (by simp only[List.size_toArray]<;>lia)
 ·obtain⟨its,r',pl,hz⟩:=I.tuple hq
  have hlen:=r'.length
  obtain⟨o,ho,hc,n,hd⟩:=pl
  exact call_list_seq p (.inr rfl) ho hc hd (λh' c' kp e=>fin its r' hz h' c' kp e) (by simp only[List.size_toArray]<;>lia)
theorem rE:cT X (.type "tuple") (λxs H Q=>∃p ys,xs=[.ref p]∧((SqL X.K H p ys∧∀l,H l=none→Q (.ref l) (upd H l (.tup ys)))∨(SqT X.K H p ys∧Q (.ref p) H))):=by
 intro pins s σ H xs us Q I r h
 obtain⟨p,ys,rfl,h⟩:=h
 obtain⟨u,rfl,rx⟩:=vals1 r
 cases rx
 rcases h with ⟨hq,q⟩|⟨hq,q⟩
 ·obtain⟨its,r',pl,hz⟩:=I.list hq
  have hlen:=r'.length
  refine call_tuple_list pl.isList (λh' kp=>?_) (by simp only[List.size_toArray]<;>lia)
  have I1:Inv X pins σ H { s with heap:=h' }:=I.kept (t':=s.toks) kp
  have I2:Inv X pins σ (upd H h'.objs.size (.tup ys)) { s with heap:=h'.push { cls:=.type "tuple",data:=.seq its.toArray } } :=
   I1.laid (t':=s.toks) (λb o e=>Heap.get?_push_of_some _ e) (Nat.le_refl _) (show cw X.prog X.w _ _ _ (.tup ys) from ⟨hz,its,r',IsTup.new _ _⟩)
  exact⟨.ref h'.objs.size,_,I2,rfl,q _ (I1.hok.fresh (Nat.le_refl _))⟩
 ·obtain⟨its,r',pl,hz⟩:=I.tuple hq
  exact call_tuple_same pl ⟨.ref p,H,I,rfl,q⟩
def tyV(K:PySem.W.Frag)(T:String)(x:V)(H:Hp):Prop:=match x with
 | .str _=>T="str"
 | .int _=>T="int"
 | .ref p=>(T="list"∧∃xs,SqL K H p xs)∨(T="tuple"∧∃o,K.lookup p=some o∧o.cls=.type "tuple"∧o.dict=none) ∨
   (T="dict"∧((∃kvs,H p=some (.dK kvs))∨∃kvs,H p=some (.dT kvs)))∨(T="set"∧∃S n,H p=some (.set S n))
 | _=>False
theorem KG{pins:List (Addr×Obj)}{σ:St}{H:Hp}{s:Shared}{T:String}{x:V}{v:Value}(I:Inv X pins σ H s)(r:RelV x v)(ty:tyV X.K T x H) :
  s.TypeIs v T∧∀a,v=.ref a→∃ob,s.heap.get? a=some ob∧ob.dict=none:=by
 cases x with
 | str z =>
  obtain⟨t,rfl⟩:=r
  cases (show T="str" from ty)
  exact⟨typeIs_str s z t,λ_ e=>nomatch e⟩
 | int i =>
  obtain⟨t,rfl⟩:=r
  cases (show T="int" from ty)
  exact⟨typeIs_int s i t,λ_ e=>nomatch e⟩
 | ref p =>
  cases r
  rcases ty with ⟨rfl,xs,hq⟩|⟨rfl,o,hk,hc,hd⟩|⟨rfl,hk⟩|⟨rfl,S,n,hk⟩
  ·obtain⟨its,_,pl,_⟩:=I.list hq
   refine⟨pl.isList.typeIs,λa e=>?_⟩
   cases e
   obtain⟨o,n,e,c,hd,_⟩:=pl
   exact⟨o,e,hd⟩
  ·refine⟨⟨o,I.kIn p o hk,hc⟩,λa e=>?_⟩
   cases e
   exact⟨o,I.kIn _ o hk,hd⟩
  ·have z:∃o,s.heap.get? p=some o∧o.ExactDict:=by
    rcases hk with ⟨kvs,hk⟩|⟨kvs,hk⟩
    ·obtain⟨_,_,_,_,o,_,e,ex,_⟩:=I.hok p _ hk
     exact⟨o,e,ex⟩
    ·obtain⟨_,_,_,_,o,_,_,e,ex,_⟩:=I.hok p _ hk
     exact⟨o,e,ex⟩
   obtain⟨o,e,ex⟩:=z
   refine⟨⟨o,e,ex.1⟩,λa e2=>?_⟩
   cases e2
   exact⟨o,e,ex.2.1⟩
  ·obtain⟨o,_,_,_,e,ex,_⟩:=I.hok p _ hk
   refine⟨⟨o,e,ex.1⟩,λa e2=>?_⟩
   cases e2
   exact⟨o,e,ex.2.1⟩
 | _=>exact False.elim ty
def tBM(K:PySem.W.Frag)(T:String)(r:V→List V→Hp→VK→Prop)(to:TE)(t:TA):TE:=λσ H Q=>to σ H λx H1=>tyV K T x H1∧t σ H1 λxs H2=>r x xs H2 Q
variable{o e:Expr}{es:List Expr}{to:TE}{t:TA}{name:Str}{apos cL:Pos}{T id:String}{r:V→List V→Hp→VK→Prop}
theorem Jr(pa:PlainAttrs T)(slot:Slot T name id)(hty:typeOf (.builtin id)=pure (.type "method_descriptor"))(hm:MtR X id r)(ho:PE X o to)(ha:PA X (e::es) t)
  (jX:attributeBase o name X.env (eval o X.env)=eval o X.env:=by rfl)
  (Dm:((backTo cL (starEach (e::es) X.env)).all (λx=>!x.1) && (backToKw cL (keywordEach [] X.env)).all (λx=>x.1.isSome)
   && decide ((e::es).length+([]:List Keyword).length+(if ([]:List Keyword).isEmpty then 0 else 1)<30))=true:=by rfl)
  (mB:(apos.endLine==cL.line)=true:=by rfl) (hs:starEach (e::es) X.env=(false,eval e X.env)::starEach es X.env:=by rfl) (KH:(backTo cL (starEach es X.env)).any (·.1)=false:=by rfl) :
  PE X (.Call (.Attribute o name apos) (e::es) [] cL) (tBM X.K T r to t):=by
 intro pins s σ H Q I h
 refine wpAny_Call_method_late jX Dm mB rfl (thn (ho pins s σ H _ I h) λv s1 au=>?_)
 obtain⟨x,H1,I1,r1,ty,q1⟩:=au
 obtain⟨h1,h2⟩:=KG I1 r1 ty
 refine⟨T,id,pa,slot,hty,h1,h2,?_⟩
 have hA:=ha cL pins s1 σ H1 _ I1 q1
 rw[hs] at hA ⊢
 refine Calls.callWith_builtin (by show(false || (backTo cL (starEach es X.env)).any (·.1))=false;rw[KH]<;>rfl) (Calls.evalArgs_plain ?_)
 exact thn hA λus s2 ⟨vs,H2,I2,r2,q2⟩=>hm pins s2 σ H2 x vs v us Q I2 r1 r2 q2
end
def MtM(X:Cx)(id:String)(r:V→List V→Hp→VK→Prop):Prop :=
 ∀(pins:List (Addr×Obj)) (s:Shared) (σ:St) (H:Hp) (x:V) (xs:List V) (v:Value) (us:List Value) (Q:VK),Inv X pins σ H s→RelV x v→Vals xs us→r x xs H Q →
  wpAny (model X.prog X.w) X.A (call (.builtin id) (v::us)) (EP X pins σ Q) X.xe s
theorem Vals.one:∀{x:V}{us:List Value},Vals [x] us→∃u,us=[u]∧RelV x u
 | _,_,.cons r .nil=>⟨_,rfl,r⟩
theorem Vals.dropLast{xs:List V}{us:List Value}(h:Vals xs us):Vals xs.dropLast us.dropLast:=by
 induction h with
 | nil=>exact .nil
 | cons r t ih =>
  cases t with
  | nil=>exact .nil
  | cons q t'=>exact .cons r ih
theorem Vals.reverse{xs:List V}{us:List Value}(h:Vals xs us):Vals xs.reverse us.reverse:=by
 induction h with
 | nil=>exact .nil
 | cons r t ih=>rw[List.reverse_cons,List.reverse_cons];exact Vals.append ih (.cons r .nil)
theorem Vals.rep{xs:List V}{us:List Value}(h:Vals xs us):∀k:Nat,Vals (List.replicate k xs).flatten (List.replicate k us).flatten
 | 0=>.nil
 | k+1=>by
  rw[List.replicate_succ,List.replicate_succ,List.flatten_cons,List.flatten_cons]
  exact Vals.append h (Vals.rep h k)
theorem foldl_rep(its:List Value):∀(k:Nat) (acc:List Value),
  List.foldl (λx1 x2=>x1++x2) acc.toArray (List.replicate k its.toArray)=(acc++(List.replicate k its).flatten).toArray
 | 0,acc=>by simp
 | k+1,acc=>by
  have e:acc.toArray++its.toArray=(acc++its).toArray:=by simp
  have e2:(acc++its)++(List.replicate k its).flatten=acc++(List.replicate (k+1) its).flatten:=by
   rw[List.replicate_succ,List.flatten_cons,List.append_assoc]
  rw[← e2,← foldl_rep its k (acc++its),← e,List.replicate_succ,List.foldl_cons]
section
variable{X:Cx}{pins:List (Addr×Obj)}{σ:St}{H:Hp}{s:Shared}{l b:Addr}{xs ys zs:List V}
theorem Inv.Nj{its its':List Value}{n:Nat}{f:Array Value→Array Value}{t':Nat}(I:Inv X pins σ H s)(hH:H l=some (.lst xs))
  (e:s.heap.get? l=some { cls:=.type "list",data:=.seq its.toArray n }) (hf:f its.toArray=its'.toArray) (hv:Vals ys its') (hz:ys.length≤sizeLine) :
  Inv X pins σ (upd H l (.lst ys)) { s with heap:=s.heap.update l (Obj.mapSeq f),toks:=t' }:=by
 have q:=PySem.IsL.update e f
 rw[hf] at q
 refine I.write (x:=l) (e:=l) (by rw[hH];exact trivial) (.inl rfl) (λb' u hb hu=>(Heap.get?_update_other s.heap (Obj.mapSeq f) (Ne.symm hb)).trans hu) ⟨_,q⟩ ?_
 exact⟨hz,its',_,hv,q⟩
theorem Inv.KI{its:List Value}{t':Nat}(I:Inv X pins σ H s)(hv:Vals ys its)(hz:ys.length≤sizeLine) :
  Inv X pins σ (upd H s.heap.objs.size (.lst ys)) { s with heap:=s.heap.push { cls:=.type "list",data:=.seq its.toArray },toks:=t' } :=
 I.laid (λ_ _ q=>Heap.get?_push_of_some _ q) (Nat.le_refl _) ⟨hz,its,0,hv,Heap.get?_push_size _ rfl⟩
theorem Inv.fresh(I:Inv X pins σ H s):H s.heap.objs.size=none:=I.hok.fresh (Nat.le_refl _)
theorem Inv.KJ(I:Inv X pins σ H s)(hH:H l=some (.lst xs)):xs.length≤sizeLine∧∃(its:List Value) (n:Nat),Vals xs its∧xs.length=its.length∧s.heap.get? l=some { cls:=.type "list",data:=.seq its.toArray n }:=by
 obtain⟨z,its,n,r,e⟩:=I.hok l _ hH
 exact⟨z,its,n,r,r.length,e⟩
theorem vC{n:Nat}(h:n≤sizeLine):Builtin.List.listTooLong n=false:=by
 unfold Builtin.List.listTooLong
 exact decide_eq_false (by lia)
end
section
variable{X:Cx}
def zM:V→List V→Hp→VK→Prop:=λx vs H Q=>∃l xs y,x=.ref l∧vs=[y]∧H l=some (.lst xs)∧xs.length<sizeLine∧Q .non (upd H l (.lst (xs++[y])))
theorem se:MtM X "list.append" zM:=by
 intro pins s σ H x vs v us Q I rx rv h
 obtain⟨l,xs,y,rfl,rfl,hH,hz,q⟩:=h
 cases rx
 obtain⟨u,rfl,ru⟩:=rv.one
 obtain⟨z,its,n,r,hl,e⟩:=I.KJ hH
 refine call_meets F.slot_list_append ⟨_,e,rfl⟩ F.entry_list_append (F.args_list_append_2 _ _) (PySem.list_append l its.toArray n u (by rw[List.size_toArray];lia)) ⟨e,?_⟩
 refine⟨.non,_,I.Nj (its':=its++[u]) hH e (by simp) (r.append (.cons ru .nil)) ?_,rfl,q⟩
 rw[List.length_append,List.length_singleton]
 lia
def Pb:R2:=λx y H Q=>∃l k xs,x=.ref l∧y=.int k∧H l=some (.lst xs)∧-(2 ^ 63)≤k∧k<2 ^ 63∧xs.length*k.toNat≤sizeLine ∧
 ∀p,H p=none→Q (.ref p) (upd H p (.lst (List.replicate k.toNat xs).flatten))
theorem len_rep{α:Type}(xs:List α)(k:Nat):(List.replicate k xs).flatten.length=k*xs.length:=by
 induction k with
 | zero=>simp
 | succ k ih=>rw[List.replicate_succ,List.flatten_cons,List.length_append,ih,Nat.succ_mul,Nat.add_comm]
theorem KL:OpR X (binaryOp .Mult) Pb:=by
 intro pins s σ H x y v u Q I rx ry h
 obtain⟨l,k,xs,rfl,rfl,hH,h1,h2,hz,q⟩:=h
 cases rx
 obtain⟨t,rfl⟩:=ry
 obtain⟨z,its,n,r,hl,e⟩:=I.KJ hH
 have hlen:its.toArray.size*k.toNat≤sizeLine:=by rw[List.size_toArray,← hl];exact hz
 have Pc:¬ its.toArray.size*k.toNat > (2 ^ 63-1) / 8:=by
  have:(sizeLine:Nat)≤(2 ^ 63-1) / 8:=by decide
  lia
 have p5:¬ (!Builtin.List.listFitsIndex k)=true:=by
  rw[fitsIndex_both h1 h2]
  exact Bool.false_ne_true
 have Dn:¬ Builtin.List.listTooLong (its.toArray.size*k.toNat)=true:=by
  rw[vC hlen]
  exact Bool.false_ne_true
 have Pd:List.foldl (λx1 x2=>x1++x2) #[] (List.replicate (if its.toArray.isEmpty=true then 0 else k.toNat) its.toArray)=(List.replicate k.toNat its).flatten.toArray:=by
  have f0:∀m:Nat,List.foldl (λx1 x2=>x1++x2) #[] (List.replicate m its.toArray)=(List.replicate m its).flatten.toArray:=λm=>by
   have:=foldl_rep its m []
   rw[List.nil_append] at this
   exact this
  rw[f0]
  cases its with
  | nil=>simp
  | cons a r'=>rw[if_neg (by simp)]
 refine wpAny_binaryOp_repeat_ref (T:="list") (U:="int") (by decide) ⟨_,e,rfl⟩ (λs'=>typeIs_int s' k t) noFill_list_mul F.fills_int_mul F.slot_int_rmul repeat_list F.slot_int_index.lookup
  (call_meets F.slot_int_rmul (typeIs_int s k t) F.entry_int_rmul (F.args_int_rmul_2 _ _) (int___rmul___int_list k t l its.toArray n)
   ⟨e,rfl,⟨_,e,rfl⟩,call_meets F.slot_list_mul ⟨_,e,rfl⟩ F.entry_list_mul (F.args_list_mul_2 _ _) (AutoListH.list___mul___list_int_3 l its.toArray n k t p5 Pc Dn) ⟨e,?_⟩⟩)
 rw[Pd]
 exact⟨.ref _,_,I.KI (t':=s.toks) (r.rep k.toNat) (by rw[len_rep,Nat.mul_comm];exact hz),rfl,q _ I.fresh⟩
end
section
variable{prog:Program}{w:World}{A:Around}{E:Value→Shared→Prop}{s:Shared}
end
section
variable{X:Cx}
end
section
variable{κ:Type}[DecidableEq κ]
def lP(kvs:List (κ×V))(k:κ):Option V:=(kvs.find? λkv=>decide (kv.1=k)).map (·.2)
def putK(kvs:List (κ×V))(k:κ)(v:V):List (κ×V) :=
 if (kvs.any λkv=>decide (kv.1=k))=true then kvs.map (λkv=>if kv.1=k then (kv.1,v) else kv) else kvs++[(k,v)]
theorem jY{p:κ×V}{r:List (κ×V)}{k:κ}(e:p.1=k):lP (p::r) k=some p.2:=by simp[lP,List.find?_cons,e]
theorem jZ{p:κ×V}{r:List (κ×V)}{k:κ}(e:¬ p.1=k):lP (p::r) k=lP r k:=by simp[lP,List.find?_cons,e]
theorem vD(k:κ):∀kvs:List (κ×V),(kvs.any λkv=>decide (kv.1=k))=(lP kvs k).isSome
 | []=>rfl
 | p::r=>by
  rw[List.any_cons]
  by_cases e:p.1=k
  ·simp only[jY e,decide_eq_true e,Bool.true_or,Option.isSome_some]
  ·rw[jZ e,decide_eq_false e,Bool.false_or];exact vD k r
theorem ox(kvs:List (κ×V))(k:κ)(v:V):(putK kvs k v).length≤kvs.length+1:=by
 unfold putK
 split
 ·rw[List.length_map];lia
 ·rw[List.length_append,List.length_cons,List.length_nil];lia
theorem oR.Bz{o:Option V}{u:Option Value}(r:oR o u):o.isSome=u.isSome:=by
 cases o with
 | none=>cases u with
  | none=>rfl
  | some _=>exact(show False from r).elim
 | some _=>cases u with
  | none=>exact(show False from r).elim
  | some _=>rfl
theorem oR.getD{o:Option V}{u:Option Value}{d:V}{d':Value}(r:oR o u)(rd:RelV d d'):RelV (o.getD d) (u.getD d'):=by
 cases o with
 | none=>cases u with
  | none=>exact rd
  | some _=>exact(show False from r).elim
 | some _=>cases u with
  | none=>exact(show False from r).elim
  | some _=>exact r
theorem KV.val{kvs:List (κ×V)}{vs:List (κ×Value)}(r:KV kvs vs)(k:κ):oR (lP kvs k) (valueAt vs k):=by
 unfold KV at r
 induction r with
 | nil=>exact True.intro
 | @cons p q ps qs h t ih =>
  obtain⟨h1,h2⟩:=h
  by_cases e:p.1=k
  ·have e':q.1=k:=h1.symm.trans e
   have b:valueAt (q::qs) k=some q.2:=by simp[valueAt,List.find?_cons,e']
   rw[jY e,b];exact h2
  ·have e':¬ q.1=k:=λz=>e (h1.trans z)
   have b:valueAt (q::qs) k=valueAt qs k:=by simp[valueAt,List.find?_cons,e']
   rw[jZ e,b];exact ih
theorem KV.any{kvs:List (κ×V)}{vs:List (κ×Value)}(r:KV kvs vs)(k:κ):(kvs.any λkv=>decide (kv.1=k))=vs.any λkv=>decide (kv.1=k):=by
 unfold KV at r
 induction r with
 | nil=>rfl
 | cons h t ih=>rw[List.any_cons,List.any_cons,ih,h.1]
theorem KV.xH{kvs:List (κ×V)}{vs:List (κ×Value)}(r:KV kvs vs)(k:κ){y:V}{u:Value}(ry:RelV y u) :
  KV (kvs.map λkv=>if kv.1=k then (kv.1,y) else kv) (vs.map λkv=>if kv.1=k then (kv.1,u) else kv):=by
 unfold KV at r ⊢
 induction r with
 | nil=>exact .nil
 | @cons p q ps qs h t ih =>
  rw[List.map_cons,List.map_cons]
  refine .cons ?_ ih
  obtain⟨h1,h2⟩:=h
  by_cases e:p.1=k
  ·rw[if_pos e,if_pos (h1.symm.trans e)];exact⟨h1,ry⟩
  ·rw[if_neg e,if_neg (λz=>e (h1.trans z))];exact⟨h1,h2⟩
theorem KV.put{kvs:List (κ×V)}{vs:List (κ×Value)}(r:KV kvs vs)(k:κ){y:V}{u:Value}(ry:RelV y u):KV (putK kvs k y) (stored vs k u):=by
 unfold putK stored
 rw[r.any k]
 by_cases e:(vs.any λkv=>decide (kv.1=k))=true
 ·rw[if_pos e,if_pos e];exact r.xH k ry
 ·rw[if_neg e,if_neg e];exact Paired.snoc r ⟨rfl,ry⟩
theorem KV.length{kvs:List (κ×V)}{vs:List (κ×Value)}(r:KV kvs vs):kvs.length=vs.length:=Paired.length r
end
theorem Dp{P:Program}{w:World}{k:Key}{u:Value}(r:RelV (kV k) u):(cE P w).is k u=true:=by
 cases k with
 | inl i=>obtain⟨t,e⟩:=(show ∃t,u=Value.int i t from r);subst e;exact vn P w i t
 | inr x=>obtain⟨t,e⟩:=(show ∃t,u=Value.str x t from r);subst e;exact vo P w x t
theorem sf{P:Program}{w:World}:∀{ks:List Key}{us:List Value},Vals (ks.map kV) us→ItemsAre (cE P w) ks us
 | [],_,r=>by rw[List.map_nil] at r;cases r;exact .nil
 | k::ks,_,r=>by
  rw[List.map_cons] at r
  cases r with
  | cons h t=>exact .cons (Dp h) (sf t)
abbrev KT(H:Hp):List (List Key×V)→List (List Key×Addr×Value)→Prop:=Paired λp q=>p.1=q.1∧H q.2.1=some (.tup (p.1.map kV))∧RelV p.2 q.2.2
theorem KT.val{H:Hp}{kvs:List (List Key×V)}{xs:List (List Key×Addr×Value)}(r:KT H kvs xs)(k:List Key):oR (lP kvs k) ((atKey xs k).map (·.2)):=by
 induction r with
 | nil=>exact True.intro
 | @cons p q ps qs h t ih =>
  obtain⟨h1,_,h2⟩:=h
  by_cases e:p.1=k
  ·have e':q.1=k:=h1.symm.trans e
   have b:atKey (q::qs) k=some q.2:=by simp[atKey,List.find?_cons,e']
   rw[jY e,b];exact h2
  ·have e':¬ q.1=k:=λz=>e (h1.trans z)
   have b:atKey (q::qs) k=atKey qs k:=by simp[atKey,List.find?_cons,e']
   rw[jZ e,b];exact ih
theorem KT.xH{H:Hp}{kvs:List (List Key×V)}{xs:List (List Key×Addr×Value)}(r:KT H kvs xs)(k:List Key){y:V}{u:Value}(ry:RelV y u) :
  KT H (kvs.map λkv=>if kv.1=k then (kv.1,y) else kv) (xs.map (putAt k u)):=by
 induction r with
 | nil=>exact .nil
 | @cons p q ps qs h t ih =>
  rw[List.map_cons,List.map_cons]
  refine .cons ?_ ih
  obtain⟨h1,h2,h3⟩:=h
  unfold putAt
  by_cases e:p.1=k
  ·rw[if_pos e,if_pos (h1.symm.trans e)];exact⟨h1,h2,ry⟩
  ·rw[if_neg e,if_neg (λz=>e (h1.trans z))];exact⟨h1,h2,h3⟩
theorem KT.put{H:Hp}{kvs:List (List Key×V)}{xs:List (List Key×Addr×Value)}(r:KT H kvs xs)(k:List Key){b:Addr}{y:V}{u:Value}(hb:H b=some (.tup (k.map kV)))(ry:RelV y u) :
  KT H (putK kvs k y) (storedH xs k b u):=by
 have e:(kvs.any λkv=>decide (kv.1=k))=(atKey xs k).isSome:=by
  rw[vD,(r.val k).Bz,Option.isSome_map]
 unfold putK storedH
 rw[e]
 by_cases q:(atKey xs k).isSome=true
 ·rw[if_pos q,if_pos q];exact r.xH k ry
 ·rw[if_neg q,if_neg q];exact Paired.snoc r ⟨rfl,hb,ry⟩
theorem KT.keeps{H H':Hp}{kvs:List (List Key×V)}{xs:List (List Key×Addr×Value)}(r:KT H kvs xs)(ht:∀b ys,H b=some (.tup ys)→H' b=some (.tup ys)):KT H' kvs xs :=
 Paired.Gy r λ_ _ z=>⟨z.1,ht _ _ z.2.1,z.2.2⟩
section
variable{P:Program}{w:World}{H:Hp}{h:Heap}{a:Addr}
theorem Dq{u:HO}(ok:HOk P w H h)(e:Rd H a u):cw P w H h a u:=e.ok ok
theorem Dr{kvs:List (Key×V)}(ok:HOk P w H h)(e:Rd H a (.dK kvs)):kvs.length≤sizeLine∧(a==sysModules)=false∧∃vs,KV kvs vs∧h.DictOf (cE P w) a vs :=
 let ⟨z,y,vs,r,d⟩:=(show cw P w H h a (.dK kvs) from Dq ok e);⟨z,y,vs,r,d.dictOf⟩
theorem vE{kvs:List (Key×V)}(ok:HOk P w H h)(e:Rd H a (.dK kvs)):kvs.length≤sizeLine∧(a==sysModules)=false∧∃vs,KV kvs vs∧h.DictAt (cE P w) a vs vs.length :=
 show cw P w H h a (.dK kvs) from Dq ok e
theorem xI{ks:List Key}(ok:HOk P w H h)(e:H a=some (.tup (ks.map kV))):(tupleKind (cE P w)).is h ks a:=by
 obtain⟨_,its,r,o,h1,h2,n,h3⟩:=(show cw P w H h a (.tup (ks.map kV)) from ok a _ e)
 exact⟨o,its.toArray,n,h1,h2,h3,by simpa using sf r⟩
theorem Ds{kvs:List (List Key×V)}(ok:HOk P w H h)(e:Rd H a (.dT kvs)):kvs.length≤sizeLine∧(a==sysModules)=false ∧
  ∃xs,KT H kvs xs∧h.DictOfH (tupleKind (cE P w)) a xs:=by
 obtain⟨z,y,xs,r,o,es,ep,h1,h2,h3,h4,h5⟩:=(show cw P w H h a (.dT kvs) from Dq ok e)
 refine⟨z,y,xs,r,o,es,ep,h1,h2,h3,h4,λx hx=>?_,h5⟩
 have all:∀{l:List (List Key×V)}{m:List (List Key×Addr×Value)},KT H l m→∀x∈m,(tupleKind (cE P w)).is h x.1 x.2.1:=by
  intro l m q
  induction q with
  | nil=>intro x hx;exact nomatch hx
  | @cons p q ps qs hq t ih =>
   intro x hx
   rcases List.mem_cons.mp hx with e|hx
   ·subst e
    exact xI ok (by rw[← hq.1];exact hq.2.1)
   ·exact ih x hx
 exact all r x hx
theorem Nk{kvs:List (List Key×V)}(ok:HOk P w H h)(e:H a=some (.dT kvs)):kvs.length≤sizeLine∧(a==sysModules)=false ∧
  ∃xs,KT H kvs xs∧h.DictOfH (tupleKind (cE P w)) a xs:=Ds ok (.inl e)
end
def xJ(H:Hp)(a:Addr)(y:V)(r:Option V):Prop :=
 (∃kvs k,Rd H a (.dK kvs)∧y=kV k∧r=lP kvs k)∨∃kvs k b,Rd H a (.dT kvs)∧y=.ref b∧H b=some (.tup (k.map kV))∧r=lP kvs k
def vF(H:Hp)(a:Addr)(y v:V)(H':Hp):Prop :=
 (∃kvs k,H a=some (.dK kvs)∧y=kV k∧kvs.length<sizeLine∧H'=upd H a (.dK (putK kvs k v))) ∨
 ∃kvs k b,H a=some (.dT kvs)∧y=.ref b∧H b=some (.tup (k.map kV))∧kvs.length<sizeLine∧H'=upd H a (.dT (putK kvs k v))
theorem xJ.k{H:Hp}{a:Addr}{kvs:List (Key×V)}{k:Key}(e:H a=some (.dK kvs)):xJ H a (kV k) (lP kvs k):=.inl ⟨kvs,k,.inl e,rfl,rfl⟩
theorem vF.k{H:Hp}{a:Addr}{kvs:List (Key×V)}{k:Key}{v:V}(e:H a=some (.dK kvs))(hl:kvs.length<sizeLine):vF H a (kV k) v (upd H a (.dK (putK kvs k v))):=.inl ⟨kvs,k,e,rfl,hl,rfl⟩
theorem vF.t{H:Hp}{a b:Addr}{kvs:List (List Key×V)}{k:List Key}{v:V}(e:H a=some (.dT kvs))(eb:H b=some (.tup (k.map kV)))(hl:kvs.length<sizeLine) :
  vF H a (.ref b) v (upd H a (.dT (putK kvs k v))):=.inr ⟨kvs,k,b,e,rfl,eb,hl,rfl⟩
section
variable{X:Cx}{pins:List (Addr×Obj)}{σ:St}{H:Hp}{s:Shared}{a:Addr}{y v:V}{u r:Value}{o:Option V}{A:Around}{E:Value→Shared→Prop}
theorem Inv.big(I:Inv X pins σ H s):sysModules<s.heap.objs.size:=by
 have h:mainGlobals<s.heap.objs.size:=(I.mod.glob.keeps I.bk).lt
 exact Nat.lt_trans (by decide) h
theorem BA{Q:Value→Shared→Prop}(hu:A.units+1<cLine)(I:Inv X pins σ H s)(g:xJ H a y (some v))(ry:RelV y u)(h:∀w' s',Inv X pins σ H s'→RelV v w'→Q w' s') :
  wpAny (model X.prog X.w) A (getItem (.ref a) u) Q E s:=by
 rcases g with ⟨kvs,k,e,ey,l⟩|⟨kvs,k,b,e,ey,eb,l⟩
 ·subst ey
  obtain⟨z,hd,vs,rel,dd⟩:=Dr I.hok e
  obtain⟨w',hw,rw'⟩:=oR.some_of (v:=v) (o:=valueAt vs k) (by rw[l];exact rel.val k)
  exact wpAny_getItem_of (Dp ry) dd.mapOf hw (h w' _ (I.tok _) rw')
 ·subst ey
  cases (show u=Value.ref b from ry)
  obtain⟨z,hd,xs,rel,dd⟩:=Ds I.hok e
  obtain⟨w',hw,rw'⟩:=oR.some_of (v:=v) (o:=(atKey xs k).map (·.2)) (by rw[l];exact rel.val k)
  obtain⟨p,hp,hp2⟩:=Option.map_eq_some_iff.mp hw
  refine wpAny_getItem_heap (tupleKind_room_in1 hu) (xI I.hok eb) dd hp ?_
  rw[hp2]
  exact h w' _ (I.tok _) rw'
theorem zN{h':Heap}{t':Nat}{ob:HO}(I:Inv X pins σ H s)(mu:Mut (H a))(hs:Heap.SameBut a s.heap h')(he:∃q,h'.get? a=some q)(new:cw X.prog X.w (upd H a ob) h' a ob) :
  Inv X pins σ (upd H a ob) { s with heap:=h',toks:=t' } :=
 I.write (x:=a) (e:=a) mu (.inl rfl) (λb q hb z=>(hs.2 b hb).trans z) he new
theorem KN{P:Program}{w:World}{H':Hp}{h':Heap}{kvs:List (Key×V)}{vs:List (Key×Value)}(z:kvs.length≤sizeLine)(hd:(a==sysModules)=false)(rel:KV kvs vs)(dd:h'.DictAt (cE P w) a vs vs.length) :
  cw P w H' h' a (.dK kvs):=⟨z,hd,vs,rel,dd⟩
theorem xK {P : Program} {w : World} {κ : Type} [DecidableEq κ] {knd : KeyKind P w κ} {A : Around} {E : Value → Shared → Prop} {s : Shared} {d : Addr} {kvs : List (κ × Value)} {k : κ} {key v : Value} {Q : Unit → Shared → Prop} (BB : knd.is k key = true) (hm : s.heap.DictAt knd d kvs kvs.length)
    (hsz : kvs.length ≤ sizeLine) (hQ : ∀ h', h'.DictAt knd d (stored kvs k v) (stored kvs k v).length → Heap.SameBut d s.heap h' → Q () { s with heap := h', toks := s.toks + 1 }) :
    wpAny (model P w) A (dictSet d key v) Q E s := by
  obtain ⟨o, es, ho, hc, hd, hk, hp, hn⟩ := hm
  have hes : es.size ≤ sizeLine := by have e1 := hp.length; have e2 : es.toList.length = es.size := by simp
                                      lia
  unfold dictSet
  try with_reducible refine wpAny_holding ?_
  refine wpAny_bind (knd.pyHash BB ?_)
  unfold dictSetHashed
  try with_reducible refine wpAny_holding ?_
  refine wpAny_bind (wpAny_dictFind_of (s := { s with toks := s.toks + 1 }) BB ho hd hk ?_)
  have GX : (es.findIdx? fun e => knd.is k e.key) = kvs.findIdx? fun kv => decide (kv.1 = k) := by
    rw [← hp.findIdx k]; obtain ⟨l⟩ := es; simp
  cases hi : es.findIdx? fun e => knd.is k e.key with
  | some i =>
    have hst : stored kvs k v = kvs.map fun kv => if kv.1 = k then (kv.1, v) else kv := by rw [stored, if_pos (any_of_findIdx_some (GX ▸ hi))]
    have hlen : kvs.length = (stored kvs k v).length := by rw [hst, List.length_map]
    refine wpAny_bind (wpAny_rule (wpAny_bind (wpAny_updateDict (s := { s with toks := s.toks + 1 }) ho hd (wpAny_point (hQ _ ⟨_, _, Heap.get?_update_self _ ho (Obj.isFreed_of_dict (Obj.data_mapDict hd _)),
      hc.mapDict _, (Obj.data_mapDict hd _).trans (congrArg (fun n => Data.dict _ n) hlen), hk.modify _ _, ?_, ?_⟩ (Heap.SameBut.update ..))))))
    · rw [stored, if_pos (any_of_findIdx_some (GX ▸ hi))]
      have hl : (es.toList.findIdx? fun e => knd.is k e.key) = some i := by rw [← hi]; obtain ⟨l⟩ := es; simp
      have := hp.modify hn hl v
      obtain ⟨l⟩ := es
      simpa using this
    · rw [stored, if_pos (any_of_findIdx_some (GX ▸ hi)), keys_map_store]; exact hn
  | none =>
    have Nl : k ∉ kvs.map (·.1) := not_mem_of_findIdx_none (GX ▸ hi)
    have KO : ¬ (kvs.any fun kv => decide (kv.1 = k)) = true := by
      rw [List.any_eq_true]; rintro ⟨kv, hkv, he⟩
      exact Nl (List.mem_map.mpr ⟨kv, hkv, of_decide_eq_true he⟩)
    have hst : stored kvs k v = kvs ++ [(k, v)] := by rw [stored, if_neg KO]
    have hlen : kvs.length + 1 = (stored kvs k v).length := by rw [hst, List.length_append]; rfl
    refine wpAny_bind (wpAny_rule (wpAny_updateDictKeys (hz := hes) (s := { s with toks := s.toks + 1 }) ho hd (hQ _ ⟨_, _, Heap.get?_update_self _ ho (Obj.isFreed_of_dict (Obj.data_mapDictKeys hd _)),
      hc.mapDictKeys _, (Obj.data_mapDictKeys hd _).trans (congrArg (fun n => Data.dict _ n) hlen), hk.push BB _, ?_, ?_⟩ (Heap.SameBut.update ..))))
    · rw [stored, if_neg KO]
      have := hp.append BB (knd.hash k) v
      obtain ⟨l⟩ := es
      simpa using this
    · rw [stored, if_neg KO, List.map_append, List.nodup_append]
      refine ⟨hn, by simp, ?_⟩
      intro a ha b hb
      simp only [List.map_cons, List.map_nil, List.mem_singleton] at hb
      subst hb
      exact fun e => Nl (e ▸ ha)
theorem xM{P:Program}{w:World}{κ:Type}[DecidableEq κ]{knd:KeyKind P w κ}{A:Around}{E:Value→Shared→Prop}{s:Shared}{d:Addr}{kvs:List (κ×Value)}{k:κ}{key v:Value}{Q:Unit→Shared→Prop}(BB:knd.is k key=true)(hm:s.heap.DictAt knd d kvs kvs.length)
  (hsz:kvs.length≤sizeLine) (hQ:∀h',h'.DictAt knd d (stored kvs k v) (stored kvs k v).length→Heap.SameBut d s.heap h'→Q () { s with heap:=h',toks:=s.toks+1 }) :
  wpAny (model P w) A (setItem (.ref d) key v) Q E s:=by
 have hT:=hm.dictOf.typeIs
 unfold setItem
 try with_reducible refine wpAny_holding ?_
 refine wpAny_bind (wpAny_sequenceKey hT (by decide) ?_)
 refine wpAny_bind (wpAny_callSpecial?_slot (name:=Str.ofString "__setitem__") hT slot_dict_setitem
  (wpAny_call_entry slot_dict_setitem hT entry_dict_setitem ?_ (args_dict_setitem _ _ _)))
 show wpAny _ _ (Builtin.Dict.notOrdered "__setitem__" ⟨[.ref d,key,v],[]⟩>>=_) _ _ s
 refine wpAny_bind (wpAny_notOrdered_dict hT ?_)
 show wpAny _ _ (dictSet d key v>>=_) _ _ s
 exact wpAny_bind (xK BB hm hsz λh' hm' hs'=>wpAny_pure ⟨.none,rfl,wpAny_pure (hQ h' hm' hs')⟩)
theorem BC{H':Hp}{Q:Unit→Shared→Prop}(hu:A.units+1<cLine)(I:Inv X pins σ H s)(g:vF H a y v H')(ry:RelV y u)(rv:RelV v r)(h:∀s',Inv X pins σ H' s'→Q () s') :
  wpAny (model X.prog X.w) A (setItem (.ref a) u r) Q E s:=by
 rcases g with ⟨kvs,k,e,ey,l,eH⟩|⟨kvs,k,b,e,ey,eb,l,eH⟩
 ·subst ey eH
  obtain⟨z,hd,vs,rel,dd⟩:=vE I.hok (.inl e)
  have hz:vs.length≤sizeLine:=by rw[← rel.length];exact z
  have hl:(putK kvs k v).length≤sizeLine:=by have:=ox kvs k v;lia
  refine xM (Dp ry) dd hz λh' dd' hs=>h _ ?_
  have he:∃q,h'.get? a=some q:=let ⟨q,_,hq,_⟩:=dd';⟨q,hq⟩
  exact zN I (by rw[e];exact True.intro) hs he (KN hl hd (rel.put k rv) dd')
 ·subst ey eH
  cases (show u=Value.ref b from ry)
  obtain⟨z,hd,xs,rel,dd⟩:=Nk I.hok e
  have hz:xs.length≤sizeLine:=by rw[← Paired.length rel];exact z
  have hl:(putK kvs k v).length≤sizeLine:=by have:=ox kvs k v;lia
  refine wpAny_setItem_heap (hsz:=hz) (tupleKind_room_in1 hu) (xI I.hok eb) dd λh' dd' hs=>h _ ?_
  obtain⟨q,es,ep,hq,h2,h3,h4,_,h5⟩:=dd'
  refine zN I (by rw[e];exact True.intro) hs ⟨q,hq⟩ ⟨hl,hd,_,(rel.put k eb rv).keeps λc ys ec=>?_,q,es,ep,hq,h2,h3,h4,h5⟩
  rw[aG (MO ec e (λz=>nomatch z))]
  exact ec
end
section
variable{X:Cx}{pins:List (Addr×Obj)}{σ:St}{H:Hp}{s:Shared}{a:Addr}{kvs:List (Key×V)}{k:Key}{u:Value}{A:Around}{E:Value→Shared→Prop}
theorem Nm{Q:Value→Shared→Prop}(I:Inv X pins σ H s)(e:Rd H a (.dK kvs))(h:∀t s',Inv X pins σ H s'→Q (.int kvs.length t) s'):wpAny (model X.prog X.w) A (call (.builtin "len") [.ref a]) Q E s:=by
 obtain⟨z,hd,vs,rel,dd⟩:=Dr I.hok e
 refine call_len_dict hd dd (by rw[← rel.length];rw[sizeLine_eq] at z;lia) ?_
 rw[← rel.length]
 exact h _ _ (I.tok _)
end
def GY(i:Expr):Prop:=∀ov iv,subscripted i false ov iv=operate [ov,iv] (getItem ov iv)
theorem GZ{prog:Program}{w:World}{A:Around}{E:Value→Shared→Prop}{s:Shared}{env:Env}{value slice:Expr}{pos:Pos}{T id:String}{Q:Value→Shared→Prop}
  (hl:typeLookup (.type T) "__getitem__"=pure (some (.builtin id))) (hs:GY slice)
  (h:wpAny (model prog w) A (eval value env) (λo s₁=>wpAny (model prog w) A (eval slice env) (λi s₂=>s₂.TypeIs o T∧wpAny (model prog w) A (getItem o i) Q E s₂) E s₁) E s) :
  wpAny (model prog w) A (eval (.Subscript value slice pos) env) Q E s:=by
 refine Subscript_ (wpAny_mono h (λo s₁ h₁=>wpAny_mono h₁ (λi s₂ h₂=>?_) λ_ _ x=>x) λ_ _ x=>x)
 obtain⟨hT,h₂⟩:=h₂
 unfold subscriptTail
 refine wpAny_bind ?_
 rw[getitemInPython_of_ne hT.not_modules]
 refine wpAny_bind (wpAny_specialOf hT hl ?_)
 have fin:wpAny (model prog w) A (subscripted slice false o i) (λr s₃=>wpAny (model prog w) A (letTemporaryGo value o r>>=λ_=>pure r) Q E s₃) E s₂:=by
  rw[hs o i]
  exact wpAny_operating (wpAny_mono h₂ (λr s₃ h₃=>wpAny_bind (wpAny_letTemporaryGo (wpAny_pure h₃))) λ_ _ x=>x)
 first
  | exact wpAny_pure (wpAny_bind fin)
  | exact wpAny_bind (wpAny_pure (wpAny_bind fin))
  | exact wpAny_bind fin
theorem vG{X:Cx}{pins:List (Addr×Obj)}{σ:St}{H:Hp}{s:Shared}{a:Addr}{y:V}{o:Option V}(I:Inv X pins σ H s)(g:xJ H a y o):s.TypeIs (.ref a) "dict":=by
 rcases g with ⟨kvs,k,e,_,_⟩|⟨kvs,k,b,e,_,_,_⟩
 ·obtain⟨_,_,vs,_,dd⟩:=Dr I.hok e
  exact dd.typeIs
 ·obtain⟨_,_,xs,_,dd⟩:=Ds I.hok e
  exact dd.typeIs
def Dt(td ty:TE):TE:=λσ H Q=>td σ H λx H1=>ty σ H1 λy H2=>∃a v,x=.ref a∧xJ H2 a y (some v)∧Q v H2
def Nn(td ty tv:TE):TS:=λD σ H=>tv σ H λv H1=>td σ H1 λx H2=>ty σ H2 λy H3=>∃a H4,x=.ref a∧vF H3 a y v H4∧D.nx σ H4
section
variable{X:Cx}{o i e value:Expr}{pos pos' dX:Pos}{td ty tv:TE}
theorem zO(hu:X.A.units+1<cLine)(ho:PE X o td)(hi:PE X i ty)(hs:GY i):PE X (.Subscript o i pos) (Dt td ty):=by
 intro pins s σ H Q I h
 refine GZ PySem.F.slot_dict_getitem.lookup hs (thn (ho pins s σ H _ I h) λu s1 ⟨x,H1,I1,rx,q1⟩=>thn (hi pins s1 σ H1 _ I1 q1) λiv s2 au=>?_)
 obtain⟨y,H2,I2,ry,a,v,ex,g,q2⟩:=au
 subst ex
 obtain rfl:u=Value.ref a:=rx
 exact⟨vG I2 g,BA hu I2 g ry λw' s3 I3 rw'=>⟨v,H2,I3,rw',q2⟩⟩
theorem zP(hu:X.A.units+1<cLine)(ho:PE X o td)(hi:PE X i ty)(hv:PE X value tv)(hs:swapsWith value (some (.Subscript o i pos')) pos.line X.env=pure false) :
  PS X (.Assign [.Subscript o i pos'] value pos) (Nn td ty tv):=by
 intro pins s σ H D I h
 refine wpAny_Assign_Subscript (thn (hv pins s σ H _ I h) λr s1 ⟨v,H1,I1,rv,q1⟩=>thn (ho pins s1 σ H1 _ I1 q1) λu s2 ⟨x,H2,I2,rx,q2⟩=>thn (hi pins s2 σ H2 _ I2 q2) λiv s3 au=>?_) hs
 obtain⟨y,H3,I3,ry,a,H4,ex,g,q3⟩:=au
 subst ex
 obtain rfl:u=Value.ref a:=rx
 exact BC hu I3 g ry rv λs4 I4=>⟨σ,H4,I4,q3⟩
end
theorem Dv{P:Program}{w:World}{H:Hp}(h:Heap)(hb:sysModules<h.objs.size):cw P w H (h.push { cls:=.type "dict",data:=.dict #[] }) h.objs.size (.dK []) :=
 ⟨Nat.zero_le _,beq_eq_false_iff_ne.mpr (Ne.symm (Nat.ne_of_lt hb)),[],.nil,_,#[],Heap.get?_push_size _ rfl,⟨rfl,rfl,rfl⟩,rfl,λe he=>by simp at he,.nil,List.nodup_nil⟩
theorem Dw{P:Program}{w:World}{H:Hp}(h:Heap)(hb:sysModules<h.objs.size):cw P w H (h.push { cls:=.type "dict",data:=.dict #[] }) h.objs.size (.dT []) :=
 ⟨Nat.zero_le _,beq_eq_false_iff_ne.mpr (Ne.symm (Nat.ne_of_lt hb)),[],.nil,_,#[],0,Heap.get?_push_size _ rfl,⟨rfl,rfl,rfl⟩,rfl,rfl,List.nodup_nil⟩
def KP:TE:=λ_ H Q=>∀p,H p=none→Q (.ref p) (upd H p (.dK []))
def KQ:TE:=λ_ H Q=>∀p,H p=none→Q (.ref p) (upd H p (.dT []))
section
variable{X:Cx}{pos:Pos}
theorem Dx:PE X (.Dict [] [] pos) KP:=λpins s σ H Q I h =>
 wpAny_Dict_empty ⟨.ref s.heap.objs.size,_,I.laid (a:=s.heap.objs.size) (o:=.dK []) (t':=s.toks) (λ_ _ q=>Heap.get?_push_of_some _ q) (Nat.le_refl _) (Dv s.heap I.big),rfl,h _ (I.hok.fresh (Nat.le_refl _))⟩
theorem Dy:PE X (.Dict [] [] pos) KQ:=λpins s σ H Q I h =>
 wpAny_Dict_empty ⟨.ref s.heap.objs.size,_,I.laid (a:=s.heap.objs.size) (o:=.dT []) (t':=s.toks) (λ_ _ q=>Heap.get?_push_of_some _ q) (Nat.le_refl _) (Dw s.heap I.big),rfl,h _ (I.hok.fresh (Nat.le_refl _))⟩
end
structure M1(X:Cx)(o:Expr)(m:Str)(apos:Pos)(e:Expr)(cL:Pos):Prop where
 base:attributeBase o m X.env (eval o X.env)=eval o X.env
 few:((backTo cL (starEach [e] X.env)).all (λx=>!x.1) && (backToKw cL (keywordEach [] X.env)).all (λx=>x.1.isSome)
  && decide (([e]:List Expr).length+([]:List Keyword).length+(if ([]:List Keyword).isEmpty then 0 else 1)<30))=true
 line:(apos.endLine==cL.line)=true
 trees:backTo cL (starEach [e] X.env)=[(false,eval e X.env)]
structure M2(X:Cx)(o:Expr)(m:Str)(apos:Pos)(e f:Expr)(cL:Pos):Prop where
 base:attributeBase o m X.env (eval o X.env)=eval o X.env
 few:((backTo cL (starEach [e,f] X.env)).all (λx=>!x.1) && (backToKw cL (keywordEach [] X.env)).all (λx=>x.1.isSome)
  && decide (([e,f]:List Expr).length+([]:List Keyword).length+(if ([]:List Keyword).isEmpty then 0 else 1)<30))=true
 line:(apos.endLine==cL.line)=true
 trees:backTo cL (starEach [e,f] X.env)=[(false,eval e X.env),(false,eval f X.env)]
section
variable{X:Cx}{pins:List (Addr×Obj)}{σ:St}{H:Hp}{s:Shared}{a:Addr}{y d:V}{u r:Value}{o:Option V}{A:Around}{E:Value→Shared→Prop}
end
section
variable{X:Cx}{o e f:Expr}{apos cL:Pos}{td ty tx:TE}
end
section
variable{X:Cx}{pins:List (Addr×Obj)}{σ:St}{H:Hp}{s:Shared}{a:Addr}{kvs:List (Key×V)}{A:Around}{E:Value→Shared→Prop}
end
section
variable{X:Cx}{pins:List (Addr×Obj)}{σ:St}{H:Hp}{s:Shared}{a:Addr}{y:V}{u:Value}{A:Around}{E:Value→Shared→Prop}
end
end L2
namespace Att
open PySem PySem.W PySem.Calls PyProof.Rows
theorem oS{P:Params}{h:Heap}:∀(ns:List Int) (vs:List Value),WellAll P h vs (ns.map WData.int)→IntsAre vs ns:=by
 intro ns
 induction ns with
 | nil =>
  intro vs w
  rw[List.map_nil] at w
  cases w
  exact .nil
 | cons n ns ih =>
  intro vs w
  rw[List.map_cons] at w
  cases w with
  | cons a b =>
   cases a
   exact .cons _ _ (ih _ b)
theorem BE{l:OpenLaw}{n:Nat}(hn:l.most=some n){P:Params}{h:Heap}{args:List WData}{vals:List Value}
  (G0:l.row.toRowW.claim.pre args=true) (hwl:WellAll P h vals args) :
  ∃a vs ns,vals=[Value.ref a]∧args=[WData.list (ns.map WData.int)]∧h.get? a=some { cls:=.type "list",data:=.seq vs.toArray }∧IntsAre vs ns∧ns.length≤n:=by
 have hsh:WShape.hasAll [] args [.list .int]=true:=(pre_splitW G0).1
 have hc:l.pre.holds [] { args:=args }=true:=(pre_splitW G0).2
 obtain⟨d,r,rfl,h1,h2⟩:=hasAllW_cons hsh
 obtain rfl:=hasAllW_nil h2
 obtain⟨xs,rfl,h3⟩:=hasW_list h1
 obtain⟨ns,rfl⟩:=items_int h3
 have hlen:ns.length≤n:=by
  unfold OpenLaw.pre at hc
  have h4:(WTm.not (.lt (.lit (.int (n:Int))) (.len (.arg 0)))).holds [] { args:=[.list (ns.map .int)] }=true:=by
   have h4:=(holds_andW hc).1
   rw[hn] at h4
   exact h4
  have h5:=condW_of h4 (w_not (w_lt w_lit (w_len_list (w_arg rfl))))
  rw[List.length_map] at h5
  refine Nat.le_of_not_lt λq=>?_
  have q':(n:Int)<((ns.length:Nat):Int):=by lia
  first
   | (rw[decide_eq_true q'] at h5;exact absurd h5 (by decide))
   | (simp at h5;lia)
 cases hwl with
 | cons w1 w2 =>
  cases w2
  cases w1 with
  | list ho KR=>exact⟨_,_,ns,rfl,rfl,ho,oS ns _ KR,hlen⟩
theorem BF(l:OpenLaw)(args:List WData):l.row.toRowW.claim.post args (.bool true) args=true :=
 postW_of (r:=l.row.toRowW) (X:=(true==true))
  (show WShape.has [] (.bool true) .bool=true by first|rfl|decide|simp[WShape.has,WShape.arms,WShape.armsAll])
  (show(WTm.eq .res (.lit (.bool true))).value [] { args:=args,res:=some (.bool true),after:=args }=some (.bool (true==true)) from w_eq_bool (w_res rfl) w_lit) rfl
theorem vH{l:OpenLaw}{n:Nat}{q:Program}{loose:List Str}{XP:(Str→Option Value)→Heap→Prop}{YP:World→Heap→Prop}{d:DefRec}
  (hn:l.most=some n) (hdf:d.params.defaults=[])
  (call:∀(w:World) (s₀ s₁:Shared) (mg mb:Str→Option Value) (fa:Addr) (o:Obj) (pm cd doc:Value) (a:Addr) (vs:List Value) (ns:List Int),
   Ground q loose [] XP w s₀ mg mb s₁.heap→YP w s₁.heap →
   s₁.heap.get? fa=some o→o.data=.func (docDef d.name d.params d.body d.scope pm cd doc)→s₁.heap.CodeRec cd d.name→mg d.name=some (.ref fa) →
   s₁.heap.get? a=some { cls:=.type "list",data:=.seq vs.toArray }→IntsAre vs ns→ns.length≤n→s₁.gens=#[] →
   codeAny (model l.prog w) callerA (.call (.ref fa) ⟨[.ref a],[]⟩) (λr s'=>r=.ok (.ret (.bool true))∧OldK s₁.heap s'.heap∧s'.os=s₁.os∧AllBare s'.gens) s₁) :
  WalkO q loose XP YP l.row.toRowW d [] (λf vs=>PySem.call f vs):=by
 intro w s₀ s₁ mg mb G Y fa o pm cd doc dV kV ho hd hcd hD hmg hg args vals as G0 PM hrd hwl hlo
 obtain rfl:dV=.none:=Dflts.none hD hdf
 obtain rfl:kV=.none:=Dflts.noKw hD
 obtain⟨a,vs,ns,rfl,rfl,KS,hints,hlen⟩:=BE hn G0 hwl
 refine enter_call (codeAny_mono (call w s₀ s₁ mg mb fa o pm cd doc a vs ns G Y ho (fd_plain hd) hcd hmg KS hints hlen hg) λr s' hq=>?_)
 obtain⟨rfl,h2,h3,h4⟩:=hq
 exact⟨.inl ⟨.bool true,.bool true,[],rfl,λ_=>rfl,.bool true,BF l _,λ_=>⟨List.Pairwise.nil,λ_ hm=>(nomatch hm)⟩⟩,h2,h3,h4⟩
section
variable{prog:Program}{w:World}{A:Around}{E:Value→Shared→Prop}{s:Shared}{K:Frag}
end
end Att
namespace L2
open PySem PySem.Spec PyProof.Rows
theorem sg:∀{vs:List Value}{ns:List Int},IntsAre vs ns→Vals (ns.map V.int) vs
 | _,_,.nil=>.nil
 | _,_,.cons n t h=>.cons ⟨t,rfl⟩ (sg h)
def G1(H:Hp):Prop:=∀b,H b=none∨∃o xs,H b=some (.frz o (.lst xs))
theorem Dz{P:Program}{w:World}{K:PySem.W.Frag}{mg mb:Str→Option Value}{CX:CXT}{k:Nat}{fa a:Addr}{fd:FuncData}{x:Str}{sp:Sp}{s₁:Shared}{vs:List Value}{ns:List Int}
  (KX:K.In s₁.heap) (hns:s₁.heap.Ns mainGlobals mg) (hb:s₁.heap.Ns builtinsNs mb) (hbb:∀x:Str,x≠"__name__"→mb x=bootBuiltins x) (Pe:s₁.heap.NoLimit) (hg:s₁.gens=#[])
  (ha:s₁.heap.get? a=some { cls:=.type "list",data:=.seq vs.toArray }) (hi:IntsAre vs ns) (hl:ns.length≤sizeLine) (hr:b_ k callerA)
  (F:∀base:Heap,K.In base→base.Ns mainGlobals mg→i9 P w K mg base CX k fa fd [x] sp) (Np:∀(s:Shared) (u:Value),BindsTo s fd ⟨[u],[]⟩ [(x,u)])
  (hsp:∀H:Hp,G1 H→SqL K H a (ns.map V.int)→sp [.ref a] H (λv _=>v=.bl true) λ_ _ _=>False)
  (hCX:∀H e s',CX [] H s₁ (λ_ _ _=>False) e s'→False) :
  codeAny (model P w) callerA (.call (.ref fa) ⟨[.ref a],[]⟩) (λr s'=>r=.ok (.ret (.bool true))∧OldK s₁.heap s'.heap∧s'.os=s₁.os∧AllBare s'.gens) s₁:=by
 have rv:=sg hi
 have Pf:=hi.length
 have core:∀H:Hp,G1 H→SqL K H a (ns.map V.int)→HOk P w H s₁.heap→(∀b,H b≠none→b=a)→(H a≠none→K.lookup a=none) →
   codeAny (model P w) callerA (.call (.ref fa) ⟨[.ref a],[]⟩) (λr s'=>r=.ok (.ret (.bool true))∧OldK s₁.heap s'.heap∧s'.os=s₁.os∧AllBare s'.gens) s₁:=by
  intro H hO hS hok hA hK
  have zQ:∀{b:Addr}{o:Obj},s₁.heap.get? b=some o→H b=none→(tS s₁.heap H).get? b=some o:=λe n=>C1 e n
  have noA:∀{b:Addr}{o:Obj}{es:Array DictEntry}{ep:Nat},s₁.heap.get? b=some o→o.data=.dict es ep→H b=none:=λ{b o es ep} e d=>by
   cases q:H b with
   | none=>rfl
   | some u =>
    have e':b=a:=hA b (by rw[q];simp)
    subst e'
    rw[ha] at e;cases e
    have d':Data.seq vs.toArray _=Data.dict es ep:=d
    cases d'
  have nsK:∀{b:Addr}{m:Str→Option Value},s₁.heap.Ns b m→(tS s₁.heap H).Ns b m:=λ{b m} ⟨o,es,ep,e,d,r⟩=>⟨o,es,ep,zQ e (noA e d),d,r⟩
  have hKb:K.In (tS s₁.heap H):=λb o e=>zQ (KX b o e) (by
   cases q:H b with
   | none=>rfl
   | some u =>
    have e':b=a:=hA b (by rw[q];simp)
    subst e'
    rw[hK (by rw[q];simp)] at e;cases e)
  have hM:Mod K mg (tS s₁.heap H):=⟨hKb,nsK hns,⟨mb,nsK hb,hbb⟩,let ⟨mc,h1,h2⟩:=Pe;⟨mc,nsK h1,h2⟩⟩
  have e0:xC P w K mg (tS s₁.heap H) callerA [] s₁ H:=⟨rfl,hM,λb o e=>Gz e,Nat.le_of_eq (Bq _ _),trivial,λb hb=>absurd (show b∈([]:List Addr) from hb) (by simp),hok,.of_eq hg⟩
  refine codeAny_mono ((F _ hKb (nsK hns)).run callerA [] s₁ H ⟨[.ref a],[]⟩ [.ref a] [.ref a] _ _ hr e0 (Np s₁ (.ref a)) (.cons rfl .nil) (hsp H hO hS)) λr s' h=>?_
  cases r with
  | error e=>exact(hCX H e s' h).elim
  | ok fl =>
   cases fl with
   | next=>exact False.elim h
   | brk=>exact False.elim h
   | cont=>exact False.elim h
   | ret u =>
    obtain⟨v,H',os,bare,un,Pg,r',q⟩:=h
    have q':v=.bl true:=q
    subst q'
    obtain rfl:u=Value.bool true:=r'
    refine⟨rfl,OldK.of_keep λb o e=>?_,os,bare⟩
    cases q:H b with
    | none=>exact un.keep b o e q (by intro z;exact absurd (show b∈([]:List Addr) from z) (by simp)) (by simp)
    | some u =>
     rcases hO b with z|⟨ob,xs,z⟩
     ·rw[q] at z;cases z
     ·have z2:=un.c8 b ob _ z
      obtain⟨e1,_⟩:=hok b _ z
      obtain⟨e2,_⟩:=Pg b _ z2
      rw[e] at e1;cases e1
      exact e2
 cases hk:K.lookup a with
 | some o =>
  have e:=KX a o hk
  rw[ha] at e
  cases e
  refine core (λ_=>none) (λ_=>.inl rfl) (.inr ⟨_,vs.toArray,_,hk,rfl,rfl,rfl,by rw[List.size_toArray,Pf];exact hl,by simpa using rv⟩) (λb u z=>by have z':(none:Option HO)=some u:=z;cases z') (λb z=>absurd rfl z) λz=>absurd rfl z
 | none =>
  refine core (λb=>if b=a then some (.frz { cls:=.type "list",data:=.seq vs.toArray } (.lst (ns.map V.int))) else none) (λb=>?_) (.inl (.inr ⟨{ cls:=.type "list",data:=.seq vs.toArray },if_pos rfl⟩)) (λb u z=>?_) (λb z=>?_) λ_=>hk
  ·by_cases hb:b=a
   ·exact .inr ⟨_,_,if_pos hb⟩
   ·exact .inl (if_neg hb)
  ·by_cases hb:b=a
   ·have z':=(if_pos hb).symm.trans z
    cases z'
    subst hb
    exact⟨ha,by rw[List.length_map];exact hl,vs,_,rv,ha⟩
   ·have z':=(if_neg hb).symm.trans z
    cases z'
  ·by_cases hb:b=a
   ·exact hb
   ·exact absurd (if_neg hb) z
theorem G2{l:PySem.W.OpenLaw}{n k:Nat}{q:Program}{loose:List Str}{XP:(Str→Option Value)→Heap→Prop}{YP:World→Heap→Prop}{d:DefRec}{K:Params→PySem.W.Frag}{CX:World→CXT}{sp:World→Sp}{x:Str}
  (hn:l.most=some n) (hn2:n≤sizeLine) (hdf:d.params.defaults=[]) (hr:b_ k callerA)
  (hY:∀(w:World) (h:Heap),YP w h→(K w.params).In h)
  (F:∀(w:World) (mg:Str→Option Value) (fa:Addr) (h:Heap),(K w.params).In h→h.Ns mainGlobals mg→mg d.name=some (.ref fa) →
   ∃fd:FuncData,(∀(s:Shared) (u:Value),BindsTo s fd ⟨[u],[]⟩ [(x,u)]) ∧
    ∀base:Heap,(K w.params).In base→base.Ns mainGlobals mg→i9 l.prog w (K w.params) mg base (CX w) k fa fd [x] (sp w))
  (hsp:∀(w:World) (H:Hp) (a:Addr) (ns:List Int),ns.length≤n→G1 H→SqL (K w.params) H a (ns.map V.int)→sp w [.ref a] H (λv _=>v=.bl true) λ_ _ _=>False)
  (hCX:∀(w:World) (H:Hp) (s:Shared) (e:Value) (s':Shared),CX w [] H s (λ_ _ _=>False) e s'→False) :
  PySem.W.WalkO q loose XP YP l.row.toRowW d [] (λf vs=>PySem.call f vs):=by
 refine Att.vH hn hdf λw s₀ s₁ mg mb fa o pm cd doc a vs ns G Y ho hd hcd hmg KS hints hlen hg=>?_
 have KX:=hY w _ Y
 obtain⟨fd,hb,hF⟩:=F w mg fa _ KX G.T.g hmg
 exact Dz KX G.T.g G.T.b G.T.builtins G.T.nolimit hg KS hints (Nat.le_trans hlen hn2) hr hF hb (λH hO hS=>hsp w H a ns hlen hO hS) λH e s'=>hCX w H s₁ e s'
end L2
namespace L2
open PySem PySem.Spec PyProof.Rows
def gQ(s:Stmt):Arguments:=match s with
 | .FunctionDef _ a _ _ _ _ _ _ _ _=>a
 | _=>{ posonlyargs:=[],args:=[],vararg:=none,kwonlyargs:=[],kw_defaults:=[],kwarg:=none,defaults:=[] }
def e_(s:Stmt):List Stmt:=match s with
 | .FunctionDef _ _ b _ _ _ _ _ _ _=>b
 | _=>[]
def ao(s:Stmt):Scope:=match s with
 | .FunctionDef _ _ _ _ _ _ sc _ _ _=>sc
 | _=>{ kind:=.function,names:=[],isGenerator:=false,isCoroutine:=false }
abbrev CX0:CXT:=λ_ _ _ _ _ _=>False
abbrev E0:XK:=λ_ _ _=>False
theorem Nq{X:Cx}:Passes CX0 X E0:=λ_ _ _ _ _ _ _ h=>h.elim
structure Fun(K:PySem.W.Frag)(x qual:Str)(st:Stmt)(f:Addr)(fd:FuncData):Prop where
 ex:∃(oc:Value) (od:Option Addr) (kV doc pm:Value) (an:Option Addr) (cdv ct:Value) (osl:Array (Option Value)),
  fd=PySem.W.fnOf x qual (gQ st) (e_ st) (ao st) .none kV doc pm an cdv ct∧K.lookup f=some ⟨oc,od,.func fd,osl⟩∧PySem.W.codeIn K cdv qual=true
 kp:PySem.W.keepIn K (.ref f)=true
section
variable{P:Program}{w:World}{K:PySem.W.Frag}{mg:Str→Option Value}{base:Heap}
theorem Fun.ok{x qual:Str}{st:Stmt}{f:Addr}{fd:FuncData}{N ps:List Str}{k:Nat}{sp:Sp}(F:Fun K x qual st f fd)(S:aH N ps (ao st))(len:∀vs H Q E,sp vs H Q E→vs.length=ps.length)
  (Dg:∀(cdv:Value) (A:Around) (outer:List Env) (s:Shared) (H:Hp) (vs:List V) (Q:VK) (E:XK),b_ k (A.deeper (envOfC qual (ao st) s.heap.objs.size f cdv))→sp vs H Q E →
   ∃t,PSs (mw CX0 P w K mg base N qual (ao st) f cdv A outer s H E).nox (e_ st) t∧t { nx:=λ_ H'=>Q .non H',rt:=Q } (start N vs) H):i9 P w K mg base CX0 (k+1) f fd ps sp:=by
 obtain⟨oc,od,kV,doc,pm,an,cdv,ct,osl,rfl,lk,hcd⟩:=F.ex
 refine Jq lk hcd S len λA outer s H vs Q E hr hsp=>?_
 obtain⟨t,h,q⟩:=Dg cdv A outer s H vs Q E hr hsp
 exact⟨t,h.nox,q⟩
theorem Fun.binds{x qual:Str}{st:Stmt}{f:Addr}{fd:FuncData}{ps:List Str}(F:Fun K x qual st f fd)
  (h:∀(kV doc pm:Value) (an:Option Addr) (cdv ct:Value) (us:List Value),us.length=ps.length→bindArgs (PySem.W.fnOf x qual (gQ st) (e_ st) (ao st) .none kV doc pm an cdv ct) ⟨us,[]⟩=pure (ps.zip us)):Binds K fd ps []:=by
 obtain⟨oc,od,kV,doc,pm,an,cdv,ct,osl,rfl,lk,hcd⟩:=F.ex
 exact .all (h kV doc pm an cdv ct)
theorem KU{x qual:Str}{st:Stmt}{f:Addr}{oc:Value}{od an:Option Addr}{osl:Array (Option Value)}{kV doc pm cdv ct:Value}(l:K.lookup f=some ⟨oc,od,.func (PySem.W.fnOf x qual (gQ st) (e_ st) (ao st) .none kV doc pm an cdv ct),osl⟩)
  (c:PySem.W.codeIn K cdv qual=true) (k:PySem.W.keepIn K (.ref f)=true):Fun K x qual st f (PySem.W.fnOf x qual (gQ st) (e_ st) (ao st) .none kV doc pm an cdv ct):=⟨⟨oc,od,kV,doc,pm,an,cdv,ct,osl,rfl,l,c⟩,k⟩
end
theorem BG{n:Nat}(h:n≤1000):n<sizeLine:=Nat.lt_of_le_of_lt h (by decide)
section
variable{X:Cx}
end
def aN(H H':Hp):Prop:=∀b o,H b=some o→H' b=some o
theorem aN.refl(H:Hp):aN H H:=λ_ _ h=>h
theorem aN.trans{H H1 H2:Hp}(a:aN H H1)(b:aN H1 H2):aN H H2:=λc o h=>b c o (a c o h)
theorem aN.free{H H':Hp}(e:aN H H'){l:Addr}(h:H' l=Option.none):H l=Option.none:=by
 cases q:H l with
 | none=>rfl
 | some o =>
  rw[e l o q] at h
  cases h
theorem aN.seq{K:PySem.W.Frag}{H H':Hp}{a:Addr}{xs:List V}(e:aN H H')(h:SqL K H a xs):SqL K H' a xs:=by
 rcases h with (h|⟨o,h⟩)|h
 ·exact .inl (.inl (e _ _ h))
 ·exact .inl (.inr ⟨o,e _ _ h⟩)
 ·exact .inr h
section
variable{X:Cx}
theorem BH:cT X (.builtin "len") (λxs H Q=>∃a kvs,xs=[V.ref a]∧H a=some (.dK kvs)∧Q (.int kvs.length) H):=by
 intro pins s σ H xs us Q I r h
 obtain⟨a,kvs,rfl,ha,q⟩:=h
 obtain⟨u,rfl,ru⟩:=vals1 r
 cases ru
 exact Nm I (.inl ha) λt s' I'=>⟨.int kvs.length,H,I',⟨t,rfl⟩,q⟩
end
section
variable{κ:Type}[DecidableEq κ]
end
theorem cw.there{P:Program}{w:World}{H:Hp}{h:Heap}{a:Addr}{o:HO}(x:cw P w H h a o):∃ob,h.get? a=some ob:=by
 cases o with
 | lst xs=>obtain⟨_,_,_,_,e⟩:=x;exact⟨_,e⟩
 | tup xs=>obtain⟨_,_,_,p⟩:=x;obtain⟨_,e,_⟩:=p;exact⟨_,e⟩
 | dK kvs=>obtain⟨_,_,_,_,o,_,e,_⟩:=x;exact⟨_,e⟩
 | dT kvs=>obtain⟨_,_,_,_,o,_,_,e,_⟩:=x;exact⟨_,e⟩
 | set S n=>obtain⟨o,_,_,_,e,_⟩:=x;exact⟨_,e⟩
 | ins C dx fs=>obtain⟨_,_,_,e,_⟩:=x;exact⟨_,e⟩
 | own y=>obtain⟨_,e⟩:=x;exact⟨_,e⟩
 | xd fs=>obtain⟨_,⟨_,_,_,e,_⟩,_⟩:=x;exact⟨_,e⟩
 | rng lo hi=>obtain⟨_,_,_,e⟩:=x;exact⟨_,e⟩
 | frz ob u=>obtain⟨e,_⟩:=x;exact⟨_,e⟩
 | tbl ps=>exact⟨_,show h.get? a=some _ from x⟩
 | met f y=>exact⟨_,show h.get? a=some _ from x⟩
 | ext φ=>obtain⟨_,⟨_,e⟩,_⟩:=x;exact⟨_,e⟩
def CX1(P:Program)(w:World):CXT:=λouter H s E ev s'=>∃(e t C:Addr) (H':Hp) (B:Heap),ev=.ref e∧s'.os=s.os∧AllBare s'.gens∧Un (frs outer) [] H H' s.heap s'.heap∧HOk P w H' s'.heap∧E (.ref C) none H' ∧
 Heap.FlyingW B outer e (.ref C) (.ref t) s'.heap∧(∀b o,s.heap.get? b=some o→b∉frs outer→∃o',B.get? b=some o')∧∀b o,H' b=some o→∃o',B.get? b=some o'
theorem DA{P:Program}{w:World}{K:PySem.W.Frag}{mg:Str→Option Value}{base:Heap}{N:List Str}{qual:Str}{scope:Scope}{f:Addr}{cd:Value}{A:Around}{outer:List Env}{s:Shared}{H:Hp}{E:XK}
  {pins:List (Addr×Obj)}{σ:L2.St}{H2:Hp}{s2:Shared}{h':Heap}{e C:Addr}{vs:List Value}
  (I:Inv (mw (CX1 P w) P w K mg base N qual scope f cd A outer s H E) pins σ H2 s2) (hx:Heap.MadeExcOf s2.heap h' e (.ref C) vs) (hE:E (.ref C) none H2) :
  (mw (CX1 P w) P w K mg base N qual scope f cd A outer s H E).xe (.ref e) { s2 with heap:=h' }:=by
 have hin:∀env∈(envOfC qual scope s.heap.objs.size f cd::outer),∀b,env.frame=some b→b∈frs (envOfC qual scope s.heap.objs.size f cd::outer):=λenv he b hb=>List.mem_filterMap.mpr ⟨env,he,hb⟩
 have hst:=I.stack
 have hnf:∀b,b∈frs (envOfC qual scope s.heap.objs.size f cd::outer)→H2 b=none:=I.pk
 show wpAny _ _ (leaving _ (.ref e)) _ _ _
 refine wpAny_leaves_madeW (base:=PySem.W.hideAll s2.heap (frs (envOfC qual scope s.heap.objs.size f cd::outer))) (h:=s2.heap) I.ok.frames rfl (λb o q=>PySem.W.of_hideAll _ q) (PySem.W.funFrames_hide hst hin) hx λh'' t fl tup bt up=>?_
 have keep:∀b o,s2.heap.get? b=some o→b∉frs (envOfC qual scope s.heap.objs.size f cd::outer)→h''.get? b=some o:=λb o q nf=>fl.1 b o (PySem.W.hideAll_get _ q nf)
 have slot:∀b o,s2.heap.get? b=some o→b∈frs (envOfC qual scope s.heap.objs.size f cd::outer)→∃sl,h''.get? b=some { o with slots:=sl }:=λb o q hb=>by
  obtain⟨_,o',ho',hnr⟩:=hst.mem hb
  rw[q] at ho'
  cases ho'
  exact up b o (hx.keeps b o q) hnr
 have nl:∀b o,s.heap.get? b=some o→b∉frs outer→b∉frs (envOfC qual scope s.heap.objs.size f cd::outer):=λb o q nb hb=>by
  rcases List.mem_cons.mp (show b∈s.heap.objs.size::frs outer from hb) with z|z
  ·exact absurd (Heap.lt_size q) (by rw[z];exact Nat.lt_irrefl _)
  ·exact nb z
 have U:=I.base
 refine⟨e,t,C,H2,_,rfl,I.os,I.bare,⟨λb o q n nb _=>?_,λb o q n hb _=>?_,λb o q n _=>U.free b o q n (λz=>nomatch z),λb o q _=>?_,U.mm,U.c8,U.mq⟩,λa o q=>?_,hE,fl,λb o q nb=>?_,λb o q=>?_⟩
 ·exact keep b o (U.keep b o q n nb (λz=>nomatch z)) (nl b o q nb)
 ·obtain⟨sl,e1⟩:=U.slot b o q n hb (λz=>nomatch z)
  obtain⟨sl2,e2⟩:=slot b _ e1 (List.mem_cons_of_mem _ hb)
  exact⟨sl2,e2⟩
 ·obtain⟨o',e1⟩:=U.there b o q (λz=>nomatch z)
  by_cases hb:b∈frs (envOfC qual scope s.heap.objs.size f cd::outer)
  ·obtain⟨sl,e2⟩:=slot b o' e1 hb
   exact⟨_,e2⟩
  ·exact⟨o',keep b o' e1 hb⟩
 ·refine(I.hok a o q).rA (λc v hc r=>keep c v r λhb=>?_) (λ_ r=>r) λ_ _ r=>r
  have:=hnf c hb
  rcases hc with rfl|hc
  ·rw[this] at q;cases q
  ·rw[this] at hc;cases hc
 ·obtain⟨o',e1⟩:=U.there b o q (λz=>nomatch z)
  exact⟨o',PySem.W.hideAll_get _ e1 (nl b o q nb)⟩
 ·obtain⟨o',e1⟩:=cw.there (I.hok b o q)
  exact⟨o',PySem.W.hideAll_get _ e1 λhb=>by rw[hnf b hb] at q;cases q⟩
theorem G3{P:Program}{w:World}{K:PySem.W.Frag}{mg:Str→Option Value}{base:Heap}{N:List Str}{qual:Str}{scope:Scope}{f:Addr}{cd:Value}{A:Around}{outer:List Env}{s:Shared}{H:Hp}{E E2:XK}
  {pins:List (Addr×Obj)}{σ:L2.St}{H2:Hp}{s2 s3:Shared}{ev:Value}
  (I:Inv (mw (CX1 P w) P w K mg base N qual scope f cd A outer s H E) pins σ H2 s2) (hx:CX1 P w (envOfC qual scope s.heap.objs.size f cd::outer) H2 s2 E2 ev s3) (hE:∀c H',E2 c none H'→E c none H') :
  (mw (CX1 P w) P w K mg base N qual scope f cd A outer s H E).xe ev s3:=by
 obtain⟨e,t,C,H',B,rfl,hos,vI,U2,hok,hE2,fl0,cov,oT⟩:=hx
 have hst:=I.stack
 have hnf:∀b,b∈frs (envOfC qual scope s.heap.objs.size f cd::outer)→H2 b=none:=I.pk
 show wpAny _ _ (leaving _ (.ref e)) _ _ _
 refine wpAny_leaves_onW I.ok.frames rfl fl0 λh'' fl up=>?_
 have U:=I.base
 have nl:∀b o,s.heap.get? b=some o→b∉frs outer→b∉frs (envOfC qual scope s.heap.objs.size f cd::outer):=λb o q nb hb=>by
  rcases List.mem_cons.mp (show b∈s.heap.objs.size::frs outer from hb) with z|z
  ·exact absurd (Heap.lt_size q) (by rw[z];exact Nat.lt_irrefl _)
  ·exact nb z
 have same:∀b o o',s3.heap.get? b=some o→B.get? b=some o'→h''.get? b=some o:=λb o o' q1 q2=>by
  have:=fl0.1 b o' q2
  rw[q1] at this
  cases this
  exact fl.1 b o q2
 have slot:∀b o,s3.heap.get? b=some o→b∈frs (envOfC qual scope s.heap.objs.size f cd::outer)→∃sl,h''.get? b=some { o with slots:=sl }:=λb o q hb=>by
  obtain⟨_,o',ho',hnr⟩:=fl0.2.2.1.mem hb
  rw[q] at ho'
  cases ho'
  exact up b o q hnr
 refine⟨e,t,C,H',B,rfl,hos.trans I.os,vI,⟨λb o q n nb _=>?_,λb o q n hb _=>?_,λb o q n _=>?_,λb o q _=>?_,λb xs q=>U2.mm b xs (U.mm b xs q),λb o u q=>U2.c8 b o u (U.c8 b o u q),λb ps q=>?_⟩,λa o q=>?_,hE _ _ hE2,fl,λb o q nb=>?_,oT⟩
 ·have q1:=U.keep b o q n nb (λz=>nomatch z)
  have n1:=U.free b o q n (λz=>nomatch z)
  have nl1:=nl b o q nb
  obtain⟨o',hB⟩:=cov b o q1 nl1
  exact same b o o' (U2.keep b o q1 n1 nl1 (λz=>nomatch z)) hB
 ·obtain⟨sl,e1⟩:=U.slot b o q n hb (λz=>nomatch z)
  have n1:=U.free b o q n (λz=>nomatch z)
  obtain⟨sl2,e2⟩:=U2.slot b _ e1 n1 (List.mem_cons_of_mem _ hb) (λz=>nomatch z)
  obtain⟨sl3,e3⟩:=slot b _ e2 (List.mem_cons_of_mem _ hb)
  exact⟨sl3,e3⟩
 ·have n1:=U.free b o q n (λz=>nomatch z)
  obtain⟨o1,e1⟩:=U.there b o q (λz=>nomatch z)
  exact U2.free b o1 e1 n1 (λz=>nomatch z)
 ·obtain⟨o1,e1⟩:=U.there b o q (λz=>nomatch z)
  obtain⟨o2,e2⟩:=U2.there b o1 e1 (λz=>nomatch z)
  by_cases hb:b∈frs (envOfC qual scope s.heap.objs.size f cd::outer)
  ·obtain⟨sl,e3⟩:=slot b o2 e2 hb
   exact⟨_,e3⟩
  ·obtain⟨o',hB⟩:=cov b o1 e1 hb
   exact⟨o2,same b o2 o' e2 hB⟩
 ·obtain⟨m1,e1⟩:=U.mq b ps q
  obtain⟨m2,e2⟩:=U2.mq b _ e1
  exact⟨m1++m2,by rw[e2,Array.append_assoc]⟩
 ·refine(hok a o q).rA (λc v hc r=>?_) (λ_ r=>r) λ_ _ r=>r
  have hT:∃o1,H' c=some o1:=by
   rcases hc with rfl|hc
   ·exact⟨_,q⟩
   ·exact⟨_,hc⟩
  obtain⟨o1,h1⟩:=hT
  obtain⟨o',hB⟩:=oT c o1 h1
  exact same c v o' r hB
 ·obtain⟨o1,e1⟩:=U.there b o q (λz=>nomatch z)
  exact cov b o1 e1 (nl b o q nb)
theorem DB{K:PySem.W.Frag}{h:Heap}{mg:Str→Option Value}{x:Str}{C:Addr}{bmB:List Value}{newId:String}(X:K.In h)(hx:mg x=some (.ref C))(q:PySem.W.excIn K C bmB newId=true):OwnCls x C bmB newId mg h:=by
 refine⟨hx,?_⟩
 unfold PySem.W.excIn at q
 match hl:K.lookup C with
 | none=>rw[hl] at q;cases q
 | some o =>
  rw[hl] at q
  split at q
  ·rename_i dd cd sl e
   cases e
   split at q
   ·rename_i C' bm k0 k1 k2 k3 n k5 hm hs
    simp only[Bool.and_eq_true,beq_iff_eq,Bool.not_eq_true'] at q
    obtain⟨⟨⟨⟨⟨e1,e2⟩,e3⟩,e4⟩,e5⟩,e6⟩:=q
    subst e1 e2
    cases cd
    simp only at hm e3 e5 e6
    subst hm e3
    cases sl
    simp only at hs
    subst hs
    exact⟨_,_,_,_,_,_,_,_,_,_,_,_,_,_,_,_,_,X _ _ hl,.of_isNs (PySem.W.isNs_of_in X e5),PySem.W.nsMap_none_of_in X e5 e6,PySem.W.tail_of_in X e4⟩
   ·cases q
  ·cases q
def KW(X:Cx)(C:Addr):TS:=λ_ σ H=>∀(pins:List (Addr×Obj)) (s:Shared) (h':Heap) (e:Addr) (vs:List Value),Inv X pins σ H s→Heap.MadeExcOf s.heap h' e (.ref C) vs→X.xe (.ref e) { s with heap:=h' }
theorem DC{X:Cx}{x:Str}{C:Addr}{bmB:List Value}{B newId xN:String}{np cL pos p2:Pos}{m:Str}{j:Nat}(F:ExcBaseFacts B newId xN bmB)(hc:X.calm=true)(hg:Gl X x)(hm:X.mg x=some (.ref C))(q:PySem.W.excIn X.K C bmB newId=true)
  (hpl:(backTo cL (starEach [.Constant (.str m) j p2] X.env)).any (·.1)=false:=by rfl) (hs:starEach [.Constant (.str m) j p2] X.env=(false,eval (.Constant (.str m) j p2) X.env)::starEach [] X.env:=by rfl) (hd:(x==("__debug__":Str))=false:=by decide) :
  PS X (.Raise (some (.Call (.Name x np) [.Constant (.str m) j p2] [] cL)) none pos) (KW X C):=by
 intro pins s σ H D I h
 have e0:=I.GN
 have KX:X.K.In s.heap:=e0.mod.kin.keeps λb o e=>(e0.bs b o e).1
 obtain⟨bm,N,nm,qn,bs,hdct,sn,sub,ab,col,dd,k0,k1,k2,k3,k5,mN,hC,hN,hni,T⟩:=(DB KX hm q).obj
 refine wpAny_Raise_call_subT (C:=C) (nm:=nm) (q:=qn) (N:=N) (bs:=bs) (bm:=bm) (hdct:=hdct) (sn:=sn) (sub:=sub) (ab:=ab) (col:=col) (dd:=dd) (k0:=k0) (k1:=k1) (k2:=k2) (k3:=k3) (k5:=k5) F (T.hasType F.hasBase) (I.ok.hd hc) hpl hni (mr I hg hm ⟨rfl,?_⟩ hd)
 refine Calls.evalArgs_plain (Calls.spliced_cons (Calls.Constant_str (k:=j) (pos:=p2) (Calls.spliced_nil ?_)))
 exact⟨rfl,by show 1≤sizeLine;decide,hC,hN,T,λh' e hx=>h pins _ h' e _ (I.tok _) hx⟩
theorem Un.held{P:Program}{w:World}{l:List Env}{H H':Hp}{h0 h3 h5 B:Heap}{e:Addr}{cls a0:Value}(U:Un (frs l) [] H H' h0 h3)(hok:HOk P w H' h3)(fl:Heap.FlyingW B l e cls a0 h3)(st:B.StaysIn h5)(up:h3.UpToSlots h5)
  (cov:∀b o,h0.get? b=some o→b∉frs l→∃o',B.get? b=some o') (oT:∀b o,H' b=some o→∃o',B.get? b=some o'):Un (frs l) [] H H' h0 h5∧HOk P w H' h5:=by
 have same:∀b o o',h3.get? b=some o→B.get? b=some o'→h5.get? b=some o:=λb o o' q1 q2=>by
  have:=fl.1 b o' q2
  rw[q1] at this
  cases this
  exact st b o q2
 have slot:∀b o,h3.get? b=some o→b∈frs l→∃sl,h5.get? b=some { o with slots:=sl }:=λb o q hb=>by
  obtain⟨_,o',ho',hnr⟩:=fl.2.2.1.mem hb
  rw[q] at ho'
  cases ho'
  exact up b o q hnr
 refine⟨⟨λb o q n nb hx=>?_,λb o q n hb hx=>?_,U.free,λb o q hx=>?_,U.mm,U.c8,U.mq⟩,λa o q=>?_⟩
 ·obtain⟨o',hB⟩:=cov b o q nb
  exact same b o o' (U.keep b o q n nb hx) hB
 ·obtain⟨sl,e1⟩:=U.slot b o q n hb hx
  obtain⟨sl2,e2⟩:=slot b _ e1 hb
  exact⟨sl2,e2⟩
 ·obtain⟨o2,e2⟩:=U.there b o q hx
  by_cases hb:b∈frs l
  ·obtain⟨sl,e3⟩:=slot b o2 e2 hb
   exact⟨_,e3⟩
  ·obtain⟨o',hB⟩:=cov b o q hb
   exact⟨o2,same b o2 o' e2 hB⟩
 ·refine(hok a o q).rA (λc v hc r=>?_) (λ_ r=>r) λ_ _ r=>r
  have hT:∃o1,H' c=some o1:=by
   rcases hc with rfl|hc
   ·exact⟨_,q⟩
   ·exact⟨_,hc⟩
  obtain⟨o1,h1⟩:=hT
  obtain⟨o',hB⟩:=oT c o1 h1
  exact same c v o' r hB
section
variable{M:Model}{A:Around}{E:Value→Shared→Prop}{h:Heap}{g:Array GenState}{d:Drawn}{t:Nat}{os:OsState}{e C:Addr}{oe:Obj}
 {nm q:Str}{N:Addr}{bs bm:List Value}{hdct:Bool}{sn:List Str}{sub:List Value}{ab:Bool}{col:Option Bool}{dd:Option Addr}{k0 k1 k2 k3 k5:Option Value}{newId:String}
 {nm' q':Str}{N' D:Addr}{bs' bm':List Value}{Js:Bool}{sn':List Str}{Nr:List Value}{ab':Bool}{Nt:Option Bool}{dd':Option Addr}{k0' k1' k2' k3' k5':Option Value}{DD:String}
theorem p6{Q:Bool→Shared→Prop}(hC:h.get? C=some (excClassObj nm q C N bs bm hdct sn sub ab col dd k0 k1 k2 k3 k5 newId))(he:h.get? e=some oe)(C3:oe.cls=.ref C)
  (hD:h.get? D=some (excClassObj nm' q' D N' bs' bm' Js sn' Nr ab' Nt dd' k0' k1' k2' k3' k5' DD)) (jX:bm'.contains (.type "BaseException")=true)
  (hq:Q ((Value.ref C::bm).contains (.ref D)) ⟨h,g,d,t,os⟩):wpAny M A (excMatches (.ref e) (.ref D)) Q E ⟨h,g,d,t,os⟩:=by
 have hcB:(Value.ref D::bm').contains (.type "BaseException")=true:=by rw[List.contains_cons,jX,Bool.or_true]
 have f:=tc_notTuple
 unfold excMatches
 cases hb:(Value.ref C::bm).contains (.ref D)<;>rw[hb] at hq <;>
 repeat (first|(with_reducible refine wpAny_loadPart_at he ?_;rw[C3])|with_reducible refine wpAny_loadPart_at hD ?_|(with_reducible refine wpAny_isSubtype_exc hD ?_;rw[hcB])|(with_reducible refine wpAny_isSubtype_exc hC ?_;rw[hb])|wp_step)
 all_goals exact hq
end
def DE(h:Heap)(C:Addr)(bm:List Value):Prop:=∃nm q N bs hdct sn sub ab col dd k0 k1 k2 k3 k5 newId,h.get? C=some (excClassObj nm q C N bs bm hdct sn sub ab col dd k0 k1 k2 k3 k5 newId)∧bm.contains (.type "BaseException")=true
structure Cau(X:Cx)(pins:List (Addr×Obj))(σ:L2.St)(H':Hp)(e t C:Addr)(B:Heap)(s:Shared):Prop where
 org:∃H0 s0,Inv X pins σ H0 s0∧s.os=s0.os∧Un (frs X.stack) [] H0 H' s0.heap s.heap∧∀b o,s0.heap.get? b=some o→b∉frs X.stack→∃o',B.get? b=some o'
 bare:AllBare s.gens
 hok:HOk X.prog X.w H' s.heap
 fly:Heap.FlyingW B X.stack e (.ref C) (.ref t) s.heap
 cov:∀b o,H' b=some o→∃o',B.get? b=some o'
section
variable{X:Cx}{pins:List (Addr×Obj)}{σ:L2.St}{H':Hp}{e t C:Addr}{B h':Heap}{s:Shared}
theorem Cau.inv(c:Cau X pins σ H' e t C B s):Inv X pins σ H' s:=by
 obtain⟨H0,s0,I,hos,U,_⟩:=c.org
 exact I.Jl (ch:=[]) hos U c.hok c.bare λb z=>nomatch z
theorem Cau.slots{tk:Nat}(c:Cau X pins σ H' e t C B s)(fl:Heap.FlyingW B X.stack e (.ref C) (.ref t) h')(up:s.heap.UpToSlots h'):Cau X pins σ H' e t C B { s with heap:=h',toks:=tk }:=by
 obtain⟨H0,s0,I,hos,U,cov⟩:=c.org
 obtain⟨U',hk⟩:=U.held c.hok c.fly fl.1 up cov c.cov
 exact⟨⟨H0,s0,I,hos,U',cov⟩,c.bare,hk,fl,c.cov⟩
end
theorem cau{X:Cx}{pins:List (Addr×Obj)}{σ:L2.St}{H:Hp}{s s3:Shared}{ev:Value}{E2:XK}{Q:Unit→Shared→Prop}{E:Value→Shared→Prop}(hs:X.stack=X.env::X.outer)(hf:X.env.frame=some X.env.locals)
  (I:Inv X pins σ H s) (hx:CX1 X.prog X.w X.stack H s E2 ev s3)
  (k:∀e t C H' B h5,ev=.ref e→E2 (.ref C) none H'→Cau X pins σ H' e t C B { s3 with heap:=h5 }→Q () { s3 with heap:=h5 }) :
  wpAny (model X.prog X.w) X.A (noteFrame ev X.env) (λ_ s₂=>wpAny (model X.prog X.w) X.A (setFlight ev none) Q E s₂) E s3:=by
 obtain⟨e,t,C,H',B,rfl,hos,vI,U2,hok,hE2,fl0,cov,oT⟩:=hx
 refine wpAny_looks_onW (outer:=X.outer) (by rw[I.ok.frames,hs]) hf (by rw[← hs];exact fl0) λh4 held up4=>?_
 refine wpAny_landsW held λh5 fl5 up5=>?_
 obtain⟨U,hk⟩:=U2.held hok fl0 fl5.1 (up4.trans up5) cov oT
 exact k e t C H' B h5 rfl hE2 ⟨⟨H,s,I,hos,U,cov⟩,vI,hk,by rw[hs];exact fl5,oT⟩
abbrev Cx.mark(X:Cx)(ev:Value):Cx:={ X with A:=X.A.mark (some ev),calm:=false,xe:=λ_ _=>False }
section
variable{X:Cx}{pins:List (Addr×Obj)}{σ:L2.St}{H:Hp}{s:Shared}{ev:Value}
theorem Inv.mark(I:Inv X pins σ H s)(ev:Value):Inv (X.mark ev) pins σ H s :=
 ⟨⟨I.ok.mod,I.ok.kind,I.ok.glob,I.ok.blt,I.ok.above,I.ok.inj,I.ok.has,I.ok.cab,(λh=>by cases h),I.ok.frames,I.ok.stk,I.ok.exf,I.ok.bs,I.ok.bsz,I.ok.tT,I.ok.xw,I.ok.lM,I.ok.frf⟩,I.os,I.bare,I.base,I.loc,I.cell,I.free,I.fZ,I.pin,I.hok,I.len⟩
theorem Inv.unmark(ok:X.Ok)(I:Inv (X.mark ev) pins σ H s):Inv X pins σ H s:=⟨ok,I.os,I.bare,I.base,I.loc,I.cell,I.free,I.fZ,I.pin,I.hok,I.len⟩
theorem SP.unmark{D:Ends}{f:Flow}(ok:X.Ok)(h:SP (X.mark ev) pins D f s):SP X pins D f s:=by
 cases f with
 | next=>obtain⟨σ',H',I,q⟩:=h;exact⟨σ',H',I.unmark ok,q⟩
 | brk=>obtain⟨σ',H',I,q⟩:=h;exact⟨σ',H',I.unmark ok,q⟩
 | cont=>obtain⟨σ',H',I,q⟩:=h;exact⟨σ',H',I.unmark ok,q⟩
 | ret u=>obtain⟨v,σ',H',I,r,q⟩:=h;exact⟨v,σ',H',I.unmark ok,r,q⟩
end
def Jt(X:Cx)(e:Addr)(name:Option Str)(body:List Stmt)(pos:Pos)(Q:Flow→Shared→Prop)(E:Value→Shared→Prop)(s:Shared):Prop :=
 codeAny (model X.prog X.w) (X.A.mark (some (.ref e))) (.handlers (.ref e) [.ExceptHandler none name body pos] X.env) (λr s₂=>match r with
  | .ok f=>(match name with
   | none=>Q f s₂
   | some n=>wpAny (model X.prog X.w) X.A (do bindName X.env n .none;unbindBehindTheSuite X.env n pos) (λ_ s₃=>Q f s₃) E s₂)
  | .error x=>cameBackBy (model X.prog X.w) X.A X.env E x s₂) s
section
variable{X:Cx}{pins:List (Addr×Obj)}{σ:L2.St}{H':Hp}{e t C D:Addr}{B:Heap}{s:Shared}{bm:List Value}{x:Str}{np pos:Pos}{name:Option Str}{body:List Stmt}{rest:List ExceptHandler}{Q:Flow→Shared→Prop}{E:Value→Shared→Prop}
theorem BI(c:Cau X pins σ H' e t C B s)(hC:DE s.heap C bm)(hD:∃bm',DE s.heap D bm')(hg:Gl X x)(hm:X.mg x=some (.ref D))
  (k:if (Value.ref C::bm).contains (.ref D)=true then Jt X e name body pos Q E s else wpAny (model X.prog X.w) X.A (handleBy (.ref e) X.env rest) Q E s) (hd:(x==("__debug__":Str))=false:=by decide) :
  wpAny (model X.prog X.w) X.A (handleBy (.ref e) X.env (.ExceptHandler (some (.Name x np)) name body pos::rest)) Q E s:=by
 obtain⟨ob,hob,C3⟩:=c.fly.there
 refine wpAny_handleBy_cons (codeAny_handlers_test (mr (X:=X.mark (.ref e)) (c.inv.mark _) hg hm ?_ hd)) (by intro q;cases q)
 obtain⟨nm,q,N,bs,hdct,sn,sub,ab,col,dd,k0,k1,k2,k3,k5,newId,hC',_⟩:=hC
 obtain⟨bm',nm',q',N',bs',Js,sn',Nr,ab',Nt,dd',k0',k1',k2',k3',k5',DD,hD',hb'⟩:=hD
 obtain⟨h,g,d,tk,os⟩:=s
 refine p6 hC' hob C3 hD' hb' ?_
 cases hb:(Value.ref C::bm).contains (.ref D) with
 | true=>rw[hb] at k;exact k
 | false=>rw[hb] at k;exact k
theorem xO{ts:TS}{D:Ends}{b₀:Stmt}{tl:List Stmt}(c:Cau X pins σ H' e t C B s)(hs:∀ev,PSs (X.mark ev) (b₀::tl) ts)(h:ts D σ H'):Jt X e none (b₀::tl) pos (SP X pins D) E s:=by
 have ok:=c.inv.ok
 refine codeAny_handlers_suite (lands_againW c.fly λh6 fl6 up6=>?_)
 have c6:=Cau.slots (tk:=s.toks) c fl6 up6
 exact wpAny_mono (hs (.ref e) pins _ σ H' D (c6.inv.mark _) h) (λf s2 q=>SP.unmark ok q) λ_ _ z=>False.elim z
end
section
variable{X:Cx}{pins:List (Addr×Obj)}{σ:L2.St}{H':Hp}{e t C:Addr}{B:Heap}{s:Shared}{bm:List Value}{pos:Pos}{name:Option Str}{body:List Stmt}{rest:List ExceptHandler}{Q:Flow→Shared→Prop}{E:Value→Shared→Prop}
end
section
variable{X:Cx}{pins:List (Addr×Obj)}{σ:L2.St}{H:Hp}{s:Shared}
end
def KY(e C:Addr)(h:Heap):Prop:=∃o,h.get? e=some o∧o.cls=.ref C
section
variable{X:Cx}{pins:List (Addr×Obj)}{σ:L2.St}{H':Hp}{e t C:Addr}{B:Heap}{s:Shared}{pos:Pos}{E:Value→Shared→Prop}
end
structure Hel(X:Cx)(pins:List (Addr×Obj))(σ:L2.St)(H':Hp)(e t C:Addr)(B:Heap)(s:Shared):Prop where
 org:∃H0 s0,Inv X pins σ H0 s0∧s.os=s0.os∧Un (frs X.stack) [] H0 H' s0.heap s.heap∧∀b o,s0.heap.get? b=some o→b∉frs X.stack→∃o',B.get? b=some o'
 bare:AllBare s.gens
 hok:HOk X.prog X.w H' s.heap
 held:Heap.HeldW B X.stack e (.ref C) (.ref t) X.env.locals s.heap
 cov:∀b o,H' b=some o→∃o',B.get? b=some o'
section
variable{X:Cx}{pins:List (Addr×Obj)}{σ:L2.St}{H H':Hp}{e t C:Addr}{B:Heap}{s s3:Shared}{ev:Value}{E:Value→Shared→Prop}
end
theorem KZ{P:Program}{w:World}{K:PySem.W.Frag}{mg:Str→Option Value}{base:Heap}{N:List Str}{qual:Str}{scope:Scope}{f:Addr}{cd:Value}{A:Around}{outer:List Env}{s:Shared}{H:Hp}{E:XK}
  {pins:List (Addr×Obj)}{σ:L2.St}{H':Hp}{s3:Shared}{e t C:Addr}{B:Heap}
  (c:Hel (mw (CX1 P w) P w K mg base N qual scope f cd A outer s H E) pins σ H' e t C B s3) (hE:E (.ref C) none H') :
  (mw (CX1 P w) P w K mg base N qual scope f cd A outer s H E).xe (.ref e) s3:=by
 obtain⟨H2,s2,I,hos,U2,cov⟩:=c.org
 have hh:Heap.HeldW B (envOfC qual scope s.heap.objs.size f cd::outer) e (.ref C) (.ref t) s.heap.objs.size s3.heap:=c.held
 have oT:=c.cov
 have hok:=c.hok
 show wpAny _ _ (leaving _ (.ref e)) _ _ _
 unfold leaving
 refine wpAny_bind (wpAny_noteFrame_againW rfl hh.2.2.2 ?_)
 refine wpAny_landsW hh λh'' fl up=>?_
 have U:=I.base
 have nl:∀b o,s.heap.get? b=some o→b∉frs outer→b∉frs (envOfC qual scope s.heap.objs.size f cd::outer):=λb o q nb hb=>by
  rcases List.mem_cons.mp (show b∈s.heap.objs.size::frs outer from hb) with z|z
  ·exact absurd (Heap.lt_size q) (by rw[z];exact Nat.lt_irrefl _)
  ·exact nb z
 have same:∀b o o',s3.heap.get? b=some o→B.get? b=some o'→h''.get? b=some o:=λb o o' q1 q2=>by
  have:=hh.1 b o' q2
  rw[q1] at this
  cases this
  exact fl.1 b o q2
 have slot:∀b o,s3.heap.get? b=some o→b∈frs (envOfC qual scope s.heap.objs.size f cd::outer)→∃sl,h''.get? b=some { o with slots:=sl }:=λb o q hb=>by
  obtain⟨_,o',ho',hnr⟩:=hh.2.2.1.mem hb
  rw[q] at ho'
  cases ho'
  exact up b o q hnr
 obtain⟨k1,k2,⟨_,_,k3⟩,k4⟩:=fl
 refine⟨e,t,C,H',B,rfl,hos.trans I.os,c.bare,⟨λb o q n nb _=>?_,λb o q n hb _=>?_,λb o q n _=>?_,λb o q _=>?_,λb xs q=>U2.mm b xs (U.mm b xs q),λb o u q=>U2.c8 b o u (U.c8 b o u q),λb ps q=>?_⟩,λa o q=>?_,hE,⟨k1,k2,k3,k4⟩,λb o q nb=>?_,oT⟩
 ·have q1:=U.keep b o q n nb (λz=>nomatch z)
  have n1:=U.free b o q n (λz=>nomatch z)
  have nl1:=nl b o q nb
  obtain⟨o',hB⟩:=cov b o q1 nl1
  exact same b o o' (U2.keep b o q1 n1 nl1 (λz=>nomatch z)) hB
 ·obtain⟨sl,e1⟩:=U.slot b o q n hb (λz=>nomatch z)
  have n1:=U.free b o q n (λz=>nomatch z)
  obtain⟨sl2,e2⟩:=U2.slot b _ e1 n1 (List.mem_cons_of_mem _ hb) (λz=>nomatch z)
  obtain⟨sl3,e3⟩:=slot b _ e2 (List.mem_cons_of_mem _ hb)
  exact⟨sl3,e3⟩
 ·have n1:=U.free b o q n (λz=>nomatch z)
  obtain⟨o1,e1⟩:=U.there b o q (λz=>nomatch z)
  exact U2.free b o1 e1 n1 (λz=>nomatch z)
 ·obtain⟨o1,e1⟩:=U.there b o q (λz=>nomatch z)
  obtain⟨o2,e2⟩:=U2.there b o1 e1 (λz=>nomatch z)
  by_cases hb:b∈frs (envOfC qual scope s.heap.objs.size f cd::outer)
  ·obtain⟨sl,e3⟩:=slot b o2 e2 hb
   exact⟨_,e3⟩
  ·obtain⟨o',hB⟩:=cov b o1 e1 hb
   exact⟨o2,same b o2 o' e2 hB⟩
 ·obtain⟨m1,e1⟩:=U.mq b ps q
  obtain⟨m2,e2⟩:=U2.mq b _ e1
  exact⟨m1++m2,by rw[e2,Array.append_assoc]⟩
 ·refine(hok a o q).rA (λc v hc r=>?_) (λ_ r=>r) λ_ _ r=>r
  have hT:∃o1,H' c=some o1:=by
   rcases hc with rfl|hc
   ·exact⟨_,q⟩
   ·exact⟨_,hc⟩
  obtain⟨o1,h1⟩:=hT
  obtain⟨o',hB⟩:=oT c o1 h1
  exact same c v o' r hB
 ·obtain⟨o1,e1⟩:=U.there b o q (λz=>nomatch z)
  exact cov b o1 e1 (nl b o q nb)
end L2
namespace Fw
open PySem
abbrev Key:=Sum Int Str
inductive T where
 | non|bl (b:Bool)|int (i:Int)|str (x:Str)
 | lst (ts:List T)|tup (ts:List T)|dct (kts:List (Key×T))|exc (c:Str) (t:Option Str)|dtt (fz:Bool) (kts:List (List Int×Bool))
inductive SV where
 | val (t:T)|cel (k:Nat)|box (xs:List (Sum T Nat))
abbrev af:=List (Bool×T)
abbrev Slots:=List (Option SV)
inductive R(α:Type) where
 | ok (a:α) (μ:af)|err (c:T) (μ:af)|bad
def R.bind{α β:Type}(x:R α)(f:α→af→R β):R β:=match x with
 | .ok a μ=>f a μ
 | .err c μ=>.err c μ
 | .bad=>.bad
@[simp] theorem R.aL{α β:Type}(a:α)(μ:af)(f:α→af→R β):(R.ok a μ).bind f=f a μ:=(rfl)
def R.lift{α:Type}(o:Option α)(μ:af):R α:=match o with
 | some a=>.ok a μ
 | none=>.bad
@[simp] theorem R.aP{α:Type}(a:α)(μ:af):R.lift (some a) μ=.ok a μ:=(rfl)
theorem R.aS{α β:Type}{x:R α}{f:α→af→R β}{b:β}{μ:af}(h:x.bind f=.ok b μ):∃a μ1,x=.ok a μ1∧f a μ1=.ok b μ:=by
 cases x with
 | ok a μ1=>exact⟨a,μ1,rfl,h⟩
 | err c μ1=>cases h
 | bad=>cases h
theorem R.lQ{α:Type}{o:Option α}{μ μ':af}{a:α}(h:R.lift o μ=.ok a μ'):o=some a∧μ=μ':=by
 cases o with
 | none=>cases h
 | some x=>cases h;exact⟨rfl,rfl⟩
def R.calm{α:Type}:R α→R α
 | .ok a μ=>.ok a μ
 | _=>.bad
@[simp] theorem R.bE{α:Type}(a:α)(μ:af):(R.ok a μ).calm=.ok a μ:=(rfl)
theorem R.calm_eq{α:Type}{r:R α}{a:α}{μ:af}(h:r.calm=.ok a μ):r=.ok a μ:=by
 cases r with
 | ok b ν=>exact h
 | err c ν=>cases h
 | bad=>cases h
abbrev D:=Slots→af→R SV
def szL:Nat:=16777216
def rd(μ:af):SV→Option T
 | .val t=>some t
 | .cel k=>(μ[k]?).map (·.2)
 | .box _=>none
@[simp] theorem fL(μ:af)(t:T):rd μ (.val t)=some t:=(rfl)
def oU(x:Sum T Nat)(μ:af):R T:=match x with
 | .inl t=>.ok t μ
 | .inr k=>match μ[k]? with
  | some (_,t)=>.ok t (μ.set k (false,t))
  | none=>.bad
def gx:List (Sum T Nat)→af→R (List T)
 | [],μ=>.ok [] μ
 | x::xs,μ=>(oU x μ).bind λt μ1=>(gx xs μ1).bind λts μ2=>.ok (t::ts) μ2
def frz(sv:SV)(μ:af):R T:=match sv with
 | .val t=>.ok t μ
 | .cel k=>match μ[k]? with
  | some (_,t)=>.ok t (μ.set k (false,t))
  | none=>.bad
 | .box xs=>(gx xs μ).bind λts μ1=>.ok (.tup ts) μ1
@[simp] theorem mC(μ:af)(t:T):frz (.val t) μ=.ok t μ:=(rfl)
def c8:List SV→af→R (List T)
 | [],μ=>.ok [] μ
 | x::xs,μ=>(frz x μ).bind λt μ1=>(c8 xs μ1).bind λts μ2=>.ok (t::ts) μ2
@[simp] theorem p7(μ:af):c8 [] μ=.ok [] μ:=(rfl)
@[simp] theorem kN(x:SV)(xs:List SV)(μ:af):c8 (x::xs) μ=(frz x μ).bind λt μ1=>(c8 xs μ1).bind λts μ2=>.ok (t::ts) μ2:=(rfl)
theorem G4(x:Sum T Nat)(μ:af)(c:T)(μ':af):oU x μ≠.err c μ':=by
 cases x with
 | inl t=>intro h;cases h
 | inr k =>
  unfold oU
  cases q:μ[k]? with
  | none=>simp[q]
  | some p=>simp[q]
theorem vJ:∀(xs:List (Sum T Nat)) (μ:af) (c:T) (μ':af),gx xs μ≠.err c μ'
 | [],μ,c,μ'=>by intro h;cases h
 | x::xs,μ,c,μ'=>by
  unfold gx
  cases q:oU x μ with
  | err d μ1=>exact absurd q (G4 x μ d μ1)
  | bad=>intro h;cases h
  | ok t μ1 =>
   rw[R.aL]
   cases q2:gx xs μ1 with
   | err d μ2=>exact absurd q2 (vJ xs μ1 d μ2)
   | bad=>intro h;cases h
   | ok ts μ2=>intro h;cases h
theorem nj(x:SV)(μ:af)(c:T)(μ':af):frz x μ≠.err c μ':=by
 cases x with
 | val t=>intro h;cases h
 | cel k =>
  unfold frz
  cases q:μ[k]? with
  | none=>simp[q]
  | some p=>simp[q]
 | box xs =>
  show(gx xs μ).bind _≠_
  cases q:gx xs μ with
  | err d μ1=>exact absurd q (vJ xs μ d μ1)
  | bad=>intro h;cases h
  | ok t μ1=>intro h;cases h
theorem pz:∀(xs:List SV) (μ:af) (c:T) (μ':af),c8 xs μ≠.err c μ'
 | [],μ,c,μ'=>by intro h;cases h
 | x::xs,μ,c,μ'=>by
  rw[kN]
  cases q:frz x μ with
  | err d μ1=>exact absurd q (nj x μ d μ1)
  | bad=>intro h;cases h
  | ok t μ1 =>
   rw[R.aL]
   cases q2:c8 xs μ1 with
   | err d μ2=>exact absurd q2 (pz xs μ1 d μ2)
   | bad=>intro h;cases h
   | ok ts μ2=>intro h;cases h
def slot(e:Slots)(i:Nat):Option SV:=match e[i]? with
 | some (some sv)=>some sv
 | _=>none
@[simp] theorem cq(x:SV)(e:Slots):slot (some x::e) 0=some x:=(rfl)
@[simp] theorem BJ(e:Slots):slot (none::e) 0=none:=(rfl)
@[simp] theorem cu(x:Option SV)(e:Slots)(i:Nat):slot (x::e) (i+1)=slot e i:=(rfl)
def aa(i:Nat):D:=λe μ=>R.lift (slot e i) μ
@[simp] theorem c9(i:Nat)(e:Slots)(μ:af):aa i e μ=R.lift (slot e i) μ:=(rfl)
def dC(t:T):D:=λ_ μ=>.ok (.val t) μ
@[simp] theorem oy(t:T)(e:Slots)(μ:af):dC t e μ=.ok (.val t) μ:=(rfl)
def ap1(f:T→Option T):Option T→Option SV
 | some t=>(f t).map SV.val
 | none=>none
def ap2(f:T→T→Option T):Option T→Option T→Option SV
 | some t,some u=>(f t u).map SV.val
 | _,_=>none
@[simp] theorem j0(f:T→Option T)(t:T):ap1 f (some t)=(f t).map SV.val:=(rfl)
@[simp] theorem j3(f:T→T→Option T)(t u:T):ap2 f (some t) (some u)=(f t u).map SV.val:=(rfl)
theorem lR{f:T→Option T}{o:Option T}{w:SV}(h:ap1 f o=some w):∃t u,o=some t∧f t=some u∧w=.val u:=by
 cases o with
 | none=>cases h
 | some t =>
  obtain⟨u,h1,rfl⟩:=Option.map_eq_some_iff.mp (show(f t).map SV.val=some w from h)
  exact⟨t,u,rfl,h1,rfl⟩
theorem t_{f:T→T→Option T}{o p:Option T}{w:SV}(h:ap2 f o p=some w):∃t u v,o=some t∧p=some u∧f t u=some v∧w=.val v:=by
 cases o with
 | none=>cases p<;>cases h
 | some t =>
  cases p with
  | none=>cases h
  | some u =>
   obtain⟨v,h1,rfl⟩:=Option.map_eq_some_iff.mp (show(f t u).map SV.val=some w from h)
   exact⟨t,u,v,rfl,rfl,h1,rfl⟩
def dUn(f:T→Option T)(a:D):D:=λe μ=>(a e μ).bind λx μ1=>R.lift (ap1 f (rd μ1 x)) μ1
@[simp] theorem nq(f:T→Option T)(a:D)(e:Slots)(μ:af):dUn f a e μ=(a e μ).bind λx μ1=>R.lift (ap1 f (rd μ1 x)) μ1:=(rfl)
def ah(f:T→T→Option T)(a b:D):D:=λe μ=>(a e μ).bind λx μ1=>(b e μ1).bind λy μ2=>R.lift (ap2 f (rd μ2 x) (rd μ2 y)) μ2
@[simp] theorem gf(f:T→T→Option T)(a b:D)(e:Slots)(μ:af):ah f a b e μ=(a e μ).bind λx μ1=>(b e μ1).bind λy μ2=>R.lift (ap2 f (rd μ2 x) (rd μ2 y)) μ2:=(rfl)
def asB:SV→Option Bool
 | .val (.bl b)=>some b
 | _=>none
@[simp] theorem fM(b:Bool):asB (.val (.bl b))=some b:=(rfl)
def ij(a b:D):D:=λe μ=>(a e μ).bind λx μ1=>(R.lift (asB x) μ1).bind λk μ1=>if k=true then b e μ1 else .ok (.val (.bl false)) μ1
def dOr(a b:D):D:=λe μ=>(a e μ).bind λx μ1=>(R.lift (asB x) μ1).bind λk μ1=>if k=true then .ok (.val (.bl true)) μ1 else b e μ1
def p8(a:D):D:=λe μ=>(a e μ).bind λx μ1=>(R.lift (asB x) μ1).bind λk μ1=>.ok (.val (.bl (!k))) μ1
def DF(c a b:D):D:=λe μ=>(c e μ).bind λx μ1=>(R.lift (asB x) μ1).bind λk μ1=>if k=true then a e μ1 else b e μ1
@[simp] theorem G5(a b:D)(e:Slots)(μ:af):ij a b e μ=(a e μ).bind λx μ1=>(R.lift (asB x) μ1).bind λk μ1=>if k=true then b e μ1 else .ok (.val (.bl false)) μ1:=(rfl)
@[simp] theorem K0(a b:D)(e:Slots)(μ:af):dOr a b e μ=(a e μ).bind λx μ1=>(R.lift (asB x) μ1).bind λk μ1=>if k=true then .ok (.val (.bl true)) μ1 else b e μ1:=(rfl)
@[simp] theorem G6(a:D)(e:Slots)(μ:af):p8 a e μ=(a e μ).bind λx μ1=>(R.lift (asB x) μ1).bind λk μ1=>.ok (.val (.bl (!k))) μ1:=(rfl)
@[simp] theorem G7(c a b:D)(e:Slots)(μ:af):DF c a b e μ=(c e μ).bind λx μ1=>(R.lift (asB x) μ1).bind λk μ1=>if k=true then a e μ1 else b e μ1:=(rfl)
def cU:List D→Slots→af→R (List SV)
 | [],_,μ=>.ok [] μ
 | d::ds,e,μ=>(d e μ).bind λx μ1=>(cU ds e μ1).bind λxs μ2=>.ok (x::xs) μ2
@[simp] theorem cX(e:Slots)(μ:af):cU [] e μ=.ok [] μ:=(rfl)
@[simp] theorem bg(d:D)(ds:List D)(e:Slots)(μ:af):cU (d::ds) e μ=(d e μ).bind λx μ1=>(cU ds e μ1).bind λxs μ2=>.ok (x::xs) μ2:=(rfl)
def cV(ds:List D):D:=λe μ=>(cU ds e μ).bind λxs μ1=>(c8 xs μ1).bind λts μ2=>.ok (.val (.tup ts)) μ2
def bD(ds:List D):D:=λe μ=>(cU ds e μ).bind λxs μ1=>(c8 xs μ1).bind λts μ2=>.ok (.val (.lst ts)) μ2
@[simp] theorem G8(ds:List D)(e:Slots)(μ:af):cV ds e μ=(cU ds e μ).bind λxs μ1=>(c8 xs μ1).bind λts μ2=>.ok (.val (.tup ts)) μ2:=(rfl)
@[simp] theorem ub(ds:List D)(e:Slots)(μ:af):bD ds e μ=(cU ds e μ).bind λxs μ1=>(c8 xs μ1).bind λts μ2=>.ok (.val (.lst ts)) μ2:=(rfl)
def lS(f:T→T→Option T)(ds:List D)(b:D):D:=λe μ=>(cU ds e μ).bind λxs μ1=>(c8 xs μ1).bind λts μ2=>(b e μ2).bind λy μ3=>R.lift (ap1 (f (.lst ts)) (rd μ3 y)) μ3
@[simp] theorem G9(f:T→T→Option T)(ds:List D)(b:D)(e:Slots)(μ:af):lS f ds b e μ=(cU ds e μ).bind λxs μ1=>(c8 xs μ1).bind λts μ2=>(b e μ2).bind λy μ3=>R.lift (ap1 (f (.lst ts)) (rd μ3 y)) μ3:=(rfl)
def boxed:List SV→Option (List (Sum T Nat))
 | []=>some []
 | .val t::xs=>(boxed xs).map λys=>.inl t::ys
 | .cel k::xs=>(boxed xs).map λys=>.inr k::ys
 | .box _::_=>none
def fN(ds:List D):D:=λe μ=>(cU ds e μ).bind λxs μ1=>(R.lift (boxed xs) μ1).bind λys μ1=>.ok (.box ys) μ1
@[simp] theorem uc(ds:List D)(e:Slots)(μ:af):fN ds e μ=(cU ds e μ).bind λxs μ1=>(R.lift (boxed xs) μ1).bind λys μ1=>.ok (.box ys) μ1:=(rfl)
def cell(t:T)(μ:af):R SV:=.ok (.cel μ.length) (μ++[(true,t)])
def br(d:D):D:=λe μ=>(d e μ).bind λx μ1=>match x with
 | .val t=>cell t μ1
 | .cel k=>.ok (.cel k) μ1
 | .box xs=>.ok (.box xs) μ1
def toCell(x:SV)(μ:af):R SV:=match x with
 | .val t=>cell t μ
 | .cel k=>.ok (.cel k) μ
 | .box xs=>.ok (.box xs) μ
@[simp] theorem toCell_val(t:T)(μ:af):toCell (.val t) μ=.ok (.cel μ.length) (μ++[(true,t)]):=(rfl)
@[simp] theorem p9(d:D)(e:Slots)(μ:af):br d e μ=(d e μ).bind toCell:=by
 unfold br toCell;rfl
abbrev FN:=List SV→af→R SV
def ak(f:FN)(ds:List D):D:=λe μ=>(cU ds e μ).bind λxs μ1=>f xs μ1
@[simp] theorem fw(f:FN)(ds:List D)(e:Slots)(μ:af):ak f ds e μ=(cU ds e μ).bind λxs μ1=>f xs μ1:=(rfl)
def cal(f:FN):FN:=λxs μ=>(f xs μ).calm
@[simp] theorem j4(f:FN)(xs:List SV)(μ:af):cal f xs μ=(f xs μ).calm:=(rfl)
def ixN(n:Nat)(i:Int):Option Nat:=if 0≤i then (if i<n then some i.toNat else none) else if -(n:Int)≤i then some (i+n).toNat else none
def atI{α:Type}(xs:List α)(i:Int):Option α:=(ixN xs.length i).bind λj=>xs[j]?
def sIx(n d:Nat):Option Int→Nat
 | none=>d
 | some v=>if v<0 then (v+(n:Int)).toNat else min v.toNat n
def aO:T→T→Option T
 | .int i,.int j=>some (.int (i+j))
 | .str x,.str y=>if x.length+y.length≤szL then some (.str (x++y)) else none
 | .tup xs,.tup ys=>if xs.length+ys.length≤szL then some (.tup (xs++ys)) else none
 | .lst xs,.lst ys=>if xs.length+ys.length≤szL then some (.lst (xs++ys)) else none
 | _,_=>none
theorem p_(xs ys:List T)(h:xs.length+ys.length≤szL):aO (.tup xs) (.tup ys)=some (.tup (xs++ys)):=if_pos h
theorem gy(xs ys:List T)(h:xs.length+ys.length≤szL):aO (.lst xs) (.lst ys)=some (.lst (xs++ys)):=if_pos h
@[simp] theorem vK(i j:Int):aO (.int i) (.int j)=some (.int (i+j)):=(rfl)
def j5:T→T→Option T
 | .lst xs,.int k=>if -(2 ^ 63)≤k∧k<2 ^ 63∧xs.length*k.toNat≤szL then some (.lst (List.replicate k.toNat xs).flatten) else none
 | _,_=>none
def oV:T→T→Option T
 | .int i,.int j=>some (.int (i-j))
 | _,_=>none
@[simp] theorem DG(i j:Int):oV (.int i) (.int j)=some (.int (i-j)):=(rfl)
def K1:T→T→Option T
 | .int i,.int j=>if (-(2 ^ 64)<i∧i<2 ^ 64)∨(-(2 ^ 64)<j∧j<2 ^ 64) then some (.int (i*j)) else none
 | _,_=>none
def bJ(t u:T):Option T:=K1 t u
theorem K2(i j:Int)(h1:-18446744073709551616<i)(h2:i<18446744073709551616):K1 (.int i) (.int j)=some (.int (i*j)):=if_pos (.inl ⟨h1,h2⟩)
theorem K3(i j:Int)(h1:-18446744073709551616<j)(h2:j<18446744073709551616):K1 (.int i) (.int j)=some (.int (i*j)):=if_pos (.inr ⟨h1,h2⟩)
@[simp] theorem kO(i j:Int)(h1:-18446744073709551616<i)(h2:i<18446744073709551616):bJ (.int i) (.int j)=some (.int (i*j)):=K2 i j h1 h2
@[simp] theorem ud(i j:Int)(h1:-18446744073709551616<j)(h2:j<18446744073709551616):bJ (.int i) (.int j)=some (.int (i*j)):=K3 i j h1 h2
def a8:T→T→Option T
 | .int i,.int j=>if 0<j then some (.int (i%j)) else none
 | _,_=>none
@[simp] theorem j6(i j:Int)(h:0<j):a8 (.int i) (.int j)=some (.int (i%j)):=if_pos h
def gO:T→T→Option T
 | .int i,.int j=>if 0<j∧j<1073741824 then some (.int (i / j)) else none
 | _,_=>none
@[simp] theorem DH(i j:Int)(h:0<j)(h2:j<1073741824):gO (.int i) (.int j)=some (.int (i / j)):=if_pos ⟨h,h2⟩
def DJ:T→Option T
 | .int i=>some (.int (-i))
 | _=>none
@[simp] theorem DK(i:Int):DJ (.int i)=some (.int (-i)):=(rfl)
def fLt:T→T→Option T
 | .int i,.int j=>some (.bl (decide (i<j)))
 | _,_=>none
def fLe:T→T→Option T
 | .int i,.int j=>some (.bl (decide (i≤j)))
 | _,_=>none
def fGt:T→T→Option T
 | .int i,.int j=>some (.bl (decide (j<i)))
 | _,_=>none
def fGe:T→T→Option T
 | .int i,.int j=>some (.bl (decide (j≤i)))
 | _,_=>none
@[simp] theorem G_(i j:Int):fLt (.int i) (.int j)=some (.bl (decide (i<j))):=(rfl)
@[simp] theorem Ha(i j:Int):fLe (.int i) (.int j)=some (.bl (decide (i≤j))):=(rfl)
@[simp] theorem Hb(i j:Int):fGt (.int i) (.int j)=some (.bl (decide (j<i))):=(rfl)
@[simp] theorem Hd(i j:Int):fGe (.int i) (.int j)=some (.bl (decide (j≤i))):=(rfl)
mutual
def eqT:T→T→Bool
 | .non,.non=>true
 | .bl a,.bl b=>a==b
 | .bl a,.int b=>(if a then 1 else 0)==b
 | .int a,.bl b=>a==(if b then 1 else 0)
 | .int a,.int b=>a==b
 | .str a,.str b=>a==b
 | .lst a,.lst b=>ip a b
 | .tup a,.tup b=>ip a b
 | _,_=>false
def ip:List T→List T→Bool
 | [],[]=>true
 | a::as,b::bs=>eqT a b && ip as bs
 | [],_::_=>false
 | _::_,[]=>false
end
mutual
def okT:Nat→T→Bool
 | _,.non=>true
 | _,.bl _=>true
 | _,.int _=>true
 | _,.str x=>x.cps.all (·<1114112)
 | 0,.lst _=>false
 | n+1,.lst ts=>eS n ts
 | 0,.tup _=>false
 | n+1,.tup ts=>eS n ts
 | _,.dct _=>false
 | _,.exc _ _=>false
 | _,.dtt _ _=>false
def eS:Nat→List T→Bool
 | _,[]=>true
 | n,t::ts=>okT n t && eS n ts
end
def fEq(t u:T):Option T:=match t,u with
 | .str a,.str b=>some (.bl (a==b))
 | t,u=>if okT 100 t=true∧okT 100 u=true then some (.bl (eqT t u)) else none
def fNe(t u:T):Option T:=match t,u with
 | .str a,.str b=>some (.bl (!(a==b)))
 | t,u=>if okT 100 t=true∧okT 100 u=true then some (.bl (!eqT t u)) else none
@[simp] theorem zR(n:Nat)(i:Int):okT n (.int i)=true:=by unfold okT;rfl
@[simp] theorem Ph(n:Nat)(i:Bool):okT n (.bl i)=true:=by unfold okT;rfl
@[simp] theorem OH(n:Nat):okT n .non=true:=by unfold okT;rfl
@[simp] theorem gR(n:Nat)(ts:List T):okT (n+1) (.lst ts)=eS n ts:=by rw[okT]
@[simp] theorem zS(n:Nat)(ts:List T):okT (n+1) (.tup ts)=eS n ts:=by rw[okT]
@[simp] theorem mD(n:Nat):eS n []=true:=by rw[eS]
@[simp] theorem iL(n:Nat)(t:T)(ts:List T):eS n (t::ts)=(okT n t && eS n ts):=by rw[eS]
theorem qa(n:Nat):∀ts:List T,eS n ts=true↔∀t∈ts,okT n t=true
 | []=>by simp
 | t::ts=>by simp[qa n ts]
@[simp] theorem sh(n:Nat)(ns:List Int):eS n (ns.map T.int)=true:=by
 rw[qa]
 intro t ht
 obtain⟨i,_,rfl⟩:=List.mem_map.mp ht
 simp
@[simp] theorem zT(i j:Int):eqT (.int i) (.int j)=(i==j):=by rw[eqT]
@[simp] theorem OI(i j:Str):eqT (.str i) (.str j)=(i==j):=by rw[eqT]
@[simp] theorem Pj(i j:Bool):eqT (.bl i) (.bl j)=(i==j):=by rw[eqT]
@[simp] theorem OJ:eqT .non .non=true:=by rw[eqT]
@[simp] theorem He(i j:List T):eqT (.lst i) (.lst j)=ip i j:=by rw[eqT]
@[simp] theorem Hf(i j:List T):eqT (.tup i) (.tup j)=ip i j:=by rw[eqT]
@[simp] theorem Nu:ip [] []=true:=by rw[ip]
@[simp] theorem Mu(a b:T)(as bs:List T):ip (a::as) (b::bs)=(eqT a b && ip as bs):=by rw[ip]
@[simp] theorem OK(b:T)(bs:List T):ip [] (b::bs)=false:=by rw[ip]
@[simp] theorem OL(b:T)(bs:List T):ip (b::bs) []=false:=by rw[ip]
mutual
theorem j7:∀(n:Nat) (t:T),okT n t=true→eqT t t=true
 | n,.non,_=>by simp
 | n,.bl b,_=>by simp
 | n,.int i,_=>by simp
 | n,.str x,_=>by simp
 | 0,.lst ts,h=>by rw[okT] at h;cases h
 | n+1,.lst ts,h=>by simp only[He];exact nr n ts (by simpa using h)
 | 0,.tup ts,h=>by rw[okT] at h;cases h
 | n+1,.tup ts,h=>by simp only[Hf];exact nr n ts (by simpa using h)
 | n,.dct _,h=>by unfold okT at h;cases h
 | n,.exc _ _,h=>by unfold okT at h;cases h
 | n,.dtt _ _,h=>by unfold okT at h;cases h
theorem nr:∀(n:Nat) (ts:List T),eS n ts=true→ip ts ts=true
 | n,[],_=>by simp
 | n,t::ts,h=>by
  simp only[iL,Bool.and_eq_true] at h
  simp[j7 n t h.1,nr n ts h.2]
end
theorem nv:∀(xs ys:List Int),ip (xs.map T.int) (ys.map T.int)=(xs==ys)
 | [],[]=>by simp
 | [],y::ys=>by simp
 | x::xs,[]=>by simp
 | x::xs,y::ys=>by simp[nv xs ys]
theorem qb{t u:T}(h1:okT 100 t=true)(h2:okT 100 u=true):fEq t u=some (.bl (eqT t u)):=by
 unfold fEq
 split
 ·simp
 ·rw[if_pos ⟨h1,h2⟩]
theorem ue{t u:T}(h1:okT 100 t=true)(h2:okT 100 u=true):fNe t u=some (.bl (!eqT t u)):=by
 unfold fNe
 split
 ·simp
 ·rw[if_pos ⟨h1,h2⟩]
@[simp] theorem Hg(i j:Int):fEq (.int i) (.int j)=some (.bl (i==j)):=by rw[qb (by simp) (by simp)];simp
@[simp] theorem zU(i j:Int):fNe (.int i) (.int j)=some (.bl (!(i==j))):=by rw[ue (by simp) (by simp)];simp
@[simp] theorem Hh(i j:Str):fEq (.str i) (.str j)=some (.bl (i==j)):=(rfl)
@[simp] theorem Hi(i j:Str):fNe (.str i) (.str j)=some (.bl (!(i==j))):=(rfl)
@[simp] theorem mE(xs ys:List Int):fEq (.lst (xs.map T.int)) (.lst (ys.map T.int))=some (.bl (xs==ys)):=by rw[qb (by simp) (by simp)];simp[nv]
@[simp] theorem vL(xs ys:List Int):fNe (.lst (xs.map T.int)) (.lst (ys.map T.int))=some (.bl (!(xs==ys))):=by rw[ue (by simp) (by simp)];simp[nv]
def jO:T→Option T
 | .non=>some (.bl true)
 | _=>some (.bl false)
def K4:T→T→Option T
 | .lst xs,.int i=>atI xs i
 | .tup xs,.int i=>atI xs i
 | .str x,.int i=>if x.length≤szL then (atI x.cps.toList i).map λc=>.str ⟨#[c]⟩ else none
 | _,_=>none
def pick:Sum T Nat→SV
 | .inl t=>.val t
 | .inr k=>.cel k
def iM(μ:af)(x:SV)(u:T):Option SV:=match x,u with
 | .box xs,.int i=>(atI xs i).map pick
 | .box _,_=>none
 | x,u=>ap1 (λt=>K4 t u) (rd μ x)
def ax(a b:D):D:=λe μ=>(a e μ).bind λx μ1=>(b e μ1).bind λy μ2=>R.lift ((rd μ2 y).bind λu=>iM μ2 x u) μ2
@[simp] theorem i_(a b:D)(e:Slots)(μ:af):ax a b e μ=(a e μ).bind λx μ1=>(b e μ1).bind λy μ2=>R.lift ((rd μ2 y).bind λu=>iM μ2 x u) μ2:=(rfl)
@[simp] theorem j8(μ:af)(xs:List T)(i:Int):iM μ (.val (.lst xs)) (.int i)=(atI xs i).map SV.val:=(rfl)
@[simp] theorem mF(μ:af)(xs:List T)(i:Int):iM μ (.val (.tup xs)) (.int i)=(atI xs i).map SV.val:=(rfl)
@[simp] theorem DL(μ:af)(xs:List (Sum T Nat))(i:Int):iM μ (.box xs) (.int i)=(atI xs i).map pick:=(rfl)
@[simp] theorem qc(μ:af)(k:Nat)(u:T):iM μ (.cel k) u=ap1 (λt=>K4 t u) (rd μ (.cel k)):=(rfl)
def K5:T→Option T
 | .lst xs=>some (.int xs.length)
 | .tup xs=>some (.int xs.length)
 | .str x=>if x.length≤szL then some (.int x.length) else none
 | .dct kts=>some (.int kts.length)
 | _=>none
def ny(μ:af):SV→Option T
 | .box xs=>some (.int xs.length)
 | x=>(rd μ x).bind K5
def gz(a:D):D:=λe μ=>(a e μ).bind λx μ1=>R.lift ((ny μ1 x).map SV.val) μ1
@[simp] theorem zV(a:D)(e:Slots)(μ:af):gz a e μ=(a e μ).bind λx μ1=>R.lift ((ny μ1 x).map SV.val) μ1:=(rfl)
@[simp] theorem DM(μ:af)(xs:List T):ny μ (.val (.lst xs))=some (.int xs.length):=(rfl)
@[simp] theorem DN(μ:af)(xs:List T):ny μ (.val (.tup xs))=some (.int xs.length):=(rfl)
@[simp] theorem vM(μ:af)(k:Nat):ny μ (.cel k)=(rd μ (.cel k)).bind K5:=(rfl)
inductive Kd where
 | int|bool|str|list|tuple|dict
def bh:T→Option T
 | .lst xs=>some (.tup xs)
 | .tup xs=>some (.tup xs)
 | _=>none
@[simp] theorem gA(xs:List T):bh (.lst xs)=some (.tup xs):=(rfl)
@[simp] theorem xP(xs:List T):bh (.tup xs)=some (.tup xs):=(rfl)
def iN:T→Option T
 | .lst xs=>some (.lst xs)
 | .tup xs=>some (.lst xs)
 | _=>none
def vN:Key→T
 | .inl i=>.int i
 | .inr x=>.str x
def vO:T→Option T
 | .dct kts=>some (.lst (kts.map λp=>vN p.1))
 | _=>none
@[simp] theorem BK(xs:List T):iN (.lst xs)=some (.lst xs):=(rfl)
def xQ{α:Type}(xs:List α)(lo hi:Option Int):List α:=(xs.drop (sIx xs.length 0 lo)).take (sIx xs.length xs.length hi-sIx xs.length 0 lo)
def j9:T→Option Int
 | .int i=>some i
 | _=>none
@[simp] theorem nz(i:Int):j9 (.int i)=some i:=(rfl)
def cM:List T→Option (List Int)
 | []=>some []
 | t::ts=>(j9 t).bind λi=>(cM ts).map λis=>i::is
theorem gB(ns:List Int):cM (ns.map T.int)=some ns:=by
 induction ns with
 | nil=>rfl
 | cons n ns ih=>simp[cM,ih]
def vP:T→Option T
 | .lst xs=>(cM xs).map λis=>.int is.sum
 | _=>none
@[simp] theorem BL(ns:List Int):vP (.lst (ns.map T.int))=some (.int ns.sum):=by simp[vP,gB]
def mG:List T→Option (List Bool)
 | []=>some []
 | .bl b::ts=>(mG ts).map λbs=>b::bs
 | _::_=>none
theorem si(bs:List Bool):mG (bs.map T.bl)=some bs:=by
 induction bs with
 | nil=>rfl
 | cons n ns ih=>simp[mG,ih]
def BM:T→Option T
 | .lst xs=>(mG xs).map λbs=>.bl (bs.all id)
 | _=>none
def rF:T→Option T
 | .lst xs=>(mG xs).map λbs=>.bl (bs.any id)
 | _=>none
@[simp] theorem DO(bs:List Bool):BM (.lst (bs.map T.bl))=some (.bl (bs.all id)):=by simp[BM,si]
@[simp] theorem DP(bs:List Bool):rF (.lst (bs.map T.bl))=some (.bl (bs.any id)):=by simp[rF,si]
def gC:T→Option T
 | .non=>some (.bl false)
 | _=>some (.bl true)
@[simp] theorem Mv:jO .non=some (.bl true):=(rfl)
@[simp] theorem BN(i:Int):jO (.int i)=some (.bl false):=(rfl)
@[simp] theorem xR:gC .non=some (.bl false):=(rfl)
@[simp] theorem xS(i:Int):gC (.int i)=some (.bl true):=(rfl)
def Hj(t:T)(lo hi:Option Int):Option T:=match t with
 | .lst xs=>some (.lst (xQ xs lo hi))
 | .tup xs=>if sIx xs.length 0 lo=0∧sIx xs.length xs.length hi=xs.length then none else some (.tup (xQ xs lo hi))
 | _=>none
def xT(o:Option D)(e:Slots)(μ:af):R (Option Int):=match o with
 | none=>.ok none μ
 | some d=>(d e μ).bind λx μ1=>(R.lift ((rd μ1 x).bind j9) μ1).bind λi μ1=>.ok (some i) μ1
@[simp] theorem sj(e:Slots)(μ:af):xT none e μ=.ok none μ:=(rfl)
@[simp] theorem sk(d:D)(e:Slots)(μ:af):xT (some d) e μ=(d e μ).bind λx μ1=>(R.lift ((rd μ1 x).bind j9) μ1).bind λi μ1=>.ok (some i) μ1:=(rfl)
def uf(a:D)(lo hi:Option D):D:=λe μ=>(a e μ).bind λx μ1=>(xT lo e μ1).bind λl μ2=>(xT hi e μ2).bind λh μ3=>R.lift (ap1 (λt=>Hj t l h) (rd μ3 x)) μ3
@[simp] theorem zW(a:D)(lo hi:Option D)(e:Slots)(μ:af):uf a lo hi e μ=(a e μ).bind λx μ1=>(xT lo e μ1).bind λl μ2=>(xT hi e μ2).bind λh μ3=>R.lift (ap1 (λt=>Hj t l h) (rd μ3 x)) μ3:=(rfl)
inductive RS where
 | nx (e:Slots) (μ:af)|rt (x:SV) (μ:af)|bk (e:Slots) (μ:af)|ct (e:Slots) (μ:af)|err (c:T) (e:Slots) (μ:af)|bad
abbrev DS:=Slots→af→RS
def R.toS{α:Type}(x:R α)(e:Slots)(f:α→af→RS):RS:=match x with
 | .ok a μ=>f a μ
 | .err c μ=>.err c e μ
 | .bad=>.bad
@[simp] theorem R.toS_ok{α:Type}(a:α)(e:Slots)(μ:af)(f:α→af→RS):(R.ok a μ).toS e f=f a μ:=(rfl)
@[simp] theorem R.toS_err{α:Type}(c:T)(e:Slots)(μ:af)(f:α→af→RS):(R.err c μ:R α).toS e f=.err c e μ:=(rfl)
def RS.seq(r:RS)(f:Slots→af→RS):RS:=match r with
 | .nx e μ=>f e μ
 | r=>r
@[simp] theorem RS.iq(e:Slots)(μ:af)(f:Slots→af→RS):(RS.nx e μ).seq f=f e μ:=(rfl)
@[simp] theorem RS.K6(x:SV)(μ:af)(f:Slots→af→RS):(RS.rt x μ).seq f=.rt x μ:=(rfl)
def bA:DS:=λe μ=>.nx e μ
def ar(a b:DS):DS:=λe μ=>(a e μ).seq b
def Nv(d:D):DS:=λe μ=>(d e μ).toS e λ_ μ1=>.nx e μ1
def ay(i:Nat)(d:D):DS:=λe μ=>(d e μ).toS e λx μ1=>.nx (e.set i (some x)) μ1
def aA(d:D):DS:=λe μ=>(d e μ).toS e λx μ1=>.rt x μ1
def sIf(c:D)(a b:DS):DS:=λe μ=>(c e μ).toS e λx μ1=>(R.lift (asB x) μ1).toS e λk μ1=>if k=true then a e μ1 else b e μ1
def ug:DS:=λ_ _=>.bad
@[simp] theorem Hk(e:Slots)(μ:af):bA e μ=.nx e μ:=(rfl)
@[simp] theorem gS(a b:DS)(e:Slots)(μ:af):ar a b e μ=(a e μ).seq b:=(rfl)
@[simp] theorem DQ(d:D)(e:Slots)(μ:af):Nv d e μ=(d e μ).toS e λ_ μ1=>.nx e μ1:=(rfl)
@[simp] theorem ja(i:Nat)(d:D)(e:Slots)(μ:af):ay i d e μ=(d e μ).toS e λx μ1=>.nx (e.set i (some x)) μ1:=(rfl)
@[simp] theorem uh(d:D)(e:Slots)(μ:af):aA d e μ=(d e μ).toS e λx μ1=>.rt x μ1:=(rfl)
@[simp] theorem xU(c:D)(a b:DS)(e:Slots)(μ:af):sIf c a b e μ=(c e μ).toS e λx μ1=>(R.lift (asB x) μ1).toS e λk μ1=>if k=true then a e μ1 else b e μ1:=(rfl)
def appendAt(x:SV)(t:T)(μ:af):Option af:=match x with
 | .cel k=>match μ[k]? with
  | some (true,.lst ts)=>if ts.length<szL then some (μ.set k (true,.lst (ts++[t]))) else none
  | _=>none
 | _=>none
def nA(x:SV)(μ:af):Option Unit:=match x with
 | .cel k=>match μ[k]? with
  | some (_,.lst _)=>some ()
  | _=>none
 | _=>none
theorem zX{μ:af}{k:Nat}{b:Bool}{ts:List T}(h:μ[k]?=some (b,.lst ts)):nA (.cel k) μ=some ():=by unfold nA;simp only[h]
def cf(o d:D):DS:=λe μ=>(o e μ).toS e λx μ0=>(R.lift (nA x μ0) μ0).toS e λ_ μ0=>(d e μ0).toS e λy μ1=>(frz y μ1).toS e λt μ2=>(R.lift (appendAt x t μ2) μ2).toS e λμ3 _=>.nx e μ3
@[simp] theorem qd(o d:D)(e:Slots)(μ:af):cf o d e μ=(o e μ).toS e λx μ0=>(R.lift (nA x μ0) μ0).toS e λ_ μ0=>(d e μ0).toS e λy μ1=>(frz y μ1).toS e λt μ2=>(R.lift (appendAt x t μ2) μ2).toS e λμ3 _=>.nx e μ3:=(rfl)
def setAt(x:SV)(k:T)(t:T)(μ:af):Option af:=match x,k with
 | .cel c,.int i=>match μ[c]? with
  | some (true,.lst ts)=>(ixN ts.length i).map λj=>μ.set c (true,.lst (ts.set j t))
  | _=>none
 | _,_=>none
def bP(i:Nat)(dk dv:D):DS:=λe μ=>(dv e μ).toS e λy μ1=>(R.lift (slot e i) μ1).toS e λx μ1=>(dk e μ1).toS e λz μ2=>(R.lift (rd μ2 z) μ2).toS e λk μ2 =>
 (frz y μ2).toS e λt μ3=>(R.lift (setAt x k t μ3) μ3).toS e λμ4 _=>.nx e μ4
@[simp] theorem oA(i:Nat)(dk dv:D)(e:Slots)(μ:af):bP i dk dv e μ=(dv e μ).toS e λy μ1=>(R.lift (slot e i) μ1).toS e λx μ1=>(dk e μ1).toS e λz μ2=>(R.lift (rd μ2 z) μ2).toS e λk μ2 =>
 (frz y μ2).toS e λt μ3=>(R.lift (setAt x k t μ3) μ3).toS e λμ4 _=>.nx e μ4:=(rfl)
structure Wk where
 items:List T
 same:af→Prop
abbrev DI:=Slots→af→R Wk
def bu:T→Option (List T)
 | .lst ts=>some ts
 | .tup ts=>some ts
 | _=>none
@[simp] theorem eE(ts:List T):bu (.lst ts)=some ts:=(rfl)
@[simp] theorem jb(ts:List T):bu (.tup ts)=some ts:=(rfl)
def aY(d:D):DI:=λe μ=>(d e μ).bind λx μ1=>(R.lift ((rd μ1 x).bind bu) μ1).bind λts μ1=>.ok ⟨ts,λμ'=>rd μ' x=rd μ1 x⟩ μ1
@[simp] theorem ui(d:D)(e:Slots)(μ:af):aY d e μ=(d e μ).bind λx μ1=>(R.lift ((rd μ1 x).bind bu) μ1).bind λts μ1=>.ok ⟨ts,λμ'=>rd μ' x=rd μ1 x⟩ μ1:=(rfl)
def bL(lo:Int):Nat→List T
 | 0=>[]
 | n+1=>.int lo::bL (lo+1) n
def c_(j:Int):Bool:=decide (-(2 ^ 62)≤j) && decide (j<2 ^ 62)
@[simp] theorem dN{j:Int}(h0:0≤j)(h1:j≤1000000):c_ j=true:=by
 unfold c_
 rw[decide_eq_true (by lia),decide_eq_true (by lia)];rfl
theorem iO{j:Int}(h:c_ j=true):-(2 ^ 62)≤j∧j<2 ^ 62:=by
 unfold c_ at h
 simp only[Bool.and_eq_true,decide_eq_true_eq] at h
 exact h
def aQ(d:D):DI:=λe μ=>(d e μ).bind λx μ1=>(R.lift ((rd μ1 x).bind j9) μ1).bind λj μ1=>if c_ j=true then .ok ⟨bL 0 j.toNat,λ_=>True⟩ μ1 else .bad
def pA(d d':D):DI:=λe μ=>(d e μ).bind λx μ1=>(d' e μ1).bind λy μ2=>(R.lift ((rd μ2 x).bind j9) μ2).bind λi μ2=>(R.lift ((rd μ2 y).bind j9) μ2).bind λj μ2 =>
 if (c_ i && c_ j)=true then .ok ⟨bL i (j-i).toNat,λ_=>True⟩ μ2 else .bad
@[simp] theorem qe(d:D)(e:Slots)(μ:af):aQ d e μ=(d e μ).bind λx μ1=>(R.lift ((rd μ1 x).bind j9) μ1).bind λj μ1=>if c_ j=true then .ok ⟨bL 0 j.toNat,λ_=>True⟩ μ1 else .bad:=(rfl)
@[simp] theorem xV(d d':D)(e:Slots)(μ:af):pA d d' e μ=(d e μ).bind λx μ1=>(d' e μ1).bind λy μ2=>(R.lift ((rd μ2 x).bind j9) μ2).bind λi μ2=>(R.lift ((rd μ2 y).bind j9) μ2).bind λj μ2 =>
 if (c_ i && c_ j)=true then .ok ⟨bL i (j-i).toNat,λ_=>True⟩ μ2 else .bad:=(rfl)
def gP:List T→List T→List T
 | t::ts,u::us=>.tup [t,u]::gP ts us
 | _,_=>[]
def uj(d d':D):DI:=λe μ=>(d e μ).bind λx μ1=>(d' e μ1).bind λy μ2=>(R.lift ((rd μ2 x).bind bu) μ2).bind λts μ2=>(R.lift ((rd μ2 y).bind bu) μ2).bind λus μ2 =>
 .ok ⟨gP ts us,λμ'=>rd μ' x=rd μ2 x∧rd μ' y=rd μ2 y⟩ μ2
@[simp] theorem Hl(d d':D)(e:Slots)(μ:af):uj d d' e μ=(d e μ).bind λx μ1=>(d' e μ1).bind λy μ2=>(R.lift ((rd μ2 x).bind bu) μ2).bind λts μ2=>(R.lift ((rd μ2 y).bind bu) μ2).bind λus μ2 =>
 .ok ⟨gP ts us,λμ'=>rd μ' x=rd μ2 x∧rd μ' y=rd μ2 y⟩ μ2:=(rfl)
abbrev BD:=T→Slots→Option Slots
def aw(i:Nat):BD:=λt e=>some (e.set i (some (.val t)))
def dg(is:List Nat):BD:=λt e=>match t with
 | .tup ts=>if ts.length=is.length then some ((is.zip ts).foldl (λe p=>e.set p.1 (some (.val p.2))) e) else none
 | _=>none
@[simp] theorem j_(i:Nat)(t:T)(e:Slots):aw i t e=some (e.set i (some (.val t))):=(rfl)
@[simp] theorem eh(i j:Nat)(t u:T)(e:Slots):dg [i,j] (.tup [t,u]) e=some ((e.set i (some (.val t))).set j (some (.val u))):=(rfl)
open Classical in
def forL(same:af→Prop)(b:BD)(body:DS):List T→Slots→af→RS
 | [],e,μ=>if same μ then .nx e μ else .bad
 | t::ts,e,μ=>if same μ then
   match b t e with
   | none=>.bad
   | some e1=>match body e1 μ with
    | .nx e2 μ2=>forL same b body ts e2 μ2
    | .ct e2 μ2=>forL same b body ts e2 μ2
    | .bk e2 μ2=>.nx e2 μ2
    | r=>r
  else .bad
def bY(it:DI)(b:BD)(body:DS):DS:=λe μ=>(it e μ).toS e λW μ1=>forL W.same b body W.items e μ1
@[simp] theorem kP(it:DI)(b:BD)(body:DS)(e:Slots)(μ:af):bY it b body e μ=(it e μ).toS e λW μ1=>forL W.same b body W.items e μ1:=(rfl)
def cA(c:D)(body:DS):Nat→Slots→af→RS
 | 0,_,_=>.bad
 | n+1,e,μ=>(c e μ).toS e λx μ1=>(R.lift (asB x) μ1).toS e λk μ1=>if k=true then
   match body e μ1 with
   | .nx e2 μ2=>cA c body n e2 μ2
   | .ct e2 μ2=>cA c body n e2 μ2
   | .bk e2 μ2=>.nx e2 μ2
   | r=>r
  else .nx e μ1
open Classical in
def ka(c:D)(body:DS):DS:=λe μ=>if h:∃n,cA c body n e μ≠.bad then cA c body h.choose e μ else .bad
open Classical in
def bM(same:af→Prop)(b:BD)(c:D)(d:D)(e:Slots):List T→af→R (List T)
 | [],μ=>if same μ then .ok [] μ else .bad
 | t::ts,μ=>if same μ then
   match b t e with
   | none=>.bad
   | some e1=>(c e1 μ).calm.bind λx μ1=>(R.lift (asB x) μ1).bind λk μ1 =>
    if k=true then (d e1 μ1).calm.bind λy μ2=>(frz y μ2).bind λu μ3=>(bM same b c d e ts μ3).bind λus μ4=>.ok (u::us) μ4
    else bM same b c d e ts μ1
  else .bad
def ini(mp:List (Option Nat))(e:Slots):Slots:=mp.map λo=>o.bind λj=>slot e j
def aF(it:DI)(mp:List (Option Nat))(b:BD)(c:D)(d:D):D:=λe μ=>(it e μ).bind λW μ1=>(bM W.same b c d (ini mp e) W.items μ1).calm.bind λus μ2 =>
 if W.items.length≤szL then .ok (.val (.lst us)) μ2 else .bad
@[simp] theorem DR(it:DI)(mp:List (Option Nat))(b:BD)(c:D)(d:D)(e:Slots)(μ:af):aF it mp b c d e μ=(it e μ).bind λW μ1=>(bM W.same b c d (ini mp e) W.items μ1).calm.bind λus μ2 =>
 if W.items.length≤szL then .ok (.val (.lst us)) μ2 else .bad:=(rfl)
@[simp] theorem Hm(e:Slots):ini [] e=[]:=(rfl)
@[simp] theorem DT(mp:List (Option Nat))(e:Slots):ini (none::mp) e=none::ini mp e:=(rfl)
@[simp] theorem DU(j:Nat)(mp:List (Option Nat))(e:Slots):ini (some j::mp) e=slot e j::ini mp e:=(rfl)
def gc(n:Nat)(x:SV)(μ:af):R SV:=match x with
 | .val t=>.ok (.val t) (μ.take n)
 | .cel k=>if k<n then .ok (.cel k) (μ.take n) else match μ[k]? with
  | some c=>.ok (.cel n) (μ.take n++[c])
  | none=>.bad
 | .box _=>.bad
def starts(m:Nat)(xs:List SV):Slots:=xs.map some++List.replicate (m-xs.length) none
def RS.K7(n:Nat):RS→R SV
 | .rt x μ'=>gc n x μ'
 | .nx _ μ'=>gc n (.val .non) μ'
 | .err c _ μ'=>.err c (μ'.take n)
 | _=>.bad
def fnD(m:Nat)(body:DS):FN:=λxs μ=>(body (starts m xs) μ).K7 μ.length
def ice(n:Nat)(x:SV)(μ:af):R SV:=(frz x μ).bind λt μ1=>.ok (.val t) (μ1.take n)
def RS.qf(n:Nat):RS→R SV
 | .rt x μ'=>ice n x μ'
 | .nx _ μ'=>ice n (.val .non) μ'
 | .err c _ μ'=>.err c (μ'.take n)
 | _=>.bad
def fnV(m:Nat)(body:DS):FN:=λxs μ=>(body (starts m xs) μ).qf μ.length
def RS.lT:RS→R SV
 | .rt x μ'=>.ok x μ'
 | .nx _ μ'=>.ok (.val .non) μ'
 | .err c _ μ'=>.err c μ'
 | _=>.bad
def fnK(m:Nat)(body:DS):FN:=λxs μ=>(body (starts m xs) μ).lT
@[simp] theorem pB(n:Nat)(x:SV)(μ:af):(RS.rt x μ).qf n=ice n x μ:=(rfl)
@[simp] theorem Hn(n:Nat)(x:SV)(μ:af):(RS.rt x μ).K7 n=gc n x μ:=(rfl)
@[simp] theorem uk(x:SV)(μ:af):(RS.rt x μ).lT=.ok x μ:=(rfl)
@[simp] theorem eF(m:Nat)(body:DS)(xs:List SV)(μ:af):fnV m body xs μ=(body (starts m xs) μ).qf μ.length:=(rfl)
@[simp] theorem lU(m:Nat)(body:DS)(xs:List SV)(μ:af):fnD m body xs μ=(body (starts m xs) μ).K7 μ.length:=(rfl)
@[simp] theorem jc(m:Nat)(body:DS)(xs:List SV)(μ:af):fnK m body xs μ=(body (starts m xs) μ).lT:=(rfl)
end Fw
namespace Fw
open PySem L2
def ExcAt(K:PySem.W.Frag)(a:Addr)(c:Str)(t:Option Str)(h:Heap):Prop:=∃C,PySem.W.nsIn K mainGlobals c=some (some (.ref C))∧KY a C h
def kvT(kts:List (List Int×Bool)):List (List Key×V):=kts.map λp=>(p.1.map Sum.inl,V.bl p.2)
section
variable(K:PySem.W.Frag)(F:Hp)
mutual
def Rep:T→V→Prop
 | .non,v=>v=.non
 | .bl b,v=>v=.bl b
 | .int i,v=>v=.int i
 | .str x,v=>v=.str x
 | .lst ts,v=>∃a vs,v=.ref a∧SqL K F a vs∧aD ts vs
 | .tup ts,v=>∃a vs,v=.ref a∧SqT K F a vs∧aD ts vs
 | .dct kts,v=>∃a kvs,v=.ref a∧F a=some (.dK kvs)∧bj kts kvs
 | .exc c t,v=>∃a,v=.ref a∧F a=some (.ext (ExcAt K a c t))
 | .dtt fz kts,v=>∃a,v=.ref a∧((fz=false∧F a=some (.dT (kvT kts)))∨(fz=true∧∃o,F a=some (.frz o (.dT (kvT kts)))))
def aD:List T→List V→Prop
 | [],vs=>vs=[]
 | t::ts,vs=>∃v vs',vs=v::vs'∧Rep t v∧aD ts vs'
def bj:List (Key×T)→List (Key×V)→Prop
 | [],kvs=>kvs=[]
 | (k,t)::kts,kvs=>∃v nB,kvs=(k,v)::nB∧Rep t v∧bj kts nB
end
end
theorem aN.iP{K:PySem.W.Frag}{H H':Hp}{a:Addr}{xs:List V}(e:aN H H')(h:SqT K H a xs):SqT K H' a xs:=e _ _ h
section
variable{K:PySem.W.Frag}{F F' H H':Hp}
mutual
theorem Rep.mono(s:aN F F'):∀(t:T) (v:V),Rep K F t v→Rep K F' t v
 | .non,v,h=>by rw[Rep] at h ⊢;exact h
 | .bl b,v,h=>by rw[Rep] at h ⊢;exact h
 | .int i,v,h=>by rw[Rep] at h ⊢;exact h
 | .str x,v,h=>by rw[Rep] at h ⊢;exact h
 | .lst ts,v,h=>by
  rw[Rep] at h ⊢
  obtain⟨a,vs,e,q,r⟩:=h
  exact⟨a,vs,e,s.seq q,aD.mono s ts vs r⟩
 | .tup ts,v,h=>by
  rw[Rep] at h ⊢
  obtain⟨a,vs,e,q,r⟩:=h
  exact⟨a,vs,e,aN.iP s q,aD.mono s ts vs r⟩
 | .dct kts,v,h=>by
  rw[Rep] at h ⊢
  obtain⟨a,vs,e,q,r⟩:=h
  exact⟨a,vs,e,s _ _ q,bj.mono s kts vs r⟩
 | .exc c t,v,h=>by
  rw[Rep] at h ⊢
  obtain⟨a,e,q⟩:=h
  exact⟨a,e,s _ _ q⟩
 | .dtt fz kts,v,h=>by
  rw[Rep] at h ⊢
  obtain⟨a,e,q⟩:=h
  exact⟨a,e,q.elim (λz=>.inl ⟨z.1,s _ _ z.2⟩) λ⟨z,o,y⟩=>.inr ⟨z,o,s _ _ y⟩⟩
theorem aD.mono(s:aN F F'):∀(ts:List T) (vs:List V),aD K F ts vs→aD K F' ts vs
 | [],vs,h=>by rw[aD] at h ⊢;exact h
 | t::ts,vs,h=>by
  rw[aD] at h ⊢
  obtain⟨v,vs',e,q,r⟩:=h
  exact⟨v,vs',e,Rep.mono s t v q,aD.mono s ts vs' r⟩
theorem bj.mono(s:aN F F'):∀(kts:List (Key×T)) (kvs:List (Key×V)),bj K F kts kvs→bj K F' kts kvs
 | [],vs,h=>by rw[bj] at h ⊢;exact h
 | (k,t)::ts,vs,h=>by
  rw[bj] at h ⊢
  obtain⟨v,vs',e,q,r⟩:=h
  exact⟨v,vs',e,Rep.mono s t v q,bj.mono s ts vs' r⟩
end
theorem Rep.jd{i:Int}{v:V}(h:Rep K F (.int i) v):v=.int i:=by rw[Rep] at h;exact h
theorem Rep.gT{i:Bool}{v:V}(h:Rep K F (.bl i) v):v=.bl i:=by rw[Rep] at h;exact h
theorem Rep.lV{i:Str}{v:V}(h:Rep K F (.str i) v):v=.str i:=by rw[Rep] at h;exact h
theorem Rep.je{v:V}(h:Rep K F .non v):v=.non:=by rw[Rep] at h;exact h
theorem Rep.gD(i:Int):Rep K F (.int i) (.int i):=by rw[Rep]
theorem Rep.bl'(i:Bool):Rep K F (.bl i) (.bl i):=by rw[Rep]
theorem Rep.Ho(i:Str):Rep K F (.str i) (.str i):=by rw[Rep]
theorem Rep.Hq:Rep K F .non .non:=by rw[Rep]
theorem aD.length:∀{ts:List T}{vs:List V},aD K F ts vs→ts.length=vs.length
 | [],vs,h=>by rw[aD] at h;subst h;rfl
 | t::ts,vs,h=>by
  rw[aD] at h
  obtain⟨v,vs',rfl,_,r⟩:=h
  rw[List.length_cons,List.length_cons,aD.length r]
theorem aD.get:∀{ts:List T}{vs:List V}{i:Nat}{t:T},aD K F ts vs→ts[i]?=some t→∃v,vs[i]?=some v∧Rep K F t v
 | [],_,_,_,_,e=>by simp at e
 | t::ts,vs,0,t',h,e=>by
  rw[aD] at h
  obtain⟨v,vs',rfl,q,_⟩:=h
  simp at e;subst e
  exact⟨v,rfl,q⟩
 | t::ts,vs,i+1,t',h,e=>by
  rw[aD] at h
  obtain⟨v,vs',rfl,q,r⟩:=h
  obtain⟨v',h1,h2⟩:=aD.get (i:=i) r (by simpa using e)
  exact⟨v',by simpa using h1,h2⟩
theorem aD.append:∀{ts us:List T}{vs ws:List V},aD K F ts vs→aD K F us ws→aD K F (ts++us) (vs++ws)
 | [],us,vs,ws,h,g=>by rw[aD] at h;subst h;exact g
 | t::ts,us,vs,ws,h,g=>by
  rw[aD] at h
  obtain⟨v,vs',rfl,q,r⟩:=h
  rw[List.cons_append,List.cons_append,aD]
  exact⟨v,vs'++ws,rfl,q,r.append g⟩
theorem aD.jf:aD K F [] []:=by rw[aD]
theorem aD.dI{t:T}{v:V}{ts:List T}{vs:List V}(q:Rep K F t v)(r:aD K F ts vs):aD K F (t::ts) (v::vs):=by rw[aD];exact⟨v,vs,rfl,q,r⟩
theorem aD.one{t:T}{v:V}(q:Rep K F t v):aD K F [t] [v]:=.dI q .jf
theorem aD.take:∀{ts:List T}{vs:List V} (n:Nat),aD K F ts vs→aD K F (ts.take n) (vs.take n)
 | _,_,0,_=>by simpa using aD.jf
 | [],vs,n+1,h=>by rw[aD] at h;subst h;simpa using aD.jf
 | t::ts,vs,n+1,h=>by
  rw[aD] at h
  obtain⟨v,vs',rfl,q,r⟩:=h
  exact .dI q (r.take n)
theorem aD.drop:∀{ts:List T}{vs:List V} (n:Nat),aD K F ts vs→aD K F (ts.drop n) (vs.drop n)
 | _,_,0,h=>by simpa using h
 | [],vs,n+1,h=>by rw[aD] at h;subst h;simpa using aD.jf
 | t::ts,vs,n+1,h=>by
  rw[aD] at h
  obtain⟨v,vs',rfl,q,r⟩:=h
  exact r.drop n
theorem aD.set:∀{ts:List T}{vs:List V} (i:Nat) {t:T}{v:V},aD K F ts vs→Rep K F t v→aD K F (ts.set i t) (vs.set i v)
 | [],vs,i,_,_,h,_=>by rw[aD] at h;subst h;simpa using aD.jf
 | t::ts,vs,0,t',v',h,g=>by
  rw[aD] at h
  obtain⟨v,vs',rfl,q,r⟩:=h
  exact .dI g r
 | t::ts,vs,i+1,t',v',h,g=>by
  rw[aD] at h
  obtain⟨v,vs',rfl,q,r⟩:=h
  exact .dI q (r.set i g)
theorem aD.flat{ts:List T}{vs:List V}(h:aD K F ts vs):∀k:Nat,aD K F (List.replicate k ts).flatten (List.replicate k vs).flatten
 | 0=>by simpa using aD.jf
 | k+1=>by
  rw[List.replicate_succ,List.replicate_succ,List.flatten_cons,List.flatten_cons]
  exact h.append (h.flat k)
theorem aD.ints:∀{ts:List T}{vs:List V}{is:List Int},aD K F ts vs→cM ts=some is→vs=is.map V.int
 | [],vs,is,h,e=>by rw[aD] at h;subst h;cases e;rfl
 | t::ts,vs,is,h,e=>by
  rw[aD] at h
  obtain⟨v,vs',rfl,q,r⟩:=h
  unfold cM at e
  cases t with
  | int i =>
   cases e2:cM ts with
   | none=>rw[e2] at e;cases e
   | some js =>
    rw[e2] at e
    cases e
    rw[r.ints e2,q.jd]
    rfl
  | _=>cases e
theorem aD.mH:∀(ns:List Int),aD K F (ns.map T.int) (ns.map V.int)
 | []=>.jf
 | n::ns=>.dI (Rep.gD n) (aD.mH ns)
def Now(K:PySem.W.Frag)(F H:Hp)(v:V):T→Prop
 | .lst ts=>∃a vs,v=.ref a∧SqL K H a vs∧aD K F ts vs
 | .tup ts=>∃a vs,v=.ref a∧SqT K F a vs∧aD K F ts vs
 | .dct kts=>∃a kvs,v=.ref a∧H a=some (.dK kvs)∧bj K F kts kvs
 | .dtt fz kts=>∃a,v=.ref a∧Rd H a (.dT (kvT kts))
 | t=>Rep K F t v
theorem Now.DV(s:aN F H){t:T}{v:V}(h:Rep K F t v):Now K F H v t:=by
 cases t with
 | lst ts=>rw[Rep] at h;obtain⟨a,vs,e,q,r⟩:=h;exact⟨a,vs,e,s.seq q,r⟩
 | tup ts=>rw[Rep] at h;obtain⟨a,vs,e,q,r⟩:=h;exact⟨a,vs,e,q,r⟩
 | dct ts=>rw[Rep] at h;obtain⟨a,vs,e,q,r⟩:=h;exact⟨a,vs,e,s _ _ q,r⟩
 | dtt fz ts=>rw[Rep] at h;obtain⟨a,e,q⟩:=h;exact⟨a,e,q.elim (λz=>.inl (s _ _ z.2)) λ⟨_,o,y⟩=>.inr ⟨o,s _ _ y⟩⟩
 | _=>exact h
theorem Now.int{i:Int}{v:V}(h:Now K F H v (.int i)):v=.int i:=Rep.jd (K:=K) (F:=F) h
theorem Now.bl{i:Bool}{v:V}(h:Now K F H v (.bl i)):v=.bl i:=Rep.gT (K:=K) (F:=F) h
theorem Now.str{i:Str}{v:V}(h:Now K F H v (.str i)):v=.str i:=Rep.lV (K:=K) (F:=F) h
end
def um(K:PySem.W.Frag)(F:Hp)(α:List Addr)(v:V):Sum T Nat→Prop
 | .inl t=>Rep K F t v
 | .inr k=>∃a,α[k]?=some a∧v=.ref a
def dY(K:PySem.W.Frag)(F:Hp)(α:List Addr)(v:V):SV→Prop
 | .val t=>Rep K F t v
 | .cel k=>∃a,α[k]?=some a∧v=.ref a
 | .box xs=>∃a vs,v=.ref a∧SqT K F a vs∧Paired (um K F α) vs xs
def gE(K:PySem.W.Frag)(F H:Hp)(a:Addr):T→Prop
 | .lst ts=>∃vs,H a=some (.lst vs)∧aD K F ts vs
 | .dct kts=>∃kvs,H a=some (.dK kvs)∧bj K F kts kvs
 | .dtt fz kts=>fz=false∧H a=some (.dT (kvT kts))
 | _=>False
def Tps(F H:Hp):Prop:=∀b xs,H b=some (.tup xs)→F b=some (.tup xs)
def NT(o:HO):Prop:=∀xs,o≠.tup xs
theorem Tps.upd{F H:Hp}{p:Addr}{o:HO}(h:Tps F H)(n:NT o):Tps F (upd H p o):=λb xs q=>by
 by_cases e:b=p
 ·subst e;rw[aB] at q;cases q;exact absurd rfl (n _)
 ·rw[aG e] at q;exact h _ _ q
theorem Tps.mono{F F' H:Hp}(h:Tps F H)(s:aN F F'):Tps F' H:=λb xs q=>s _ _ (h b xs q)
theorem gE.nt{K:PySem.W.Frag}{F H:Hp}{a:Addr}{t:T}{o:HO}(c:gE K F (upd H a o) a t):NT o:=λxs e=>by
 subst e
 cases t with
 | lst ts=>obtain⟨vs,h1,_⟩:=c;rw[aB] at h1;cases h1
 | dct ts=>obtain⟨vs,h1,_⟩:=c;rw[aB] at h1;cases h1
 | dtt fz ts=>have h1:=c.2;rw[aB] at h1;cases h1
 | _=>exact c.elim
structure cx(K:PySem.W.Frag)(F:Hp)(α:List Addr)(μ:af)(H:Hp):Prop where
 ext:aN F H
 len:α.length=μ.length
 nd:α.Nodup
 there:∀(k:Nat) (a:Addr),α[k]?=some a→∃o,H a=some o
 cell:∀(k:Nat) (b:Bool) (t:T) (a:Addr),μ[k]?=some (b,t)→α[k]?=some a→(b=true→F a=none∧gE K F H a t)∧(b=false→Rep K F t (.ref a))
 tps:Tps F H
structure Sim(K:PySem.W.Frag)(F:Hp)(α:List Addr)(e:Slots)(μ:af)(σ:St)(H:Hp):Prop where
 st:cx K F α μ H
 sl:∀i x,slot e i=some x→∃v,σ[i]?=some (some v)∧dY K F α v x
 len:e.length=σ.length
section
variable{K:PySem.W.Frag}{F F' F2 H H':Hp}{α α':List Addr}{e:Slots}{μ:af}{σ:St}{v:V}{x:SV}{t:T}
theorem gU{k:Nat}{a:Addr}(p:α <+: α')(h:α[k]?=some a):α'[k]?=some a:=by
 obtain⟨l,rfl⟩:=p
 have hk:k<α.length:=(List.getElem?_eq_some_iff.mp h).1
 rw[List.getElem?_append_left hk];exact h
theorem um.mono{y:Sum T Nat}(s:aN F F')(p:α <+: α')(h:um K F α v y):um K F' α' v y:=by
 cases y with
 | inl t=>exact Rep.mono s t v h
 | inr k=>obtain⟨a,h1,h2⟩:=h;exact⟨a,gU p h1,h2⟩
theorem dY.mono(s:aN F F')(p:α <+: α')(h:dY K F α v x):dY K F' α' v x:=by
 cases x with
 | val t=>exact Rep.mono s t v h
 | cel k=>obtain⟨a,h1,h2⟩:=h;exact⟨a,gU p h1,h2⟩
 | box xs=>obtain⟨a,vs,e,q,r⟩:=h;exact⟨a,vs,e,aN.iP s q,Paired.imp' (λ_ _ z=>um.mono s p z) r⟩
theorem aU(S:cx K F α μ H)(h:dY K F α v x)(r:rd μ x=some t):Now K F H v t:=by
 cases x with
 | val u=>cases r;exact Now.DV S.ext h
 | cel k =>
  obtain⟨a,h1,rfl⟩:=h
  cases q:μ[k]? with
  | none=>simp[rd,q] at r
  | some c =>
   obtain⟨b,u⟩:=c
   simp only[rd,q,Option.map_some] at r
   cases r
   obtain⟨c1,c2⟩:=S.cell k b t a q h1
   cases b with
   | false=>exact Now.DV S.ext (c2 rfl)
   | true =>
    obtain⟨_,c⟩:=c1 rfl
    cases t with
    | lst ts=>obtain⟨vs,g1,g2⟩:=c;exact⟨a,vs,rfl,SqL.of g1,g2⟩
    | dct ts=>obtain⟨vs,g1,g2⟩:=c;exact⟨a,vs,rfl,g1,g2⟩
    | dtt fz ts=>exact⟨a,rfl,.inl c.2⟩
    | _=>exact c.elim
 | box xs=>cases r
def bw(F H F' H':Hp):Prop:=∀b,(F' b=F b∧H' b=H b)∨(H b=none∧F' b=H' b)
theorem bw.refl:bw F H F H:=λ_=>.inl ⟨rfl,rfl⟩
theorem bw.new{p:Addr}{o:HO}(h:H p=none):bw F H (upd F p o) (upd H p o):=λb=>by
 by_cases e:b=p
 ·subst e;exact .inr ⟨h,by rw[aB,aB]⟩
 ·exact .inl ⟨aG e,aG e⟩
theorem bw.same(g:bw F H F' H')(s:aN F H):aN F F':=λb o h=>by
 rcases g b with ⟨e1,e2⟩|⟨e1,e2⟩
 ·rw[e1];exact h
 ·rw[s b o h] at e1;cases e1
theorem bw.ext(g:bw F H F' H')(s:aN F H):aN F' H':=λb o h=>by
 rcases g b with ⟨e1,e2⟩|⟨e1,e2⟩
 ·rw[e2];rw[e1] at h;exact s b o h
 ·rw[← e2];exact h
theorem gE.grow(g:bw F H F' H')(s:aN F H){a:Addr}(h:gE K F H a t):gE K F' H' a t:=by
 have keep:∀{o:HO},H a=some o→H' a=some o:=λ{o} h=>by
  rcases g a with ⟨e1,e2⟩|⟨e1,e2⟩
  ·rw[e2];exact h
  ·rw[h] at e1;cases e1
 cases t with
 | lst ts=>obtain⟨vs,h1,h2⟩:=h;exact⟨vs,keep h1,aD.mono (g.same s) _ _ h2⟩
 | dct ts=>obtain⟨vs,h1,h2⟩:=h;exact⟨vs,keep h1,bj.mono (g.same s) _ _ h2⟩
 | dtt fz ts=>exact⟨h.1,keep h.2⟩
 | _=>exact h.elim
theorem gE.there{a:Addr}(h:gE K F H a t):∃o,H a=some o:=by
 cases t with
 | lst ts=>obtain⟨vs,h1,h2⟩:=h;exact⟨_,h1⟩
 | dct ts=>obtain⟨vs,h1,h2⟩:=h;exact⟨_,h1⟩
 | dtt fz ts=>exact⟨_,h.2⟩
 | _=>exact h.elim
theorem cx.grow(S:cx K F α μ H)(g:bw F H F' H'):cx K F' α μ H' where
 ext:=g.ext S.ext
 len:=S.len
 nd:=S.nd
 there:=λk a h=>by
  obtain⟨o,ho⟩:=S.there k a h
  rcases g a with ⟨e1,e2⟩|⟨e1,e2⟩
  ·exact⟨o,by rw[e2];exact ho⟩
  ·rw[ho] at e1;cases e1
 cell:=λk b t a h1 h2=>by
  obtain⟨c1,c2⟩:=S.cell k b t a h1 h2
  refine⟨λhb=>?_,λhb=>Rep.mono (g.same S.ext) _ _ (c2 hb)⟩
  obtain⟨d1,d2⟩:=c1 hb
  refine⟨?_,d2.grow g S.ext⟩
  obtain⟨o,ho⟩:=d2.there
  rcases g a with ⟨e1,e2⟩|⟨e1,e2⟩
  ·rw[e1];exact d1
  ·rw[ho] at e1;cases e1
 tps:=λb xs q=>by
  rcases g b with ⟨e1,e2⟩|⟨e1,e2⟩
  ·rw[e1];rw[e2] at q;exact S.tps _ _ q
  ·rw[e2];exact q
theorem Sim.grow(S:Sim K F α e μ σ H)(g:bw F H F' H'):Sim K F' α e μ σ H' where
 st:=S.st.grow g
 sl:=λi x h=>by
  obtain⟨v,h1,h2⟩:=S.sl i x h
  exact⟨v,h1,h2.mono (g.same S.st.ext) (List.prefix_refl _)⟩
 len:=S.len
theorem Sim.of(S:Sim K F α e μ σ H){μ':af}(s:aN F F')(p:α <+: α')(S':cx K F' α' μ' H'):Sim K F' α' e μ' σ H' :=
 ⟨S',λi x h=>by
  obtain⟨v,h1,h2⟩:=S.sl i x h
  exact⟨v,h1,h2.mono s p⟩,S.len⟩
theorem mI{k j:Nat}{a:Addr}(n:α.Nodup)(h1:α[k]?=some a)(h2:α[j]?=some a):k=j:=by
 obtain⟨a1,b1⟩:=List.getElem?_eq_some_iff.mp h1
 obtain⟨a2,b2⟩:=List.getElem?_eq_some_iff.mp h2
 exact(List.getElem_inj n).mp (b1.trans b2.symm)
theorem zY{k:Nat}(S:cx K F α μ H)(h:∃a,α[k]?=some a∧v=.ref a){μ':af}(r:frz (.cel k) μ=.ok t μ'):∃F',aN F F'∧(∀b,b∉α→F' b=F b)∧cx K F' α μ' H∧Rep K F' t v:=by
  obtain⟨a,h1,rfl⟩:=h
  unfold frz at r
  cases q:μ[k]? with
  | none=>simp only[q] at r;cases r
  | some c =>
   obtain⟨b,u⟩:=c
   simp only[q] at r
   cases r
   have hk:k<μ.length:=(List.getElem?_eq_some_iff.mp q).1
   obtain⟨c1,c2⟩:=S.cell k b t a q h1
   have main:∃F',aN F F'∧aN F' H∧Rep K F' t (.ref a)∧∀c,c≠a→F' c=F c:=by
    cases b with
    | false=>exact⟨F,aN.refl F,S.ext,c2 rfl,λ_ _=>rfl⟩
    | true =>
     obtain⟨d1,d2⟩:=c1 rfl
     obtain⟨o,ho⟩:=d2.there
     have s1:aN F (upd F a o):=λc z hz=>by
      rw[aG (λq=>by subst q;rw[d1] at hz;cases hz)];exact hz
     refine⟨upd F a o,s1,λc z hz=>?_,?_,λc hc=>aG hc⟩
     ·by_cases e:c=a
      ·subst e;rw[aB] at hz;cases hz;exact ho
      ·rw[aG e] at hz;exact S.ext c z hz
     ·cases t with
      | lst ts=>obtain⟨vs,g1,g2⟩:=d2;rw[g1] at ho;cases ho;rw[Rep];exact⟨a,vs,rfl,SqL.of aB,aD.mono s1 _ _ g2⟩
      | dct ts=>obtain⟨vs,g1,g2⟩:=d2;rw[g1] at ho;cases ho;rw[Rep];exact⟨a,vs,rfl,aB,bj.mono s1 _ _ g2⟩
      | dtt fz ts=>obtain⟨d4,d3⟩:=d2;rw[d3] at ho;cases ho;rw[Rep];exact⟨a,rfl,.inl ⟨d4,aB⟩⟩
      | _=>exact d2.elim
   obtain⟨F',s1,s2,rp,ne⟩:=main
   refine⟨F',s1,λc hc=>ne c λq=>hc (by rw[q];exact List.mem_of_getElem? h1),⟨s2,by rw[List.length_set];exact S.len,S.nd,S.there,λj b' u' a' g1 g2=>?_,S.tps.mono s1⟩,rp⟩
   by_cases e:j=k
   ·subst e
    rw[List.getElem?_set_self hk] at g1
    cases g1
    rw[h1] at g2;cases g2
    exact⟨λz=>(by cases z),λ_=>rp⟩
   ·rw[List.getElem?_set_ne (Ne.symm e)] at g1
    obtain⟨z1,z2⟩:=S.cell j b' u' a' g1 g2
    have na:a'≠a:=λq=>by subst q;exact e (mI S.nd g2 h1)
    refine⟨λhb=>?_,λhb=>Rep.mono s1 _ _ (z2 hb)⟩
    obtain⟨y1,y2⟩:=z1 hb
    refine⟨by rw[ne _ na];exact y1,?_⟩
    cases u' with
    | lst ts=>obtain⟨vs,w1,w2⟩:=y2;exact⟨vs,w1,aD.mono s1 _ _ w2⟩
    | dct ts=>obtain⟨vs,w1,w2⟩:=y2;exact⟨vs,w1,bj.mono s1 _ _ w2⟩
    | dtt fz ts=>exact y2
    | _=>exact y2.elim
theorem Hr(k:Nat)(μ:af):oU (.inr k) μ=frz (.cel k) μ:=by unfold oU frz;rfl
theorem vQ:∀{xs:List (Sum T Nat)}{vs:List V}{μ μ':af}{F:Hp}{ts:List T},cx K F α μ H→Paired (um K F α) vs xs→gx xs μ=.ok ts μ'→∃F',aN F F'∧(∀b,b∉α→F' b=F b)∧cx K F' α μ' H∧aD K F' ts vs
 | [],vs,μ,μ',F,ts,S,p,r=>by
  cases p
  cases r
  exact⟨F,aN.refl F,λ_ _=>rfl,S,aD.jf⟩
 | x::xs,vs,μ,μ',F,ts,S,p,r=>by
  cases p with
  | @cons v₁ _ vs₁ _ hv p =>
   unfold gx at r
   obtain⟨t,μ1,r1,r⟩:=R.aS r
   obtain⟨ts',μ2,r2,r⟩:=R.aS r
   cases r
   have one:∃F',aN F F'∧(∀b,b∉α→F' b=F b)∧cx K F' α μ1 H∧Rep K F' t v₁:=by
    cases x with
    | inl u=>cases r1;exact⟨F,aN.refl F,λ_ _=>rfl,S,hv⟩
    | inr k=>rw[Hr] at r1;exact zY S hv r1
   obtain⟨F1,s1,n1,S1,q1⟩:=one
   obtain⟨F2,s2,n2,S2,q2⟩:=vQ S1 (Paired.imp' (λ_ _ z=>um.mono s1 (List.prefix_refl _) z) p) r2
   exact⟨F2,s1.trans s2,λb hb=>(n2 b hb).trans (n1 b hb),S2,.dI (Rep.mono s2 _ _ q1) q2⟩
theorem lW(S:cx K F α μ H)(h:dY K F α v x){μ':af}(r:frz x μ=.ok t μ'):∃F',aN F F'∧(∀b,b∉α→F' b=F b)∧cx K F' α μ' H∧Rep K F' t v:=by
 cases x with
 | val u=>cases r;exact⟨F,aN.refl F,λ_ _=>rfl,S,h⟩
 | cel k=>exact zY S h r
 | box xs =>
  obtain⟨a,vs,rfl,q,p⟩:=h
  unfold frz at r
  obtain⟨ts,μ1,r1,r⟩:=R.aS r
  cases r
  obtain⟨F1,s1,n1,S1,q1⟩:=vQ S p r1
  refine⟨F1,s1,n1,S1,?_⟩
  rw[Rep]
  exact⟨a,vs,rfl,aN.iP s1 q,q1⟩
theorem pC:∀{xs:List SV}{vs:List V}{μ μ':af}{F:Hp}{ts:List T},cx K F α μ H→Paired (λv x=>dY K F α v x) vs xs→c8 xs μ=.ok ts μ'→∃F',aN F F'∧(∀b,b∉α→F' b=F b)∧cx K F' α μ' H∧aD K F' ts vs
 | [],vs,μ,μ',F,ts,S,p,r=>by
  cases p
  cases r
  exact⟨F,aN.refl F,λ_ _=>rfl,S,aD.jf⟩
 | x::xs,vs,μ,μ',F,ts,S,p,r=>by
  cases p with
  | cons hv p =>
   rw[kN] at r
   obtain⟨t,μ1,r1,r⟩:=R.aS r
   obtain⟨ts',μ2,r2,r⟩:=R.aS r
   cases r
   obtain⟨F1,s1,n1,S1,q1⟩:=lW S hv r1
   obtain⟨F2,s2,n2,S2,q2⟩:=pC S1 (Paired.imp' (λ_ _ z=>dY.mono s1 (List.prefix_refl _) z) p) r2
   exact⟨F2,s1.trans s2,λb hb=>(n2 b hb).trans (n1 b hb),S2,.dI (Rep.mono s2 _ _ q1) q2⟩
theorem qg(S:cx K F α μ H){k:Nat}{a:Addr}{t₀:T}{o:HO}(hk:μ[k]?=some (true,t₀))(ha:α[k]?=some a)(c:gE K F (upd H a o) a t):cx K F α (μ.set k (true,t)) (upd H a o):=by
 have hlt:k<μ.length:=(List.getElem?_eq_some_iff.mp hk).1
 have hF:=((S.cell k true t₀ a hk ha).1 rfl).1
 refine⟨λb z hz=>?_,by rw[List.length_set];exact S.len,S.nd,λj b h=>?_,λj b u a' h1 h2=>?_,S.tps.upd c.nt⟩
 ·rw[aG (λq=>by subst q;rw[hF] at hz;cases hz)];exact S.ext b z hz
 ·by_cases e:b=a
  ·subst e;exact⟨o,aB⟩
  ·rw[aG e];exact S.there j b h
 ·by_cases e:j=k
  ·subst e
   rw[List.getElem?_set_self hlt] at h1
   cases h1
   rw[ha] at h2;cases h2
   exact⟨λ_=>⟨hF,c⟩,λz=>(by cases z)⟩
  ·rw[List.getElem?_set_ne (Ne.symm e)] at h1
   have na:a'≠a:=λq=>by subst q;exact e (mI S.nd h2 ha)
   obtain⟨c1,c2⟩:=S.cell j b u a' h1 h2
   refine⟨λhb=>⟨(c1 hb).1,?_⟩,c2⟩
   have d:=(c1 hb).2
   cases u with
   | lst ts=>obtain⟨vs,w1,w2⟩:=d;exact⟨vs,by rw[aG na];exact w1,w2⟩
   | dct ts=>obtain⟨vs,w1,w2⟩:=d;exact⟨vs,by rw[aG na];exact w1,w2⟩
   | dtt fz ts=>exact⟨d.1,(aG na).trans d.2⟩
   | _=>exact d.elim
theorem cx.take{β:List Addr}(S:cx K F β μ H)(n:Nat):cx K F (β.take n) (μ.take n) H:=by
 have cut:∀{γ:Type}{l:List γ}{k:Nat}{z:γ},(l.take n)[k]?=some z→l[k]?=some z:=λ{γ l k z} h=>by
  rw[List.getElem?_take] at h
  split at h
  ·exact h
  ·cases h
 exact⟨S.ext,by rw[List.length_take,List.length_take,S.len],S.nd.sublist (List.take_sublist _ _),λk a h=>S.there k a (cut h),λk b t a h1 h2=>S.cell k b t a (cut h1) (cut h2),S.tps⟩
theorem Nw{μ₀:af}{β:List Addr}{r:SV}{μ':af}(hα:α.length=μ₀.length)(p:α <+: β)(S:cx K F β μ H)(h:dY K F β v x)(hg:gc μ₀.length x μ=.ok r μ') :
  ∃γ,α <+: γ∧(∀b,b∈γ→b∈β)∧cx K F γ μ' H∧dY K F γ v r:=by
 have hn:β.take μ₀.length=α:=by
  rw[← hα]
  obtain⟨l,rfl⟩:=p
  simp
 have hp:α <+: β.take μ₀.length:=by rw[hn];exact List.prefix_refl _
 unfold gc at hg
 cases x with
 | val t =>
  simp only at hg
  cases hg
  exact⟨β.take μ₀.length,hp,λb hb=>List.mem_of_mem_take hb,S.take _,h⟩
 | cel k =>
  obtain⟨a,ha,rfl⟩:=h
  simp only at hg
  by_cases hk:k<μ₀.length
  ·rw[if_pos hk] at hg
   cases hg
   exact⟨β.take μ₀.length,hp,λb hb=>List.mem_of_mem_take hb,S.take _,a,by rw[List.getElem?_take_of_lt hk];exact ha,rfl⟩
  ·rw[if_neg hk] at hg
   cases hc:μ[k]? with
   | none=>rw[hc] at hg;cases hg
   | some c =>
    rw[hc] at hg
    cases hg
    have T:=S.take μ₀.length
    have hl:(β.take μ₀.length).length=μ₀.length:=by rw[hn];exact hα
    have hl2:(μ.take μ₀.length).length=μ₀.length:=by rw[← T.len];exact hl
    have qh:∀{γ:Type}{l:List γ}{z:γ}{j:Nat}{y:γ},l.length=μ₀.length→(l++[z])[j]?=some y→(j<μ₀.length∧l[j]?=some y)∨(j=μ₀.length∧y=z):=λ{γ l z j y} e h=>by
     by_cases hj:j<l.length
     ·rw[List.getElem?_append_left hj] at h;exact .inl ⟨by lia,h⟩
     ·rw[List.getElem?_append_right (by lia)] at h
      by_cases h0:j-l.length=0
      ·rw[h0] at h;simp at h;exact .inr ⟨by lia,h.symm⟩
      ·rw[List.getElem?_eq_none (by simp;lia)] at h;cases h
    have cut:∀{γ:Type}{l:List γ}{j:Nat}{z:γ},(l.take μ₀.length)[j]?=some z→l[j]?=some z:=λ{γ l j z} h=>by
     rw[List.getElem?_take] at h
     split at h
     ·exact h
     ·cases h
    refine⟨β.take μ₀.length++[a],hp.trans (List.prefix_append _ _),λb hb=>(List.mem_append.mp hb).elim (λz=>List.mem_of_mem_take z) λz=>by simp at z;subst z;exact List.mem_of_getElem? ha,⟨S.ext,by rw[List.length_append,List.length_append,hl,hl2];rfl,?_,λj b g=>?_,λj b u a' g1 g2=>?_,S.tps⟩,a,?_,rfl⟩
    ·rw[List.nodup_append]
     refine⟨T.nd,by simp,λb hb b' hb'=>?_⟩
     simp at hb'
     subst hb'
     intro q
     subst q
     obtain⟨j,hj⟩:=List.mem_iff_getElem?.mp hb
     have hj':j<μ₀.length:=by rw[← hl];exact(List.getElem?_eq_some_iff.mp hj).1
     have:=mI S.nd (cut hj) ha
     lia
    ·rcases qh hl g with ⟨_,g'⟩|⟨_,rfl⟩
     ·exact T.there j b g'
     ·exact S.there k _ ha
    ·rcases qh hl g2 with ⟨hj,g'⟩|⟨hj,rfl⟩
     ·rcases qh hl2 g1 with ⟨_,g1'⟩|⟨hj',_⟩
      ·exact T.cell j b u a' g1' g'
      ·lia
     ·rcases qh hl2 g1 with ⟨hj',_⟩|⟨_,e⟩
      ·lia
      ·exact S.cell k b u _ (by rw[hc,e]) ha
    ·rw[List.getElem?_append_right (by lia),hl]
     simp
 | box xs=>cases hg
theorem DW{μ₀:af}{β:List Addr}{r:SV}{μ':af}(hα:α.length=μ₀.length)(p:α <+: β)(S:cx K F β μ H)(h:dY K F β v x)(hg:ice μ₀.length x μ=.ok r μ') :
  ∃F',aN F F'∧(∀b,b∉β→F' b=F b)∧cx K F' α μ' H∧dY K F' α v r:=by
 unfold ice at hg
 obtain⟨t,μ1,h1,hg⟩:=R.aS hg
 cases hg
 obtain⟨F1,s1,n1,S1,q1⟩:=lW S h h1
 have hn:β.take μ₀.length=α:=by
  rw[← hα]
  obtain⟨l,rfl⟩:=p
  simp
 have S2:=S1.take μ₀.length
 rw[hn] at S2
 exact⟨F1,s1,n1,S2,q1⟩
end
structure Ex(F:Hp)(α:List Addr)(H F':Hp)(α':List Addr)(H':Hp):Prop where
 same:aN F F'
 pre:α <+: α'
 fr:∀b o,H b=some o→F b=none→b∉α→H' b=some o∧F' b=none∧b∉α'
section
variable{K:PySem.W.Frag}{F F' F1 F2 H H' H1 H2:Hp}{α α' α1 α2:List Addr}{μ μ':af}
theorem Ex.refl:Ex F α H F α H:=⟨aN.refl F,List.prefix_refl _,λ_ _ h1 h2 h3=>⟨h1,h2,h3⟩⟩
theorem Ex.trans(x:Ex F α H F1 α1 H1)(y:Ex F1 α1 H1 F2 α2 H2):Ex F α H F2 α2 H2 :=
 ⟨x.same.trans y.same,x.pre.trans y.pre,λb o h1 h2 h3=>let ⟨g1,g2,g3⟩:=x.fr b o h1 h2 h3;y.fr b o g1 g2 g3⟩
theorem Ex.oB(s:aN F F')(n:∀b,b∉α→F' b=F b):Ex F α H F' α H:=⟨s,List.prefix_refl _,λb o h1 h2 h3=>⟨h1,by rw[n b h3];exact h2,h3⟩⟩
theorem bw.ex(g:bw F H F' H')(s:aN F H):Ex F α H F' α H':=⟨g.same s,List.prefix_refl _,λb o h1 h2 h3=>by
 rcases g b with ⟨e1,e2⟩|⟨e1,e2⟩
 ·exact⟨by rw[e2];exact h1,by rw[e1];exact h2,h3⟩
 ·rw[h1] at e1;cases e1⟩
theorem Ex.was{p:Addr}(x:Ex F α H F1 α1 H1)(S:cx K F1 α1 μ H1)(h:H1 p=none):H p=none:=by
 cases q:H p with
 | none=>rfl
 | some o =>
  exfalso
  cases f:F p with
  | some z=>rw[S.ext p z (x.same p z f)] at h;cases h
  | none =>
   by_cases hm:p∈α
   ·obtain⟨k,hk⟩:=List.mem_iff_getElem?.mp hm
    obtain⟨z,hz⟩:=S.there k p (gU x.pre hk)
    rw[hz] at h;cases h
   ·rw[(x.fr p o q f hm).1] at h;cases h
theorem Ex.lay{p:Addr}{o:HO}(h:H p=none):Ex F α H F α (upd H p o):=⟨aN.refl F,List.prefix_refl _,λb z h1 h2 h3=>⟨by rw[aG (λq=>by subst q;rw[h] at h1;cases h1)];exact h1,h2,h3⟩⟩
theorem Ex.put{k:Nat}{a:Addr}{o:HO}(ha:α[k]?=some a):Ex F α H F α (upd H a o):=⟨aN.refl F,List.prefix_refl _,λb z h1 h2 h3=>⟨by rw[aG (λq=>h3 (by rw[q];exact List.mem_of_getElem? ha))];exact h1,h2,h3⟩⟩
theorem Ex.more{p:Addr}(x:Ex F α H F' α' H')(h:H p=none):Ex F α H F' (α'++[p]) H':=⟨x.same,x.pre.trans (List.prefix_append _ _),λb o h1 h2 h3=>by
 obtain⟨g1,g2,g3⟩:=x.fr b o h1 h2 h3
 refine⟨g1,g2,λhm=>?_⟩
 rcases List.mem_append.mp hm with z|z
 ·exact g3 z
 ·simp at z;subst z;rw[h] at h1;cases h1⟩
theorem Ex.ice{p:Addr}{o:HO}(x:Ex F α H F' α' H')(h:H p=none)(h':F' p=none):Ex F α H (upd F' p o) α' H':=⟨x.same.trans λb z hz=>by
  rw[aG (λq=>by subst q;rw[h'] at hz;cases hz)];exact hz,x.pre,λb z h1 h2 h3=>by
 obtain⟨g1,g2,g3⟩:=x.fr b z h1 h2 h3
 exact⟨g1,by rw[aG (λq=>by subst q;rw[h] at h1;cases h1)];exact g2,g3⟩⟩
end
theorem bj.length{K:PySem.W.Frag}{F:Hp}:∀{ts:List (Key×T)}{vs:List (Key×V)},bj K F ts vs→ts.length=vs.length
 | [],vs,h=>by rw[bj] at h;subst h;rfl
 | (k,t)::ts,vs,h=>by
  rw[bj] at h
  obtain⟨v,vs',rfl,_,r⟩:=h
  rw[List.length_cons,List.length_cons,bj.length r]
def R.wp{α:Type}(r:R α)(Q:α→af→Prop)(E:T→af→Prop):Prop:=match r with
 | .ok a μ=>Q a μ
 | .err c μ=>E c μ
 | .bad=>False
theorem R.wp_bind{α β:Type}{r:R α}{f:α→af→R β}{Q:β→af→Prop}{E:T→af→Prop}(h:(r.bind f).wp Q E):r.wp (λa μ=>(f a μ).wp Q E) E:=by
 cases r<;>exact h
theorem R.wp.mono{α:Type}{r:R α}{Q Q':α→af→Prop}{E E':T→af→Prop}(h:r.wp Q E)(hQ:∀a μ,Q a μ→Q' a μ)(hE:∀c μ,E c μ→E' c μ):r.wp Q' E':=by
 cases r with
 | ok a μ=>exact hQ a μ h
 | err c μ=>exact hE c μ h
 | bad=>exact h
theorem R.bB{α:Type}{o:Option α}{μ:af}{Q:α→af→Prop}{E:T→af→Prop}(h:(R.lift o μ).wp Q E):∃a,o=some a∧Q a μ:=by
 cases o with
 | none=>exact h.elim
 | some a=>exact⟨a,rfl,h⟩
def Hs(K:PySem.W.Frag)(F:Hp)(α:List Addr)(H:Hp)(e:Slots)(σ:St)(Q:VK)(x:SV)(μ:af):Prop :=
 ∀v H' F' α',Ex F α H F' α' H'→Sim K F' α' e μ σ H'→dY K F' α' v x→Q v H'
def Nx(X:Cx)(pins:List (Addr×Obj))(σ:St)(H:Hp)(c:T)(ev:Value)(s':Shared):Prop :=
 ∃n C,c=.exc n none∧X.mg n=some (.ref C)∧((X.calm=true∧∃s h' e vs,Inv X pins σ H s∧Heap.MadeExcOf s.heap h' e (.ref C) vs∧ev=.ref e∧s'={ s with heap:=h' }) ∨
  (∃H0 s,Inv X pins σ H0 s∧CX1 X.prog X.w X.stack H0 s (λcv _ H'=>cv=.ref C∧H'=H) ev s')∨(X.calm=true∧∃e t B,ev=.ref e∧Hel X pins σ H e t C B s'))
def eG(X:Cx)(F:Hp)(α:List Addr)(H:Hp)(e:Slots)(c:T)(μ:af):Prop :=
 ∀ev s',(∃pins σ' H' F' α',Ex F α H F' α' H'∧Sim X.K F' α' e μ σ' H'∧Nx X pins σ' H' c ev s')→X.xe ev s'
theorem eG.mono{X:Cx}{F F1 H H1:Hp}{α α1:List Addr}{e:Slots}{c:T}{μ:af}(x:Ex F α H F1 α1 H1)(h:eG X F α H e c μ):eG X F1 α1 H1 e c μ :=
 λev s' ⟨pins,σ',H',F',α',y,S,f⟩=>h ev s' ⟨pins,σ',H',F',α',x.trans y,S,f⟩
def tD(X:Cx)(d:D):TE:=λσ H Q=>∃F α e μ,Sim X.K F α e μ σ H∧(d e μ).wp (Hs X.K F α H e σ Q) (eG X F α H e)
def tDT(X:Cx)(d:D):TT:=λσ H Q=>∃F α e μ,Sim X.K F α e μ σ H∧(d e μ).wp (λx μ'=>∃b,x=.val (.bl b) ∧
 ∀H' F' α',Ex F α H F' α' H'→Sim X.K F' α' e μ' σ H'→Q b H') (eG X F α H e)
def tDA(X:Cx)(ds:List D):TA:=λσ H Q=>∃F α e μ,Sim X.K F α e μ σ H∧(cU ds e μ).wp (λxs μ' =>
 ∀vs H' F' α',Ex F α H F' α' H'→Sim X.K F' α' e μ' σ H'→Paired (λv x=>dY X.K F' α' v x) vs xs→Q vs H') (eG X F α H e)
def CE(X:Cx)(e:Expr)(d:D):Prop:=PE X e (tD X d)
def CT(X:Cx)(e:Expr)(d:D):Prop:=PT X e (tDT X d)
def CA(X:Cx)(es:List Expr)(ds:List D):Prop:=PA X es (tDA X ds)
theorem PE.imp{X:Cx}{e:Expr}{t t':TE}(h:PE X e t)(i:∀σ H Q,t' σ H Q→t σ H Q):PE X e t':=λpins s σ H Q I q=>h pins s σ H Q I (i σ H Q q)
theorem PT.imp{X:Cx}{e:Expr}{t t':TT}(h:PT X e t)(i:∀σ H Q,t' σ H Q→t σ H Q):PT X e t':=λpins s σ H Q I q=>h pins s σ H Q I (i σ H Q q)
theorem PA.imp{X:Cx}{e:List Expr}{t t':TA}(h:PA X e t)(i:∀σ H Q,t' σ H Q→t σ H Q):PA X e t':=λpos pins s σ H Q I q=>h pos pins s σ H Q I (i σ H Q q)
theorem PS.imp{X:Cx}{e:Stmt}{t t':TS}(h:PS X e t)(i:∀D σ H,t' D σ H→t D σ H):PS X e t':=λpins s σ H D I q=>h pins s σ H D I (i D σ H q)
theorem PSs.imp{X:Cx}{e:List Stmt}{t t':TS}(h:PSs X e t)(i:∀D σ H,t' D σ H→t D σ H):PSs X e t':=λpins s σ H D I q=>h pins s σ H D I (i D σ H q)
def dO(K:PySem.W.Frag)(r:R2)(f:T→T→Option T):Prop:=∀F H v u t t' w Q,aN F H→Now K F H v t→Now K F H u t'→f t t'=some w →
 (∀v' H' F',bw F H F' H'→Rep K F' w v'→Q v' H')→r v u H Q
def Ju(K:PySem.W.Frag)(r:V→Hp→VK→Prop)(f:T→Option T):Prop:=∀F H v t w Q,aN F H→Now K F H v t→f t=some w →
 (∀v' H' F',bw F H F' H'→Rep K F' w v'→Q v' H')→r v H Q
def qi(K:PySem.W.Frag)(r:List V→Hp→VK→Prop)(f:T→Option T):Prop:=∀F H v t w Q,aN F H→Now K F H v t→f t=some w →
 (∀v' H' F',bw F H F' H'→Rep K F' w v'→Q v' H')→r [v] H Q
def vR(K:PySem.W.Frag)(r:List V→Hp→VK→Prop)(f:T→T→Option T):Prop:=∀F H v u t t' w Q,aN F H→Now K F H v t→Now K F H u t'→f t t'=some w →
 (∀v' H' F',bw F H F' H'→Rep K F' w v'→Q v' H')→r [v,u] H Q
def vS(K:PySem.W.Frag)(r:List V→Hp→VK→Prop)(f:T→Option T):Prop:=∀F H v t w Q,aN F H→Now K F H v t→f t=some w →
 (∀p o,H p=none→gE K F (upd H p o) p w→Q (.ref p) (upd H p o))→r [v] H Q
section
variable{X:Cx}{a b c:Expr}{da db dc:D}{pos:Pos}
theorem ae(i:Nat){x:Str}(hN:X.N[i]?=some x:=by rfl)(hv:Vis X.env.scope x:=by first|exact Or.inl rfl|exact Or.inr (Or.inl rfl)|exact Or.inr (Or.inr rfl))(hd:(x==("__debug__":Str))=false:=by decide)
  (hcd:(x==("__classdict__":Str))=false:=by decide):CE X (.Name x pos) (aa i) :=
 PE.imp (tV hN hv hd hcd) λσ H Q au=>by
  obtain⟨F,α,e,μ,S,h⟩:=au
  obtain⟨x,h1,h⟩:=R.bB h
  obtain⟨v,hv,ok⟩:=S.sl i x h1
  exact⟨v,hv,h v H F α Ex.refl S ok⟩
theorem kb{v:V}{t:T}(h:PE X a (tC v))(r:∀F,Rep X.K F t v):CE X a (dC t) :=
 PE.imp h λσ H Q ⟨F,α,e,μ,S,h⟩=>h v H F α Ex.refl S (r F)
theorem aj{i:Int}{j pos}:CE X (.Constant (.int i) j pos) (dC (.int i)):=kb C4 λ_=>Rep.gD i
theorem qj{i:Bool}{j pos}:CE X (.Constant (.bool i) j pos) (dC (.bl i)):=kb MQ λ_=>Rep.bl' i
theorem cI{i:Str}{j pos}:CE X (.Constant (.str i) j pos) (dC (.str i)):=kb J1 λ_=>Rep.Ho i
theorem lX{j pos}:CE X (.Constant .none j pos) (dC .non):=kb J0 λ_=>Rep.Hq
theorem Ht{x:Str}{i:Int}{tk:Nat}(hm:X.mg x=some (.int i tk))(hg:Gl X x:=by rfl)(hd:(x==("__debug__":Str))=false:=by decide):CE X (.Name x pos) (dC (.int i)):=kb (v:=.int i) (GA hg hm ⟨tk,rfl⟩ hd) λ_=>Rep.gD i
theorem two{r:R2}{f:T→T→Option T}(hs:dO X.K r f)(σ:St)(H:Hp)(Q:VK)(h:tD X (ah f da db) σ H Q):tOp r (tD X da) (tD X db) σ H Q:=by
 obtain⟨F,α,e,μ,S,h⟩:=h
 refine⟨F,α,e,μ,S,?_⟩
 refine(R.wp_bind h).mono (λx μ1 h v H1 F1 α1 x1 S1 o1=>⟨F1,α1,e,μ1,S1,?_⟩) λ_ _ h=>h
 refine(R.wp_bind h).mono (λy μ2 h v2 H2 F2 α2 x2 S2 o2=>?_) λ_ _ h=>h.mono x1
 obtain⟨w,h9,post⟩:=R.bB h
 obtain⟨t,u,w',ht,hu,h,rfl⟩:=t_ h9
 exact hs F2 H2 v v2 t u w' Q S2.st.ext (aU S2.st (o1.mono x2.same x2.pre) ht) (aU S2.st o2 hu) h λv' H' F' g rp =>
  post v' H' F' α2 (x1.trans (x2.trans (g.ex S2.st.ext))) (S2.grow g) rp
theorem qk{op:Operator}{r:R2}{f:T→T→Option T}(ho:OpR X (binaryOp op) r)(hs:dO X.K r f)(ha:CE X a da)(hb:CE X b db):CE X (.BinOp a op b pos) (ah f da db) :=
 PE.imp (Jm ho ha hb) (two hs)
theorem xW{op:CmpOp}{r:R2}{f:T→T→Option T}(ho:OpR X (compareOp op) r)(hs:dO X.K r f)(hm:behindInMarks op b=false)(ha:CE X a da)(hb:CE X b db):CE X (.Compare a [op] [b] pos) (ah f da db) :=
 PE.imp (GJ ho ha hb hm) (two hs)
theorem one{r:V→Hp→VK→Prop}{f:T→Option T}(hs:Ju X.K r f)(σ:St)(H:Hp)(Q:VK)(h:tD X (dUn f da) σ H Q):tUn r (tD X da) σ H Q:=by
 obtain⟨F,α,e,μ,S,h⟩:=h
 refine⟨F,α,e,μ,S,?_⟩
 refine(R.wp_bind h).mono (λx μ1 h v H1 F1 α1 x1 S1 o1=>?_) λ_ _ h=>h
 obtain⟨w,h9,post⟩:=R.bB h
 obtain⟨t,w',ht,h,rfl⟩:=lR h9
 exact hs F1 H1 v t w' Q S1.st.ext (aU S1.st o1 ht) h λv' H' F' g rp =>
  post v' H' F' α1 (x1.trans (g.ex S1.st.ext)) (S1.grow g) rp
theorem Ny{op:UnaryOp}{r:V→Hp→VK→Prop}{f:T→Option T}(ho:UnR X (unaryOp op) r)(hs:Ju X.K r f)(ha:CE X a da):CE X (.UnaryOp op a pos) (dUn f da):=PE.imp (M3 ho ha) (one hs)
theorem aq:CA X [] []:=PA.imp Ks λσ H Q ⟨F,α,e,μ,S,h⟩=>h [] H F α Ex.refl S .nil
theorem ag{es:List Expr}{ds:List D}(ha:CE X a da)(hr:CA X es ds)(hs:starEach (a::es) X.env=(false,eval a X.env)::starEach es X.env:=by rfl):CA X (a::es) (da::ds) :=
 PA.imp (GL ha hr hs) λσ H Q au=>by
  obtain⟨F,α,e,μ,S,h⟩:=au
  rw[bg] at h
  refine⟨F,α,e,μ,S,(R.wp_bind h).mono (λx μ1 h v H1 F1 α1 x1 S1 o1=>⟨F1,α1,e,μ1,S1,?_⟩) λ_ _ h=>h⟩
  refine(R.wp_bind h).mono (λxs μ2 h vs H2 F2 α2 x2 S2 o2=>?_) λ_ _ h=>h.mono x1
  exact h (v::vs) H2 F2 α2 (x1.trans x2) S2 (.cons (o1.mono x2.same x2.pre) o2)
theorem sm:∀{ds:List D}{e:Slots}{μ μ':af}{xs:List SV},cU ds e μ=.ok xs μ'→xs.length=ds.length
 | [],e,μ,μ',xs,h=>by cases h;rfl
 | d::ds,e,μ,μ',xs,h=>by
  rw[bg] at h
  obtain⟨x,μ1,hx,h⟩:=R.aS h
  obtain⟨ys,μ2,hy,h⟩:=R.aS h
  cases h
  rw[List.length_cons,List.length_cons,sm hy]
theorem dA{ds:List D}{e:Slots}{μ:af}{Q:List SV→af→Prop}{E:T→af→Prop}(h:(cU ds e μ).wp Q E):(cU ds e μ).wp (λxs μ'=>xs.length=ds.length∧Q xs μ') E:=by
 cases q:cU ds e μ with
 | ok xs μ'=>rw[q] at h;exact⟨sm q,h⟩
 | err c μ'=>rw[q] at h;exact h
 | bad=>rw[q] at h;exact h
theorem kQ{n:Nat}{xs:List SV}{vs:List V}{P:V→SV→Prop}(h:xs.length=n)(o:Paired P vs xs)(hl:n≤1000):vs.length≤sizeLine:=by
 have e1:=o.length
 exact Nat.le_of_lt (BG (by lia))
theorem eT{es:List Expr}{ds:List D}{x1}(h:CA X es ds)(hl:ds.length≤1000:=by decide):CE X (.Tuple es x1 pos) (cV ds) :=
 PE.imp (De h) λσ H Q au=>by
  obtain⟨F,α,e,μ,S,h⟩:=au
  refine⟨F,α,e,μ,S,(dA (R.wp_bind h)).mono (λxs μ1 cK vs H1 F1 α1 x1 S1 o1=>?_) λ_ _ h=>h⟩
  obtain⟨hn,h⟩:=cK
  have h:=R.wp_bind h
  cases hz:c8 xs μ1 with
  | err c μ2 =>
   exact absurd hz (pz xs μ1 c μ2)
  | bad=>rw[hz] at h;exact h.elim
  | ok ts μ2 =>
   rw[hz] at h
   obtain⟨F2,s2,n2,S2,r2⟩:=pC S1.st o1 hz
   refine⟨kQ hn o1 hl,λp hp=>?_⟩
   have g:bw F2 H1 (upd F2 p (.tup vs)) (upd H1 p (.tup vs)):=bw.new hp
   refine h _ _ (upd F2 p (.tup vs)) α1 (x1.trans ((Ex.oB s2 n2).trans (g.ex S2.ext))) ((S1.of s2 (List.prefix_refl _) S2).grow g) ?_
   show Rep X.K _ (.tup ts) _
   rw[Rep]
   exact⟨p,vs,rfl,SqT.of aB,aD.mono (g.same S2.ext) _ _ r2⟩
theorem ql{K:PySem.W.Frag}{F:Hp}{α:List Addr}:∀{xs:List SV}{vs:List V}{ys:List (Sum T Nat)},Paired (λv x=>dY K F α v x) vs xs→boxed xs=some ys→Paired (um K F α) vs ys
 | [],vs,ys,p,h=>by cases p;cases h;exact .nil
 | .val t::xs,vs,ys,p,h=>by
  cases p with
  | cons hv p =>
   obtain⟨zs,h1,rfl⟩:=Option.map_eq_some_iff.mp (show(boxed xs).map _=some ys from h)
   exact .cons hv (ql p h1)
 | .cel t::xs,vs,ys,p,h=>by
  cases p with
  | cons hv p =>
   obtain⟨zs,h1,rfl⟩:=Option.map_eq_some_iff.mp (show(boxed xs).map _=some ys from h)
   exact .cons hv (ql p h1)
 | .box t::xs,vs,ys,p,h=>by cases h
theorem kc{es:List Expr}{ds:List D}{x1}(h:CA X es ds)(hl:ds.length≤1000:=by decide):CE X (.Tuple es x1 pos) (fN ds) :=
 PE.imp (De h) λσ H Q au=>by
  obtain⟨F,α,e,μ,S,h⟩:=au
  refine⟨F,α,e,μ,S,(dA (R.wp_bind h)).mono (λxs μ1 cK vs H1 F1 α1 x1 S1 o1=>?_) λ_ _ h=>h⟩
  obtain⟨hn,h⟩:=cK
  obtain⟨ys,hy,h⟩:=R.bB (R.wp_bind h)
  refine⟨kQ hn o1 hl,λp hp=>?_⟩
  have g:bw F1 H1 (upd F1 p (.tup vs)) (upd H1 p (.tup vs)):=bw.new hp
  refine h _ _ (upd F1 p (.tup vs)) α1 (x1.trans (g.ex S1.st.ext)) (S1.grow g) ?_
  exact⟨p,vs,rfl,SqT.of aB,Paired.imp' (λ_ _ z=>um.mono (g.same S1.st.ext) (List.prefix_refl _) z) (ql o1 hy)⟩
def tF(X:Cx)(d:D):TE:=λσ H Q=>∃F α e μ,Sim X.K F α e μ σ H∧(d e μ).wp (λx μ'=>∃t,x=.val t ∧
 ∀p H' F' α',Ex F α H F' α' H'→Sim X.K F' α' e μ' σ H'→H p=none→F' p=none→p∉α'→gE X.K F' H' p t→Q (.ref p) H') (eG X F α H e)
def CF(X:Cx)(e:Expr)(d:D):Prop:=PE X e (tF X d)∧∀e μ x μ',d e μ=.ok x μ'→∃t,x=.val t
theorem R.DX{P:SV→af→Prop}{r:R SV}{E:T→af→Prop}(h:r.wp P E):r.wp (λx μ=>r=.ok x μ∧P x μ) E:=by
 cases r with
 | ok a μ=>exact⟨rfl,h⟩
 | err c μ=>exact h
 | bad=>exact h
theorem vT{σ:St}{H:Hp}{Q:VK}(h2:∀e μ x μ',da e μ=.ok x μ'→∃t,x=.val t)(h:tD X da σ H Q):tF X da σ H Q:=by
 obtain⟨F,α,e,μ,S,hd⟩:=h
 refine⟨F,α,e,μ,S,(R.DX hd).mono (λx μ' au=>?_) λ_ _ h=>h⟩
 obtain⟨hx,post⟩:=au
 obtain⟨t,rfl⟩:=h2 e μ x μ' hx
 refine⟨t,rfl,λp H1 F1 α1 x1 S1 h0 hp hn c=>?_⟩
 obtain⟨o,ho⟩:=c.there
 have s2:aN F1 (upd F1 p o):=λb z hz=>by
  rw[aG (λq=>by subst q;rw[hp] at hz;cases hz)];exact hz
 have st:cx X.K (upd F1 p o) α1 μ' H1:=by
  refine⟨λb z hz=>?_,S1.st.len,S1.st.nd,S1.st.there,λk b u a' h1 h2=>?_,S1.st.tps.mono s2⟩
  ·by_cases eb:b=p
   ·subst eb;rw[aB] at hz;cases hz;exact ho
   ·rw[aG eb] at hz;exact S1.st.ext b z hz
  ·have na:a'≠p:=λq=>by subst q;exact hn (List.mem_of_getElem? h2)
   obtain⟨c1,c2⟩:=S1.st.cell k b u a' h1 h2
   refine⟨λhb=>⟨by rw[aG na];exact(c1 hb).1,?_⟩,λhb=>Rep.mono s2 _ _ (c2 hb)⟩
   have d2:=(c1 hb).2
   cases u with
   | lst ts=>obtain⟨vs,w1,w2⟩:=d2;exact⟨vs,w1,aD.mono s2 _ _ w2⟩
   | dct ts=>obtain⟨vs,w1,w2⟩:=d2;exact⟨vs,w1,bj.mono s2 _ _ w2⟩
   | dtt fz ts=>exact d2
   | _=>exact d2.elim
 refine post _ _ (upd F1 p o) α1 (x1.ice h0 hp) (S1.of s2 (List.prefix_refl _) st) ?_
 show Rep X.K _ t _
 cases t with
 | lst ts=>obtain⟨vs,w1,w2⟩:=c;rw[w1] at ho;cases ho;rw[Rep];exact⟨p,vs,rfl,SqL.of aB,aD.mono s2 _ _ w2⟩
 | dct ts=>obtain⟨vs,w1,w2⟩:=c;rw[w1] at ho;cases ho;rw[Rep];exact⟨p,vs,rfl,aB,bj.mono s2 _ _ w2⟩
 | dtt fz ts=>obtain⟨d4,d3⟩:=c;rw[d3] at ho;cases ho;rw[Rep];exact⟨p,rfl,.inl ⟨d4,aB⟩⟩
 | _=>exact c.elim
theorem CF.ce(h:CF X a da):CE X a da:=PE.imp h.1 λσ H Q q=>vT h.2 q
theorem BO{σ:St}{H:Hp}{Q:VK}(h2:∀e μ x μ',da e μ=.ok x μ'→∃t,x=.val t)(h:tD X (br da) σ H Q):tF X da σ H Q:=by
 obtain⟨F,α,e,μ,S,hd⟩:=h
 rw[p9] at hd
 refine⟨F,α,e,μ,S,(R.DX (R.wp_bind hd)).mono (λx μ1 au=>?_) λ_ _ h=>h⟩
 obtain⟨hx,post⟩:=au
 obtain⟨t,rfl⟩:=h2 e μ x μ1 hx
 refine⟨t,rfl,λp H1 F1 α1 x1 S1 h0 hp hn c=>?_⟩
 obtain⟨o,ho⟩:=c.there
 have qh:∀{k:Nat}{a:Addr},(α1++[p])[k]?=some a→(k<α1.length∧α1[k]?=some a)∨(k=α1.length∧a=p):=λ{k a} h=>by
  by_cases hk:k<α1.length
  ·rw[List.getElem?_append_left hk] at h;exact .inl ⟨hk,h⟩
  ·rw[List.getElem?_append_right (by lia)] at h
   by_cases h0:k-α1.length=0
   ·rw[h0] at h;simp at h;exact .inr ⟨by lia,h.symm⟩
   ·rw[List.getElem?_eq_none (by simp;lia)] at h;cases h
 have st:cx X.K F1 (α1++[p]) (μ1++[(true,t)]) H1:=by
  refine⟨S1.st.ext,by simp[S1.st.len],?_,λk a h=>?_,λk b u a h1 h2=>?_,S1.st.tps⟩
  ·rw[List.nodup_append]
   refine⟨S1.st.nd,by simp,λa ha b hb=>?_⟩
   simp at hb
   subst hb
   exact λq=>hn (by rw[← q];exact ha)
  ·rcases qh h with ⟨_,g⟩|⟨_,rfl⟩
   ·exact S1.st.there k a g
   ·exact⟨o,ho⟩
  ·rcases qh h2 with ⟨hk,g⟩|⟨hk,rfl⟩
   ·rw[List.getElem?_append_left (by rw[← S1.st.len];exact hk)] at h1
    exact S1.st.cell k b u a h1 g
   ·rw[hk,S1.st.len] at h1
    simp at h1
    obtain⟨rfl,rfl⟩:=h1
    exact⟨λ_=>⟨hp,c⟩,λz=>(by cases z)⟩
 refine post _ _ F1 (α1++[p]) (x1.more h0) (S1.of (aN.refl _) (List.prefix_append _ _) st) ⟨p,?_,rfl⟩
 rw[List.getElem?_append_right (by rw[S1.st.len];exact Nat.le_refl _),S1.st.len]
 simp
theorem CF.cell(h:CF X a da):CE X a (br da):=PE.imp h.1 λσ H Q q=>BO h.2 q
theorem b6{K:PySem.W.Frag}{F H:Hp}{α:List Addr}{μ:af}{p:Addr}(S:cx K F α μ H)(h:H p=none):p∉α:=λhm=>by
 obtain⟨k,hk⟩:=List.mem_iff_getElem?.mp hm
 obtain⟨o,ho⟩:=S.there k p hk
 rw[h] at ho;cases ho
theorem cx.lay{K:PySem.W.Frag}{F H:Hp}{α:List Addr}{μ:af}{p:Addr}{o:HO}(S:cx K F α μ H)(h:H p=none)(n:NT o:=by intro _ h;cases h):cx K F α μ (upd H p o):=by
 have hup:∀c z,H c=some z→(upd H p o) c=some z:=λc z hz=>by
  rw[aG (λq=>by subst q;rw[h] at hz;cases hz)];exact hz
 refine⟨λa z hz=>hup _ _ (S.ext a z hz),S.len,S.nd,λk a g=>?_,λk b u a h1 h2=>?_,S.tps.upd n⟩
 ·obtain⟨z,hz⟩:=S.there k a g
  exact⟨z,hup _ _ hz⟩
 ·obtain⟨c1,c2⟩:=S.cell k b u a h1 h2
  refine⟨λhb=>⟨(c1 hb).1,?_⟩,c2⟩
  have d2:=(c1 hb).2
  cases u with
  | lst ts=>obtain⟨vs,w1,w2⟩:=d2;exact⟨vs,hup _ _ w1,w2⟩
  | dct ts=>obtain⟨vs,w1,w2⟩:=d2;exact⟨vs,hup _ _ w1,w2⟩
  | dtt fz ts=>exact⟨d2.1,hup _ _ d2.2⟩
  | _=>exact d2.elim
theorem cJ{es:List Expr}{ds:List D}(h:CA X es ds)(hl:ds.length≤1000:=by decide):CF X (.List es pos) (bD ds) :=
 ⟨PE.imp (Df h) λσ H Q au=>by
  obtain⟨F,α,e,μ,S,h⟩:=au
  refine⟨F,α,e,μ,S,(dA (R.wp_bind h)).mono (λxs μ1 cK vs H1 F1 α1 x1 S1 o1=>?_) λ_ _ h=>h⟩
  obtain⟨hn,h⟩:=cK
  have h:=R.wp_bind h
  cases hz:c8 xs μ1 with
  | err c μ2 =>
   exact absurd hz (pz xs μ1 c μ2)
  | bad=>rw[hz] at h;exact h.elim
  | ok ts μ2 =>
   rw[hz] at h
   obtain⟨t,e1,post⟩:=h
   cases e1
   obtain⟨F2,s2,n2,S2,r2⟩:=pC S1.st o1 hz
   refine⟨kQ hn o1 hl,λp hp=>?_⟩
   exact post p _ F2 α1 (x1.trans ((Ex.oB s2 n2).trans (Ex.lay hp))) (S1.of s2 (List.prefix_refl _) (S2.lay hp)) (x1.was S1.st hp) (S2.ext.free hp) (b6 S2 hp) ⟨vs,aB,r2⟩,
 λe μ x μ' h=>by
  unfold bD at h
  obtain⟨xs,μ1,hx,h⟩:=R.aS h
  obtain⟨ts,μ2,hz,h⟩:=R.aS h
  cases h
  exact⟨_,rfl⟩⟩
theorem zZ{f:T→Option T}{e:Slots}{μ μ':af}{x:SV}(h:dUn f da e μ=.ok x μ'):∃t,x=.val t:=by
 unfold dUn at h
 obtain⟨x,μ1,hx,h⟩:=R.aS h
 obtain⟨h9,rfl⟩:=R.lQ h
 obtain⟨t,w',ht,h,rfl⟩:=lR h9
 exact⟨_,rfl⟩
theorem oE{σ:St}{H:Hp}{Q:List V→Hp→Prop}(h:tD X da σ H λv H'=>Q [v] H'):tDA X [da] σ H Q:=by
 obtain⟨F,α,e,μ,S,h⟩:=h
 refine⟨F,α,e,μ,S,?_⟩
 rw[bg]
 cases q:da e μ with
 | err c μ1=>rw[q] at h;exact h
 | bad=>rw[q] at h;exact h
 | ok x μ1 =>
  rw[q] at h
  intro vs H1 F1 α1 x1 S1 o1
  cases o1 with
  | cons o1 o2=>cases o2;exact h _ H1 F1 α1 x1 S1 o1
theorem Jv{r:List V→Hp→VK→Prop}{f:T→Option T}(hs:qi X.K r f)(σ:St)(H:Hp)(Q:VK)(h:tD X (dUn f da) σ H Q):tCB r (tDA X [da]) σ H Q :=
 oE (one (r:=λv H Q=>r [v] H Q) hs σ H Q h)
theorem DY{r:List V→Hp→VK→Prop}{f:T→Option T}(hs:vS X.K r f)(σ:St)(H:Hp)(Q:VK)(h:tF X (dUn f da) σ H Q):tCB r (tDA X [da]) σ H Q:=by
 refine oE ?_
 obtain⟨F,α,e,μ,S,h⟩:=h
 refine⟨F,α,e,μ,S,?_⟩
 refine(R.wp_bind h).mono (λx μ1 h v H1 F1 α1 x1 S1 o1=>?_) λ_ _ h=>h
 obtain⟨w,h9,t',e1,post⟩:=R.bB h
 obtain⟨t,w',ht,h,e2⟩:=lR h9
 subst e1
 cases e2
 exact hs F1 H1 _ t _ Q S1.st.ext (aU S1.st o1 ht) h λp o hp c =>
  post p _ F1 α1 (x1.trans (Ex.lay hp)) (S1.of (aN.refl _) (List.prefix_refl _) (S1.st.lay hp c.nt)) (x1.was S1.st hp) (S1.st.ext.free hp) (b6 S1.st hp) c
theorem call2{r:List V→Hp→VK→Prop}{f:T→T→Option T}(hs:vR X.K r f)(σ:St)(H:Hp)(Q:VK)(h:tD X (ah f da db) σ H Q):tCB r (tDA X [da,db]) σ H Q:=by
 obtain⟨F,α,e,μ,S,h⟩:=h
 refine⟨F,α,e,μ,S,?_⟩
 rw[bg]
 cases q:da e μ with
 | err c μ1=>rw[gf,q] at h;exact h
 | bad=>rw[gf,q] at h;exact h
 | ok x μ1 =>
  rw[gf,q] at h
  rw[R.aL] at h ⊢
  rw[bg]
  cases q2:db e μ1 with
  | err c μ2=>rw[q2] at h;exact h
  | bad=>rw[q2] at h;exact h
  | ok y μ2 =>
   rw[q2] at h
   intro vs H1 F1 α1 x1 S1 o1
   cases o1 with
   | cons o1 o2 =>
    cases o2 with
    | cons o2 o3 =>
     cases o3
     obtain⟨w,h9,post⟩:=R.bB h
     obtain⟨t,u,w',ht,hu,h,rfl⟩:=t_ h9
     exact hs F1 H1 _ _ t u w' Q S1.st.ext (aU S1.st o1 ht) (aU S1.st o2 hu) h λv' H' F' g rp =>
      post v' H' F' α1 (x1.trans (g.ex S1.st.ext)) (S1.grow g) rp
end
theorem xX{x:SV}{k:Bool}(h:asB x=some k):x=.val (.bl k):=by
 cases x with
 | val t=>cases t<;>first|(cases h;rfl)|cases h
 | cel j=>cases h
 | box xs=>cases h
theorem kR{β:Type}{r:R SV}{f:Bool→af→R β}{Q:β→af→Prop}{E:T→af→Prop}(h:(r.bind λy μ1=>(R.lift (asB y) μ1).bind f).wp Q E) :
  r.wp (λx μ=>∃k,x=.val (.bl k)∧(f k μ).wp Q E) E:=(R.wp_bind h).mono (λx μ h=>by
 obtain⟨k,hk,h⟩:=R.bB (R.wp_bind h)
 exact⟨k,xX hk,h⟩) λ_ _ h=>h
def CW(X:Cx)(e:Expr)(d:D):Prop:=PW X e (tDT X d)
theorem PW.imp{X:Cx}{e:Expr}{t t':TT}(h:PW X e t)(i:∀σ H Q,t' σ H Q→t σ H Q):PW X e t':=λwhole pins s σ H Q I q=>h whole pins s σ H Q I (i σ H Q q)
theorem su{X:Cx}{d:D}{σ:St}{H:Hp}{Q:Bool→Hp→Prop}(h:tDT X d σ H Q):tD X d σ H λx H'=>∃k,x=.bl k∧Q k H':=by
 obtain⟨F,α,e,μ,S,h⟩:=h
 refine⟨F,α,e,μ,S,h.mono (λx μ' au v H' F' α' y S' o=>?_) λ_ _ h=>h⟩
 obtain⟨b,hb,post⟩:=au
 subst hb
 exact⟨b,Rep.gT (K:=X.K) (F:=F') o,post H' F' α' y S'⟩
section
variable{X:Cx}{a b c:Expr}{da db dc:D}{pos:Pos}{rest:List Expr}
theorem eI(h:CE X a da)(he:∀whole,isTrue a X.env whole=(do let v ← whole;standAt a.pos;holding [v] (truthy v)):=by intro _;rfl):CT X a da :=
 PT.imp (J2 h he) λσ H Q q=>su q
theorem gF{op:CmpOp}{r:R2}{f:T→T→Option T}(ho:OpR X (compareOp op) r)(hs:dO X.K r f)(hm:behindInMarks op b=false)(ha:CE X a da)(hb:CE X b db):CT X (.Compare a [op] [b] pos) (ah f da db) :=
 PT.imp (GK ho ha hb hm) λσ H Q q=>two hs σ H _ (su q)
theorem K8(h:CT X a da):CT X (.UnaryOp .Not a pos) (p8 da):=PT.imp (J5 h) λσ H Q au=>by
 obtain⟨F,α,e,μ,S,h⟩:=au
 refine⟨F,α,e,μ,S,(kR h).mono (λx μ1 ⟨k,hx,b,hb,h⟩=>⟨k,hx,?_⟩) λ_ _ h=>h⟩
 cases hb
 exact h
theorem eU(h:CT X a da):CW X (.BoolOp .And [a] pos) da:=GB h
theorem nC(h:CT X a da):CW X (.BoolOp .Or [a] pos) da:=J3 h
theorem CW.ct(h:CW X a da):CT X a da:=PW.pt h
theorem nD(ha:CT X a da)(hb:CW X (.BoolOp .And (b::rest) pos) db):CW X (.BoolOp .And (a::b::rest) pos) (ij da db) :=
 PW.imp (J4 ha hb) λσ H Q au=>by
  obtain⟨F,α,e,μ,S,h⟩:=au
  refine⟨F,α,e,μ,S,(kR h).mono (λx μ1 ⟨k,hx,h⟩=>⟨k,hx,λH1 F1 α1 x1 S1=>?_⟩) λ_ _ h=>h⟩
  cases k with
  | true =>
   rw[if_pos rfl] at h ⊢
   exact⟨F1,α1,e,μ1,S1,h.mono (λy μ2 ⟨b,hb,h⟩=>⟨b,hb,λH2 F2 α2 x2 S2=>h H2 F2 α2 (x1.trans x2) S2⟩) λ_ _ h=>h.mono x1⟩
  | false =>
   rw[if_neg Bool.false_ne_true] at h ⊢
   obtain⟨b,hb,h⟩:=h
   cases hb
   exact h H1 F1 α1 x1 S1
theorem vU(ha:CT X a da)(hb:CW X (.BoolOp .Or (b::rest) pos) db):CW X (.BoolOp .Or (a::b::rest) pos) (dOr da db) :=
 PW.imp (MR ha hb) λσ H Q au=>by
  obtain⟨F,α,e,μ,S,h⟩:=au
  refine⟨F,α,e,μ,S,(kR h).mono (λx μ1 ⟨k,hx,h⟩=>⟨k,hx,λH1 F1 α1 x1 S1=>?_⟩) λ_ _ h=>h⟩
  cases k with
  | true =>
   rw[if_pos rfl] at h ⊢
   obtain⟨b,hb,h⟩:=h
   cases hb
   exact h H1 F1 α1 x1 S1
  | false =>
   rw[if_neg Bool.false_ne_true] at h ⊢
   exact⟨F1,α1,e,μ1,S1,h.mono (λy μ2 ⟨b,hb,h⟩=>⟨b,hb,λH2 F2 α2 x2 S2=>h H2 F2 α2 (x1.trans x2) S2⟩) λ_ _ h=>h.mono x1⟩
theorem K9{op}(h:CE X a da):CE X (.BoolOp op [a] pos) da:=J6 h
theorem K_(ha:CE X a da)(hb:CE X (.BoolOp .And (b::rest) pos) db):CE X (.BoolOp .And (a::b::rest) pos) (ij da db) :=
 PE.imp (J7 ha hb) λσ H Q au=>by
  obtain⟨F,α,e,μ,S,h⟩:=au
  refine⟨F,α,e,μ,S,(kR h).mono (λx μ1 cK v H1 F1 α1 x1 S1 o1=>?_) λ_ _ h=>h⟩
  obtain⟨k,hx,h⟩:=cK
  subst hx
  refine⟨k,Rep.gT (K:=X.K) (F:=F1) o1,?_⟩
  cases k with
  | true =>
   rw[if_pos rfl] at h ⊢
   exact⟨F1,α1,e,μ1,S1,h.mono (λy μ2 h v H2 F2 α2 x2 S2 o2=>h v H2 F2 α2 (x1.trans x2) S2 o2) λ_ _ h=>h.mono x1⟩
  | false =>
   rw[if_neg Bool.false_ne_true] at h ⊢
   exact h _ H1 F1 α1 x1 S1 (Rep.bl' (K:=X.K) (F:=F1) _)
theorem DZ(ha:CE X a da):CE X (.UnaryOp .Not a pos) (p8 da):=PE.imp (J8 ha) λσ H Q au=>by
 obtain⟨F,α,e,μ,S,h⟩:=au
 refine⟨F,α,e,μ,S,(kR h).mono (λx μ1 cK v H1 F1 α1 x1 S1 o1=>?_) λ_ _ h=>h⟩
 obtain⟨k,hx,h⟩:=cK
 subst hx
 refine⟨k,Rep.gT (K:=X.K) (F:=F1) o1,?_⟩
 exact h _ H1 F1 α1 x1 S1 (Rep.bl' (K:=X.K) (F:=F1) _)
theorem La(hc:CT X c dc)(ha:CE X a da)(hb:CE X b db):CE X (.IfExp c a b pos) (DF dc da db) :=
 PE.imp (C6 hc ha hb) λσ H Q au=>by
  obtain⟨F,α,e,μ,S,h⟩:=au
  refine⟨F,α,e,μ,S,(kR h).mono (λx μ1 ⟨k,hx,h⟩=>⟨k,hx,λH1 F1 α1 x1 S1=>?_⟩) λ_ _ h=>h⟩
  cases k with
  | true =>
   rw[if_pos rfl] at h ⊢
   exact⟨F1,α1,e,μ1,S1,h.mono (λy μ2 h v H2 F2 α2 x2 S2 o2=>h v H2 F2 α2 (x1.trans x2) S2 o2) λ_ _ h=>h.mono x1⟩
  | false =>
   rw[if_neg Bool.false_ne_true] at h ⊢
   exact⟨F1,α1,e,μ1,S1,h.mono (λy μ2 h v H2 F2 α2 x2 S2 o2=>h v H2 F2 α2 (x1.trans x2) S2 o2) λ_ _ h=>h.mono x1⟩
end
def aR(X:Cx)(F:Hp)(α:List Addr)(H:Hp)(D:Ends):RS→Prop
 | .nx e' μ'=>∀σ' H' F' α',Ex F α H F' α' H'→Sim X.K F' α' e' μ' σ' H'→D.nx σ' H'
 | .rt x μ'=>∀v H' F' α',Ex F α H F' α' H'→cx X.K F' α' μ' H'→dY X.K F' α' v x→D.rt v H'
 | .bk e' μ'=>∀σ' H' F' α',Ex F α H F' α' H'→Sim X.K F' α' e' μ' σ' H'→D.bk σ' H'
 | .ct e' μ'=>∀σ' H' F' α',Ex F α H F' α' H'→Sim X.K F' α' e' μ' σ' H'→D.ct σ' H'
 | .err c e' μ'=>eG X F α H e' c μ'
 | .bad=>False
theorem aR.mono{X:Cx}{F F' H H':Hp}{α α':List Addr}{D:Ends}{r:RS}(x:Ex F α H F' α' H')(h:aR X F α H D r):aR X F' α' H' D r:=by
 cases r with
 | nx e μ=>exact λσ H F2 α2 x2=>h σ H F2 α2 (x.trans x2)
 | rt y μ=>exact λσ H F2 α2 x2=>h σ H F2 α2 (x.trans x2)
 | bk e μ=>exact λσ H F2 α2 x2=>h σ H F2 α2 (x.trans x2)
 | ct e μ=>exact λσ H F2 α2 x2=>h σ H F2 α2 (x.trans x2)
 | err c e μ=>exact eG.mono x h
 | bad=>exact h
def tDS(X:Cx)(d:DS):TS:=λD σ H=>∃F α e μ,Sim X.K F α e μ σ H∧aR X F α H D (d e μ)
def CS(X:Cx)(st:Stmt)(d:DS):Prop:=PS X st (tDS X d)
def CSs(X:Cx)(st:List Stmt)(d:DS):Prop:=PSs X st (tDS X d)
theorem aR.toS{α':Type}{X:Cx}{F H:Hp}{α:List Addr}{D:Ends}{x:R α'}{e:Slots}{f:α'→af→RS}(h:aR X F α H D (x.toS e f)):x.wp (λa μ=>aR X F α H D (f a μ)) (eG X F α H e):=by
 cases x with
 | ok a μ=>exact h
 | err c μ=>exact h
 | bad=>exact h
theorem aR.lift{α':Type}{X:Cx}{F H:Hp}{α:List Addr}{D:Ends}{o:Option α'}{μ:af}{e:Slots}{f:α'→af→RS}(h:aR X F α H D ((R.lift o μ).toS e f)):∃a,o=some a∧aR X F α H D (f a μ):=R.bB h.toS
theorem aR.asB{X:Cx}{F H:Hp}{α:List Addr}{D:Ends}{x:R SV}{e:Slots}{f:Bool→af→RS}(h:aR X F α H D (x.toS e λy μ1=>(R.lift (Fw.asB y) μ1).toS e f)):x.wp (λy μ1=>∃k,y=.val (.bl k)∧aR X F α H D (f k μ1)) (eG X F α H e) :=
 h.toS.mono (λy μ h=>by
  obtain⟨k,hk,h⟩:=h.lift
  exact⟨k,xX hk,h⟩) λ_ _ h=>h
section
variable{X:Cx}{st:Stmt}{sts:List Stmt}{d d1 d2:DS}{e:Expr}{de:D}{pos:Pos}
theorem aV:CSs X [] bA:=PSs.imp GC λD σ H ⟨F,α,e,μ,S,h⟩=>h σ H F α Ex.refl S
theorem av(h:CS X st d):CSs X [st] d:=GD h
theorem ai(h1:CS X st d1)(h2:CSs X sts d2):CSs X (st::sts) (ar d1 d2):=PSs.imp (C7 h1 h2) λD σ H au=>by
 obtain⟨F,α,e,μ,S,h⟩:=au
 refine⟨F,α,e,μ,S,?_⟩
 unfold ar at h
 cases q:d1 e μ with
 | nx e1 μ1 =>
  rw[q] at h
  exact λσ' H' F' α' x S'=>⟨F',α',e1,μ1,S',h.mono x⟩
 | rt x μ1=>rw[q] at h;exact h
 | bk e1 μ1=>rw[q] at h;exact h
 | ct e1 μ1=>rw[q] at h;exact h
 | err c e1 μ1=>rw[q] at h;exact h
 | bad=>rw[q] at h;exact h
theorem aE(he:CE X e de):CS X (.Return (some e) pos) (aA de):=PS.imp (J9 he) λD σ H ⟨F,α,e,μ,S,h⟩ =>
 ⟨F,α,e,μ,S,(aR.toS h).mono (λx μ1 h v H1 F1 α1 x1 S1 o1=>h v H1 F1 α1 x1 S1.st o1) λ_ _ h=>h⟩
theorem slot_set{e:Slots}{i j:Nat}{x y:SV}(h:slot (e.set i (some x)) j=some y):(j=i∧y=x)∨slot e j=some y:=by
 unfold slot at h
 by_cases q:i=j
 ·subst q
  by_cases hl:i<e.length
  ·rw[List.getElem?_set_self hl] at h
   cases h
   exact .inl ⟨rfl,rfl⟩
  ·rw[List.getElem?_eq_none (by rw[List.length_set];omega)] at h
   cases h
 ·rw[List.getElem?_set_ne q] at h
  exact .inr h
theorem Sim.set{K:PySem.W.Frag}{F H:Hp}{α:List Addr}{e:Slots}{μ:af}{σ:St}{v:V}{x:SV}{i:Nat}(S:Sim K F α e μ σ H)(o:dY K F α v x):Sim K F α (e.set i (some x)) μ (σ.set i (some v)) H:=by
 refine⟨S.st,λj y h=>?_,by rw[List.length_set,List.length_set,S.len]⟩
 by_cases q:i=j
 ·subst q
  have hl:i<e.length:=by
   unfold slot at h
   by_cases hl:i<e.length
   ·exact hl
   ·rw[List.getElem?_eq_none (by rw[List.length_set];omega)] at h
    cases h
  have hy:y=x:=by
   unfold slot at h
   rw[List.getElem?_set_self hl] at h
   cases h;rfl
  subst hy
  exact⟨v,by rw[List.getElem?_set_self (by rw[← S.len];exact hl)],o⟩
 ·rcases slot_set h with ⟨rfl,_⟩|h
  ·exact absurd rfl q
  ·obtain⟨w,h1,h2⟩:=S.sl j y h
   exact⟨w,by rw[List.getElem?_set_ne q];exact h1,h2⟩
theorem aI(i:Nat){x:Str}{pos':Pos}(hN:X.N.Nodup)(he:CE X e de)(hi:X.N[i]?=some x:=by rfl)(hx:Loc X.env.scope x:=by first|exact Or.inl rfl|exact Or.inr rfl)(hs:swapsWith e (some (.Name x pos')) pos.line X.env=pure false:=by rfl)
  (hf:X.fn x=true∨X.env.scope.names.lookup x=some .local:=by first|exact .inl rfl|exact .inr rfl|assumption):CS X (.Assign [.Name x pos'] e pos) (ay i de) :=
 PS.imp (Kg hN hi hx he hs hf) λD σ H ⟨F,α,e,μ,S,h⟩ =>
  ⟨F,α,e,μ,S,(aR.toS h).mono (λx μ1 h v H1 F1 α1 x1 S1 o1=>h _ H1 F1 α1 x1 (S1.set o1)) λ_ _ h=>h⟩
theorem cz{c:Expr}{as bs:List Stmt}{dc:D}(hc:CT X c dc)(ha:CSs X as d1)(hb:CSs X bs d2):CS X (.If c as bs pos) (sIf dc d1 d2):=PS.imp (MW hc ha hb) λD σ H au=>by
 obtain⟨F,α,e,μ,S,h⟩:=au
 refine⟨F,α,e,μ,S,(aR.asB h).mono (λx μ1 ⟨k,hk,h⟩=>⟨k,hk,λH1 F1 α1 x1 S1=>?_⟩) λ_ _ h=>h⟩
 cases k with
 | true=>exact⟨F1,α1,e,μ1,S1,aR.mono x1 h⟩
 | false=>exact⟨F1,α1,e,μ1,S1,aR.mono x1 h⟩
theorem Lb:CS X st ug:=PS.imp C8 λD σ H ⟨F,α,e,μ,S,h⟩=>h
end
end Fw
namespace Fw
open PySem PySem.Spec PyProof.Rows L2
def Lc(K:PySem.W.Frag)(F:Hp)(α:List Addr)(J:It)(W:Wk):Prop:=∀F2 α2 μ2 H2,aN F F2→α <+: α2→cx K F2 α2 μ2 H2→W.same μ2 →
 (∀i t,W.items[i]?=some t→J.go i H2∧∀x H3,J.yld i H2 x H3→∃F3,bw F2 H2 F3 H3∧Rep K F3 t x)∧J.stop W.items.length H2
def tDI(X:Cx)(d:DI):TI:=λσ H R=>∃F α e μ,Sim X.K F α e μ σ H∧(d e μ).wp (λW μ' =>
 ∀J H' F' α',Ex F α H F' α' H'→Sim X.K F' α' e μ' σ H'→Lc X.K F' α' J W→R J H') (eG X F α H e)
def CI(X:Cx)(tg e:Expr)(d:DI):Prop:=PI X tg e (tDI X d)
theorem PI.imp{X:Cx}{tg e:Expr}{t t':TI}(h:PI X tg e t)(i:∀σ H R,t' σ H R→t σ H R):PI X tg e t':=λpins s σ H R I q=>h pins s σ H R I (i σ H R q)
def Nz(K:PySem.W.Frag)(tl:TE):TI:=λσ H R=>tl σ H λx H1=>∃a,x=.ref a∧(((∃xs,SqL K H1 a xs)∧R (Itl K a) H1)∨((∃xs,SqT K H1 a xs)∧R (Itt K a) H1))
section
variable{X:Cx}{tg:Expr}
theorem Hu{l:Expr}{tl:TE}(hl:PE X l tl):PI X tg l (Nz X.K tl):=by
 intro pins s σ H R I h
 refine thn (hl pins s σ H _ I h) λv s1 au=>?_
 obtain⟨x,H1,I1,r1,q1⟩:=au
 obtain⟨a,e,q⟩:=q1
 subst e
 cases r1
 rcases q with ⟨⟨xs,hq⟩,q⟩|⟨⟨xs,hq⟩,q⟩
 ·obtain⟨its,rv,p,hz⟩:=I1.list hq
  refine wpAny_pyIter_list p.isList ?_
  refine⟨s1.heap.objs.size,[s1.heap.objs.size],_,_,H1,rfl,I1.kept (t':=s1.toks) λb o e=>Heap.get?_push_of_some _ e,Br a _,⟨_,Heap.get?_push_size _ rfl,rfl,rfl⟩,λb hb=>?_,q⟩
  have e:b=s1.heap.objs.size:=by simpa using hb
  subst e
  exact I1.tX (Nat.le_refl _) (I1.hok.fresh (Nat.le_refl _))
 ·obtain⟨its,rv,p,hz⟩:=I1.tuple hq
  refine wpAny_pyIter_tuple (show s1.heap.IsTuple a its.toArray from p) ?_
  refine⟨s1.heap.objs.size,[s1.heap.objs.size],_,_,H1,rfl,I1.kept (t':=s1.toks) λb o e=>Heap.get?_push_of_some _ e,xx a _,⟨_,Heap.get?_push_size _ rfl,rfl,rfl⟩,λb hb=>?_,q⟩
  have e:b=s1.heap.objs.size:=by simpa using hb
  subst e
  exact I1.tX (Nat.le_refl _) (I1.hok.fresh (Nat.le_refl _))
theorem b7{a:Expr}{da:D}(h:CE X a da):CI X tg a (aY da):=PI.imp (Hu h) λσ H R0 au=>by
 obtain⟨F,α,e,μ,S,h⟩:=au
 refine⟨F,α,e,μ,S,(R.wp_bind h).mono (λx μ1 h v H1 F1 α1 x1 S1 o1=>?_) λ_ _ h=>h⟩
 obtain⟨ts,ht,post⟩:=R.bB (R.wp_bind h)
 obtain⟨t,hr,ht⟩:=Option.bind_eq_some_iff.mp ht
 have n1:=aU S1.st o1 hr
 cases t with
 | lst us =>
  cases ht
  obtain⟨a,vs,rfl,hq,hl⟩:=n1
  refine⟨a,rfl,.inl ⟨⟨vs,hq⟩,post _ H1 F1 α1 x1 S1 λF2 α2 μ2 H2 s2 p2 S2 same=>?_⟩⟩
  obtain⟨a',vs',e1,hq2,hl2⟩:=aU S2 (o1.mono s2 p2) ((show rd μ2 x=rd μ1 x from same).trans hr)
  cases e1
  refine⟨λi t hi=>?_,⟨vs',hq2,by rw[← hl2.length];exact Nat.le_refl _⟩⟩
  obtain⟨v,hv,rv⟩:=hl2.get hi
  exact⟨⟨vs',v,hq2,hv⟩,λy H3 cK=>by
   obtain⟨e3,hy⟩:=cK
   subst e3
   have:=hy vs' hq2
   rw[hv] at this;cases this
   exact⟨F2,bw.refl,rv⟩⟩
 | tup us =>
  cases ht
  obtain⟨a,vs,rfl,hq,hl⟩:=n1
  refine⟨a,rfl,.inr ⟨⟨vs,aN.iP S1.st.ext hq⟩,post _ H1 F1 α1 x1 S1 λF2 α2 μ2 H2 s2 p2 S2 same=>?_⟩⟩
  obtain⟨a',vs',e1,hq2,hl2⟩:=aU S2 (o1.mono s2 p2) ((show rd μ2 x=rd μ1 x from same).trans hr)
  have hq2:=aN.iP S2.ext hq2
  cases e1
  refine⟨λi t hi=>?_,⟨vs',hq2,by rw[← hl2.length];exact Nat.le_refl _⟩⟩
  obtain⟨v,hv,rv⟩:=hl2.get hi
  exact⟨⟨vs',v,hq2,hv⟩,λy H3 vx=>by
   obtain⟨e3,hy⟩:=vx
   subst e3
   have:=hy vs' hq2
   rw[hv] at this;cases this
   exact⟨F2,bw.refl,rv⟩⟩
 | _=>cases ht
theorem sx:∀{n:Nat}{lo:Int}{i:Nat}{t:T},(bL lo n)[i]?=some t→i<n∧t=.int (lo+i)
 | 0,lo,i,t,h=>by simp[bL] at h
 | n+1,lo,0,t,h=>by
  simp[bL] at h
  subst h
  exact⟨Nat.succ_pos _,by simp⟩
 | n+1,lo,i+1,t,h=>by
  have h:(bL (lo+1) n)[i]?=some t:=by simpa [bL] using h
  obtain⟨h1,h2⟩:=sx h
  exact⟨Nat.succ_lt_succ h1,by rw[h2];congr 1;omega⟩
theorem mJ:∀(n:Nat) (lo:Int),(bL lo n).length=n
 | 0,_=>rfl
 | n+1,lo=>by rw[bL,List.length_cons,mJ]
theorem D0{K:PySem.W.Frag}{F:Hp}{α:List Addr}(lo:Int)(n:Nat):Lc K F α (Itr lo n) ⟨bL lo n,λ_=>True⟩:=λF2 α2 μ2 H2 s2 p2 S2 _=>by
 refine⟨λi t hi=>?_,?_⟩
 ·obtain⟨h1,rfl⟩:=sx hi
  exact⟨h1,λx H3 au=>by obtain⟨e1,e2⟩:=au;subst e1;subst e2;exact⟨F2,bw.refl,Rep.gD _⟩⟩
 ·show n≤(bL lo n).length
  rw[mJ];exact Nat.le_refl _
theorem mK{t:T}{i:Int}(h:j9 t=some i):t=.int i:=by
 cases t<;>first|(cases h;rfl)|cases h
theorem cC{a:Expr}{da:D}{p pos:Pos}(hm:X.mg "range"=none)(h:CE X a da)(hg:Gl X "range":=by rfl)(hs:starEach [a] X.env=[(false,eval a X.env)]:=by rfl):CI X tg (.Call (.Name "range" p) [a] [] pos) (aQ da) :=
 PI.imp (Bs hg hm (ag h aq hs) hs) λσ H R0 au=>by
  obtain⟨F,α,e,μ,S,h⟩:=au
  refine oE ⟨F,α,e,μ,S,(R.wp_bind h).mono (λx μ1 h v H1 F1 α1 x1 S1 o1=>?_) λ_ _ h=>h⟩
  obtain⟨j,ht,h⟩:=R.bB (R.wp_bind h)
  obtain⟨t,hr,ht⟩:=Option.bind_eq_some_iff.mp ht
  cases mK ht
  by_cases hb':c_ j=true
  ·rw[if_pos hb'] at h
   have hb:=iO hb'
   cases (aU S1.st o1 hr).int
   exact⟨j,rfl,hb.1,hb.2,h _ H1 F1 α1 x1 S1 (D0 0 j.toNat)⟩
  ·rw[if_neg hb'] at h;exact h.elim
theorem Jw{da db:D}{σ:L2.St}{H:Hp}{Q:List V→Hp→Prop}(h:∃F α e μ,Sim X.K F α e μ σ H∧(da e μ).wp (λx μ1=>(db e μ1).wp (λy μ2=>∀v u H' F' α',Ex F α H F' α' H'→Sim X.K F' α' e μ2 σ H'→dY X.K F' α' v x→dY X.K F' α' u y→Q [v,u] H') (eG X F α H e)) (eG X F α H e)):tDA X [da,db] σ H Q:=by
 obtain⟨F,α,e,μ,S,h⟩:=h
 refine⟨F,α,e,μ,S,?_⟩
 rw[bg]
 cases q:da e μ with
 | err c μ1=>rw[q] at h;exact h
 | bad=>rw[q] at h;exact h
 | ok x μ1 =>
  rw[q] at h
  rw[R.aL,bg]
  have h:(db e μ1).wp _ _:=h
  cases q2:db e μ1 with
  | err c μ2=>rw[q2] at h;exact h
  | bad=>rw[q2] at h;exact h
  | ok y μ2 =>
   rw[q2] at h
   intro vs H1 F1 α1 x1 S1 o1
   cases o1 with
   | cons o1 o2 =>
    cases o2 with
    | cons o2 o3=>cases o3;exact h _ _ H1 F1 α1 x1 S1 o1 o2
theorem BP{a b:Expr}{da db:D}{p pos:Pos}(hm:X.mg "range"=none)(h:CE X a da)(h':CE X b db)(hg:Gl X "range":=by rfl)(hs:starEach [a,b] X.env=[(false,eval a X.env),(false,eval b X.env)]:=by rfl)(hs2:starEach [b] X.env=[(false,eval b X.env)]:=by rfl) :
  CI X tg (.Call (.Name "range" p) [a,b] [] pos) (pA da db) :=
 PI.imp (Bt hg hm (ag h (ag h' aq hs2) (by rw[hs,hs2])) hs hs2) λσ H R0 au=>by
  obtain⟨F,α,e,μ,S,h⟩:=au
  refine Jw ⟨F,α,e,μ,S,(R.wp_bind h).mono (λx μ1 h=>(R.wp_bind h).mono (λy μ2 h v u H1 F1 α1 x1 S1 o1 o2=>?_) λ_ _ h=>h) λ_ _ h=>h⟩
  obtain⟨i,ht,h⟩:=R.bB (R.wp_bind h)
  obtain⟨t,hr,ht⟩:=Option.bind_eq_some_iff.mp ht
  cases mK ht
  obtain⟨j,ht,h⟩:=R.bB (R.wp_bind h)
  obtain⟨t,hr2,ht⟩:=Option.bind_eq_some_iff.mp ht
  cases mK ht
  by_cases hb':(c_ i && c_ j)=true
  ·rw[if_pos hb'] at h
   rw[Bool.and_eq_true] at hb'
   have hb:-(2 ^ 62)≤i∧i<2 ^ 62∧-(2 ^ 62)≤j∧j<2 ^ 62:=⟨(iO hb'.1).1,(iO hb'.1).2,(iO hb'.2).1,(iO hb'.2).2⟩
   cases (aU S1.st o1 hr).int
   cases (aU S1.st o2 hr2).int
   exact⟨i,j,rfl,hb,h _ H1 F1 α1 x1 S1 (D0 i (j-i).toNat)⟩
  ·rw[if_neg hb'] at h;exact h.elim
end
def tBd(K:PySem.W.Frag)(b:BD):TG:=λv σ H Q=>∃F α e μ t e',Sim K F α e μ σ H∧Rep K F t v∧b t e=some e'∧∀σ',Sim K F α e' μ σ' H→Q σ' H
def CB(X:Cx)(tg:Expr)(b:BD):Prop:=PG X tg (tBd X.K b)
theorem PG.imp{X:Cx}{tg:Expr}{t t':TG}(h:PG X tg t)(i:∀v σ H Q,t' v σ H Q→t v σ H Q):PG X tg t':=λpins s σ H v u Q I r q=>h pins s σ H v u Q I r (i v σ H Q q)
section
variable{X:Cx}{pos:Pos}
theorem aM(i:Nat){x:Str}(hN:X.N.Nodup)(hi:X.N[i]?=some x:=by rfl)(hx:Loc X.env.scope x:=by first|exact Or.inl rfl|exact Or.inr rfl)(hf:X.fn x=true∨X.env.scope.names.lookup x=some .local:=by first|exact .inl rfl|exact .inr rfl|assumption) :
  CB X (.Name x pos) (aw i):=PG.imp (tW hN hi hx hf) λv σ H Q au=>by
 obtain⟨F,α,e,μ,t,e',S,r,hb,q⟩:=au
 cases hb
 exact q _ (S.set (x:=.val t) r)
theorem gW(i j:Nat){x y:Str}{px py:Pos}{k:Nat}(hN:X.N.Nodup)(hc:X.calm=true)(hi:X.N[i]?=some x:=by rfl)(hj:X.N[j]?=some y:=by rfl)(hx:Loc X.env.scope x:=by first|exact Or.inl rfl|exact Or.inr rfl)
  (hy:Loc X.env.scope y:=by first|exact Or.inl rfl|exact Or.inr rfl)
  (hf:X.fn x=true∨X.env.scope.names.lookup x=some .local:=by first|exact .inl rfl|exact .inr rfl|assumption) (hf':X.fn y=true∨X.env.scope.names.lookup y=some .local:=by first|exact .inl rfl|exact .inr rfl|assumption)
  : CB X (.Tuple [.Name x px,.Name y py] k pos) (dg [i,j]) :=
 PG.imp (Kb hc (vw (tW hN hi hx hf) (vw (tW hN hj hy hf') GF))) λv σ H Q au=>by
  obtain⟨F,α,e,μ,t,e',S,r,hb,q⟩:=au
  cases t with
  | tup ts =>
   unfold dg at hb
   simp only at hb
   by_cases hl:ts.length=[i,j].length
   ·rw[if_pos hl] at hb
    rw[Rep] at r
    obtain⟨a,vs,rfl,hq,hr⟩:=r
    match ts,vs,hl,hr with
    | [t1,t2],vs,_,hr =>
     rw[aD] at hr
     obtain⟨v1,vs1,rfl,r1,hr⟩:=hr
     rw[aD] at hr
     obtain⟨v2,vs2,rfl,r2,hr⟩:=hr
     rw[aD] at hr
     subst hr
     cases hb
     exact⟨a,_,rfl,aN.iP S.st.ext hq,rfl,v1,[v2],rfl,v2,[],rfl,rfl,q _ ((S.set (x:=.val t1) r1).set (x:=.val t2) r2)⟩
   ·rw[if_neg hl] at hb;cases hb
  | _=>cases hb
end
section
variable{X:Cx}{tg iter c:Expr}{body:List Stmt}{di:DI}{b:BD}{d:DS}{dc:D}{pos:Pos}
theorem dj(hp:PassesOwn (model X.prog X.w) X.A X.env X.xe)(hc:X.calm=true)(hi:CI X tg iter di)(hg:CB X tg b)(hb:CSs X body d)(hs:∀x,foldedSetIterable iter X.env x=pure x:=by intro _;rfl) :
  CS X (.For tg iter body [] pos) (bY di b d):=PS.imp (Ki hp hc hi hg hb hs) λD σ H au=>by
 obtain⟨F,α,e,μ,S,h⟩:=au
 refine⟨F,α,e,μ,S,(aR.toS h).mono (λW μ1 h J H1 F1 α1 x1 S1 ok=>?_) λ_ _ h=>h⟩
 refine⟨λi m σ H=>m=W.items.length-i∧i≤W.items.length∧∃F2 α2 e2 μ2,aN F1 F2∧α1 <+: α2∧Sim X.K F2 α2 e2 μ2 σ H∧aR X F2 α2 H D (forL W.same b d (W.items.drop i) e2 μ2),
  ⟨_,rfl,Nat.zero_le _,F1,α1,e,μ1,aN.refl _,List.prefix_refl _,S1,aR.mono x1 h⟩,?_⟩
 rintro i m σ2 H2 ⟨rfl,hi,F2,α2,e2,μ2,s2,p2,S2,h⟩
 by_cases hlt:i<W.items.length
 ·rw[List.drop_eq_getElem_cons hlt] at h
  unfold forL at h
  by_cases hs:W.same μ2
  ·rw[if_pos hs] at h
   obtain⟨g1,g2⟩:=ok F2 α2 μ2 H2 s2 p2 S2.st hs
   obtain⟨go,yl⟩:=g1 i W.items[i] (by simp[hlt])
   cases hb':b W.items[i] e2 with
   | none=>simp only[hb'] at h;exact h.elim
   | some e3 =>
    simp only[hb'] at h
    refine .inr ⟨go,λσ' H'=>∃F4 α4 e4 μ4,aN F1 F4∧α1 <+: α4∧Sim X.K F4 α4 e4 μ4 σ' H'∧aR X F4 α4 H' D (forL W.same b d (W.items.drop (i+1)) e4 μ4),
     λσ' H' q=>⟨W.items.length-(i+1),by omega,rfl,hlt,q⟩,λx H3 y=>?_⟩
    obtain⟨F3,gr,rp⟩:=yl x H3 y
    have x3:Ex F2 α2 H2 F3 α2 H3:=gr.ex S2.st.ext
    refine⟨F3,α2,e2,μ2,W.items[i],e3,S2.grow gr,rp,hb',λσ4 S4=>⟨F3,α2,e3,μ2,S4,?_⟩⟩
    cases q:d e3 μ2 with
    | nx e5 μ5 =>
     simp only[q] at h
     exact λσ' H' F' α' x S'=>⟨F',α',e5,μ5,s2.trans (x3.same.trans x.same),p2.trans x.pre,S',aR.mono (x3.trans x) h⟩
    | ct e5 μ5 =>
     simp only[q] at h
     exact λσ' H' F' α' x S'=>⟨F',α',e5,μ5,s2.trans (x3.same.trans x.same),p2.trans x.pre,S',aR.mono (x3.trans x) h⟩
    | bk e5 μ5 =>
     simp only[q] at h
     exact λσ' H' F' α' x S'=>h σ' H' F' α' (x3.trans x) S'
    | rt x μ5 =>
     simp only[q] at h
     exact λv H' F' α' x S'=>h v H' F' α' (x3.trans x) S'
    | err c e5 μ5=>simp only[q] at h;exact eG.mono x3 h
    | bad=>simp only[q] at h;exact h
  ·rw[if_neg hs] at h;exact h.elim
 ·have e1:i=W.items.length:=by omega
  subst e1
  rw[List.drop_length] at h
  unfold forL at h
  by_cases hs:W.same μ2
  ·rw[if_pos hs] at h
   obtain⟨g1,g2⟩:=ok F2 α2 μ2 H2 s2 p2 S2.st hs
   exact .inl ⟨g2,h σ2 H2 F2 α2 Ex.refl S2⟩
  ·rw[if_neg hs] at h;exact h.elim
theorem D1(hp:PassesOwn (model X.prog X.w) X.A X.env X.xe)(hc:CT X c dc)(hb:CSs X body d):CS X (.While c body [] pos) (ka dc d):=PS.imp (C_ hp hc hb) λD σ H au=>by
 obtain⟨F,α,e,μ,S,h⟩:=au
 unfold ka at h
 by_cases hn:∃n,cA dc d n e μ≠.bad
 ·rw[dif_pos hn] at h
  refine⟨λm σ H=>∃F2 α2 e2 μ2,Sim X.K F2 α2 e2 μ2 σ H∧aR X F2 α2 H D (cA dc d m e2 μ2),⟨_,F,α,e,μ,S,h⟩,?_⟩
  rintro m σ H ⟨F2,α2,e2,μ2,S2,h⟩
  cases m with
  | zero=>exact h.elim
  | succ m =>
   unfold cA at h
   refine⟨F2,α2,e2,μ2,S2,(aR.asB h).mono (λx μ3 ⟨k,hx,h⟩=>⟨k,hx,λH3 F3 α3 x3 S3=>?_⟩) λ_ _ h=>h⟩
   cases k with
   | false =>
    rw[if_neg Bool.false_ne_true] at h ⊢
    exact h σ H3 F3 α3 x3 S3
   | true =>
    rw[if_pos rfl] at h ⊢
    refine⟨λσ' H'=>∃F4 α4 e4 μ4,Sim X.K F4 α4 e4 μ4 σ' H'∧aR X F4 α4 H' D (cA dc d m e4 μ4),λσ' H' q=>⟨m,Nat.lt_succ_self m,q⟩,F3,α3,e2,μ3,S3,?_⟩
    cases q:d e2 μ3 with
    | nx e5 μ5 =>
     rw[q] at h
     exact λσ' H' F' α' x S'=>⟨F',α',e5,μ5,S',aR.mono (x3.trans x) h⟩
    | ct e5 μ5 =>
     rw[q] at h
     exact λσ' H' F' α' x S'=>⟨F',α',e5,μ5,S',aR.mono (x3.trans x) h⟩
    | bk e5 μ5 =>
     rw[q] at h
     exact λσ' H' F' α' x S'=>h σ' H' F' α' (x3.trans x) S'
    | rt x μ5 =>
     rw[q] at h
     exact λσ' H' F' α' x S'=>h σ' H' F' α' (x3.trans x) S'
    | err c e5 μ5=>rw[q] at h;exact eG.mono x3 h
    | bad=>rw[q] at h;exact h
 ·rw[dif_neg hn] at h;exact h.elim
end
end Fw
namespace L2
open PySem PySem.Spec PyProof.Rows
theorem uo{prog:Program}{w:World}{A:Around}{R:Result→Shared→Prop}{s:Shared}{elt target iter:Expr}{ifs:List Expr}{scope:Scope}{pos:Pos}{it acc:Value}{env:Env}(I:Nat→Shared→Prop)
  (turn:∀n s,I n s→wpAny (model prog w) A (pyNext it) (λr s₁=>match r with
   | none=>R (.ok .next) s₁
   | some v=>wpAny (model prog w) A (letOwnedTupleGo target it v) (λ_ s₁'=>wpAny (model prog w) A (assign target env v) (λ_ s₂ =>
     wpAny (model prog w) A (forIn ifs true λc r=>if r=true then do let ok ← isTrue c env (eval c env);pure (ForInStep.yield ok) else pure (ForInStep.yield r)) (λok s₃ =>
      if ok=true then wpAny (model prog w) A (eval elt env) (λx s₄ =>
       wpAny (model prog w) A (call (.builtin "list.append") [acc,x]) (λ_ s₅=>∃m,m<n∧I m s₅) (λ_ _=>False) s₄) (λ_ _=>False) s₃
      else ∃m,m<n∧I m s₃) (λ_ _=>False) s₂) (λ_ _=>False) s₁') (λ_ _=>False) s₁) (λ_ _=>False) s)
  (n:Nat) (h:I n s):codeAny (model prog w) A (.compLoop (.ListComp elt [⟨target,iter,ifs,0⟩] scope pos) 0 it acc env) R s:=by
 have no:∀{α:Type}{t:Sem α}{Q:α→Shared→Prop}{E:Value→Shared→Prop}{s:Shared},wpAny (model prog w) A t Q (λ_ _=>False) s→wpAny (model prog w) A t Q E s:=λh=>wpAny_mono h (λ_ _ x=>x) λ_ _ x=>x.elim
 refine codeAny_loop rfl I (λn s hI=>?_) n h
 show wpAny _ A ((compTurn (.ListComp elt [⟨target,iter,ifs,0⟩] scope pos) 0 it acc env).onRaise (λx=>do noteFrame x env;theTreesLotGoes x)) _ _ s
 refine wpAny_noted ?_
 rw[compTurn_list]
 refine wpAny_bind (wpAny_standAt (wpAny_bind (wpAny_mono (no (turn n s hI)) (λr s₁ h₁=>?_) λ_ _ h'=>h')))
 cases r with
 | none=>exact wpAny_pure h₁
 | some v =>
  refine wpAny_bind (wpAny_mono (no h₁) (λ_ s₁' h₁'=>?_) λ_ _ h'=>h')
  refine wpAny_bind (wpAny_mono (no h₁') (λ_ s₂ h₂=>wpAny_bind (wpAny_mono (no h₂) (λok s₃ h₃=>?_) λ_ _ h'=>h')) λ_ _ h'=>h')
  cases ok with
  | false=>exact wpAny_pure ⟨rfl,h₃⟩
  | true =>
   exact wpAny_bind (wpAny_bind (wpAny_mono (no h₃) (λx s₄ h₄=>wpAny_bind (wpAny_mono (no h₄) (λ_ s₅ h₅=>wpAny_pure (wpAny_pure ⟨rfl,h₅⟩)) λ_ _ h'=>h')) λ_ _ h'=>h'))
def bR(X:Cx)(N':List Str)(scope:Scope)(cl:List (Str×Addr))(C:Addr)(s₀:Shared)(H₀:Hp)(ex:List Addr):Cx :=
 { X with N:=N',s₀:=s₀,H₀:=H₀,env:=compEnvC scope cl C X.env,outer:=X.stack,stack:=X.stack,ex:=ex,fn:=λx=>(scope.names.lookup x==some NameKind.cell),pn:=[],xe:=λ_ _=>False }
def lg(X:Cx)(ifs:List Expr)(t:TT):Prop :=
 ∀(pins:List (Addr×Obj)) (s:Shared) (σ:St) (H:Hp) (Q:Bool→Hp→Prop),Inv X pins σ H s→t σ H Q →
  wpAny (model X.prog X.w) X.A (forIn ifs true λc r=>if r=true then do let ok ← isTrue c X.env (eval c X.env);pure (ForInStep.yield ok) else pure (ForInStep.yield r)) (TP X pins σ Q) X.xe s
theorem D2{X:Cx}:lg X [] (λ_ H Q=>Q true H):=λ_ _ _ H _ I h=>wpAny_tests_nil ⟨H,I,h⟩
theorem D3{X:Cx}{c:Expr}{t:TT}(h:PT X c t):lg X [c] t:=λpins s σ H Q I q=>wpAny_tests_one (h pins s σ H Q I q)
def rG(mp:List (Option Nat))(σ:St):St:=mp.map λo=>o.bind λj=>(σ[j]?).bind id
structure dB(X:Cx)(N':List Str)(scope:Scope)(mp:List (Option Nat)):Prop where
 kind:scope.kind=.function
 cells:(scope.names.filter λy=>y.2==NameKind.cell).length≤1
 nd:(scope.names.map (·.1)).Nodup
 loc:∀x∈scope.names,x.2=.local→scope.names.lookup x.1=some .local
 free:∀y∈scope.names,y.2=.free→X.env.kindOf y.1=some .cell∨X.env.kindOf y.1=some .free
 len:mp.length=N'.length
 NA:∀(i j:Nat),mp[i]?=some (some j)→∃x,N'[i]?=some x∧X.N[j]?=some x∧(x,NameKind.free)∈scope.names∧(X.env.scope.names.lookup x=some .cell∨X.env.scope.names.lookup x=some .free)
 seen:∀x,(x,NameKind.free)∈scope.names→(relabel scope X.env).names.lookup x=some .cell∨(relabel scope X.env).names.lookup x=some .free
 back:∀x,(relabel scope X.env).names.lookup x=some .cell∨(relabel scope X.env).names.lookup x=some .free→(x,NameKind.free)∈scope.names∨scope.names.lookup x=some .cell
inductive Hv(names:List (Str×NameKind))(n:Nat)(h:Heap)(acc:List (Str×Addr)):Prop where
 | no (h0:∀x,names.lookup x≠some .cell) (h1:cellsFrom n names acc=acc) (h2:pushCells h names=h)
 | one (y:Str) (h0:∀x,names.lookup x=some .cell→x=y) (hy:names.lookup y=some .cell) (h1:cellsFrom n names acc=(y,n)::acc) (h2:pushCells h names=h.push { cls:=.type "cell",data:=.cell none })
theorem vV:∀(names:List (Str×NameKind)) (n:Nat) (h:Heap) (acc:List (Str×Addr)),names.filter (λy=>y.2==NameKind.cell)=[]→(∀x,names.lookup x≠some .cell)∧cellsFrom n names acc=acc∧pushCells h names=h
 | [],n,h,acc,_=>⟨λx=>by simp,rfl,rfl⟩
 | (y,k)::names,n,h,acc,e=>by
  rw[List.filter_cons] at e
  cases hk:(k==NameKind.cell) with
  | true=>rw[if_pos (by exact hk)] at e;cases e
  | false =>
   rw[if_neg (by simp[hk])] at e
   obtain⟨h1,h2,h3⟩:=vV names n h acc e
   refine⟨λx hx=>?_,?_,?_⟩
   ·rw[List.lookup_cons] at hx
    cases hb:x==y with
    | true=>rw[hb] at hx;cases hx;simp at hk
    | false=>rw[hb] at hx;exact h1 x hx
   ·unfold cellsFrom;rw[if_neg (by simp[hk])];exact h2
   ·unfold pushCells;rw[if_neg (by simp[hk])];exact h3
theorem vW:∀(names:List (Str×NameKind)) (n:Nat) (h:Heap) (acc:List (Str×Addr)),(names.filter λy=>y.2==NameKind.cell).length≤1→(names.map (·.1)).Nodup→Hv names n h acc
 | [],n,h,acc,_,_=>.no (λx=>by simp) rfl rfl
 | (y,k)::names,n,h,acc,e,nd=>by
  rw[List.filter_cons] at e
  have nd':=List.nodup_cons.mp (by simpa using nd:(y::names.map (·.1)).Nodup)
  cases hk:(k==NameKind.cell) with
  | true =>
   rw[if_pos (by exact hk)] at e
   have e0:names.filter (λy=>y.2==NameKind.cell)=[]:=List.length_eq_zero_iff.mp (by simpa using e)
   obtain⟨h1,h2,h3⟩:=vV names (n+1) (h.push { cls:=.type "cell",data:=.cell none }) ((y,n)::acc) e0
   have ek:k=.cell:=by simpa using hk
   subst ek
   refine .one y (λx hx=>?_) (by simp) ?_ ?_
   ·rw[List.lookup_cons] at hx
    cases hb:x==y with
    | true=>exact eq_of_beq hb
    | false=>rw[hb] at hx;exact absurd hx (h1 x)
   ·unfold cellsFrom;rw[if_pos (by simp)];exact h2
   ·unfold pushCells;rw[if_pos (by simp)];exact h3
  | false =>
   rw[if_neg (by simp[hk])] at e
   have kn:k≠.cell:=by simpa using hk
   have lk:∀x,((y,k)::names).lookup x=some .cell→names.lookup x=some .cell:=λx hx=>by
    rw[List.lookup_cons] at hx
    cases hb:x==y with
    | true=>rw[hb] at hx;cases hx;exact absurd rfl kn
    | false=>rw[hb] at hx;exact hx
   cases vW names n h acc e nd'.2 with
   | no h0 h1 h2 =>
    refine .no (λx hx=>h0 x (lk x hx)) ?_ ?_
    ·unfold cellsFrom;rw[if_neg (by simp[hk])];exact h1
    ·unfold pushCells;rw[if_neg (by simp[hk])];exact h2
   | one z h0 hz h1 h2 =>
    have zne:(z==y)=false:=by
     have:z≠y:=λq=>by
      subst q
      exact nd'.1 (List.mem_map.mpr ⟨_,PySem.mem_of_lookup hz,rfl⟩)
     simpa using this
    refine .one z (λx hx=>h0 x (lk x hx)) (by rw[List.lookup_cons,zne];exact hz) ?_ ?_
    ·unfold cellsFrom;rw[if_neg (by simp[hk])];exact h1
    ·unfold pushCells;rw[if_neg (by simp[hk])];exact h2
theorem vX{M:Model}{A:Around}{E:Value→Shared→Prop}{s:Shared}{scope:Scope}{globals:Addr}{cl:List (Str×Addr)}{qual:Str}{outer:Env}{Q:Env→Shared→Prop}
  (hQ:Q (newEnv scope s.heap.objs.size globals (cellsFrom (s.heap.objs.size+1) scope.names cl) qual none .none (some outer) builtinsNs) { s with heap:=pushCells (s.heap.push { cls:=.type "dict",data:=.dict #[] }) scope.names }) :
  wpAny M A (newFunctionEnv scope globals cl [] qual none .none (some outer)) Q E s:=by
 simp only[newFunctionEnv,Option.isSome_some,if_true]
 refine wpAny_bind (wpAny_alloc ?_)
 refine wpAny_bind (wpAny_layCells _ (λname kind cells=>by cases hkc:kind==NameKind.cell<;>simp[hkc]) _ _ _ _ ?_)
 rw[show({ s with heap:=s.heap.push { cls:=.type "dict",data:=.dict #[] } }:Shared).heap.objs.size=s.heap.objs.size+1 from Heap.size_push ..]
 simp only[List.forIn_nil]
 exact wpAny_bind (wpAny_pure (wpAny_pure hQ))
theorem jg{env:Env}:∀(names:List (Str×NameKind)) (acc:List (Str×Addr)),(∀y∈names,y.2=.free→∃c,env.cells.lookup y.1=some c) →
  ∃cl:List (Str×Addr),(forIn names acc λx r=>(if (x.2==NameKind.free)=true then do let c ← cellOf env x.1;pure (ForInStep.yield ((x.1,c)::r)) else pure (ForInStep.yield r):Sem (ForInStep (List (Str×Addr)))))=pure cl ∧
   (∀x c,cl.lookup x=some c→acc.lookup x=some c∨env.cells.lookup x=some c)∧(∀x,(x,NameKind.free)∈names∨(acc.lookup x).isSome=true→(cl.lookup x).isSome=true)
 | [],acc,_=>⟨acc,rfl,λx c h=>.inl h,λx h=>by
   rcases h with h|h
   ·simp at h
   ·exact h⟩
 | (n,k)::r,acc,h=>by
  by_cases hk:k=.free
  ·subst hk
   obtain⟨c,hc⟩:=h (n,.free) List.mem_cons_self rfl
   obtain⟨cl,e,h1,h2⟩:=jg r ((n,c)::acc) λy hy=>h y (List.mem_cons_of_mem _ hy)
   refine⟨cl,?_,λx d hx=>?_,λx hx=>h2 x ?_⟩
   ·rw[List.forIn_cons]
    have e1:(NameKind.free==NameKind.free)=true:=by decide
    simp only[e1,if_true]
    have e2:cellOf env n=pure c:=by simp only[cellOf,hc]
    rw[e2]
    exact e
   ·rcases h1 x d hx with g|g
    ·rw[List.lookup_cons] at g
     cases q:x==n with
     | true =>
      rw[q] at g
      cases g
      have:x=n:=by simpa using q
      subst this
      exact .inr hc
     | false=>rw[q] at g;exact .inl g
    ·exact .inr g
   ·rcases hx with hx|hx
    ·rcases List.mem_cons.mp hx with g|g
     ·cases g
      right
      simp[List.lookup_cons]
     ·exact .inl g
    ·right
     rw[List.lookup_cons]
     cases q:x==n with
     | true=>rfl
     | false=>exact hx
  ·obtain⟨cl,e,h1,h2⟩:=jg r acc λy hy=>h y (List.mem_cons_of_mem _ hy)
   refine⟨cl,?_,h1,λx hx=>h2 x ?_⟩
   ·rw[List.forIn_cons]
    have e1:(k==NameKind.free)=false:=by simpa using hk
    simp only[e1,Bool.false_eq_true,if_false]
    exact e
   ·rcases hx with hx|hx
    ·rcases List.mem_cons.mp hx with g|g
     ·cases g
      exact absurd rfl hk
     ·exact .inl g
    ·exact .inr hx
theorem qm{scope:Scope}{env:Env}(h:∀y∈scope.names,y.2=.free→∃c,env.cells.lookup y.1=some c) :
  ∃cl,closureFor scope env=pure cl∧(∀x c,cl.lookup x=some c→env.cells.lookup x=some c)∧(∀x,(x,NameKind.free)∈scope.names→(cl.lookup x).isSome=true):=by
 obtain⟨cl,e,h1,h2⟩:=jg (env:=env) scope.names [] h
 refine⟨cl,?_,λx c hx=>(h1 x c hx).elim (λg=>by simp at g) id,λx hx=>h2 x (.inl hx)⟩
 simp only[closureFor]
 rw[e]
 rfl
section
variable{X:Cx}{elt iter tg:Expr}{ifs:List Expr}{scope:Scope}{pos:Pos}{N':List Str}{g:TG}{tc:TT}{te:TE}{mp:List (Option Nat)}
def z_(J:It)(mp:List (Option Nat))(g:TG)(tc:TT)(te:TE)(σ:St)(H:Hp)(Q:VK):Prop:=∀p,H p=none→∃W:Nat→Nat→St→Hp→Prop,(∃m,W 0 m (rG mp σ) (upd H p (.lst [])))∧∀i m σ H,W i m σ H →
 (J.stop i H∧Q (.ref p) H)∨(J.go i H∧∃N:St→Hp→Prop,(∀σ' H',N σ' H'→∃m',m'<m∧W (i+1) m' σ' H')∧∀x H',J.yld i H x H'→g x σ H' λσ2 H2=>tc σ2 H2 λb H3 =>
  if b=true then te σ2 H3 λy H4=>zM (.ref p) [y] H4 λ_ H5=>N σ2 H5 else N σ2 H3)
theorem D4{mp:List (Option Nat)}{σ:St}{i:Nat}{v:V}(h:(rG mp σ)[i]?=some (some v)):∃j,mp[i]?=some (some j)∧σ[j]?=some (some v):=by
 unfold rG at h
 rw[List.getElem?_map] at h
 cases q:mp[i]? with
 | none=>rw[q] at h;cases h
 | some o =>
  cases o with
  | none=>rw[q] at h;cases h
  | some j =>
   rw[q] at h
   refine⟨j,rfl,?_⟩
   have h:(σ[j]?).bind id=some v:=by simpa using h
   cases z:σ[j]? with
   | none=>rw[z] at h;cases h
   | some y=>rw[z] at h;have h:y=some v:=h;rw[h]
theorem D5{pins:List (Addr×Obj)}{σ:St}{H:Hp}{s₀:Shared}{C:Addr}{h₁:Heap}{t':Nat}{cl:List (Str×Addr)}{fp:List Addr}(hS:dB X N' scope mp)(I:Inv X pins σ H s₀)
  (hcl:∀x c,cl.lookup x=some c→X.env.cells.lookup x=some c∨(scope.names.lookup x=some .cell∧c=C+1∧h₁.IsCell c none∧∀z,scope.names.lookup z=some .cell→z=x)) (hcs:∀x,(x,NameKind.free)∈scope.names→(cl.lookup x).isSome=true∧∀c,cl.lookup x=some c→X.env.cells.lookup x=some c)
  (hcn:∀x,scope.names.lookup x=some .cell→cl.lookup x=some (C+1))
  (hC:C=s₀.heap.objs.size) (keep:∀b o,s₀.heap.get? b=some o→h₁.get? b=some o) (ns:∃m,h₁.Ns C m) (hf:∀b∈fp,jV X pins H b) (hfp:∀b∈fp,b<s₀.heap.objs.size) :
  Inv (bR X N' scope cl C s₀ H fp) [] (rG mp σ) H { s₀ with heap:=h₁,toks:=t' }:=by
 obtain⟨m0,ns⟩:=ns
 have cellK:∀c v,s₀.heap.IsCell c v→h₁.IsCell c v:=λc v ⟨o,ho,hd⟩=>⟨o,keep c o ho,hd⟩
 refine⟨⟨I.ok.mod,hS.kind,I.ok.glob,I.ok.blt,Nat.le_of_eq hC.symm,λx y c h1 h2=>?_,λx hx=>?_,λx c h hx=>?_,I.ok.hd,I.ok.frames,.inl rfl,λb hb=>⟨?_,λx c h=>?_⟩,I.bs,Nat.le_trans I.ok.bsz I.sz,
   λb o e hb=>?_,λb hb hs=>?_,I.stack,I.pk⟩,rfl,I.bare,Un.kept keep,⟨m0,ns,λi x v e1 e2 e3=>?_⟩,λx c h=>?_,?_,λx c h=>?_,λp hp=>absurd hp (by intro z;cases z),I.hok.kept keep,?_⟩
 ·have old:∀z,X.env.cells.lookup z=some c→c<s₀.heap.objs.size:=λz hz=>by
   obtain⟨v,q⟩:=I.cell z c hz
   exact q.lt
  rcases hcl x c h1 with a|⟨a,ca,_,ua⟩
  ·rcases hcl y c h2 with b|⟨b,cb,_⟩
   ·exact I.ok.inj x y c a b
   ·have:=old x a
    rw[cb,hC] at this
    exact absurd this (Nat.not_lt.mpr (Nat.le_succ _))
  ·rcases hcl y c h2 with b|⟨b,cb,_⟩
   ·have:=old y b
    rw[ca,hC] at this
    exact absurd this (Nat.not_lt.mpr (Nat.le_succ _))
   ·exact(ua y b).symm
 ·rcases hS.back x hx with q|q
  ·exact Option.isSome_iff_exists.mp (hcs x q).1
  ·exact⟨_,hcn x q⟩
 ·have q:scope.names.lookup x=some .cell:=by
   have h:(scope.names.lookup x==some NameKind.cell)=true:=h
   simpa using h
  have hx:cl.lookup x=some c:=hx
  rw[hcn x q] at hx
  cases hx
  rw[hC]
  exact Nat.le_succ _
 ·intro z
  have:=hfp b hb
  rw[z] at this
  have h2:C<s₀.heap.objs.size:=this
  rw[hC] at h2
  exact Nat.lt_irrefl _ h2
 ·rcases hcl x c h with a|⟨a,ca,_⟩
  ·exact(hf b hb).2.2.2.2.1 x c a
  ·have:=hfp b hb
   rw[ca,hC]
   exact λq=>absurd (q ▸ this) (Nat.not_lt.mpr (Nat.le_succ _))
 ·rcases (hf b hb).2.2.2.1 with z|z
  ·exact I.ok.tT b o e z
  ·exact absurd (Nat.lt_of_lt_of_le (Heap.lt_size e) (Nat.le_trans I.ok.bsz z)) (Nat.lt_irrefl _)
 ·rcases List.mem_cons.mp (I.tU b hs) with z|z
  ·exact(hf b hb).2.1 z
  ·exact(hf b hb).2.2.1 z
 ·obtain⟨j,hj,hv⟩:=D4 e2
  obtain⟨y,y1,y2,y3,y4⟩:=hS.NA i j hj
  have hy:y=x:=by
   have:(bR X N' scope cl C s₀ H fp).N[i]?=some y:=y1
   rw[e1] at this
   exact(Option.some.inj this).symm
  subst hy
  obtain⟨m,hn,hl⟩:=I.loc
  obtain⟨u,ru,lk⟩:=hl j y v y2 hv (y4.elim (λz=>.inr (.inl z)) λz=>.inr (.inr z))
  refine⟨u,ru,?_⟩
  rcases lk with ⟨hk,_⟩|⟨hk,c,hc,ot⟩
  ·exfalso
   have hk:X.env.scope.names.lookup y=some .local:=hk
   rcases y4 with z|z
   ·rw[hk] at z;cases z
   ·rw[hk] at z;cases z
  ·obtain⟨c',hc'⟩:=Option.isSome_iff_exists.mp (hcs y y3).1
   have:c'=c:=by
    have q:=(hcs y y3).2 c' hc'
    rw[hc] at q
    exact(Option.some.inj q).symm
   subst this
   exact .inr ⟨hS.seen y y3,c',hc',cellK _ _ ot⟩
 ·rcases hcl x c h with a|⟨_,_,a,_⟩
  ·obtain⟨v,hv⟩:=I.cell x c a
   exact⟨v,cellK _ _ hv⟩
  ·exact⟨none,a⟩
 ·show H C=none
  rw[hC]
  exact I.hok.fresh (Nat.le_refl _)
 ·rcases hcl x c h with a|⟨_,a,_⟩
  ·exact I.fZ x c a
  ·rw[a,hC];exact I.hok.fresh (Nat.le_succ _)
 ·show(rG mp σ).length=N'.length
  unfold rG
  rw[List.length_map,hS.len]
theorem sy{pins:List (Addr×Obj)}{s₂:Shared}{σ:St}{H₂:Hp}{it:Addr}{fp:List Addr}{tn:Nat→Heap→Prop}{J:It}{cl:List (Str×Addr)}{Q:VK}{RR:Value→Addr→Result→Shared→Prop}{E:Value→Shared→Prop}
  (hS:dB X N' scope mp) (iQ:X.calm=true) (hg:∀cl C s₀ H₀ ex,PG (bR X N' scope cl C s₀ H₀ ex) tg g) (hc:∀cl C s₀ H₀ ex,lg (bR X N' scope cl C s₀ H₀ ex) ifs tc) (he:∀cl C s₀ H₀ ex,PE (bR X N' scope cl C s₀ H₀ ex) elt te)
  (hcl:∀x c,cl.lookup x=some c→X.env.cells.lookup x=some c) (hcs:∀x,(x,NameKind.free)∈scope.names→(cl.lookup x).isSome=true)
  (I:Inv X pins σ H₂ s₂) (T:Turn X.prog X.w X.K tg J fp it tn) (st:tn 0 s₂.heap) (hf:∀b∈fp,jV X pins H₂ b) (hq:z_ J mp g tc te σ H₂ Q)
  (fin:∀p C s' H',Inv X pins σ H' s'→jV X pins H' C→(∃m,s'.heap.Ns C m)→Q (.ref p) H'→RR (.ref p) C (.ok .next) s') :
  wpAny (model X.prog X.w) X.A (newList []) (λacc s₃=>wpAny (model X.prog X.w) X.A (newFunctionEnv scope X.env.globals cl [] X.env.qual none .none (some X.env)) (λNB s₄ =>
   codeAny (model X.prog X.w) X.A (.compStart (.ListComp elt [⟨tg,iter,ifs,0⟩] scope pos) 0 (.ref it) acc { NB with scope:=relabel scope X.env }) (RR acc NB.locals) s₄) E s₃) E s₂:=by
 refine wpAny_newObj_type (vX ?_)
 dsimp only
 have I₃:Inv X pins σ (upd H₂ s₂.heap.objs.size (.lst [])) { s₂ with heap:=s₂.heap.push { cls:=.type "list",dict:=none,data:=.seq ([]:List Value).toArray } } :=
  I.KI (t':=s₂.toks) (ys:=[]) .nil (Nat.zero_le _)
 generalize hH2:s₂.heap.push { cls:=.type "list",dict:=none,data:=.seq ([]:List Value).toArray }=H2 at I₃ ⊢
 obtain⟨h₁,hh1⟩:∃h₁,h₁=pushCells (H2.push { cls:=.type "dict",data:=.dict #[] }) scope.names:=⟨_,rfl⟩
 rw[← hh1]
 have hns₁:h₁.Ns H2.objs.size (λ_=>none):=by rw[hh1];exact(Heap.Ns.new H2 (.type "dict")).keeps (pushCells_keeps _ _)
 obtain⟨cl',BQ⟩:∃cl',cl'=cellsFrom (H2.objs.size+1) scope.names cl:=⟨_,rfl⟩
 rw[← BQ]
 have Le:=vW scope.names (H2.objs.size+1) (H2.push { cls:=.type "dict",data:=.dict #[] }) cl hS.cells hS.nd
 have fc:∀x,(x,NameKind.free)∈scope.names→scope.names.lookup x≠some .cell:=λx hx q=>by
  have nd:=hS.nd
  have m2:=PySem.mem_of_lookup q
  have key:∀l:List (Str×NameKind),(l.map (·.1)).Nodup→(x,NameKind.free)∈l→(x,NameKind.cell)∈l→False:=by
   intro l
   induction l with
   | nil=>intro _ h;cases h
   | cons a l ih =>
    intro nd h1 h2
    have nd':=List.nodup_cons.mp (by simpa using nd:(a.1::l.map (·.1)).Nodup)
    rcases List.mem_cons.mp h1 with e1|h1
    ·rcases List.mem_cons.mp h2 with e2|h2
     ·rw[← e1] at e2;cases e2
     ·exact nd'.1 (List.mem_map.mpr ⟨_,h2,by rw[← e1]⟩)
    ·rcases List.mem_cons.mp h2 with e2|h2
     ·exact nd'.1 (List.mem_map.mpr ⟨_,h1,by rw[← e2]⟩)
     ·exact ih nd'.2 h1 h2
  exact key _ nd hx m2
 have NC:∀x c,cl'.lookup x=some c→X.env.cells.lookup x=some c∨(scope.names.lookup x=some .cell∧c=H2.objs.size+1∧h₁.IsCell c none∧∀z,scope.names.lookup z=some .cell→z=x):=λx c h=>by
  cases Le with
  | no _ e1 _=>rw[BQ.trans e1] at h;exact .inl (hcl x c h)
  | one y h0 hy e1 e2 =>
   rw[BQ.trans e1,List.lookup_cons] at h
   cases hb:x==y with
   | true =>
    rw[hb] at h
    have hxy:x=y:=eq_of_beq hb
    have h:some (H2.objs.size+1)=some c:=h
    cases h
    subst hxy
    refine .inr ⟨hy,rfl,?_,λz hz=>h0 z hz⟩
    rw[hh1.trans e2,← Heap.size_push H2 { cls:=.type "dict",data:=.dict #[] }]
    exact⟨_,Heap.get?_push_size _ rfl,rfl⟩
   | false=>rw[hb] at h;exact .inl (hcl x c h)
 have Pk:∀x,(x,NameKind.free)∈scope.names→(cl'.lookup x).isSome=true∧∀c,cl'.lookup x=some c→X.env.cells.lookup x=some c:=λx hx=>by
  have el:cl'.lookup x=cl.lookup x:=by
   cases Le with
   | no _ e1 _=>rw[BQ.trans e1]
   | one y h0 hy e1 e2 =>
    rw[BQ.trans e1,List.lookup_cons]
    cases hb:x==y with
    | true=>exact absurd ((eq_of_beq hb) ▸ hy) (fc x hx)
    | false=>rfl
  rw[el]
  exact⟨hcs x hx,λc hc=>hcl x c hc⟩
 have Pl:∀x,scope.names.lookup x=some .cell→cl'.lookup x=some (H2.objs.size+1):=λx hx=>by
  cases Le with
  | no h0 _ _=>exact absurd hx (h0 x)
  | one y h0 hy e1 e2 =>
   rw[BQ.trans e1,h0 x hx,List.lookup_cons]
   simp
 have fresh:H₂ s₂.heap.objs.size=none:=I.hok.fresh (Nat.le_refl _)
 have fpl:∀b∈fp,b<s₂.heap.objs.size:=λb hb=>by
  obtain⟨o,ho,_⟩:=T.obj _ _ st b hb
  exact Heap.lt_size ho
 have Lf:s₂.heap.objs.size≤H2.objs.size:=by rw[← hH2,Heap.size_push];exact Nat.le_succ _
 have Pn:∀b o,s₂.heap.get? b=some o→H2.get? b=some o:=λb o e=>by rw[← hH2];exact Heap.get?_push_of_some _ e
 have old:∀b o,H2.get? b=some o→h₁.get? b=some o:=λb o e=>by rw[hh1];exact pushCells_keeps _ _ _ _ (Heap.get?_push_of_some _ e)
 have hf3:∀b∈fp,jV X pins (upd H₂ s₂.heap.objs.size (.lst [])) b:=λb hb=>⟨by rw[aG (Nat.ne_of_lt (fpl b hb))];exact(hf b hb).1,(hf b hb).2⟩
 have I₄:=D5 (t':=s₂.toks) (N':=N') (C:=H2.objs.size) (h₁:=h₁) hS I₃ NC Pk Pl rfl old ⟨_,hns₁⟩ hf3 λb hb=>Nat.lt_of_lt_of_le (fpl b hb) Lf
 have st4:tn 0 h₁:=T.keep _ _ _ st λb hb o e=>old b o (Pn b o e)
 obtain⟨W,⟨m0,w0⟩,turn⟩:=hq s₂.heap.objs.size fresh
 generalize hX':bR X N' scope cl' H2.objs.size { s₂ with heap:=H2 } (upd H₂ s₂.heap.objs.size (.lst [])) fp=X' at I₄
 have hg':PG X' tg g:=hX' ▸ hg _ _ _ _ _
 have hc':lg X' ifs tc:=hX' ▸ hc _ _ _ _ _
 have he':PE X' elt te:=hX' ▸ he _ _ _ _ _
 have e1:X'.prog=X.prog:=by rw[← hX'];rfl
 have e2:X'.w=X.w:=by rw[← hX'];rfl
 have e3:X'.K=X.K:=by rw[← hX'];rfl
 have e4:X'.calm=true:=by rw[← hX'];exact iQ
 have e5:X'.A=X.A:=by rw[← hX'];rfl
 have e6:X'.env=compEnvC scope cl' H2.objs.size X.env:=by rw[← hX'];rfl
 have e7:X'.xe=λ_ _=>False:=by rw[← hX'];rfl
 have xA:∀{H':Hp},(∀b∈fp,H' b=none)→∀b∈fp,jV X' [] H' b:=λ{H'} hn b hb=>by
  refine⟨hn b hb,?_,?_,?_,λx c h=>?_,λp hp=>?_⟩
  ·rw[e6];exact Nat.ne_of_lt (Nat.lt_of_lt_of_le (fpl b hb) Lf)
  ·rw[← hX']
   intro hs
   rcases List.mem_cons.mp (I.tU b hs) with z|z
   ·exact(hf b hb).2.1 z
   ·exact(hf b hb).2.2.1 z
  ·rw[← hX'];exact .inl hb
  ·rw[e6] at h
   rcases NC x c h with a|⟨_,a,_⟩
   ·exact(hf b hb).2.2.2.2.1 x c a
   ·rw[a]
    have q1:=Nat.lt_of_lt_of_le (fpl b hb) Lf
    exact λq=>absurd (q ▸ q1) (Nat.not_lt.mpr (Nat.le_succ _))
  ·rw[← hX'] at hp;cases hp
 have loop:∀s₃:Shared,Inv X' [] (rG mp σ) (upd H₂ s₂.heap.objs.size (.lst [])) s₃→tn 0 s₃.heap →
   codeAny (model X.prog X.w) X.A (.compLoop (.ListComp elt [⟨tg,iter,ifs,0⟩] scope pos) 0 (.ref it) (.ref s₂.heap.objs.size) (compEnvC scope cl' H2.objs.size X.env)) (RR (.ref s₂.heap.objs.size) H2.objs.size) s₃:=by
  intro s₃ I₃' st3
  refine uo (λn s'=>∃i σ' H',Inv X' [] σ' H' s'∧tn i s'.heap∧(∀b∈fp,H' b=none)∧W i n σ' H') ?_ m0 ⟨0,_,_,I₃',st3,λb hb=>(hf3 b hb).1,w0⟩
  rintro n s4 ⟨i,σ4,H4,I4,st4,fr4,w4⟩
  rcases turn i n σ4 H4 w4 with ⟨stop,qn⟩|⟨go,N,hN,step⟩
  ·have q:=T.done X' e1 e2 e3 e4 i [] s4 σ4 H4 (λ_ _=>False) I4 (xA fr4) st4 stop
   rw[e5] at q
   refine thn q λr s5 au=>?_
   obtain⟨hr,I5⟩:=au
   subst hr
   have I6:Inv X pins σ H4 s5:=by
    subst hX'
    exact I₃.Jl (ch:=fp) I5.os I5.base I5.hok I5.bare λb hb=>⟨(hf3 b hb).2.2.2.1,(hf3 b hb).2.1,(hf3 b hb).2.2.2.2.1,(hf3 b hb).2.2.2.2.2⟩
   have hC:H4 H2.objs.size=none:=by
    have:=I5.free
    rw[e6] at this
    exact this
   have hns:∃m,s5.heap.Ns H2.objs.size m:=by
    obtain⟨m,hm,_⟩:=I5.loc
    rw[e6] at hm
    exact⟨m,hm⟩
   exact fin _ _ s5 H4 I6 (I₃.tX (Nat.le_refl _) hC) hns qn
  ·have q:=T.item X' e1 e2 e3 e4 i [] s4 σ4 H4 (λ_ _=>False) I4 (xA fr4) st4 go
   rw[e5] at q
   refine thn q λr s5 cK=>?_
   obtain⟨u,hr,h5⟩:=cK
   subst hr
   refine thn h5 λ_ s6 vx=>?_
   obtain⟨x,H6,I6,r6,y6,st6,fr6⟩:=vx
   have I6':=I6.pinned (xA fr6) (T.obj _ _ st6)
   have g6:=hg' _ s6 σ4 H6 x u _ I6' r6 (step x H6 y6)
   rw[e1,e2,e5,e6,e7] at g6
   refine thn g6 λ_ s7 ND=>?_
   obtain⟨σ7,H7,I7,q7⟩:=ND
   have c7:=hc' _ s7 σ7 H7 _ I7 q7
   rw[e1,e2,e5,e6,e7] at c7
   refine thn c7 λok s8 NF=>?_
   obtain⟨H8,I8,q8⟩:=NF
   have again:∀{s9:Shared}{σ9:St}{H9:Hp},Inv X' ([]++pZ fp s6.heap) σ9 H9 s9→N σ9 H9→∃m,m<n∧∃i σ' H',Inv X' [] σ' H' s9∧tn i s9.heap∧(∀b∈fp,H' b=none)∧W i m σ' H':=λ{s9 σ9 H9} I9 n9=>by
    obtain⟨m',hm,w9⟩:=hN σ9 H9 n9
    refine⟨m',hm,i+1,σ9,H9,I9.mv,T.keep _ _ _ st6 λb hb o e=>(I9.pin (b,o) (List.mem_append_right _ (List.mem_append_right _ (i7 hb e)))).1,λb hb=>?_,w9⟩
    obtain⟨o,e,d⟩:=T.obj _ _ st6 b hb
    exact(I9.pin (b,o) (List.mem_append_right _ (List.mem_append_right _ (i7 hb e)))).2.1
   cases ok with
   | false =>
    rw[if_neg Bool.false_ne_true] at q8 ⊢
    exact again I8 q8
   | true =>
    rw[if_pos rfl] at q8 ⊢
    have l8:=he' _ s8 σ7 H8 _ I8 q8
    rw[e1,e2,e5,e6,e7] at l8
    refine thn l8 λy s9 NG=>?_
    obtain⟨z,H9,I9,r9,q9⟩:=NG
    have a9:=(se (X:=X')) _ s9 σ7 H9 (.ref s₂.heap.objs.size) [z] (.ref s₂.heap.objs.size) [y] _ I9 rfl (.cons r9 .nil) q9
    rw[e1,e2,e5,e7] at a9
    refine thn a9 λ_ s10 ⟨_,H10,I10,_,q10⟩=>again I10 q10
 refine codeAny_compStart_list (loop _ I₄ st4) ?_
 exact T.self X.A 0 _ _ _ st4 (loop _ I₄ st4)
theorem Hw{wi:TI}(hx:X.xe=λ_ _=>False)(hS:dB X N' scope mp)(iQ:X.calm=true)(hi:PI X tg iter wi)(hg:∀cl C s₀ H₀ ex,PG (bR X N' scope cl C s₀ H₀ ex) tg g)(hc:∀cl C s₀ H₀ ex,lg (bR X N' scope cl C s₀ H₀ ex) ifs tc)
  (he:∀cl C s₀ H₀ ex,PE (bR X N' scope cl C s₀ H₀ ex) elt te) (hs:∀x,foldedSetIterable iter X.env x=pure x:=by intro _;rfl) :
  PE X (.ListComp elt [⟨tg,iter,ifs,0⟩] scope pos) (λσ H Q=>wi σ H λJ H1=>z_ J mp g tc te σ H1 Q):=by
 intro pins s σ H Q I h
 have hfr:∀y∈scope.names,y.2=.free→∃c,X.env.cells.lookup y.1=some c:=λy hy hk=>I.ok.has y.1 (hS.free y hy hk)
 obtain⟨cl,hcl,h1,h2⟩:=qm hfr
 rw[eval_ListComp]
 refine wpAny_comprehension_free (use:=none) rfl hs hcl hS.kind hS.loc (thn (hi pins s σ H _ I h) λv s1 q1=>thn q1 λitv s2 au=>?_)
 obtain⟨it,fp,tn,J,H2,e,I2,T,st2,f2,q2⟩:=au
 subst e
 refine sy (RR:=λacc C=>compPost (model X.prog X.w) X.A X.xe none (EP X pins σ Q) acc C) hS iQ hg hc he h1 h2 I2 T st2 f2 q2 λp C s' H' I' fp' ns q'=>?_
 obtain⟨m,hm⟩:=ns
 refine⟨m,hm,λh' sb=>⟨.ref p,H',?_,rfl,q'⟩⟩
 exact I'.turned (t':=s'.toks) (λb o hb e=>(sb.2 b hb).trans e) fp'.1 fp'.2.1 fp'.2.2.2.1 fp'.2.2.2.2.1 fp'.2.2.2.2.2
theorem vY{wi:TI}{i:Nat}{y:Str}{py D7:Pos}(hx:X.xe=λ_ _=>False)(hS:dB X N' scope mp)(iQ:X.calm=true)(hi:PI X tg iter wi)(hg:∀cl C s₀ H₀ ex,PG (bR X N' scope cl C s₀ H₀ ex) tg g)
  (hc:∀cl C s₀ H₀ ex,lg (bR X N' scope cl C s₀ H₀ ex) ifs tc) (he:∀cl C s₀ H₀ ex,PE (bR X N' scope cl C s₀ H₀ ex) elt te) (hN:X.N.Nodup) (hiN:X.N[i]?=some y) (hl:Loc X.env.scope y)
  (hsw:swapsWith (.ListComp elt [⟨tg,iter,ifs,0⟩] scope pos) (some (.Name y py)) D7.line X.env=pure true) (hs:∀x,foldedSetIterable iter X.env x=pure x:=by intro _;rfl)
  (hf:X.fn y=true∨X.env.scope.names.lookup y=some .local:=by first|exact .inl rfl|exact .inr rfl|assumption) :
  PS X (.Assign [.Name y py] (.ListComp elt [⟨tg,iter,ifs,0⟩] scope pos) D7) (Ke (λσ H Q=>wi σ H λJ H1=>z_ J mp g tc te σ H1 Q) (C9 i)):=by
 intro pins s σ H D I h
 have hfr:∀y∈scope.names,y.2=.free→∃c,X.env.cells.lookup y.1=some c:=λy hy hk=>I.ok.has y.1 (hS.free y hy hk)
 obtain⟨cl,hcl,h1,h2⟩:=qm hfr
 rw[exec_Assign_Name_used _ _ _ _ hsw]
 refine wpAny_bind (wpAny_standAt (wpAny_bind ?_))
 show wpAny _ X.A (do let _ ← comprehension (.ListComp elt [⟨tg,iter,ifs,0⟩] scope pos) scope X.env _ (newList []) false (eval iter X.env) (some (assign (.Name y py) X.env))) _ _ s
 refine wpAny_bind (wpAny_mono (wpAny_comprehension_free (use:=some (assign (.Name y py) X.env)) (Q:=λ_ s'=>SP X pins D .next s') rfl hs hcl hS.kind hS.loc
  (thn (hi pins s σ H _ I h) λv s1 q1=>thn q1 λitv s2 ⟨it,fp,tn,J,H2,e,I2,T,st2,f2,q2⟩=>?_)) (λ_ s' hq=>wpAny_pure (wpAny_pure hq)) λ_ _ e=>e)
 subst e
 refine sy (RR:=λacc C=>compPost (model X.prog X.w) X.A X.xe (some (assign (.Name y py) X.env)) (λ_ s'=>SP X pins D .next s') acc C) hS iQ hg hc he h1 h2 I2 T st2 f2 q2 λp C s' H' I' fp' ns q'=>?_
 obtain⟨m,hm⟩:=ns
 obtain⟨oC,es,ep,hoC,rC⟩:=id hm
 show wpAny _ X.A (assign (.Name y py) X.env (.ref p)) _ _ _
 refine wpAny_assign_Name (rV I' hN hiN hl (v:=.ref p) rfl (λs'' I'' sb=>?_) hf)
 obtain⟨a,sb,ha⟩:=sb
 have hCa:C≠a:=by
  rcases ha with rfl|ha
  ·exact fp'.2.1
  ·exact λz=>fp'.2.2.2.2.1 y a ha z.symm
 refine⟨m,⟨oC,es,ep,(sb.2 C hCa).trans hoC,rC⟩,λh3 sb3=>⟨_,H',?_,q'⟩⟩
 exact I''.turned (t':=s''.toks) (λb o hb e=>(sb3.2 b hb).trans e) fp'.1 fp'.2.1 fp'.2.2.2.1 fp'.2.2.2.2.1 fp'.2.2.2.2.2
end
end L2
namespace Fw
open PySem PySem.Spec PyProof.Rows L2
section
variable{K:PySem.W.Frag}{F F' F1 F2 H H' H1 H2:Hp}{α α' α1 α2:List Addr}{μ μ':af}{e:Slots}{σ:L2.St}
theorem qo{mp:List (Option Nat)}{i:Nat}{x:SV}(h:slot (ini mp e) i=some x):∃j,mp[i]?=some (some j)∧slot e j=some x:=by
 unfold slot ini at h
 rw[List.getElem?_map] at h
 cases q:mp[i]? with
 | none=>rw[q] at h;cases h
 | some o =>
  cases o with
  | none=>rw[q] at h;cases h
  | some j =>
   rw[q] at h
   refine⟨j,rfl,?_⟩
   simp only[Option.map_some,Option.bind_some] at h
   cases z:slot e j with
   | none=>rw[z] at h;cases h
   | some y=>rw[z] at h;cases h;rfl
theorem Sim.ini(S:Sim K F α e μ σ H)(mp:List (Option Nat)):Sim K F α (Fw.ini mp e) μ (rG mp σ) H:=by
 refine⟨S.st,λi x h=>?_,by unfold Fw.ini rG;rw[List.length_map,List.length_map]⟩
 obtain⟨j,hj,hx⟩:=qo h
 obtain⟨v,hv,ok⟩:=S.sl j x hx
 refine⟨v,?_,ok⟩
 unfold rG
 rw[List.getElem?_map,hj]
 simp[hv]
theorem cx.Lg{p:Addr}{o:HO}(S:cx K F α μ H)(h1:F p=none)(h2:p∉α)(n:NT o:=by intro _ h;cases h):cx K F α μ (upd H p o):=by
 have na:∀{k:Nat}{a:Addr},α[k]?=some a→a≠p:=λ{k a} h q=>h2 (by rw[← q];exact List.mem_of_getElem? h)
 refine⟨λa z hz=>?_,S.len,S.nd,λk a g=>?_,λk b u a g1 g2=>?_,S.tps.upd n⟩
 ·rw[aG (λq=>by subst q;rw[h1] at hz;cases hz)];exact S.ext a z hz
 ·rw[aG (na g)];exact S.there k a g
 ·obtain⟨c1,c2⟩:=S.cell k b u a g1 g2
  refine⟨λhb=>⟨(c1 hb).1,?_⟩,c2⟩
  have d2:=(c1 hb).2
  cases u with
  | lst ts=>obtain⟨vs,w1,w2⟩:=d2;exact⟨vs,by rw[aG (na g2)];exact w1,w2⟩
  | dct ts=>obtain⟨vs,w1,w2⟩:=d2;exact⟨vs,by rw[aG (na g2)];exact w1,w2⟩
  | dtt fz ts=>exact⟨d2.1,(aG (na g2)).trans d2.2⟩
  | _=>exact d2.elim
theorem Ex.Lg{p:Addr}{o:HO}(x:Ex F α H F' α' H')(h:H p=none):Ex F α H F' α' (upd H' p o):=⟨x.same,x.pre,λb z h1 h2 h3=>by
 obtain⟨g1,g2,g3⟩:=x.fr b z h1 h2 h3
 exact⟨by rw[aG (λq=>by subst q;rw[h] at h1;cases h1)];exact g1,g2,g3⟩⟩
theorem Sim.back{e':Slots}(S:Sim K F α e' μ σ H)(hl:e.length=e'.length)(h:∀j x,slot e j=some x→slot e' j=some x):Sim K F α e μ σ H :=
 ⟨S.st,λi x g=>S.sl i x (h i x g),by rw[hl];exact S.len⟩
end
section
variable{X:Cx}{elt iter tg:Expr}{ifs:List Expr}{scope:Scope}{pos:Pos}{N':List Str}{mp:List (Option Nat)}{di:DI}{b:BD}{dc d:D}
def qp(mp:List (Option Nat))(b:BD):Prop:=∀t e e1,b t (ini mp e)=some e1→(ini mp e).length=e1.length∧∀j x,slot (ini mp e) j=some x→slot e1 j=some x
theorem slot_set_ne{e:Slots}{i j:Nat}{x:SV}(h:i≠j):slot (e.set i (some x)) j=slot e j:=by
 unfold slot
 rw[List.getElem?_set_ne h]
theorem aJ{i:Nat}(h:mp[i]?=some none):qp mp (aw i):=λt e e1 hb=>by
 cases hb
 refine⟨by rw[List.length_set],λj x hx=>?_⟩
 obtain⟨k,hk,_⟩:=qo hx
 rw[slot_set_ne (λq=>by subst q;rw[h] at hk;cases hk)];exact hx
theorem fA{i i':Nat}(h:mp[i]?=some none)(h':mp[i']?=some none):qp mp (dg [i,i']):=λt e e1 hb=>by
 cases t with
 | tup ts =>
  unfold dg at hb
  simp only at hb
  by_cases hl:ts.length=[i,i'].length
  ·rw[if_pos hl] at hb
   match ts,hl with
   | [t1,t2],_ =>
    cases hb
    refine⟨by simp,λj x hx=>?_⟩
    obtain⟨k,hk,_⟩:=qo hx
    have n1:i≠j:=λq=>by subst q;rw[h] at hk;cases hk
    have n2:i'≠j:=λq=>by subst q;rw[h'] at hk;cases hk
    simp only[List.zip_cons_cons,List.zip_nil_right,List.foldl_cons,List.foldl_nil]
    rw[slot_set_ne n2,slot_set_ne n1];exact hx
  ·rw[if_neg hl] at hb;cases hb
 | _=>cases hb
theorem bK{X':Cx}:lg X' [] (tDT X' (dC (.bl true))):=λpins s σ H Q I au=>by
 obtain⟨F,α,e,μ,S,h⟩:=au
 obtain⟨b,hb,h⟩:=h
 cases hb
 exact D2 pins s σ H Q I (h H F α Ex.refl S)
theorem bS{X':Cx}{c:Expr}(h:CT X' c dc):lg X' [c] (tDT X' dc):=D3 h
def oD(K:PySem.W.Frag)(d:D):TE:=λσ H Q=>∃F α e μ x μ',Sim K F α e μ σ H∧d e μ=.ok x μ'∧Hs K F α H e σ Q x μ'
def oDT(K:PySem.W.Frag)(d:D):TT:=λσ H Q=>∃F α e μ b μ',Sim K F α e μ σ H∧d e μ=.ok (.val (.bl b)) μ' ∧
 ∀H' F' α',Ex F α H F' α' H'→Sim K F' α' e μ' σ H'→Q b H'
theorem Jx{X':Cx}{σ:L2.St}{H:Hp}{Q:VK}(h:oD X'.K d σ H Q):tD X' d σ H Q:=by
 obtain⟨F,α,e,μ,x,μ',S,h,p⟩:=h
 exact⟨F,α,e,μ,S,by rw[h];exact p⟩
theorem D8{X':Cx}{σ:L2.St}{H:Hp}{Q:Bool→Hp→Prop}(h:oDT X'.K d σ H Q):tDT X' d σ H Q:=by
 obtain⟨F,α,e,μ,b,μ',S,h,p⟩:=h
 exact⟨F,α,e,μ,S,by rw[h];exact⟨b,rfl,p⟩⟩
inductive CIv(K:PySem.W.Frag)(same:af→Prop)(items:List T)(b:BD)(dc d:D)(e0:Slots)(us:List T)(μ':af)(F1:Hp)(α1:List Addr)(H1:Hp)(p:Addr)(i:Nat)(σ':L2.St)(Hc:Hp):Prop
 | mk (F2:Hp) (α2:List Addr) (μ3:af) (done rest:List T) (vs:List V) (x2:Ex F1 α1 H1 F2 α2 Hc) (S2:Sim K F2 α2 e0 μ3 σ' Hc) (n1:F2 p=none) (n2:p∉α2) (hv:Hc p=some (.lst vs)) (hr:aD K F2 done vs) (hdl:done.length≤i) (hL:bM same b dc d e0 (items.drop i) μ3=.ok rest μ') (hu:us=done++rest)
theorem sA{σ:L2.St}{H:Hp}{Q:VK}(hb:qp mp b)(h:tF X (aF di mp b dc d) σ H Q):tDI X di σ H λJ H1=>z_ J mp (tBd X.K b) (oDT X.K dc) (oD X.K d) σ H1 Q:=by
 obtain⟨F,α,e,μ,S,h⟩:=h
 refine⟨F,α,e,μ,S,(R.wp_bind h).mono (λW μ1 h J H1 F1 α1 x1 S1 ok=>?_) λ_ _ h=>h⟩
 cases hL:(bM W.same b dc d (ini mp e) W.items μ1).calm with
 | err c μ'=>cases q:bM W.same b dc d (ini mp e) W.items μ1<;>rw[q] at hL<;>cases hL
 | bad=>rw[hL] at h;exact h.elim
 | ok us μ' =>
 rw[hL] at h
 have hL:=R.calm_eq hL
 rw[R.aL] at h
 by_cases hz:W.items.length≤szL
 ·rw[if_pos hz] at h
  obtain⟨t,et,post⟩:=h
  cases et
  intro p hp
  refine⟨λi m σ' Hc=>m=W.items.length-i∧i≤W.items.length∧CIv X.K W.same W.items b dc d (ini mp e) us μ' F1 α1 H1 p i σ' Hc,
   ⟨_,rfl,Nat.zero_le _,.mk F1 α1 μ1 [] us [] (Ex.lay hp) ((S1.ini mp).of (aN.refl _) (List.prefix_refl _) (S1.st.lay hp)) (S1.st.ext.free hp) (b6 S1.st hp) aB aD.jf (Nat.zero_le _) hL rfl⟩,?_⟩
  rintro i m σ2 H2 ⟨rfl,hi',hC⟩
  obtain⟨F2,α2,μ3,done,rest,vs,x2,S2,n1,n2,hv,hr,hdl,hL,hu⟩:=hC
  by_cases hlt:i<W.items.length
  ·rw[List.drop_eq_getElem_cons hlt] at hL
   unfold bM at hL
   by_cases hs:W.same μ3
   ·rw[if_pos hs] at hL
    obtain⟨g1,g2⟩:=ok F2 α2 μ3 H2 x2.same x2.pre S2.st hs
    obtain⟨go,yl⟩:=g1 i W.items[i] (by simp[hlt])
    cases hb':b W.items[i] (ini mp e) with
    | none=>simp only[hb'] at hL;cases hL
    | some e3 =>
     simp only[hb'] at hL
     obtain⟨y0,μ4,hy,hL⟩:=R.aS hL
     have hy:=R.calm_eq hy
     obtain⟨k,μ5,hk,hK⟩:=R.aS hL
     obtain⟨hk1,hk2⟩:=R.lQ hk
     subst hk2
     have ek:=xX hk1
     rw[ek] at hy
     clear hL hk hk1 ek
     obtain⟨hl3,hb3⟩:=hb _ _ _ hb'
     refine .inr ⟨go,CIv X.K W.same W.items b dc d (ini mp e) us μ' F1 α1 H1 p (i+1),λσ' H' q=>⟨W.items.length-(i+1),by lia,rfl,hlt,q⟩,λx H3 yy=>?_⟩
     obtain⟨F3,gr,rp⟩:=yl x H3 yy
     have x3:Ex F2 α2 H2 F3 α2 H3:=gr.ex S2.st.ext
     refine⟨F3,α2,ini mp e,μ3,W.items[i],e3,S2.grow gr,rp,hb',λσ4 S4=>?_⟩
     refine⟨F3,α2,e3,μ3,k,μ4,S4,hy,λH5 F5 α5 x5 S5=>?_⟩
     obtain⟨v3,n3,m3⟩:=x3.fr p _ hv n1 n2
     obtain⟨v5,n5,m5⟩:=x5.fr p _ v3 n3 m3
     cases k with
     | false =>
      rw[if_neg Bool.false_ne_true] at hK ⊢
      exact .mk F5 α5 μ4 done rest vs (x2.trans (x3.trans x5)) (S5.back hl3 hb3) n5 m5 v5 (aD.mono (x3.same.trans x5.same) _ _ hr) (Nat.le_succ_of_le hdl) hK hu
     | true =>
      rw[if_pos rfl] at hK ⊢
      obtain⟨y2,μ6,hd,hK⟩:=R.aS hK
      have hd:=R.calm_eq hd
      obtain⟨u,μ7,hfz,hK⟩:=R.aS hK
      obtain⟨us',μ8,hL2,hK⟩:=R.aS hK
      cases hK
      refine⟨F5,α5,e3,μ4,y2,μ6,S5,hd,λv H6 F6 α6 x6 S6 o6=>?_⟩
      obtain⟨v6,n6,m6⟩:=x6.fr p _ v5 n5 m5
      obtain⟨F7,s7,ne7,S7,r7⟩:=lW S6.st o6 hfz
      have hvl:vs.length<sizeLine:=by
       have:=hr.length
       have hz':W.items.length≤sizeLine:=hz
       lia
      have n7:F7 p=none:=by rw[ne7 p m6];exact n6
      have x7:Ex F1 α1 H1 F7 α6 H6:=x2.trans (x3.trans (x5.trans (x6.trans (Ex.oB s7 ne7))))
      refine⟨p,vs,v,rfl,rfl,v6,hvl,.mk F7 α6 μ7 (done++[u]) us' (vs++[v]) (x7.Lg hp) ?_ n7 m6 aB ?_ ?_ hL2 ?_⟩
      ·exact((S6.back hl3 hb3).of s7 (List.prefix_refl _) S7).of (aN.refl _) (List.prefix_refl _) (S7.Lg n7 m6)
      ·exact(aD.mono (x3.same.trans (x5.same.trans (x6.same.trans s7))) _ _ hr).append (aD.one r7)
      ·rw[List.length_append,List.length_singleton];lia
      ·rw[hu,List.append_assoc];rfl
   ·rw[if_neg hs] at hL;cases hL
  ·have e1:i=W.items.length:=by lia
   subst e1
   rw[List.drop_length] at hL
   unfold bM at hL
   by_cases hs:W.same μ3
   ·rw[if_pos hs] at hL
    cases hL
    obtain⟨g1,g2⟩:=ok F2 α2 _ H2 x2.same x2.pre S2.st hs
    refine .inl ⟨g2,post p H2 F2 α2 (x1.trans x2) (S1.of x2.same x2.pre S2.st) (x1.was S1.st hp) n1 n2 ⟨vs,hv,?_⟩⟩
    rw[hu,List.append_nil];exact hr
   ·rw[if_neg hs] at hL;cases hL
 ·rw[if_neg hz] at h;exact h.elim
theorem ei{e:Slots}{μ μ':af}{x:SV}(h:aF di mp b dc d e μ=.ok x μ'):∃t,x=.val t:=by
 unfold aF at h
 obtain⟨W,μ1,hW,h⟩:=R.aS h
 obtain⟨us,μ2,hL,h⟩:=R.aS h
 by_cases hz:W.items.length≤szL
 ·rw[if_pos hz] at h;cases h;exact⟨_,rfl⟩
 ·rw[if_neg hz] at h;cases h
theorem lg.imp{X':Cx}{cs:List Expr}{t t':TT}(h:lg X' cs t)(i:∀σ H Q,t' σ H Q→t σ H Q):lg X' cs t':=λpins s σ H Q I q=>h pins s σ H Q I (i σ H Q q)
theorem bF(hx:X.xe=λ_ _=>False)(hS:dB X N' scope mp)(iQ:X.calm=true)(hb:qp mp b)(hi:CI X tg iter di)(hg:∀cl C s₀ H₀ ex,CB (bR X N' scope cl C s₀ H₀ ex) tg b)
  (hc:∀cl C s₀ H₀ ex,lg (bR X N' scope cl C s₀ H₀ ex) ifs (tDT (bR X N' scope cl C s₀ H₀ ex) dc)) (he:∀cl C s₀ H₀ ex,CE (bR X N' scope cl C s₀ H₀ ex) elt d) (hs:∀x,foldedSetIterable iter X.env x=pure x:=by intro _;rfl) :
  CF X (.ListComp elt [⟨tg,iter,ifs,0⟩] scope pos) (aF di mp b dc d) :=
 ⟨PE.imp (Hw hx hS iQ hi (g:=tBd X.K b) hg (λcl C s₀ H₀ ex=>lg.imp (hc cl C s₀ H₀ ex) λσ H Q q=>D8 (X':=bR X N' scope cl C s₀ H₀ ex) q) (te:=oD X.K d) (λcl C s₀ H₀ ex=>PE.imp (he cl C s₀ H₀ ex) λσ H Q q=>Jx (X':=bR X N' scope cl C s₀ H₀ ex) q) hs) λσ H Q q=>sA hb q,λ_ _ _ _ h=>ei h⟩
theorem dm(i:Nat){y:Str}{py D7:Pos}(hx:X.xe=λ_ _=>False)(hS:dB X N' scope mp)(iQ:X.calm=true)(hb:qp mp b)(hi:CI X tg iter di)(hg:∀cl C s₀ H₀ ex,CB (bR X N' scope cl C s₀ H₀ ex) tg b)
  (hc:∀cl C s₀ H₀ ex,lg (bR X N' scope cl C s₀ H₀ ex) ifs (tDT (bR X N' scope cl C s₀ H₀ ex) dc)) (he:∀cl C s₀ H₀ ex,CE (bR X N' scope cl C s₀ H₀ ex) elt d) (hN:X.N.Nodup) (hiN:X.N[i]?=some y:=by rfl) (hl:Loc X.env.scope y:=by first|exact Or.inl rfl|exact Or.inr rfl)
  (hsw:swapsWith (.ListComp elt [⟨tg,iter,ifs,0⟩] scope pos) (some (.Name y py)) D7.line X.env=pure true:=by rfl) (hs:∀x,foldedSetIterable iter X.env x=pure x:=by intro _;rfl)
  (hf:X.fn y=true∨X.env.scope.names.lookup y=some .local:=by first|exact .inl rfl|exact .inr rfl|assumption) :
  PS X (.Assign [.Name y py] (.ListComp elt [⟨tg,iter,ifs,0⟩] scope pos) D7) (λD σ H=>tF X (aF di mp b dc d) σ H λv H1=>D.nx (σ.set i (some v)) H1) :=
 PS.imp (vY hx hS iQ hi (g:=tBd X.K b) hg (λcl C s₀ H₀ ex=>lg.imp (hc cl C s₀ H₀ ex) λσ H Q q=>D8 (X':=bR X N' scope cl C s₀ H₀ ex) q) (te:=oD X.K d) (λcl C s₀ H₀ ex=>PE.imp (he cl C s₀ H₀ ex) λσ H Q q=>Jx (X':=bR X N' scope cl C s₀ H₀ ex) q) hN hiN hl hsw hs hf) λD σ H q=>sA hb q
theorem dZ{st:Stmt}{i:Nat}{da:D}(h:PS X st (λD σ H=>tF X da σ H λv H1=>D.nx (σ.set i (some v)) H1))(hv:∀e μ x μ',da e μ=.ok x μ'→∃t,x=.val t):CS X st (ay i da) :=
 PS.imp h λD σ H ⟨F,α,e,μ,S,h⟩=>vT hv ⟨F,α,e,μ,S,(aR.toS h).mono (λx μ1 h v H1 F1 α1 x1 S1 o1=>h _ H1 F1 α1 x1 (S1.set o1)) λ_ _ h=>h⟩
end
def spD(K:PySem.W.Frag)(fn:FN)(n:Nat):Sp:=λvs H Q _=>vs.length=n∧∃F α μ xs r μ',cx K F α μ H∧Paired (λv x=>dY K F α v x) vs xs∧fn xs μ=.ok r μ' ∧
 ∀v H' F' α',Ex F α H F' α' H'→cx K F' α' μ' H'→dY K F' α' v r→Q v H'
section
variable{X:Cx}{f:Addr}{fd:FuncData}{ps:List Str}{x:Str}{p pos:Pos}{e:Expr}{es:List Expr}{ds:List D}{fn:FN}{k:Nat}
theorem BR{σ:L2.St}{H:Hp}{Q:VK}(hl:ds.length=ps.length)(h:tD X (ak (cal fn) ds) σ H Q):Jp (spD X.K fn ps.length) [] E0 (tDA X ds) σ H Q:=by
 obtain⟨F,α,e,μ,S,h⟩:=h
 refine⟨F,α,e,μ,S,(dA (R.wp_bind h)).mono (λxs μ1 au vs H1 F1 α1 x1 S1 o1=>?_) λ_ _ h=>h⟩
 obtain⟨hn,h⟩:=au
 show spD X.K fn ps.length (vs++[]) H1 Q E0
 rw[List.append_nil]
 have h:((fn xs μ1).calm).wp (Hs X.K F α H e σ Q) (eG X F α H e):=h
 cases q:fn xs μ1 with
 | err c μ2=>rw[q] at h;exact h.elim
 | bad=>rw[q] at h;exact h.elim
 | ok r μ2 =>
  rw[q] at h
  exact⟨by rw[o1.length,hn,hl],F1,α1,μ1,xs,r,μ2,S1.st,o1,q,λv H2 F2 α2 x2 S2 o2=>h v H2 F2 α2 (x1.trans x2) (S1.of x2.same x2.pre S2) o2⟩
theorem Hx(G:i9 X.prog X.w X.K X.mg X.base CX0 k f fd ps (spD X.K fn ps.length))(hr:b_ k X.A)(hm:X.mg x=some (.ref f))(hk:PySem.W.keepIn X.K (.ref f)=true)(hb:Binds X.K fd ps [])(ha:CA X (e::es) ds)
  (hl:ds.length=ps.length:=by rfl) (hg:Gl X x:=by rfl) (hdb:(x==("__debug__":Str))=false:=by decide) (he:starEach (e::es) X.env=(false,eval e X.env)::starEach es X.env:=by rfl) (hpl:(backTo pos (starEach es X.env)).any (·.1)=false:=by rfl) :
  CE X (.Call (.Name x p) (e::es) [] pos) (ak (cal fn) ds):=PE.imp (GO G hr hg hm hk hb .nil Nq ha hdb he hpl) λσ H Q q=>BR hl q
theorem mL{id:String}{r:List V→Hp→VK→Prop}{g:T→Option T}{d:D}(hc:cT X (.builtin id) r)(hs:qi X.K r g)(hm:X.mg x=none)(hv:bootBuiltins x=some (.builtin id))(ha:CE X e d)(hg:Gl X x:=by rfl)(hn:x≠"__name__":=by decide)
  (hdb:(x==("__debug__":Str))=false:=by decide) (hs1:starEach [e] X.env=(false,eval e X.env)::starEach [] X.env:=by rfl) (hpl:(backTo pos (starEach [] X.env)).any (·.1)=false:=by rfl):CE X (.Call (.Name x p) [e] [] pos) (dUn g d) :=
 PE.imp (mx hc hg hm hv (ag ha aq hs1) hn hdb hs1 hpl) (Jv hs)
theorem D9{id:String}{r:List V→Hp→VK→Prop}{g:T→Option T}{d:D}(hc:cT X (.type id) r)(hs:qi X.K r g)(hm:X.mg x=none)(hv:bootBuiltins x=some (.type id))(ha:CE X e d)(hg:Gl X x:=by rfl)(hn:x≠"__name__":=by decide)
  (hdb:(x==("__debug__":Str))=false:=by decide) (hs1:starEach [e] X.env=(false,eval e X.env)::starEach [] X.env:=by rfl) (hpl:(backTo pos (starEach [] X.env)).any (·.1)=false:=by rfl):CE X (.Call (.Name x p) [e] [] pos) (dUn g d) :=
 PE.imp (r_ hc hg hm hv (ag ha aq hs1) hn hdb hs1 hpl) (Jv hs)
theorem D_{id:String}{r:List V→Hp→VK→Prop}{g:T→Option T}{d:D}(hc:cT X (.type id) r)(hs:vS X.K r g)(hm:X.mg x=none)(hv:bootBuiltins x=some (.type id))(ha:CE X e d)(hg:Gl X x:=by rfl)(hn:x≠"__name__":=by decide)
  (hdb:(x==("__debug__":Str))=false:=by decide) (hs1:starEach [e] X.env=(false,eval e X.env)::starEach [] X.env:=by rfl) (hpl:(backTo pos (starEach [] X.env)).any (·.1)=false:=by rfl):CF X (.Call (.Name x p) [e] [] pos) (dUn g d) :=
 ⟨PE.imp (r_ hc hg hm hv (ag ha aq hs1) hn hdb hs1 hpl) (DY hs),λ_ _ _ _ h=>zZ h⟩
end
inductive Md where
 | V|D|K
def Md.fn:Md→Nat→DS→FN
 | .V=>fnV
 | .D=>fnD
 | .K=>fnK
section
variable{P:Program}{w:World}{K:PySem.W.Frag}{mg:Str→Option Value}{base:Heap}
theorem sC{F H:Hp}{α:List Addr}{μ:af}{N:List Str}{vs:List V}{xs:List SV}(S:cx K F α μ H)(o:Paired (λv x=>dY K F α v x) vs xs):Sim K F α (starts N.length xs) μ (L2.start N vs) H:=by
 unfold starts
 have hl:=o.length
 refine⟨S,λi x h=>?_,by unfold L2.start;simp[hl]⟩
 have get:∀{vs:List V}{xs:List SV}{i:Nat}{x:SV},Paired (λv x=>dY K F α v x) vs xs→xs[i]?=some x→∃v,vs[i]?=some v∧dY K F α v x:=λ{vs}=>by
  intro xs i x o
  induction o generalizing i with
  | nil=>intro e;simp at e
  | cons r _ ih =>
   intro e
   cases i with
   | zero=>simp at e;subst e;exact⟨_,rfl,r⟩
   | succ i =>
    obtain⟨v,h1,h2⟩:=ih (i:=i) (by simpa using e)
    exact⟨v,by simpa using h1,h2⟩
 unfold slot at h
 by_cases hi:i<xs.length
 ·rw[List.getElem?_append_left (by simpa using hi),List.getElem?_map] at h
  cases q:xs[i]? with
  | none=>rw[q] at h;cases h
  | some y =>
   rw[q] at h
   cases h
   obtain⟨v,h1,h2⟩:=get o q
   refine⟨v,?_,h2⟩
   unfold L2.start
   rw[List.getElem?_append_left (by simpa [hl] using hi),List.getElem?_map,h1]
   rfl
 ·rw[List.getElem?_append_right (by simpa using hi),List.getElem?_replicate] at h
  split at h<;>rename_i q
  ·split at q<;>cases q
  ·cases h
theorem bx{x qual:Str}{st:Stmt}{f:Addr}{fd:FuncData}{N ps:List Str}{k:Nat}{d:DS}(md:Md)(F:Fun K x qual st f fd)(S:aH N ps (ao st))
  (hb:∀(cdv:Value) (A:Around) (outer:List Env) (s:Shared) (H:Hp) (E:XK),b_ k (A.deeper (envOfC qual (ao st) s.heap.objs.size f cdv))→CSs (mw CX0 P w K mg base N qual (ao st) f cdv A outer s H E).nox (e_ st) d) :
  i9 P w K mg base CX0 (k+1) f fd ps (spD K (md.fn N.length d) ps.length):=by
 refine F.ok S (λvs H Q E h=>h.1) λcdv A outer s H vs Q E hr h=>⟨_,hb cdv A outer s H E hr,?_⟩
 obtain⟨hl,F0,α,μ,xs,r,μ',S0,o,h,post⟩:=h
 refine⟨F0,α,_,μ,sC S0 o,?_⟩
 have fin:∀{y:SV}{μ1:af}{v:V}{H1 F1:Hp}{α1:List Addr},(match md with
   | .V=>ice μ.length y μ1
   | .D=>gc μ.length y μ1
   | .K=>.ok y μ1)=.ok r μ'→Ex F0 α H F1 α1 H1→cx K F1 α1 μ1 H1→dY K F1 α1 v y→Q v H1:=λ{y μ1 v H1 F1 α1} hg x1 S1 o1=>by
  cases md with
  | V =>
   obtain⟨F2,g1,g2,g3,g4⟩:=DW S0.len x1.pre S1 o1 hg
   exact post v H1 F2 α ⟨x1.same.trans g1,List.prefix_refl _,λb z h1 h2 h3=>let ⟨a1,a2,a3⟩:=x1.fr b z h1 h2 h3;⟨a1,by rw[g2 b a3];exact a2,h3⟩⟩ g3 g4
  | D =>
   obtain⟨γ,g1,g2,g3,g4⟩:=Nw S0.len x1.pre S1 o1 hg
   exact post v H1 F1 γ ⟨x1.same,g1,λb z h1 h2 h3=>let ⟨a1,a2,a3⟩:=x1.fr b z h1 h2 h3;⟨a1,a2,λhm=>a3 (g2 b hm)⟩⟩ g3 g4
  | K =>
   cases hg
   exact post v H1 F1 α1 x1 S1 o1
 cases q:d (starts N.length xs) μ with
 | rt y μ1=>exact λv H1 F1 α1 x1 S1 o1=>fin (by cases md<;>(simp only[Md.fn,eF,lU,jc,q] at h;exact h)) x1 S1 o1
 | nx e1 μ1=>exact λσ1 H1 F1 α1 x1 S1=>fin (y:=.val .non) (by cases md<;>(simp only[Md.fn,eF,lU,jc,q] at h;exact h)) x1 S1.st (Rep.Hq (K:=K) (F:=F1))
 | bk e1 μ1=>cases md<;>(simp only[Md.fn,eF,lU,jc,q] at h;cases h)
 | ct e1 μ1=>cases md<;>(simp only[Md.fn,eF,lU,jc,q] at h;cases h)
 | err c e1 μ1=>cases md<;>(simp only[Md.fn,eF,lU,jc,q] at h;cases h)
 | bad=>cases md<;>(simp only[Md.fn,eF,lU,jc,q] at h;cases h)
theorem jh{f:Addr}{fd:FuncData}{ps:List Str}:i9 P w K mg base CX0 0 f fd ps (spD K (λ_ _=>.bad) ps.length) :=
 ⟨λvs H Q E h=>h.1,λA outer s H args us vs Q E _ _ _ _ h=>by obtain⟨_,_,_,_,_,_,_,_,_,h,_⟩:=h;cases h⟩
end
end Fw
namespace Fw
open PySem
section
variable{α:Type}{μ:List α}{a b c x:α}{l:List α}
@[simp] theorem gX:(μ++a::l)[μ.length]?=some a:=by simp
@[simp] theorem Aa:(μ++a::b::l)[μ.length+1]?=some b:=by simp[List.getElem?_append_right]
@[simp] theorem uq:(μ++a::l).set μ.length x=μ++x::l:=by simp
@[simp] theorem Hy:(μ++a::b::l).set (μ.length+1) x=μ++a::x::l:=by simp[List.set_append]
@[simp] theorem Hz:(μ++l).take μ.length=μ:=by simp
end
@[simp] theorem ir(μ:af)(k:Nat):rd μ (.cel k)=(μ[k]?).map (·.2):=(rfl)
theorem Ea{μ:af}{k:Nat}{b:Bool}{t:T}(h:μ[k]?=some (b,t)):frz (.cel k) μ=.ok t (μ.set k (false,t)):=by
 unfold frz;simp only[h]
@[simp] theorem OM(μ l:af)(b:Bool)(t:T):frz (.cel μ.length) (μ++(b,t)::l)=.ok t (μ++(false,t)::l):=by
 rw[Ea (b:=b) (t:=t) (by simp)];simp
@[simp] theorem ON(μ l:af)(a:Bool×T)(b:Bool)(t:T):frz (.cel (μ.length+1)) (μ++a::(b,t)::l)=.ok t (μ++a::(false,t)::l):=by
 rw[Ea (b:=b) (t:=t) (by simp)];simp
@[simp] theorem HA(n:Nat)(t:T)(μ:af):ice n (.val t) μ=.ok (.val t) (μ.take n):=(rfl)
@[simp] theorem Ab(μ l:af)(b:Bool)(t:T):ice μ.length (.cel μ.length) (μ++(b,t)::l)=.ok (.val t) μ:=by unfold ice;simp
@[simp] theorem mM(μ l:af)(b:Bool)(ts:List T):nA (.cel μ.length) (μ++(b,.lst ts)::l)=some ():=zX (b:=b) (ts:=ts) (by simp)
@[simp] theorem NH(μ l:af)(a:Bool×T)(b:Bool)(ts:List T):nA (.cel (μ.length+1)) (μ++a::(b,.lst ts)::l)=some ():=zX (b:=b) (ts:=ts) (by simp)
theorem append_at{μ:af}{k:Nat}{ts:List T}{t:T}(h:μ[k]?=some (true,.lst ts))(hl:ts.length<szL):appendAt (.cel k) t μ=some (μ.set k (true,.lst (ts++[t]))):=by
 unfold appendAt;simp only[h];rw[if_pos hl]
theorem gG(μ l:af)(ts:List T)(t:T)(hl:ts.length<szL):appendAt (.cel μ.length) t (μ++(true,.lst ts)::l)=some (μ++(true,.lst (ts++[t]))::l):=by
 rw[append_at (ts:=ts) (by simp) hl];simp
theorem xY(μ l:af)(a:Bool×T)(ts:List T)(t:T)(hl:ts.length<szL):appendAt (.cel (μ.length+1)) t (μ++a::(true,.lst ts)::l)=some (μ++a::(true,.lst (ts++[t]))::l):=by
 rw[append_at (ts:=ts) (by simp) hl];simp
theorem kd{μ:af}{k:Nat}{ts:List T}{t:T}{i:Int}(h:μ[k]?=some (true,.lst ts))(h0:0≤i)(h1:i<ts.length):setAt (.cel k) (.int i) t μ=some (μ.set k (true,.lst (ts.set i.toNat t))):=by
 unfold setAt;simp only[h];unfold ixN;rw[if_pos h0,if_pos h1];rfl
@[simp] theorem sD(m:Nat)(xs:List SV):starts m xs=xs.map some++List.replicate (m-xs.length) none:=(rfl)
theorem pD{α:Type}{xs:List α}{i:Int}(h0:0≤i):atI xs i=xs[i.toNat]?:=by
 unfold atI ixN
 rw[if_pos h0]
 by_cases h:i<xs.length
 ·rw[if_pos h];rfl
 ·rw[if_neg h]
  exact(List.getElem?_eq_none (by lia)).symm
theorem ji{α β:Type}{xs:List α}{f:α→β}{i:Int}(h0:0≤i)(h1:i<xs.length):atI (xs.map f) i=some (f (xs[i.toNat]'(by lia))):=by
 rw[pD h0,List.getElem?_map,List.getElem?_eq_getElem (by lia)];rfl
@[simp] theorem vZ{α:Type}(x:α)(xs:List α):atI (x::xs) 0=some x:=by rw[pD (by lia)];rfl
@[simp] theorem Ac{α:Type}(x y:α)(xs:List α):atI (x::y::xs) 1=some y:=by rw[pD (by lia)];rfl
@[simp] theorem HB{α:Type}(x y z:α)(xs:List α):atI (x::y::z::xs) 2=some z:=by rw[pD (by lia)];rfl
def a_(lo:Int)(n:Nat):List Int:=(List.range n).map λ(k:Nat)=>lo+(k:Int)
theorem gH(lo:Int)(n:Nat):bL lo n=(a_ lo n).map T.int:=by
 unfold a_
 induction n generalizing lo with
 | zero=>rfl
 | succ n ih =>
  rw[bL,ih (lo+1),List.range_succ_eq_map]
  simp only[List.map_cons,List.map_map]
  congr 1
  ·simp
  ·apply List.map_congr_left
   intro k _
   simp only[Function.comp]
   congr 1
   lia
@[simp] theorem Gw(lo:Int)(n:Nat):(a_ lo n).length=n:=by simp[a_]
theorem eV{lo:Int}{n:Nat}{k:Int}:k∈a_ lo n↔lo≤k∧k<lo+n:=by
 unfold a_
 rw[List.mem_map]
 constructor
 ·rintro⟨j,hj,rfl⟩
  rw[List.mem_range] at hj
  lia
 ·rintro⟨h1,h2⟩
  exact⟨(k-lo).toNat,by rw[List.mem_range];lia,by lia⟩
theorem xZ{lo:Int}{n i:Nat}{k:Int}(h:(a_ lo n)[i]?=some k):i<n∧k=lo+i:=by
 unfold a_ at h
 rw[List.getElem?_map] at h
 by_cases hi:i<n
 ·rw[List.getElem?_range hi] at h
  cases h
  exact⟨hi,rfl⟩
 ·rw[List.getElem?_eq_none (by simpa using hi)] at h
  cases h
theorem mO{lo:Int}{n i:Nat}{t:T}(h:(bL lo n)[i]?=some t):i<n∧t=.int (lo+i):=by
 rw[gH,List.getElem?_map] at h
 cases q:(a_ lo n)[i]? with
 | none=>rw[q] at h;cases h
 | some k =>
  rw[q] at h
  cases h
  obtain⟨h1,rfl⟩:=xZ q
  exact⟨h1,rfl⟩
theorem mP{lo:Int}{n i:Nat}{t:T}(h:(bL lo n)[i]?=some t):∃k:Int,t=.int k∧i<n∧k=lo+i:=by
 obtain⟨h1,rfl⟩:=mO h
 exact⟨_,rfl,h1,rfl⟩
@[simp] theorem cD(lo:Int)(n:Nat):(bL lo n).length=n:=by rw[gH];simp
theorem Eb{α:Type}(g:α→Bool)(xs:List α):BM (.lst (xs.map λk=>T.bl (g k)))=some (.bl (xs.all g)):=by
 have e:(xs.map λk=>T.bl (g k))=(xs.map g).map T.bl:=by simp
 rw[e,DO];simp[List.all_map]
theorem v7{α:Type}(g:α→Bool)(xs:List α):rF (.lst (xs.map λk=>T.bl (g k)))=some (.bl (xs.any g)):=by
 have e:(xs.map λk=>T.bl (g k))=(xs.map g).map T.bl:=by simp
 rw[e,DP];simp[List.any_map]
theorem v8{α:Type}(g:α→Int)(xs:List α):vP (.lst (xs.map λk=>T.int (g k)))=some (.int (xs.map g).sum):=by
 have e:(xs.map λk=>T.int (g k))=(xs.map g).map T.int:=by simp
 rw[e,BL]
def RS.x_(r:RS)(J:Slots→af→Prop)(P:RS→Prop):Prop:=match r with
 | .nx e μ=>J e μ
 | .ct e μ=>J e μ
 | .bk e μ=>P (.nx e μ)
 | r=>P r
@[simp] theorem HC(e:Slots)(μ:af)(J:Slots→af→Prop)(P:RS→Prop):(RS.nx e μ).x_ J P=J e μ:=(rfl)
@[simp] theorem HD(x:SV)(μ:af)(J:Slots→af→Prop)(P:RS→Prop):(RS.rt x μ).x_ J P=P (.rt x μ):=(rfl)
theorem iR{same:af→Prop}{b:BD}{body:DS}(P:RS→Prop)(I:Nat→Slots→af→Prop)(hs:∀i e μ,I i e μ→same μ){ts:List T}
  (step:∀i t e μ,ts[i]?=some t→I i e μ→∃e1,b t e=some e1∧(body e1 μ).x_ (I (i+1)) P) (fin:∀e μ,I ts.length e μ→P (.nx e μ)) {e:Slots}{μ:af} (h:I 0 e μ):P (forL same b body ts e μ):=by
 have all:∀(us:List T) (i:Nat) (e:Slots) (μ:af),ts.drop i=us→I i e μ→i≤ts.length→P (forL same b body us e μ):=by
  intro us
  induction us with
  | nil =>
   intro i e μ hd hI hi
   have hl:ts.length≤i:=by
    have:=congrArg List.length hd
    simp at this
    lia
   have e1:i=ts.length:=by lia
   subst e1
   unfold forL
   rw[if_pos (hs _ _ _ hI)]
   exact fin e μ hI
  | cons t us ih =>
   intro i e μ hd hI hi
   have hlt:i<ts.length:=by
    have:=congrArg List.length hd
    simp at this
    lia
   have hg:ts[i]?=some t:=by
    have:(ts.drop i)[0]?=some t:=by rw[hd];rfl
    rw[List.getElem?_drop] at this
    simpa using this
   have hd':ts.drop (i+1)=us:=by
    rw[← List.tail_drop,hd];rfl
   obtain⟨e1,h1,h2⟩:=step i t e μ hg hI
   unfold forL
   rw[if_pos (hs _ _ _ hI)]
   simp only[h1]
   cases q:body e1 μ with
   | nx e2 μ2=>rw[q] at h2;exact ih (i+1) e2 μ2 hd' h2 hlt
   | ct e2 μ2=>rw[q] at h2;exact ih (i+1) e2 μ2 hd' h2 hlt
   | bk e2 μ2=>rw[q] at h2;exact h2
   | rt x μ2=>rw[q] at h2;exact h2
   | err c e2 μ2=>rw[q] at h2;exact h2
   | bad=>rw[q] at h2;exact h2
 exact all ts 0 e μ rfl h (Nat.zero_le _)
theorem eJ{same:af→Prop}{b:BD}{body:DS}(I:Nat→Slots→af→Prop)(hs:∀i e μ,I i e μ→same μ){ts:List T}
  (step:∀i t e μ,ts[i]?=some t→I i e μ→∃e1 e2 μ2,b t e=some e1∧body e1 μ=.nx e2 μ2∧I (i+1) e2 μ2) {e:Slots}{μ:af} (h:I 0 e μ):∃e' μ',forL same b body ts e μ=.nx e' μ'∧I ts.length e' μ' :=
 iR (P:=λr=>∃e' μ',r=.nx e' μ'∧I ts.length e' μ') I hs (λi t e μ ht hI=>by
  obtain⟨e1,e2,μ2,h1,h2,h3⟩:=step i t e μ ht hI
  exact⟨e1,h1,by rw[h2];exact h3⟩) (λe μ hI=>⟨e,μ,rfl,hI⟩) h
theorem qq{same:af→Prop}{b:BD}{c d:D}{e:Slots}{μ:af}(p:T→Bool)(g:T→T)(hs:same μ):∀(ts:List T),
  (∀t∈ts,∃e1,b t e=some e1∧c e1 μ=.ok (.val (.bl (p t))) μ∧(p t=true→d e1 μ=.ok (.val (g t)) μ))→bM same b c d e ts μ=.ok ((ts.filter p).map g) μ
 | [],_=>by unfold bM;rw[if_pos hs];rfl
 | t::ts,h=>by
  obtain⟨e1,h1,h2,h3⟩:=h t List.mem_cons_self
  have ih:=qq p g hs ts λu hu=>h u (List.mem_cons_of_mem _ hu)
  unfold bM
  rw[if_pos hs]
  simp only[h1,h2,R.bE,R.aL,fM,R.aP]
  cases q:p t with
  | true=>rw[if_pos rfl,h3 q];simp[q,ih]
  | false=>rw[if_neg Bool.false_ne_true,ih];simp[q]
theorem d_{same:af→Prop}{b:BD}{c d:D}{e:Slots}{μ:af}(p:Int→Bool)(g:Int→T)(hs:same μ)(ns:List Int)
  (h:∀n∈ns,∃e1,b (.int n) e=some e1∧c e1 μ=.ok (.val (.bl (p n))) μ∧(p n=true→d e1 μ=.ok (.val (g n)) μ)):bM same b c d e (ns.map T.int) μ=.ok ((ns.filter p).map g) μ:=by
 induction ns with
 | nil=>unfold bM;rw[List.map_nil];simp only;rw[if_pos hs];rfl
 | cons n ns ih =>
  obtain⟨e1,h1,h2,h3⟩:=h n List.mem_cons_self
  have ih:=ih λu hu=>h u (List.mem_cons_of_mem _ hu)
  rw[List.map_cons]
  unfold bM
  rw[if_pos hs]
  simp only[h1,h2,R.bE,R.aL,fM,R.aP]
  cases q:p n with
  | true=>rw[if_pos rfl,h3 q];simp[q,ih]
  | false=>rw[if_neg Bool.false_ne_true,ih];simp[q]
theorem sE{same:af→Prop}{b:BD}{d:D}{e:Slots}{μ:af}(g:Int→T)(hs:same μ)(ns:List Int)
  (h:∀n∈ns,∃e1,b (.int n) e=some e1∧d e1 μ=.ok (.val (g n)) μ):bM same b (dC (.bl true)) d e (ns.map T.int) μ=.ok (ns.map g) μ:=by
 have:=d_ (same:=same) (b:=b) (c:=dC (.bl true)) (d:=d) (e:=e) (μ:=μ) (λ_=>true) g hs ns λn hn=>by
  obtain⟨e1,h1,h2⟩:=h n hn
  exact⟨e1,h1,rfl,λ_=>h2⟩
 rw[this]
 congr 2
 exact List.filter_eq_self.mpr λ_ _=>rfl
theorem eK{α:Type}{same:af→Prop}{b:BD}{c d:D}{e:Slots}{μ:af}(f:α→T)(p:α→Bool)(g:α→T)(hs:same μ)(as:List α)
  (h:∀a∈as,∃e1,b (f a) e=some e1∧c e1 μ=.ok (.val (.bl (p a))) μ∧(p a=true→d e1 μ=.ok (.val (g a)) μ)):bM same b c d e (as.map f) μ=.ok ((as.filter p).map g) μ:=by
 induction as with
 | nil=>unfold bM;rw[List.map_nil];simp only;rw[if_pos hs];rfl
 | cons n ns ih =>
  obtain⟨e1,h1,h2,h3⟩:=h n List.mem_cons_self
  have ih:=ih λu hu=>h u (List.mem_cons_of_mem _ hu)
  rw[List.map_cons]
  unfold bM
  rw[if_pos hs]
  simp only[h1,h2,R.bE,R.aL,fM,R.aP]
  cases q:p n with
  | true=>rw[if_pos rfl,h3 q];simp[q,ih]
  | false=>rw[if_neg Bool.false_ne_true,ih];simp[q]
theorem b4{α:Type}{same:af→Prop}{b:BD}{d:D}{e:Slots}{μ:af}(f:α→T)(g:α→T)(hs:same μ)(as:List α)
  (h:∀a∈as,∃e1,b (f a) e=some e1∧d e1 μ=.ok (.val (g a)) μ):bM same b (dC (.bl true)) d e (as.map f) μ=.ok (as.map g) μ:=by
 have:=eK (same:=same) (b:=b) (c:=dC (.bl true)) (d:=d) (e:=e) (μ:=μ) f (λ_=>true) g hs as λn hn=>by
  obtain⟨e1,h1,h2⟩:=h n hn
  exact⟨e1,h1,rfl,λ_=>h2⟩
 rw[this]
 congr 2
 exact List.filter_eq_self.mpr λ_ _=>rfl
theorem sF(xs ys:List Int):gP (xs.map T.int) (ys.map T.int)=(xs.zip ys).map λq=>.tup [.int q.1,.int q.2]:=by
 induction xs generalizing ys with
 | nil=>rfl
 | cons x xs ih =>
  cases ys with
  | nil=>rfl
  | cons y ys=>simp[gP,ih]
theorem v9(ts us:List T):(gP ts us).length=min ts.length us.length:=by
 induction ts generalizing us with
 | nil=>simp[gP]
 | cons t ts ih =>
  cases us with
  | nil=>simp[gP]
  | cons u us=>simp[gP,ih]
theorem gY{c:D}{body:DS}:∀(n m:Nat) (e:Slots) (μ:af),n≤m→cA c body n e μ≠.bad→cA c body m e μ=cA c body n e μ
 | 0,m,e,μ,_,h=>absurd rfl h
 | n+1,0,e,μ,h,_=>absurd h (by lia)
 | n+1,m+1,e,μ,hnm,h=>by
  unfold cA at h ⊢
  cases q:c e μ with
  | err x μ1=>simp only[R.toS_err]
  | bad=>rw[q] at h;exact absurd rfl h
  | ok x μ1 =>
   rw[q] at h
   simp only[R.toS_ok] at h ⊢
   cases q2:asB x with
   | none=>rw[q2] at h;exact absurd rfl h
   | some k =>
    rw[q2] at h
    simp only[R.aP,R.toS_ok] at h ⊢
    cases k with
    | false=>rfl
    | true =>
     rw[if_pos rfl] at h ⊢
     rw[if_pos rfl]
     cases q3:body e μ1 with
     | nx e2 μ2=>rw[q3] at h;simp only at h ⊢;exact gY n m e2 μ2 (by lia) h
     | ct e2 μ2=>rw[q3] at h;simp only at h ⊢;exact gY n m e2 μ2 (by lia) h
     | bk e2 μ2=>rfl
     | rt x μ2=>rfl
     | err x e2 μ2=>rfl
     | bad=>rfl
theorem BS{c:D}{body:DS}{n:Nat}{e:Slots}{μ:af}(h:cA c body n e μ≠.bad):ka c body e μ=cA c body n e μ:=by
 have hn:∃n,cA c body n e μ≠.bad:=⟨n,h⟩
 unfold ka
 rw[dif_pos hn]
 have h2:=hn.choose_spec
 rcases Nat.le_total n hn.choose with z|z
 ·exact gY _ _ _ _ z h
 ·exact(gY _ _ _ _ z h2).symm
theorem ya{c:D}{body:DS}(P:RS→Prop)(hP:¬ P .bad)(I:Nat→Slots→af→Prop)
  (step:∀m e μ,I m e μ→∃k μ1,c e μ=.ok (.val (.bl k)) μ1∧if k=true then (body e μ1).x_ (λe2 μ2=>∃m',m'<m∧I m' e2 μ2) P else P (.nx e μ1)) :
  ∀(m:Nat) (e:Slots) (μ:af),I m e μ→P (ka c body e μ):=by
 have key:∀(m:Nat) (e:Slots) (μ:af),I m e μ→∃n,P (cA c body n e μ):=by
  intro m
  induction m using Nat.strongRecOn with
  | ind m ih =>
   intro e μ hI
   obtain⟨k,μ1,h1,h2⟩:=step m e μ hI
   cases k with
   | false =>
    refine⟨1,?_⟩
    unfold cA
    simp only[h1,R.toS_ok,fM,R.aP,Bool.false_eq_true,if_false]
    exact h2
   | true =>
    rw[if_pos rfl] at h2
    cases q:body e μ1 with
    | nx e2 μ2 =>
     rw[q] at h2
     obtain⟨m',hm,hI'⟩:=h2
     obtain⟨n,hn⟩:=ih m' hm e2 μ2 hI'
     refine⟨n+1,?_⟩
     unfold cA
     simp only[h1,R.toS_ok,fM,R.aP,if_true,q]
     exact hn
    | ct e2 μ2 =>
     rw[q] at h2
     obtain⟨m',hm,hI'⟩:=h2
     obtain⟨n,hn⟩:=ih m' hm e2 μ2 hI'
     refine⟨n+1,?_⟩
     unfold cA
     simp only[h1,R.toS_ok,fM,R.aP,if_true,q]
     exact hn
    | bk e2 μ2 =>
     rw[q] at h2
     refine⟨1,?_⟩
     unfold cA
     simp only[h1,R.toS_ok,fM,R.aP,if_true,q]
     exact h2
    | rt x μ2 =>
     rw[q] at h2
     refine⟨1,?_⟩
     unfold cA
     simp only[h1,R.toS_ok,fM,R.aP,if_true,q]
     exact h2
    | err x e2 μ2 =>
     rw[q] at h2
     refine⟨1,?_⟩
     unfold cA
     simp only[h1,R.toS_ok,fM,R.aP,if_true,q]
     exact h2
    | bad=>rw[q] at h2;exact absurd h2 hP
 intro m e μ hI
 obtain⟨n,hn⟩:=key m e μ hI
 rw[BS (n:=n) (λz=>hP (z ▸ hn))]
 exact hn
def HE:T→T→Option T
 | .int i,.int j=>some (.int (if j<i then j else i))
 | _,_=>none
def Lh:T→T→Option T
 | .int i,.int j=>some (.int (if j > i then j else i))
 | _,_=>none
@[simp] theorem Ed(i j:Int):HE (.int i) (.int j)=some (.int (if j<i then j else i)):=(rfl)
@[simp] theorem Ee(i j:Int):Lh (.int i) (.int j)=some (.int (if j > i then j else i)):=(rfl)
def sG:T→Option Key
 | .int i=>some (.inl i)
 | .str x=>some (.inr x)
 | _=>none
@[simp] theorem BU(i:Int):sG (.int i)=some (.inl i):=(rfl)
def oW(kts:List (Key×T))(k:Key):Option T:=(kts.find? λkv=>decide (kv.1=k)).map (·.2)
def ur(kts:List (Key×T))(k:Key)(t:T):List (Key×T) :=
 if (kts.any λkv=>decide (kv.1=k))=true then kts.map (λkv=>if kv.1=k then (kv.1,t) else kv) else kts++[(k,t)]
def oF:T→T→Option T
 | .dct kts,u=>(sG u).bind λk=>oW kts k
 | _,_=>none
@[simp] theorem BV(kts:List (Key×T))(i:Int):oF (.dct kts) (.int i)=oW kts (.inl i):=(rfl)
def lY(x:SV)(k:T)(t:T)(μ:af):Option af:=match x with
 | .cel c=>match μ[c]? with
  | some (true,.dct kts)=>(sG k).bind λkk=>if kts.length<szL then some (μ.set c (true,.dct (ur kts kk t))) else none
  | _=>none
 | _=>none
def lu(i:Nat)(dk dv:D):DS:=λe μ=>(dv e μ).toS e λy μ1=>(R.lift (slot e i) μ1).toS e λx μ1=>(dk e μ1).toS e λz μ2=>(R.lift (rd μ2 z) μ2).toS e λk μ2 =>
 (frz y μ2).toS e λt μ3=>(R.lift (lY x k t μ3) μ3).toS e λμ4 _=>.nx e μ4
@[simp] theorem qr(i:Nat)(dk dv:D)(e:Slots)(μ:af):lu i dk dv e μ=(dv e μ).toS e λy μ1=>(R.lift (slot e i) μ1).toS e λx μ1=>(dk e μ1).toS e λz μ2=>(R.lift (rd μ2 z) μ2).toS e λk μ2 =>
 (frz y μ2).toS e λt μ3=>(R.lift (lY x k t μ3) μ3).toS e λμ4 _=>.nx e μ4:=(rfl)
theorem sH{μ:af}{c:Nat}{kts:List (Key×T)}{i:Int}{t:T}(h:μ[c]?=some (true,.dct kts))(hl:kts.length<szL):lY (.cel c) (.int i) t μ=some (μ.set c (true,.dct (ur kts (.inl i) t))):=by
 unfold lY
 simp only[h,BU,Option.bind_some,hl,if_true]
def ed(kts:List (Key×T)):List T:=kts.map λp=>.tup [vN p.1,p.2]
def asD:T→Option (List (Key×T))
 | .dct kts=>some kts
 | _=>none
@[simp] theorem Ad(kts:List (Key×T)):asD (.dct kts)=some kts:=(rfl)
def jk(d:D):DI:=λe μ=>(d e μ).bind λx μ1=>(R.lift ((rd μ1 x).bind asD) μ1).bind λkts μ1=>.ok ⟨ed kts,λμ'=>rd μ' x=rd μ1 x⟩ μ1
@[simp] theorem nE(d:D)(e:Slots)(μ:af):jk d e μ=(d e μ).bind λx μ1=>(R.lift ((rd μ1 x).bind asD) μ1).bind λkts μ1=>.ok ⟨ed kts,λμ'=>rd μ' x=rd μ1 x⟩ μ1:=(rfl)
def dJ(i:Int):List T→List T
 | []=>[]
 | t::ts=>.tup [.int i,t]::dJ (i+1) ts
theorem nF:∀(i:Int) (ts:List T),(dJ i ts).length=ts.length
 | i,[]=>rfl
 | i,t::ts=>by simp[dJ,nF (i+1) ts]
theorem nG:∀{i:Int}{ts:List T}{j:Nat}{t:T},(dJ i ts)[j]?=some t→∃a,ts[j]?=some a∧t=.tup [.int (i+j),a]
 | i,[],j,t,h=>by simp[dJ] at h
 | i,a::ts,0,t,h=>by simp[dJ] at h;exact⟨a,rfl,by simp[← h]⟩
 | i,a::ts,j+1,t,h=>by
  obtain⟨b,h1,h2⟩:=nG (i:=i+1) (ts:=ts) (j:=j) (t:=t) (by simpa [dJ] using h)
  refine⟨b,by simpa using h1,?_⟩
  rw[h2,show i+1+(j:Int)=i+((j+1:Nat):Int) by lia]
theorem v_(i:Int)(ts:List T)(j:Nat):(dJ i ts)[j]?=(ts[j]?).map λt=>.tup [.int (i+j),t]:=by
 induction ts generalizing i j with
 | nil=>simp[dJ]
 | cons a ts ih =>
  cases j with
  | zero=>simp[dJ]
  | succ j=>simp only[dJ,List.getElem?_cons_succ,ih];congr 1;funext t;rw[show i+1+(j:Int)=i+((j+1:Nat):Int) by lia]
def qt(d:D):DI:=λe μ=>(d e μ).bind λx μ1=>(R.lift ((rd μ1 x).bind bu) μ1).bind λts μ1=>.ok ⟨dJ 0 ts,λμ'=>rd μ' x=rd μ1 x⟩ μ1
@[simp] theorem Ef(d:D)(e:Slots)(μ:af):qt d e μ=(d e μ).bind λx μ1=>(R.lift ((rd μ1 x).bind bu) μ1).bind λts μ1=>.ok ⟨dJ 0 ts,λμ'=>rd μ' x=rd μ1 x⟩ μ1:=(rfl)
def fB:T→Bool
 | .non=>true
 | .bl _=>true
 | .int _=>true
 | .str _=>true
 | _=>false
def inT(t:T)(us:List T):Bool:=us.any λy=>eqT y t
def fIn(t u:T):Option T:=match bu u with
 | some us=>if (fB t && us.all fB)=true then some (.bl (inT t us)) else none
 | none=>none
def nH(t u:T):Option T:=match bu u with
 | some us=>if (fB t && us.all fB)=true then some (.bl (!inT t us)) else none
 | none=>none
@[simp] theorem ff(ns:List Int):(ns.map T.int).all fB=true:=by simp[fB]
theorem ke(i:Int)(ns:List Int):inT (.int i) (ns.map T.int)=decide (i∈ns):=by
 unfold inT
 rw[Bool.eq_iff_iff,decide_eq_true_iff,List.any_eq_true]
 constructor
 ·rintro⟨t,ht,he⟩
  obtain⟨j,hj,rfl⟩:=List.mem_map.mp ht
  rw[zT,beq_iff_eq] at he
  exact he ▸ hj
 ·intro h
  exact⟨_,List.mem_map.mpr ⟨i,h,rfl⟩,by rw[zT,beq_iff_eq]⟩
@[simp] theorem iS(i:Int)(ns:List Int):fIn (.int i) (.lst (ns.map T.int))=some (.bl (decide (i∈ns))):=by
 unfold fIn
 simp only[eE,ff,Bool.and_true,ke]
 rfl
def NI:T→T→Option T
 | .int i,.int j=>if 0≤i∧j=1 then some (.int (i%2)) else none
 | _,_=>none
@[simp] theorem BW(i:Int)(h:0≤i):NI (.int i) (.int 1)=some (.int (i%2)):=if_pos ⟨h,rfl⟩
def nJ:T→Option T
 | .int i=>some (.int i)
 | .bl b=>some (.int (if b then 1 else 0))
 | _=>none
@[simp] theorem Eg(i:Int):nJ (.int i)=some (.int i):=(rfl)
@[simp] theorem HF(b:Bool):nJ (.bl b)=some (.int (if b then 1 else 0)):=(rfl)
def asV:SV→Option T
 | .val t=>some t
 | _=>none
@[simp] theorem HG(t:T):asV (.val t)=some t:=(rfl)
def Po(is:List Nat)(d:D):DS:=λe μ=>(d e μ).toS e λx μ1=>(R.lift ((asV x).bind λt=>dg is t e) μ1).toS e λe' μ1=>.nx e' μ1
@[simp] theorem HH(is:List Nat)(d:D)(e:Slots)(μ:af):Po is d e μ=(d e μ).toS e λx μ1=>(R.lift ((asV x).bind λt=>dg is t e) μ1).toS e λe' μ1=>.nx e' μ1:=(rfl)
@[simp] theorem Eh(i j k:Nat)(t u v:T)(e:Slots):dg [i,j,k] (.tup [t,u,v]) e=some (((e.set i (some (.val t))).set j (some (.val u))).set k (some (.val v))):=(rfl)
def Ae(x:SV)(μ:af):Option af:=match x with
 | .cel k=>match μ[k]? with
  | some (true,.lst _)=>some (μ.set k (true,.lst []))
  | _=>none
 | _=>none
def Li(o:D):DS:=λe μ=>(o e μ).toS e λx μ0=>(R.lift (Ae x μ0) μ0).toS e λμ1 _=>.nx e μ1
@[simp] theorem BX(o:D)(e:Slots)(μ:af):Li o e μ=(o e μ).toS e λx μ0=>(R.lift (Ae x μ0) μ0).toS e λμ1 _=>.nx e μ1:=(rfl)
def gI(x:SV)(t:T)(μ:af):Option af:=match x,t with
 | .cel k,.lst us=>match μ[k]? with
  | some (true,.lst ts)=>if ts.length+us.length≤szL then some (μ.set k (true,.lst (ts++us))) else none
  | _=>none
 | _,_=>none
def Pp:T→Option T
 | .lst ts=>some (.lst ts.reverse)
 | _=>none
@[simp] theorem Ei(ts:List T):Pp (.lst ts)=some (.lst ts.reverse):=(rfl)
def pE(o d:D):DS:=λe μ=>(o e μ).toS e λx μ0=>(R.lift (nA x μ0) μ0).toS e λ_ μ0=>(d e μ0).toS e λy μ1=>(R.lift ((asV y).bind λt=>gI x t μ1) μ1).toS e λμ2 _=>.nx e μ2
@[simp] theorem yb(o d:D)(e:Slots)(μ:af):pE o d e μ=(o e μ).toS e λx μ0=>(R.lift (nA x μ0) μ0).toS e λ_ μ0=>(d e μ0).toS e λy μ1=>(R.lift ((asV y).bind λt=>gI x t μ1) μ1).toS e λμ2 _=>.nx e μ2:=(rfl)
def plain:List (Sum T Nat)→Option (List T)
 | []=>some []
 | .inl t::xs=>(plain xs).map λts=>t::ts
 | .inr _::_=>none
def uu(n:Str):DS:=λe μ=>.err (.exc n none) e μ
def uv(b:DS)(h:Str→DS):DS:=λe μ=>match b e μ with
 | .err (.exc n none) e' μ'=>h n e' μ'
 | .err _ _ _=>.bad
 | r=>r
def fC(d:DS):DS:=λe μ=>match d e μ with
 | .err _ _ _=>.bad
 | r=>r
def PK:T→Option (List T)
 | .lst ts=>some ts
 | _=>none
def yc(x:Int):List Int→List Int
 | []=>[x]
 | y::r=>if y<x then y::yc x r else x::y::r
def jS(ns:List Int):List Int:=ns.foldr yc []
theorem nK(x:Int):∀l,(yc x l).Perm (x::l)
 | []=>.refl _
 | y::r=>by
  unfold yc;split
  ·exact((nK x r).cons y).trans (.swap _ _ _)
  ·exact .refl _
theorem iT:∀ns,(jS ns).Perm ns
 | []=>.refl _
 | x::r=>(nK x _).trans ((iT r).cons x)
theorem qu(x:Int):∀l:List Int,l.Pairwise (·≤·)→(yc x l).Pairwise (·≤·)
 | [],_=>by simp[yc]
 | y::r,h=>by
  obtain⟨h1,h2⟩:=List.pairwise_cons.mp h
  unfold yc;split
  ·refine List.pairwise_cons.mpr ⟨λz hz=>?_,qu x r h2⟩
   rcases List.mem_cons.mp ((nK x r).mem_iff.mp hz) with rfl|hz
   ·omega
   ·exact h1 z hz
  ·refine List.pairwise_cons.mpr ⟨λz hz=>?_,h⟩
   rcases List.mem_cons.mp hz with rfl|hz
   ·omega
   ·have:=h1 z hz;omega
theorem lZ:∀ns,(jS ns).Pairwise (·≤·)
 | []=>.nil
 | x::r=>qu x _ (lZ r)
theorem Af{ns ns':List Int}(hp:ns'.Perm ns)(hs:ns'.Pairwise (·≤·)):ns'=jS ns :=
 List.Perm.eq_of_pairwise (λ_ _ _ _ a b=>Int.le_antisymm a b) hs (lZ ns) (hp.trans (iT ns).symm)
def kS:T→Option T
 | .lst ts=>(cM ts).bind λns=>if ns.length<64 then some (.lst ((jS ns).map T.int)) else none
 | _=>none
def wa(t u:T):Option T:=match u with
 | .lst us=>if okT 100 t=true∧okT 100 (.lst us)=true then some (.bl (inT t us)) else none
 | _=>none
def f_(t u:T):Option T:=match u with
 | .lst us=>if okT 100 t=true∧okT 100 (.lst us)=true then some (.bl (!inT t us)) else none
 | _=>none
theorem HI{t:T}{us:List T}(h1:okT 100 t=true)(h2:okT 100 (.lst us)=true):wa t (.lst us)=some (.bl (inT t us)):=if_pos ⟨h1,h2⟩
theorem wb{t:T}{us:List T}(h1:okT 100 t=true)(h2:okT 100 (.lst us)=true):f_ t (.lst us)=some (.bl (!inT t us)):=if_pos ⟨h1,h2⟩
end Fw
namespace Fw
open PySem L2 PyProof.Rows
theorem wc{X:Cx}{x:Str}{C:Addr}{bmB:List Value}{B newId xN:String}{np cL pos p2:Pos}{m:Str}{j:Nat}(F:ExcBaseFacts B newId xN bmB)(hc:X.calm=true)(hm:X.mg x=some (.ref C))(q:PySem.W.excIn X.K C bmB newId=true)(hg:Gl X x:=by rfl)
  (hpl:(backTo cL (starEach [.Constant (.str m) j p2] X.env)).any (·.1)=false:=by rfl) (hs:starEach [.Constant (.str m) j p2] X.env=(false,eval (.Constant (.str m) j p2) X.env)::starEach [] X.env:=by rfl) (hd:(x==("__debug__":Str))=false:=by decide) :
  CS X (.Raise (some (.Call (.Name x np) [.Constant (.str m) j p2] [] cL)) none pos) (uu x) :=
 PS.imp (DC F hc hg hm q hpl hs hd) λD σ H ⟨F,α,e,μ,S,h⟩=>λpins s h' e' vs I hx =>
  h _ _ ⟨pins,σ,H,F,α,Ex.refl,S,x,C,rfl,hm,.inl ⟨hc,s,h',e',vs,I,hx,rfl,rfl⟩⟩
def spX(K:PySem.W.Frag)(mg:Str→Option Value)(fn:FN)(n:Nat):Sp:=λvs H Q E=>vs.length=n∧∃F α μ xs,cx K F α μ H∧Paired (λv x=>dY K F α v x) vs xs ∧
 (fn xs μ).wp (λr μ'=>∀v H' F' α',Ex F α H F' α' H'→cx K F' α' μ' H'→dY K F' α' v r→Q v H')
  (λc μ'=>∀n C,c=.exc n none→mg n=some (.ref C)→∀H' F' α',Ex F α H F' α' H'→cx K F' α' μ' H'→E (.ref C) none H')
section
variable{P:Program}{w:World}{K:PySem.W.Frag}{mg:Str→Option Value}{base:Heap}
theorem Lj{x qual:Str}{st:Stmt}{f:Addr}{fd:FuncData}{N ps:List Str}{k:Nat}{d:DS}(F:Fun K x qual st f fd)(S:aH N ps (ao st))
  (hb:∀(cdv:Value) (A:Around) (outer:List Env) (s:Shared) (H:Hp) (E:XK),b_ k (A.deeper (envOfC qual (ao st) s.heap.objs.size f cdv))→CSs (mw (CX1 P w) P w K mg base N qual (ao st) f cdv A outer s H E) (e_ st) d) :
  i9 P w K mg base (CX1 P w) (k+1) f fd ps (spX K mg (fnV N.length d) ps.length):=by
 obtain⟨oc,od,kV,doc,pm,an,cdv,ct,osl,rfl,lk,hcd⟩:=F.ex
 refine Jq lk hcd S (λvs H Q E h=>h.1) λA outer s H vs Q E hr h=>⟨_,hb cdv A outer s H E hr,?_⟩
 obtain⟨hl,F0,α,μ,xs,S0,o,h⟩:=h
 refine⟨F0,α,_,μ,sC S0 o,?_⟩
 rw[eF] at h
 have fin:∀{y r:SV}{μ1 μ':af}{v:V}{H1 F1:Hp}{α1:List Addr},ice μ.length y μ1=.ok r μ'→Ex F0 α H F1 α1 H1→cx K F1 α1 μ1 H1→dY K F1 α1 v y→∃F2,Ex F0 α H F2 α H1∧cx K F2 α μ' H1∧dY K F2 α v r:=λ{y r μ1 μ' v H1 F1 α1} hg x1 S1 o1=>by
  obtain⟨F2,g1,g2,g3,g4⟩:=DW S0.len x1.pre S1 o1 hg
  exact⟨F2,⟨x1.same.trans g1,List.prefix_refl _,λb z h1 h2 h3=>let ⟨a1,a2,a3⟩:=x1.fr b z h1 h2 h3;⟨a1,by rw[g2 b a3];exact a2,h3⟩⟩,g3,g4⟩
 cases q:d (starts N.length xs) μ with
 | rt y μ1 =>
  intro v H1 F1 α1 x1 S1 o1
  rw[q,pB] at h
  cases hi:ice μ.length y μ1 with
  | ok r μ' =>
   rw[hi] at h
   obtain⟨F2,a1,a2,a3⟩:=fin hi x1 S1 o1
   exact h v H1 F2 α a1 a2 a3
  | err c μ' =>
   unfold ice at hi
   cases hz:frz y μ1 with
   | ok t μ2=>rw[hz] at hi;cases hi
   | err c2 μ2=>exact absurd hz (nj y μ1 c2 μ2)
   | bad=>rw[hz] at hi;cases hi
  | bad=>rw[hi] at h;exact h.elim
 | nx e1 μ1 =>
  intro σ1 H1 F1 α1 x1 S1
  rw[q] at h
  obtain⟨F2,a1,a2,a3⟩:=fin (y:=.val .non) (r:=.val .non) (μ':=μ1.take μ.length) rfl x1 S1.st (Rep.Hq (K:=K) (F:=F1))
  exact h .non H1 F2 α a1 a2 a3
 | bk e1 μ1=>rw[q] at h;exact h.elim
 | ct e1 μ1=>rw[q] at h;exact h.elim
 | bad=>rw[q] at h;exact h.elim
 | err c e1 μ1 =>
  rw[q] at h
  rintro ev s' ⟨pins,σ',H',F',α',x1,S1,n,C,rfl,hm,Lk⟩
  obtain⟨F2,a1,a2,a3⟩:=fin (y:=.val .non) (r:=.val .non) (μ':=μ1.take μ.length) rfl x1 S1.st (Rep.Hq (K:=K) (F:=F'))
  have hE:E (.ref C) none H':=h n C rfl hm H' F2 α a1 a2
  rcases Lk with ⟨_,s2,h',e,vs',I,hx,rfl,rfl⟩|⟨H0,s2,I,hx⟩|⟨_,e2,t2,B2,rfl,c2⟩
  ·exact DA I hx hE
  ·exact G3 I hx λcv H'' au=>by obtain⟨z1,z2⟩:=au;subst z1 z2;exact hE
  ·exact KZ c2 hE
end
section
variable{X:Cx}{f:Addr}{fd:FuncData}{ps:List Str}{x:Str}{p pos:Pos}{e:Expr}{es:List Expr}{ds:List D}{fn:FN}{k:Nat}
theorem Ej(G:i9 X.prog X.w X.K X.mg X.base (CX1 X.prog X.w) k f fd ps (spX X.K X.mg fn ps.length))(hr:b_ k X.A)(hm:X.mg x=some (.ref f))(hk:PySem.W.keepIn X.K (.ref f)=true)(hb:Binds X.K fd ps [])(ha:CA X (e::es) ds)
  (hl:ds.length=ps.length:=by rfl) (hg:Gl X x:=by rfl) (hdb:(x==("__debug__":Str))=false:=by decide) (he:starEach (e::es) X.env=(false,eval e X.env)::starEach es X.env:=by rfl) (hpl:(backTo pos (starEach es X.env)).any (·.1)=false:=by rfl) :
  CE X (.Call (.Name x p) (e::es) [] pos) (ak fn ds):=by
 intro pins s σ H Q I ⟨F,α,e0,μ,S,h⟩
 refine wpAny_Call_Name_kw (mr I hg hm ?_ hdb)
 have hA:tDA X ds σ H (λvs H1=>∃F1 α1 μ1 xs,Ex F α H F1 α1 H1∧Sim X.K F1 α1 e0 μ1 σ H1∧Paired (λv x=>dY X.K F1 α1 v x) vs xs∧xs.length=ds.length∧(fn xs μ1).wp (Hs X.K F α H e0 σ Q) (eG X F α H e0)) :=
  ⟨F,α,e0,μ,S,(dA (R.wp_bind h)).mono (λxs μ1 ⟨hn,h⟩ vs H1 F1 α1 x1 S1 o1=>⟨F1,α1,μ1,xs,x1,S1,o1,hn,h⟩) λ_ _ h=>h⟩
 refine PySem.W.callWith_K (h₀:=X.base) I.ok.mod.kin hk (thn (ha pos pins s σ H _ I hA) λus s1 ⟨vs,H1,I1,r,F1,α1,μ1,xs,x1,S1,o1,hn,hw⟩=>⟨I1.kIn,?_⟩) he hpl
 have hlen:us.length=ps.length:=by rw[← r.length,o1.length,hn,hl]
 let E:XK:=λcv _ H'=>∃n C F' α' μ2,cv=.ref C∧X.mg n=some (.ref C)∧fn xs μ1=.err (.exc n none) μ2∧Ex F1 α1 H1 F' α' H'∧cx X.K F' α' μ2 H'
 have hsp:spX X.K X.mg fn ps.length vs H1 Q E:=by
  refine⟨by rw[r.length,hlen],F1,α1,μ1,xs,S1.st,o1,?_⟩
  cases q:fn xs μ1 with
  | ok rr μ2=>rw[q] at hw;exact λv H2 F2 α2 x2 S2 o2=>hw v H2 F2 α2 (x1.trans x2) (S1.of x2.same x2.pre S2) o2
  | err c μ2=>exact λn C hc hmn H2 F2 α2 x2 S2=>⟨n,C,F2,α2,μ2,rfl,hmn,by rw[q,hc],x2,S2⟩
  | bad=>rw[q] at hw;exact hw.elim
 have hbn:=hb s1 us I1.kIn (by rw[List.append_nil];exact hlen)
 rw[List.append_nil] at hbn
 refine wpAny_call (codeAny_mono (G.run X.A X.stack s1 H1 ⟨us,[]⟩ us vs Q E hr I1.GN hbn r hsp) λrr s' hq=>?_)
 cases rr with
 | error ev =>
  obtain⟨e',t,C,H',B,hev,hos,vI,U,hok,⟨n,C',F2,α2,μ2,hc,hmn,hfn,x2,S2⟩,fl,cov,oT⟩:=(show CX1 X.prog X.w X.stack H1 s1 E ev s' from hq)
  cases hc
  rw[hfn] at hw
  exact hw ev s' ⟨pins,σ,H',F2,α2,x1.trans x2,S1.of x2.same x2.pre S2,n,C,rfl,hmn,.inr (.inl ⟨H1,s1,I1,e',t,C,H',B,hev,hos,vI,U,hok,⟨rfl,rfl⟩,fl,cov,oT⟩)⟩
 | ok fl =>
  cases fl with
  | ret u=>exact I1.after hq
  | next=>exact False.elim hq
  | brk=>exact False.elim hq
  | cont=>exact False.elim hq
end
abbrev Ag(X:Cx)(E:Value→Shared→Prop)(pn:List (Addr×Obj)):Cx:={ X with xe:=E,pn:=pn,calm:=false }
section
variable{X:Cx}{pins:List (Addr×Obj)}{σ:L2.St}{H:Hp}{s:Shared}
theorem BY(I:Inv X pins σ H s)(E:Value→Shared→Prop):Inv (Ag X E (X.pn++pins)) [] σ H s :=
 ⟨⟨I.ok.mod,I.ok.kind,I.ok.glob,I.ok.blt,I.ok.above,I.ok.inj,I.ok.has,I.ok.cab,(λh=>by cases h),I.ok.frames,I.ok.stk,I.ok.exf,I.ok.bs,I.ok.bsz,I.ok.tT,I.ok.xw,I.ok.lM,I.ok.frf⟩,I.os,I.bare,I.base,I.loc,I.cell,I.free,I.fZ,
  λp hp=>I.pin p (by simpa using hp),I.hok,I.len⟩
theorem fD{E:Value→Shared→Prop}{vp:List (Addr×Obj)}(ok:X.Ok)(I:Inv (Ag X E (X.pn++pins)) vp σ H s):Inv X pins σ H s :=
 ⟨ok,I.os,I.bare,I.base,I.loc,I.cell,I.free,I.fZ,λp hp=>I.pin p (List.mem_append_left _ hp),I.hok,I.len⟩
theorem yd{E:Value→Shared→Prop}{D:Ends}{f:Flow}(ok:X.Ok)(h:SP (Ag X E (X.pn++pins)) [] D f s):SP X pins D f s:=by
 cases f with
 | next=>obtain⟨σ',H',I,q⟩:=h;exact⟨σ',H',fD ok I,q⟩
 | brk=>obtain⟨σ',H',I,q⟩:=h;exact⟨σ',H',fD ok I,q⟩
 | cont=>obtain⟨σ',H',I,q⟩:=h;exact⟨σ',H',fD ok I,q⟩
 | ret u=>obtain⟨v,σ',H',I,r,q⟩:=h;exact⟨v,σ',H',fD ok I,r,q⟩
end
def CH(X:Cx)(hs:List ExceptHandler)(d:Str→DS):Prop:=∀(pins:List (Addr×Obj)) (σ:L2.St) (H:Hp) (e t C:Addr) (B:Heap) (s:Shared) (n:Str) (D:Ends) (F:Hp) (α:List Addr) (e':Slots) (μ':af),
 Cau X pins σ H e t C B s→X.mg n=some (.ref C)→Sim X.K F α e' μ' σ H→aR X F α H D (d n e' μ')→wpAny (model X.prog X.w) X.A (handleBy (.ref e) X.env hs) (SP X pins D) X.xe s
theorem Ll{X:Cx}{body:List Stmt}{h₀:ExceptHandler}{hs:List ExceptHandler}{pos:Pos}{db:DS}{dh:Str→DS}(hst:X.stack=X.env::X.outer)(hf:X.env.frame=some X.env.locals)(hb:∀E pn,CSs (Ag X E pn) body db)(hh:CH X (h₀::hs) dh) :
  CS X (.Try body (h₀::hs) [] [] pos) (uv db dh):=by
 intro pins s σ H D I ⟨F,α,e,μ,S,h⟩
 have ok:=I.ok
 refine wpAny_Try_except ?_
 refine wpAny_mono (hb _ (X.pn++pins) [] s σ H D (BY I _) ⟨F,α,e,μ,S,?_⟩) (λf s₁ q=>?_) (λ_ _ z=>z)
 ·unfold uv at h
  cases q:db e μ with
  | nx e1 μ1=>rw[q] at h;exact h
  | rt y μ1=>rw[q] at h;exact h
  | bk e1 μ1=>rw[q] at h;exact h
  | ct e1 μ1=>rw[q] at h;exact h
  | bad=>rw[q] at h;exact h
  | err c e1 μ1 =>
   rw[q] at h
   rintro ev s' ⟨vp,σ',H',F',α',x1,S1,n,C,rfl,hm,Lk⟩
   rcases Lk with ⟨iQ,_⟩|⟨H0,s2,I2,hx⟩|⟨iQ,_⟩
   ·cases iQ
   ·have I3:Inv X pins σ' H0 s2:=fD ok I2
    refine cau hst hf I3 hx λe2 t2 C2 H2 B h5 hev hE2 cc=>?_
    subst hev
    obtain⟨hc1,hc2⟩:=hE2
    cases hc1
    subst hc2
    exact hh pins σ' _ e2 t2 C B _ n D F' α' e1 μ1 cc hm S1 (aR.mono x1 h)
   ·cases iQ
 ·have q:=yd ok q
  cases f with
  | next=>exact wpAny_execs_nil q
  | brk=>exact q
  | cont=>exact q
  | ret u=>exact q
end Fw
namespace L2
open PySem PySem.Spec PyProof.Rows
section
variable{prog:Program}{w:World}{A:Around}{E:Value→Shared→Prop}{s:Shared}{e C:Addr}{bm:List Value}{Q:Value→Shared→Prop}{c:Value}
end
end L2
namespace Fw
open PySem L2 PyProof.Rows
def BZ(K:PySem.W.Frag)(C:Addr):List Value:=match K.lookup C with
 | some ⟨_,_,.cls cd,_⟩=>cd.mro
 | _=>[]
structure Ek(K:PySem.W.Frag)(C:Addr):Prop where
 ex:∃bmB newId,PySem.W.excIn K C bmB newId=true∧bmB.contains (.type "BaseException")=true
theorem Ek.own{K:PySem.W.Frag}{C:Addr}{h:Heap}(o:Ek K C)(X:K.In h):∃bm,DE h C bm∧BZ K C=.ref C::bm:=by
 obtain⟨bmB,newId,q,hb⟩:=o.ex
 obtain⟨bm,N,nm,qn,bs,hdct,sn,sub,ab,col,dd,k0,k1,k2,k3,k5,mN,hC,hN,hni,T⟩:=(DB (mg:=λ_=>some (.ref C)) (x:="") X rfl q).obj
 refine⟨bm,⟨nm,qn,N,bs,hdct,sn,sub,ab,col,dd,k0,k1,k2,k3,k5,newId,hC,T.hasType hb⟩,?_⟩
 unfold BZ
 unfold PySem.W.excIn at q
 cases hl:K.lookup C with
 | none=>rw[hl] at q;cases q
 | some o =>
  have:=X _ _ hl
  rw[hC] at this
  cases this
  rfl
def CH1(X:Cx)(hs:List ExceptHandler)(n:Str)(d:DS):Prop:=∀(pins:List (Addr×Obj)) (σ:L2.St) (H:Hp) (e t C:Addr) (B:Heap) (s:Shared) (D:Ends) (F:Hp) (α:List Addr) (e':Slots) (μ':af),
 Cau X pins σ H e t C B s→X.mg n=some (.ref C)→Sim X.K F α e' μ' σ H→aR X F α H D (d e' μ')→wpAny (model X.prog X.w) X.A (handleBy (.ref e) X.env hs) (SP X pins D) X.xe s
theorem CH.of{X:Cx}{hs:List ExceptHandler}{d:Str→DS}(h:∀n,CH1 X hs n (d n)):CH X hs d:=λpins σ H e t C B s n D F α e' μ' c hm S p=>h n pins σ H e t C B s D F α e' μ' c hm S p
theorem HJ{X:Cx}{hs:List ExceptHandler}{n:Str}:CH1 X hs n ug:=λpins σ H e t C B s D F α e' μ' c hm S p=>False.elim p
theorem B0{X:Cx}{ev:Value}{F H:Hp}{α:List Addr}{D:Ends}{d:DS}{e:Slots}{μ:af}(h:aR X F α H D (fC d e μ)):aR (X.mark ev) F α H D (d e μ):=by
 unfold fC at h
 cases q:d e μ with
 | err c e1 μ1=>rw[q] at h;exact False.elim h
 | nx e1 μ1=>rw[q] at h;exact h
 | rt y μ1=>rw[q] at h;exact h
 | bk e1 μ1=>rw[q] at h;exact h
 | ct e1 μ1=>rw[q] at h;exact h
 | bad=>rw[q] at h;exact h
section
variable{X:Cx}{n x:Str}{C D:Addr}{np pos tp:Pos}{name:Option Str}{body tl:List Stmt}{b₀:Stmt}{rest:List ExceptHandler}{d:DS}
theorem in_of{pins:List (Addr×Obj)}{σ:L2.St}{H:Hp}{s:Shared}(I:Inv X pins σ H s):X.K.In s.heap:=by
 have e0:=I.GN
 exact e0.mod.kin.keeps λb o e=>(e0.bs b o e).1
theorem HK(hn:X.mg n=some (.ref C))(hC:Ek X.K C)(hm:X.mg x=some (.ref D))(hD:Ek X.K D)(HL:(BZ X.K C).contains (.ref D)=true)(hp:∀ev,CSs (X.mark ev) (b₀::tl) d)(hg:Gl X x:=by rfl)(hd:(x==("__debug__":Str))=false:=by decide) :
  CH1 X (.ExceptHandler (some (.Name x np)) none (b₀::tl) pos::rest) n (fC d):=by
 intro pins σ H e t C' B s D' F α e' μ' c hm' S p
 rw[hn] at hm'
 cases hm'
 have KX:=in_of c.inv
 obtain⟨bm,oC,eC⟩:=hC.own KX
 obtain⟨bm',oD,_⟩:=hD.own KX
 refine BI c oC ⟨bm',oD⟩ hg hm ?_ hd
 rw[eC] at HL
 rw[if_pos HL]
 exact xO (ts:=tDS X (fC d)) c (λev=>PSs.imp (hp ev) λD σ H ⟨F,α,e,μ,S,p⟩=>⟨F,α,e,μ,S,B0 p⟩) ⟨F,α,e',μ',S,p⟩
end
section
variable{X:Cx}{D:Addr}{T:String}{x:Str}{p p2 pos:Pos}{a:Expr}{da:Fw.D}{ns:List Str}
end
end Fw
namespace L2
open PySem PySem.Spec PySem.Calls PySem.W PyProof.Rows Builtin Builtin.ObjectAttr Builtin.Getset_descriptor
section
variable{prog:Program}{w:World}{A:Around}{E:Value→Shared→Prop}{s:Shared}{K:Frag}{x C:Addr}
end
end L2
namespace Fw
open PySem L2 PyProof.Rows
section
variable{X:Cx}{D:Addr}{Tn:String}{x:Str}{p p2 pos:Pos}{a:Expr}{da:Fw.D}{f:Str→Option Bool}
end
end Fw
namespace Fw.H
open PySem Fw
def El:DS :=
 (ar (sIf (ah fLt (aa 1) (gz (aa 0))) (aA (ax (aa 0) (aa 1))) bA)
 (ar (ay 2 (ah aO (ah bJ (aa 1) (dC (.int 7919))) (dC (.int 11))))
 (ar (sIf (ah fGt (gz (aa 0)) (dC (.int 0))) (ay 2 (ah aO (aa 2) (ah bJ (ah a8 (ax (aa 0) (ah a8 (ah aO (ah bJ (dC (.int 5)) (aa 1)) (dC (.int 2))) (gz (aa 0)))) (dC (.int 2147483629))) (dC (.int 69621))))) bA)
 (ar (ay 2 (ah a8 (ah bJ (aa 2) (aa 2)) (dC (.int 2147483647))))
 (aA (ah a8 (ah bJ (aa 2) (aa 2)) (dC (.int 998244353))))))))
theorem kT(ns:List Int)(k:Int)(μ:af)(h0:0≤k)(h1:k≤1000):∃c,fnV 3 El [.val (.lst (ns.map T.int)),.val (.int k)] μ=.ok (.val (.int c)) μ:=by
 unfold El
 simp
 by_cases h:k<ns.length
 ·simp[h,ji h0 h]
 ·simp[h]
  by_cases h2:0<ns.length
  ·have p0:0≤(5*k+2)%(ns.length:Int):=Int.emod_nonneg _ (by lia)
   have p1:(5*k+2)%(ns.length:Int)<ns.length:=Int.emod_lt_of_pos _ (by lia)
   simp (disch:=lia) [h2,ji p0 p1]
  ·simp (disch:=lia) [h2]
def Em:DS :=
 (ar (ay 3 (br (bD [])))
 (ar (sIf (ah fEq (ah a8 (aa 0) (dC (.int 2))) (dC (.int 0))) (ar (ay 0 (ah gO (aa 0) (dC (.int 2))))
 (ar (bY (aQ (aa 2)) (aw 4) (ar (cf (aa 3) (ah a8 (aa 0) (aa 1)))
 (ay 0 (ah gO (aa 0) (aa 1)))))
 (aA (aa 3)))) bA)
 (ar (bY (aQ (aa 2)) (aw 4) (ar (ay 5 (ah a8 (ah aO (ah gO (aa 0) (dC (.int 2))) (ah bJ (aa 4) (dC (.int 40503)))) (dC (.int 2147483629))))
 (ar (ay 5 (ah a8 (ah aO (ah bJ (aa 5) (aa 5)) (aa 4)) (dC (.int 998244353))))
 (ar (ay 5 (ah a8 (ah bJ (aa 5) (aa 5)) (dC (.int 2147483587))))
 (cf (aa 3) (ah a8 (ah gO (aa 5) (dC (.int 11))) (aa 1)))))))
 (aA (aa 3)))))
structure Row(m:Int)(n:Int)(ns:List Int):Prop where
 len:(ns.length:Int)=n
 lo:∀x∈ns,0≤x
 hi:∀x∈ns,x<m
theorem Row.snoc{m:Int}{i:Nat}{ns:List Int}{x:Int}(h:Row m i ns)(h0:0≤x)(h1:x<m):Row m ((i+1:Nat):Int) (ns++[x]):=by
 refine⟨by have:=h.len;simp;lia,λy hy=>?_,λy hy=>?_⟩
 ·rcases List.mem_append.mp hy with z|z
  ·exact h.lo y z
  ·simp at z;lia
 ·rcases List.mem_append.mp hy with z|z
  ·exact h.hi y z
  ·simp at z;lia
theorem Row.nil(m:Int):Row m ((0:Nat):Int) []:=⟨rfl,by simp,by simp⟩
theorem ye(c m n:Int)(μ:af)(hm:0<m)(hm2:m<1000000)(hn:0≤n)(hn2:n≤1000):∃ns,fnV 6 Em [.val (.int c),.val (.int m),.val (.int n)] μ=.ok (.val (.lst (ns.map T.int))) μ∧Row m n ns:=by
 unfold Em
 have hr:(n.toNat:Int)=n:=by lia
 by_cases h:c%2=0
 ·simp (disch:=lia) [h]
  refine iR (P:=λr=>∃ns,RS.qf μ.length ((r.seq _).seq _)=R.ok (SV.val (T.lst (ns.map T.int))) μ∧Row m n ns)
   (λi e μ'=>∃c' x4 ns,e=[some (.val (.int c')),some (.val (.int m)),some (.val (.int n)),some (.cel μ.length),x4,none]∧μ'=μ++[(true,.lst (ns.map T.int))]∧Row m i ns) (λ_ _ _ _=>trivial) ?_ ?_ ⟨_,none,[],rfl,rfl,Row.nil m⟩
  ·rintro i t e μ' ht ⟨c',x4,ns,rfl,rfl,hR⟩
   obtain⟨hi,rfl⟩:=mO ht
   refine⟨_,rfl,?_⟩
   have hl:(ns.map T.int).length<szL:=by have:=hR.len;unfold szL;simp;lia
   have hm3:m<1073741824:=by lia
   simp[hm,hm3,gG _ _ _ _ hl]
   exact⟨ns++[c'%m],by simp,hR.snoc (Int.emod_nonneg _ (by lia)) (Int.emod_lt_of_pos _ hm)⟩
  ·rintro e μ' ⟨c',x4,ns,rfl,rfl,hR⟩
   rw[cD,hr] at hR
   exact⟨ns,by simp,hR⟩
 ·simp (disch:=lia) [h]
  refine iR (P:=λr=>∃ns,RS.qf μ.length (r.seq _)=R.ok (SV.val (T.lst (ns.map T.int))) μ∧Row m n ns)
   (λi e μ'=>∃x4 x5 ns,e=[some (.val (.int c)),some (.val (.int m)),some (.val (.int n)),some (.cel μ.length),x4,x5]∧μ'=μ++[(true,.lst (ns.map T.int))]∧Row m i ns) (λ_ _ _ _=>trivial) ?_ ?_ ⟨none,none,[],rfl,rfl,Row.nil m⟩
  ·rintro i t e μ' ht ⟨x4,x5,ns,rfl,rfl,hR⟩
   obtain⟨k,rfl,hi,hk⟩:=mP ht
   refine⟨_,rfl,?_⟩
   have hl:(ns.map T.int).length<szL:=by have:=hR.len;unfold szL;simp;lia
   simp
   have y0:0≤(c / 2+k*40503)%2147483629∧(c / 2+k*40503)%2147483629<2147483629:=by lia
   generalize (c / 2+k*40503)%2147483629=y at y0 ⊢
   rw[kO y y (by lia) (by lia)]
   simp
   have z0:0≤(y*y+k)%998244353∧(y*y+k)%998244353<998244353:=by lia
   generalize (y*y+k)%998244353=z at z0 ⊢
   rw[kO z z (by lia) (by lia)]
   simp[hm,gG _ _ _ _ hl]
   exact⟨ns++[z*z%2147483587 / 11%m],by simp,hR.snoc (Int.emod_nonneg _ (by lia)) (Int.emod_lt_of_pos _ hm)⟩
  ·rintro e μ' ⟨x4,x5,ns,rfl,rfl,hR⟩
   rw[cD,hr] at hR
   exact⟨ns,by simp,hR⟩
def gg(p:Int):Prop:=p∈([2,3,5,7,11,13,17,19,23,29,31,37,41,43,47,53,59,61,67,71,73,79,83,89,97]:List Int)
theorem gg.pos{p:Int}(h:gg p):2≤p∧p≤97:=by
 have key:∀p∈([2,3,5,7,11,13,17,19,23,29,31,37,41,43,47,53,59,61,67,71,73,79,83,89,97]:List Int),2≤p∧p≤97:=by decide +kernel
 exact key p h
end Fw.H
namespace Fw
open PySem PySem.Spec PyProof.Rows L2
structure Gf(K:PySem.W.Frag)(mg:Str→Option Value)(x:Str)(st:Stmt)(ps:List Str)(f:Addr)(fd:FuncData):Prop where
 F:Fun K x x st f fd
 b:Binds K fd ps []
 m:mg x=some (.ref f)
def dn(scope so:Scope):Scope:={ scope with names:=scope.names.map λ(n,k)=>if (k==.free && so.kind==.function && so.names.lookup n==some .cell) then (n,.cell) else (n,k) }
def qv(N N':List Str)(scope so:Scope)(mp:List (Option Nat)):Prop :=
 scope.kind=.function∧(scope.names.filter λy=>y.2==NameKind.cell).length≤1∧(scope.names.map (·.1)).Nodup∧(∀y∈scope.names,(y.2=.local→scope.names.lookup y.1=some .local)∧(y.2=.free→(so.names.lookup y.1=some .cell∨so.names.lookup y.1=some .free) ∧
  ((dn scope so).names.lookup y.1=some .cell∨(dn scope so).names.lookup y.1=some .free)))∧mp.length=N'.length ∧
 ∀q∈mp.zip N',match q.1 with
  | none=>True
  | some j=>N[j]?=some q.2∧(q.2,NameKind.free)∈scope.names∧(so.names.lookup q.2=some .cell∨so.names.lookup q.2=some .free)
instance (N N':List Str) (scope so:Scope) (mp:List (Option Nat)):Decidable (qv N N' scope so mp):=by
 unfold qv
 have:∀q:Option Nat×Str,Decidable (match q.1 with
  | none=>True
  | some j=>N[j]?=some q.2∧(q.2,NameKind.free)∈scope.names∧(so.names.lookup q.2=some .cell∨so.names.lookup q.2=some .free)):=λq=>by
  cases q.1<;>infer_instance
 infer_instance
theorem lx{α:Type}{x:Str}{k:α}:∀{l:List (Str×α)},(l.map (·.1)).Nodup→(x,k)∈l→l.lookup x=some k
 | [],_,h=>by cases h
 | (y,k')::l,nd,h=>by
  have nd':=List.nodup_cons.mp (by simpa using nd:(y::l.map (·.1)).Nodup)
  rw[List.lookup_cons]
  rcases List.mem_cons.mp h with e|h
  ·cases e;simp
  ·have:(x==y)=false:=by
    have:x≠y:=λq=>nd'.1 (List.mem_map.mpr ⟨_,h,q⟩)
    simpa using this
   rw[this]
   exact lx nd'.2 h
theorem az{X:Cx}{N':List Str}{scope:Scope}{mp:List (Option Nat)}(so:Scope)(hso:X.env.scope=so)(N:List Str)(hN:X.N=N)(h:qv N N' scope so mp):dB X N' scope mp:=by
 subst hso
 subst hN
 obtain⟨h1,hc1,hnd,h2,h3,h4⟩:=h
 have er:(relabel scope X.env).names=(dn scope X.env.scope).names:=rfl
 refine⟨h1,hc1,hnd,λy hy=>(h2 y hy).1,λy hy hf=>((h2 y hy).2 hf).1,h3,λi j hij=>?_,λx hx=>?_,λx hx=>?_⟩
 ·have hi:i<mp.length:=(List.getElem?_eq_some_iff.mp hij).1
  have hz:(mp.zip N')[i]?=some (some j,N'[i]'(by omega)):=by
   rw[List.getElem?_zip_eq_some]
   exact⟨hij,by simp⟩
  have:=h4 _ (List.mem_of_getElem? hz)
  exact⟨_,by simp,this⟩
 ·rw[er];exact((h2 _ hx).2 rfl).2
 ·rw[er] at hx
  have mem:∀k,(dn scope X.env.scope).names.lookup x=some k→(k=.cell∨k=.free)→(x,NameKind.free)∈scope.names∨scope.names.lookup x=some .cell:=λk hk hkk=>by
   have hm:=PySem.mem_of_lookup hk
   unfold dn at hm
   obtain⟨⟨n,k'⟩,hm1,hm2⟩:=List.mem_map.mp hm
   by_cases hc:(k'==.free && X.env.scope.kind==.function && X.env.scope.names.lookup n==some .cell)=true
   ·simp only[hc,if_true] at hm2
    cases hm2
    have:k'=.free:=by
     simp only[Bool.and_eq_true,beq_iff_eq] at hc
     exact hc.1.1
    subst this
    exact .inl hm1
   ·simp only[hc,if_false] at hm2
    cases hm2
    rcases hkk with rfl|rfl
    ·exact .inr (lx hnd hm1)
    ·exact .inl hm1
  rcases hx with hx|hx
  ·exact mem _ hx (.inl rfl)
  ·exact mem _ hx (.inr rfl)
theorem qw{X0:Cx}{N' N2:List Str}{scope nL:Scope}{cl:List (Str×Addr)}{C:Addr}{s₀:Shared}{H₀:Hp}{ex:List Addr}{mp:List (Option Nat)}(so:Scope)(hso:X0.env.scope=so)(h:qv N' N2 nL (dn scope so) mp) :
  dB (bR X0 N' scope cl C s₀ H₀ ex) N2 nL mp:=az (dn scope so) (by subst hso;rfl) N' rfl h
theorem Lm{K:PySem.W.Frag}{fn:FN}{H:Hp}{a:Addr}{ns:List Int}(Ln:∀ns:List Int,ns.length≤63→∃μ',fn [.val (.lst (ns.map T.int))] []=.ok (.val (.bl true)) μ')(hl:ns.length≤63)(hS:SqL K H a (ns.map V.int))(hO:G1 H) :
  spD K fn 1 [.ref a] H (λv _=>v=.bl true) (λ_ _ _=>False):=by
 obtain⟨μ',h⟩:=Ln ns hl
 refine⟨rfl,H,[],[],_,_,μ',⟨aN.refl _,rfl,List.nodup_nil,λk a h=>by simp at h,λk b t a h=>by simp at h,λb xs q=>by rcases hO b with z|⟨_,_,z⟩<;>(rw[z] at q;cases q)⟩,.cons ?_ .nil,h,λv H' F' α' _ _ o=>Rep.gT (K:=K) (F:=F') o⟩
 show Rep K H (.lst (ns.map T.int)) (.ref a)
 rw[Rep]
 exact⟨a,_,rfl,hS,aD.mH ns⟩
section
variable{K:PySem.W.Frag}
theorem Now.lh{F H:Hp}{v:V}{ts:List T}(h:Now K F H v (.lst ts)):∃a vs,v=.ref a∧SqL K H a vs∧aD K F ts vs:=h
theorem Now.qx{F H:Hp}{v:V}{ts:List T}(h:Now K F H v (.tup ts)):∃a vs,v=.ref a∧SqT K F a vs∧aD K F ts vs:=h
theorem l3{r:R2}{f:T→T→Option T}(g:Int→Int→T)(gV:Int→Int→V)(C:Int→Int→Prop)(hr:∀i j H Q,C i j→Q (gV i j) H→r (.int i) (.int j) H Q)
  (hf:∀t u w,f t u=some w→∃i j,t=.int i∧u=.int j∧w=g i j∧C i j) (hg:∀F i j,Rep K F (g i j) (gV i j)):dO K r f:=by
 intro F H v u t t' w Q s hv hu hw q
 obtain⟨i,j,rfl,rfl,rfl,hc⟩:=hf _ _ _ hw
 cases hv.int
 cases hu.int
 exact hr i j H Q hc (q _ H F bw.refl (hg F i j))
theorem HM:dO K (rI0 λi j=>.int (i-j)) oV:=l3 (λi j=>.int (i-j)) (λi j=>.int (i-j)) (λ_ _=>True) (λi j H Q _ q=>⟨i,j,rfl,rfl,q⟩)
 (λt u w h=>by cases t<;>cases u<;>first|(cases h;exact⟨_,_,rfl,rfl,rfl,trivial⟩)|cases h) λF i j=>Rep.gD _
theorem HN:dO K (rI (λ_ j=>0<j) λi j=>.int (i%j)) a8:=l3 (λi j=>.int (i%j)) (λi j=>.int (i%j)) (λ_ j=>0<j) (λi j H Q c q=>⟨i,j,rfl,rfl,c,q⟩)
 (λt u w h=>by
  cases t<;>cases u<;>first|cases h|skip
  rename_i i j
  by_cases hj:0<j
  ·have h:(if 0<j then some (T.int (i%j)) else none)=some w:=h
   rw[if_pos hj] at h
   cases h
   exact⟨_,_,rfl,rfl,rfl,hj⟩
  ·have h:(if 0<j then some (T.int (i%j)) else none)=some w:=h
   rw[if_neg hj] at h;cases h) λF i j=>Rep.gD _
theorem HP:dO K (rI Kl λi j=>.int (i / j)) gO:=l3 (λi j=>.int (i / j)) (λi j=>.int (i / j)) Kl (λi j H Q c q=>⟨i,j,rfl,rfl,c,q⟩)
 (λt u w h=>by
  cases t<;>cases u<;>first|cases h|skip
  rename_i i j
  have h:(if 0<j∧j<1073741824 then some (T.int (i / j)) else none)=some w:=h
  by_cases hj:0<j∧j<1073741824
  ·rw[if_pos hj] at h
   cases h
   exact⟨_,_,rfl,rfl,rfl,hj⟩
  ·rw[if_neg hj] at h;cases h) λF i j=>Rep.gD _
theorem Lo:dO K (rI0 λi j=>.bl (decide (i<j))) fLt:=l3 (λi j=>.bl (decide (i<j))) (λi j=>.bl (decide (i<j))) (λ_ _=>True) (λi j H Q _ q=>⟨i,j,rfl,rfl,q⟩)
 (λt u w h=>by cases t<;>cases u<;>first|(cases h;exact⟨_,_,rfl,rfl,rfl,trivial⟩)|cases h) λF i j=>Rep.bl' _
theorem Lp:dO K (rI0 λi j=>.bl (decide (j<i))) fGt:=l3 (λi j=>.bl (decide (j<i))) (λi j=>.bl (decide (j<i))) (λ_ _=>True) (λi j H Q _ q=>⟨i,j,rfl,rfl,q⟩)
 (λt u w h=>by cases t<;>cases u<;>first|(cases h;exact⟨_,_,rfl,rfl,rfl,trivial⟩)|cases h) λF i j=>Rep.bl' _
theorem En:dO K (rI0 λi j=>.bl (decide (j≤i))) fGe:=l3 (λi j=>.bl (decide (j≤i))) (λi j=>.bl (decide (j≤i))) (λ_ _=>True) (λi j H Q _ q=>⟨i,j,rfl,rfl,q⟩)
 (λt u w h=>by cases t<;>cases u<;>first|(cases h;exact⟨_,_,rfl,rfl,rfl,trivial⟩)|cases h) λF i j=>Rep.bl' _
end
section
variable{X:Cx}{a b c:Expr}{da db dc:D}{pos p p2:Pos}
theorem uw(ha:CE X a da)(hb:CE X b db):CE X (.BinOp a .Sub b pos) (ah oV da db):=qk Kn HM ha hb
theorem bN(ha:CE X a da)(hb:CE X b db):CE X (.BinOp a .Mod b pos) (ah a8 da db):=qk Kp HN ha hb
theorem iu(ha:CE X a da)(hb:CE X b db):CE X (.BinOp a .FloorDiv b pos) (ah gO da db):=qk GH HP ha hb
theorem Jy(ha:CE X a da)(hb:CE X b db):CE X (.Compare a [.GtE] [b] pos) (ah fGe da db):=xW Jo En (i8 _) ha hb
theorem Eo(ha:CE X a da)(hb:CE X b db):CT X (.Compare a [.Lt] [b] pos) (ah fLt da db):=gF M7 Lo (i8 _) ha hb
theorem wd(ha:CE X a da)(hb:CE X b db):CT X (.Compare a [.Gt] [b] pos) (ah fGt da db):=gF M8 Lp (i8 _) ha hb
theorem NJ(ha:CE X a da)(hb:CE X b db):CT X (.Compare a [.GtE] [b] pos) (ah fGe da db):=gF Jo En (i8 _) ha hb
theorem Lq(ha:CE X a da):CE X (.UnaryOp .USub a pos) (dUn DJ da):=Ny Kq (by
 intro F H v t w Q s hv hw q
 cases t<;>first|cases hw|skip
 cases hv.int
 exact⟨_,rfl,q _ H F bw.refl (Rep.gD _)⟩) ha
end
end Fw
namespace L2
open PySem PySem.Spec PyProof.Rows
section
variable{X:Cx}
def Ep(K:PySem.W.Frag):R2:=λx y H Q=>∃a b xs ys,x=.ref a∧y=.ref b∧SqT K H a xs∧SqT K H b ys∧xs.length+ys.length≤sizeLine ∧
 (xs=[]→Q (.ref b) H)∧(xs≠[]→ys=[]→Q (.ref a) H)∧(xs≠[]→ys≠[]→∀p,H p=none→Q (.ref p) (upd H p (.tup (xs++ys))))
theorem Er:OpR X (binaryOp .Add) (Ep X.K):=by
 intro pins s σ H x y v u Q I rx ry h
 obtain⟨a,b,xs,ys,hx0,hy0,ha,hb,hz,q0,q1,q2⟩:=h
 by_cases hx:xs=[]
 ·subst hx0;subst hy0
  cases rx
  cases ry
  obtain⟨its,r1,p1,_⟩:=I.tuple ha
  obtain⟨lb,r2,p2,_⟩:=I.tuple hb
  obtain⟨⟨cls,dd,data,sl⟩,ho,hc,n,hd⟩:=id p1
  obtain⟨⟨Kv,dd2,data2,sl2⟩,ho2,hc2,n2,hd2⟩:=id p2
  simp only at hc hd hc2 hd2
  subst hc hd hc2 hd2
  have e:its=[]:=r1.pv.mpr hx
  exact concat_meets ⟨_,ho,rfl⟩ ⟨_,ho2,rfl⟩ noFill_tuple_add seq_tuple_add PySem.F.slot_tuple_add PySem.F.entry_tuple_add (PySem.F.args_tuple_add_2 _ _)
   (tuple_addW0 a b its.toArray lb.toArray n n2 dd dd2 sl sl2 (by simp[e])) ⟨ho,ho2,.ref b,H,I,rfl,q0 hx⟩
 ·exact GU pins s σ H x y v u Q I rx ry ⟨a,b,xs,ys,hx0,hy0,ha,hb,hx,hz,q1 hx,q2 hx⟩
def Jz(K:PySem.W.Frag):R2:=λx y H Q=>∃l b xs zs,x=.ref l∧y=.ref b∧SqL K H l xs∧SqL K H b zs∧xs.length+zs.length≤sizeLine∧∀p,H p=none→Q (.ref p) (upd H p (.lst (xs++zs)))
theorem HQ:OpR X (binaryOp .Add) (Jz X.K):=by
 intro pins s σ H x y v u Q I rx ry h
 obtain⟨l,b,xs,zs,rfl,rfl,hA,hB,hz,q⟩:=h
 cases rx
 cases ry
 obtain⟨its,r,p1,_⟩:=I.list hA
 obtain⟨lb,r2,p2,_⟩:=I.list hB
 obtain⟨⟨cls,dd,data,sl⟩,ho,hc,n,hd⟩:=id p1.isList
 obtain⟨⟨Kv,dd2,data2,sl2⟩,ho2,hc2,n2,hd2⟩:=id p2.isList
 simp only at hc hd hc2 hd2
 subst hc hd hc2 hd2
 have hl:=r.length
 have hl2:=r2.length
 have e:its.toArray++lb.toArray=(its++lb).toArray:=by simp
 refine concat_meets ⟨_,ho,rfl⟩ ⟨_,ho2,rfl⟩ noFill_list_add seq_list_add PySem.F.slot_list_add PySem.F.entry_list_add (PySem.F.args_list_add_2 _ _)
  (list_addW l b its.toArray lb.toArray n n2 dd dd2 sl sl2 (by rw[List.size_toArray,List.size_toArray];lia)) ⟨ho,ho2,?_⟩
 rw[e]
 exact⟨.ref _,_,I.KI (t':=s.toks) (r.append r2) (by rw[List.length_append];lia),rfl,q _ I.fresh⟩
end
end L2
namespace Fw
open PySem PySem.Spec PyProof.Rows L2
section
variable{K:PySem.W.Frag}
theorem nM:szL=sizeLine:=rfl
theorem aD.nil_of{F:Hp}{ts:List T}{vs:List V}(h:aD K F ts vs)(e:vs=[]):ts=[]:=by
 have:=h.length
 subst e
 exact List.length_eq_zero_iff.mp (by simpa using this)
theorem pF{F H:Hp}{ts:List T}{vs:List V}{Q:VK}{p:Addr}(s:aN F H)(hp:H p=none)(r:aD K F ts vs)(q:∀v' H' F',bw F H F' H'→Rep K F' (.lst ts) v'→Q v' H'):Q (.ref p) (upd H p (.lst vs)):=by
 have g:bw F H (upd F p (.lst vs)) (upd H p (.lst vs)):=bw.new hp
 refine q _ _ _ g ?_
 rw[Rep]
 exact⟨p,vs,rfl,SqL.of aB,aD.mono (g.same s) _ _ r⟩
theorem ux{F H:Hp}{ts:List T}{vs:List V}{Q:VK}{p:Addr}(s:aN F H)(hp:H p=none)(r:aD K F ts vs)(q:∀v' H' F',bw F H F' H'→Rep K F' (.tup ts) v'→Q v' H'):Q (.ref p) (upd H p (.tup vs)):=by
 have g:bw F H (upd F p (.tup vs)) (upd H p (.tup vs)):=bw.new hp
 refine q _ _ _ g ?_
 rw[Rep]
 exact⟨p,vs,rfl,SqT.of aB,aD.mono (g.same s) _ _ r⟩
theorem uy{F:Hp}{a:Addr}{ts:List T}{vs:List V}(h:SqT K F a vs)(r:aD K F ts vs):Rep K F (.tup ts) (.ref a):=by
 rw[Rep];exact⟨a,vs,rfl,h,r⟩
theorem HR:dO K (λx y H Q=>(rI0 λi j=>.int (i+j)) x y H Q∨(λx y H Q=>∃i j,x=.str i∧y=.str j∧i.length+j.length≤sizeLine∧Q (.str (i++j)) H) x y H Q∨Ep K x y H Q∨Jz K x y H Q) aO:=by
 intro F H v u t t' w Q s hv hu hw q
 cases t with
 | int i =>
  cases t' with
  | int j =>
   cases hw
   cases hv.int
   cases hu.int
   exact .inl ⟨i,j,rfl,rfl,q _ H F bw.refl (Rep.gD _)⟩
  | _=>cases hw
 | str i =>
  cases t' with
  | str j =>
   have hw:(if i.length+j.length≤szL then some (T.str (i++j)) else none)=some w:=hw
   by_cases hz:i.length+j.length≤szL
   ·rw[if_pos hz] at hw
    cases hw
    cases hv.str
    cases hu.str
    exact .inr (.inl ⟨i,j,rfl,rfl,hz,q _ H F bw.refl (Rep.Ho _)⟩)
   ·rw[if_neg hz] at hw;cases hw
  | _=>cases hw
 | tup xs =>
  cases t' with
  | tup ys =>
   have hw:(if xs.length+ys.length≤szL then some (T.tup (xs++ys)) else none)=some w:=hw
   by_cases hz:xs.length+ys.length≤szL
   ·rw[if_pos hz] at hw
    cases hw
    obtain⟨a,vs,rfl,ha,ra⟩:=hv.qx
    obtain⟨b,us,rfl,hb,rb⟩:=hu.qx
    refine .inr (.inr (.inl ⟨a,b,vs,us,rfl,rfl,aN.iP s ha,aN.iP s hb,?_,λe=>?_,λe e2=>?_,λe e2 p hp=>?_⟩))
    ·have:=ra.length;have:=rb.length;rw[nM] at hz;lia
    ·refine q _ H F bw.refl ?_
     rw[ra.nil_of e,List.nil_append]
     exact uy hb rb
    ·refine q _ H F bw.refl ?_
     rw[rb.nil_of e2,List.append_nil]
     exact uy ha ra
    ·exact ux s hp (ra.append rb) q
   ·rw[if_neg hz] at hw;cases hw
  | _=>cases hw
 | lst xs =>
  cases t' with
  | lst ys =>
   have hw:(if xs.length+ys.length≤szL then some (T.lst (xs++ys)) else none)=some w:=hw
   by_cases hz:xs.length+ys.length≤szL
   ·rw[if_pos hz] at hw
    cases hw
    obtain⟨a,vs,rfl,ha,ra⟩:=hv.lh
    obtain⟨b,us,rfl,hb,rb⟩:=hu.lh
    exact .inr (.inr (.inr ⟨a,b,vs,us,rfl,rfl,ha,hb,by have:=ra.length;have:=rb.length;rw[nM] at hz;lia,λp hp=>pF s hp (ra.append rb) q⟩))
   ·rw[if_neg hz] at hw;cases hw
  | _=>cases hw
 | _=>cases hw
end
section
variable{X:Cx}{a b c:Expr}{da db dc:D}{pos p p2:Pos}
theorem bG(ha:CE X a da)(hb:CE X b db):CE X (.BinOp a .Add b pos) (ah aO da db):=qk (Km.or (xB.or (Er.or HQ))) HR ha hb
end
section
variable{K:PySem.W.Frag}
theorem HS:dO K (rI Dc λi j=>.int (i*j)) bJ:=l3 (λi j=>.int (i*j)) (λi j=>.int (i*j)) Dc (λi j H Q c q=>⟨i,j,rfl,rfl,c,q⟩)
 (λt u w h=>by
  unfold bJ at h
  cases t<;>cases u<;>first|cases h|skip
  rename_i i j
  have h:(if (-(2 ^ 64)<i∧i<2 ^ 64)∨(-(2 ^ 64)<j∧j<2 ^ 64) then some (T.int (i*j)) else none)=some w:=h
  by_cases hj:(-(2 ^ 64)<i∧i<2 ^ 64)∨(-(2 ^ 64)<j∧j<2 ^ 64)
  ·rw[if_pos hj] at h
   cases h
   exact⟨_,_,rfl,rfl,rfl,hj⟩
  ·rw[if_neg hj] at h;cases h) λF i j=>Rep.gD _
theorem aD.atI{F:Hp}{ts:List T}{vs:List V}{i:Int}{t:T}(h:aD K F ts vs)(e:Fw.atI ts i=some t):∃v,L2.atI vs i=some v∧Rep K F t v:=by
 have hl:=h.length
 unfold Fw.atI at e
 obtain⟨j,h1,h2⟩:=Option.bind_eq_some_iff.mp e
 obtain⟨v,hv,rv⟩:=h.get h2
 refine⟨v,?_,rv⟩
 unfold L2.atI
 have:L2.ixN vs.length i=some j:=by rw[← hl];exact h1
 rw[this]
 exact hv
theorem Paired.atI{α β:Type}{P:α→β→Prop}{xs:List α}{ys:List β}{i:Int}{y:β}(h:Paired P xs ys)(e:Fw.atI ys i=some y):∃x,L2.atI xs i=some x∧P x y:=by
 have hl:=h.length
 unfold Fw.atI at e
 obtain⟨j,h1,h2⟩:=Option.bind_eq_some_iff.mp e
 have get:∀{xs:List α}{ys:List β}{j:Nat}{y:β},Paired P xs ys→ys[j]?=some y→∃x,xs[j]?=some x∧P x y:=by
  intro xs ys j y o
  induction o generalizing j with
  | nil=>intro e;simp at e
  | cons r _ ih =>
   intro e
   cases j with
   | zero=>simp at e;subst e;exact⟨_,rfl,r⟩
   | succ j =>
    obtain⟨v,h1,h2⟩:=ih (j:=j) (by simpa using e)
    exact⟨v,by simpa using h1,h2⟩
 obtain⟨v,hv,rv⟩:=get h h2
 refine⟨v,?_,rv⟩
 unfold L2.atI
 have:L2.ixN xs.length i=some j:=by rw[hl];exact h1
 rw[this]
 exact hv
end
section
variable{X:Cx}{a b c:Expr}{da db dc:D}{pos p p2:Pos}
theorem eW(ha:CE X a da)(hb:CE X b db):CE X (.BinOp a .Mult b pos) (ah bJ da db):=qk Ko HS ha hb
theorem aC(ha:CE X a da)(hb:CE X b db)(hp:zL b:=by intro _ _;rfl):CE X (.Subscript a b pos) (ax da db) :=
 PE.imp (Nd KA ha hb hp) λσ H Q au=>by
  obtain⟨F,α,e,μ,S,h⟩:=au
  refine⟨F,α,e,μ,S,?_⟩
  refine(R.wp_bind h).mono (λx μ1 h v H1 F1 α1 x1 S1 o1=>⟨F1,α1,e,μ1,S1,?_⟩) λ_ _ h=>h
  refine(R.wp_bind h).mono (λy μ2 h v2 H2 F2 α2 x2 S2 o2=>?_) λ_ _ h=>h.mono x1
  obtain⟨w,h9,post⟩:=R.bB h
  obtain⟨u,hu,h⟩:=Option.bind_eq_some_iff.mp h9
  have nu:=aU S2.st o2 hu
  have fin:∀{v'},dY X.K F2 α2 v' w→Q v' H2:=λ{v'} o=>post v' H2 F2 α2 (x1.trans x2) S2 o
  have o1':=o1.mono x2.same x2.pre
  have gen:∀t,rd μ2 x=some t→ap1 (λt=>K4 t u) (some t)=some w→rIx X.K v v2 H2 Q:=λt hr h=>by
   obtain⟨t',w',e1,h,rfl⟩:=lR h
   cases e1
   have nt:=aU S2.st o1' hr
   cases t with
   | lst ts =>
    cases u with
    | int i =>
     cases nu.int
     obtain⟨a,vs,rfl,hq,hl⟩:=nt.lh
     obtain⟨v',g1,g2⟩:=hl.atI h
     exact .inl ⟨a,vs,i,v',rfl,rfl,hq,g1,fin g2⟩
    | _=>cases h
   | tup ts =>
    cases u with
    | int i =>
     cases nu.int
     obtain⟨a,vs,rfl,hq,hl⟩:=nt.qx
     obtain⟨v',g1,g2⟩:=hl.atI h
     exact .inr (.inl ⟨a,vs,i,v',rfl,rfl,aN.iP S2.st.ext hq,g1,fin g2⟩)
    | _=>cases h
   | str z =>
    cases u with
    | int i =>
     cases nu.int
     cases nt.str
     have h:(if z.length≤szL then (Fw.atI z.cps.toList i).map λc=>T.str ⟨#[c]⟩ else none)=some w':=h
     by_cases hz:z.length≤szL
     ·rw[if_pos hz] at h
      obtain⟨ch,g1,rfl⟩:=Option.map_eq_some_iff.mp h
      exact .inr (.inr ⟨z,i,ch,rfl,rfl,hz,g1,fin (Rep.Ho (K:=X.K) (F:=F2) _)⟩)
     ·rw[if_neg hz] at h;cases h
    | _=>cases h
   | _=>cases u<;>cases h
  cases x with
  | val t=>exact gen t rfl (by unfold iM at h;exact h)
  | cel k =>
   cases q:rd μ2 (.cel k) with
   | none=>unfold iM at h;simp only at h;rw[q] at h;cases h
   | some t=>exact gen t q (by unfold iM at h;simp only at h;rw[q] at h;exact h)
  | box xs =>
   cases u with
   | int i =>
    cases nu.int
    obtain⟨y',h1,rfl⟩:=Option.map_eq_some_iff.mp (show(Fw.atI xs i).map pick=some w from h)
    obtain⟨a,vs,rfl,hq,hp⟩:=o1'
    obtain⟨v',g1,g2⟩:=Paired.atI hp h1
    refine .inr (.inl ⟨a,vs,i,v',rfl,rfl,aN.iP S2.st.ext hq,g1,fin ?_⟩)
    cases y' with
    | inl t=>exact g2
    | inr k=>exact g2
   | _=>cases h
theorem iw(hm:X.mg "len"=none)(ha:CE X a da)(hg:Gl X "len":=by rfl)(hs1:starEach [a] X.env=(false,eval a X.env)::starEach [] X.env:=by rfl)(hpl:(backTo pos (starEach [] X.env)).any (·.1)=false:=by rfl) :
  CE X (.Call (.Name "len" p) [a] [] pos) (gz da) :=
 PE.imp (mx (t7.or (t8.or BH)) hg hm PySem.boot_len (ag ha aq hs1) (by decide) (by decide) hs1 hpl) λσ H Q au=>by
  obtain⟨F,α,e,μ,S,h⟩:=au
  refine oE ⟨F,α,e,μ,S,(R.wp_bind h).mono (λx μ1 h v H1 F1 α1 x1 S1 o1=>?_) λ_ _ h=>h⟩
  obtain⟨w,h9,post⟩:=R.bB h
  obtain⟨w',h,rfl⟩:=Option.map_eq_some_iff.mp h9
  have fin:∀{v'},Rep X.K F1 w' v'→Q v' H1:=λ{v'} o=>post v' H1 F1 α1 x1 S1 o
  have gen:∀t,rd μ1 x=some t→K5 t=some w'→(∃p ys,[v]=[V.ref p]∧(SqL X.K H1 p ys∨SqT X.K H1 p ys)∧Q (.int ys.length) H1)∨(∃z,[v]=[V.str z]∧z.length≤sizeLine∧Q (.int z.length) H1) ∨
    ∃d kvs,[v]=[V.ref d]∧H1 d=some (.dK kvs)∧Q (.int kvs.length) H1:=λt hr h=>by
   have nt:=aU S1.st o1 hr
   cases t with
   | lst ts =>
    cases h
    obtain⟨a,vs,rfl,hq,hl⟩:=nt.lh
    exact .inl ⟨a,vs,rfl,.inl hq,fin (by rw[hl.length];exact Rep.gD _)⟩
   | tup ts =>
    cases h
    obtain⟨a,vs,rfl,hq,hl⟩:=nt.qx
    exact .inl ⟨a,vs,rfl,.inr (aN.iP S1.st.ext hq),fin (by rw[hl.length];exact Rep.gD _)⟩
   | str z =>
    cases nt.str
    have h:(if z.length≤szL then some (T.int z.length) else none)=some w':=h
    by_cases hz:z.length≤szL
    ·rw[if_pos hz] at h
     cases h
     exact .inr (.inl ⟨z,rfl,hz,fin (Rep.gD _)⟩)
    ·rw[if_neg hz] at h;cases h
   | dct kts =>
    cases h
    obtain⟨a,kvs,rfl,hq,hl⟩:=nt
    exact .inr (.inr ⟨a,kvs,rfl,hq,fin (by rw[hl.length];exact Rep.gD _)⟩)
   | _=>cases h
  cases x with
  | val t=>exact gen t rfl (by unfold ny at h;exact h)
  | cel k =>
   cases q:rd μ1 (.cel k) with
   | none=>unfold ny at h;simp only at h;rw[q] at h;cases h
   | some t=>exact gen t q (by unfold ny at h;simp only at h;rw[q] at h;exact h)
  | box xs =>
   cases h
   obtain⟨a,vs,rfl,hq,hp⟩:=o1
   exact .inl ⟨a,vs,rfl,.inr (aN.iP S1.st.ext hq),fin (by rw[hp.length];exact Rep.gD _)⟩
end
end Fw
set_option maxHeartbeats 4000000
namespace Fw
open PySem PySem.Spec PyProof.Rows L2
mutual
def toPy:T→PyData
 | .non=>.none
 | .bl b=>.bool b
 | .int i=>.int i
 | .str x=>.str x
 | .lst ts=>.list (toPys ts)
 | .tup ts=>.tuple (toPys ts)
 | .dct _=>.dict []
 | .exc _ _=>.dict []
 | .dtt _ _=>.dict []
def toPys:List T→List PyData
 | []=>[]
 | t::ts=>toPy t::toPys ts
end
mutual
theorem l4:∀(n:Nat) (t:T),okT n t=true→(toPy t).canLay0=true∧(toPy t).depth≤n
 | n,.non,_=>⟨by rw[toPy,PyData.canLay0],by rw[toPy,PyData.depth];exact Nat.zero_le _⟩
 | n,.bl _,_=>⟨by rw[toPy,PyData.canLay0],by rw[toPy,PyData.depth];exact Nat.zero_le _⟩
 | n,.int _,_=>⟨by rw[toPy,PyData.canLay0],by rw[toPy,PyData.depth];exact Nat.zero_le _⟩
 | n,.str x,h=>by
  unfold okT at h
  exact⟨by rw[toPy,PyData.canLay0];exact h,by rw[toPy,PyData.depth];exact Nat.zero_le _⟩
 | 0,.lst ts,h=>by rw[okT] at h;cases h
 | n+1,.lst ts,h=>by
  rw[okT] at h
  obtain⟨h1,h2⟩:=uz n ts h
  exact⟨by rw[toPy,PyData.canLay0];exact h1,by rw[toPy,PyData.depth];lia⟩
 | 0,.tup ts,h=>by rw[okT] at h;cases h
 | n+1,.tup ts,h=>by
  rw[okT] at h
  obtain⟨h1,h2⟩:=uz n ts h
  exact⟨by rw[toPy,PyData.canLay0];exact h1,by rw[toPy,PyData.depth];lia⟩
 | n,.dct _,h=>by unfold okT at h;cases h
 | n,.exc _ _,h=>by unfold okT at h;cases h
 | n,.dtt _ _,h=>by unfold okT at h;cases h
theorem uz:∀(n:Nat) (ts:List T),eS n ts=true→PyData.canLayAll0 (toPys ts)=true∧PyData.depthAll (toPys ts)≤n
 | n,[],_=>⟨by rw[toPys,PyData.canLayAll0],by rw[toPys,PyData.depthAll];exact Nat.zero_le _⟩
 | n,t::ts,h=>by
  rw[eS,Bool.and_eq_true] at h
  obtain⟨h1,h2⟩:=l4 n t h.1
  obtain⟨h3,h4⟩:=uz n ts h.2
  exact⟨by rw[toPys,PyData.canLayAll0,h1,h3];rfl,by rw[toPys,PyData.depthAll];lia⟩
end
mutual
theorem uA:∀(n:Nat) (t u:T),okT n t=true→okT n u=true→PyData.eqv (toPy t) (toPy u)=eqT t u
 | n,.non,u,_,h=>by cases u<;>first|(simp[toPy,eqT,PyData.eqv];done)|(unfold okT at h;cases h)
 | n,.bl a,u,_,h=>by cases u<;>first|(simp[toPy,eqT,PyData.eqv];done)|(unfold okT at h;cases h)
 | n,.int a,u,_,h=>by cases u<;>first|(simp[toPy,eqT,PyData.eqv];done)|(unfold okT at h;cases h)
 | n,.str a,u,_,h=>by cases u<;>first|(simp[toPy,eqT,PyData.eqv];done)|(unfold okT at h;cases h)
 | 0,.lst a,u,h,_=>by rw[okT] at h;cases h
 | n+1,.lst a,u,h1,h=>by
  cases u with
  | lst b=>rw[toPy,toPy,eqT,PyData.eqv];rw[okT] at h1 h;exact uB n a b h1 h
  | dct _=>unfold okT at h;cases h
  | exc _ _=>unfold okT at h;cases h
  | dtt _ _=>unfold okT at h;cases h
  | _=>simp[toPy,eqT,PyData.eqv]
 | 0,.tup a,u,h,_=>by rw[okT] at h;cases h
 | n+1,.tup a,u,h1,h=>by
  cases u with
  | tup b=>rw[toPy,toPy,eqT,PyData.eqv];rw[okT] at h1 h;exact uB n a b h1 h
  | dct _=>unfold okT at h;cases h
  | exc _ _=>unfold okT at h;cases h
  | dtt _ _=>unfold okT at h;cases h
  | _=>simp[toPy,eqT,PyData.eqv]
 | n,.dct _,u,h,_=>by unfold okT at h;cases h
 | n,.exc _ _,u,h,_=>by unfold okT at h;cases h
 | n,.dtt _ _,u,h,_=>by unfold okT at h;cases h
theorem uB:∀(n:Nat) (ts us:List T),eS n ts=true→eS n us=true→PyData.eqvAll (toPys ts) (toPys us)=ip ts us
 | n,[],[],_,_=>by rw[toPys,PyData.eqvAll,ip]
 | n,[],u::us,_,_=>by rw[toPys,toPys,PyData.eqvAll,ip]
 | n,t::ts,[],_,_=>by rw[toPys,toPys,PyData.eqvAll,ip]
 | n,t::ts,u::us,h1,h2=>by
  rw[eS,Bool.and_eq_true] at h1 h2
  rw[toPys,toPys,PyData.eqvAll,ip,uA n t u h1.1 h2.1,uB n ts us h1.2 h2.2]
end
section
variable{X:Cx}{pins:List (Addr×Obj)}{σ:L2.St}{H:Hp}{s:Shared}
mutual
theorem fE(I:Inv X pins σ H s):∀(n:Nat) (t:T) (v:V) (u:Value),Rep X.K H t v→RelV v u→okT n t=true→∃as,Reads s.heap u (toPy t) as
 | n,.non,v,u,h,r,_=>by cases h.je;cases r;rw[toPy];exact⟨_,.none⟩
 | n,.bl b,v,u,h,r,_=>by cases h.gT;cases r;rw[toPy];exact⟨_,.bool b⟩
 | n,.int i,v,u,h,r,_=>by cases h.jd;obtain⟨t,rfl⟩:=r;rw[toPy];exact⟨_,.int i t⟩
 | n,.str i,v,u,h,r,_=>by cases h.lV;obtain⟨t,rfl⟩:=r;rw[toPy];exact⟨_,.str i t⟩
 | 0,.lst ts,v,u,h,r,ok=>by rw[okT] at ok;cases ok
 | n+1,.lst ts,v,u,h,r,ok=>by
  rw[Rep] at h
  rw[okT] at ok
  obtain⟨a,vs,rfl,hq,hl⟩:=h
  cases r
  obtain⟨its,rv,pl,_⟩:=I.list hq
  obtain⟨o,ho,hc,m,hd⟩:=pl.isList
  obtain⟨as,ra⟩:=kg I n ts vs its hl rv ok
  rw[toPy]
  exact⟨_,.list ho hc hd (by simpa using ra)⟩
 | 0,.tup ts,v,u,h,r,ok=>by rw[okT] at ok;cases ok
 | n+1,.tup ts,v,u,h,r,ok=>by
  rw[Rep] at h
  rw[okT] at ok
  obtain⟨a,vs,rfl,hq,hl⟩:=h
  cases r
  obtain⟨its,rv,pl,_⟩:=I.tuple hq
  obtain⟨o,ho,hc,m,hd⟩:=pl
  obtain⟨as,ra⟩:=kg I n ts vs its hl rv ok
  rw[toPy]
  exact⟨_,.tuple ho hc hd (by simpa using ra)⟩
 | n,.dct _,v,u,h,r,ok=>by unfold okT at ok;cases ok
 | n,.exc _ _,v,u,h,r,ok=>by unfold okT at ok;cases ok
 | n,.dtt _ _,v,u,h,r,ok=>by unfold okT at ok;cases ok
theorem kg(I:Inv X pins σ H s):∀(n:Nat) (ts:List T) (vs:List V) (us:List Value),aD X.K H ts vs→Vals vs us→eS n ts=true→∃as,ReadsAll s.heap us (toPys ts) as
 | n,[],vs,us,h,r,_=>by
  rw[aD] at h;subst h;cases r
  rw[toPys];exact⟨_,.nil⟩
 | n,t::ts,vs,us,h,r,ok=>by
  rw[aD] at h
  obtain⟨v,vs',rfl,q,hl⟩:=h
  rw[eS,Bool.and_eq_true] at ok
  cases r with
  | cons r1 r2 =>
   obtain⟨as,ra⟩:=fE I n t v _ q r1 ok.1
   obtain⟨bs,rb⟩:=kg I n ts vs' _ hl r2 ok.2
   rw[toPys]
   exact⟨_,.cons ra rb⟩
end
end
theorem Now.rep{K:PySem.W.Frag}{F H:Hp}{v:V}{t:T}(s:aN F H)(h:Now K F H v t)(hx:(∀c n,t≠.exc c n)∧∀f k,t≠.dtt f k):Rep K H t v:=by
 cases t with
 | lst ts=>rw[Rep];obtain⟨a,vs,e,q,r⟩:=h;exact⟨a,vs,e,q,aD.mono s _ _ r⟩
 | tup ts=>rw[Rep];obtain⟨a,vs,e,q,r⟩:=h;exact⟨a,vs,e,aN.iP s q,aD.mono s _ _ r⟩
 | dct ts=>rw[Rep];obtain⟨a,vs,e,q,r⟩:=h;exact⟨a,vs,e,q,bj.mono s _ _ r⟩
 | dtt fz ts=>rw[Rep];exact absurd rfl (hx.2 fz ts)
 | exc c n=>exact absurd rfl (hx.1 c n)
 | _=>exact Rep.mono s _ _ h
def HU(K:PySem.W.Frag)(neg:Bool):R2:=λx y H Q=>∃t u,Rep K H t x∧Rep K H u y∧okT 100 t=true∧okT 100 u=true∧Q (.bl (if neg then !eqT t u else eqT t u)) H
section
variable{X:Cx}{a b c:Expr}{da db dc:D}{pos p p2:Pos}{k:Nat}
theorem Es(hr:b_ k X.A):OpR X (compareOp .Eq) (HU X.K false):=by
 intro pins s σ H x y v u Q I rx ry h
 obtain⟨t,t',h1,h2,o1,o2,q⟩:=h
 obtain⟨as,r1⟩:=fE I 100 t x v h1 rx o1
 obtain⟨bs,r2⟩:=fE I 100 t' y u h2 ry o2
 obtain⟨c1,d1⟩:=l4 100 t o1
 obtain⟨c2,d2⟩:=l4 100 t' o2
 refine SeqAt.compareEq_reads r1 r2 c1 c2 (by have:=hr.un;lia) ⟨.bl _,H,I,rfl,?_⟩
 rw[uA 100 t t' o1 o2]
 exact q
theorem Lr(hr:b_ k X.A):OpR X (compareOp .NotEq) (HU X.K true):=by
 intro pins s σ H x y v u Q I rx ry h
 obtain⟨t,t',h1,h2,o1,o2,q⟩:=h
 obtain⟨as,r1⟩:=fE I 100 t x v h1 rx o1
 obtain⟨bs,r2⟩:=fE I 100 t' y u h2 ry o2
 obtain⟨c1,d1⟩:=l4 100 t o1
 obtain⟨c2,d2⟩:=l4 100 t' o2
 refine SeqAt.compareNe_reads r1 r2 c1 c2 (by have:=hr.un;lia) ⟨.bl _,H,I,rfl,?_⟩
 rw[uA 100 t t' o1 o2]
 exact q
theorem fF{n:Nat}{t:T}(h:okT n t=true):(∀c m,t≠.exc c m)∧∀f k,t≠.dtt f k:=⟨λc m e=>(by subst e;unfold okT at h;cases h),λc m e=>(by subst e;unfold okT at h;cases h)⟩
theorem Et{K:PySem.W.Frag}:dO K (λx y H Q=>HU K false x y H Q∨rEq x y H Q) fEq:=by
 intro F H v u t t' w Q s hv hu hw q
 by_cases hs:∃a b,t=.str a∧t'=.str b
 ·obtain⟨a,b,rfl,rfl⟩:=hs
  cases hw
  cases hv.str
  cases hu.str
  refine .inr ⟨rfl,?_⟩
  have e:decide (V.str a=V.str b)=(a==b):=pq
  rw[e]
  exact q _ H F bw.refl (Rep.bl' _)
 ·have hw:(if okT 100 t=true∧okT 100 t'=true then some (T.bl (eqT t t')) else none)=some w:=by
   unfold fEq at hw
   split at hw
   ·exact absurd ⟨_,_,rfl,rfl⟩ hs
   ·exact hw
  by_cases ho:okT 100 t=true∧okT 100 t'=true
  ·rw[if_pos ho] at hw
   cases hw
   exact .inl ⟨t,t',hv.rep s (fF ho.1),hu.rep s (fF ho.2),ho.1,ho.2,q _ H F bw.refl (Rep.bl' _)⟩
  ·rw[if_neg ho] at hw;cases hw
theorem Ls{K:PySem.W.Frag}:dO K (λx y H Q=>HU K true x y H Q∨rNe x y H Q) fNe:=by
 intro F H v u t t' w Q s hv hu hw q
 by_cases hs:∃a b,t=.str a∧t'=.str b
 ·obtain⟨a,b,rfl,rfl⟩:=hs
  cases hw
  cases hv.str
  cases hu.str
  refine .inr ⟨rfl,?_⟩
  have e:decide (V.str a=V.str b)=(a==b):=pq
  rw[e]
  exact q _ H F bw.refl (Rep.bl' _)
 ·have hw:(if okT 100 t=true∧okT 100 t'=true then some (T.bl (!eqT t t')) else none)=some w:=by
   unfold fNe at hw
   split at hw
   ·exact absurd ⟨_,_,rfl,rfl⟩ hs
   ·exact hw
  by_cases ho:okT 100 t=true∧okT 100 t'=true
  ·rw[if_pos ho] at hw
   cases hw
   exact .inl ⟨t,t',hv.rep s (fF ho.1),hu.rep s (fF ho.2),ho.1,ho.2,q _ H F bw.refl (Rep.bl' _)⟩
  ·rw[if_neg ho] at hw;cases hw
theorem Eu(hr:b_ k X.A)(ha:CE X a da)(hb:CE X b db):CE X (.Compare a [.Eq] [b] pos) (ah fEq da db):=xW ((Es hr).or Jn) Et (i8 _) ha hb
theorem gZ(hr:b_ k X.A)(ha:CE X a da)(hb:CE X b db):CT X (.Compare a [.Eq] [b] pos) (ah fEq da db):=gF ((Es hr).or Jn) Et (i8 _) ha hb
theorem ly(hr:b_ k X.A)(ha:CE X a da)(hb:CE X b db):CT X (.Compare a [.NotEq] [b] pos) (ah fNe da db):=gF ((Lr hr).or M6) Ls (i8 _) ha hb
def Kd.name:Kd→String
 | .int=>"int"
 | .bool=>"bool"
 | .str=>"str"
 | .list=>"list"
 | .tuple=>"tuple"
 | .dict=>"dict"
end
theorem qy:∀{ts:List T}{bs:List Bool},mG ts=some bs→ts=bs.map T.bl
 | [],bs,h=>by cases h;rfl
 | t::ts,bs,h=>by
  cases t with
  | bl b =>
   obtain⟨cs,h1,rfl⟩:=Option.map_eq_some_iff.mp (show(mG ts).map (λbs=>b::bs)=some bs from h)
   rw[qy h1];rfl
  | _=>cases h
theorem nN:∀{ts:List T}{bs:List Int},cM ts=some bs→ts=bs.map T.int
 | [],bs,h=>by cases h;rfl
 | t::ts,bs,h=>by
  cases t with
  | int b =>
   obtain⟨cs,h1,rfl⟩:=Option.map_eq_some_iff.mp (show(cM ts).map (λbs=>b::bs)=some bs from h)
   rw[nN h1];rfl
  | _=>cases h
theorem aD.bls{K:PySem.W.Frag}{F:Hp}:∀{bs:List Bool}{vs:List V},aD K F (bs.map T.bl) vs→vs=bs.map V.bl
 | [],vs,h=>by rw[List.map_nil,aD] at h;exact h
 | b::bs,vs,h=>by
  rw[List.map_cons,aD] at h
  obtain⟨v,vs',rfl,q,r⟩:=h
  rw[r.bls,q.gT];rfl
theorem aD.Ew{K:PySem.W.Frag}{F:Hp}:∀{bs:List Int}{vs:List V},aD K F (bs.map T.int) vs→vs=bs.map V.int
 | [],vs,h=>by rw[List.map_nil,aD] at h;exact h
 | b::bs,vs,h=>by
  rw[List.map_cons,aD] at h
  obtain⟨v,vs',rfl,q,r⟩:=h
  rw[r.Ew,q.jd];rfl
theorem qA:∀{bs:List Bool}{us:List Value},Vals (bs.map V.bl) us→us=bs.map Value.bool
 | [],us,h=>by cases h;rfl
 | b::bs,us,h=>by
  rw[List.map_cons] at h
  cases h with
  | cons r h=>rw[qA h,show _=Value.bool b from r];rfl
section
variable{X:Cx}{a b c:Expr}{da db dc:D}{pos p p2:Pos}{k:Nat}
theorem sI{prog:Program}{w:World}{A:Around}{E:Value→Shared→Prop}{s:Shared}{l:Addr}{its:Array Value}{Q:Value→Shared→Prop}(hl:s.heap.IsList l its)
  (h:∀s₂:Shared,s₂={ s with heap:=s.heap.push { cls:=.type "list_iterator",data:=.fields #[.ref l,.int 0 0] } }→(s₂.heap.IsListIter s.heap.objs.size l 0∧s₂.heap.IsList l its)→l≠s.heap.objs.size→Q (.ref s.heap.objs.size) s₂) :
  wpAny (model prog w) A (pyIter (.ref l)) Q E s:=by
 have hlt:l<s.heap.objs.size:=by obtain⟨_,e,_⟩:=hl;exact Heap.lt_size e
 exact wpAny_pyIter_list hl (h _ rfl ⟨⟨_,Heap.get?_push_size _ rfl,rfl,rfl⟩,hl.push _⟩ (Nat.ne_of_lt hlt))
theorem range_all(bs:List Bool):(List.range bs.length).all (λi=>bs.getD i true)=bs.all id:=by
 rw[Bool.eq_iff_iff,List.all_eq_true,List.all_eq_true]
 constructor
 ·intro h x hx
  obtain⟨i,hi⟩:=List.mem_iff_getElem?.mp hx
  have hl:i<bs.length:=(List.getElem?_eq_some_iff.mp hi).1
  have:=h i (List.mem_range.mpr hl)
  rw[List.getD_eq_getElem?_getD,hi] at this
  exact this
 ·intro h i hi
  have hl:i<bs.length:=List.mem_range.mp hi
  rw[List.getD_eq_getElem?_getD,List.getElem?_eq_getElem hl]
  exact h _ (List.getElem_mem hl)
theorem range_any(bs:List Bool):(List.range bs.length).any (λi=>bs.getD i true)=bs.any id:=by
 rw[Bool.eq_iff_iff,List.any_eq_true,List.any_eq_true]
 constructor
 ·rintro⟨i,hi,h⟩
  have hl:i<bs.length:=List.mem_range.mp hi
  rw[List.getD_eq_getElem?_getD,List.getElem?_eq_getElem hl] at h
  exact⟨_,List.getElem_mem hl,h⟩
 ·rintro⟨x,hx,h⟩
  obtain⟨i,hi⟩:=List.mem_iff_getElem?.mp hx
  have hl:i<bs.length:=(List.getElem?_eq_some_iff.mp hi).1
  refine⟨i,List.mem_range.mpr hl,?_⟩
  rw[List.getD_eq_getElem?_getD,hi]
  exact h
theorem sJ{prog:Program}{w:World}{A:Around}(bs:List Bool):TruthOf prog w A (λi v=>((bs.map Value.bool).toArray)[i]?=some v) (λi=>bs.getD i true):=by
 intro i v s Q E hP hQ
 have hP:(bs.map Value.bool)[i]?=some v:=by simpa using hP
 rw[List.getElem?_map] at hP
 cases q:bs[i]? with
 | none=>rw[q] at hP;cases hP
 | some y =>
  rw[q] at hP
  cases hP
  have hQ:Q (bs.getD i true) s:=hQ
  rw[List.getD_eq_getElem?_getD,q] at hQ
  exact wpAny_truthy_bool hQ
theorem B1(hr:b_ k X.A):cT X (.builtin "all") (λxs H Q=>∃(p:Addr) (bs:List Bool),xs=[.ref p]∧SqL X.K H p (bs.map V.bl)∧Q (.bl (bs.all id)) H):=by
 intro pins s σ H xs us Q I r h
 obtain⟨p,bs,rfl,hq,q⟩:=h
 obtain⟨u,rfl,ru⟩:=vals1 r
 cases ru
 obtain⟨its,rv,pl,hz⟩:=I.list hq
 cases qA rv
 refine call_all_walk (sI pl.isList λs₂ e st hne=>?_)
 subst e
 refine⟨_,_,_,_,_,_,_,rfl,Walks.list (A:=X.A.in1) hr.hd _ p hne _,st,sJ bs,λh' tk hk=>?_⟩
 rw[List.size_toArray,List.length_map,range_all]
 exact⟨.bl _,H,I.kept (t':=tk) (old_kept hk),rfl,q⟩
theorem B3(hr:b_ k X.A):cT X (.builtin "any") (λxs H Q=>∃(p:Addr) (bs:List Bool),xs=[.ref p]∧SqL X.K H p (bs.map V.bl)∧Q (.bl (bs.any id)) H):=by
 intro pins s σ H xs us Q I r h
 obtain⟨p,bs,rfl,hq,q⟩:=h
 obtain⟨u,rfl,ru⟩:=vals1 r
 cases ru
 obtain⟨its,rv,pl,hz⟩:=I.list hq
 cases qA rv
 refine call_any_walk (sI pl.isList λs₂ e st hne=>?_)
 subst e
 refine⟨_,_,_,_,_,_,_,rfl,Walks.list (A:=X.A.in1) hr.hd _ p hne _,st,sJ bs,λh' tk hk=>?_⟩
 rw[List.size_toArray,List.length_map,range_any]
 exact⟨.bl _,H,I.kept (t':=tk) (old_kept hk),rfl,q⟩
theorem B4(hr:b_ k X.A):cT X (.builtin "sum") (λxs H Q=>∃(p:Addr) (ns:List Int),xs=[.ref p]∧SqL X.K H p (ns.map V.int)∧Q (.int ns.sum) H):=by
 intro pins s σ H xs us Q I r h
 obtain⟨p,ns,rfl,hq,q⟩:=h
 obtain⟨u,rfl,ru⟩:=vals1 r
 cases ru
 obtain⟨its,rv,pl,hz⟩:=I.list hq
 have hi:IntsAre its ns:=intsAre_of rv
 have KR:AllInts its.toArray:=hi.allInts
 obtain⟨xs,hxs⟩:=KR.items
 rw[hxs] at pl
 refine sum_intListG hr.hd pl.isList λh' tk t' hk=>⟨.int ns.sum,H,I.kept (t':=tk) hk,⟨t',?_⟩,q⟩
 rw[preSum_eq,List.take_of_length_le (by simp)]
 have e1:=hi.numsOf
 have e2:its=(intItems xs).toList:=by rw[← hxs]
 rw[e2,nums_intItems] at e1
 rw[e1]
theorem Lu(hr:b_ k X.A)(hm:X.mg "all"=none)(ha:CE X a da)(hg:Gl X "all":=by rfl)(hs1:starEach [a] X.env=(false,eval a X.env)::starEach [] X.env:=by rfl)(hpl:(backTo pos (starEach [] X.env)).any (·.1)=false:=by rfl) :
  CE X (.Call (.Name "all" p) [a] [] pos) (dUn BM da):=mL (B1 hr) (by
 intro F H v t w Q s hv hw q
 cases t with
 | lst ts =>
  obtain⟨bs,h1,rfl⟩:=Option.map_eq_some_iff.mp (show(mG ts).map _=some w from hw)
  obtain⟨a,vs,rfl,hq,hl⟩:=hv.lh
  rw[qy h1] at hl
  rw[hl.bls] at hq
  exact⟨a,bs,rfl,hq,q _ H F bw.refl (Rep.bl' _)⟩
 | _=>cases hw) hm (by decide +kernel) ha hg (by decide) (by decide) hs1 hpl
theorem Ey(hr:b_ k X.A)(hm:X.mg "any"=none)(ha:CE X a da)(hg:Gl X "any":=by rfl)(hs1:starEach [a] X.env=(false,eval a X.env)::starEach [] X.env:=by rfl)(hpl:(backTo pos (starEach [] X.env)).any (·.1)=false:=by rfl) :
  CE X (.Call (.Name "any" p) [a] [] pos) (dUn rF da):=mL (B3 hr) (by
 intro F H v t w Q s hv hw q
 cases t with
 | lst ts =>
  obtain⟨bs,h1,rfl⟩:=Option.map_eq_some_iff.mp (show(mG ts).map _=some w from hw)
  obtain⟨a,vs,rfl,hq,hl⟩:=hv.lh
  rw[qy h1] at hl
  rw[hl.bls] at hq
  exact⟨a,bs,rfl,hq,q _ H F bw.refl (Rep.bl' _)⟩
 | _=>cases hw) hm (by decide +kernel) ha hg (by decide) (by decide) hs1 hpl
theorem Ez(hr:b_ k X.A)(hm:X.mg "sum"=none)(ha:CE X a da)(hg:Gl X "sum":=by rfl)(hs1:starEach [a] X.env=(false,eval a X.env)::starEach [] X.env:=by rfl)(hpl:(backTo pos (starEach [] X.env)).any (·.1)=false:=by rfl) :
  CE X (.Call (.Name "sum" p) [a] [] pos) (dUn vP da):=mL (B4 hr) (by
 intro F H v t w Q s hv hw q
 cases t with
 | lst ts =>
  obtain⟨bs,h1,rfl⟩:=Option.map_eq_some_iff.mp (show(cM ts).map _=some w from hw)
  obtain⟨a,vs,rfl,hq,hl⟩:=hv.lh
  rw[nN h1] at hl
  rw[hl.Ew] at hq
  exact⟨a,bs,rfl,hq,q _ H F bw.refl (Rep.gD _)⟩
 | _=>cases hw) hm (by decide +kernel) ha hg (by decide) (by decide) hs1 hpl
theorem dq(hm:X.mg "tuple"=none)(ha:CE X a da)(hg:Gl X "tuple":=by rfl)(hs1:starEach [a] X.env=(false,eval a X.env)::starEach [] X.env:=by rfl)(hpl:(backTo pos (starEach [] X.env)).any (·.1)=false:=by rfl) :
  CE X (.Call (.Name "tuple" p) [a] [] pos) (dUn bh da):=D9 rE (by
 intro F H v t w Q s hv hw q
 cases t with
 | lst ts =>
  cases hw
  obtain⟨a,vs,rfl,hq,hl⟩:=hv.lh
  exact⟨a,vs,rfl,.inl ⟨hq,λl hp=>ux s hp hl q⟩⟩
 | tup ts =>
  cases hw
  obtain⟨a,vs,rfl,hq,hl⟩:=hv.qx
  exact⟨a,vs,rfl,.inr ⟨aN.iP s hq,q _ H F bw.refl (uy hq hl)⟩⟩
 | _=>cases hw) hm (by decide +kernel) ha hg (by decide) (by decide) hs1 hpl
theorem uC(hm:X.mg "list"=none)(ha:CE X a da)(hg:Gl X "list":=by rfl)(hs1:starEach [a] X.env=(false,eval a X.env)::starEach [] X.env:=by rfl)(hpl:(backTo pos (starEach [] X.env)).any (·.1)=false:=by rfl) :
  CF X (.Call (.Name "list" p) [a] [] pos) (dUn iN da):=D_ t9 (by
 intro F H v t w Q s hv hw q
 cases t with
 | lst ts =>
  cases hw
  obtain⟨a,vs,rfl,hq,hl⟩:=hv.lh
  exact⟨a,vs,rfl,.inl hq,λl hp=>q l _ hp ⟨vs,aB,hl⟩⟩
 | tup ts =>
  cases hw
  obtain⟨a,vs,rfl,hq,hl⟩:=hv.qx
  exact⟨a,vs,rfl,.inr (aN.iP s hq),λl hp=>q l _ hp ⟨vs,aB,hl⟩⟩
 | _=>cases hw) hm (by decide +kernel) ha hg (by decide) (by decide) hs1 hpl
theorem Lv:CF X (.Dict [] [] pos) (dC (.dct [])):=by
 refine⟨PE.imp Dx λσ H Q ⟨F,α,e,μ,S,h⟩=>?_,λe μ x μ' h=>?_⟩
 ·obtain⟨t,et,post⟩:=h
  cases et
  intro d hd
  exact post d _ F α (Ex.lay hd) (S.of (aN.refl _) (List.prefix_refl _) (S.st.lay hd)) hd (S.st.ext.free hd) (b6 S.st hd) ⟨[],aB,by rw[bj]⟩
 ·cases h;exact⟨_,rfl⟩
theorem yf{es:List Expr}{ds:List D}(h:CA X es ds)(hb:CE X b db)(hl:ds.length≤1000:=by decide):CF X (.BinOp (.List es p) .Mult b pos) (lS j5 ds db):=by
 refine⟨PE.imp (Jm KL (Df h) hb) λσ H Q ⟨F,α,e,μ,S,h⟩=>?_,λe μ x μ' h=>?_⟩
 ·refine⟨F,α,e,μ,S,(dA (R.wp_bind h)).mono (λxs μ1 ⟨hn,h⟩ vs H1 F1 α1 x1 S1 o1=>?_) λ_ _ h=>h⟩
  have h:=R.wp_bind h
  cases hz:c8 xs μ1 with
  | err c μ2=>exact absurd hz (pz xs μ1 c μ2)
  | bad=>rw[hz] at h;exact h.elim
  | ok ts μ2 =>
   rw[hz] at h
   obtain⟨F2,s2,n2,S2,r2⟩:=pC S1.st o1 hz
   refine⟨kQ hn o1 hl,λl hp=>?_⟩
   have x2:Ex F α H F2 α1 (upd H1 l (.lst vs)):=x1.trans ((Ex.oB s2 n2).trans (Ex.lay hp))
   refine⟨F2,α1,e,μ2,S1.of s2 (List.prefix_refl _) (S2.lay hp),(R.wp_bind h).mono (λy μ3 h v3 H3 F3 α3 x3 S3 o3=>?_) λ_ _ h=>h.mono x2⟩
   obtain⟨w,h9,t',e1,post⟩:=R.bB h
   obtain⟨t,w',ht,h,e2⟩:=lR h9
   subst e1
   cases e2
   cases t with
   | int i =>
    cases (aU S3.st o3 ht).int
    have h:(if -(2 ^ 63)≤i∧i<2 ^ 63∧ts.length*i.toNat≤szL then some (T.lst (List.replicate i.toNat ts).flatten) else none)=some t':=h
    by_cases hc:-(2 ^ 63)≤i∧i<2 ^ 63∧ts.length*i.toNat≤szL
    ·rw[if_pos hc] at h
     cases h
     obtain⟨g1,g2,g3⟩:=x3.fr l _ aB (S2.ext.free hp) (b6 S2 hp)
     refine⟨l,i,vs,rfl,rfl,g1,hc.1,hc.2.1,by rw[← r2.length];exact hc.2.2,λp' hp'=>?_⟩
     exact post p' _ F3 α3 ((x2.trans x3).trans (Ex.lay hp')) (S3.of (aN.refl _) (List.prefix_refl _) (S3.st.lay hp')) ((x2.trans x3).was S3.st hp') (S3.st.ext.free hp') (b6 S3.st hp')
      ⟨_,aB,(aD.mono x3.same _ _ r2).flat i.toNat⟩
    ·rw[if_neg hc] at h;cases h
   | _=>cases h
 ·unfold lS at h
  obtain⟨xs,μ1,hx,h⟩:=R.aS h
  obtain⟨ts,μ2,hz,h⟩:=R.aS h
  obtain⟨y,μ3,hy,h⟩:=R.aS h
  obtain⟨h9,rfl⟩:=R.lQ h
  obtain⟨t,w',ht,h,rfl⟩:=lR h9
  exact⟨_,rfl⟩
theorem gu{o e1:Expr}{do_ de:D}{apos cL:Pos}(ho:CE X o do_)(he:CE X e1 de)(jX:attributeBase o "append" X.env (eval o X.env)=eval o X.env:=by rfl)
  (Dm:((backTo cL (starEach [e1] X.env)).all (λx=>!x.1) && (backToKw cL (keywordEach [] X.env)).all (λx=>x.1.isSome) && decide (([e1]:List Expr).length+([]:List Keyword).length+(if ([]:List Keyword).isEmpty then 0 else 1)<30))=true:=by rfl)
  (mB:(apos.endLine==cL.line)=true:=by rfl) (hs1:starEach [e1] X.env=(false,eval e1 X.env)::starEach [] X.env:=by rfl) (hpl:(backTo cL (starEach [] X.env)).any (·.1)=false:=by rfl)
  (hs:swapsWith (.Call (.Attribute o "append" apos) [e1] [] cL) none pos.line X.env=pure false:=by rfl) :
  CS X (.Expr (.Call (.Attribute o "append" apos) [e1] [] cL) pos) (cf do_ de) :=
 PS.imp (zF (Jr PySem.F.plainAttrs_list PySem.F.slot_list_append PySem.F.type_list_append se ho (ag he aq hs1) jX Dm mB hs1 hpl) hs) λD σ H au=>by
  obtain⟨F,α,e,μ,S,h⟩:=au
  refine⟨F,α,e,μ,S,(aR.toS h).mono (λx μ1 h v H1 F1 α1 x1 S1 o1=>?_) λ_ _ h=>h⟩
  obtain⟨_,hl,h⟩:=h.lift
  cases x with
  | cel j =>
   obtain⟨ad,ha,rfl⟩:=o1
   have hc:∃bb ts,μ1[j]?=some (bb,.lst ts):=by
    unfold nA at hl
    simp only at hl
    split at hl
    ·exact⟨_,_,by assumption⟩
    ·cases hl
   obtain⟨bb,ts,hj⟩:=hc
   have n1:=aU S1.st (x:=.cel j) (t:=.lst ts) ⟨ad,ha,rfl⟩ (by rw[ir,hj];rfl)
   obtain⟨a',vs,e1,hq,_⟩:=n1.lh
   cases e1
   refine⟨.inl ⟨rfl,vs,hq⟩,oE ⟨F1,α1,e,μ1,S1,(aR.toS h).mono (λy μ2 h v2 H2 F2 α2 x2 S2 o2=>?_) λ_ _ h=>h.mono x1⟩⟩
   have h:=h.toS
   cases hz:frz y μ2 with
   | err c μ3=>exact absurd hz (nj y μ2 c μ3)
   | bad=>rw[hz] at h;exact h.elim
   | ok t μ3 =>
    rw[hz] at h
    obtain⟨μ4,ha4,h⟩:=aR.lift h
    obtain⟨F3,s3,n3,S3,r3⟩:=lW S2.st o2 hz
    unfold appendAt at ha4
    simp only at ha4
    have hc:∃us,μ3[j]?=some (true,.lst us)∧us.length<szL∧μ4=μ3.set j (true,.lst (us++[t])):=by
     split at ha4
     ·rename_i us hjs
      by_cases hu:us.length<szL
      ·rw[if_pos hu] at ha4
       cases ha4
       exact⟨us,hjs,hu,rfl⟩
      ·rw[if_neg hu] at ha4;cases ha4
     ·cases ha4
    obtain⟨us,hj3,hu,rfl⟩:=hc
    have ha3:α2[j]?=some ad:=gU x2.pre ha
    obtain⟨_,ws,hw,rw'⟩:=(S3.cell j true _ ad hj3 ha3).1 rfl
    have el:=rw'.length
    refine⟨ad,ws,v2,rfl,rfl,hw,by rw[nM] at hu;omega,?_⟩
    have x3:Ex F α H F3 α2 H2:=x1.trans (x2.trans (Ex.oB s3 n3))
    exact h σ _ F3 α2 (x3.trans (Ex.put ha3)) ((S2.of s3 (List.prefix_refl _) S3).of (aN.refl _) (List.prefix_refl _) (qg S3 hj3 ha3 ⟨_,aB,rw'.append (aD.one r3)⟩))
  | val t=>cases hl
  | box xs=>cases hl
end
end Fw
namespace Fw
open PySem L2 PyProof.Rows
section
variable{X:Cx}
end
end Fw
namespace L2
open PySem PySem.Spec PyProof.Rows
def KIt(k:Bool)(h:Heap)(i l:Addr)(n:Nat):Prop:=match k with
 | true=>h.IsListIter i l n
 | false=>h.IsTupleIter i l n
def KSq(k:Bool)(h:Heap)(l:Addr)(xs:Array Value):Prop:=match k with
 | true=>h.IsList l xs
 | false=>h.IsTuple l xs
theorem KIt.at{k:Bool}{h h':Heap}{i l:Addr}{n:Nat}(x:KIt k h i l n)(e:∀o,h.get? i=some o→h'.get? i=some o):KIt k h' i l n:=by
 cases k with
 | true=>exact Heap.IsListIter.at x e
 | false=>exact Heap.IsTupleIter.at x e
theorem KSq.at{k:Bool}{h h':Heap}{l:Addr}{xs:Array Value}(x:KSq k h l xs)(e:∀o,h.get? l=some o→h'.get? l=some o):KSq k h' l xs:=by
 cases k with
 | true=>exact Heap.IsList.at x e
 | false=>exact Heap.IsTuple.at x e
theorem KIt.ob{k:Bool}{h:Heap}{i l:Addr}{n:Nat}(x:KIt k h i l n):∃o,h.get? i=some o∧o.data=.fields #[.ref l,.int n 0]:=by
 cases k with
 | true=>obtain⟨o,a,_,b⟩:=x;exact⟨o,a,b⟩
 | false=>obtain⟨o,a,_,b⟩:=x;exact⟨o,a,b⟩
section
variable{prog:Program}{w:World}{A:Around}{E:Value→Shared→Prop}{s:Shared}
theorem yg{it t:Addr}{i:Nat}{items:Array Value}{x:Value}{Q:Value→Shared→Prop}(hit:s.heap.IsTupleIter it t i)(ht:s.heap.IsTuple t items)(hx:items[i]?=some x)
  (hQ:∀h',h'.IsTupleIter it t (i+1)→Heap.SameBut it s.heap h'→Q x { s with heap:=h' }):wpAny (model prog w) A (Builtin.SmallTypes.nextOf (.ref it)) Q E s:=by
 obtain⟨⟨o,ho,hc,hd⟩,⟨ol,hol,_,nl,hdl⟩⟩:=And.intro (id hit) ht
 unfold Builtin.SmallTypes.nextOf
 refine wpAny_bind (wpAny_callSpecial?_slot (name:=Str.ofString "__next__") hit.typeIs F.slot_tuple_iterator_next (wpAny_call_entry F.slot_tuple_iterator_next hit.typeIs F.entry_tuple_iterator_next ?_ (F.args_tuple_iterator_next_1 _)))
 show wpAny _ _ (field (.ref it) 0>>=_) _ _ s;refine wpAny_bind (wpAny_field ho hd (x:=.ref t) rfl ?_)
 show wpAny _ _ (if (Value.ref t==Value.none)=true then _ else _) _ _ s;rw[if_neg (show ¬ ((Value.ref t==Value.none)=true) from Bool.false_ne_true)]
 show wpAny _ _ (field (.ref it) 1>>=_) _ _ s;refine wpAny_bind (wpAny_field ho hd (x:=.int i 0) rfl ?_)
 show wpAny _ _ (seqItems? (.ref t)>>=_) _ _ s;refine wpAny_bind (wpAny_seqItems hol hdl ?_)
 simp only[Int.toNat_natCast,hx];refine wpAny_bind (wpAny_setField ho hd (by simp) (wpAny_pure ⟨x,rfl,wpAny_pure (hQ _ ?_ (Heap.SameBut.update ..))⟩))
 exact⟨_,Heap.get?_update_self _ ho (Obj.isFreed_of_fields (Obj.data_mapFields hd _)),(Obj.cls_mapFields ..).trans hc,by rw[Obj.data_mapFields hd];simp[rawInt]⟩
theorem B5{it t:Addr}{i:Nat}{items:Array Value}{Q:Value→Shared→Prop}(hh:A.handled=none)(hit:s.heap.IsTupleIter it t i)(ht:s.heap.IsTuple t items)(hx:items[i]?=none)
  (hE:∀h' e,Heap.ExtBut it s.heap h'→(∃o,h'.get? e=some o∧o.cls=.type "StopIteration")→E (.ref e) { s with heap:=h' }):wpAny (model prog w) A (Builtin.SmallTypes.nextOf (.ref it)) Q E s:=by
 obtain⟨⟨o,ho,hc,hd⟩,⟨ol,hol,_,nl,hdl⟩⟩:=And.intro (id hit) ht
 unfold Builtin.SmallTypes.nextOf
 refine wpAny_bind (wpAny_callSpecial?_slot (name:=Str.ofString "__next__") hit.typeIs F.slot_tuple_iterator_next (wpAny_call_entry F.slot_tuple_iterator_next hit.typeIs F.entry_tuple_iterator_next ?_ (F.args_tuple_iterator_next_1 _)))
 show wpAny _ _ (field (.ref it) 0>>=_) _ _ s;refine wpAny_bind (wpAny_field ho hd (x:=.ref t) rfl ?_)
 show wpAny _ _ (if (Value.ref t==Value.none)=true then _ else _) _ _ s;rw[if_neg (show ¬ ((Value.ref t==Value.none)=true) from Bool.false_ne_true)]
 show wpAny _ _ (field (.ref it) 1>>=_) _ _ s;refine wpAny_bind (wpAny_field ho hd (x:=.int i 0) rfl ?_)
 show wpAny _ _ (seqItems? (.ref t)>>=_) _ _ s;refine wpAny_bind (wpAny_seqItems hol hdl ?_)
 simp only[Int.toNat_natCast,hx];refine wpAny_bind (wpAny_rule (wpAny_bind (wpAny_setField ho hd (by simp) ?_)))
 show wpAny _ _ (newExc (.type "StopIteration") []>>=_) _ _ _;refine wpAny_bind ?_
 simp only[newExc,newTuple];refine wpAny_bind (wpAny_newObj_type ?_ (by size_fits))
 refine wpAny_bind (m:=firstArgMember _ _) (wpAny_of_eq (a:=Value.none) (by first|rfl|(simp only[firstArgMember];rfl)) ?_);refine wpAny_newObj_type ?_ (by size_fits)
 simp only[raiseNew];refine wpAny_bind (wpAny_handled ?_);first|rw[show A.in1.handled=none from hh]|rw[hh]
 refine wpAny_bind (wpAny_pure (wpAny_throw ?_));exact hE _ _ (((Heap.SameBut.update ..).extBut.push _).push _) ⟨_,Heap.get?_push_size _ rfl,rfl⟩
theorem gJ{k:Bool}{it t:Addr}{i:Nat}{items:Array Value}{x:Value}{Q:Value→Shared→Prop}(hit:KIt k s.heap it t i)(ht:KSq k s.heap t items)(hx:items[i]?=some x)
  (hQ:∀h',KIt k h' it t (i+1)→Heap.SameBut it s.heap h'→Q x { s with heap:=h' }):wpAny (model prog w) A (Builtin.SmallTypes.nextOf (.ref it)) Q E s:=by
 cases k with
 | true=>exact wpAny_nextOf_list_item hit ht hx hQ
 | false=>exact yg hit ht hx hQ
theorem kU{k:Bool}{it t:Addr}{i:Nat}{items:Array Value}{Q:Value→Shared→Prop}(hh:A.handled=none)(hit:KIt k s.heap it t i)(ht:KSq k s.heap t items)(hx:items[i]?=none)
  (hE:∀h' e,Heap.ExtBut it s.heap h'→(∃o,h'.get? e=some o∧o.cls=.type "StopIteration")→E (.ref e) { s with heap:=h' }):wpAny (model prog w) A (Builtin.SmallTypes.nextOf (.ref it)) Q E s:=by
 cases k with
 | true=>exact wpAny_nextOf_list_end hh hit ht hx hE
 | false=>exact B5 hh hit ht hx hE
theorem B6{k1 k2:Bool}{z TI TO i1 i2 l1 l2:Addr}{n1 n2:Nat}{xs ys:Array Value}{x y a b:Value}{Q:Value→Shared→Prop}(D:ZipApart z TI TO i1 i2 l1 l2)
  (hz:IsZip s.heap z TI TO .none) (hTI:IsPair s.heap TI (.ref i1) (.ref i2)) (hTO:IsPair s.heap TO a b) (h1:KIt k1 s.heap i1 l1 n1) (h2:KIt k2 s.heap i2 l2 n2) (hl1:KSq k1 s.heap l1 xs) (hl2:KSq k2 s.heap l2 ys) (hx:xs[n1]?=some x) (hy:ys[n2]?=some y)
  (hQ:∀h',IsZip h' z TI TO (rawInt s.heap.objs.size)→IsPair h' TO x y→KIt k1 h' i1 l1 (n1+1)→KIt k2 h' i2 l2 (n2+1)→IsPair h' s.heap.objs.size x y→h'.objs.size=s.heap.objs.size+1 →
   (∀c o,c≠z→c≠TO→c≠i1→c≠i2→s.heap.get? c=some o→h'.get? c=some o)→Q (.ref s.heap.objs.size) { s with heap:=h' }) :
  wpAny (model prog w) A (Builtin.«zip.__next__» ⟨[.ref z],[]⟩) (λfin s'=>∃v,fin=.done (.ret v)∧Q v s') E s:=by
 show wpAny _ _ (field (.ref z) 2>>=_) _ _ _;refine wpAny_bind (wpAny_field hz rfl (x:=.bool false) rfl ?_)
 show wpAny _ _ (field (.ref z) 3>>=_) _ _ _;refine wpAny_bind (wpAny_field hz rfl (x:=.ref TI) rfl ?_)
 refine wpAny_bind (wpAny_seqItems hTI rfl ?_);show wpAny _ _ (Builtin.SmallTypes.ownedTupleIsFree (.ref z)>>=_) _ _ _;refine wpAny_bind ?_
 unfold Builtin.SmallTypes.ownedTupleIsFree;refine wpAny_bind (wpAny_field hz rfl (x:=.none) rfl (wpAny_pure ?_))
 simp only[if_true];refine wpAny_bind (wpAny_rule ?_);refine wpAny_bind (wpAny_field hz rfl (x:=.ref TO) rfl ?_)
 refine wpAny_bind (wpAny_setField_rec hz (by simp) λg₁ hz₁ hs₁=>?_);replace hz₁:IsZip g₁ z TI TO .ellipsis:=hz₁
 refine wpAny_bind ?_;simp only[List.zipIdx_cons,List.zipIdx_nil,List.forIn_cons,List.forIn_nil];refine wpAny_bind (wpAny_bind (wpAny_onRaise ?_))
 show wpAny _ _ (Builtin.SmallTypes.nextOf (.ref i1)>>=_) _ _ _
 refine wpAny_bind (gJ (h1.at λo e=>hs₁.extBut _ _ D.i1z e) (hl1.at λo e=>hs₁.extBut _ _ D.l1z e) hx λg₂ h1₂ hs₂=>wpAny_pure ?_)
 have hTO₂:IsPair g₂ TO a b:=hs₂.extBut _ _ D.TOi1 (hs₁.extBut _ _ D.TOz hTO)
 refine wpAny_bind (wpAny_seqItems hTO₂ rfl ?_);refine wpAny_bind (wpAny_updateSeq_pair hTO₂ λg₃ hTO₃ hs₃=>?_)
 replace hTO₃:IsPair g₃ TO x b:=hTO₃;refine wpAny_bind (wpAny_letGo (wpAny_pure ?_));refine wpAny_bind (wpAny_bind (wpAny_onRaise ?_))
 show wpAny _ _ (Builtin.SmallTypes.nextOf (.ref i2)>>=_) _ _ _
 refine wpAny_bind (gJ (h2.at λo e=>hs₃.extBut _ _ D.TOi2.symm (hs₂.extBut _ _ D.i12.symm (hs₁.extBut _ _ D.i2z e))) (hl2.at λo e=>hs₃.extBut _ _ D.l2TO (hs₂.extBut _ _ D.l2i1 (hs₁.extBut _ _ D.l2z e))) hy λg₄ h2₄ hs₄=>wpAny_pure ?_)
 have hTO₄:IsPair g₄ TO x b:=hs₄.extBut _ _ D.TOi2 hTO₃
 refine wpAny_bind (wpAny_seqItems hTO₄ rfl ?_);refine wpAny_bind (wpAny_updateSeq_pair hTO₄ λg₅ hTO₅ hs₅=>?_)
 replace hTO₅:IsPair g₅ TO x y:=hTO₅;refine wpAny_bind (wpAny_letGo (wpAny_pure (wpAny_pure ?_)))
 refine wpAny_bind (wpAny_seqItems hTO₅ rfl ?_);refine wpAny_bind (wpAny_newTuple ?_)
 have hsz:g₅.objs.size=s.heap.objs.size:=by rw[hs₅.1,hs₄.1,hs₃.1,hs₂.1,hs₁.1]
 have hz₅:IsZip g₅ z TI TO .ellipsis:=hs₅.extBut _ _ D.TOz.symm (hs₄.extBut _ _ D.i2z.symm (hs₃.extBut _ _ D.TOz.symm (hs₂.extBut _ _ D.i1z.symm hz₁)))
 have hk₅:∀c o,c≠z→c≠TO→c≠i1→c≠i2→s.heap.get? c=some o→g₅.get? c=some o:=λc o c1 c2 c3 c4 e=>hs₅.extBut _ _ c2 (hs₄.extBut _ _ c4 (hs₃.extBut _ _ c2 (hs₂.extBut _ _ c3 (hs₁.extBut _ _ c1 e))))
 have h1₅:KIt k1 g₅ i1 l1 (n1+1):=h1₂.at λo e=>hs₅.extBut _ _ D.TOi1.symm (hs₄.extBut _ _ D.i12 (hs₃.extBut _ _ D.TOi1.symm e))
 have h2₅:KIt k2 g₅ i2 l2 (n2+1):=h2₄.at λo e=>hs₅.extBut _ _ D.TOi2.symm e
 have NK:z<g₅.objs.size:=Heap.lt_size hz₅
 show wpAny _ _ (Builtin.SmallTypes.ownedTupleHandOut (.ref z) (.ref g₅.objs.size)>>=_) _ _ _;refine wpAny_bind ?_
 unfold Builtin.SmallTypes.ownedTupleHandOut
 have hz₆:IsZip (g₅.push { cls:=.type "tuple",data:=.seq #[x,y] }) z TI TO .ellipsis:=Heap.get?_push_of_some _ hz₅
 refine wpAny_bind (wpAny_setField_rec hz₆ (by simp) λg₇ hz₇ hs₇=>?_);replace hz₇:IsZip g₇ z TI TO (rawInt g₅.objs.size):=hz₇
 refine wpAny_setField_rec hz₇ (by simp) λg₈ hz₈ hs₈=>?_
 replace hz₈:IsZip g₈ z TI TO (rawInt g₅.objs.size):=hz₈
 have up:∀c o,c≠z→g₅.get? c=some o→g₈.get? c=some o:=λc o c1 e=>hs₈.extBut _ _ c1 (hs₇.extBut _ _ c1 (Heap.get?_push_of_some _ e))
 have hT₈:IsPair g₈ g₅.objs.size x y:=hs₈.extBut _ _ (Nat.ne_of_gt NK) (hs₇.extBut _ _ (Nat.ne_of_gt NK) (Heap.get?_push_size _ rfl))
 have hz8:g₈.objs.size=g₅.objs.size+1:=by rw[hs₈.1,hs₇.1,Heap.size_push]
 rw[hsz] at hz₈ hT₈ hz8
 refine wpAny_pure ⟨_,rfl,?_⟩
 show Q (.ref g₅.objs.size) _
 rw[hsz]
 exact hQ g₈ hz₈ (up _ _ D.TOz hTO₅) (h1₅.at λo e=>up _ o D.i1z e) (h2₅.at λo e=>up _ o D.i2z e) hT₈ hz8 λc o c1 c2 c3 c4 e=>up c o c1 (hk₅ c o c1 c2 c3 c4 e)
theorem EA{k1 k2:Bool}{z TI TO i1 i2 l1 l2:Addr}{n1 n2:Nat}{xs ys:Array Value}{a b:Value}{Q:Fin→Shared→Prop}(hh:A.handled=none)(D:ZipApart z TI TO i1 i2 l1 l2)
  (hz:IsZip s.heap z TI TO .none) (hTI:IsPair s.heap TI (.ref i1) (.ref i2)) (hTO:IsPair s.heap TO a b) (h1:KIt k1 s.heap i1 l1 n1) (h2:KIt k2 s.heap i2 l2 n2) (hl1:KSq k1 s.heap l1 xs) (hl2:KSq k2 s.heap l2 ys) (qh:xs[n1]?=none∨ys[n2]?=none)
  (hE:∀h' e,(∀c o,c≠z→c≠TO→c≠i1→c≠i2→s.heap.get? c=some o→h'.get? c=some o)→(∃o,h'.get? e=some o∧o.cls=.type "StopIteration")→E (.ref e) { s with heap:=h' }) :
  wpAny (model prog w) A (Builtin.«zip.__next__» ⟨[.ref z],[]⟩) Q E s:=by
 show wpAny _ _ (field (.ref z) 2>>=_) _ _ _;refine wpAny_bind (wpAny_field hz rfl (x:=.bool false) rfl ?_)
 show wpAny _ _ (field (.ref z) 3>>=_) _ _ _;refine wpAny_bind (wpAny_field hz rfl (x:=.ref TI) rfl ?_)
 refine wpAny_bind (wpAny_seqItems hTI rfl ?_);show wpAny _ _ (Builtin.SmallTypes.ownedTupleIsFree (.ref z)>>=_) _ _ _;refine wpAny_bind ?_
 unfold Builtin.SmallTypes.ownedTupleIsFree;refine wpAny_bind (wpAny_field hz rfl (x:=.none) rfl (wpAny_pure ?_))
 simp only[if_true];refine wpAny_bind (wpAny_rule ?_);refine wpAny_bind (wpAny_field hz rfl (x:=.ref TO) rfl ?_)
 refine wpAny_bind (wpAny_setField_rec hz (by simp) λg₁ hz₁ hs₁=>?_);replace hz₁:IsZip g₁ z TI TO .ellipsis:=hz₁
 refine wpAny_bind ?_;simp only[List.zipIdx_cons,List.zipIdx_nil,List.forIn_cons,List.forIn_nil];refine wpAny_bind (wpAny_bind (wpAny_onRaise ?_))
 show wpAny _ _ (Builtin.SmallTypes.nextOf (.ref i1)>>=_) _ _ _
 have h1':=h1.at λo e=>hs₁.extBut _ _ D.i1z e
 have NL:=hl1.at λo e=>hs₁.extBut _ _ D.l1z e
 cases hx:xs[n1]? with
 | none =>
  refine wpAny_bind (kU hh h1' NL hx λg₂ e hs₂ he=>?_)
  obtain⟨oe,hoe,hce⟩:=he
  have hz₂:IsZip g₂ z TI TO .ellipsis:=hs₂ _ _ D.i1z.symm hz₁
  have hez:e≠z:=λq=>by subst q;rw[hz₂] at hoe;cases hoe;simp at hce
  exact wpAny_setField_rec hz₂ (by simp) λg₃ _ hs₃=>hE g₃ e (λc o c1 _ c3 _ q=>hs₃.extBut _ _ c1 (hs₂ _ _ c3 (hs₁.extBut _ _ c1 q))) ⟨oe,hs₃.extBut _ _ hez hoe,hce⟩
 | some x =>
  have hy:ys[n2]?=none:=by
   rcases qh with h|h
   ·rw[hx] at h;cases h
   ·exact h
  refine wpAny_bind (gJ h1' NL hx λg₂ h1₂ hs₂=>wpAny_pure ?_)
  have hTO₂:IsPair g₂ TO a b:=hs₂.extBut _ _ D.TOi1 (hs₁.extBut _ _ D.TOz hTO)
  refine wpAny_bind (wpAny_seqItems hTO₂ rfl ?_);refine wpAny_bind (wpAny_updateSeq_pair hTO₂ λg₃ hTO₃ hs₃=>?_)
  refine wpAny_bind (wpAny_letGo (wpAny_pure ?_));refine wpAny_bind (wpAny_bind (wpAny_onRaise ?_))
  show wpAny _ _ (Builtin.SmallTypes.nextOf (.ref i2)>>=_) _ _ _
  refine wpAny_bind (kU hh (h2.at λo e=>hs₃.extBut _ _ D.TOi2.symm (hs₂.extBut _ _ D.i12.symm (hs₁.extBut _ _ D.i2z e))) (hl2.at λo e=>hs₃.extBut _ _ D.l2TO (hs₂.extBut _ _ D.l2i1 (hs₁.extBut _ _ D.l2z e))) hy λg₄ e hs₄ he=>?_)
  obtain⟨oe,hoe,hce⟩:=he
  have hz₄:IsZip g₄ z TI TO .ellipsis:=hs₄ _ _ D.i2z.symm (hs₃.extBut _ _ D.TOz.symm (hs₂.extBut _ _ D.i1z.symm hz₁))
  have hez:e≠z:=λq=>by subst q;rw[hz₄] at hoe;cases hoe;simp at hce
  exact wpAny_setField_rec hz₄ (by simp) λg₅ _ hs₅=>hE g₅ e (λc o c1 c2 c3 c4 q=>hs₅.extBut _ _ c1 (hs₄ _ _ c4 (hs₃.extBut _ _ c2 (hs₂.extBut _ _ c3 (hs₁.extBut _ _ c1 q))))) ⟨oe,hs₅.extBut _ _ hez hoe,hce⟩
theorem uD{k1 k2:Bool}{z TI TO i1 i2 l1 l2:Addr}{n1 n2:Nat}{xs ys:Array Value}{x y a b:Value}{Q:Option Value→Shared→Prop}(D:ZipApart z TI TO i1 i2 l1 l2)
  (hz:IsZip s.heap z TI TO .none) (hTI:IsPair s.heap TI (.ref i1) (.ref i2)) (hTO:IsPair s.heap TO a b) (h1:KIt k1 s.heap i1 l1 n1) (h2:KIt k2 s.heap i2 l2 n2) (hl1:KSq k1 s.heap l1 xs) (hl2:KSq k2 s.heap l2 ys) (hx:xs[n1]?=some x) (hy:ys[n2]?=some y)
  (hQ:∀h',IsZip h' z TI TO (rawInt s.heap.objs.size)→IsPair h' TO x y→KIt k1 h' i1 l1 (n1+1)→KIt k2 h' i2 l2 (n2+1)→IsPair h' s.heap.objs.size x y→h'.objs.size=s.heap.objs.size+1 →
   (∀c o,c≠z→c≠TO→c≠i1→c≠i2→s.heap.get? c=some o→h'.get? c=some o)→Q (some (.ref s.heap.objs.size)) { s with heap:=h' }):wpAny (model prog w) A (pyNext (.ref z)) Q E s:=by
 have hT:s.TypeIs (.ref z) "zip":=⟨_,hz,rfl⟩
 unfold pyNext
 exact wpAny_bind (wpAny_attempt (wpAny_callSpecial?_slot (name:=Str.ofString "__next__") hT F.slot_zip_next (wpAny_call_entry F.slot_zip_next hT F.entry_zip_next
  (B6 D hz hTI hTO h1 h2 hl1 hl2 hx hy λh' a1 a2 a3 a4 a5 a6 a7=>wpAny_pure (hQ h' a1 a2 a3 a4 a5 a6 a7)) (F.args_zip_next_1 _))))
theorem we{k1 k2:Bool}{z TI TO i1 i2 l1 l2:Addr}{n1 n2:Nat}{xs ys:Array Value}{a b:Value}{Q:Option Value→Shared→Prop}(hh:A.handled=none)(D:ZipApart z TI TO i1 i2 l1 l2)
  (hz:IsZip s.heap z TI TO .none) (hTI:IsPair s.heap TI (.ref i1) (.ref i2)) (hTO:IsPair s.heap TO a b) (h1:KIt k1 s.heap i1 l1 n1) (h2:KIt k2 s.heap i2 l2 n2) (hl1:KSq k1 s.heap l1 xs) (hl2:KSq k2 s.heap l2 ys) (qh:xs[n1]?=none∨ys[n2]?=none)
  (hQ:∀h',(∀c o,c≠z→c≠TO→c≠i1→c≠i2→s.heap.get? c=some o→h'.get? c=some o)→Q none { s with heap:=h' }):wpAny (model prog w) A (pyNext (.ref z)) Q E s:=by
 have hT:s.TypeIs (.ref z) "zip":=⟨_,hz,rfl⟩
 unfold pyNext
 refine wpAny_bind (wpAny_attempt (wpAny_callSpecial?_slot (name:=Str.ofString "__next__") hT F.slot_zip_next (wpAny_call_entry F.slot_zip_next hT F.entry_zip_next (EA hh D hz hTI hTO h1 h2 hl1 hl2 qh λh' e hk he=>?_) (F.args_zip_next_1 _))))
 obtain⟨o,ho,hc⟩:=he
 refine wpAny_bind (wpAny_isInstance (T:="StopIteration") (b:=true) ⟨o,ho,hc⟩ isSubtype_stop ?_);exact wpAny_pure (hQ _ hk)
end
def dP(k:Bool)(l:Addr):Obj:={ cls:=.type (if k then "list_iterator" else "tuple_iterator"),data:=.fields #[.ref l,.int 0 0] }
abbrev zH2(k1 k2:Bool)(h:Heap)(l1 l2:Addr):Heap:=(h.push (dP k1 l1)).push (dP k2 l2)
abbrev zH4(k1 k2:Bool)(h:Heap)(l1 l2:Addr):Heap:=((zH2 k1 k2 h l1 l2).push { cls:=.type "tuple",data:=.seq #[.ref h.objs.size,.ref (h.push (dP k1 l1)).objs.size] }).push { cls:=.type "tuple",data:=.seq #[.none,.none] }
abbrev zH5(k1 k2:Bool)(h:Heap)(l1 l2:Addr):Heap:=(zH4 k1 k2 h l1 l2).push { cls:=.type "zip",data:=.fields #[.none,.bool false,.bool false,.ref (zH2 k1 k2 h l1 l2).objs.size,.ref ((zH2 k1 k2 h l1 l2).push { cls:=.type "tuple",data:=.seq #[.ref h.objs.size,.ref (h.push (dP k1 l1)).objs.size] }).objs.size] }
set_option maxHeartbeats 4000000 in
theorem HV(k1 k2:Bool)(l1 l2:Addr)(xs ys:Array Value) :
  Meets (Builtin.«zip.__new__» ⟨[.type "zip",.ref l1,.ref l2],[]⟩) (λ_ R s=>KSq k1 s.heap l1 xs∧KSq k2 s.heap l2 ys∧R (.ok (.ret (.ref (zH4 k1 k2 s.heap l1 l2).objs.size))) { s with heap:=zH5 k1 k2 s.heap l1 l2 }) :=
 .of_wp λprog w A R s h=>by
  obtain⟨hp,g,d,tk,os⟩:=s;obtain⟨hl1,hl2,h⟩:=h
  have HL:=sub_zip
  cases k1 with
  | true =>
   have hL1:Heap.IsList (Shared.heap ⟨hp,g,d,tk,os⟩) l1 xs:=hl1
   cases k2 with
   | true =>
    have hL2:Heap.IsList (Shared.heap ⟨hp.push { cls:=.type "list_iterator",data:=.fields #[.ref l1,.int 0 0] },g,d,tk,os⟩) l2 ys:=Heap.IsList.push hl2 _
    wp_walk using wpAny_pyIter_list hL1,wpAny_pyIter_list hL2
    exact⟨_,rfl,h⟩
   | false =>
    have hL2:Heap.IsTuple (Shared.heap ⟨hp.push { cls:=.type "list_iterator",data:=.fields #[.ref l1,.int 0 0] },g,d,tk,os⟩) l2 ys:=Heap.IsTuple.push hl2 _
    wp_walk using wpAny_pyIter_list hL1,wpAny_pyIter_tuple hL2
    exact⟨_,rfl,h⟩
  | false =>
   have hL1:Heap.IsTuple (Shared.heap ⟨hp,g,d,tk,os⟩) l1 xs:=hl1
   cases k2 with
   | true =>
    have hL2:Heap.IsList (Shared.heap ⟨hp.push { cls:=.type "tuple_iterator",data:=.fields #[.ref l1,.int 0 0] },g,d,tk,os⟩) l2 ys:=Heap.IsList.push hl2 _
    wp_walk using wpAny_pyIter_tuple hL1,wpAny_pyIter_list hL2
    exact⟨_,rfl,h⟩
   | false =>
    have hL2:Heap.IsTuple (Shared.heap ⟨hp.push { cls:=.type "tuple_iterator",data:=.fields #[.ref l1,.int 0 0] },g,d,tk,os⟩) l2 ys:=Heap.IsTuple.push hl2 _
    wp_walk using wpAny_pyIter_tuple hL1,wpAny_pyIter_tuple hL2
    exact⟨_,rfl,h⟩
theorem KIt.new{k:Bool}{h:Heap}{i l:Addr}(e:h.get? i=some (dP k l)):KIt k h i l 0:=by
 cases k with
 | true=>exact⟨_,e,rfl,rfl⟩
 | false=>exact⟨_,e,rfl,rfl⟩
section
variable{prog:Program}{w:World}{A:Around}{E:Value→Shared→Prop}{s:Shared}
theorem B7{k1 k2:Bool}{l1 l2:Addr}{xs ys:Array Value}{Q:Value→Shared→Prop}(hl1:KSq k1 s.heap l1 xs)(hl2:KSq k2 s.heap l2 ys)
  (h:∀h',IsZip h' (s.heap.objs.size+4) (s.heap.objs.size+2) (s.heap.objs.size+3) .none→IsPair h' (s.heap.objs.size+2) (.ref s.heap.objs.size) (.ref (s.heap.objs.size+1))→IsPair h' (s.heap.objs.size+3) .none .none →
   KIt k1 h' s.heap.objs.size l1 0→KIt k2 h' (s.heap.objs.size+1) l2 0→h'.objs.size=s.heap.objs.size+5→(∀c o,s.heap.get? c=some o→h'.get? c=some o)→Q (.ref (s.heap.objs.size+4)) { s with heap:=h' }) :
  wpAny (model prog w) A (call (.type "zip") [.ref l1,.ref l2]) Q E s:=by
 refine callType_new F.called_zip (by decide) (F.typeCall_zip_2 _ _) (F.newCall_zip_2 _ _) (λobj=>F.args_object_init_3 obj _ _) F.entry_zip_new (HV k1 k2 l1 l2 xs ys) ⟨hl1,hl2,?_⟩
 have z1:(s.heap.push (dP k1 l1)).objs.size=s.heap.objs.size+1:=Heap.size_push ..
 have z2:(zH2 k1 k2 s.heap l1 l2).objs.size=s.heap.objs.size+2:=by rw[Heap.size_push,z1]
 have z3:((zH2 k1 k2 s.heap l1 l2).push { cls:=.type "tuple",data:=.seq #[.ref s.heap.objs.size,.ref (s.heap.push (dP k1 l1)).objs.size] }).objs.size=s.heap.objs.size+3:=by rw[Heap.size_push,z2]
 have z4:(zH4 k1 k2 s.heap l1 l2).objs.size=s.heap.objs.size+4:=by rw[Heap.size_push,z3]
 have z5:(zH5 k1 k2 s.heap l1 l2).objs.size=s.heap.objs.size+5:=by rw[Heap.size_push,z4]
 have g5:(zH5 k1 k2 s.heap l1 l2).get? (zH4 k1 k2 s.heap l1 l2).objs.size=some _:=Heap.get?_push_size _ rfl
 have g4:(zH5 k1 k2 s.heap l1 l2).get? ((zH2 k1 k2 s.heap l1 l2).push { cls:=.type "tuple",data:=.seq #[.ref s.heap.objs.size,.ref (s.heap.push (dP k1 l1)).objs.size] }).objs.size=some _:=Heap.get?_push_of_some _ (Heap.get?_push_size _ rfl)
 have g3:(zH5 k1 k2 s.heap l1 l2).get? (zH2 k1 k2 s.heap l1 l2).objs.size=some _:=Heap.get?_push_of_some _ (Heap.get?_push_of_some _ (Heap.get?_push_size _ rfl))
 have g2:(zH5 k1 k2 s.heap l1 l2).get? (s.heap.push (dP k1 l1)).objs.size=some (dP k2 l2):=Heap.get?_push_of_some _ (Heap.get?_push_of_some _ (Heap.get?_push_of_some _ (Heap.get?_push_size _ rfl)))
 have g1:(zH5 k1 k2 s.heap l1 l2).get? s.heap.objs.size=some (dP k1 l1):=Heap.get?_push_of_some _ (Heap.get?_push_of_some _ (Heap.get?_push_of_some _ (Heap.get?_push_of_some _ (Heap.get?_push_size _ rfl))))
 show _∧_
 rw[z2,z3,z4] at g5;rw[z1,z2] at g3;rw[z3] at g4;rw[z1] at g2;rw[z4]
 exact⟨⟨_,g5,rfl⟩,h _ g5 g3 g4 (KIt.new g1) (KIt.new g2) z5 λc o q =>
  Heap.get?_push_of_some _ (Heap.get?_push_of_some _ (Heap.get?_push_of_some _ (Heap.get?_push_of_some _ (Heap.get?_push_of_some _ q))))⟩
end
def fG(K:PySem.W.Frag)(k:Bool)(H:Hp)(a:Addr)(xs:List V):Prop:=match k with
 | true=>SqL K H a xs
 | false=>SqT K H a xs
theorem Inv.ksq{X:Cx}{pins:List (Addr×Obj)}{σ:L2.St}{H:Hp}{s:Shared}{k:Bool}{a:Addr}{xs:List V}(I:Inv X pins σ H s)(h:fG X.K k H a xs):∃its:List Value,Vals xs its∧KSq k s.heap a its.toArray∧xs.length≤sizeLine:=by
 cases k with
 | true=>obtain⟨its,r,p,z⟩:=I.list h;exact⟨its,r,p.isList,z⟩
 | false=>obtain⟨its,r,p,z⟩:=I.tuple h;exact⟨its,r,p,z⟩
theorem Inv.pG{X:Cx}{pins:List (Addr×Obj)}{σ:L2.St}{H:Hp}{s:Shared}{k:Bool}{a:Addr}{xs ys:List V}(I:Inv X pins σ H s)(h:fG X.K k H a xs)(h':fG X.K k H a ys):xs=ys:=by
 cases k with
 | true=>exact I.vv h h'
 | false=>exact I.rW h h'
def Itz(K:PySem.W.Frag)(k1 k2:Bool)(a b:Addr):It :=
 ⟨λi H=>∃xs ys x y,fG K k1 H a xs∧fG K k2 H b ys∧xs[i]?=some x∧ys[i]?=some y,
  λi H v H'=>∃p x y,v=.ref p∧H p=none∧H'=upd H p (.tup [x,y])∧(∀xs,fG K k1 H a xs→xs[i]?=some x)∧∀ys,fG K k2 H b ys→ys[i]?=some y,
  λi H=>∃xs ys,fG K k1 H a xs∧fG K k2 H b ys∧(xs.length≤i∨ys.length≤i)⟩
theorem dQ{X:Cx}{pins:List (Addr×Obj)}{σ:L2.St}{H:Hp}{s:Shared}{k:Bool}{a c:Addr}{xs:List V}(I:Inv X pins σ H s)(h:fG X.K k H a xs)(hf:jV X pins H c):a≠c:=λe=>by
 subst e
 have key:∀o,X.K.lookup a=some o→False:=λo hk=>by
  have hb:=I.ok.mod.kin a o hk
  rcases hf.2.2.2.1 with z|z
  ·exact I.ok.tT a o hb z
  ·exact absurd (Nat.lt_of_lt_of_le (Heap.lt_size hb) (Nat.le_trans I.ok.bsz z)) (Nat.lt_irrefl _)
 cases k with
 | true =>
  rcases h with (h|⟨o,h⟩)|⟨o,its,n,hk,_⟩
  ·rw[hf.1] at h;cases h
  ·rw[hf.1] at h;cases h
  ·exact key o hk
 | false =>
  have h:H a=some (.tup xs):=h
  rw[hf.1] at h;cases h
section
variable{X:Cx}{pins:List (Addr×Obj)}{σ:L2.St}{H:Hp}{s:Shared}{h':Heap}{ch:List Addr}
theorem Ah{b:Addr}{u o:HO}{H':Hp}{tr:Addr}(I:Inv X pins σ H s)(k:∀b o,b∉ch→s.heap.get? b=some o→h'.get? b=some o)(hf:∀b∈ch,jV X pins H b)(e:H b=some u)
  (ho:∀c,H c=some (.own b)→H' c=some (.own b)) (ht:∀c xs,H c=some (.tup xs)→H' c=some (.tup xs)):cw X.prog X.w H' h' b u:=by
 refine(I.hok b u e).rA (λc v hc q=>k c v (λz=>?_) q) ho ht
 have hn:=(hf c z).1
 rcases hc with rfl|hc
 ·rw[hn] at e;cases e
 ·rw[hn] at hc;cases hc
theorem Inv.pH{t':Nat}(I:Inv X pins σ H s)(k:∀b o,b∉ch→s.heap.get? b=some o→h'.get? b=some o)(hf:∀b∈ch,jV X pins H b):Inv X pins σ H { s with heap:=h',toks:=t' }:=by
 refine I.step (g':=s.gens) (d':=s.drawn) (ch:=ch) (λb hb=>⟨(hf b hb).2.2.2.1,(hf b hb).2.1,(hf b hb).2.2.2.2.1,(hf b hb).2.2.2.2.2⟩) (λb o _ _ hc e _=>k b o hc e) (λb o _ _ hc e _=>⟨o.slots,k b o hc e⟩) (λ_ _ _ _ n=>n)
  (λb o hc e=>⟨o,k b o hc e⟩) (λ_ _ e=>e) (λ_ _ _ e=>e) (λb ps e=>⟨#[],by rw[e];simp⟩) (λm hm=>?_) (λb u e=>Ah (o:=u) (tr:=b) I k hf e (λ_ q=>q) λ_ _ q=>q) I.bare
 obtain⟨o,es,ep,ho,r⟩:=hm
 exact⟨o,es,ep,k _ o (λz=>(hf _ z).2.1 rfl) ho,r⟩
theorem Inv.pI{o:HO}(I:Inv X pins σ H s)(k:∀b o,b∉ch→s.heap.get? b=some o→h'.get? b=some o)(hf:∀b∈ch,jV X pins H b)(new:cw X.prog X.w (upd H s.heap.objs.size o) h' s.heap.objs.size o) :
  Inv X pins σ (upd H s.heap.objs.size o) { s with heap:=h' }:=by
 have hn:H s.heap.objs.size=none:=I.hok.fresh (Nat.le_refl _)
 have ne:∀{b:Addr}{ob:Obj},s.heap.get? b=some ob→b≠s.heap.objs.size:=λe=>Nat.ne_of_lt (Heap.lt_size e)
 refine I.step (g':=s.gens) (d':=s.drawn) (t':=s.toks) (ch:=ch) (λb hb=>⟨(hf b hb).2.2.2.1,(hf b hb).2.1,(hf b hb).2.2.2.2.1,(hf b hb).2.2.2.2.2⟩) (λb o _ _ hc e _=>k b o hc e) (λb o _ _ hc e _=>⟨o.slots,k b o hc e⟩) (λb ob _ e n=>by rw[aG (ne e)];exact n)
  (λb o hc e=>⟨o,k b o hc e⟩) (λb xs q=>by rw[aG (cH q hn)];exact q) (λb u xs q=>by rw[aG (cH q hn)];exact q) (λb ps q=>⟨#[],by rw[aG (cH q hn),q];simp⟩) (λm hm=>?_) (λb u e=>?_) I.bare
 ·obtain⟨o,es,ep,ho,r⟩:=hm
  exact⟨o,es,ep,k _ o (λz=>(hf _ z).2.1 rfl) ho,r⟩
 ·by_cases hb:b=s.heap.objs.size
  ·subst hb;rw[aB] at e;cases e;exact new
  ·rw[aG hb] at e
   exact Ah (o:=u) (tr:=b) I k hf e (λc q=>by rw[aG (cH q hn)];exact q) λc xs q=>by rw[aG (cH q hn)];exact q
end
structure ZSt(k1 k2:Bool)(z TI TO i1 i2 l1 l2:Addr)(i:Nat)(h:Heap):Prop where
 z:IsZip h z TI TO .none
 ti:IsPair h TI (.ref i1) (.ref i2)
 to:∃a b,IsPair h TO a b
 one:KIt k1 h i1 l1 i
 two:KIt k2 h i2 l2 i
theorem NM{P:Addr→Prop}{a b c d e:Addr}(h1:P a)(h2:P b)(h3:P c)(h4:P d)(h5:P e):∀x∈[a,b,c,d,e],P x:=by
 simp[h1,h2,h3,h4,h5]
theorem JA{a b c d e x:Addr}(h:x∈[a,c,d,e]):x∈[a,b,c,d,e]:=by
 simp at h ⊢
 rcases h with h|h|h|h<;>simp[h]
theorem NN{a b c d x:Addr}(h:x∉[a,b,c,d]):x≠a∧x≠b∧x≠c∧x≠d:=by
 simpa using h
theorem EB {P : Program} {w : World} {K : PySem.W.Frag} {elts : List Expr} {x1 : Nat} {pos : Pos} {k1 k2 : Bool} {z TI TO i1 i2 l1 l2 : Addr} (d1 : TI ≠ TO) (d2 : i1 ≠ i2) :
    Turn P w K (.Tuple elts x1 pos) (Itz K k1 k2 l1 l2) [z, TI, TO, i1, i2] z (ZSt k1 k2 z TI TO i1 i2 l1 l2) := by
  have ap : ∀ {X : Cx} {pins : List (Addr × Obj)} {σ : L2.St} {H : Hp} {s : Shared} {i : Nat} {xs ys : List V}, X.K = K → Inv X pins σ H s → (∀ b ∈ [z, TI, TO, i1, i2], jV X pins H b) → ZSt k1 k2 z TI TO i1 i2 l1 l2 i s.heap → fG K k1 H l1 xs → fG K k2 H l2 ys → ZipApart z TI TO i1 i2 l1 l2 := by
    intro X pins σ H s i xs ys hK I hf st h1 h2
    subst hK
    obtain ⟨a, b, hto⟩ := st.to
    obtain ⟨o1, e1, q1⟩ := st.one.ob
    obtain ⟨o2, e2, q2⟩ := st.two.ob
    have neP : ∀ {c d : Addr} {o : Obj} {u v : Value} {vs : Array Value}, IsPair s.heap c u v → s.heap.get? d = some o → o.data = .fields vs → c ≠ d := fun {c d o u v vs} hp ho hd e => by
      subst e
      have hp : s.heap.get? c = some { cls := .type "tuple", data := .seq #[u, v] } := hp
      rw [hp] at ho; cases ho; cases hd
    have neZ : ∀ {d : Addr} {l : Addr} {o : Obj} {n : Nat}, s.heap.get? d = some o → o.data = .fields #[.ref l, .int n 0] → d ≠ z := fun {d l o n} ho hd e => by
      subst e
      have hz : s.heap.get? d = some _ := st.z
      rw [hz] at ho; cases ho
      have : (#[Value.none, .bool false, .bool false, .ref TI, .ref TO] : Array Value) = #[.ref l, .int n 0] := by injection hd
      exact absurd (congrArg Array.size this) (by simp)
    have w : ∀ c ∈ [z, TI, TO, i1, i2], l1 ≠ c ∧ l2 ≠ c := fun c hc => ⟨dQ I h1 (hf c hc), dQ I h2 (hf c hc)⟩
    exact { TIz := neP st.ti st.z rfl, TOz := neP hto st.z rfl, i1z := neZ e1 q1, i2z := neZ e2 q2, TITO := d1, TIi1 := neP st.ti e1 q1, TIi2 := neP st.ti e2 q2, TOi1 := neP hto e1 q1, TOi2 := neP hto e2 q2, i12 := d2,
            l1z := (w z (.head _)).1, l1TO := (w TO (.tail _ (.tail _ (.head _)))).1, l1i1 := (w i1 (.tail _ (.tail _ (.tail _ (.head _))))).1, l1i2 := (w i2 (.tail _ (.tail _ (.tail _ (.tail _ (.head _)))))).1, l2z := (w z (.head _)).2, l2TO := (w TO (.tail _ (.tail _ (.head _)))).2, l2i1 := (w i1 (.tail _ (.tail _ (.tail _ (.head _))))).2, l2i2 := (w i2 (.tail _ (.tail _ (.tail _ (.tail _ (.head _)))))).2 }
  refine ⟨by simp, fun i h st => ?_, fun i h h' st k => ?_, ?_, ?_, fun A i s Q E st hq => wpAny_pyIter_zip st.z hq⟩
  · obtain ⟨a, b', hto⟩ := st.to
    obtain ⟨o1, e1, q1⟩ := st.one.ob
    obtain ⟨o2, e2, q2⟩ := st.two.ob
    exact NM ⟨_, st.z, fun v e => by cases e⟩ ⟨_, st.ti, fun v e => by cases e⟩ ⟨_, hto, fun v e => by cases e⟩ ⟨_, e1, fun v e => by rw [q1] at e; cases e⟩ ⟨_, e2, fun v e => by rw [q2] at e; cases e⟩
  · obtain ⟨a, b', hto⟩ := st.to
    exact ⟨k z (.head _) _ st.z, k TI (.tail _ (.head _)) _ st.ti, ⟨a, b', k TO (.tail _ (.tail _ (.head _))) _ hto⟩, st.one.at fun o e => k i1 (.tail _ (.tail _ (.tail _ (.head _)))) o e, st.two.at fun o e => k i2 (.tail _ (.tail _ (.tail _ (.tail _ (.head _))))) o e⟩
  · intro X hP hw hK hc i pins s σ H E I hf st hg
    obtain ⟨xs, ys, x, y, h1, h2, hx, hy⟩ := hg
    have D := ap hK I hf st h1 h2
    subst hP hw hK
    obtain ⟨jT, r1, s1, z1⟩ := I.ksq h1
    obtain ⟨lb, r2, s2, z2⟩ := I.ksq h2
    obtain ⟨u, hu, ru⟩ := r1.get hx
    obtain ⟨v, hv, rv⟩ := r2.get hy
    obtain ⟨a, b', hto⟩ := st.to
    refine uD D st.z st.ti hto st.one st.two s1 s2 (x := u) (y := v) (by simpa using hu) (by simpa using hv) fun h' g1 g2 g3 g4 g5 g6 g7 => ⟨_, rfl, ?_⟩
    refine wpAny_letOwnedTupleGo_zip g1 fun h'' q1 q2 => ?_
    have lt : ∀ {c : Addr} {o : Obj}, s.heap.get? c = some o → c ≠ s.heap.objs.size := fun e => Nat.ne_of_lt (Heap.lt_size e)
    have hTz : s.heap.objs.size ≠ z := (lt st.z).symm
    obtain ⟨o1, e1, _⟩ := st.one.ob
    obtain ⟨o2, e2, _⟩ := st.two.ob
    have new : IsPair h'' s.heap.objs.size u v := q2.extBut _ _ hTz g5
    refine ⟨.ref s.heap.objs.size, upd H s.heap.objs.size (.tup [x, y]), ?_, rfl, ⟨s.heap.objs.size, x, y, rfl, I.hok.fresh (Nat.le_refl _), rfl, fun ws hw => by rw [I.pG hw h1]; exact hx, fun ws hw => by rw [I.pG hw h2]; exact hy⟩, ?_, fun c hcm => ?_⟩
    · refine I.pI (ch := [z, TO, i1, i2]) (fun c o hcn e => ?_) (fun c hcm => hf c (JA hcm)) ?_
      · have hcn := NN hcn
        exact q2.extBut _ _ hcn.1 (g7 c o hcn.1 hcn.2.1 hcn.2.2.1 hcn.2.2.2 e)
      · exact ⟨by show 2 ≤ sizeLine; decide, [u, v], .cons ru (.cons rv .nil), ⟨_, new, rfl, 0, rfl⟩⟩
    · exact ⟨q1, q2.extBut _ _ D.TIz (g7 TI _ D.TIz D.TITO D.TIi1 D.TIi2 st.ti), ⟨_, _, q2.extBut _ _ D.TOz g2⟩, g3.at fun o e => q2.extBut _ _ D.i1z e, g4.at fun o e => q2.extBut _ _ D.i2z e⟩
    · rw [aG]
      · exact (hf c hcm).1
      · exact NM (P := fun c => c ≠ s.heap.objs.size) (lt st.z) (lt st.ti) (lt hto) (lt e1) (lt e2) c hcm
  · intro X hP hw hK hc i pins s σ H E I hf st hg
    obtain ⟨xs, ys, h1, h2, hle⟩ := hg
    have D := ap hK I hf st h1 h2
    subst hP hw hK
    obtain ⟨jT, r1, s1, z1⟩ := I.ksq h1
    obtain ⟨lb, r2, s2, z2⟩ := I.ksq h2
    obtain ⟨a, b', hto⟩ := st.to
    have l1' := r1.length
    have l2' := r2.length
    refine we (I.ok.hd hc) D st.z st.ti hto st.one st.two s1 s2 (by
      rcases hle with q | q
      · exact .inl (by simp; lia)
      · exact .inr (by simp; lia)) fun h' g7 => ⟨rfl, I.pH (t' := s.toks) (ch := [z, TO, i1, i2]) (fun c o hcn e => ?_) fun c hcm => hf c (JA hcm)⟩
    have hcn := NN hcn
    exact g7 c o hcn.1 hcn.2.1 hcn.2.2.1 hcn.2.2.2 e
def NO(K:PySem.W.Frag)(t:TA):TI:=λσ H R=>t σ H λvs H1=>∃a b k1 k2 xs ys,vs=[.ref a,.ref b]∧fG K k1 H1 a xs∧fG K k2 H1 b ys∧R (Itz K k1 k2 a b) H1
theorem Lw{X:Cx}{elts:List Expr}{x1:Nat}{dX p pos:Pos}{a b:Expr}{t:TA}(hg:Gl X "zip")(hm:X.mg "zip"=none)(ha:PA X [a,b] t)(he:starEach [a,b] X.env=(false,eval a X.env)::starEach [b] X.env)(hpl:(backTo pos (starEach [b] X.env)).any (·.1)=false) :
  PI X (.Tuple elts x1 dX) (.Call (.Name "zip" p) [a,b] [] pos) (NO X.K t):=by
 intro pins s σ H R I h
 refine wpAny_Call_Name_kw (lO I hg hm PyProof.Rows.boot_zip ?_ (by decide) (by decide))
 refine PyProof.Rows.callWith_type1 (thn (ha pos pins s σ H _ I h) λus s1 au=>?_) he hpl
 obtain⟨vs,H1,I1,r1,q1⟩:=au
 obtain⟨c,d,k1,k2,xs,ys,rfl,h1,h2,q⟩:=q1
 obtain⟨u1,u2,rfl,ru1,ru2⟩:=vals2 r1
 cases ru1
 cases ru2
 obtain⟨jT,_,s1',_⟩:=I1.ksq h1
 obtain⟨lb,_,s2',_⟩:=I1.ksq h2
 refine B7 s1' s2' λh' g1 g2 g3 g4 g5 g6 g7=>wpAny_pyIter_zip g1 ?_
 have I2:Inv X pins σ H1 { s1 with heap:=h' }:=I1.kept (t':=s1.toks) g7
 refine⟨_,_,_,_,H1,rfl,I2,EB (k1:=k1) (k2:=k2) (TI:=s1.heap.objs.size+2) (TO:=s1.heap.objs.size+3) (i1:=s1.heap.objs.size) (i2:=s1.heap.objs.size+1) (l1:=c) (l2:=d) (λe=>by have e:s1.heap.objs.size+2=s1.heap.objs.size+3:=e;lia) (λe=>by have e:s1.heap.objs.size=s1.heap.objs.size+1:=e;lia),⟨g1,g2,⟨_,_,g3⟩,g4,g5⟩,λe he=>?_,q⟩
 have:s1.heap.objs.size≤e:=by
  simp only[List.mem_cons,List.not_mem_nil,or_false] at he
  rcases he with rfl|rfl|rfl|rfl|rfl
  ·exact Nat.le_add_right _ _
  ·exact Nat.le_add_right _ _
  ·exact Nat.le_add_right _ _
  ·exact Nat.le_refl _
  ·exact Nat.le_add_right _ _
 exact I1.tX this (I1.hok.fresh this)
end L2
namespace Fw
open PySem PySem.Spec PyProof.Rows L2
theorem wg:∀{ts us:List T}{i:Nat}{t:T},(gP ts us)[i]?=some t→∃a b,ts[i]?=some a∧us[i]?=some b∧t=.tup [a,b]
 | [],us,i,t,h=>by simp[gP] at h
 | a::ts,[],i,t,h=>by simp[gP] at h
 | a::ts,b::us,0,t,h=>by simp[gP] at h;exact⟨a,b,rfl,rfl,h.symm⟩
 | a::ts,b::us,i+1,t,h=>by
  obtain⟨c,d,h1,h2,h3⟩:=wg (ts:=ts) (us:=us) (i:=i) (t:=t) (by simpa [gP] using h)
  exact⟨c,d,by simpa using h1,by simpa using h2,h3⟩
theorem g8{K:PySem.W.Frag}{F H:Hp}{v:V}{t:T}{ts:List T}(s:aN F H)(h:Now K F H v t)(e:bu t=some ts):∃a vs k,v=.ref a∧fG K k H a vs∧aD K F ts vs∧(k=true↔∃l,t=.lst l):=by
 cases t with
 | lst us=>cases e;obtain⟨a,vs,rfl,q,r⟩:=h.lh;exact⟨a,vs,true,rfl,q,r,by simp⟩
 | tup us=>cases e;obtain⟨a,vs,rfl,q,r⟩:=h.qx;exact⟨a,vs,false,rfl,aN.iP s q,r,by simp⟩
 | _=>cases e
theorem yh{X:Cx}{elts:List Expr}{x1:Nat}{dX p pos:Pos}{a b:Expr}{da db:D}(hm:X.mg "zip"=none)(ha:CE X a da)(hb:CE X b db)(hg:Gl X "zip":=by rfl)(hs:starEach [a,b] X.env=(false,eval a X.env)::starEach [b] X.env:=by rfl)(hs2:starEach [b] X.env=(false,eval b X.env)::starEach [] X.env:=by rfl)(hpl:(backTo pos (starEach [b] X.env)).any (·.1)=false:=by rfl) :
  CI X (.Tuple elts x1 dX) (.Call (.Name "zip" p) [a,b] [] pos) (uj da db) :=
 PI.imp (Lw hg hm (ag ha (ag hb aq hs2) hs) hs hpl) λσ H R0 au=>by
  obtain⟨F,α,e,μ,S,h⟩:=au
  refine Jw ⟨F,α,e,μ,S,(R.wp_bind h).mono (λx μ1 h=>(R.wp_bind h).mono (λy μ2 h v u H1 F1 α1 x1 S1 o1 o2=>?_) λ_ _ h=>h) λ_ _ h=>h⟩
  obtain⟨ts,ht,h⟩:=R.bB (R.wp_bind h)
  obtain⟨us,hu,post⟩:=R.bB (R.wp_bind h)
  obtain⟨t,hr,ht⟩:=Option.bind_eq_some_iff.mp ht
  obtain⟨t2,hr2,hu⟩:=Option.bind_eq_some_iff.mp hu
  obtain⟨a1,vs1,k1,rfl,q1,r1,m1⟩:=g8 S1.st.ext (aU S1.st o1 hr) ht
  obtain⟨a2,vs2,k2,rfl,q2,r2,m2⟩:=g8 S1.st.ext (aU S1.st o2 hr2) hu
  refine⟨a1,a2,k1,k2,vs1,vs2,rfl,q1,q2,post _ H1 F1 α1 x1 S1 λF2 α2 μ3 H2 s2 p2 S2 same=>?_⟩
  obtain⟨e1,e2⟩:=(show rd μ3 x=rd μ2 x∧rd μ3 y=rd μ2 y from same)
  obtain⟨b1,ws1,j1,g1,n1,l1,m1'⟩:=g8 S2.ext (aU S2 (o1.mono s2 p2) (e1.trans hr)) ht
  obtain⟨b2,ws2,j2,g2,n2,l2,m2'⟩:=g8 S2.ext (aU S2 (o2.mono s2 p2) (e2.trans hr2)) hu
  cases g1
  cases g2
  have ej1:j1=k1:=by rw[Bool.eq_iff_iff,m1,m1']
  have ej2:j2=k2:=by rw[Bool.eq_iff_iff,m2,m2']
  subst ej1
  subst ej2
  refine⟨λi t hi=>?_,?_⟩
  ·obtain⟨c,d,hc,hd,rfl⟩:=wg hi
   obtain⟨v1,hv1,rv1⟩:=l1.get hc
   obtain⟨v2,hv2,rv2⟩:=l2.get hd
   refine⟨⟨ws1,ws2,v1,v2,n1,n2,hv1,hv2⟩,?_⟩
   rintro z H3 ⟨q,z1,z2,rfl,hq,rfl,f1,f2⟩
   have w1:=f1 ws1 n1
   have w2:=f2 ws2 n2
   rw[hv1] at w1
   rw[hv2] at w2
   cases w1
   cases w2
   have g:bw F2 H2 (upd F2 q (.tup [v1,v2])) (upd H2 q (.tup [v1,v2])):=bw.new hq
   refine⟨_,g,?_⟩
   rw[Rep]
   exact⟨q,_,rfl,SqT.of aB,aD.mono (g.same S2.ext) _ _ (.dI rv1 (.dI rv2 .jf))⟩
  ·refine⟨ws1,ws2,n1,n2,?_⟩
   have:=l1.length
   have:=l2.length
   show ws1.length≤(gP ts us).length∨ws2.length≤(gP ts us).length
   rw[v9]
   lia
def tDO(X:Cx)(o:Option D):TO:=λσ H Q=>∃F α e μ,Sim X.K F α e μ σ H∧(xT o e μ).wp (λi μ'=>∀H' F' α',Ex F α H F' α' H'→Sim X.K F' α' e μ' σ H'→Q i H') (eG X F α H e)
def CO(X:Cx)(e:Option Expr)(o:Option D):Prop:=PO X e (tDO X o)
theorem PO.imp{X:Cx}{e:Option Expr}{t t':TO}(h:PO X e t)(i:∀σ H Q,t' σ H Q→t σ H Q):PO X e t':=λpins s σ H Q I q=>h pins s σ H Q I (i σ H Q q)
section
variable{X:Cx}{a b:Expr}{da db:D}{pos p2:Pos}
theorem Ai:CO X none none:=PO.imp GR λσ H Q ⟨F,α,e,μ,S,h⟩=>h H F α Ex.refl S
theorem Aj(h:CE X a da):CO X (some a) (some da):=PO.imp (GS h) λσ H Q au=>by
 obtain⟨F,α,e,μ,S,h⟩:=au
 refine⟨F,α,e,μ,S,(R.wp_bind h).mono (λx μ1 h v H1 F1 α1 x1 S1 o1=>?_) λ_ _ h=>h⟩
 obtain⟨i,hi,h⟩:=R.bB (R.wp_bind h)
 obtain⟨t,hr,ht⟩:=Option.bind_eq_some_iff.mp hi
 cases mK ht
 cases (aU S1.st o1 hr).int
 exact⟨i,rfl,h H1 F1 α1 x1 S1⟩
theorem aD.cut{K:PySem.W.Frag}{F:Hp}{ts:List T}{vs:List V}(h:aD K F ts vs)(lo hi:Option Int):aD K F (xQ ts lo hi) (vB vs lo hi):=by
 have e:∀d o,Fw.sIx ts.length d o=HT.sIx vs.length d o:=λd o=>by rw[h.length];cases o<;>rfl
 unfold xQ vB
 rw[e,e,h.length]
 exact(h.drop _).take _
theorem EC{lo hi:Option Expr}{dl dh:Option D}(ha:CE X a da)(hl:CO X lo dl)(hh:CO X hi dh):CE X (.Subscript a (.Slice lo hi none p2) pos) (uf da dl dh) :=
 PE.imp (Dk (GW.or Kx) ha hl hh) λσ H Q au=>by
  obtain⟨F,α,e,μ,S,h⟩:=au
  refine⟨F,α,e,μ,S,(R.wp_bind h).mono (λx μ1 h v H1 F1 α1 x1 S1 o1=>⟨F1,α1,e,μ1,S1,?_⟩) λ_ _ h=>h⟩
  refine(R.wp_bind h).mono (λl μ2 h H2 F2 α2 x2 S2=>⟨F2,α2,e,μ2,S2,?_⟩) λ_ _ h=>h.mono x1
  refine(R.wp_bind h).mono (λr μ3 h H3 F3 α3 x3 S3=>?_) λ_ _ h=>h.mono (x1.trans x2)
  obtain⟨w,h9,post⟩:=R.bB h
  obtain⟨t,w',ht,h,rfl⟩:=lR h9
  have nt:=aU S3.st (o1.mono (x2.trans x3).same (x2.trans x3).pre) ht
  have fin:∀v' H' F',bw F3 H3 F' H'→Rep X.K F' w' v'→Q v' H':=λv' H' F' g rp=>post v' H' F' α3 (x1.trans (x2.trans (x3.trans (g.ex S3.st.ext)))) (S3.grow g) rp
  cases t with
  | lst ts =>
   cases h
   obtain⟨c,vs,rfl,hq,hl⟩:=nt.lh
   exact .inl ⟨c,vs,rfl,hq,λq hq'=>pF S3.st.ext hq' (hl.cut l r) fin⟩
  | tup ts =>
   have h:(if Fw.sIx ts.length 0 l=0∧Fw.sIx ts.length ts.length r=ts.length then none else some (T.tup (xQ ts l r)))=some w':=h
   by_cases hc:Fw.sIx ts.length 0 l=0∧Fw.sIx ts.length ts.length r=ts.length
   ·rw[if_pos hc] at h;cases h
   ·rw[if_neg hc] at h
    cases h
    obtain⟨c,vs,rfl,hq,hl⟩:=nt.qx
    refine .inr ⟨c,vs,rfl,aN.iP S3.st.ext hq,?_,λq hq'=>ux S3.st.ext hq' (hl.cut l r) fin⟩
    have e:∀d o,HT.sIx vs.length d o=Fw.sIx ts.length d o:=λd o=>by rw[hl.length];cases o<;>rfl
    rw[e,e,← hl.length]
    exact hc
  | _=>cases h
end
section
variable{X:Cx}{a b c:Expr}{da db dc:D}{pos p p2:Pos}
theorem gK(i:Nat){y:Str}{py dX:Pos}{ik ev:Expr}{dk dv:D}(hk:CE X ik dk)(hv:CE X ev dv)(hN:X.N[i]?=some y:=by rfl)
  (hvs:Vis X.env.scope y:=by first|exact Or.inl rfl|exact Or.inr (Or.inl rfl)|exact Or.inr (Or.inr rfl)) (hd:(y==("__debug__":Str))=false:=by decide) (hcd:(y==("__classdict__":Str))=false:=by decide)
  (ha:∀v,assign (.Subscript (.Name y py) ik dX) X.env v=(do
   let ov ← holding [v] (eval (.Name y py) X.env)
   let iv ← holding [v,ov] (eval ik X.env)
   standAt dX
   holding [v,ov,iv] (setItem ov iv v)
   release [v,ov,iv] []):=by intro _;rfl)
  (hs:swapsWithSole [.Subscript (.Name y py) ik dX] ev pos.line X.env=pure false:=by rfl) (hw:swappedStores [.Subscript (.Name y py) ik dX] ev X.env=pure none:=by rfl)
  (h1:(assignEach [.Subscript (.Name y py) ik dX] X.env).map (·.2)=[assign (.Subscript (.Name y py) ik dX) X.env]:=by rfl) :
  CS X (.Assign [.Subscript (.Name y py) ik dX] ev pos) (bP i dk dv) :=
 PS.imp (Kf hv (Kc (tV hN hvs hd hcd) hk set_list ha) hs hw h1) λD σ H au=>by
  obtain⟨F,α,e,μ,S,h⟩:=au
  refine⟨F,α,e,μ,S,(aR.toS h).mono (λy μ1 h v H1 F1 α1 x1 S1 o1=>?_) λ_ _ h=>h⟩
  obtain⟨x,hx,h⟩:=aR.lift h
  obtain⟨ov,hov,oo⟩:=S1.sl i x hx
  refine⟨ov,hov,F1,α1,e,μ1,S1,(aR.toS h).mono (λz μ2 h v2 H2 F2 α2 x2 S2 o2=>?_) λ_ _ h=>h.mono x1⟩
  obtain⟨k,hk,h⟩:=aR.lift h
  have h:=h.toS
  have nk:=aU S2.st o2 hk
  cases hz:frz y μ2 with
  | err c μ3=>exact absurd hz (nj y μ2 c μ3)
  | bad=>rw[hz] at h;exact h.elim
  | ok t μ3 =>
   rw[hz] at h
   obtain⟨μ4,ha4,h⟩:=aR.lift h
   obtain⟨F3,s3,n3,S3,r3⟩:=lW S2.st (o1.mono x2.same x2.pre) hz
   cases x with
   | cel j =>
    obtain⟨ad,had,rfl⟩:=oo
    cases k with
    | int ki =>
     cases nk.int
     unfold setAt at ha4
     simp only at ha4
     have hc:∃us jj,μ3[j]?=some (true,.lst us)∧Fw.ixN us.length ki=some jj∧μ4=μ3.set j (true,.lst (us.set jj t)):=by
      split at ha4
      ·rename_i us hjs
       obtain⟨jj,e1,e2⟩:=Option.map_eq_some_iff.mp ha4
       exact⟨us,jj,hjs,e1,e2.symm⟩
      ·cases ha4
     obtain⟨us,jj,hj3,hjj,rfl⟩:=hc
     have ha3:α2[j]?=some ad:=gU x2.pre had
     obtain⟨_,ws,hw,rw'⟩:=(S3.cell j true _ ad hj3 ha3).1 rfl
     have el:=rw'.length
     refine⟨ad,ws,ki,jj,rfl,rfl,hw,by rw[← el];exact hjj,?_⟩
     have x3:Ex F α H F3 α2 H2:=x1.trans (x2.trans (Ex.oB s3 n3))
     exact h σ _ F3 α2 (x3.trans (Ex.put ha3)) ((S2.of s3 (List.prefix_refl _) S3).of (aN.refl _) (List.prefix_refl _) (qg S3 hj3 ha3 ⟨_,aB,rw'.set jj r3⟩))
    | _=>unfold setAt at ha4;cases ha4
   | val t=>cases k<;>(unfold setAt at ha4;cases ha4)
   | box xs=>cases k<;>(unfold setAt at ha4;cases ha4)
theorem Ak{K:PySem.W.Frag}{F H:Hp}{v:V}{t:T}(h:Now K F H v t):decide (v=.non)=(match t with|.non=>true|_=>false):=by
 cases t with
 | non=>have e:v=.non:=Rep.je (K:=K) (F:=F) h;subst e;rfl
 | bl b=>have e:=h.bl;subst e;rfl
 | int b=>have e:=h.int;subst e;rfl
 | str b=>have e:=h.str;subst e;rfl
 | lst ts=>obtain⟨a,vs,rfl,_⟩:=h.lh;rfl
 | tup ts=>obtain⟨a,vs,rfl,_⟩:=h.qx;rfl
 | dct ts=>obtain⟨a,vs,rfl,_⟩:=h;rfl
 | exc c n=>have h:Rep K F (.exc c n) v:=h;rw[Rep] at h;obtain⟨a,rfl,_⟩:=h;rfl
 | dtt fz ts=>obtain⟨a,rfl,_⟩:=h;rfl
def NP:T→T→Option T:=λt u=>match u with
 | .non=>jO t
 | _=>none
def JB:T→T→Option T:=λt u=>match u with
 | .non=>gC t
 | _=>none
theorem HW{K:PySem.W.Frag}:dO K (λx y H Q=>y=.non∧Q (.bl (decide (x=.non))) H) NP:=by
 intro F H v u t t' w Q s hv hu hw q
 cases t' with
 | non =>
  refine⟨Rep.je (K:=K) (F:=F) hu,?_⟩
  rw[Ak hv]
  refine q _ H F bw.refl ?_
  cases t<;>(cases hw;exact Rep.bl' _)
 | _=>cases hw
theorem ED{K:PySem.W.Frag}:dO K (λx y H Q=>y=.non∧Q (.bl (!decide (x=.non))) H) JB:=by
 intro F H v u t t' w Q s hv hu hw q
 cases t' with
 | non =>
  refine⟨Rep.je (K:=K) (F:=F) hu,?_⟩
  rw[Ak hv]
  refine q _ H F bw.refl ?_
  cases t<;>(cases hw;exact Rep.bl' _)
 | _=>cases hw
theorem HX:ah NP da (dC .non)=dUn jO da:=by
 funext e μ
 rw[gf,nq]
 cases da e μ with
 | ok x μ1=>rw[R.aL,R.aL,oy,R.aL];cases rd μ1 x<;>rfl
 | err c μ1=>rfl
 | bad=>rfl
theorem EE:ah JB da (dC .non)=dUn gC da:=by
 funext e μ
 rw[gf,nq]
 cases da e μ with
 | ok x μ1=>rw[R.aL,R.aL,oy,R.aL];cases rd μ1 x<;>rfl
 | err c μ1=>rfl
 | bad=>rfl
theorem EF{j}(ha:CE X a da):CT X (.Compare a [.Is] [.Constant .none j p] pos) (dUn jO da):=HX ▸ gF Kr HW (i8 _) ha lX
theorem sL{j}(ha:CE X a da):CT X (.Compare a [.IsNot] [.Constant .none j p] pos) (dUn gC da):=EE ▸ gF GI ED (i8 _) ha lX
end
section
variable{K:PySem.W.Frag}{F:Hp}
theorem bj.jf:bj K F [] []:=by rw[bj]
theorem bj.dI{k:Key}{t:T}{v:V}{kts:List (Key×T)}{kvs:List (Key×V)}(q:Rep K F t v)(r:bj K F kts kvs):bj K F ((k,t)::kts) ((k,v)::kvs):=by rw[bj];exact⟨v,kvs,rfl,q,r⟩
theorem EG{p:Key×T}{r:List (Key×T)}{k:Key}(e:p.1=k):oW (p::r) k=some p.2:=by simp[oW,List.find?_cons,e]
theorem EH{p:Key×T}{r:List (Key×T)}{k:Key}(e:¬ p.1=k):oW (p::r) k=oW r k:=by simp[oW,List.find?_cons,e]
theorem bj.val:∀{kts:List (Key×T)}{kvs:List (Key×V)} (k:Key),bj K F kts kvs→(oW kts k=none∧lP kvs k=none)∨∃t v,oW kts k=some t∧lP kvs k=some v∧Rep K F t v
 | [],kvs,k,h=>by rw[bj] at h;subst h;exact .inl ⟨rfl,rfl⟩
 | (k0,t)::kts,kvs,k,h=>by
  rw[bj] at h
  obtain⟨v,nB,rfl,q,r⟩:=h
  by_cases e:k0=k
  ·exact .inr ⟨t,v,EG (p:=(k0,t)) e,jY (p:=(k0,v)) e,q⟩
  ·rw[EH (p:=(k0,t)) e,jZ (p:=(k0,v)) e]
   exact bj.val k r
theorem bj.any:∀{kts:List (Key×T)}{kvs:List (Key×V)} (k:Key),bj K F kts kvs→(kts.any λkv=>decide (kv.1=k))=(kvs.any λkv=>decide (kv.1=k))
 | [],kvs,k,h=>by rw[bj] at h;subst h;rfl
 | (k0,t)::kts,kvs,k,h=>by
  rw[bj] at h
  obtain⟨v,nB,rfl,q,r⟩:=h
  rw[List.any_cons,List.any_cons,bj.any k r]
theorem bj.xH{t':T}{v':V}(q':Rep K F t' v')(k:Key):∀{kts:List (Key×T)}{kvs:List (Key×V)},bj K F kts kvs→bj K F (kts.map λkv=>if kv.1=k then (kv.1,t') else kv) (kvs.map λkv=>if kv.1=k then (kv.1,v') else kv)
 | [],kvs,h=>by rw[bj] at h;subst h;exact .jf
 | (k0,t)::kts,kvs,h=>by
  rw[bj] at h
  obtain⟨v,nB,rfl,q,r⟩:=h
  rw[List.map_cons,List.map_cons]
  by_cases e:k0=k
  ·simp only[e,if_true]
   exact .dI q' (bj.xH q' k r)
  ·simp only[e,if_false]
   exact .dI q (bj.xH q' k r)
theorem bj.append:∀{kts uts:List (Key×T)}{kvs uvs:List (Key×V)},bj K F kts kvs→bj K F uts uvs→bj K F (kts++uts) (kvs++uvs)
 | [],uts,kvs,uvs,h,g=>by rw[bj] at h;subst h;exact g
 | (k0,t)::kts,uts,kvs,uvs,h,g=>by
  rw[bj] at h
  obtain⟨v,nB,rfl,q,r⟩:=h
  exact .dI q (r.append g)
theorem bj.put{kts:List (Key×T)}{kvs:List (Key×V)}{t:T}{v:V}(h:bj K F kts kvs)(k:Key)(q:Rep K F t v):bj K F (ur kts k t) (putK kvs k v):=by
 unfold ur putK
 rw[h.any k]
 by_cases e:(kvs.any λkv=>decide (kv.1=k))=true
 ·rw[if_pos e,if_pos e];exact bj.xH q k h
 ·rw[if_neg e,if_neg e];exact h.append (.dI q .jf)
theorem Am{H:Hp}{v:V}{t:T}{k:Key}(h:Now K F H v t)(e:sG t=some k):v=kV k:=by
 cases t with
 | int i=>cases e;exact h.int
 | str x=>cases e;exact h.str
 | _=>cases e
end
section
variable{X:Cx}{a b c:Expr}{da db dc:D}{pos p p2:Pos}{k:Nat}
theorem mQ(hr:b_ k X.A):X.A.units+1<cLine:=by have:=hr.units;omega
theorem B8(σ:L2.St)(H:Hp)(Q:VK)(h:tD X (ah oF da db) σ H Q):Dt (tD X da) (tD X db) σ H Q:=by
 obtain⟨F,α,e,μ,S,h⟩:=h
 refine⟨F,α,e,μ,S,?_⟩
 refine(R.wp_bind h).mono (λx μ1 h v H1 F1 α1 x1 S1 o1=>⟨F1,α1,e,μ1,S1,?_⟩) λ_ _ h=>h
 refine(R.wp_bind h).mono (λy μ2 h v2 H2 F2 α2 x2 S2 o2=>?_) λ_ _ h=>h.mono x1
 obtain⟨w,h9,post⟩:=R.bB h
 obtain⟨t,u,w',ht,hu,h,rfl⟩:=t_ h9
 have n1:=aU S2.st (o1.mono x2.same x2.pre) ht
 have n2:=aU S2.st o2 hu
 cases t with
 | dct kts =>
  obtain⟨kk,hk,h⟩:=Option.bind_eq_some_iff.mp (show(sG u).bind (λk=>oW kts k)=some w' from h)
  obtain⟨ad,kvs,rfl,hq,rd⟩:=n1
  have ek:=Am n2 hk
  subst ek
  rcases rd.val kk with ⟨g1,_⟩|⟨t,v,g1,g2,g3⟩
  ·rw[g1] at h;cases h
  ·rw[g1] at h
   cases h
   exact⟨ad,v,rfl,by rw[← g2];exact xJ.k hq,post v H2 F2 α2 (x1.trans x2) S2 g3⟩
 | _=>cases u<;>cases h
theorem HY(hr:b_ k X.A)(ha:CE X a da)(hb:CE X b db)(hs:GY b:=by intro _ _;rfl):CE X (.Subscript a b pos) (ah oF da db):=PE.imp (zO (mQ hr) ha hb hs) B8
theorem An(hr:b_ k X.A)(i:Nat){y:Str}{py dX:Pos}{ik ev:Expr}{dk dv:D}(hk:CE X ik dk)(hv:CE X ev dv)(hN:X.N[i]?=some y:=by rfl)
  (hvs:Vis X.env.scope y:=by first|exact Or.inl rfl|exact Or.inr (Or.inl rfl)|exact Or.inr (Or.inr rfl)) (hd:(y==("__debug__":Str))=false:=by decide) (hcd:(y==("__classdict__":Str))=false:=by decide)
  (hs:swapsWith ev (some (.Subscript (.Name y py) ik dX)) pos.line X.env=pure false:=by rfl) :
  CS X (.Assign [.Subscript (.Name y py) ik dX] ev pos) (lu i dk dv) :=
 PS.imp (zP (mQ hr) (tV hN hvs hd hcd) hk hv hs) λD σ H au=>by
  obtain⟨F,α,e,μ,S,h⟩:=au
  refine⟨F,α,e,μ,S,(aR.toS h).mono (λy μ1 h v H1 F1 α1 x1 S1 o1=>?_) λ_ _ h=>h⟩
  obtain⟨x,hx,h⟩:=aR.lift h
  obtain⟨ov,hov,oo⟩:=S1.sl i x hx
  refine⟨ov,hov,F1,α1,e,μ1,S1,(aR.toS h).mono (λz μ2 h v2 H2 F2 α2 x2 S2 o2=>?_) λ_ _ h=>h.mono x1⟩
  obtain⟨k,hk,h⟩:=aR.lift h
  have h:=h.toS
  have nk:=aU S2.st o2 hk
  cases hz:frz y μ2 with
  | err c μ3=>exact absurd hz (nj y μ2 c μ3)
  | bad=>rw[hz] at h;exact h.elim
  | ok t μ3 =>
   rw[hz] at h
   obtain⟨μ4,ha4,h⟩:=aR.lift h
   obtain⟨F3,s3,n3,S3,r3⟩:=lW S2.st (o1.mono x2.same x2.pre) hz
   cases x with
   | cel j =>
    obtain⟨ad,had,rfl⟩:=oo
    unfold lY at ha4
    simp only at ha4
    have hc:∃kts kk,μ3[j]?=some (true,.dct kts)∧sG k=some kk∧kts.length<szL∧μ4=μ3.set j (true,.dct (ur kts kk t)):=by
     split at ha4
     ·rename_i us hjs
      obtain⟨kk,e1,e2⟩:=Option.bind_eq_some_iff.mp ha4
      by_cases hl:us.length<szL
      ·rw[if_pos hl] at e2
       cases e2
       exact⟨us,kk,hjs,e1,hl,rfl⟩
      ·rw[if_neg hl] at e2;cases e2
     ·cases ha4
    obtain⟨kts,kk,hj3,hkk,hl,rfl⟩:=hc
    have ha3:α2[j]?=some ad:=gU x2.pre had
    obtain⟨_,kvs,hw,rw'⟩:=(S3.cell j true _ ad hj3 ha3).1 rfl
    have el:=rw'.length
    have ek:=Am nk hkk
    subst ek
    refine⟨ad,_,rfl,vF.k hw (by rw[nM] at hl;omega),?_⟩
    have x3:Ex F α H F3 α2 H2:=x1.trans (x2.trans (Ex.oB s3 n3))
    exact h σ _ F3 α2 (x3.trans (Ex.put ha3)) ((S2.of s3 (List.prefix_refl _) S3).of (aN.refl _) (List.prefix_refl _) (qg S3 hj3 ha3 ⟨_,aB,rw'.put kk r3⟩))
   | val t=>unfold lY at ha4;cases ha4
   | box xs=>unfold lY at ha4;cases ha4
end
end Fw
namespace L2
open PySem PySem.Spec PyProof.Rows
theorem JC{P:Program}{w:World}{k:Key}{u:Value}(h:(cE P w).is k u=true):RelV (kV k) u:=by
 rcases ck (show pY k u=true from h) with ⟨i,t,rfl,rfl⟩|⟨x,t,rfl,rfl⟩
 ·exact⟨t,rfl⟩
 ·exact⟨t,rfl⟩
theorem KV.get{kvs:List (Key×V)}{vs:List (Key×Value)}(r:KV kvs vs){i:Nat}{p:Key×V}(h:kvs[i]?=some p):∃u,vs[i]?=some (p.1,u)∧RelV p.2 u:=by
 unfold KV at r
 induction r generalizing i with
 | nil=>simp at h
 | @cons a b as bs h1 t ih =>
  cases i with
  | zero =>
   simp at h
   subst h
   refine⟨b.2,?_,h1.2⟩
   rw[h1.1]
   rfl
  | succ i=>simpa using ih (by simpa using h)
def Itd(d:Addr)(n:Nat):It :=
 ⟨λi H=>∃kvs p,H d=some (.dK kvs)∧kvs.length=n∧kvs[i]?=some p,
  λi H v H'=>∃q p,v=.ref q∧H q=none∧H'=upd H q (.tup [kV p.1,p.2])∧∀kvs,H d=some (.dK kvs)→kvs[i]?=some p,
  λi H=>∃kvs,H d=some (.dK kvs)∧kvs.length=n∧n≤i⟩
theorem yi{P:Program}{w:World}{K:PySem.W.Frag}{elts:List Expr}{x1:Nat}{pos:Pos}{it d:Addr}{n:Nat} :
  Turn P w K (.Tuple elts x1 pos) (Itd d n) [it] it (λi h=>∃ok ov,IsItemIter h it d i n n ok ov):=by
 refine⟨by simp,λi h ⟨ok,ov,st⟩ b hb=>?_,λi h h' ⟨ok,ov,st⟩ k=>⟨ok,ov,k it (by simp) _ st⟩,?_,?_,λA i s Q E ⟨ok,ov,st⟩ hq=>?_⟩
 ·simp at hb;subst hb
  exact⟨_,st,λv e=>by cases e⟩
 ·intro X hP hw hK hc i pins s σ H E I hf st hg
  obtain⟨kvs,p,hd,hn,hp⟩:=hg
  obtain⟨ok,ov,st⟩:=st
  subst hP hw hK
  obtain⟨z,hS,vs,rel,dd⟩:=vE I.hok (.inl hd)
  have hl:=rel.length
  obtain⟨u,hu,ru⟩:=rel.get hp
  have en:n=vs.length:=by lia
  rw[en] at st
  refine wpAny_pyNext_items_item st dd hu λkey h' hk Lx ht hz NQ=>⟨_,rfl,wpAny_letOwnedTupleGo_items Lx λh'' hit hs=>?_⟩
  have hne:it≠s.heap.objs.size:=Nat.ne_of_lt (Heap.lt_size st)
  have ht2:h''.get? s.heap.objs.size=some { cls:=.type "tuple",data:=.seq #[key,u] }:=hs.extBut _ _ hne.symm ht
  refine⟨.ref s.heap.objs.size,upd H s.heap.objs.size (.tup [kV p.1,p.2]),?_,rfl,⟨s.heap.objs.size,p,rfl,I.hok.fresh (Nat.le_refl _),rfl,λws hw=>by rw[hd] at hw;cases hw;exact hp⟩,⟨_,_,by rw[en];exact hit⟩,λc hcm=>?_⟩
  ·refine I.pI (ch:=[it]) (λc o hcn e=>?_) (λc hcm=>hf c hcm) ?_
   ·simp at hcn
    exact hs.extBut _ _ hcn (NQ c o hcn e)
   ·exact⟨by show 2≤sizeLine;decide,[key,u],.cons (JC hk) (.cons ru .nil),⟨_,ht2,rfl,0,rfl⟩⟩
  ·simp at hcm
   subst hcm
   rw[aG hne]
   exact(hf c (by simp)).1
 ·intro X hP hw hK hc i pins s σ H E I hf st hg
  obtain⟨kvs,hd,hn,hle⟩:=hg
  obtain⟨ok,ov,st⟩:=st
  subst hP hw hK
  obtain⟨z,hS,vs,rel,dd⟩:=vE I.hok (.inl hd)
  have hl:=rel.length
  have en:n=vs.length:=by lia
  rw[en] at st
  refine wpAny_pyNext_items_end (I.ok.hd hc) st dd (List.getElem?_eq_none (by lia)) λh' hx=>⟨rfl,I.pH (t':=s.toks) (ch:=[it]) (λc o hcn e=>?_) λc hcm=>hf c hcm⟩
  simp at hcn
  exact hx c o hcn e
 ·exact PySem.W.kcp_self st hq
def HZ(tl:TE):TI:=λσ H R=>tl σ H λx H1=>∃d kvs,x=.ref d∧H1 d=some (.dK kvs)∧R (Itd d kvs.length) H1
theorem EI{X:Cx}{elts:List Expr}{x1:Nat}{dX apos pos:Pos}{o:Expr}{tl:TE}(ho:PE X o tl)(jX:attributeBase o "items" X.env (eval o X.env)=eval o X.env)(mB:(apos.endLine==pos.line)=true) :
  PI X (.Tuple elts x1 dX) (.Call (.Attribute o "items" apos) [] [] pos) (HZ tl):=by
 intro pins s σ H R I h
 refine wpAny_Call_method (T:="dict") (id:="dict.items") jX rfl mB PySem.F.plainAttrs_dict PySem.F.slot_dict_items PySem.F.type_dict_items (thn (ho pins s σ H _ I h) λv s1 au=>?_)
 obtain⟨x,H1,I1,r1,q1⟩:=au
 obtain⟨d,kvs,rfl,hd,q⟩:=q1
 cases r1
 obtain⟨z,hS,vs,rel,dd⟩:=vE I1.hok (.inl hd)
 have hl:=rel.length
 refine⟨dd.dictOf.typeIs,dd.dictOf.mapOf.noDict,?_⟩
 show wpAny _ _ (callWith pos (.builtin "dict.items") [.ref d] [] []) _ _ s1
 refine method_meetsIn PySem.F.slot_dict_items PySem.F.entry_dict_items rfl (PySem.evalArgs_none ⟨rfl,dd.dictOf.typeIs,PySem.F.args_dict_items_1 _,_,meets_dict_items (cE X.prog X.w) d hS,⟨vs,dd.dictOf⟩,?_⟩)
 refine wpAny_pyIter_items (d:=d) (kvs:=vs) (ep:=vs.length) ⟨_,Heap.get?_push_size _ rfl,rfl,rfl⟩ (dd.push _) ?_
 have I2:Inv X pins σ H1 { s1 with heap:=(s1.heap.push { cls:=.type "dict_items",data:=.fields #[.ref d] }).push { cls:=.type "dict_itemiterator",data:=.fields #[.none,.bool false,.ref d,.int 0 0,.int vs.length 0,.int vs.length 0,.none,.none] } } :=
  I1.kept (t':=s1.toks) λb o e=>Heap.get?_push_of_some _ (Heap.get?_push_of_some _ e)
 refine⟨_,[_],_,Itd d kvs.length,H1,rfl,I2,yi,⟨.none,.none,by rw[hl];exact Heap.get?_push_size _ rfl⟩,λb hb=>?_,q⟩
 have e:s1.heap.objs.size≤b:=by
  simp at hb
  subst hb
  exact Nat.le_succ _
 exact I1.tX e (I1.hok.fresh e)
theorem B9{P:Program}{w:World}{kvs:List (Key×V)}{vs:List (Key×Value)}(r:KV kvs vs){acc:List Value}(hl:acc.length=vs.length)(h:∀(i:Nat) (v:Value),acc[i]?=some v→∃(k:Key) (x:Value),vs[i]?=some (k,x)∧(cE P w).is k v=true):Vals (kvs.map λp=>kV p.1) acc:=by
 unfold KV at r
 induction r generalizing acc with
 | nil=>cases acc with
  | nil=>exact .nil
  | cons a l=>simp at hl
 | @cons p q ps qs h1 t ih =>
  cases acc with
  | nil=>simp at hl
  | cons a l =>
   obtain⟨k,x,e,hk⟩:=h 0 a rfl
   simp at e
   refine .cons ?_ (ih (by simpa using hl) λi v e=>by simpa using h (i+1) v (by simpa using e))
   have:p.1=k:=by rw[h1.1,e]
   show RelV (kV p.1) a
   rw[this]
   exact JC hk
theorem yj{X:Cx}(hc:X.calm=true):cT X (.type "list") (λxs H Q=>∃d kvs,xs=[.ref d]∧H d=some (.dK kvs)∧∀l,H l=none→Q (.ref l) (upd H l (.lst (kvs.map λp=>kV p.1)))):=by
 intro pins s σ H xs us Q I r h
 obtain⟨d,kvs,rfl,hd,q⟩:=h
 obtain⟨u,rfl,ru⟩:=vals1 r
 cases ru
 obtain⟨z,hS,vs,rel,dd⟩:=vE I.hok (.inl hd)
 have hl:=rel.length
 refine PySem.W.kdl_call (PySem.W.kdl_dict (knd:=cE X.prog X.w) (kvs:=vs) (ep:=vs.length) hS) (I.ok.hd hc) dd (by lia) λh' tk NR c' hk hD NS=>?_
 have hv:Vals (kvs.map λp=>kV p.1) NR.toList:=B9 rel (by rw[Array.length_toList];exact NS.1) λj v e=>NS.2 j v (by rw[← Array.getElem?_toList];exact e)
 exact⟨.ref s.heap.objs.size,_,I.laid (a:=s.heap.objs.size) (o:=.lst (kvs.map λp=>kV p.1)) (h':=h') (t':=tk) hk (Nat.le_refl _) ⟨by rw[List.length_map];exact z,NR.toList,c',hv,hD⟩,rfl,q _ I.fresh⟩
end L2
namespace Fw
open PySem PySem.Spec PyProof.Rows L2
section
variable{K:PySem.W.Frag}{F:Hp}
theorem Ao(k:Key):Rep K F (vN k) (kV k):=by
 cases k with
 | inl i=>exact Rep.gD i
 | inr x=>exact Rep.Ho x
theorem bj.get:∀{kts:List (Key×T)}{kvs:List (Key×V)}{i:Nat}{p:Key×T},bj K F kts kvs→kts[i]?=some p→∃v,kvs[i]?=some (p.1,v)∧Rep K F p.2 v
 | [],_,_,_,_,e=>by simp at e
 | (k,t)::kts,kvs,0,p,h,e=>by
  rw[bj] at h
  obtain⟨v,nB,rfl,q,_⟩:=h
  simp at e;subst e
  exact⟨v,rfl,q⟩
 | (k,t)::kts,kvs,i+1,p,h,e=>by
  rw[bj] at h
  obtain⟨v,nB,rfl,q,r⟩:=h
  obtain⟨v',h1,h2⟩:=bj.get (i:=i) r (by simpa using e)
  exact⟨v',by simpa using h1,h2⟩
theorem bj.keys:∀{kts:List (Key×T)}{kvs:List (Key×V)},bj K F kts kvs→aD K F (kts.map λp=>vN p.1) (kvs.map λp=>kV p.1)
 | [],kvs,h=>by rw[bj] at h;subst h;exact .jf
 | (k,t)::kts,kvs,h=>by
  rw[bj] at h
  obtain⟨v,nB,rfl,q,r⟩:=h
  exact .dI (Ao k) r.keys
end
section
variable{X:Cx}{a b:Expr}{da db:D}{pos p:Pos}
theorem wj{elts:List Expr}{x1:Nat}{dX apos cL:Pos}(ha:CE X a da)(jX:attributeBase a "items" X.env (eval a X.env)=eval a X.env:=by rfl)(mB:(apos.endLine==cL.line)=true:=by rfl) :
  CI X (.Tuple elts x1 dX) (.Call (.Attribute a "items" apos) [] [] cL) (jk da) :=
 PI.imp (EI ha jX mB) λσ H R0 au=>by
  obtain⟨F,α,e,μ,S,h⟩:=au
  refine⟨F,α,e,μ,S,(R.wp_bind h).mono (λx μ1 h v H1 F1 α1 x1 S1 o1=>?_) λ_ _ h=>h⟩
  obtain⟨kts,ht,post⟩:=R.bB (R.wp_bind h)
  obtain⟨t,hr,ht⟩:=Option.bind_eq_some_iff.mp ht
  have n1:=aU S1.st o1 hr
  cases t with
  | dct us =>
   cases ht
   obtain⟨d,kvs,rfl,hq,hl⟩:=n1
   have hlen:=hl.length
   refine⟨d,kvs,rfl,hq,post _ H1 F1 α1 x1 S1 λF2 α2 μ2 H2 s2 p2 S2 same=>?_⟩
   obtain⟨d',nB,e1,hq2,hl2⟩:=aU S2 (o1.mono s2 p2) ((show rd μ2 x=rd μ1 x from same).trans hr)
   cases e1
   have JD:=hl2.length
   refine⟨λi t hi=>?_,⟨nB,hq2,by lia,?_⟩⟩
   ·unfold ed at hi
    rw[List.getElem?_map] at hi
    obtain⟨p,hp,rfl⟩:=Option.map_eq_some_iff.mp hi
    obtain⟨v,hv,rv⟩:=hl2.get hp
    refine⟨⟨nB,(p.1,v),hq2,by lia,hv⟩,?_⟩
    rintro z H3 ⟨q,p',rfl,hq',rfl,f⟩
    have w1:=f nB hq2
    rw[hv] at w1
    cases w1
    have g:bw F2 H2 (upd F2 q (.tup [kV p.1,v])) (upd H2 q (.tup [kV p.1,v])):=bw.new hq'
    refine⟨_,g,?_⟩
    rw[Rep]
    exact⟨q,_,rfl,SqT.of aB,.dI (Ao p.1) (.dI (Rep.mono (g.same S2.ext) _ _ rv) .jf)⟩
   ·show kvs.length≤(ed kts).length
    unfold ed
    rw[List.length_map]
    lia
  | _=>cases ht
theorem EJ(hm:X.mg "list"=none)(ha:CE X a da)(hc:X.calm=true:=by rfl)(hg:Gl X "list":=by rfl)(hs1:starEach [a] X.env=(false,eval a X.env)::starEach [] X.env:=by rfl)(hpl:(backTo pos (starEach [] X.env)).any (·.1)=false:=by rfl) :
  CF X (.Call (.Name "list" p) [a] [] pos) (dUn vO da):=D_ (yj hc) (by
 intro F H v t w Q s hv hw q
 cases t with
 | dct ts =>
  cases hw
  obtain⟨a,vs,rfl,hq,hl⟩:=hv
  exact⟨a,vs,rfl,hq,λl hp=>q l _ hp ⟨_,aB,hl.keys⟩⟩
 | _=>cases hw) hm (by decide +kernel) ha hg (by decide) (by decide) hs1 hpl
theorem Ap{id:String}{x:Str}{r:List V→Hp→VK→Prop}{g:T→T→Option T}(hc:cT X (.builtin id) r)(hs:vR X.K r g)(hm:X.mg x=none)(hv:bootBuiltins x=some (.builtin id))(ha:CE X a da)(hb:CE X b db)(hg:Gl X x:=by rfl)(hn:x≠"__name__":=by decide)
  (hdb:(x==("__debug__":Str))=false:=by decide) (hs1:starEach [a,b] X.env=(false,eval a X.env)::starEach [b] X.env:=by rfl) (hs2:starEach [b] X.env=(false,eval b X.env)::starEach [] X.env:=by rfl) (hpl:(backTo pos (starEach [b] X.env)).any (·.1)=false:=by rfl):CE X (.Call (.Name x p) [a,b] [] pos) (ah g da db) :=
 PE.imp (mx hc hg hm hv (ag ha (ag hb aq hs2) hs1) hn hdb hs1 hpl) (call2 hs)
theorem Ly(hm:X.mg "min"=none)(ha:CE X a da)(hb:CE X b db)(hc:X.calm=true:=by rfl)(hg:Gl X "min":=by rfl)(hs1:starEach [a,b] X.env=(false,eval a X.env)::starEach [b] X.env:=by rfl)(hs2:starEach [b] X.env=(false,eval b X.env)::starEach [] X.env:=by rfl)(hpl:(backTo pos (starEach [b] X.env)).any (·.1)=false:=by rfl) :
  CE X (.Call (.Name "min" p) [a,b] [] pos) (ah HE da db):=Ap (Bw hc) (by
 intro F H v u t t' w Q s hv hu hw q
 cases t<;>cases t'<;>first|cases hw|skip
 exact⟨_,_,by rw[hv.int,hu.int],q _ H F bw.refl (Rep.gD _)⟩) hm (by decide +kernel) ha hb hg (by decide) (by decide) hs1 hs2 hpl
theorem Lz(hm:X.mg "max"=none)(ha:CE X a da)(hb:CE X b db)(hc:X.calm=true:=by rfl)(hg:Gl X "max":=by rfl)(hs1:starEach [a,b] X.env=(false,eval a X.env)::starEach [b] X.env:=by rfl)(hs2:starEach [b] X.env=(false,eval b X.env)::starEach [] X.env:=by rfl)(hpl:(backTo pos (starEach [b] X.env)).any (·.1)=false:=by rfl) :
  CE X (.Call (.Name "max" p) [a,b] [] pos) (ah Lh da db):=Ap (Bv hc) (by
 intro F H v u t t' w Q s hv hu hw q
 cases t<;>cases t'<;>first|cases hw|skip
 exact⟨_,_,by rw[hv.int,hu.int],q _ H F bw.refl (Rep.gD _)⟩) hm (by decide +kernel) ha hb hg (by decide) (by decide) hs1 hs2 hpl
end
section
variable{X:Cx}{a b:Expr}{da db:D}{pos p:Pos}{k:Nat}
end
end Fw
namespace L2
open PySem PySem.Spec PyProof.Rows
open AutoSeq1 (wpAny_loadPart')
theorem EK{prog:Program}{w:World}{A:Around}{k:Bool}(hh:A.handled=none)(it l:Addr)(hne:l≠it)(items:Array Value) :
  Draws prog w A it [it,l] items.size (λi v=>items[i]?=some v) (λi h=>KIt k h it l i∧KSq k h l items) where
 live:=λ_ _ st=>by obtain⟨o,ho,_⟩:=st.1.ob;exact⟨o,ho⟩
 frame:=λ_ _ _ st hk=>⟨st.1.at λo e=>hk it (by simp) o e,st.2.at λo e=>hk l (by simp) o e⟩
 item:=λi s Q E hi st hQ=>gJ st.1 st.2 (x:=items[i]) (by simp[hi]) λh' B_ hs'=>hQ _ h' s.toks (by simp[hi]) ⟨B_,st.2.at λo e=>hs'.extBut _ _ hne e⟩ hs'
 done:=λs Q E st hE=>kU hh st.1 st.2 (by simp) hE
abbrev eH(k:Bool)(h:Heap)(l:Addr):Heap:=(h.push (dP k l)).push { cls:=.type "enumerate",data:=.fields #[.none,.bool false,.ref h.objs.size,rawInt 0,.none,.none] }
set_option maxHeartbeats 4000000 in
theorem Ca(l:Addr)(items:Array Value)(n:Nat)(dct:Option Addr)(sl:Array (Option Value)) :
  Meets (Builtin.«enumerate.__new__» ⟨[.type "enumerate",.ref l],[]⟩) (λ_ R s=>s.heap.get? l=some { cls:=.type "tuple",dict:=dct,data:=.seq items n,slots:=sl } ∧
   R (.ok (.ret (.ref (s.heap.push (dP false l)).objs.size))) { s with heap:=eH false s.heap l }) :=
 .of_wp λprog w A R s h=>by
  obtain⟨hp,g,d,tk,os⟩:=s
  obtain⟨hl,h⟩:=h
  have HL:=sub_enumerate
  have hT:Heap.IsTuple (Shared.heap ⟨hp,g,d,tk,os⟩) l items:=⟨_,hl,rfl,n,rfl⟩
  wp_walk using wpAny_loadPart' hl
  refine wpAny_stack_any λst=>wpAny_pure ?_
  split
  ·rename_i c _ _ _ _ _
   cases (c==Value.type "enumerate")
   ·(wp_walk using wpAny_loadPart' hl,wpAny_pyIter_tuple hT);exact⟨_,rfl,h⟩
   ·(wp_walk using wpAny_loadPart' hl,wpAny_pyIter_tuple hT);exact⟨_,rfl,h⟩
  ·(wp_walk using wpAny_loadPart' hl,wpAny_pyIter_tuple hT);exact⟨_,rfl,h⟩
section
variable{prog:Program}{w:World}{A:Around}{E:Value→Shared→Prop}{s:Shared}
theorem yk{k:Bool}{l:Addr}{xs:Array Value}{Q:Value→Shared→Prop}(hl:KSq k s.heap l xs)
  (h:∀h',IsEnum h' (s.heap.objs.size+1) s.heap.objs.size 0 .none→KIt k h' s.heap.objs.size l 0→h'.objs.size=s.heap.objs.size+2→(∀c o,s.heap.get? c=some o→h'.get? c=some o)→Q (.ref (s.heap.objs.size+1)) { s with heap:=h' }) :
  wpAny (model prog w) A (call (.type "enumerate") [.ref l]) Q E s:=by
 cases k with
 | true=>exact call_enumerate_list hl h
 | false =>
  obtain⟨⟨c,dct,dt,sl⟩,hg,hc,n,hd⟩:=hl
  simp only at hc hd
  subst hc hd
  refine callType_new F.called_enumerate (by decide) (F.typeCall_enumerate_1 _) (F.newCall_enumerate_1 _) (λobj=>F.args_object_init_2 obj _) F.entry_enumerate_new (Ca l xs n dct sl) ⟨hg,?_⟩
  have z1:(s.heap.push (dP false l)).objs.size=s.heap.objs.size+1:=Heap.size_push ..
  have g2:(eH false s.heap l).get? (s.heap.push (dP false l)).objs.size=some _:=Heap.get?_push_size _ rfl
  have g1:(eH false s.heap l).get? s.heap.objs.size=some (dP false l):=Heap.get?_push_of_some _ (Heap.get?_push_size _ rfl)
  show _∧_
  rw[z1] at g2
  rw[z1]
  exact⟨⟨_,g2,rfl⟩,h _ g2 (KIt.new g1) (by rw[Heap.size_push,z1]) λc o q=>Heap.get?_push_of_some _ (Heap.get?_push_of_some _ q)⟩
end
def Ite(K:PySem.W.Frag)(k:Bool)(a:Addr):It :=
 ⟨λi H=>∃xs x,fG K k H a xs∧xs[i]?=some x,
  λi H v H'=>∃p x,v=.ref p∧H p=none∧H'=upd H p (.tup [.int (i:Int),x])∧∀xs,fG K k H a xs→xs[i]?=some x,
  λi H=>∃xs,fG K k H a xs∧xs.length=i⟩
structure ESt(k:Bool)(z i1 l1:Addr)(i:Nat)(h:Heap):Prop where
 z:∃old,IsEnum h z i1 (i:Int) old
 one:KIt k h i1 l1 i
theorem Cb{P:Program}{w:World}{K:PySem.W.Frag}{elts:List Expr}{x1:Nat}{pos:Pos}{k:Bool}{z i1 l1:Addr}(d:z≠i1) :
  Turn P w K (.Tuple elts x1 pos) (Ite K k l1) [z,i1] z (ESt k z i1 l1):=by
 refine⟨by simp,λi h st b hb=>?_,λi h h' st k'=>?_,?_,?_,λA i s Q E st hq=>?_⟩
 ·obtain⟨old,hz⟩:=st.z
  obtain⟨o1,e1,q1⟩:=st.one.ob
  simp only[List.mem_cons,List.not_mem_nil,or_false] at hb
  rcases hb with rfl|rfl
  ·exact⟨_,hz,λv e=>by cases e⟩
  ·exact⟨_,e1,λv e=>by rw[q1] at e;cases e⟩
 ·obtain⟨old,hz⟩:=st.z
  exact⟨⟨old,k' z (by simp) _ hz⟩,st.one.at λo e=>k' i1 (by simp) o e⟩
 ·intro X hP hw hK hc i pins s σ H E I hf st hg
  obtain⟨xs,x,h1,hx⟩:=hg
  subst hP hw hK
  obtain⟨jT,r1,s1,z1⟩:=I.ksq h1
  obtain⟨u,hu,ru⟩:=r1.get hx
  obtain⟨old,hz⟩:=st.z
  have hli:l1≠i1:=dQ I h1 (hf i1 (by simp))
  have hlz:l1≠z:=dQ I h1 (hf z (by simp))
  obtain⟨o1,e1,_⟩:=st.one.ob
  have hlt:i<jT.toArray.size:=by
   have:=(List.getElem?_eq_some_iff.mp hu).1
   simpa using this
  have hne:z∉[i1,l1]:=by
   simp only[List.mem_cons,List.not_mem_nil,or_false,not_or]
   exact⟨d,λe=>hlz e.symm⟩
  refine wpAny_pyNext_enum_itemD (EK (k:=k) (A:=X.A.in1) (I.ok.hd hc) i1 l1 hli jT.toArray) hz ⟨st.one,s1⟩ hlt d hne λy h' tk hy g1 g2 g3 g4 g5=>⟨_,rfl,?_⟩
  have ey:y=u:=by
   have hy:jT[i]?=some y:=by simpa using hy
   rw[hu] at hy
   exact(Option.some.inj hy).symm
  subst ey
  refine wpAny_letOwnedTupleGo_enum g1 λh'' q1 q2=>?_
  have lt:∀{c:Addr}{o:Obj},s.heap.get? c=some o→c≠s.heap.objs.size:=λe=>Nat.ne_of_lt (Heap.lt_size e)
  have hTz:s.heap.objs.size≠z:=(lt hz).symm
  have new:h''.get? s.heap.objs.size=some { cls:=.type "tuple",data:=.seq #[.int i tk,y] }:=q2.extBut _ _ hTz g3
  refine⟨.ref s.heap.objs.size,upd H s.heap.objs.size (.tup [.int (i:Int),x]),?_,rfl,⟨s.heap.objs.size,x,rfl,I.hok.fresh (Nat.le_refl _),rfl,λws hw=>by rw[I.pG hw h1];exact hx⟩,?_,λc hcm=>?_⟩
  ·refine(I.pI (ch:=[z,i1]) (h':=h'') (λc o hcn e=>?_) (λc hcm=>hf c hcm) ?_).tok _
   ·simp at hcn
    exact q2.extBut _ _ hcn.1 (g5 c o hcn.1 hcn.2 e)
   ·exact⟨by show 2≤sizeLine;decide,[.int i tk,y],.cons ⟨tk,rfl⟩ (.cons ru .nil),⟨_,new,rfl,0,rfl⟩⟩
  ·exact⟨⟨_,by simpa using q1⟩,g2.1.at λo e=>q2.extBut _ _ d.symm e⟩
  ·rw[aG]
   ·exact(hf c hcm).1
   ·simp only[List.mem_cons,List.not_mem_nil,or_false] at hcm
    rcases hcm with rfl|rfl
    ·exact lt hz
    ·exact lt e1
 ·intro X hP hw hK hc i pins s σ H E I hf st hg
  obtain⟨xs,h1,hle⟩:=hg
  subst hP hw hK
  obtain⟨jT,r1,s1,z1⟩:=I.ksq h1
  obtain⟨old,hz⟩:=st.z
  have hli:l1≠i1:=dQ I h1 (hf i1 (by simp))
  have l1':=r1.length
  have en:jT.toArray.size=i:=by simp;lia
  refine wpAny_pyNext_enum_endD (EK (k:=k) (A:=X.A.in1) (I.ok.hd hc) i1 l1 hli jT.toArray) hz ⟨by rw[en];exact st.one,s1⟩ λh' g7=>⟨rfl,I.pH (t':=s.toks) (ch:=[z,i1]) (λc o hcn e=>?_) λc hcm=>hf c hcm⟩
  simp at hcn
  exact g7 c o hcn.2 e
 ·obtain⟨old,hz⟩:=st.z
  exact wpAny_pyIter_enum hz hq
def LA(K:PySem.W.Frag)(t:TA):TI:=λσ H R=>t σ H λvs H1=>∃a k xs,vs=[.ref a]∧fG K k H1 a xs∧R (Ite K k a) H1
theorem H_{X:Cx}{elts:List Expr}{x1:Nat}{dX p pos:Pos}{a:Expr}{t:TA}(hg:Gl X "enumerate")(hm:X.mg "enumerate"=none)(ha:PA X [a] t)(he:starEach [a] X.env=(false,eval a X.env)::starEach [] X.env)(hpl:(backTo pos (starEach [] X.env)).any (·.1)=false) :
  PI X (.Tuple elts x1 dX) (.Call (.Name "enumerate" p) [a] [] pos) (LA X.K t):=by
 intro pins s σ H R I h
 refine wpAny_Call_Name_kw (lO I hg hm PyProof.Rows.boot_enumerate ?_ (by decide) (by decide))
 refine PyProof.Rows.callWith_type1 (thn (ha pos pins s σ H _ I h) λus s1 au=>?_) he hpl
 obtain⟨vs,H1,I1,r1,q1⟩:=au
 obtain⟨c,k,xs,rfl,h1,q⟩:=q1
 obtain⟨u1,rfl,ru1⟩:=vals1 r1
 cases ru1
 obtain⟨jT,_,s1',_⟩:=I1.ksq h1
 refine yk s1' λh' g1 g2 g6 g7=>wpAny_pyIter_enum g1 ?_
 have I2:Inv X pins σ H1 { s1 with heap:=h' }:=I1.kept (t':=s1.toks) g7
 refine⟨_,_,_,_,H1,rfl,I2,Cb (k:=k) (i1:=s1.heap.objs.size) (l1:=c) (λe=>by have e:s1.heap.objs.size+1=s1.heap.objs.size:=e;lia),⟨⟨_,g1⟩,g2⟩,λe he=>?_,q⟩
 have:s1.heap.objs.size≤e:=by
  simp only[List.mem_cons,List.not_mem_nil,or_false] at he
  rcases he with rfl|rfl
  ·exact Nat.le_add_right _ _
  ·exact Nat.le_refl _
 exact I1.tX this (I1.hok.fresh this)
end L2
namespace Fw
open PySem PySem.Spec PyProof.Rows L2
theorem Aq{X:Cx}{elts:List Expr}{x1:Nat}{dX p pos:Pos}{a:Expr}{da:D}(hm:X.mg "enumerate"=none)(ha:CE X a da)(hg:Gl X "enumerate":=by rfl)(hs:starEach [a] X.env=(false,eval a X.env)::starEach [] X.env:=by rfl)(hpl:(backTo pos (starEach [] X.env)).any (·.1)=false:=by rfl) :
  CI X (.Tuple elts x1 dX) (.Call (.Name "enumerate" p) [a] [] pos) (qt da) :=
 PI.imp (H_ hg hm (ag ha aq hs) hs hpl) λσ H R0 au=>by
  obtain⟨F,α,e,μ,S,h⟩:=au
  refine oE ⟨F,α,e,μ,S,(R.wp_bind h).mono (λx μ1 h v H1 F1 α1 x1 S1 o1=>?_) λ_ _ h=>h⟩
  obtain⟨ts,ht,post⟩:=R.bB (R.wp_bind h)
  obtain⟨t,hr,ht⟩:=Option.bind_eq_some_iff.mp ht
  obtain⟨a1,vs1,k1,rfl,q1,r1,m1⟩:=g8 S1.st.ext (aU S1.st o1 hr) ht
  refine⟨a1,k1,vs1,rfl,q1,post _ H1 F1 α1 x1 S1 λF2 α2 μ3 H2 s2 p2 S2 same=>?_⟩
  have e1:rd μ3 x=rd μ1 x:=same
  obtain⟨b1,ws1,j1,g1,n1,l1,m1'⟩:=g8 S2.ext (aU S2 (o1.mono s2 p2) (e1.trans hr)) ht
  cases g1
  have ej1:j1=k1:=by rw[Bool.eq_iff_iff,m1,m1']
  subst ej1
  refine⟨λi t hi=>?_,?_⟩
  ·obtain⟨c,hc,rfl⟩:=nG hi
   obtain⟨v1,hv1,rv1⟩:=l1.get hc
   refine⟨⟨ws1,v1,n1,hv1⟩,?_⟩
   rintro z H3 ⟨q,z1,rfl,hq,rfl,f1⟩
   have w1:=f1 ws1 n1
   rw[hv1] at w1
   cases w1
   have g:bw F2 H2 (upd F2 q (.tup [.int (i:Int),v1])) (upd H2 q (.tup [.int (i:Int),v1])):=bw.new hq
   refine⟨_,g,?_⟩
   rw[Rep]
   rw[Int.zero_add]
   exact⟨q,_,rfl,SqT.of aB,aD.mono (g.same S2.ext) _ _ (.dI (Rep.gD _) (.dI rv1 .jf))⟩
  ·refine⟨ws1,n1,?_⟩
   have:=l1.length
   show ws1.length=(dJ 0 ts).length
   rw[nF]
   lia
end Fw
namespace L2
open PySem PySem.Spec PyProof.Rows
end L2
namespace Fw
open PySem PySem.Spec PyProof.Rows L2
section
variable{K:PySem.W.Frag}
theorem qB{F:Hp}{t:T}{v:V}(h:Rep K F t v)(f:fB t=true):lr v=true∧∀{t':T}{v':V},Rep K F t' v'→fB t'=true→eqV v v'=eqT t t':=by
 cases t with
 | non=>cases h.je;exact⟨rfl,λ{t' v'} h' f'=>by
   cases t' with
   | non=>cases h'.je;simp[eqV,eqT]
   | bl b=>cases h'.gT;simp[eqV,eqT]
   | int b=>cases h'.jd;simp[eqV,eqT]
   | str b=>cases h'.lV;simp[eqV,eqT]
   | _=>cases f'⟩
 | bl c=>cases h.gT;exact⟨rfl,λ{t' v'} h' f'=>by
   cases t' with
   | non=>cases h'.je;simp[eqV,eqT]
   | bl b=>cases h'.gT;simp[eqV,eqT]
   | int b=>cases h'.jd;simp[eqV,eqT]
   | str b=>cases h'.lV;simp[eqV,eqT]
   | _=>cases f'⟩
 | int c=>cases h.jd;exact⟨rfl,λ{t' v'} h' f'=>by
   cases t' with
   | non=>cases h'.je;simp[eqV,eqT]
   | bl b=>cases h'.gT;simp[eqV,eqT]
   | int b=>cases h'.jd;simp[eqV,eqT]
   | str b=>cases h'.lV;simp[eqV,eqT]
   | _=>cases f'⟩
 | str c=>cases h.lV;exact⟨rfl,λ{t' v'} h' f'=>by
   cases t' with
   | non=>cases h'.je;simp[eqV,eqT]
   | bl b=>cases h'.gT;simp[eqV,eqT]
   | int b=>cases h'.jd;simp[eqV,eqT]
   | str b=>cases h'.lV;simp[eqV,eqT]
   | _=>cases f'⟩
 | _=>cases f
theorem nO{F:Hp}{t:T}{v:V}(h:Rep K F t v)(f:fB t=true):∀{us:List T}{vs:List V},aD K F us vs→us.all fB=true→vs.all lr=true∧inV v vs=inT t us
 | [],vs,r,_=>by rw[aD] at r;subst r;exact⟨rfl,rfl⟩
 | u::us,vs,r,hf=>by
  rw[aD] at r
  obtain⟨v1,vs1,rfl,r1,r2⟩:=r
  rw[List.all_cons,Bool.and_eq_true] at hf
  obtain⟨a,b⟩:=nO h f r2 hf.2
  obtain⟨c,d⟩:=qB r1 hf.1
  refine⟨by rw[List.all_cons,c,a];rfl,?_⟩
  unfold inV inT at b ⊢
  rw[List.any_cons,List.any_cons,b,d h f]
theorem Now.flat{F H:Hp}{v:V}{t:T}(h:Now K F H v t)(f:fB t=true):Rep K F t v:=by
 cases t with
 | non=>exact h
 | bl b=>exact h
 | int b=>exact h
 | str b=>exact h
 | _=>cases f
theorem EL:dO K (rIn K false) fIn:=by
 intro F H v u t t' w Q s hv hu hw q
 unfold fIn at hw
 cases e:bu t' with
 | none=>rw[e] at hw;cases hw
 | some us =>
  rw[e] at hw
  simp only at hw
  by_cases hf:(fB t && us.all fB)=true
  ·rw[if_pos hf] at hw
   cases hw
   rw[Bool.and_eq_true] at hf
   obtain⟨a,vs,k,rfl,hq,hl,_⟩:=g8 s hu e
   obtain⟨f1,f2⟩:=nO (hv.flat hf.1) hf.1 hl hf.2
   have fx:=(qB (hv.flat hf.1) hf.1).1
   refine⟨a,vs,rfl,?_,fx,f1,?_⟩
   ·cases k with
    | true=>exact .inl hq
    | false=>exact .inr hq
   ·rw[f2];exact q _ H F bw.refl (Rep.bl' _)
  ·rw[if_neg hf] at hw;cases hw
theorem Ia:dO K (rIn K true) nH:=by
 intro F H v u t t' w Q s hv hu hw q
 unfold nH at hw
 cases e:bu t' with
 | none=>rw[e] at hw;cases hw
 | some us =>
  rw[e] at hw
  simp only at hw
  by_cases hf:(fB t && us.all fB)=true
  ·rw[if_pos hf] at hw
   cases hw
   rw[Bool.and_eq_true] at hf
   obtain⟨a,vs,k,rfl,hq,hl,_⟩:=g8 s hu e
   obtain⟨f1,f2⟩:=nO (hv.flat hf.1) hf.1 hl hf.2
   have fx:=(qB (hv.flat hf.1) hf.1).1
   refine⟨a,vs,rfl,?_,fx,f1,?_⟩
   ·cases k with
    | true=>exact .inl hq
    | false=>exact .inr hq
   ·rw[f2];exact q _ H F bw.refl (Rep.bl' _)
  ·rw[if_neg hf] at hw;cases hw
end
section
variable{X:Cx}{a b c:Expr}{da db dc:D}{pos p p2:Pos}{k:Nat}
theorem EM(hr:b_ k X.A)(ha:CE X a da)(hb:CE X b db)(hm:behindInMarks .In b=false:=by with_unfolding_all rfl):CE X (.Compare a [.In] [b] pos) (ah fIn da db):=xW sd EL hm ha hb
theorem NU(hr:b_ k X.A)(ha:CE X a da)(hb:CE X b db)(hm:behindInMarks .In b=false:=by with_unfolding_all rfl):CT X (.Compare a [.In] [b] pos) (ah fIn da db):=gF sd EL hm ha hb
theorem EN(hr:b_ k X.A)(ha:CE X a da)(hb:CE X b db)(hm:behindInMarks .NotIn b=false:=by with_unfolding_all rfl):CT X (.Compare a [.NotIn] [b] pos) (ah nH da db):=gF t6 Ia hm ha hb
theorem Ar(hm:X.mg "int"=none)(ha:CE X a da)(hg:Gl X "int":=by rfl)(hs1:starEach [a] X.env=(false,eval a X.env)::starEach [] X.env:=by rfl)(hpl:(backTo pos (starEach [] X.env)).any (·.1)=false:=by rfl) :
  CE X (.Call (.Name "int" p) [a] [] pos) (dUn nJ da):=D9 Bx (by
 intro F H v t w Q s hv hw q
 cases t with
 | int i=>cases hw;cases hv.int;exact .inl ⟨i,rfl,q _ H F bw.refl (Rep.gD _)⟩
 | bl i=>cases hw;cases Rep.gT (K:=X.K) (F:=F) hv;exact .inr ⟨i,rfl,q _ H F bw.refl (Rep.gD _)⟩
 | _=>cases hw) hm (by decide +kernel) ha hg (by decide) (by decide) hs1 hpl
end
end Fw
namespace L2
open PySem PySem.Spec PyProof.Rows
end L2
namespace Fw
open PySem PySem.Spec PyProof.Rows L2
section
variable{X:Cx}{a b c:Expr}{da db dc:D}{pos p p2 pu pc:Pos}{k:Nat}
end
section
variable{X:Cx}{a b c:Expr}{da db dc:D}{pos p p2 pu pc:Pos}{k:Nat}
end
section
variable{X:Cx}{pos:Pos}
end
section
variable{X:Cx}{pos p:Pos}{k:Nat}{a:Expr}{da:D}
end
section
variable{X:Cx}{a b:Expr}{da db:D}{pos p:Pos}{k:Nat}
end
section
variable{X:Cx}{a b:Expr}{da db:D}{pos:Pos}
end
section
variable{X:Cx}{body:List Stmt}{es:List Expr}{ds:List D}{d:DS}{pos np lp:Pos}
end
end Fw
namespace L2
open PySem PySem.Spec PyProof.Rows
section
variable{prog:Program}{w:World}{A:Around}{E:Value→Shared→Prop}{s:Shared}
end
section
variable{prog:Program}{w:World}{A:Around}{E:Value→Shared→Prop}{s:Shared}
end
end L2
namespace Fw
open PySem PySem.Spec PyProof.Rows L2
end Fw
namespace L2
open PySem PySem.Spec PyProof.Rows
open AutoSeq1 (wpAny_loadPart')
section
variable{prog:Program}{w:World}{A:Around}{E:Value→Shared→Prop}{s:Shared}
end
end L2
namespace HT
open PySem PySem.Spec PyProof.Rows L2
section
variable{prog:Program}{w:World}{A:Around}{E:Value→Shared→Prop}{s:Shared}
end
end HT
namespace L2
open PySem PySem.Spec PyProof.Rows
end L2
namespace Fw
open PySem PySem.Spec PyProof.Rows L2
end Fw
namespace Fw
open PySem L2 PyProof.Rows
abbrev bmV:List Value:=[.type "ValueError",.type "Exception",.type "BaseException",.type "object"]
theorem As{K:PySem.W.Frag}{C:Addr}(h:PySem.W.excIn K C bmV "ValueError.__new__"=true):Ek K C:=⟨⟨_,_,h,by decide⟩⟩
theorem Ib{K:PySem.W.Frag}{C:Addr}{v:Value}{b:Bool}(h:PySem.W.mroIn K C v=some b):(BZ K C).contains v=b:=by
 unfold PySem.W.mroIn PySem.W.clsIn at h
 unfold BZ
 split at h
 ·rename_i ho
  rw[ho]
  simp only[Option.bind_some] at h
  split at h
  ·cases h
  ·exact Option.some.inj h
 ·cases h
theorem LB{X:Cx}{hs:List ExceptHandler}{R:Str}{d:DS}(h:CH1 X hs R d):CH X hs (λn=>if n=R then d else ug):=CH.of λn=>by
 by_cases hn:n=R
 ·rw[if_pos hn,hn];exact h
 ·rw[if_neg hn];exact HJ
abbrev qC(X:Cx):Cx:={ X with xe:=λ_ _=>False }
section
variable{X:Cx}{pins:List (Addr×Obj)}{σ:L2.St}{H:Hp}{s:Shared}
theorem ym(I:Inv X pins σ H s):Inv (qC X) pins σ H s :=
 ⟨⟨I.ok.mod,I.ok.kind,I.ok.glob,I.ok.blt,I.ok.above,I.ok.inj,I.ok.has,I.ok.cab,I.ok.hd,I.ok.frames,I.ok.stk,I.ok.exf,I.ok.bs,I.ok.bsz,I.ok.tT,I.ok.xw,I.ok.lM,I.ok.frf⟩,I.os,I.bare,I.base,I.loc,I.cell,I.free,I.fZ,I.pin,I.hok,I.len⟩
theorem gh(ok:X.Ok)(I:Inv (qC X) pins σ H s):Inv X pins σ H s :=
 ⟨ok,I.os,I.bare,I.base,I.loc,I.cell,I.free,I.fZ,I.pin,I.hok,I.len⟩
theorem wk{D:Ends}{f:Flow}(ok:X.Ok)(h:SP (qC X) pins D f s):SP X pins D f s:=by
 cases f with
 | next=>obtain⟨σ',H',I,q⟩:=h;exact⟨σ',H',gh ok I,q⟩
 | brk=>obtain⟨σ',H',I,q⟩:=h;exact⟨σ',H',gh ok I,q⟩
 | cont=>obtain⟨σ',H',I,q⟩:=h;exact⟨σ',H',gh ok I,q⟩
 | ret u=>obtain⟨v,σ',H',I,r,q⟩:=h;exact⟨v,σ',H',gh ok I,r,q⟩
end
theorem Cc{X:Cx}{F H:Hp}{α:List Addr}{D:Ends}{d:DS}{e:Slots}{μ:af}(h:aR X F α H D (fC d e μ)):aR (qC X) F α H D (d e μ):=by
 unfold fC at h
 cases q:d e μ with
 | err c e1 μ1=>rw[q] at h;exact False.elim h
 | nx e1 μ1=>rw[q] at h;exact h
 | rt y μ1=>rw[q] at h;exact h
 | bk e1 μ1=>rw[q] at h;exact h
 | ct e1 μ1=>rw[q] at h;exact h
 | bad=>rw[q] at h;exact h
theorem EO{X:Cx}{body:List Stmt}{d:DS}(h:CSs (qC X) body d):CSs X body (fC d):=by
 intro pins s σ H D I ⟨F,α,e,μ,S,hd⟩
 exact wpAny_mono (h pins s σ H D (ym I) ⟨F,α,e,μ,S,Cc hd⟩) (λf s' q=>wk I.ok q) λ_ _ z=>z.elim
section
variable{X:Cx}{a:Expr}{da:D}{p pos:Pos}{b:Bool}
end
section
variable{X:Cx}{E:Value→Shared→Prop}{pins:List (Addr×Obj)}{σ:L2.St}{H:Hp}{s:Shared}
end
end Fw
namespace L2
open PySem PySem.Spec PyProof.Rows Fw
section
variable{X:Cx}
theorem jl:∀{us:List Value}{ns:List Int},IntsAre us ns→Vals (ns.map V.int) us
 | _,_,.nil=>.nil
 | _,_,.cons _ _ h=>.cons ⟨_,rfl⟩ (jl h)
theorem wm:cT X (.builtin "sorted") (λxs H Q=>∃(p:Addr) (ns:List Int),xs=[.ref p]∧SqL X.K H p (ns.map V.int)∧ns.length<64∧∀q,H q=none→Q (.ref q) (upd H q (.lst ((jS ns).map V.int)))):=by
 intro pins s σ H xs us Q I r h
 obtain⟨p,ns,rfl,hq,hlt,q⟩:=h
 obtain⟨u,rfl,ru⟩:=vals1 r
 cases ru
 obtain⟨its,rv,pl,hz⟩:=I.list hq
 have hi:IntsAre its ns:=intsAre_of rv
 have hl:=rv.length
 rw[List.length_map] at hl hz
 refine sorted_ints pl.isList hi (by omega) λout ns' a1 a2 a3=>?_
 have e:ns'=jS ns:=Af a2 a3
 subst e
 have hv:=jl a1
 have hsz:((s.heap.push (seqObj "list" #[] 0)).update s.heap.objs.size (Obj.mapSeq (·++its.toArray))).objs.size=s.heap.objs.size+1:=by
  rw[Heap.size_update,Heap.size_push]
 have keep:∀b o,s.heap.get? b=some o→(sortedAll s.heap its out).get? b=some o:=λb o e=>by
  have hb:=Heap.lt_size e
  have n1:s.heap.objs.size≠b:=Nat.ne_of_gt hb
  have n2:s.heap.objs.size+1≠b:=Nat.ne_of_gt (Nat.lt_succ_of_lt hb)
  unfold sortedAll sortedHeap
  rw[Heap.get?_update_other _ _ n2]
  refine Heap.get?_push_of_some _ (Heap.get?_push_of_some _ ?_)
  rw[Heap.get?_update_other _ _ n2]
  refine Heap.get?_push_of_some _ ?_
  rw[Heap.get?_update_other _ _ n1]
  exact Heap.get?_push_of_some _ e
 have new:∃c,(sortedAll s.heap its out).get? (s.heap.objs.size+1)=some { cls:=.type "list",data:=.seq out c }:=by
  have h1:(((s.heap.push (seqObj "list" #[] 0)).update s.heap.objs.size (Obj.mapSeq (·++its.toArray))).push (seqObj "list" its.toArray 0)).get? (s.heap.objs.size+1)=some (seqObj "list" its.toArray 0):=by
   rw[← hsz];exact Heap.get?_push_size _ rfl
  have h2:=Heap.get?_update_self (Obj.mapSeq λ_=>(#[]:Array Value)) h1 rfl
  have h3:=Heap.get?_push_of_some (seqObj "list" #[] 0) (Heap.get?_push_of_some (seqObj "tuple" its.toArray 0) h2)
  have h4:=Heap.get?_update_self (Obj.mapSeq λ_=>out) h3 rfl
  exact⟨_,h4⟩
 obtain⟨c,hc⟩:=new
 have hle:s.heap.objs.size≤s.heap.objs.size+1:=Nat.le_succ _
 refine⟨.ref (s.heap.objs.size+1),_,I.laid (a:=s.heap.objs.size+1) (o:=.lst ((jS ns).map V.int)) (t':=s.toks) keep hle ⟨?_,out.toList,c,hv,?_⟩,rfl,q _ (I.hok.fresh hle)⟩
 ·rw[List.length_map,(iT ns).length_eq];exact hz
 ·simpa using hc
end
end L2
namespace Fw
open PySem PySem.Spec PyProof.Rows L2
section
variable{X:Cx}{a:Expr}{da:D}{p pos:Pos}
theorem Cd(hm:X.mg "sorted"=none)(ha:CE X a da)(hg:Gl X "sorted":=by rfl)(hs1:starEach [a] X.env=(false,eval a X.env)::starEach [] X.env:=by rfl)(hpl:(backTo pos (starEach [] X.env)).any (·.1)=false:=by rfl) :
  CE X (.Call (.Name "sorted" p) [a] [] pos) (dUn kS da):=mL wm (by
 intro F H v t w Q s hv hw q
 cases t with
 | lst ts =>
  obtain⟨ns,h1,h2⟩:=Option.bind_eq_some_iff.mp (show((cM ts).bind λns=>if ns.length<64 then some (T.lst ((jS ns).map T.int)) else none)=some w from hw)
  obtain⟨a,vs,rfl,hq,hl⟩:=hv.lh
  rw[nN h1] at hl
  rw[hl.Ew] at hq
  by_cases hlt:ns.length<64
  ·rw[if_pos hlt] at h2
   cases h2
   exact⟨a,ns,rfl,hq,hlt,λp hp=>pF s hp (aD.mH _) q⟩
  ·rw[if_neg hlt] at h2;cases h2
 | _=>cases hw) hm (by decide +kernel) ha hg (by decide) (by decide) hs1 hpl
end
def Ic(K:PySem.W.Frag)(neg:Bool):R2:=λx y H Q=>∃t ts,Rep K H t x∧Rep K H (.lst ts) y∧okT 100 t=true∧okT 100 (.lst ts)=true∧Q (.bl (if neg then !inT t ts else inT t ts)) H
mutual
theorem ER:∀(n:Nat) (t:T),okT n t=true→okT (n+1) t=true
 | n,.non,_=>by simp
 | n,.bl _,_=>by simp
 | n,.int _,_=>by simp
 | n,.str x,h=>by unfold okT at h ⊢;exact h
 | 0,.lst ts,h=>by rw[okT] at h;cases h
 | n+1,.lst ts,h=>by rw[okT] at h ⊢;exact uE n ts h
 | 0,.tup ts,h=>by rw[okT] at h;cases h
 | n+1,.tup ts,h=>by rw[okT] at h ⊢;exact uE n ts h
 | n,.dct _,h=>by unfold okT at h;cases h
 | n,.exc _ _,h=>by unfold okT at h;cases h
theorem uE:∀(n:Nat) (ts:List T),eS n ts=true→eS (n+1) ts=true
 | n,[],_=>by rw[eS]
 | n,t::ts,h=>by
  rw[eS,Bool.and_eq_true] at h
  rw[eS,ER n t h.1,uE n ts h.2]
  rfl
end
def lA(h:Heap)(d:PyData)(w:Value):Bool:=@decide (∃d' bs,Reads h w d' bs∧d'.canLay0=true∧PyData.eqv d' d=true) (Classical.propDecidable _)
theorem ES{h:Heap}{d d':PyData}{w:Value}{bs:List Addr}(r:Reads h w d' bs)(c:d'.canLay0=true):lA h d w=PyData.eqv d' d:=by
 unfold lA
 rw[Bool.eq_iff_iff]
 refine Iff.trans (@decide_eq_true_iff _ (Classical.propDecidable _)) ?_
 constructor
 ·rintro⟨d2,bs2,r2,c2,e⟩
  have:d'=d2:=SeqAt.Reads.unique d' d2 w bs bs2 c r r2
  rw[this];exact e
 ·intro e
  exact⟨d',bs,r,c,e⟩
section
variable{X:Cx}{pins:List (Addr×Obj)}{σ:L2.St}{H:Hp}{s:Shared}{k:Nat}
theorem qD(I:Inv X pins σ H s)(hr:b_ k X.A){t:T}{v:Value}{as:List Addr}(o1:okT 100 t=true)(r1:Reads s.heap v (toPy t) as):∀{ts:List T}{vs:List V}{its:List Value},aD X.K H ts vs→Vals vs its→eS 99 ts=true →
  its.any (lA s.heap (toPy t))=inT t ts∧∀w∈its,SeqAt.EqAt X.A.in1 s w v (lA s.heap (toPy t) w)
 | [],vs,its,hl,hv,_=>by
  rw[aD] at hl;subst hl;cases hv
  exact⟨rfl,λw hw=>by cases hw⟩
 | u::ts,vs,its,hl,hv,o=>by
  rw[aD] at hl
  obtain⟨x,vs',rfl,q,r⟩:=hl
  cases hv with
  | cons rx hv =>
   rename_i w its
   rw[eS,Bool.and_eq_true] at o
   obtain⟨h1,h2⟩:=qD I hr o1 r1 r hv o.2
   obtain⟨bs,r2⟩:=fE I 99 u x w q rx o.1
   obtain⟨c1,d1⟩:=l4 100 t o1
   obtain⟨c2,d2⟩:=l4 99 u o.1
   have e:=ES (d:=toPy t) r2 c2
   have eq:PyData.eqv (toPy u) (toPy t)=eqT u t:=uA 100 u t (ER _ _ o.1) o1
   refine⟨?_,λw' hw=>?_⟩
   ·rw[List.any_cons,h1,e,eq]
    rfl
   ·rcases List.mem_cons.mp hw with z|z
    ·rw[z,e]
     exact SeqAt.eqAt_reads _ _ _ _ _ _ _ _ r2 r1 c2 c1 (by
      have hu:=hr.un
      show X.A.units+1+_<_
      omega)
    ·exact h2 w' z
theorem LC(hr:b_ k X.A):OpR X (compareOp .In) (Ic X.K false):=by
 intro pins s σ H x y v u Q I rx ry h
 obtain⟨t,ts,h1,h2,o1,o2,q⟩:=h
 rw[Rep] at h2
 obtain⟨a,vs,rfl,hq,hl⟩:=h2
 cases ry
 obtain⟨its,r,pl,hz⟩:=I.list hq
 obtain⟨as,r1⟩:=fE I 100 t x v h1 rx o1
 rw[okT] at o2
 obtain⟨e1,e2⟩:=qD I hr o1 r1 hl r o2
 refine SeqAt.in_listAt (lA s.heap (toPy t)) pl.isList (λw hw=>e2 w (by simpa using hw)) ⟨.bl _,H,I,rfl,?_⟩
 rw[show its.toArray.any (lA s.heap (toPy t))=its.any (lA s.heap (toPy t)) by simp,e1]
 exact q
theorem Ce(hr:b_ k X.A):OpR X (compareOp .NotIn) (Ic X.K true):=by
 intro pins s σ H x y v u Q I rx ry h
 obtain⟨t,ts,h1,h2,o1,o2,q⟩:=h
 rw[Rep] at h2
 obtain⟨a,vs,rfl,hq,hl⟩:=h2
 cases ry
 obtain⟨its,r,pl,hz⟩:=I.list hq
 obtain⟨as,r1⟩:=fE I 100 t x v h1 rx o1
 rw[okT] at o2
 obtain⟨e1,e2⟩:=qD I hr o1 r1 hl r o2
 refine SeqAt.notIn_listAt (lA s.heap (toPy t)) pl.isList (λw hw=>e2 w (by simpa using hw)) ⟨.bl _,H,I,rfl,?_⟩
 rw[show its.toArray.any (lA s.heap (toPy t))=its.any (lA s.heap (toPy t)) by simp,e1]
 exact q
end
theorem Ie{K:PySem.W.Frag}:dO K (Ic K false) wa:=by
 intro F H v u t t' w Q s hv hu hw q
 cases t' with
 | lst us =>
  have hw:(if okT 100 t=true∧okT 100 (.lst us)=true then some (T.bl (inT t us)) else none)=some w:=hw
  by_cases ho:okT 100 t=true∧okT 100 (.lst us)=true
  ·rw[if_pos ho] at hw
   cases hw
   exact⟨t,us,hv.rep s (fF ho.1),hu.rep s (fF ho.2),ho.1,ho.2,q _ H F bw.refl (Rep.bl' _)⟩
  ·rw[if_neg ho] at hw;cases hw
 | _=>cases hw
theorem ET{K:PySem.W.Frag}:dO K (Ic K true) f_:=by
 intro F H v u t t' w Q s hv hu hw q
 cases t' with
 | lst us =>
  have hw:(if okT 100 t=true∧okT 100 (.lst us)=true then some (T.bl (!inT t us)) else none)=some w:=hw
  by_cases ho:okT 100 t=true∧okT 100 (.lst us)=true
  ·rw[if_pos ho] at hw
   cases hw
   exact⟨t,us,hv.rep s (fF ho.1),hu.rep s (fF ho.2),ho.1,ho.2,q _ H F bw.refl (Rep.bl' _)⟩
  ·rw[if_neg ho] at hw;cases hw
 | _=>cases hw
section
variable{X:Cx}{a b:Expr}{da db:D}{pos:Pos}{k:Nat}
theorem LD(hr:b_ k X.A)(ha:CE X a da)(hb:CE X b db)(hm:behindInMarks .In b=false:=by rfl):CT X (.Compare a [.In] [b] pos) (ah wa da db):=gF (LC hr) Ie hm ha hb
theorem uF(hr:b_ k X.A)(ha:CE X a da)(hb:CE X b db)(hm:behindInMarks .NotIn b=false:=by rfl):CT X (.Compare a [.NotIn] [b] pos) (ah f_ da db):=gF (Ce hr) ET hm ha hb
end
end Fw
namespace L2
open PySem PySem.Spec PyProof.Rows
end L2
namespace Fw
open PySem PySem.Spec PyProof.Rows L2
end Fw
namespace L2
open PySem PySem.Spec PyProof.Rows
section
variable{prog:Program}{w:World}{A:Around}{E:Value→Shared→Prop}{s:Shared}
abbrev LF(h:Heap)(z TI TO a:Addr)(f:Bool):Prop:=h.get? z=some { cls:=.type "zip",dict:=none,data:=.fields #[rawInt a,.bool f,.bool false,.ref TI,.ref TO],slots:=#[] }
structure ZOA(z TI i1 i2 l1 l2:Addr):Prop where
 TIz:TI≠z
 i1z:i1≠z
 i2z:i2≠z
 i12:i1≠i2
 l1z:l1≠z
 l1i1:l1≠i1
 l2z:l2≠z
 l2i1:l2≠i1
end
section
variable{X:Cx}{pins:List (Addr×Obj)}{σ:L2.St}{H:Hp}{s:Shared}
structure ZO(k1 k2:Bool)(z TI TO i1 i2 l1 l2:Addr)(i:Nat)(H:Hp)(h:Heap):Prop where
 zz:IsZip h z TI TO .none∨∃a f ws,H a=some (.tup ws)∧LF h z TI TO a f
 ti:IsPair h TI (.ref i1) (.ref i2)
 to:∃a b,IsPair h TO a b
 one:KIt k1 h i1 l1 i
 two:KIt k2 h i2 l2 i
theorem ZO.keep{k1 k2:Bool}{z TI TO i1 i2 l1 l2:Addr}{i:Nat}{h h':Heap}(st:ZO k1 k2 z TI TO i1 i2 l1 l2 i H h)(k:∀b∈[z,TI,TO,i1,i2],∀o,h.get? b=some o→h'.get? b=some o):ZO k1 k2 z TI TO i1 i2 l1 l2 i H h':=by
 obtain⟨a,b,hto⟩:=st.to
 refine⟨?_,k TI (.tail _ (.head _)) _ st.ti,⟨a,b,k TO (.tail _ (.tail _ (.head _))) _ hto⟩,st.one.at λo e=>k i1 (.tail _ (.tail _ (.tail _ (.head _)))) o e,st.two.at λo e=>k i2 (.tail _ (.tail _ (.tail _ (.tail _ (.head _))))) o e⟩
 rcases st.zz with hz|⟨c,f,ws,hc,hz⟩
 ·exact .inl (k z (.head _) _ hz)
 ·exact .inr ⟨c,f,ws,hc,k z (.head _) _ hz⟩
theorem ZO.apart{k1 k2:Bool}{z TI TO i1 i2 l1 l2:Addr}{i:Nat}{xs ys:List V}(d1:TI≠TO)(d2:i1≠i2)(I:Inv X pins σ H s)(hf:∀b∈[z,TI,TO,i1,i2],jV X pins H b)(st:ZO k1 k2 z TI TO i1 i2 l1 l2 i H s.heap)(h1:fG X.K k1 H l1 xs)(h2:fG X.K k2 H l2 ys) :
  ZipApart z TI TO i1 i2 l1 l2∧ZOA z TI i1 i2 l1 l2:=by
 obtain⟨a,b,hto⟩:=st.to
 obtain⟨o1,e1,q1⟩:=st.one.ob
 obtain⟨o2,e2,q2⟩:=st.two.ob
 obtain⟨oz,vz,ez,qz,sz⟩:∃(oz:Obj) (vz:Array Value),s.heap.get? z=some oz∧oz.data=.fields vz∧vz.size=5:=by
  rcases st.zz with hz|⟨c,f,ws,hc,hz⟩
  ·exact⟨_,_,hz,rfl,rfl⟩
  ·exact⟨_,_,hz,rfl,rfl⟩
 have neP:∀{c d:Addr}{o:Obj}{u v:Value}{vs:Array Value},IsPair s.heap c u v→s.heap.get? d=some o→o.data=.fields vs→c≠d:=λ{c d o u v vs} hp ho hd e=>by
  subst e
  have hp:s.heap.get? c=some { cls:=.type "tuple",data:=.seq #[u,v] }:=hp
  rw[hp] at ho;cases ho;cases hd
 have neZ:∀{d:Addr}{l:Addr}{o:Obj}{n:Nat},s.heap.get? d=some o→o.data=.fields #[.ref l,.int n 0]→d≠z:=λ{d l o n} ho hd e=>by
  subst e
  rw[ez] at ho;cases ho
  rw[qz] at hd
  have:vz=#[.ref l,.int n 0]:=by injection hd
  rw[this] at sz
  exact absurd sz (by simp)
 have w:∀c∈[z,TI,TO,i1,i2],l1≠c∧l2≠c:=λc hc=>⟨dQ I h1 (hf c hc),dQ I h2 (hf c hc)⟩
 have D:ZipApart z TI TO i1 i2 l1 l2:={ TIz:=neP st.ti ez qz,TOz:=neP hto ez qz,i1z:=neZ e1 q1,i2z:=neZ e2 q2,TITO:=d1,TIi1:=neP st.ti e1 q1,TIi2:=neP st.ti e2 q2,TOi1:=neP hto e1 q1,TOi2:=neP hto e2 q2,i12:=d2,l1z:=(w z (.head _)).1,l1TO:=(w TO (.tail _ (.tail _ (.head _)))).1,l1i1:=(w i1 (.tail _ (.tail _ (.tail _ (.head _))))).1,l1i2:=(w i2 (.tail _ (.tail _ (.tail _ (.tail _ (.head _)))))).1,l2z:=(w z (.head _)).2,l2TO:=(w TO (.tail _ (.tail _ (.head _)))).2,l2i1:=(w i1 (.tail _ (.tail _ (.tail _ (.head _))))).2,l2i2:=(w i2 (.tail _ (.tail _ (.tail _ (.tail _ (.head _)))))).2 }
 exact⟨D,⟨D.TIz,D.i1z,D.i2z,D.i12,D.l1z,D.l1i1,D.l2z,D.l2i1⟩⟩
end
end L2
namespace Fw
open PySem PySem.Spec PyProof.Rows L2
end Fw
namespace L2
open PySem PySem.Spec PyProof.Rows
end L2
namespace Fw
open PySem PySem.Spec PyProof.Rows L2
end Fw
namespace L2
open PySem PySem.Spec PyProof.Rows
def Ig(h:Heap)(d:Addr)(es:Array DictEntry)(ep:Nat):Prop:=∃o,h.get? d=some o∧o.ExactDict∧o.data=.dict es ep
section
variable{prog:Program}{w:World}{A:Around}{E:Value→Shared→Prop}{s:Shared}{d it:Addr}{es:Array DictEntry}{ep i:Nat}
theorem EU{Q:Value→Shared→Prop}(hd:(d==sysModules)=false)(hm:Ig s.heap d es ep)
  (hQ:Q (.ref s.heap.objs.size) { s with heap:=s.heap.push { cls:=.type "dict_keyiterator",data:=.fields #[.ref d,.int 0 0,.int es.size 0,.int ep 0] } }) :
  wpAny (model prog w) A (pyIter (.ref d)) Q E s:=by
 obtain⟨o,ho,hx,NV⟩:=hm
 have hT:s.TypeIs (.ref d) "dict":=⟨o,ho,hx.1⟩
 refine wpAny_pyIter_slot hT PySem.F.slot_dict_iter (wpAny_call_entry PySem.F.slot_dict_iter hT PySem.F.entry_dict_iter ?_ (PySem.F.args_dict_iter_1 _))
 unfold Builtin.«dict.__iter__»
 refine wpAny_bind ?_
 unfold Builtin.Dict.dictSlotNone
 refine wpAny_bind (wpAny_notOrdered_dict hT ?_)
 refine wpAny_pure (?_:wpAny _ _ (Builtin.Dict.showsAll d>>=_) _ _ s)
 unfold Builtin.Dict.showsAll
 rw[if_neg (by rw[hd];exact Bool.false_ne_true)]
 refine wpAny_bind (wpAny_pure (wpAny_bind (wpAny_dictEntries ho NV (wpAny_bind (wpAny_dictEpoch ho NV ?_)))))
 refine wpAny_bind (wpAny_newObj_type (wpAny_pure ⟨_,rfl,"dict_keyiterator",_,⟨_,Heap.get?_push_size _ rfl,rfl⟩,PySem.F.slot_dict_keyiterator_next.lookup,?_⟩))
 simpa [rawInt] using hQ
theorem EV{Q:Option Value→Shared→Prop}(hit:s.heap.IsKeyIter it d i es.size ep)(hm:Ig s.heap d es ep)(hlt:i<es.size)
  (hQ:∀h',h'.IsKeyIter it d (i+1) es.size ep→Heap.SameBut it s.heap h'→Q (some es[i].key) { s with heap:=h' }) :
  wpAny (model prog w) A (pyNext (.ref it)) Q E s:=by
 obtain⟨o,ho,hc,hd⟩:=id hit
 obtain⟨od,hod,hcd,hdd⟩:=hm
 unfold pyNext
 refine wpAny_bind (wpAny_attempt (wpAny_callSpecial?_slot (name:=Str.ofString "__next__") hit.typeIs PySem.F.slot_dict_keyiterator_next
  (wpAny_call_entry PySem.F.slot_dict_keyiterator_next hit.typeIs PySem.F.entry_dict_keyiterator_next ?_ (PySem.F.args_dict_keyiterator_next_1 _))))
 refine wpAny_bind (wpAny_pure (wpAny_bind (wpAny_bind ?_)))
 first|refine wpAny_bind (wpAny_typeNameOfWhole_keyiter hit.typeIs (wpAny_pure ?_))|refine wpAny_bind (wpAny_typeNameOf_keyiter hit.typeIs (wpAny_pure ?_))
 refine wpAny_bind (wpAny_fieldsOf ho hd ?_)
 simp only[show Builtin.Dict_items.ownsTuple "dict_keyiterator"=false by decide,Bool.false_eq_true,if_false]
 show wpAny _ _ (if (Value.ref d==Value.none)=true then _ else _) _ _ s
 rw[if_neg (show ¬ ((Value.ref d==Value.none)=true) from Bool.false_ne_true)]
 refine wpAny_bind (wpAny_pure (wpAny_bind (wpAny_dictEntries hod hdd ?_)))
 rw[if_neg (by simp)]
 refine wpAny_bind (wpAny_pure (wpAny_bind (wpAny_dictEpoch hod hdd ?_)))
 rw[if_neg (by simp)]
 refine wpAny_pure ?_
 simp only[show ¬ ((i:Int)<0) from by omega,if_false,Int.toNat_natCast,Array.getElem?_eq_getElem hlt]
 refine wpAny_bind ?_
 first|refine wpAny_bind (wpAny_typeNameOfWhole_keyiter hit.typeIs (wpAny_pure ?_))|refine wpAny_bind (wpAny_typeNameOf_keyiter hit.typeIs (wpAny_pure ?_))
 refine wpAny_bind (wpAny_isOneOf_keyiter hit.typeIs ?_)
 show wpAny _ _ (setField (.ref it) 1 (rawInt ((i:Int)+1))>>=_) _ _ s
 refine wpAny_bind (wpAny_setField ho hd (by simp) ?_)
 have B_:(s.heap.update it (Obj.mapFields (·.setIfInBounds 1 (rawInt ((i:Int)+1))))).IsKeyIter it d (i+1) es.size ep :=
  ⟨_,Heap.get?_update_self _ ho (Obj.isFreed_of_fields (Obj.data_mapFields hd _)),(Obj.cls_mapFields ..).trans hc,by rw[Obj.data_mapFields hd];simp[rawInt]⟩
 refine wpAny_bind (wpAny_holding ?_)
 refine wpAny_bind (wpAny_isOneOf_keyiter (s:={ s with heap:=s.heap.update it (Obj.mapFields (·.setIfInBounds 1 (rawInt ((i:Int)+1)))) }) B_.typeIs ?_)
 show wpAny _ _ (pure es[i].key) _ _ _
 exact wpAny_pure (wpAny_pure ⟨_,rfl,wpAny_pure (hQ _ B_ (Heap.SameBut.update ..))⟩)
theorem Ih{Q:Option Value→Shared→Prop}(hh:A.handled=none)(hit:s.heap.IsKeyIter it d i es.size ep)(hm:Ig s.heap d es ep)(hge:es.size≤i)
  (hQ:∀h',Heap.ExtBut it s.heap h'→Q none { s with heap:=h' }):wpAny (model prog w) A (pyNext (.ref it)) Q E s:=by
 obtain⟨o,ho,hc,hd⟩:=id hit
 obtain⟨od,hod,hcd,hdd⟩:=hm
 unfold pyNext
 refine wpAny_bind (wpAny_attempt (wpAny_callSpecial?_slot (name:=Str.ofString "__next__") hit.typeIs PySem.F.slot_dict_keyiterator_next
  (wpAny_call_entry PySem.F.slot_dict_keyiterator_next hit.typeIs PySem.F.entry_dict_keyiterator_next ?_ (PySem.F.args_dict_keyiterator_next_1 _))))
 refine wpAny_bind (wpAny_pure (wpAny_bind (wpAny_bind ?_)))
 first|refine wpAny_bind (wpAny_typeNameOfWhole_keyiter hit.typeIs (wpAny_pure ?_))|refine wpAny_bind (wpAny_typeNameOf_keyiter hit.typeIs (wpAny_pure ?_))
 refine wpAny_bind (wpAny_fieldsOf ho hd ?_)
 simp only[show Builtin.Dict_items.ownsTuple "dict_keyiterator"=false by decide,Bool.false_eq_true,if_false]
 show wpAny _ _ (if (Value.ref d==Value.none)=true then _ else _) _ _ s
 rw[if_neg (show ¬ ((Value.ref d==Value.none)=true) from Bool.false_ne_true)]
 refine wpAny_bind (wpAny_pure (wpAny_bind (wpAny_dictEntries hod hdd ?_)))
 rw[if_neg (by simp)]
 refine wpAny_bind (wpAny_pure (wpAny_bind (wpAny_dictEpoch hod hdd ?_)))
 rw[if_neg (by simp)]
 refine wpAny_pure ?_
 simp only[show ¬ ((i:Int)<0) from by omega,if_false,Int.toNat_natCast,Array.getElem?_eq_none hge]
 refine wpAny_bind ?_
 first|refine wpAny_bind (wpAny_typeNameOfWhole_keyiter hit.typeIs (wpAny_pure ?_))|refine wpAny_bind (wpAny_typeNameOf_keyiter hit.typeIs (wpAny_pure ?_))
 show wpAny _ _ (setField (.ref it) 0 .none>>=_) _ _ s
 refine wpAny_bind (wpAny_setField ho hd (by simp) ?_)
 show wpAny _ _ (newExc (.type "StopIteration") []>>=_) _ _ _
 refine wpAny_bind ?_
 simp only[newExc,newTuple]
 refine wpAny_bind (wpAny_newObj_type ?_ (by size_fits))
 refine wpAny_bind (m:=firstArgMember _ _) (wpAny_of_eq (a:=Value.none) (by first|rfl|(simp only[firstArgMember];rfl)) ?_)
 refine wpAny_newObj_type ?_ (by size_fits)
 simp only[raiseNew]
 refine wpAny_bind (wpAny_handled ?_)
 rw[show A.in1.handled=none from hh]
 refine wpAny_bind (wpAny_pure (wpAny_throw ?_))
 refine wpAny_bind (wpAny_isInstance (T:="StopIteration") (b:=true) ⟨_,Heap.get?_push_size _ rfl,rfl⟩ isSubtype_stop ?_)
 exact wpAny_pure (hQ _ (((Heap.SameBut.update ..).extBut.push _).push _))
end
theorem yn{α β:Type}{R:α→β→Prop}:∀{as:List α}{bs:List β}{i:Nat}{a:α},Paired R as bs→as[i]?=some a→∃b,bs[i]?=some b∧R a b:=by
 intro as bs i a r
 induction r generalizing i with
 | nil=>intro h;simp at h
 | cons x t ih =>
  intro h
  cases i with
  | zero=>simp at h;subst h;exact⟨_,rfl,x⟩
  | succ i=>simpa using ih (i:=i) (by simpa using h)
theorem LG{P:Program}{w:World}{H:Hp}{h:Heap}{d:Addr}{o:HO}{kvs:List (List Key×V)}(hd:H d=some (.dT kvs))(x:cw P w H h d (.dT kvs)):cw P w (upd H d o) h d (.dT kvs):=by
 obtain⟨z,y,xs,r,q⟩:=x
 refine⟨z,y,xs,?_,q⟩
 refine Paired.imp' (λa b g=>⟨g.1,?_,g.2.2⟩) r
 rw[aG λe=>by rw[e,hd] at g;cases g.2.1]
 exact g.2.1
section
variable{X:Cx}{pins:List (Addr×Obj)}{σ:List (Option V)}{H:Hp}{s:Shared}{d:Addr}{kvs:List (List Key×V)}
theorem Inv.Pq(I:Inv X pins σ H s)(hd:H d=some (.dT kvs)):∃o,s.heap.get? d=some o∧Inv X pins σ (upd H d (.frz o (.dT kvs))) s:=by
 have x:=I.hok d _ hd
 obtain⟨z,y,xs,r,o,es,ep,h1,h2⟩:=id x
 refine⟨o,h1,?_⟩
 have:=I.write (x:=d) (e:=d) (o:=.frz o (.dT kvs)) (h':=s.heap) (t':=s.toks) (by rw[hd];trivial) (.inl rfl) (λb u _ e=>e) ⟨o,h1⟩ ⟨h1,LG hd x⟩
 exact this
def Itk(d:Addr)(o:Obj)(kvs:List (List Key×V)):It :=
 ⟨λi H=>H d=some (.frz o (.dT kvs))∧∃p,kvs[i]?=some p,
  λi H v H'=>H'=H∧∃b p,v=.ref b∧kvs[i]?=some p∧H b=some (.tup (p.1.map kV)),
  λi H=>H d=some (.frz o (.dT kvs))∧kvs.length≤i⟩
theorem EW{P:Program}{w:World}{h:Heap}{o:Obj}{es:Array DictEntry}{ep:Nat}(ok:HOk P w H h)(hd:H d=some (.frz o (.dT kvs)))(he:o.data=.dict es ep) :
  Ig h d es ep∧es.size=kvs.length∧∀i p,kvs[i]?=some p→∃(hi:i<es.size) (b:Addr),es[i].key=.ref b∧H b=some (.tup (p.1.map kV)):=by
 obtain⟨h1,_,_,xs,r,o',es',ep',g1,g2,g3,g4,_⟩:=ok d _ hd
 rw[h1] at g1;cases g1
 rw[he] at g3;cases g3
 have hl:=r.length
 have hz:es.size=xs.length:=by
  have:=congrArg List.length g4
  simpa using this
 refine⟨⟨o,h1,g2,he⟩,by omega,λi p hp=>?_⟩
 have hi:i<kvs.length:=(List.getElem?_eq_some_iff.mp hp).1
 obtain⟨q,hq,rel⟩:∃q,xs[i]?=some q∧p.1=q.1∧H q.2.1=some (.tup (p.1.map kV))∧RelV p.2 q.2.2:=by
  exact yn r hp
 have hi2:i<es.size:=by omega
 refine⟨hi2,q.2.1,?_,rel.2.1⟩
 have e1:es.toList[i]?=some es[i]:=by simp[hi2]
 rw[g4,List.getElem?_map,hq] at e1
 have e2:=Option.some.inj e1
 rw[← e2]
 rfl
end
theorem Cf{P:Program}{w:World}{K:PySem.W.Frag}{tg:Expr}{d it:Addr}{o:Obj}{kvs:List (List Key×V)}{es:Array DictEntry}{ep:Nat}(he:o.data=.dict es ep) :
  Turn P w K tg (Itk d o kvs) [it] it (λi h=>h.IsKeyIter it d i es.size ep) where
 mem:=by simp
 obj:=λi h st b hb=>by
  have e:b=it:=by simpa using hb
  subst e
  obtain⟨o,e,c,d⟩:=st
  exact⟨o,e,λv z=>by rw[d] at z;cases z⟩
 keep:=λi h h' st k=>st.at λo e=>k it (by simp) o e
 item:=by
  intro X hP hw hK hc i pins s σ H E I hf st hg
  subst hP hw hK
  obtain⟨hd,p,hp⟩:=hg
  obtain⟨de,_,ks⟩:=EW I.hok hd he
  obtain⟨hi,b,hk,hb⟩:=ks i p hp
  obtain⟨f0,f1,f2,f3,f4,f5⟩:=hf it (by simp)
  refine EV st de hi λh' st' sb=>?_
  have I1:Inv X pins σ H { s with heap:=h' }:=I.turned (t':=s.toks) (λb o hb e=>(sb.2 b hb).trans e) f0 f1 f3 f4 f5
  obtain⟨o',e,c,d'⟩:=id st'
  rw[hk]
  exact⟨.ref b,rfl,zG (s:={ s with heap:=h' }) e c d' (by decide) ⟨.ref b,H,I1,rfl,⟨rfl,b,p,rfl,hp,hb⟩,st',λb hb=>(hf b hb).1⟩⟩
 done:=by
  intro X hP hw hK hc i pins s σ H E I hf st hg
  subst hP hw hK
  obtain⟨hd,hle⟩:=hg
  obtain⟨de,hz,_⟩:=EW I.hok hd he
  obtain⟨f0,f1,f2,f3,f4,f5⟩:=hf it (by simp)
  exact Ih (I.ok.hd hc) st de (by omega) λh' eb=>⟨rfl,I.turned (t':=s.toks) (λb o hb e=>eb b o hb e) f0 f1 f3 f4 f5⟩
 self:=λ_ _ _ _ _ st h=>wpAny_pyIter_keyiter st h
def LH(tl:TE):TI:=λσ H R=>tl σ H λx H1=>∃d kvs,x=.ref d∧((H1 d=some (.dT kvs)∧∀o,R (Itk d o kvs) (upd H1 d (.frz o (.dT kvs))))∨∃o,H1 d=some (.frz o (.dT kvs))∧R (Itk d o kvs) H1)
theorem Ii{X:Cx}{tg l:Expr}{tl:TE}(hl:PE X l tl):PI X tg l (LH tl):=by
 intro pins s σ H R I h
 refine thn (hl pins s σ H _ I h) λv s1 au=>?_
 obtain⟨x,H1,I1,r1,q1⟩:=au
 obtain⟨d,kvs,e,q⟩:=q1
 subst e
 cases r1
 have main:∀(H2:Hp) (o:Obj),Inv X pins σ H2 s1→H2 d=some (.frz o (.dT kvs))→R (Itk d o kvs) H2→wpAny (model X.prog X.w) X.A (pyIter (.ref d)) (PIE X pins σ tg R) X.xe s1:=λH2 o I2 hd q=>by
  obtain⟨_,_,hS,xs,r,o',es,ep,g1,g2,g3,g4,_⟩:=I2.hok d _ hd
  have h1:=(I2.hok d _ hd).1
  rw[h1] at g1;cases g1
  refine EU hS ⟨o,h1,g2,g3⟩ ?_
  refine⟨s1.heap.objs.size,[s1.heap.objs.size],_,_,H2,rfl,I2.kept (t':=s1.toks) λb o e=>Heap.get?_push_of_some _ e,Cf (d:=d) (kvs:=kvs) g3,⟨_,Heap.get?_push_size _ rfl,rfl,rfl⟩,λb hb=>?_,q⟩
  have e:b=s1.heap.objs.size:=by simpa using hb
  subst e
  exact I2.tX (Nat.le_refl _) (I2.hok.fresh (Nat.le_refl _))
 rcases q with ⟨hd,q⟩|⟨o,hd,q⟩
 ·obtain⟨o,_,I2⟩:=I1.Pq hd
  exact main _ o I2 aB (q o)
 ·exact main _ o I1 hd q
end L2
namespace Fw
open PySem
def qE:T→Option (List T)
 | .tup ts=>some ts
 | _=>none
def uG(d:D):DI:=λe μ=>(d e μ).bind λx μ1=>(R.lift ((rd μ1 x).bind qE) μ1).bind λts μ1=>.ok ⟨dJ 1 ts,λμ'=>rd μ' x=rd μ1 x⟩ μ1
theorem Cg(d:D)(e:Slots)(μ:af):uG d e μ=(d e μ).bind λx μ1=>(R.lift ((rd μ1 x).bind qE) μ1).bind λts μ1=>.ok ⟨dJ 1 ts,λμ'=>rd μ' x=rd μ1 x⟩ μ1:=(rfl)
def oG(kts:List (List Int×Bool))(k:List Int):Option Bool:=(kts.find? λkv=>decide (kv.1=k)).map (·.2)
def qF(kts:List (List Int×Bool))(k:List Int)(b:Bool):List (List Int×Bool) :=
 if (kts.any λkv=>decide (kv.1=k))=true then kts.map (λkv=>if kv.1=k then (kv.1,b) else kv) else kts++[(k,b)]
def wo:T→Option (List Int)
 | .tup ts=>cM ts
 | _=>none
def g9:T→T→Option T
 | .dtt _ kts,u=>(wo u).bind λk=>(oG kts k).map T.bl
 | _,_=>none
def l5(x:SV)(k:T)(t:T)(μ:af):Option af:=match x with
 | .cel c=>match μ[c]? with
  | some (true,.dtt false kts)=>match t with
   | .bl b=>(wo k).bind λkk=>if kts.length<szL then some (μ.set c (true,.dtt false (qF kts kk b))) else none
   | _=>none
  | _=>none
 | _=>none
def sM(i:Nat)(dk dv:D):DS:=λe μ=>(dv e μ).toS e λy μ1=>(R.lift (slot e i) μ1).toS e λx μ1=>(dk e μ1).toS e λz μ2=>(R.lift (rd μ2 z) μ2).toS e λk μ2 =>
 (frz y μ2).toS e λt μ3=>(R.lift (l5 x k t μ3) μ3).toS e λμ4 _=>.nx e μ4
theorem EX(i:Nat)(dk dv:D)(e:Slots)(μ:af):sM i dk dv e μ=(dv e μ).toS e λy μ1=>(R.lift (slot e i) μ1).toS e λx μ1=>(dk e μ1).toS e λz μ2=>(R.lift (rd μ2 z) μ2).toS e λk μ2 =>
 (frz y μ2).toS e λt μ3=>(R.lift (l5 x k t μ3) μ3).toS e λμ4 _=>.nx e μ4:=(rfl)
def wq(kts:List (List Int×Bool)):List T:=kts.map λp=>.tup (p.1.map T.int)
def keysAt(x:SV)(μ:af):Option (List (List Int×Bool)×af):=match x with
 | .cel c=>match μ[c]? with
  | some (true,.dtt false kts)=>some (kts,μ.set c (false,.dtt true kts))
  | some (false,.dtt true kts)=>some (kts,μ)
  | _=>none
 | _=>none
def kh(d:D):DI:=λe μ=>(d e μ).bind λx μ1=>(R.lift (keysAt x μ1) μ1).bind λp _=>.ok ⟨wq p.1,λ_=>True⟩ p.2
theorem sN(d:D)(e:Slots)(μ:af):kh d e μ=(d e μ).bind λx μ1=>(R.lift (keysAt x μ1) μ1).bind λp _=>.ok ⟨wq p.1,λ_=>True⟩ p.2:=(rfl)
end Fw
namespace Fw
open PySem PySem.Spec PyProof.Rows L2
theorem uH:∀(a b:List Int),(a.map (Sum.inl:Int→Key)=b.map Sum.inl)↔a=b:=λa b =>
 ⟨λh=>(List.map_inj_right (λx y z=>by cases z;rfl)).mp h,λh=>by rw[h]⟩
theorem Au:∀(kts:List (List Int×Bool)) (k:List Int),lP (kvT kts) (k.map Sum.inl)=(oG kts k).map V.bl
 | [],k=>rfl
 | (k0,b)::kts,k=>by
  have ih:=Au kts k
  by_cases e:k0=k
  ·subst e
   rw[show kvT ((k0,b)::kts)=(k0.map Sum.inl,V.bl b)::kvT kts from rfl,jY (p:=(k0.map Sum.inl,V.bl b)) rfl]
   simp[oG,List.find?_cons]
  ·have e2:¬ (k0.map (Sum.inl:Int→Key))=k.map Sum.inl:=λz=>e ((uH _ _).mp z)
   rw[show kvT ((k0,b)::kts)=(k0.map Sum.inl,V.bl b)::kvT kts from rfl,jZ (p:=(k0.map Sum.inl,V.bl b)) e2,ih]
   simp[oG,List.find?_cons,e]
theorem Ij(kts:List (List Int×Bool))(k:List Int)(b:Bool):putK (kvT kts) (k.map Sum.inl) (V.bl b)=kvT (qF kts k b):=by
 have ha:((kvT kts).any λkv=>decide (kv.1=k.map Sum.inl))=(kts.any λkv=>decide (kv.1=k)):=by
  unfold kvT
  rw[List.any_map]
  congr 1
  funext p
  exact decide_eq_decide.mpr (uH _ _)
 unfold putK qF
 rw[ha]
 by_cases e:(kts.any λkv=>decide (kv.1=k))=true
 ·rw[if_pos e,if_pos e]
  unfold kvT
  rw[List.map_map,List.map_map]
  refine List.map_congr_left λp _=>?_
  by_cases q:p.1=k
  ·subst q;simp
  ·have q2:¬ (p.1.map (Sum.inl:Int→Key))=k.map Sum.inl:=λz=>q ((uH _ _).mp z)
   simp[q,q2]
 ·rw[if_neg e,if_neg e]
  unfold kvT
  rw[List.map_append]
  rfl
theorem Av(kts:List (List Int×Bool)):(kvT kts).length=kts.length:=List.length_map _
theorem Aw{K:PySem.W.Frag}{F H:Hp}{v:V}{t:T}{k:List Int}(s:aN F H)(h:Now K F H v t)(e:wo t=some k):∃b,v=.ref b∧H b=some (.tup ((k.map (Sum.inl:Int→Key)).map kV)):=by
 cases t with
 | tup ts =>
  obtain⟨b,vs,rfl,q,r⟩:=h.qx
  refine⟨b,rfl,?_⟩
  have e2:=r.ints e
  subst e2
  rw[List.map_map]
  exact s _ _ q
 | _=>cases e
section
variable{X:Cx}{a b c:Expr}{da db dc:D}{pos p p2:Pos}{k:Nat}
theorem Ci(σ:L2.St)(H:Hp)(Q:VK)(h:tD X (ah g9 da db) σ H Q):Dt (tD X da) (tD X db) σ H Q:=by
 obtain⟨F,α,e,μ,S,h⟩:=h
 refine⟨F,α,e,μ,S,?_⟩
 refine(R.wp_bind h).mono (λx μ1 h v H1 F1 α1 x1 S1 o1=>⟨F1,α1,e,μ1,S1,?_⟩) λ_ _ h=>h
 refine(R.wp_bind h).mono (λy μ2 h v2 H2 F2 α2 x2 S2 o2=>?_) λ_ _ h=>h.mono x1
 obtain⟨w,h9,post⟩:=R.bB h
 obtain⟨t,u,w',ht,hu,h,rfl⟩:=t_ h9
 have n1:=aU S2.st (o1.mono x2.same x2.pre) ht
 have n2:=aU S2.st o2 hu
 cases t with
 | dtt fz kts =>
  obtain⟨kk,hk,h⟩:=Option.bind_eq_some_iff.mp (show(wo u).bind (λk=>(oG kts k).map T.bl)=some w' from h)
  obtain⟨ad,rfl,hq⟩:=n1
  obtain⟨bd,rfl,hb⟩:=Aw S2.st.ext n2 hk
  obtain⟨bv,h1,rfl⟩:=Option.map_eq_some_iff.mp h
  have hg:xJ H2 ad (.ref bd) (lP (kvT kts) (kk.map Sum.inl)):=.inr ⟨_,_,bd,hq,rfl,hb,rfl⟩
  rw[Au,h1] at hg
  exact⟨ad,.bl bv,rfl,hg,post _ H2 F2 α2 (x1.trans x2) S2 (Rep.bl' (K:=X.K) (F:=F2) bv)⟩
 | _=>cases u<;>cases h
theorem pJ(hr:b_ k X.A)(ha:CE X a da)(hb:CE X b db)(hs:GY b:=by intro _ _;rfl):CE X (.Subscript a b pos) (ah g9 da db):=PE.imp (zO (mQ hr) ha hb hs) Ci
theorem LI:CF X (.Dict [] [] pos) (dC (.dtt false [])):=by
 refine⟨PE.imp Dy λσ H Q ⟨F,α,e,μ,S,h⟩=>?_,λe μ x μ' h=>?_⟩
 ·obtain⟨t,et,post⟩:=h
  cases et
  intro d hd
  exact post d _ F α (Ex.lay hd) (S.of (aN.refl _) (List.prefix_refl _) (S.st.lay hd)) hd (S.st.ext.free hd) (b6 S.st hd) ⟨rfl,aB⟩
 ·cases h;exact⟨_,rfl⟩
theorem Ik(hr:b_ k X.A)(i:Nat){y:Str}{py dX:Pos}{ik ev:Expr}{dk dv:D}(hk:CE X ik dk)(hv:CE X ev dv)(hN:X.N[i]?=some y:=by rfl)
  (hvs:Vis X.env.scope y:=by first|exact Or.inl rfl|exact Or.inr (Or.inl rfl)|exact Or.inr (Or.inr rfl)) (hd:(y==("__debug__":Str))=false:=by decide) (hcd:(y==("__classdict__":Str))=false:=by decide)
  (hs:swapsWith ev (some (.Subscript (.Name y py) ik dX)) pos.line X.env=pure false:=by rfl) :
  CS X (.Assign [.Subscript (.Name y py) ik dX] ev pos) (sM i dk dv) :=
 PS.imp (zP (mQ hr) (tV hN hvs hd hcd) hk hv hs) λD σ H au=>by
  obtain⟨F,α,e,μ,S,h⟩:=au
  refine⟨F,α,e,μ,S,(aR.toS h).mono (λy μ1 h v H1 F1 α1 x1 S1 o1=>?_) λ_ _ h=>h⟩
  obtain⟨x,hx,h⟩:=aR.lift h
  obtain⟨ov,hov,oo⟩:=S1.sl i x hx
  refine⟨ov,hov,F1,α1,e,μ1,S1,(aR.toS h).mono (λz μ2 h v2 H2 F2 α2 x2 S2 o2=>?_) λ_ _ h=>h.mono x1⟩
  obtain⟨k,hk,h⟩:=aR.lift h
  have h:=h.toS
  have nk:=aU S2.st o2 hk
  cases hz:frz y μ2 with
  | err c μ3=>exact absurd hz (nj y μ2 c μ3)
  | bad=>rw[hz] at h;exact h.elim
  | ok t μ3 =>
   rw[hz] at h
   obtain⟨μ4,ha4,h⟩:=aR.lift h
   obtain⟨F3,s3,n3,S3,r3⟩:=lW S2.st (o1.mono x2.same x2.pre) hz
   cases x with
   | cel j =>
    obtain⟨ad,had,rfl⟩:=oo
    unfold l5 at ha4
    simp only at ha4
    have hc:∃kts kk bb,μ3[j]?=some (true,.dtt false kts)∧t=.bl bb∧wo k=some kk∧kts.length<szL∧μ4=μ3.set j (true,.dtt false (qF kts kk bb)):=by
     split at ha4
     ·rename_i us hjs
      split at ha4
      ·rename_i bb
       obtain⟨kk,e1,e2⟩:=Option.bind_eq_some_iff.mp ha4
       by_cases hl:us.length<szL
       ·rw[if_pos hl] at e2
        cases e2
        exact⟨us,kk,bb,hjs,rfl,e1,hl,rfl⟩
       ·rw[if_neg hl] at e2;cases e2
      ·cases ha4
     ·cases ha4
    obtain⟨kts,kk,bb,hj3,rfl,hkk,hl,rfl⟩:=hc
    have ha3:α2[j]?=some ad:=gU x2.pre had
    have hw:H2 ad=some (.dT (kvT kts)):=((S3.cell j true _ ad hj3 ha3).1 rfl).2.2
    obtain⟨bd,rfl,hb⟩:=Aw S2.st.ext nk hkk
    have ev:v=.bl bb:=Rep.gT (K:=X.K) (F:=F3) r3
    subst ev
    have hp:=vF.t (v:=V.bl bb) hw hb (by rw[Av];rw[nM] at hl;omega)
    rw[Ij] at hp
    refine⟨ad,_,rfl,hp,?_⟩
    have x3:Ex F α H F3 α2 H2:=x1.trans (x2.trans (Ex.oB s3 n3))
    exact h σ _ F3 α2 (x3.trans (Ex.put ha3)) ((S2.of s3 (List.prefix_refl _) S3).of (aN.refl _) (List.prefix_refl _) (qg S3 hj3 ha3 ⟨rfl,aB⟩))
   | val t=>unfold l5 at ha4;cases ha4
   | box xs=>unfold l5 at ha4;cases ha4
theorem EY{K:PySem.W.Frag}{F:Hp}{α:List Addr}{d:Addr}{o:Obj}{kts:List (List Int×Bool)}(hF:F d=some (.frz o (.dT (kvT kts)))):Lc K F α (Itk d o (kvT kts)) ⟨wq kts,λ_=>True⟩:=by
 intro F2 α2 μ2 H2 s2 p2 S2 _
 have hd:=S2.ext _ _ (s2 _ _ hF)
 have gt:∀i p,(kvT kts)[i]?=some p→∃q:List Int×Bool,kts[i]?=some q∧p=(q.1.map Sum.inl,V.bl q.2):=λi p h=>by
  unfold kvT at h
  rw[List.getElem?_map] at h
  obtain⟨q,h1,h2⟩:=Option.map_eq_some_iff.mp h
  exact⟨q,h1,h2.symm⟩
 refine⟨λi t ht=>?_,hd,?_⟩
 ·have ht:(kts.map λp=>T.tup (p.1.map T.int))[i]?=some t:=ht
  rw[List.getElem?_map] at ht
  obtain⟨q,hq,rfl⟩:=Option.map_eq_some_iff.mp ht
  refine⟨⟨hd,(q.1.map Sum.inl,V.bl q.2),by unfold kvT;rw[List.getElem?_map,hq];rfl⟩,λx H3 y=>?_⟩
  obtain⟨rfl,b,p,rfl,hp,hb⟩:=y
  obtain⟨q',hq',rfl⟩:=gt i p hp
  rw[hq] at hq';cases hq'
  refine⟨F2,bw.refl,?_⟩
  rw[Rep]
  refine⟨b,q.1.map V.int,rfl,?_,aD.mH _⟩
  have hb:H3 b=some (.tup ((q.1.map (Sum.inl:Int→Key)).map kV)):=hb
  rw[List.map_map] at hb
  exact S2.tps _ _ hb
 ·show(kvT kts).length≤(kts.map λp=>T.tup (p.1.map T.int)).length
  rw[Av,List.length_map]
  exact Nat.le_refl _
theorem wt{tg:Expr}(ha:CE X a da):CI X tg a (kh da):=PI.imp (Ii ha) λσ H G au=>by
 obtain⟨F,α,e,μ,S,h⟩:=au
 refine⟨F,α,e,μ,S,(R.wp_bind h).mono (λx μ1 h v H1 F1 α1 x1 S1 o1=>?_) λ_ _ h=>h⟩
 obtain⟨⟨kts,μ2⟩,hk,post⟩:=R.bB (R.wp_bind h)
 cases x with
 | cel c =>
  obtain⟨d,hd,rfl⟩:=o1
  unfold keysAt at hk
  simp only at hk
  split at hk
  ·rename_i us hj
   cases hk
   obtain⟨f0,_,hw⟩:=(S1.st.cell c true _ d hj hd).1 rfl
   refine⟨d,kvT kts,rfl,.inl ⟨hw,λo=>?_⟩⟩
   have s2:aN F1 (upd F1 d (.frz o (.dT (kvT kts)))):=λb z hz=>by
    rw[aG (λq=>by subst q;rw[f0] at hz;cases hz)];exact hz
   have hc:c<μ1.length:=(List.getElem?_eq_some_iff.mp hj).1
   have ex:Ex F1 α1 H1 (upd F1 d (.frz o (.dT (kvT kts)))) α1 (upd H1 d (.frz o (.dT (kvT kts)))):=⟨s2,List.prefix_refl _,λb z h1 h2 h3=>by
    have nb:b≠d:=λq=>h3 (by rw[q];exact List.mem_of_getElem? hd)
    exact⟨by rw[aG nb];exact h1,by rw[aG nb];exact h2,h3⟩⟩
   have st:cx X.K (upd F1 d (.frz o (.dT (kvT kts)))) α1 (μ1.set c (false,.dtt true kts)) (upd H1 d (.frz o (.dT (kvT kts)))):=by
    refine⟨λb z hz=>?_,by rw[List.length_set];exact S1.st.len,S1.st.nd,λk b hb=>?_,λk b u a' h1 h2=>?_,λb xs q=>?_⟩
    ·by_cases eb:b=d
     ·subst eb;rw[aB] at hz ⊢;exact hz
     ·rw[aG eb] at hz ⊢;exact S1.st.ext _ _ hz
    ·by_cases eb:b=d
     ·subst eb;exact⟨_,aB⟩
     ·rw[aG eb];exact S1.st.there k b hb
    ·by_cases ek:k=c
     ·subst ek
      rw[List.getElem?_set_self hc] at h1
      cases h1
      rw[hd] at h2;cases h2
      refine⟨λz=>(by cases z),λ_=>?_⟩
      rw[Rep]
      exact⟨_,rfl,.inr ⟨rfl,o,aB⟩⟩
     ·rw[List.getElem?_set_ne (Ne.symm ek)] at h1
      have na:a'≠d:=λq=>by subst q;exact ek (mI S1.st.nd h2 hd)
      obtain⟨c1,c2⟩:=S1.st.cell k b u a' h1 h2
      refine⟨λhb=>⟨by rw[aG na];exact(c1 hb).1,?_⟩,λhb=>Rep.mono s2 _ _ (c2 hb)⟩
      have d2:=(c1 hb).2
      cases u with
      | lst ts=>obtain⟨vs,w1,w2⟩:=d2;exact⟨vs,by rw[aG na];exact w1,aD.mono s2 _ _ w2⟩
      | dct ts=>obtain⟨vs,w1,w2⟩:=d2;exact⟨vs,by rw[aG na];exact w1,bj.mono s2 _ _ w2⟩
      | dtt fz ts=>exact⟨d2.1,(aG na).trans d2.2⟩
      | _=>exact d2.elim
    ·by_cases eb:b=d
     ·subst eb;rw[aB] at q;cases q
     ·rw[aG eb] at q ⊢;exact S1.st.tps _ _ q
   exact post _ _ _ α1 (x1.trans ex) (S1.of s2 (List.prefix_refl _) st) (EY aB)
  ·rename_i us hj
   cases hk
   have rp:=(S1.st.cell c false _ d hj hd).2 rfl
   rw[Rep] at rp
   obtain⟨d',e',q⟩:=rp
   cases e'
   rcases q with ⟨z,_⟩|⟨_,o,q⟩
   ·cases z
   ·exact⟨d,kvT kts,rfl,.inr ⟨o,S1.st.ext _ _ q,post _ _ F1 α1 x1 S1 (EY q)⟩⟩
  ·cases hk
 | val t=>cases hk
 | box xs=>cases hk
end
end Fw
namespace HT
open PySem PyProof.Rows
section
open PySem.SeqAt
open PySem.AutoSeq1 (wpAny_loadPart')
open PySem.MeetsSeq PySem.MeetsSeq2 PySem.MeetsSeq3
theorem ix{items:Array Value}{ns:List Int}{i:Nat}(h:IntsAre (items.toList.drop i) ns)(hi:items.size≤i):ns=[]:=by
 rw[List.drop_eq_nil_of_le (by simpa using hi)] at h
 cases h;rfl
theorem gL{items:Array Value}{ns:List Int}{i:Nat}(h:IntsAre (items.toList.drop i) ns)(hi:i<items.size) :
  ∃a t ns',ns=a::ns'∧items[i]?=some (.int a t)∧IntsAre (items.toList.drop (i+1)) ns':=by
 rw[List.drop_eq_getElem_cons (by simpa using hi)] at h
 generalize hv:items.toList[i]'(by simpa using hi)=v at h
 cases h with
 | cons a t h =>
  refine⟨a,t,_,rfl,?_,h⟩
  rw[Array.getElem?_eq_getElem hi,← hv]
  simp
theorem Il(l b:Addr)(items bO:Array Value)(n n2:Nat)(dd dd2:Option Addr)(sl sl2:Array (Option Value))(k:Nat) :
  ∀(i:Nat) (ns ms:List Int),items.size-i=k→i≤items.size→i≤bO.size→IntsAre (items.toList.drop i) ns→IntsAre (bO.toList.drop i) ms→Meets (Builtin.«list.__eq__.loop» ⟨[.ref l,.ref b,rawInt i,rawInt 0],[]⟩)
   (λA R s=>s.heap.get? l=some { cls:=.type "list",dict:=dd,data:=.seq items n,slots:=sl }∧s.heap.get? b=some { cls:=.type "list",dict:=dd2,data:=.seq bO n2,slots:=sl2 } ∧
    R (.ok (.ret (.bool (lexLt ns ms)))) s):=by
 induction k with
 | zero =>
  intro i ns ms hk hle Pr hi hj prog w A R s h
  obtain⟨hp,g,d,tk,os⟩:=s;obtain⟨hl,hb,h⟩:=h
  wp_walk using wpAny_loadPart' hl,wpAny_loadPart' hb
  have hi1:items[((i:Nat):Int).toNat]?=none:=by simp;omega
  have e:=ix hi (by omega)
  subst e
  by_cases h2:i<bO.size
  ·obtain⟨c,u,ms',rfl,q,_⟩:=gL hj h2
   have hi2:bO[((i:Nat):Int).toNat]?=some (.int c u):=by simpa using q
   rw[hi1,hi2]
   wp_walk using wpAny_loadPart' hl,wpAny_loadPart' hb
   show R (.ok (.ret (.bool (decide (items.size<bO.size))))) _
   rw[decide_eq_true (by omega)]
   exact h
  ·have hi2:bO[((i:Nat):Int).toNat]?=none:=by simp;omega
   have e:=ix hj (by omega)
   subst e
   rw[hi1,hi2]
   wp_walk using wpAny_loadPart' hl,wpAny_loadPart' hb
   show R (.ok (.ret (.bool (decide (items.size<bO.size))))) _
   rw[decide_eq_false (by omega)]
   exact h
 | succ k ih =>
  intro i ns ms hk hle Pr hi hj prog w A R s h
  obtain⟨hp,g,d,tk,os⟩:=s;obtain⟨hl,hb,h⟩:=h
  wp_walk using wpAny_loadPart' hl,wpAny_loadPart' hb
  obtain⟨a,t,ns',rfl,q1,r1⟩:=gL hi (by omega)
  have hi1:items[((i:Nat):Int).toNat]?=some (.int a t):=by simpa using q1
  by_cases h2:i<bO.size
  ·obtain⟨c,u,ms',rfl,q2,r2⟩:=gL hj h2
   have hi2:bO[((i:Nat):Int).toNat]?=some (.int c u):=by simpa using q2
   have hc:((i:Int)+1)=((i+1:Nat):Int):=by push_cast;rfl
   rw[xD] at h
   rw[hi1,hi2]
   obtain⟨e,he,NW⟩:=Dh A.in1 ⟨hp,g,d,tk,os⟩ a t c u
   refine wpAny_bind (he prog w _ _ ?_)
   cases e with
   | true =>
    rw[if_pos (NW.mp rfl)] at h
    wp_walk
    rw[hc]
    exact⟨plainId_quiet plain_eq_loop _,codeAny_builtin entry_eq_loop (by
     rw[Around.under_plainId plain_eq_loop _]
     exact ih (i+1) ns' ms' (by omega) (by omega) (by omega) r1 r2 prog w A R _ ⟨hl,hb,h⟩)⟩
   | false =>
    rw[if_neg (λq=>absurd (NW.mpr q) Bool.false_ne_true)] at h
    wp_walk using wpAny_loadPart' hl,wpAny_loadPart' hb
    rw[hi1,hi2]
    have hri:=Di A.in1 ⟨hp,g,d,tk,os⟩ a t c u prog w
    wp_walk using hri
    simpa using h
  ·have hi2:bO[((i:Nat):Int).toNat]?=none:=by simp;omega
   have e:=ix hj (by omega)
   subst e
   rw[hi1,hi2]
   wp_walk using wpAny_loadPart' hl,wpAny_loadPart' hb
   show R (.ok (.ret (.bool (decide (items.size<bO.size))))) _
   rw[decide_eq_false (by omega)]
   exact h
theorem uI(l b:Addr)(items bO:Array Value)(n n2:Nat)(dd dd2:Option Addr)(sl sl2:Array (Option Value))(ns ms:List Int)(hi:IntsAre items.toList ns)(hj:IntsAre bO.toList ms) :
  Meets (Builtin.«list.__lt__» ⟨[.ref l,.ref b],[]⟩)
   (λA R s=>s.heap.get? l=some { cls:=.type "list",dict:=dd,data:=.seq items n,slots:=sl }∧s.heap.get? b=some { cls:=.type "list",dict:=dd2,data:=.seq bO n2,slots:=sl2 } ∧
    R (.ok (.ret (.bool (lexLt ns ms)))) s):=by
 intro prog w A R s h
 obtain⟨hp,g,d,tk,os⟩:=s;obtain⟨hl,hb,h⟩:=h
 have f3:=AutoSeq1.sub_list_list
 wp_walk using wpAny_loadPart' hl,wpAny_loadPart' hb
 exact⟨plainId_quiet plain_eq_loop _,codeAny_builtin entry_eq_loop (by
  rw[Around.under_plainId plain_eq_loop _]
  exact Il l b items bO n n2 dd dd2 sl sl2 _ 0 ns ms rfl (Nat.zero_le _) (Nat.zero_le _) (by simpa using hi) (by simpa using hj) prog w A R _ ⟨hl,hb,h⟩)⟩
end
section
variable{prog:Program}{w:World}{A:Around}{E:Value→Shared→Prop}{s:Shared}
theorem yo{l b:Addr}{items bO:Array Value}{ns ms:List Int}{Q:Bool→Shared→Prop}(hl:s.heap.IsList l items)(hb:s.heap.IsList b bO)(hi:IntsAre items.toList ns)(hj:IntsAre bO.toList ms)
  (hu:A.units<cLine) (h:Q (lexLt ns ms) s):wpAny (model prog w) A (oneLt' true (.ref l) (.ref b)) Q E s:=by
 obtain⟨⟨cls,dd,data,sl⟩,ho,hc,n,hd⟩:=id hl
 obtain⟨⟨Kv,dd2,data2,sl2⟩,ho2,hc2,n2,hd2⟩:=id hb
 simp only at hc hd hc2 hd2
 subst hc hd hc2 hd2
 rw[oneLt'_eq]
 simp only[if_true]
 refine wpAny_bind (wpAny_cRoomFor hu ?_)
 refine wpAny_bind (wpAny_callSpecialIfBound?_slot ⟨_,ho,rfl⟩ PySem.F.slot_list_lt (call_meets PySem.F.slot_list_lt ⟨_,ho,rfl⟩ PySem.F.entry_list_lt (PySem.F.args_list_lt_2 _ _) (uI l b items bO n n2 dd dd2 sl sl2 ns ms hi hj) ⟨ho,ho2,?_⟩))
 exact wpAny_truthy_bool h
end
end HT
namespace HT
open PySem PySem.W PySem.Calls PyProof.Rows
def sO{α:Type}(lt:Nat→Nat→Bool):KasT α→α
 | .ret a=>a
 | .ask i j k=>sO lt (k (lt i j))
def Al{α:Type}(n:Nat)(R:α→Prop):KasT α→Prop
 | .ret a=>R a
 | .ask i j k=>i<n∧j<n∧∀b,Al n R (k b)
theorem Al.bind{α β:Type}{n:Nat}{R:α→Prop}{R':β→Prop}{f:α→KasT β}:∀{t:KasT α},Al n R t→(∀a,R a→Al n R' (f a))→Al n R' (t.bind f)
 | .ret a,h,hf=>hf a h
 | .ask i j k,h,hf=>⟨h.1,h.2.1,λb=>Al.bind (h.2.2 b) hf⟩
theorem Al.ev{α:Type}{n:Nat}{R:α→Prop}(lt:Nat→Nat→Bool):∀{t:KasT α},Al n R t→R (sO lt t)
 | .ret _,h=>h
 | .ask i j k,h=>by
  have:=Al.ev lt (t:=k (lt i j)) (h.2.2 (lt i j))
  exact this
theorem Al.wp{α:Type}{n:Nat}{R:α→Prop}{cmp:Nat→Nat→(Bool→Shared→Prop)→Shared→Prop}{lt:Nat→Nat→Bool}{Q:α→Shared→Prop}{s:Shared}(hc:∀i j C,i<n→j<n→C (lt i j) s→cmp i j C s):∀{t:KasT α},Al n R t→Q (sO lt t) s→t.kasWp cmp Q s
 | .ret _,_,q=>q
 | .ask i j k,h,q=>hc i j _ h.1 h.2.1 (Al.wp (t:=k (lt i j)) hc (h.2.2 (lt i j)) q)
section
variable{n:Nat}{p:Array Nat}
abbrev Pm(n:Nat)(p:Array Nat):Prop:=p.Perm (List.toArray (List.range n))
theorem Pm.gd(hn:0<n)(hp:Pm n p)(i:Nat):p.getD i 0<n:=by
 unfold Array.getD
 by_cases h:i<p.size
 ·rw[dif_pos h]
  have:p[i]∈(List.toArray (List.range n)):=hp.mem_iff.mp (Array.getElem_mem h)
  simpa using this
 ·rw[dif_neg h];exact hn
theorem Pm.rev(hp:Pm n p)(i j:Nat):Pm n (kas_rev p i j):=(mirror_perm _ _ _ _).trans hp
theorem yp(hn:0<n)(hp:Pm n p):∀f m,Al n (λ_=>True) (kas_asc p f m)
 | 0,_=>trivial
 | f+1,m=>⟨hp.gd hn _,hp.gd hn _,λb=>by
  cases b with
  | true=>exact trivial
  | false=>exact yp hn hp f (m+1)⟩
theorem pK(hn:0<n):∀f (p:Array Nat) m q,Pm n p→Al n (λr:Array Nat×Nat×Nat=>Pm n r.1) (kas_desc f p m q)
 | 0,_,_,_,hp=>hp
 | f+1,p,m,q,hp=>⟨hp.gd hn _,hp.gd hn _,λb=>by
  cases b with
  | true =>
   show Al n _ (if q > 0 then _ else _)
   by_cases h:q > 0
   ·rw[if_pos h];exact pK hn f _ _ _ (hp.rev _ _)
   ·rw[if_neg h];exact pK hn f _ _ _ hp
  | false=>exact⟨hp.gd hn _,hp.gd hn _,λd=>by
    cases d with
    | true=>exact hp
    | false=>exact pK hn f _ _ _ hp⟩⟩
theorem Ax(hn:0<n)(m r:Nat)(hp:Pm n p):Al n (λr:Nat×Array Nat=>Pm n r.2) (kas_tail3 m r p) :=
 Al.bind (yp hn (hp.rev _ _) _ _) λ_ _=>hp.rev _ _
theorem Ay(hn:0<n)(m r:Nat)(hp:Pm n p):Al n (λr:Nat×Array Nat=>Pm n r.2) (kas_descPart m r p) :=
 Al.bind (pK hn _ _ _ _ hp) λa ha=>by
  by_cases h:a.2.2 > 0
  ·rw[if_pos h];exact Ax hn _ _ (ha.rev _ _)
  ·rw[if_neg h];exact Ax hn _ _ ha
theorem EZ(hn:0<n)(r:Nat)(hp:Pm n p):Al n (λr:Nat×Array Nat=>Pm n r.2) (kas_count r p) :=
 Al.bind (yp hn hp _ _) λm _=>by
  by_cases h:(m==r)=true
  ·rw[if_pos h];exact hp
  ·rw[if_neg h]
   by_cases h1:m > 1
   ·rw[if_pos h1]
    exact⟨hp.gd hn _,hp.gd hn _,λb=>by
     cases b with
     | true=>exact hp
     | false=>exact Ay hn _ _ (hp.rev _ _)⟩
   ·rw[if_neg h1];exact Ay hn _ _ hp
theorem qG(hn:0<n)(hp:Pm n p)(k:Nat):∀f l r,Al n (λ_=>True) (kas_place p k f l r)
 | 0,_,_=>trivial
 | f+1,l,r=>by
  unfold kas_place
  by_cases h:l ≥ r
  ·rw[if_pos h];exact trivial
  ·rw[if_neg h]
   exact⟨hp.gd hn _,hp.gd hn _,λb=>by
    cases b with
    | true=>exact qG hn hp k f _ _
    | false=>exact qG hn hp k f _ _⟩
theorem E1(hn:0<n):∀f (p:Array Nat) k,Pm n p→Al n (λq=>Pm n q) (kas_bin f p k)
 | 0,_,_,hp=>hp
 | f+1,p,k,hp=>Al.bind (qG hn hp k _ _ _) λl _=>E1 hn f _ _ ((bubble_perm _ _ _).trans hp)
theorem Az(hn:0<n):Al n (λq=>Pm n q) (kas_sort n) :=
 Al.bind (EZ hn n (Array.Perm.refl _)) λr hr=>by
  by_cases h:r.1<n
  ·rw[if_pos h];exact E1 hn _ _ _ hr
  ·rw[if_neg h];exact hr
end
def rH(n:Nat)(lt:Nat→Nat→Bool):List Nat:=if n<2 then List.range n else (sO lt (kas_sort n)).toList
theorem kW(n:Nat)(lt:Nat→Nat→Bool):(rH n lt).Perm (List.range n):=by
 unfold rH
 by_cases h:n<2
 ·rw[if_pos h]
 ·rw[if_neg h]
  have:=(Az (n:=n) (by omega)).ev lt
  exact Array.perm_iff_toList_perm.mp this
section
variable{prog:Program}{w:World}{A:Around}{E:Value→Shared→Prop}{s:Shared}
def nP(vs:List Value)(lt:Nat→Nat→Bool):List Value:=(rH vs.length lt).map λi=>vs.getD i .none
theorem E3{vs:List Value}{lt:Nat→Nat→Bool}(h:vs.length<2):nP vs lt=vs:=by
 unfold nP rH
 rw[if_pos h]
 match vs,h with
 | [],_=>rfl
 | [v],_=>rfl
theorem oX{a:Addr}{vs:List Value}{n:Nat}{P:PySem.Fin→Shared→Prop}(lt:Nat→Nat→Bool)(ho:s.heap.get? a=some (seqObj "list" vs.toArray n))(h64:vs.length<64)
  (hT:∀h':Heap,(∀b o,b≠a→s.heap.get? b=some o→h'.get? b=some o)→∀v∈vs,Looks (model prog w) h' (typeOf v) (.type "list"))
  (hc:∀h':Heap,(∀b o,b≠a→s.heap.get? b=some o→h'.get? b=some o)→∀i j C,i<vs.length→j<vs.length→C (lt i j) { s with heap:=h' }→wpAny (model prog w) A (keyLt' oneType' (vs.getD i .none) (vs.getD j .none)) C (λ_ _=>False) { s with heap:=h' })
  (h:P (.done (.ret .none)) { s with heap:=sortedHeap s.heap a vs (nP vs lt).toArray }) :
  wpAny (model prog w) A (Builtin.«list.sort» ⟨[.ref a],[]⟩) P E s:=by
 rw[list_sort_plain]
 have ha:a<s.heap.objs.size:=Heap.lt_size ho
 refine wpAny_bind (listItems_at ho rfl ?_)
 refine wpAny_bind (listUpdate_at ho rfl ?_)
 obtain⟨e1,ho1⟩:∃e1,(s.heap.update a (Obj.mapSeq λ_=>#[])).get? a=some (seqObj "list" #[] e1):=⟨_,get?_update_seq ho (λ_=>#[])⟩
 refine wpAny_bind (seqEpoch_at ho1 rfl ?_)
 refine wpAny_bind (wpAny_newTuple ?_)
 refine wpAny_bind (wpAny_newList ?_)
 refine wpAny_holding ?_
 have ho6:(((s.heap.update a (Obj.mapSeq λ_=>#[])).push (seqObj "tuple" vs.toArray 0)).push (seqObj "list" #[] 0)).get? a=some (seqObj "list" #[] e1):=by
  rw[Heap.get?_push_ne _ _ _ (by rw[size_push',Heap.size_update];exact Nat.ne_of_lt (Nat.lt_succ_of_lt ha)),Heap.get?_push_ne _ _ _ (by rw[Heap.size_update];exact Nat.ne_of_lt ha)]
  exact ho1
 have kp:∀b o,b≠a→s.heap.get? b=some o→(((s.heap.update a (Obj.mapSeq λ_=>#[])).push (seqObj "tuple" vs.toArray 0)).push (seqObj "list" #[] 0)).get? b=some o:=λb o hb e=>by
  refine Heap.get?_push_of_some _ (Heap.get?_push_of_some _ ?_)
  rw[Heap.get?_update_ne _ _ _ _ hb]
  exact e
 show wpAny (model prog w) A _ P E { s with heap:=((s.heap.update a (Obj.mapSeq λ_=>#[])).push (seqObj "tuple" vs.toArray 0)).push (seqObj "list" #[] 0) }
 dsimp only
 have hsz:vs.toArray.size=vs.length:=by simp
 by_cases h2:vs.toArray.size<2
 ·rw[if_pos h2,if_pos h2]
  refine wpAny_bind (wpAny_pure ?_)
  rw[StateT.run_pure]
  refine wpAny_bind (wpAny_pure ?_)
  dsimp only
  refine wpAny_bind (seqEpoch_at ho6 rfl ?_)
  refine wpAny_bind (listUpdate_at ho6 rfl ?_ (hsz2:=by rw[Array.size_map];show(pairsOf vs).size≤_;rw[pairsOf_size,sizeLine_eq];omega))
  simp only[bne_self_eq_false,Bool.false_eq_true,if_false]
  refine wpAny_pure ?_
  rw[E3 (by rw[← hsz];exact h2)] at h
  have e:(arrOf (SortSt.mk' general' (vs.toArray.zip vs.toArray) #[] 7 none)).map (·.2)=vs.toArray:=by
   show(vs.toArray.zip vs.toArray).map (·.2)=vs.toArray
   apply Array.toList_inj.mp
   simp[List.map_snd_zip]
  rw[e]
  exact h
 ·rw[if_neg h2,if_neg h2]
  have h2':2≤vs.length:=by omega
  refine wpAny_bind (kas_kind (T:=.type "list") h2' (hT _ kp) (by decide) (by decide) ?_)
  have hal:=Az (n:=vs.length) (by omega)
  have ask:(kas_sort vs.length).kasWp (kas_ask prog w A oneType' vs) (λp s'=>p=sO lt (kas_sort vs.length)∧s'={ s with heap:=((s.heap.update a (Obj.mapSeq λ_=>#[])).push (seqObj "tuple" vs.toArray 0)).push (seqObj "list" #[] 0) }) { s with heap:=((s.heap.update a (Obj.mapSeq λ_=>#[])).push (seqObj "tuple" vs.toArray 0)).push (seqObj "list" #[] 0) } :=
   Al.wp (lt:=lt) (λi j C hi hj q=>hc _ kp i j C hi hj q) hal ⟨rfl,rfl⟩
  rw[kas_ask_eq] at ask
  have est:SortSt.mk' oneType' (vs.toArray.zip vs.toArray) #[] 7 none=kas_st oneType' (pairsOf vs) (List.toArray (List.range vs.length)):=by
   have e:=kas_range (pairsOf vs)
   rw[pairsOf_size] at e
   show SortSt.mk' oneType' (pairsOf vs) #[] 7 none=SortSt.mk' oneType' ((List.toArray (List.range vs.length)).map (kas_item (pairsOf vs))) #[] 7 none
   rw[e]
  have run:=kas_runs (E:=E) (Q:=λ_ st' s'=>∃p:Array Nat,p.size=vs.length∧arrOf st'=p.map (kas_item (pairsOf vs))∧failedOf st'=none∧p=sO lt (kas_sort vs.length)∧s'={ s with heap:=((s.heap.update a (Obj.mapSeq λ_=>#[])).push (seqObj "tuple" vs.toArray 0)).push (seqObj "list" #[] 0) })
   h2' h64 (λp' st' s' a1 a2 a3 a4=>⟨p',a1,a2,a3,a4⟩) ask
  rw[← est] at run
  refine wpAny_bind (wpAny_mono run ?_ λ_ _ e=>e)
  rintro⟨⟨⟩,st'⟩ s' ⟨p,hp,har,hf,hpe,rfl⟩
  dsimp only
  have Lx:(arrOf st').map (·.2)=(nP vs lt).toArray:=by
   apply Array.toList_inj.mp
   rw[har,Array.map_map,Array.toList_map]
   unfold nP rH
   rw[if_neg (by omega),hpe]
   exact List.map_congr_left λi _=>by show(kas_item (pairsOf vs) i).2=_;rw[kas_item_eq]
  have hsz2:(nP vs lt).length=vs.length:=by unfold nP;rw[List.length_map,(kW _ _).length_eq,List.length_range]
  refine wpAny_bind (seqEpoch_at ho6 rfl ?_)
  rw[Lx]
  refine wpAny_bind (listUpdate_at ho6 rfl ?_ (hsz2:=by rw[List.size_toArray,hsz2,sizeLine_eq];omega))
  rw[hf]
  simp only[bne_self_eq_false,Bool.false_eq_true,if_false]
  exact wpAny_pure h
end
end HT
namespace Fw
open PySem
def oH:List T→Option (List (List Int))
 | []=>some []
 | .lst us::ts=>(cM us).bind λns=>(oH ts).map (ns::·)
 | _::_=>none
def ltN(nss:List (List Int))(i j:Nat):Bool:=HT.lexLt (nss.getD i []) (nss.getD j [])
def qH{α:Type}(xs:List α)(d:α)(nss:List (List Int)):List α:=(HT.rH xs.length (ltN nss)).map λi=>xs.getD i d
def cW:T→Option T
 | .lst ts=>(oH ts).bind λnss=>if ts.length<64 then some (.lst (qH ts .non nss)) else none
 | _=>none
def mR:T→Option T
 | .tup ts=>(cM ts).bind λns=>if ns.length<64 then some (.lst ((jS ns).map T.int)) else none
 | _=>none
end Fw
namespace HT
open PySem PySem.W PySem.Calls PyProof.Rows
section
variable{prog:Program}{w:World}{A:Around}{E:Value→Shared→Prop}{s:Shared}
theorem uJ{l:Addr}{vs:List Value}{Q:Value→Shared→Prop}(lt:Nat→Nat→Bool)(hl:s.heap.IsList l vs.toArray)(h64:vs.length<64)
  (hT:∀h':Heap,(∀b o,s.heap.get? b=some o→h'.get? b=some o)→∀v∈vs,Looks (model prog w) h' (typeOf v) (.type "list"))
  (hc:∀h':Heap,(∀b o,s.heap.get? b=some o→h'.get? b=some o)→∀i j C,i<vs.length→j<vs.length→C (lt i j) { s with heap:=h' }→wpAny (model prog w) A.in1.in1 (keyLt' oneType' (vs.getD i .none) (vs.getD j .none)) C (λ_ _=>False) { s with heap:=h' })
  (h:Q (.ref (s.heap.objs.size+1)) { s with heap:=sortedAll s.heap vs (nP vs lt).toArray }) :
  wpAny (model prog w) A (call (.builtin "sorted") [.ref l]) Q E s:=by
 refine Calls.call_function_entry kind_sorted plain_sorted entry_sorted (args_sorted1 _) ?_
 unfold Builtin.«sorted»
 refine wpAny_bind (m:=checkCount "sorted" 1 1 _) (wpAny_pure ?_)
 refine wpAny_bind (collect_list hl ?_)
 refine wpAny_bind (wpAny_newList ?_)
 have hsz:((s.heap.push (seqObj "list" #[] 0)).update s.heap.objs.size (Obj.mapSeq (·++vs.toArray))).objs.size=s.heap.objs.size+1:=by
  rw[Heap.size_update,size_push']
 have hoL:(((s.heap.push (seqObj "list" #[] 0)).update s.heap.objs.size (Obj.mapSeq (·++vs.toArray))).push (seqObj "list" vs.toArray 0)).get? (s.heap.objs.size+1)=some (seqObj "list" vs.toArray 0):=by
  rw[← hsz];exact Heap.get?_push_size _ rfl
 have keep:∀b o,s.heap.get? b=some o→b≠s.heap.objs.size+1∧(((s.heap.push (seqObj "list" #[] 0)).update s.heap.objs.size (Obj.mapSeq (·++vs.toArray))).push (seqObj "list" vs.toArray 0)).get? b=some o:=λb o q=>by
  have hlt:b<s.heap.objs.size:=Heap.lt_size q
  refine⟨Nat.ne_of_lt (Nat.lt_succ_of_lt hlt),?_⟩
  rw[Heap.get?_push_ne _ _ _ (by rw[hsz];exact Nat.ne_of_lt (Nat.lt_succ_of_lt hlt)),Heap.get?_update_ne _ _ _ _ (Nat.ne_of_lt hlt),Heap.get?_push_ne _ _ _ (Nat.ne_of_lt hlt)]
  exact q
 show wpAny _ _ _ _ _ { s with heap:=((s.heap.push (seqObj "list" #[] 0)).update s.heap.objs.size (Obj.mapSeq (·++vs.toArray))).push (seqObj "list" vs.toArray 0) }
 rw[hsz]
 refine wpAny_bind (wpAny_holding (wpAny_call_entry slot_list_sort ⟨_,hoL,rfl⟩ entry_list_sort (oX (s:={ s with heap:=((s.heap.push (seqObj "list" #[] 0)).update s.heap.objs.size (Obj.mapSeq (·++vs.toArray))).push (seqObj "list" vs.toArray 0) }) lt hoL h64 (λh' kp=>hT h' λb o q=>kp b o (keep b o q).1 (keep b o q).2) (λh' kp i j C hi hj q=>hc h' (λb o e=>kp b o (keep b o e).1 (keep b o e).2) i j C hi hj q) ⟨_,rfl,?_⟩) (args_list_sort _)))
 exact wpAny_pure ⟨_,rfl,h⟩
end
end HT
namespace L2
open PySem PySem.Spec PyProof.Rows Fw
section
variable{X:Cx}
def LsI(K:PySem.W.Frag)(H:Hp):List V→List (List Int)→Prop
 | [],[]=>True
 | v::vs,ns::nss=>(∃a,v=.ref a∧SqL K H a (ns.map V.int))∧LsI K H vs nss
 | _,_=>False
theorem LsI.len{K:PySem.W.Frag}{H:Hp}:∀{vs:List V}{nss:List (List Int)},LsI K H vs nss→vs.length=nss.length
 | [],[],_=>rfl
 | _::_,_::_,h=>by rw[List.length_cons,List.length_cons,LsI.len h.2]
theorem LsI.at{K:PySem.W.Frag}{H:Hp}:∀{vs:List V}{nss:List (List Int)} (i:Nat),LsI K H vs nss→i<vs.length→∃a,vs[i]?=some (.ref a)∧SqL K H a ((nss.getD i []).map V.int)
 | _::_,_::_,0,h,_=>by obtain⟨a,rfl,q⟩:=h.1;exact⟨a,rfl,q⟩
 | _::_,_::_,i+1,h,hi=>by
  obtain⟨a,h1,h2⟩:=LsI.at i h.2 (by simpa using hi)
  exact⟨a,h1,h2⟩
theorem E4{xs:List V}{us:List Value}(r:Vals xs us)(ps:List Nat)(hp:∀i∈ps,i<xs.length):Vals (ps.map λi=>xs.getD i .non) (ps.map λi=>us.getD i .none):=by
 induction ps with
 | nil=>exact .nil
 | cons i ps ih =>
  refine .cons ?_ (ih λj hj=>hp j (.tail _ hj))
  have hi:=hp i (.head _)
  have hu:i<us.length:=by rw[← r.length];exact hi
  obtain⟨u,h1,h2⟩:=r.get (List.getElem?_eq_getElem hi)
  show RelV (xs.getD i .non) (us.getD i .none)
  rw[List.getD_eq_getElem?_getD,List.getElem?_eq_getElem hi,Option.getD_some,List.getD_eq_getElem?_getD,h1,Option.getD_some]
  exact h2
theorem AA{n:Nat}{lt:Nat→Nat→Bool}:∀i∈HT.rH n lt,i<n:=λi hi=>List.mem_range.mp ((HT.kW n lt).mem_iff.mp hi)
theorem uK(hu:X.A.units+2<cLine):cT X (.builtin "sorted") (λxs H Q=>∃(p:Addr) (vs:List V) (nss:List (List Int)),xs=[.ref p]∧SqL X.K H p vs∧LsI X.K H vs nss∧vs.length<64∧∀q,H q=none→Q (.ref q) (upd H q (.lst (qH vs .non nss)))):=by
 intro pins s σ H xs us Q I r h
 obtain⟨p,vs,nss,rfl,hq,hI,hlt,q⟩:=h
 obtain⟨u,rfl,ru⟩:=vals1 r
 cases ru
 obtain⟨its,rv,pl,hz⟩:=I.list hq
 have hl:=rv.length
 have hat:∀i,i<its.length→∃a items,its.getD i .none=.ref a∧s.heap.IsList a items∧IntsAre items.toList (nss.getD i []):=λi hi=>by
  obtain⟨a,h1,h2⟩:=hI.at i (by omega)
  obtain⟨u,h3,h4⟩:=rv.get h1
  cases h4
  obtain⟨lb,rv2,pl2,_⟩:=I.list h2
  refine⟨a,lb.toArray,?_,pl2.isList,by simpa using intsAre_of rv2⟩
  rw[List.getD_eq_getElem?_getD,h3];rfl
 have E5:∀(h':Heap) (a:Addr) (items:Array Value),(∀b o,s.heap.get? b=some o→h'.get? b=some o)→s.heap.IsList a items→h'.IsList a items:=λh' a items kp ⟨o,e,z⟩=>⟨o,kp _ _ e,z⟩
 refine HT.uJ (ltN nss) pl.isList (by omega) (λh' kp v hv=>?_) (λh' kp i j C hi hj hC=>?_) ?_
 ·obtain⟨i,hi,rfl⟩:=List.getElem_of_mem hv
  obtain⟨a,items,e1,e2,e3⟩:=hat i hi
  rw[List.getD_eq_getElem?_getD,List.getElem?_eq_getElem hi,Option.getD_some] at e1
  rw[e1]
  obtain⟨o,ho,hc,_⟩:=E5 h' a items kp e2
  rw[← hc]
  exact(PySem.W.Looks.ld ho).andThen .now
 ·obtain⟨a,items,e1,e2,e3⟩:=hat i hi
  obtain⟨b,bO,f1,f2,f3⟩:=hat j hj
  rw[e1,f1,keyLt'_oneType]
  exact HT.yo (s:={ s with heap:=h' }) (E5 h' a items kp e2) (E5 h' b bO kp f2) e3 f3 (by show X.A.units+1+1<cLine;omega) hC
 have hv:=E4 rv (HT.rH its.length (ltN nss)) (λi hi=>by have:=AA i hi;omega)
 have keep:∀b o,s.heap.get? b=some o→(sortedAll s.heap its (HT.nP its (ltN nss)).toArray).get? b=some o:=λb o e=>by
  have hb:=Heap.lt_size e
  have n1:s.heap.objs.size≠b:=Nat.ne_of_gt hb
  have n2:s.heap.objs.size+1≠b:=Nat.ne_of_gt (Nat.lt_succ_of_lt hb)
  unfold sortedAll sortedHeap
  rw[Heap.get?_update_other _ _ n2]
  refine Heap.get?_push_of_some _ (Heap.get?_push_of_some _ ?_)
  rw[Heap.get?_update_other _ _ n2]
  refine Heap.get?_push_of_some _ ?_
  rw[Heap.get?_update_other _ _ n1]
  exact Heap.get?_push_of_some _ e
 have hsz:((s.heap.push (seqObj "list" #[] 0)).update s.heap.objs.size (Obj.mapSeq (·++its.toArray))).objs.size=s.heap.objs.size+1:=by
  rw[Heap.size_update,Heap.size_push]
 have new:∃c,(sortedAll s.heap its (HT.nP its (ltN nss)).toArray).get? (s.heap.objs.size+1)=some { cls:=.type "list",data:=.seq (HT.nP its (ltN nss)).toArray c }:=by
  have h1:(((s.heap.push (seqObj "list" #[] 0)).update s.heap.objs.size (Obj.mapSeq (·++its.toArray))).push (seqObj "list" its.toArray 0)).get? (s.heap.objs.size+1)=some (seqObj "list" its.toArray 0):=by
   rw[← hsz];exact Heap.get?_push_size _ rfl
  have h2:=Heap.get?_update_self (Obj.mapSeq λ_=>(#[]:Array Value)) h1 rfl
  have h3:=Heap.get?_push_of_some (seqObj "list" #[] 0) (Heap.get?_push_of_some (seqObj "tuple" its.toArray 0) h2)
  have h4:=Heap.get?_update_self (Obj.mapSeq λ_=>(HT.nP its (ltN nss)).toArray) h3 rfl
  exact⟨_,h4⟩
 obtain⟨c,hc⟩:=new
 have hle:s.heap.objs.size≤s.heap.objs.size+1:=Nat.le_succ _
 have es:qH vs .non nss=(HT.rH its.length (ltN nss)).map λi=>vs.getD i .non:=by unfold qH;rw[hl]
 refine⟨.ref (s.heap.objs.size+1),_,I.laid (a:=s.heap.objs.size+1) (o:=.lst (qH vs .non nss)) (t':=s.toks) keep hle ⟨?_,(HT.nP its (ltN nss)),c,?_,hc⟩,rfl,q _ (I.hok.fresh hle)⟩
 ·rw[es,List.length_map,(HT.kW _ _).length_eq,List.length_range,← hl];exact hz
 ·rw[es];exact hv
end
end L2
namespace Fw
open PySem PySem.Spec PyProof.Rows L2
section
variable{K:PySem.W.Frag}{F H:Hp}
theorem E6(s:aN F H):∀{ts:List T}{vs:List V}{nss:List (List Int)},aD K F ts vs→oH ts=some nss→LsI K H vs nss
 | [],vs,nss,r,h=>by
  rw[aD] at r
  subst r
  cases h
  exact trivial
 | t::ts,vs,nss,r,h=>by
  rw[aD] at r
  obtain⟨v,vs',rfl,r1,r2⟩:=r
  cases t with
  | lst us =>
   obtain⟨ns,h1,h2⟩:=Option.bind_eq_some_iff.mp (show(cM us).bind (λns=>(oH ts).map (ns::·))=some nss from h)
   obtain⟨PN,h3,rfl⟩:=Option.map_eq_some_iff.mp h2
   rw[Rep] at r1
   obtain⟨a,ws,rfl,q,rw_⟩:=r1
   have e:=rw_.ints h1
   subst e
   exact⟨⟨a,rfl,aN.seq s q⟩,E6 s r2 h3⟩
  | _=>cases h
theorem AB{ts:List T}{vs:List V}(r:aD K F ts vs):∀(ps:List Nat),(∀i∈ps,i<ts.length)→aD K F (ps.map λi=>ts.getD i .non) (ps.map λi=>vs.getD i .non)
 | [],_=>aD.jf
 | i::ps,hp=>by
  have hi:=hp i (.head _)
  obtain⟨v,h1,h2⟩:=r.get (List.getElem?_eq_getElem hi)
  refine aD.dI ?_ (AB r ps λj hj=>hp j (.tail _ hj))
  show Rep K F (ts.getD i .non) (vs.getD i .non)
  rw[List.getD_eq_getElem?_getD,List.getElem?_eq_getElem hi,Option.getD_some,List.getD_eq_getElem?_getD,h1,Option.getD_some]
  exact h2
end
section
variable{X:Cx}{a:Expr}{da:D}{p pos:Pos}{k:Nat}
theorem jm(hr:b_ k X.A)(hm:X.mg "sorted"=none)(ha:CE X a da)(hg:Gl X "sorted":=by rfl)(hs1:starEach [a] X.env=(false,eval a X.env)::starEach [] X.env:=by rfl)(hpl:(backTo pos (starEach [] X.env)).any (·.1)=false:=by rfl) :
  CF X (.Call (.Name "sorted" p) [a] [] pos) (dUn cW da) :=
 ⟨PE.imp (mx (uK (by have:=hr.units;omega)) hg hm (by decide +kernel) (ag ha aq hs1) (by decide) (by decide) hs1 hpl) (DY (by
 intro F H v t w Q s hv hw q
 cases t with
 | lst ts =>
  obtain⟨nss,h1,h2⟩:=Option.bind_eq_some_iff.mp (show((oH ts).bind λnss=>if ts.length<64 then some (T.lst (qH ts .non nss)) else none)=some w from hw)
  obtain⟨a,vs,rfl,hq,hl⟩:=hv.lh
  have ll:=hl.length
  by_cases hlt:ts.length<64
  ·rw[if_pos hlt] at h2
   cases h2
   refine⟨a,vs,nss,rfl,hq,E6 s hl h1,by omega,λp hp=>?_⟩
   have e:qH vs .non nss=(HT.rH ts.length (ltN nss)).map λi=>vs.getD i .non:=by unfold qH;rw[ll]
   rw[e]
   exact q p _ hp ⟨_,aB,AB hl _ λi hi=>AA i hi⟩
  ·rw[if_neg hlt] at h2;cases h2
 | _=>cases hw)),λ_ _ _ _ h=>zZ h⟩
end
end Fw
namespace Fw
open PySem
end Fw
namespace Fw
open PySem PySem.Spec PyProof.Rows L2
section
variable{K:PySem.W.Frag}{F H:Hp}{α:List Addr}{μ:af}
end
section
variable{X:Cx}{a b:Expr}{da db:D}{pos:Pos}{k:Nat}
end
section
variable{X:Cx}{body:List Stmt}{it:Expr}{dv:D}{d:DS}{pos np:Pos}
end
end Fw
namespace HT
open PySem PySem.Calls PyProof.Rows
section
variable{prog:Program}{w:World}{A:Around}{E:Value→Shared→Prop}{s:Shared}
theorem wu{l:Addr}{vs:List Value}{Q:List Value→Shared→Prop}(hl:IsTup s.heap l vs.toArray)
  (h:Q vs { s with heap:=(s.heap.push (seqObj "list" #[] 0)).update s.heap.objs.size (Obj.mapSeq (·++vs.toArray)) }) (hsz:vs.length≤sizeLine:=by size_fits) :
  wpAny (model prog w) A (collect (.ref l)) Q E s:=by
 obtain⟨o,ho,hc,n,hd⟩:=id hl
 unfold collect
 refine wpAny_bind (wpAny_runValue (codeAny_builtin entry_proto_collect' ?_))
 show wpAny _ _ (do again (.builtin "list.__iadd__" ⟨[← newList [],.ref l],[]⟩)) _ _ s
 refine wpAny_bind (wpAny_newList (wpAny_pure ⟨Code.quiet_builtin _ (by decide +kernel),codeAny_builtin entry_list_iadd' ?_⟩))
 show wpAny _ _ (Builtin.List.listExtendWith (.ref s.heap.objs.size) (.ref l) (.ref s.heap.objs.size)) _ _ { s with heap:=s.heap.push (seqObj "list" #[] 0) }
 unfold Builtin.List.listExtendWith
 have ho':(s.heap.push (seqObj "list" #[] 0)).get? l=some o:=Heap.get?_push_of_some _ ho
 refine wpAny_bind (wpAny_typeOf (T:="tuple") ⟨o,ho',hc⟩ ?_)
 have ht:(Value.type "tuple"==Value.type "tuple")=true:=by rfl
 rw[if_pos (by rw[ht];simp)]
 refine wpAny_bind (listItems_at ho' hd ?_)
 refine wpAny_bind (listItems_at (xs:=#[]) (n:=0) (Heap.get?_push_size _ rfl) rfl ?_)
 rw[if_neg (by simp)]
 refine wpAny_bind (listUpdate_at (xs:=#[]) (n:=0) (Heap.get?_push_size _ rfl) rfl ?_ (Nat.zero_le _) (by show(#[]++vs.toArray).size≤sizeLine+1;simp only[Array.size_append,List.size_toArray,List.length_nil];omega))
 refine wpAny_pure ?_
 show wpAny (model prog w) A (do
   let o ← load s.heap.objs.size
   match o.data with
   | .seq xs _=>pure xs.toList
   | _=>unsupported "internal:collect") Q E { s with heap:=(s.heap.push (seqObj "list" #[] 0)).update s.heap.objs.size (Obj.mapSeq (·++vs.toArray)) }
 refine wpAny_bind (wpAny_load (get?_update_seq (Heap.get?_push_size _ rfl) _) ?_)
 show wpAny _ _ (pure ((#[]:Array Value)++vs.toArray).toList) Q E _
 rw[show((#[]:Array Value)++vs.toArray).toList=vs by simp]
 exact wpAny_pure h
theorem yq{l:Addr}{vs:List Value}{ns:List Int}{Q:Value→Shared→Prop}(hl:IsTup s.heap l vs.toArray)(hI:IntsAre vs ns)(h64:vs.length<64)
  (h:∀(out:Array Value) (ns':List Int),IntsAre out.toList ns'→ns'.Perm ns→ns'.Pairwise (·≤·)→Q (.ref (s.heap.objs.size+1)) { s with heap:=sortedAll s.heap vs out }) :
  wpAny (model prog w) A (call (.builtin "sorted") [.ref l]) Q E s:=by
 refine Calls.call_function_entry kind_sorted plain_sorted entry_sorted (args_sorted1 _) ?_
 unfold Builtin.«sorted»
 refine wpAny_bind (m:=checkCount "sorted" 1 1 _) (wpAny_pure ?_)
 refine wpAny_bind (wu hl ?_)
 refine wpAny_bind (wpAny_newList ?_)
 have hsz:((s.heap.push (seqObj "list" #[] 0)).update s.heap.objs.size (Obj.mapSeq (·++vs.toArray))).objs.size=s.heap.objs.size+1:=by
  rw[Heap.size_update,size_push']
 have hoL:(((s.heap.push (seqObj "list" #[] 0)).update s.heap.objs.size (Obj.mapSeq (·++vs.toArray))).push (seqObj "list" vs.toArray 0)).get? (s.heap.objs.size+1)=some (seqObj "list" vs.toArray 0):=by
  rw[← hsz];exact Heap.get?_push_size _ rfl
 show wpAny _ _ _ _ _ { s with heap:=((s.heap.push (seqObj "list" #[] 0)).update s.heap.objs.size (Obj.mapSeq (·++vs.toArray))).push (seqObj "list" vs.toArray 0) }
 rw[hsz]
 refine wpAny_bind (wpAny_holding (wpAny_call_entry slot_list_sort ⟨_,hoL,rfl⟩ entry_list_sort (list_sort_tree hoL hI h64 λout ns' a1 a2 a3=>⟨_,rfl,?_⟩) (args_list_sort _)))
 exact wpAny_pure ⟨_,rfl,h out ns' a1 a2 a3⟩
end
end HT
namespace L2
open PySem PySem.Spec PyProof.Rows Fw
section
variable{X:Cx}
theorem uL:cT X (.builtin "sorted") (λxs H Q=>∃(p:Addr) (ns:List Int),xs=[.ref p]∧SqT X.K H p (ns.map V.int)∧ns.length<64∧∀q,H q=none→Q (.ref q) (upd H q (.lst ((jS ns).map V.int)))):=by
 intro pins s σ H xs us Q I r h
 obtain⟨p,ns,rfl,hq,hlt,q⟩:=h
 obtain⟨u,rfl,ru⟩:=vals1 r
 cases ru
 obtain⟨its,rv,pl,hz⟩:=I.tuple hq
 have hi:IntsAre its ns:=intsAre_of rv
 have hl:=rv.length
 rw[List.length_map] at hl hz
 refine HT.yq pl hi (by omega) λout ns' a1 a2 a3=>?_
 have e:ns'=jS ns:=Af a2 a3
 subst e
 have hv:=jl a1
 have hsz:((s.heap.push (seqObj "list" #[] 0)).update s.heap.objs.size (Obj.mapSeq (·++its.toArray))).objs.size=s.heap.objs.size+1:=by
  rw[Heap.size_update,Heap.size_push]
 have keep:∀b o,s.heap.get? b=some o→(sortedAll s.heap its out).get? b=some o:=λb o e=>by
  have hb:=Heap.lt_size e
  have n1:s.heap.objs.size≠b:=Nat.ne_of_gt hb
  have n2:s.heap.objs.size+1≠b:=Nat.ne_of_gt (Nat.lt_succ_of_lt hb)
  unfold sortedAll sortedHeap
  rw[Heap.get?_update_other _ _ n2]
  refine Heap.get?_push_of_some _ (Heap.get?_push_of_some _ ?_)
  rw[Heap.get?_update_other _ _ n2]
  refine Heap.get?_push_of_some _ ?_
  rw[Heap.get?_update_other _ _ n1]
  exact Heap.get?_push_of_some _ e
 have new:∃c,(sortedAll s.heap its out).get? (s.heap.objs.size+1)=some { cls:=.type "list",data:=.seq out c }:=by
  have h1:(((s.heap.push (seqObj "list" #[] 0)).update s.heap.objs.size (Obj.mapSeq (·++its.toArray))).push (seqObj "list" its.toArray 0)).get? (s.heap.objs.size+1)=some (seqObj "list" its.toArray 0):=by
   rw[← hsz];exact Heap.get?_push_size _ rfl
  have h2:=Heap.get?_update_self (Obj.mapSeq λ_=>(#[]:Array Value)) h1 rfl
  have h3:=Heap.get?_push_of_some (seqObj "list" #[] 0) (Heap.get?_push_of_some (seqObj "tuple" its.toArray 0) h2)
  have h4:=Heap.get?_update_self (Obj.mapSeq λ_=>out) h3 rfl
  exact⟨_,h4⟩
 obtain⟨c,hc⟩:=new
 have hle:s.heap.objs.size≤s.heap.objs.size+1:=Nat.le_succ _
 refine⟨.ref (s.heap.objs.size+1),_,I.laid (a:=s.heap.objs.size+1) (o:=.lst ((jS ns).map V.int)) (t':=s.toks) keep hle ⟨?_,out.toList,c,hv,?_⟩,rfl,q _ (I.hok.fresh hle)⟩
 ·rw[List.length_map,(iT ns).length_eq];exact hz
 ·simpa using hc
end
end L2
namespace Fw
open PySem PySem.Spec PyProof.Rows L2
section
variable{X:Cx}{a:Expr}{da:D}{p pos:Pos}
theorem yr(hm:X.mg "sorted"=none)(ha:CE X a da)(hg:Gl X "sorted":=by rfl)(hs1:starEach [a] X.env=(false,eval a X.env)::starEach [] X.env:=by rfl)(hpl:(backTo pos (starEach [] X.env)).any (·.1)=false:=by rfl) :
  CE X (.Call (.Name "sorted" p) [a] [] pos) (dUn mR da):=mL uL (by
 intro F H v t w Q s hv hw q
 cases t with
 | tup ts =>
  obtain⟨ns,h1,h2⟩:=Option.bind_eq_some_iff.mp (show((cM ts).bind λns=>if ns.length<64 then some (T.lst ((jS ns).map T.int)) else none)=some w from hw)
  obtain⟨a,vs,rfl,hq,hl⟩:=hv.qx
  have e:=hl.ints h1
  subst e
  by_cases hlt:ns.length<64
  ·rw[if_pos hlt] at h2
   cases h2
   exact⟨a,ns,rfl,aN.iP s hq,hlt,λp hp=>pF s hp (aD.mH _) q⟩
  ·rw[if_neg hlt] at h2;cases h2
 | _=>cases hw) hm (by decide +kernel) ha hg (by decide) (by decide) hs1 hpl
end
end Fw
namespace Fw
open PySem
end Fw
namespace L2
open PySem PySem.Spec PyProof.Rows
end L2
namespace Fw
open PySem PySem.Spec PyProof.Rows L2
section
variable{X:Cx}{a b:Expr}{da db:D}{pos:Pos}{k:Nat}
end
section
variable{X:Cx}{a b:Expr}{da db:D}{pos:Pos}{k:Nat}
end
end Fw
set_option maxHeartbeats 4000000
namespace Fw
open PySem PySem.Spec PyProof.Rows L2
theorem oY{X0:Cx}{N' N2 N3:List Str}{scope nL E7:Scope}{cl cl2:List (Str×Addr)}{C C2:Addr}{s₀ s₂:Shared}{H₀ H₂:Hp}{ex ex2:List Addr}{mp:List (Option Nat)}(so:Scope)(hso:X0.env.scope=so)(h:qv N2 N3 E7 (dn nL (dn scope so)) mp) :
  dB (bR (bR X0 N' scope cl C s₀ H₀ ex) N2 nL cl2 C2 s₂ H₂ ex2) N3 E7 mp:=az (dn nL (dn scope so)) (by subst hso;rfl) N2 rfl h
theorem fsc{N P:List Str}{sc:Scope}(h1:sc.kind=.function:=by rfl)(h2:sc.isCoroutine=false:=by rfl)(h3:sc.isGenerator=false:=by rfl)(h4:N.Nodup:=by decide +kernel)(h5:N.take P.length=P:=by rfl)
  (h6:∀x∈P,sc.names.lookup x=some .local∨sc.names.lookup x=some .cell:=by decide +kernel) (h7:∀y∈sc.names,y.2≠.free:=by decide +kernel):aH N P sc:=⟨h1,h2,h3,h4,h5,h6,h7⟩
section
variable{X:Cx}{k r:Nat}{f:Addr}{fd:FuncData}{ps:List Str}{fn:FN}{x:Str}{st:Stmt}{e:Expr}{es:List Expr}{ds:List D}{p pos:Pos}
theorem cc(G:i9 X.prog X.w X.K X.mg X.base CX0 k f fd ps (spD X.K fn ps.length))(hr:b_ r X.A)(g:Gf X.K X.mg x st ps f fd)(ha:CA X (e::es) ds)(le:k≤r:=by first|decide|exact Nat.le_refl _|exact Nat.le_trans (by decide) (Nat.le_add_right _ _))
  (hl:ds.length=ps.length:=by rfl) (hg:Gl X x:=by rfl) (hdb:(x==("__debug__":Str))=false:=by decide) (he:starEach (e::es) X.env=(false,eval e X.env)::starEach es X.env:=by rfl) (hpl:(backTo pos (starEach es X.env)).any (·.1)=false:=by rfl) :
  CE X (.Call (.Name x p) (e::es) [] pos) (ak (cal fn) ds):=Hx G (hr.mono le) g.m g.F.kp g.b ha hl hg hdb he hpl
end
structure Fa(K:PySem.W.Frag)(x:Str)(st:Stmt)(f:Addr)(fd:FuncData):Prop where
 a:PySem.W.nsIn K mainGlobals x=some (some (.ref f))
 F:Fun K x x st f fd
section
variable{K:PySem.W.Frag}{mg:Str→Option Value}{x:Str}{st:Stmt}{f:Addr}
theorem bp{oc:Value}{od an:Option Addr}{osl:Array (Option Value)}{kV doc pm cdv ct:Value}(a:PySem.W.nsIn K mainGlobals x=some (some (.ref f)))(l:K.lookup f=some ⟨oc,od,.func (PySem.W.fnOf x x (gQ st) (e_ st) (ao st) .none kV doc pm an cdv ct),osl⟩)
  (c:PySem.W.codeIn K cdv x=true) (k:PySem.W.keepIn K (.ref f)=true):Fa K x st f (PySem.W.fnOf x x (gQ st) (e_ st) (ao st) .none kV doc pm an cdv ct):=⟨a,KU l c k⟩
variable{fd:FuncData}{ps:List Str}{h:Heap}
def Bn(x:Str)(st:Stmt)(ps:List Str)(us:List Value):Prop:=∀(kV doc pm:Value) (an:Option Addr) (cdv ct:Value),bindArgs (PySem.W.fnOf x x (gQ st) (e_ st) (ao st) .none kV doc pm an cdv ct) ⟨us,[]⟩=pure (ps.zip us)
theorem wx(X:K.In h)(G:h.Ns mainGlobals mg)(A:Fa K x st f fd)(b:∀us:List Value,us.length=ps.length→Bn x st ps us):Gf K mg x st ps f fd:=⟨A.F,A.F.binds λkV doc pm an cdv ct us hl=>b us hl kV doc pm an cdv ct,PySem.W.mg_of X G A.a⟩
theorem gf1(X:K.In h)(G:h.Ns mainGlobals mg)(A:Fa K x st f fd)(b:∀a,Bn x st ps [a]:=by intro a kV doc pm an cdv ct;rfl)(hl:ps.length=1:=by rfl):Gf K mg x st ps f fd:=wx X G A λus h=>by
 rw[hl] at h
 match us,h with
 | [a],_=>exact b a
theorem gf2(X:K.In h)(G:h.Ns mainGlobals mg)(A:Fa K x st f fd)(b:∀a c,Bn x st ps [a,c]:=by intro a c kV doc pm an cdv ct;rfl)(hl:ps.length=2:=by rfl):Gf K mg x st ps f fd:=wx X G A λus h=>by
 rw[hl] at h
 match us,h with
 | [a,c],_=>exact b a c
theorem gf3(X:K.In h)(G:h.Ns mainGlobals mg)(A:Fa K x st f fd)(b:∀a c d,Bn x st ps [a,c,d]:=by intro a c d kV doc pm an cdv ct;rfl)(hl:ps.length=3:=by rfl):Gf K mg x st ps f fd:=wx X G A λus h=>by
 rw[hl] at h
 match us,h with
 | [a,c,d],_=>exact b a c d
theorem gf4(X:K.In h)(G:h.Ns mainGlobals mg)(A:Fa K x st f fd)(b:∀a c d e,Bn x st ps [a,c,d,e]:=by intro a c d e kV doc pm an cdv ct;rfl)(hl:ps.length=4:=by rfl):Gf K mg x st ps f fd:=wx X G A λus h=>by
 rw[hl] at h
 match us,h with
 | [a,c,d,e],_=>exact b a c d e
theorem gf5(X:K.In h)(G:h.Ns mainGlobals mg)(A:Fa K x st f fd)(b:∀a c d e i,Bn x st ps [a,c,d,e,i]:=by intro a c d e i kV doc pm an cdv ct;rfl)(hl:ps.length=5:=by rfl):Gf K mg x st ps f fd:=wx X G A λus h=>by
 rw[hl] at h
 match us,h with
 | [a,c,d,e,i],_=>exact b a c d e i
end
end Fw
namespace L2
open PySem PySem.Spec PyProof.Rows Fw
section
variable{X:Cx}
end
end L2
namespace Fw
open PySem PySem.Spec PyProof.Rows L2
section
variable{X:Cx}
end
section
variable{X:Cx}{a b:Expr}{da db:D}{pos:Pos}
end
end Fw
namespace L2
open PySem PySem.Spec PyProof.Rows Fw
section
variable{X:Cx}
end
end L2
namespace Fw
open PySem PySem.Spec PyProof.Rows L2
section
variable{X:Cx}{a:Expr}{da:D}{pos p2:Pos}
end
end Fw
namespace L2
open PySem PySem.Spec PyProof.Rows Fw
end L2
namespace Fw
open PySem PySem.Spec PyProof.Rows L2
end Fw
namespace L2
open PySem PySem.Spec PyProof.Rows Fw
section
variable{X:Cx}
end
end L2
namespace Fw
open PySem PySem.Spec PyProof.Rows L2
section
variable{X:Cx}
end
section
variable{X:Cx}
variable{a b:Expr}{da db:D}{pos:Pos}
end
end Fw
namespace L2
open PySem PySem.Spec PyProof.Rows Fw
theorem oZ(l:Addr)(items:Array Value)(n:Nat)(b:Addr)(o2:Obj)(bO:Array Value)(n2:Nat)(h1:o2.cls=.type "list")(h2:o2.dict=none)(h3:o2.data=.seq bO n2)(hc0:¬(!items.isEmpty && Builtin.List.listTooLong (items.size+bO.size))=true)(hc1:items.size≤sizeLine)(hs2:items.size+bO.size≤sizeLine+1) :
  Meets (Builtin.«list.extend» ⟨[.ref l,.ref b],[]⟩) (λ_ R s=>s.heap.get? l=some { cls:=.type "list",dict:=none,data:=.seq items n,slots:=#[] }∧s.heap.get? b=some o2∧R (.ok (.ret Value.none)) { s with heap:=s.heap.update l (Obj.mapSeq λx=>x++bO),toks:=s.toks }) :=
 .of_wp λprog w A R s h=>by
  obtain⟨c2,d2,dt2,sl2⟩:=o2
  cases h1;cases h2;cases h3
  obtain⟨hp,g,d,tk,os⟩:=s;obtain⟨hl,hb,h⟩:=h;have f1:=AutoSeq1.idx_int;have f2:=AutoSeq1.sub_tuple_tuple;have f3:=AutoSeq1.sub_list_list;have f4:=AutoSeq1.sub_tuple_list;have f5:=AutoSeq1.sub_list_tuple;
  have hz':(items++bO).size≤sizeLine+1:=by rw[Array.size_append];exact hs2
  wp_walk using (wpAny_updateSeq hl rfl (hz:=hc1) (_hz':=hz')),AutoSeq1.wpAny_loadPart' hl,AutoSeq1.wpAny_loadPart' hb;exact⟨_,rfl,h⟩
section
variable{X:Cx}
def NX(K:PySem.W.Frag):V→List V→Hp→VK→Prop:=λx vs H Q=>∃l b xs zs,x=.ref l∧vs=[.ref b]∧H l=some (.lst xs)∧SqL K H b zs∧xs.length+zs.length≤sizeLine∧Q .non (upd H l (.lst (xs++zs)))
theorem yt:MtM X "list.extend" (NX X.K):=by
 intro pins s σ H x vs v us Q I rx rv h
 obtain⟨l,b,xs,zs,rfl,rfl,hH,hB,hz,q⟩:=h
 cases rx
 obtain⟨u,rfl,ru⟩:=rv.one
 cases ru
 obtain⟨z,its,n,r,hl,e⟩:=I.KJ hH
 obtain⟨lb,r2,⟨o2,n2,e2,k1,k2,k3⟩,z2⟩:=I.list hB
 have hl2:=r2.length
 have hsz:its.toArray.size+lb.toArray.size≤sizeLine:=by rw[List.size_toArray,List.size_toArray];lia
 have Dn:¬ (!its.toArray.isEmpty && Builtin.List.listTooLong (its.toArray.size+lb.toArray.size))=true:=by
  rw[vC hsz,Bool.and_false]
  exact Bool.false_ne_true
 refine call_meets F.slot_list_extend ⟨_,e,rfl⟩ F.entry_list_extend (F.args_list_extend_2 _ _)
  (oZ l its.toArray n b o2 lb.toArray n2 k1 k2 k3 Dn (by rw[List.size_toArray];lia) (by lia)) ⟨e,e2,?_⟩
 refine⟨.non,_,I.Nj (its':=its++lb) hH e (by simp) (r.append r2) ?_,rfl,q⟩
 rw[List.length_append]
 lia
end
end L2
namespace Fw
open PySem PySem.Spec PyProof.Rows L2
section
variable{X:Cx}{pos:Pos}
theorem yu{o e1:Expr}{do_ de:D}{apos cL:Pos}(ho:CE X o do_)(he:CE X e1 de)(jX:attributeBase o "extend" X.env (eval o X.env)=eval o X.env:=by rfl)
  (Dm:((backTo cL (starEach [e1] X.env)).all (λx=>!x.1) && (backToKw cL (keywordEach [] X.env)).all (λx=>x.1.isSome) && decide (([e1]:List Expr).length+([]:List Keyword).length+(if ([]:List Keyword).isEmpty then 0 else 1)<30))=true:=by rfl)
  (mB:(apos.endLine==cL.line)=true:=by rfl) (hs1:starEach [e1] X.env=(false,eval e1 X.env)::starEach [] X.env:=by rfl) (hpl:(backTo cL (starEach [] X.env)).any (·.1)=false:=by rfl)
  (hs:swapsWith (.Call (.Attribute o "extend" apos) [e1] [] cL) none pos.line X.env=pure false:=by rfl) :
  CS X (.Expr (.Call (.Attribute o "extend" apos) [e1] [] cL) pos) (pE do_ de) :=
 PS.imp (zF (Jr PySem.F.plainAttrs_list PySem.F.slot_list_extend PySem.F.type_list_extend yt ho (ag he aq hs1) jX Dm mB hs1 hpl) hs) λD σ H au=>by
  obtain⟨F,α,e,μ,S,h⟩:=au
  refine⟨F,α,e,μ,S,(aR.toS h).mono (λx μ1 h v H1 F1 α1 x1 S1 o1=>?_) λ_ _ h=>h⟩
  obtain⟨_,hl,h⟩:=h.lift
  cases x with
  | cel j =>
   obtain⟨ad,ha,rfl⟩:=o1
   have hc:∃bb ts,μ1[j]?=some (bb,.lst ts):=by
    unfold nA at hl
    simp only at hl
    split at hl
    ·exact⟨_,_,by assumption⟩
    ·cases hl
   obtain⟨bb,ts,hj⟩:=hc
   have n1:=aU S1.st (x:=.cel j) (t:=.lst ts) ⟨ad,ha,rfl⟩ (by rw[ir,hj];rfl)
   obtain⟨a',vs,e1,hq,_⟩:=n1.lh
   cases e1
   refine⟨.inl ⟨rfl,vs,hq⟩,oE ⟨F1,α1,e,μ1,S1,(aR.toS h).mono (λy μ2 h v2 H2 F2 α2 x2 S2 o2=>?_) λ_ _ h=>h.mono x1⟩⟩
   obtain⟨μ3,hx3,NY⟩:=aR.lift h
   obtain⟨t,ht,hx3⟩:=Option.bind_eq_some_iff.mp hx3
   cases y with
   | val t' =>
    cases ht
    cases t with
    | lst us =>
     have o2:Rep X.K F2 (.lst us) v2:=o2
     rw[Rep] at o2
     obtain⟨p,vs2,rfl,hv2,hr2⟩:=o2
     have hx3:gI (.cel j) (.lst us) μ2=some μ3:=hx3
     have hcc:∃ts2,μ2[j]?=some (true,.lst ts2)∧ts2.length+us.length≤szL∧μ3=μ2.set j (true,.lst (ts2++us)):=by
      unfold gI at hx3
      try simp only at hx3
      split at hx3
      ·rename_i ts2 hj2
       by_cases hz:ts2.length+us.length≤szL
       ·rw[if_pos hz] at hx3
        cases hx3
        exact⟨ts2,hj2,hz,rfl⟩
       ·rw[if_neg hz] at hx3;cases hx3
      ·cases hx3
     obtain⟨ts2,hj2,hz,rfl⟩:=hcc
     have ha2:α2[j]?=some ad:=gU x2.pre ha
     obtain⟨_,ws,hw,rw'⟩:=(S2.st.cell j true _ ad hj2 ha2).1 rfl
     have l1:=rw'.length
     have l2:=hr2.length
     refine⟨ad,p,ws,vs2,rfl,rfl,hw,S2.st.ext.seq hv2,by rw[nM] at hz;lia,?_⟩
     exact NY σ _ F2 α2 ((x1.trans x2).trans (Ex.put ha2)) (S2.of (aN.refl _) (List.prefix_refl _) (qg S2.st hj2 ha2 ⟨_,aB,rw'.append hr2⟩))
    | _=>cases hx3
   | cel j=>cases ht
   | box xs=>cases ht
  | val t=>cases hl
  | box xs=>cases hl
end
end Fw
namespace L2
open PySem PySem.Spec PyProof.Rows
section
variable{prog:Program}{w:World}{A:Around}{E:Value→Shared→Prop}{s:Shared}
theorem LJ{T nI iI:String}{Bn Bi:Builtin}{as:List Value}{kw:List (Str×Value)}{S:PySem.Spec}{Q Q1:Value→Shared→Prop}(ft:TypeCalled T nI iI)
  (a1:checkTypeCall T ⟨as,kw⟩=pure ()) (a2:checkBuiltinCall nI ⟨.type T::as,kw⟩=pure ()) (b1:entryFor table nI=some Bn) (b2:entryFor table iI=some Bi)
  (g:Meets (Bn ⟨.type T::as,kw⟩) S) (hS:S A.in1 (wants Q1 E) s)
  (nx:∀ob t1,Q1 ob t1→t1.TypeIs ob T∧argsOk iI ⟨ob::as,kw⟩∧∃Si,Meets (Bi ⟨ob::as,kw⟩) Si∧Si A.in1 (wants (λr t2=>r=.none∧Q ob t2) E) t1) :
  wpAny (model prog w) A (call (.type T) as kw) Q E s:=by
 obtain⟨c0,tl0,m0⟩:=ft.mro
 have m1:=ft.made
 have m2:=ft.sub
 refine wpAny_call (codeAny_of_tree (show wpAny _ _ (callAny (.type T) _) _ _ _ from wpAny_pure ⟨Code.quiet_builtin _ (by decide +kernel),codeAny_builtin F.entry_type_call ?_⟩))
 rw[Around.under_plain (weight_type_call_type T as kw) (units_type_call_type T as kw)]
 have m3:=ft.notType
 have m4:=ft.canCreate
 repeat (any_goals (first|assumption|wp_step))
 refine codeAny_mono (codeAny_call_builtin ft.plain b1 (wpAny_of_eq a2 (g prog w A.in1 _ s hS))) λz t1 hz=>?_
 cases z with
 | error e=>exact hz
 | ok fl =>
  cases fl with
  | ret ob =>
   obtain⟨h1,h2,Si,h3,h4⟩:=nx _ _ hz
   have m5:=ft.init.lookup
   have m6:=ft.init.bind ob
   repeat (any_goals (first|assumption|wp_step))
   refine codeAny_mono (codeAny_call_builtin ft.init.plain b2 (ft.init.check _ _ _ _ _ _ _ _ h1 h2 (h3 prog w A.in1 _ t1 h4))) λz2 t2 hz2=>?_
   cases z2 with
   | error e=>exact hz2
   | ok f2 =>
    cases f2 with
    | ret r =>
     obtain⟨rfl,hq⟩:=hz2
     repeat (any_goals (first|assumption|wp_step))
    | _=>exact hz2.elim
  | _=>exact hz.elim
theorem Im{T nI:String}{me:Value}{as:List Value}{kw:List (Str×Value)}(a1:typeLookup (.type T) "__init__"=pure (some (.builtin "object.__init__")))(a2:Bind.madeBy (.type T)=pure (some nI))(a3:(some nI != some "object.__new__")=true) :
  Meets (Builtin.«object.__init__» ⟨me::as,kw⟩) (λ_ R s=>s.TypeIs me T∧R (.ok (.ret .none)) s):=by
 refine Meets.of_wp λprog w A R s hs=>?_
 obtain⟨h1,h2⟩:=hs
 cases as with
 | nil =>
  cases kw with
  | nil=>exact wpAny_pure ⟨_,rfl,h2⟩
  | cons k kw =>
   repeat (any_goals (first|assumption|wp_step))
   exact⟨_,rfl,h2⟩
 | cons a as =>
  repeat (any_goals (first|assumption|wp_step))
  exact⟨_,rfl,h2⟩
end
theorem Cj(a:Value)(t:Tok):checkTypeCall "enumerate" ⟨[a],[("start",.int 1 t)]⟩=pure ():=by kernel_rfl
theorem Ck(a:Value)(t:Tok):checkBuiltinCall "enumerate.__new__" ⟨[.type "enumerate",a],[("start",.int 1 t)]⟩=pure ():=by kernel_rfl
theorem yv(ob a:Value)(t:Tok):argsOk "object.__init__" ⟨[ob,a],[("start",.int 1 t)]⟩:=by
 first|exact PySem.F.args_object_init_2 ob _|(unfold argsOk;kernel_rfl)|(show Bind.checkArgs _ _ _=pure ();kernel_rfl)
abbrev eH1(h:Heap)(l:Addr):Heap:=(h.push (dP false l)).push { cls:=.type "enumerate",data:=.fields #[.none,.bool false,.ref h.objs.size,rawInt 1,.none,.none] }
open AutoSeq1 (wpAny_loadPart') in
set_option maxHeartbeats 4000000 in
theorem yw(l:Addr)(its:Array Value)(n:Nat)(dc:Option Addr)(sl:Array (Option Value))(t:Tok) :
  Meets (Builtin.«enumerate.__new__» ⟨[.type "enumerate",.ref l],[("start",.int 1 t)]⟩) (λ_ R s=>s.heap.get? l=some { cls:=.type "tuple",dict:=dc,data:=.seq its n,slots:=sl } ∧
   R (.ok (.ret (.ref (s.heap.push (dP false l)).objs.size))) { s with heap:=eH1 s.heap l }) :=
 .of_wp λprog w A R s h=>by
  obtain⟨hp,g,d,tk,os⟩:=s
  obtain⟨hl,h⟩:=h
  have q1:=sub_enumerate
  have q2:=AutoSeq1.idx_int
  have hT:Heap.IsTuple (Shared.heap ⟨hp,g,d,tk,os⟩) l its:=⟨_,hl,rfl,n,rfl⟩
  wp_walk using wpAny_loadPart' hl
  refine wpAny_stack_any λst=>wpAny_pure ?_
  split
  ·rename_i c _ _ _ _ _
   cases (c==Value.type "enumerate")
   ·(wp_walk using wpAny_loadPart' hl,wpAny_pyIter_tuple hT);exact⟨_,rfl,h⟩
   ·(wp_walk using wpAny_loadPart' hl,wpAny_pyIter_tuple hT);exact⟨_,rfl,h⟩
  ·(wp_walk using wpAny_loadPart' hl,wpAny_pyIter_tuple hT);exact⟨_,rfl,h⟩
section
variable{prog:Program}{w:World}{A:Around}{E:Value→Shared→Prop}{s:Shared}
theorem AD{k:Bool}(hh:A.handled=none)(it l:Addr)(hne:l≠it)(its:Array Value) :
  Draws prog w A it [it,l] (its.size+1) (λi v=>its[i-1]?=some v) (λi h=>1≤i∧KIt k h it l (i-1)∧KSq k h l its) where
 live:=λ_ _ st=>by obtain⟨o,ho,_⟩:=st.2.1.ob;exact⟨o,ho⟩
 frame:=λ_ _ _ st hk=>⟨st.1,st.2.1.at λo e=>hk it (by simp) o e,st.2.2.at λo e=>hk l (by simp) o e⟩
 item:=λi s Q E hi st hQ=>by
  have hl:i-1<its.size:=by have:=st.1;lia
  exact gJ st.2.1 st.2.2 (x:=its[i-1]) (by simp[hl]) λh' B_ hs'=>hQ _ h' s.toks (by simp[hl]) ⟨by lia,by rw[show i+1-1=i-1+1 by have:=st.1;lia];exact B_,st.2.2.at λo e=>hs'.extBut _ _ hne e⟩ hs'
 done:=λs Q E st hE=>kU hh st.2.1 st.2.2 (by simp) hE
theorem yx{l:Addr}{xs:Array Value}{t:Tok}{Q:Value→Shared→Prop}(hl:KSq false s.heap l xs)
  (h:∀h',IsEnum h' (s.heap.objs.size+1) s.heap.objs.size 1 .none→KIt false h' s.heap.objs.size l 0→h'.objs.size=s.heap.objs.size+2→(∀c o,s.heap.get? c=some o→h'.get? c=some o)→Q (.ref (s.heap.objs.size+1)) { s with heap:=h' }) :
  wpAny (model prog w) A (call (.type "enumerate") [.ref l] [("start",.int 1 t)]) Q E s:=by
 obtain⟨⟨c,dct,dt,sl⟩,hg,hc,n,hd⟩:=hl
 simp only at hc hd
 subst hc hd
 have z1:(s.heap.push (dP false l)).objs.size=s.heap.objs.size+1:=Heap.size_push ..
 have g2:(eH1 s.heap l).get? (s.heap.push (dP false l)).objs.size=some _:=Heap.get?_push_size _ rfl
 have g1:(eH1 s.heap l).get? s.heap.objs.size=some (dP false l):=Heap.get?_push_of_some _ (Heap.get?_push_size _ rfl)
 rw[z1] at g2
 refine LJ (Q1:=λob s1=>s1.TypeIs ob "enumerate"∧Q ob s1) F.called_enumerate (Cj _ t) (Ck _ t) F.entry_enumerate_new F.entry_object_init (yw l xs n dct sl t) ⟨hg,?_⟩ λob t1 hq =>
  ⟨hq.1,yv ob _ t,_,Im F.called_enumerate.init.lookup F.called_enumerate.made (by decide),hq.1,rfl,hq.2⟩
 show _∧_
 rw[z1]
 exact⟨⟨_,g2,rfl⟩,h _ g2 (KIt.new g1) (by rw[Heap.size_push,z1]) λc o q=>Heap.get?_push_of_some _ (Heap.get?_push_of_some _ q)⟩
end
section
variable{M:Model}{A:Around}{E:Value→Shared→Prop}{s:Shared}{env:Env}
theorem Io{pos:Pos}{T:String}{e:Expr}{kws:List Keyword}{Q:Value→Shared→Prop}
  (h:wpAny M A (spliced (backTo pos (starEach [e] env))) (λvs s1=>wpAny M A (evalAll ((backToKw pos (keywordEach kws env)).map (·.2))) (λks s2=>wpAny M A (call (.type T) vs (((backToKw pos (keywordEach kws env)).filterMap (·.1)).zip ks)) Q E s2) E s1) E s)
  (h1:backTo pos (starEach [e] env)=(false,eval e env)::backTo pos (starEach [] env):=by rfl) (h2:(backTo pos (starEach [e] env)).any (·.1)=false:=by rfl)
  (h3:(backToKw pos (keywordEach kws env)).all (·.1.isSome)=true:=by rfl) (h4:(backToKw pos (keywordEach kws env)).any (·.1.isNone)=false:=by rfl) :
  wpAny M A (callWith pos (.type T) [] (backTo pos (starEach [e] env)) (backToKw pos (keywordEach kws env))) Q E s:=by
 unfold callWith
 refine wpAny_bind (wpAny_holding (wpAny_mono (Q:=λa s1=>wpAny M A (call (.type T) ([]++a.pos) a.kw) Q E s1) ?_ (λa s1 q=>wpAny_bind (wpAny_standAt ?_)) λ_ _ x=>x))
 ·rw[h1] at h ⊢
  exact evalArgs_kwB h3 h
 ·simp only[h2,h4,Bool.or_false]
  refine wpAny_bind (wpAny_pure ?_)
  exact wpAny_bind (wpAny_mono q (λr s2 hr=>wpAny_bind (wpAny_holding (wpAny_point (wpAny_pure hr)))) λ_ _ x=>x)
end
def NZ(K:PySem.W.Frag)(a:Addr):It :=
 ⟨λi H=>∃xs x,fG K false H a xs∧xs[i]?=some x,
  λi H v H'=>∃p x,v=.ref p∧H p=none∧H'=upd H p (.tup [.int ((i:Int)+1),x])∧∀xs,fG K false H a xs→xs[i]?=some x,
  λi H=>∃xs,fG K false H a xs∧xs.length=i⟩
structure Pt(z i1 l1:Addr)(i:Nat)(h:Heap):Prop where
 z:∃old,IsEnum h z i1 ((i:Int)+1) old
 one:KIt false h i1 l1 i
theorem yA{P:Program}{w:World}{K:PySem.W.Frag}{elts:List Expr}{x1:Nat}{pos:Pos}{z i1 l1:Addr}(d:z≠i1) :
  Turn P w K (.Tuple elts x1 pos) (NZ K l1) [z,i1] z (Pt z i1 l1):=by
 refine⟨by simp,λi h st b hb=>?_,λi h h' st k'=>?_,?_,?_,λA i s Q E st hq=>?_⟩
 ·obtain⟨old,hz⟩:=st.z
  obtain⟨o1,e1,q1⟩:=st.one.ob
  simp only[List.mem_cons,List.not_mem_nil,or_false] at hb
  rcases hb with rfl|rfl
  ·exact⟨_,hz,λv e=>by cases e⟩
  ·exact⟨_,e1,λv e=>by rw[q1] at e;cases e⟩
 ·obtain⟨old,hz⟩:=st.z
  exact⟨⟨old,k' z (by simp) _ hz⟩,st.one.at λo e=>k' i1 (by simp) o e⟩
 ·intro X hP hw hK hc i pins s σ H E I hf st hg
  obtain⟨xs,x,h1,hx⟩:=hg
  subst hP hw hK
  obtain⟨jT,r1,s1,z1⟩:=I.ksq h1
  obtain⟨u,hu,ru⟩:=r1.get hx
  obtain⟨old,hz⟩:=st.z
  have hli:l1≠i1:=dQ I h1 (hf i1 (by simp))
  have hlz:l1≠z:=dQ I h1 (hf z (by simp))
  obtain⟨o1,e1,_⟩:=st.one.ob
  have hlt:i+1<jT.toArray.size+1:=by
   have:=(List.getElem?_eq_some_iff.mp hu).1
   simpa using this
  have hne:z∉[i1,l1]:=by
   simp only[List.mem_cons,List.not_mem_nil,or_false,not_or]
   exact⟨d,λe=>hlz e.symm⟩
  have hz':IsEnum s.heap z i1 ((i+1:Nat):Int) old:=by rw[Int.natCast_add];exact hz
  refine wpAny_pyNext_enum_itemD (AD (k:=false) (A:=X.A.in1) (I.ok.hd hc) i1 l1 hli jT.toArray) hz' ⟨by lia,st.one,s1⟩ hlt d hne λy h' tk hy g1 g2 g3 g4 g5=>⟨_,rfl,?_⟩
  have ey:y=u:=by
   have hy:jT[i]?=some y:=by simpa using hy
   rw[hu] at hy
   exact(Option.some.inj hy).symm
  subst ey
  refine wpAny_letOwnedTupleGo_enum g1 λh'' q1 q2=>?_
  have lt:∀{c:Addr}{o:Obj},s.heap.get? c=some o→c≠s.heap.objs.size:=λe=>Nat.ne_of_lt (Heap.lt_size e)
  have hTz:s.heap.objs.size≠z:=(lt hz).symm
  have new:h''.get? s.heap.objs.size=some { cls:=.type "tuple",data:=.seq #[.int ((i:Int)+1) tk,y] }:=q2.extBut _ _ hTz g3
  refine⟨.ref s.heap.objs.size,upd H s.heap.objs.size (.tup [.int ((i:Int)+1),x]),?_,rfl,⟨s.heap.objs.size,x,rfl,I.hok.fresh (Nat.le_refl _),rfl,λws hw=>by rw[I.pG hw h1];exact hx⟩,?_,λc hcm=>?_⟩
  ·refine(I.pI (ch:=[z,i1]) (h':=h'') (λc o hcn e=>?_) (λc hcm=>hf c hcm) ?_).tok _
   ·simp at hcn
    exact q2.extBut _ _ hcn.1 (g5 c o hcn.1 hcn.2 e)
   ·exact⟨by show 2≤sizeLine;decide,[.int ((i:Int)+1) tk,y],.cons ⟨tk,rfl⟩ (.cons ru .nil),⟨_,new,rfl,0,rfl⟩⟩
  ·exact⟨⟨_,by simpa using q1⟩,g2.2.1.at λo e=>q2.extBut _ _ d.symm e⟩
  ·rw[aG]
   ·exact(hf c hcm).1
   ·simp only[List.mem_cons,List.not_mem_nil,or_false] at hcm
    rcases hcm with rfl|rfl
    ·exact lt hz
    ·exact lt e1
 ·intro X hP hw hK hc i pins s σ H E I hf st hg
  obtain⟨xs,h1,hle⟩:=hg
  subst hP hw hK
  obtain⟨jT,r1,s1,z1⟩:=I.ksq h1
  obtain⟨old,hz⟩:=st.z
  have hli:l1≠i1:=dQ I h1 (hf i1 (by simp))
  have l1':=r1.length
  have en:jT.toArray.size=i:=by simp;lia
  refine wpAny_pyNext_enum_endD (AD (k:=false) (A:=X.A.in1) (I.ok.hd hc) i1 l1 hli jT.toArray) hz ⟨by lia,by rw[en];exact st.one,s1⟩ λh' g7=>⟨rfl,I.pH (t':=s.toks) (ch:=[z,i1]) (λc o hcn e=>?_) λc hcm=>hf c hcm⟩
  simp at hcn
  exact g7 c o hcn.2 e
 ·obtain⟨old,hz⟩:=st.z
  exact wpAny_pyIter_enum hz hq
def Ip(K:PySem.W.Frag)(t:TA):TI:=λσ H R=>t σ H λvs H1=>∃a xs,vs=[.ref a]∧fG K false H1 a xs∧R (NZ K a) H1
theorem E8{X:Cx}{elts:List Expr}{x1 jx:Nat}{dX p pos kp cp:Pos}{a:Expr}{t:TA}(hg:Gl X "enumerate")(hm:X.mg "enumerate"=none)(ha:PA X [a] t)(h1:backTo pos (starEach [a] X.env)=(false,eval a X.env)::backTo pos (starEach [] X.env))(h2:(backTo pos (starEach [a] X.env)).any (·.1)=false) :
  PI X (.Tuple elts x1 dX) (.Call (.Name "enumerate" p) [a] [⟨some "start",.Constant (.int 1) jx cp,kp⟩] pos) (Ip X.K t):=by
 intro pins s σ H R I h
 refine wpAny_Call_Name_kw (lO I hg hm PyProof.Rows.boot_enumerate ?_ (by decide) (by decide))
 refine Io (thn (ha pos pins s σ H _ I h) λus s1 au=>?_) h1 h2
 obtain⟨vs,H1,I1,r1,q1⟩:=au
 obtain⟨c,xs,rfl,hk1,q⟩:=q1
 obtain⟨u1,rfl,ru1⟩:=vals1 r1
 cases ru1
 refine kws_cons (thn ((C4 (X:=X) (i:=1) (j:=jx) (pos:=cp)) pins s1 σ H1 (λv H2=>v=.int 1∧H2=H1) I1 ⟨rfl,rfl⟩) λv s2 cK=>?_)
 obtain⟨x,H2,I2,r2,e1,e2⟩:=cK
 subst e1 e2
 obtain⟨tk,rfl⟩:=r2
 refine kws_nil ?_
 obtain⟨jT,_,s1',_⟩:=I2.ksq hk1
 show wpAny _ _ (call (.type "enumerate") [.ref c] [("start",.int 1 tk)]) _ _ _
 refine yx s1' λh' g1 g2 g6 g7=>wpAny_pyIter_enum g1 ?_
 have I3:Inv X pins σ H2 { s2 with heap:=h' }:=I2.kept (t':=s2.toks) g7
 refine⟨_,_,_,_,H2,rfl,I3,yA (i1:=s2.heap.objs.size) (l1:=c) (λe=>by have e:s2.heap.objs.size+1=s2.heap.objs.size:=e;lia),⟨⟨_,by simpa using g1⟩,g2⟩,λe he=>?_,q⟩
 have:s2.heap.objs.size≤e:=by
  simp only[List.mem_cons,List.not_mem_nil,or_false] at he
  rcases he with rfl|rfl
  ·exact Nat.le_add_right _ _
  ·exact Nat.le_refl _
 exact I2.tX this (I2.hok.fresh this)
end L2
namespace Fw
open PySem PySem.Spec PyProof.Rows L2
theorem E9{X:Cx}{elts:List Expr}{x1 jx:Nat}{dX p pos kp cp:Pos}{a:Expr}{da:D}(hm:X.mg "enumerate"=none)(ha:CE X a da)(hg:Gl X "enumerate":=by rfl)(hs:starEach [a] X.env=(false,eval a X.env)::starEach [] X.env:=by rfl)
  (h1:backTo pos (starEach [a] X.env)=(false,eval a X.env)::backTo pos (starEach [] X.env):=by rfl) (h2:(backTo pos (starEach [a] X.env)).any (·.1)=false:=by rfl) :
  CI X (.Tuple elts x1 dX) (.Call (.Name "enumerate" p) [a] [⟨some "start",.Constant (.int 1) jx cp,kp⟩] pos) (uG da) :=
 PI.imp (E8 hg hm (ag ha aq hs) h1 h2) λσ H R0 au=>by
  obtain⟨F,α,e,μ,S,h⟩:=au
  refine oE ⟨F,α,e,μ,S,(R.wp_bind h).mono (λx μ1 h v H1 F1 α1 x1 S1 o1=>?_) λ_ _ h=>h⟩
  obtain⟨ts,ht,post⟩:=R.bB (R.wp_bind h)
  obtain⟨t,hr,ht⟩:=Option.bind_eq_some_iff.mp ht
  have et:t=.tup ts:=by
   cases t with
   | tup us=>cases ht;rfl
   | _=>cases ht
  subst et
  obtain⟨a1,vs1,rfl,q1,r1⟩:=(show ∃a vs,v=.ref a∧SqT X.K F1 a vs∧aD X.K F1 ts vs from aU S1.st o1 hr)
  refine⟨a1,vs1,rfl,aN.iP S1.st.ext q1,post _ H1 F1 α1 x1 S1 λF2 α2 μ3 H2 s2 p2 S2 same=>?_⟩
  have e1:rd μ3 x=rd μ1 x:=same
  obtain⟨b1,ws1,g1,n1,l1⟩:=(show ∃a vs,V.ref a1=.ref a∧SqT X.K F2 a vs∧aD X.K F2 ts vs from aU S2 (o1.mono s2 p2) (e1.trans hr))
  cases g1
  have n1':fG X.K false H2 a1 ws1:=aN.iP S2.ext n1
  refine⟨λi t hi=>?_,?_⟩
  ·obtain⟨c,hc,rfl⟩:=nG hi
   obtain⟨v1,hv1,rv1⟩:=l1.get hc
   refine⟨⟨ws1,v1,n1',hv1⟩,?_⟩
   rintro z H3 ⟨q,z1,rfl,hq,rfl,f1⟩
   have w1:=f1 ws1 n1'
   rw[hv1] at w1
   cases w1
   have g:bw F2 H2 (upd F2 q (.tup [.int ((i:Int)+1),v1])) (upd H2 q (.tup [.int ((i:Int)+1),v1])):=bw.new hq
   refine⟨_,g,?_⟩
   rw[Rep]
   rw[show(1:Int)+(i:Int)=(i:Int)+1 by lia]
   exact⟨q,_,rfl,SqT.of aB,aD.mono (g.same S2.ext) _ _ (.dI (Rep.gD _) (.dI rv1 .jf))⟩
  ·refine⟨ws1,n1',?_⟩
   have:=l1.length
   show ws1.length=(dJ 1 ts).length
   rw[nF]
   lia
end Fw
namespace Fw.k34
open PySem Fw
def jn:DS :=
 (ar (ay 3 (ah a8 (aa 2) (aa 0)))
 (ar (sIf (ah fEq (aa 3) (dC (.int 0))) ug bA)
 (ar (ay 4 (ah a8 (aa 1) (aa 0)))
 (ar (ka (ah fNe (aa 3) (dC (.int 1))) (ar (ay 4 (ah a8 (ah bJ (dUn DJ (aa 4)) (ah gO (aa 0) (aa 3))) (aa 0)))
 (ay 3 (ah a8 (aa 0) (aa 3)))))
 (aA (aa 4))))))
def kX:FN:=fnV 5 jn
def jo:DS :=
 (aA (ah a8 (dUn vP (aF (uj (aa 1) (aa 2)) [none,none] (dg [0,1]) (dC (.bl true)) (ah bJ (aa 0) (aa 1)))) (aa 0)))
def cF:FN:=fnV 3 jo
def gi:DS :=
 (aA (aF (aY (aa 2)) [none,some 0,some 1] (aw 0) (dC (.bl true)) (ah a8 (ah bJ (aa 2) (aa 0)) (aa 1))))
def iU:FN:=fnV 3 gi
def dS:DS :=
 (ar (ay 4 (ax (aa 1) (aa 3)))
 (ar (sIf (ah fEq (aa 4) (dC (.int 0))) (aA (aa 1)) bA)
 (aA (aF (uj (aa 1) (aa 2)) [none,none,some 0,some 4] (dg [0,1]) (dC (.bl true)) (ah a8 (ah oV (aa 0) (ah bJ (aa 3) (aa 1))) (aa 2))))))
def iV:FN:=fnV 5 dS
def bW:DS :=
 (ar (bY (aQ (aa 1)) (aw 2) (sIf (ah fNe (ax (aa 0) (aa 2)) (dC (.int 0))) (aA (aa 2)) bA))
 (aA (dC (.non))))
def eL:FN:=fnV 3 bW
def jq:DS :=
 (ar (ay 3 (br (dC (.dct []))))
 (ar (ay 4 (br (bD [])))
 (ar (bY (aY (aa 1)) (aw 5) (ar (ay 6 (aa 5))
 (ar (bY (jk (aa 3)) (dg [7,8]) (ay 6 (ak (cal iV) [(aa 0),(aa 6),(aa 8),(aa 7)])))
 (ar (ay 9 (ak (cal eL) [(aa 6),(aa 2)]))
 (sIf (dUn jO (aa 9)) (cf (aa 4) (aa 6)) (ar (ay 10 (ak (cal iU) [(aa 0),(ak (cal kX) [(aa 0),(dC (.int 1)),(ax (aa 6) (aa 9))]),(aa 6)]))
 (ar (bY (aY (dUn vO (aa 3))) (aw 7) (lu 3 (aa 7) (ak (cal iV) [(aa 0),(ah oF (aa 3) (aa 7)),(aa 10),(aa 9)])))
 (lu 3 (aa 9) (aa 10)))))))))
 (aA (cV [(aa 3),(aa 4)])))))
def mS:FN:=fnV 11 jq
def cg:DS :=
 (aA (aF (aY (aa 1)) [none,some 0,some 2] (aw 0) (dC (.bl true)) (ah a8 (ax (aa 0) (aa 2)) (aa 1))))
def fg:FN:=fnV 3 cg
def jr:DS :=
 (ar (ay 2 (br (lS j5 [(dC (.int 0))] (aa 0))))
 (ar (bP 2 (aa 1) (dC (.int 1)))
 (aA (aa 2))))
def g_:FN:=fnV 3 jr
def iy:DS :=
 (ar (ay 4 (gz (aa 2)))
 (ar (ay 5 (br (bD [])))
 (ar (bY (aQ (aa 1)) (aw 6) (cf (aa 5) (ah aO (ah aO (ak (cal fg) [(aa 0),(aa 2),(aa 6)]) (bD [(ah a8 (ax (aa 3) (aa 6)) (aa 0))])) (ak (cal g_) [(aa 1),(aa 6)]))))
 (ar (ay 7 (ak (cal mS) [(aa 0),(aa 5),(aa 4)]))
 (ar (bY (aY (ax (aa 7) (dC (.int 1)))) (aw 8) (sIf (ah fNe (ax (aa 8) (aa 4)) (dC (.int 0))) (aA (fN [(dC (.str "turn")),(dUn bh (ak (cal iU) [(aa 0),(ak (cal kX) [(aa 0),(dC (.int 1)),(ax (aa 8) (aa 4))]),(uf (aa 8) (some (ah aO (aa 4) (dC (.int 1)))) none)]))])) bA))
 (ar (ay 9 (br (lS j5 [(dC (.int 0))] (aa 4))))
 (ar (bY (jk (ax (aa 7) (dC (.int 0)))) (dg [6,10]) (bP 9 (aa 6) (ax (aa 10) (aa 4))))
 (aA (fN [(dC (.str "sum")),(aa 9)])))))))))
def fh:FN:=fnK 11 iy
def iW:DS :=
 (aA (ah fEq (ax (aa 0) (dC (.int 0))) (dC (.str "hand"))))
def bo:FN:=fnV 1 iW
def nQ(nR:FN):DS :=
 (ar (sIf (ak (cal bo) [(aa 0)]) (aA (ah fIn (ax (aa 0) (dC (.int 1))) (aa 1))) bA)
 (aA (ah fGe (gz (aF (aY (ax (aa 0) (dC (.int 2)))) [none,some 1] (aw 0) (ak (cal nR) [(aa 0),(aa 1)]) (aa 0))) (ax (aa 0) (dC (.int 1))))))
def fj:Nat→FN
 | 0=>λ_ _=>.bad
 | n+1=>fnV 2 (nQ (fj n))
def cY(eX:FN):DS :=
 (ar (sIf (ak (cal bo) [(aa 0)]) (aA (cV [(dC (.str "hand")),(ax (aa 0) (dC (.int 1)))])) bA)
 (ar (ay 1 (dUn bh (aF (aY (ax (aa 0) (dC (.int 2)))) [none] (aw 0) (dC (.bl true)) (ak (cal eX) [(aa 0)]))))
 (aA (cV [(dC (.str "some")),(ah aO (ah oV (gz (aa 1)) (ax (aa 0) (dC (.int 1)))) (dC (.int 1))),(aa 1)]))))
def cN:Nat→FN
 | 0=>λ_ _=>.bad
 | n+1=>fnV 2 (cY (cN n))
def Iq:DS :=
 (aA (aF (aY (ax (aa 0) (dC (.int 2)))) [none,some 1,some 0] (aw 0) (dC (.bl true)) (ak (cal cF) [(ax (aa 2) (dC (.int 0))),(ax (aa 0) (dC (.int 1))),(aa 1)])))
def kj:FN:=fnV 2 Iq
def nS:DS :=
 (aA (aF (qt (ax (aa 0) (dC (.int 2)))) [none,none,some 1] (dg [0,1]) (ah fIn (ax (aa 1) (dC (.int 0))) (aa 2)) (aa 0)))
def b8:FN:=fnV 2 nS
def mT:DS :=
 (aA (ah Lh (ah oV (ax (aa 0) (dC (.int 1))) (dC (.int 1))) (dC (.int 0))))
def cZ:FN:=fnV 1 mT
def cO(mU:FN):DS :=
 (ar (sIf (ak (cal bo) [(aa 0)]) (aA (dC (.int 0))) bA)
 (aA (ah aO (ak (cal cZ) [(aa 0)]) (dUn vP (aF (aY (ax (aa 0) (dC (.int 2)))) [none] (aw 0) (dC (.bl true)) (ak (cal mU) [(aa 0)]))))))
def aZ:Nat→FN
 | 0=>λ_ _=>.bad
 | n+1=>fnV 1 (cO (aZ n))
def dD(o4:FN):DS :=
 (ar (sIf (ak (cal bo) [(aa 1)]) (aA (dC (.bl false))) bA)
 (ar (sIf (ij (ah fGt (ax (aa 1) (dC (.int 1))) (dC (.int 1))) (ah fGe (gz (ax (aa 1) (dC (.int 2)))) (aa 0))) (aA (dC (.bl true))) bA)
 (aA (dUn rF (aF (aY (ax (aa 1) (dC (.int 2)))) [none,some 0] (aw 0) (dC (.bl true)) (ak (cal o4) [(aa 1),(aa 0)]))))))
def bH:Nat→FN
 | 0=>λ_ _=>.bad
 | n+1=>fnV 2 (dD (bH n))
def lB:DS :=
 (ar (ay 5 (br (dUn iN (aa 1))))
 (ar (ay 6 (dC (.int 1)))
 (ar (bY (pA (aa 2) (ah aO (aa 2) (aa 3))) (aw 7) (ar (ay 6 (ah a8 (ah bJ (aa 6) (aa 4)) (aa 0)))
 (bP 5 (aa 7) (aa 6))))
 (aA (aa 5)))))
def du:FN:=fnV 8 lB
def eo(qI:FN):DS :=
 (ar (sIf (ak (cal bo) [(aa 1)]) (aA (bD [(cV [(ax (aa 1) (dC (.int 1))),(dUn bh (aa 2))])])) bA)
 (ar (ay 4 (ak (cal cZ) [(aa 1)]))
 (ar (ay 5 (br (bD [])))
 (ar (ay 6 (ah aO (aa 3) (aa 4)))
 (ar (bY (uG (ax (aa 1) (dC (.int 2)))) (dg [7,8]) (ar (pE (aa 5) (ak (cal qI) [(aa 0),(aa 8),(ak (cal du) [(aa 0),(aa 2),(aa 3),(aa 4),(aa 7)]),(aa 6)]))
 (ay 6 (ah aO (aa 6) (ak (cal (aZ 8)) [(aa 8)])))))
 (aA (aa 5)))))))
def ba:Nat→FN
 | 0=>λ_ _=>.bad
 | n+1=>fnV 9 (eo (ba n))
def oI:DS :=
 (ar (ay 2 (ah aO (dC (.int 1)) (ak (cal (aZ 8)) [(aa 1)])))
 (ar (sIf (ah fGt (aa 2) (dC (.int 12))) (uu "TooMany") bA)
 (ar (sIf (ak (cal (bH 8)) [(aa 0),(aa 1)]) (uu "TooMany") bA)
 (fC (aA (cV [(aa 0),(aa 2),(dUn bh (ak (cal (ba 8)) [(aa 0),(aa 1),(ah aO (bD [(dC (.int 1))]) (lS j5 [(dC (.int 0))] (ah oV (aa 2) (dC (.int 1))))),(dC (.int 1))]))]))))))
def eA:FN:=fnV 3 oI
def eY:DS :=
 (aA (aF (aY (aa 1)) [none,some 0] (aw 0) (dC (.bl true)) (ax (ax (ax (aa 1) (dC (.int 2))) (aa 0)) (dC (.int 1)))))
def cm:FN:=fnV 2 eY
def c5:DS :=
 (aA (dUn bh (aF (aQ (aa 0)) [none] (aw 0) (dC (.bl true)) (DF (ah fEq (aa 0) (dC (.int 0))) (dC (.int 1)) (dC (.int 0))))))
def bZ:FN:=fnV 1 c5
def eB:DS :=
 (ar (ay 2 (ak (cal fh) [(ax (aa 0) (dC (.int 0))),(ax (aa 0) (dC (.int 1))),(ak (cal cm) [(aa 0),(aa 1)]),(ak (cal bZ) [(ax (aa 0) (dC (.int 1)))])]))
 (ar (sIf (ah fEq (ax (aa 2) (dC (.int 0))) (dC (.str "sum"))) (aA (fN [(dC (.str "open")),(ax (aa 2) (dC (.int 1)))])) bA)
 (aA (fN [(dC (.str "shut")),(ax (aa 2) (dC (.int 1)))]))))
def bc:FN:=fnK 3 eB
def dU:DS :=
 (aA (ak (cal bc) [(aa 0),(ak (cal b8) [(aa 0),(aa 1)])]))
def b3:FN:=fnV 2 dU
def hG:DS :=
 (aA (aF (qt (aa 0)) [none,none] (dg [0,1]) (dUn gC (aa 1)) (aa 0)))
def dE:FN:=fnV 1 hG
def iX:DS :=
 (ar (ay 3 (ax (aa 0) (dC (.int 1))))
 (ar (ay 4 (aF (uj (ak (cal cm) [(aa 0),(aa 1)]) (aa 2)) [none,none] (dg [0,1]) (dC (.bl true)) (ah aO (dUn bh (aa 0)) (cV [(aa 1)]))))
 (ar (ay 5 (ak (cal fh) [(ax (aa 0) (dC (.int 0))),(ah aO (aa 3) (dC (.int 1))),(aa 4),(dUn bh (ak (cal g_) [(ah aO (aa 3) (dC (.int 1))),(aa 3)]))]))
 (ar (sIf (ah fEq (ax (aa 5) (dC (.int 0))) (dC (.str "sum"))) (aA (ax (aa 5) (dC (.int 1)))) bA)
 (aA (dC (.non)))))))
def iY:FN:=fnD 6 iX
def iz:DS :=
 (ar (ay 2 (ak (cal dE) [(aa 1)]))
 (ar (ay 3 (aF (aY (aa 2)) [none,some 1] (aw 0) (dC (.bl true)) (ax (aa 1) (aa 0))))
 (ar (ay 4 (ak (cal iY) [(aa 0),(aa 2),(aa 3)]))
 (ar (sIf (dUn gC (aa 4)) (aA (fN [(dC (.str "none")),(aa 4)])) bA)
 (ar (ay 5 (ak (cal bc) [(aa 0),(aa 2)]))
 (ar (sIf (ah fEq (ax (aa 5) (dC (.int 0))) (dC (.str "shut"))) (aA (fN [(dC (.str "any")),(ax (aa 5) (dC (.int 1)))])) bA)
 (aA (fN [(dC (.str "one")),(ak (cal cF) [(ax (aa 0) (dC (.int 0))),(ax (aa 5) (dC (.int 1))),(aa 3)]),(ax (aa 5) (dC (.int 1)))]))))))))
def kY:FN:=fnV 6 iz
def fH:DS :=
 (aA (ah fEq (ax (ak (cal b3) [(aa 0),(aa 1)]) (dC (.int 0))) (dC (.str "open"))))
def aW:FN:=fnV 2 fH
def gj:DS :=
 (ar (ay 1 (bD [(cV [])]))
 (ar (bY (aQ (aa 0)) (aw 2) (ay 1 (ah aO (aa 1) (aF (aY (aa 1)) [none,some 2] (aw 0) (dC (.bl true)) (ah aO (aa 0) (cV [(aa 1)]))))))
 (aA (aa 1))))
def bI:FN:=fnV 3 gj
def kZ:DS :=
 (aA (dUn bh (aF (aY (aa 0)) [none,some 1] (aw 0) (ah fNe (aa 0) (aa 1)) (aa 0))))
def ee:FN:=fnV 2 kZ
def dW:DS :=
 (aA (dUn bh (dUn mR (ah aO (aa 0) (cV [(aa 1)])))))
def bT:FN:=fnV 2 dW
def jt:DS :=
 (aA (ij (ah g9 (aa 0) (aa 1)) (p8 (dUn rF (aF (aY (aa 1)) [none,some 0,some 1] (aw 0) (dC (.bl true)) (ah g9 (aa 1) (ak (cal ee) [(aa 2),(aa 0)])))))))
def cn:FN:=fnV 2 jt
def fk:DS :=
 (ar (sIf (ah g9 (aa 0) (aa 2)) (aA (dC (.bl false))) bA)
 (aA (dUn BM (aF (aQ (aa 1)) [none,some 0,some 2] (aw 0) (ah nH (aa 0) (aa 2)) (ah g9 (aa 1) (ak (cal bT) [(aa 2),(aa 0)]))))))
def bz:FN:=fnV 3 fk
def cQ:DS :=
 (ar (ay 2 (br (dC (.dtt false []))))
 (ar (bY (aY (ak (cal bI) [(aa 1)])) (aw 3) (sM 2 (aa 3) (ak (cal aW) [(aa 0),(aa 3)])))
 (ar (ay 4 (aF (kh (aa 2)) [none,some 2] (aw 0) (ak (cal cn) [(aa 1),(aa 0)]) (dUn iN (aa 0))))
 (ar (ay 5 (aF (kh (aa 2)) [none,some 2,some 1] (aw 0) (ak (cal bz) [(aa 1),(aa 2),(aa 0)]) (dUn iN (aa 0))))
 (aA (fN [(br (dUn cW (aa 4))),(br (dUn cW (aa 5)))]))))))
def bC:FN:=fnV 6 cQ
def nT:DS :=
 (aA (p8 (ak (cal aW) [(aa 0),(aF (aQ (aa 1)) [none,some 2] (aw 0) (ah nH (aa 0) (aa 1)) (aa 0))])))
def dF:FN:=fnV 3 nT
def wy:DS :=
 (ar (sIf (ah fLt (aa 1) (gz (aa 0))) (aA (ax (aa 0) (aa 1))) bA)
 (ar (ay 2 (ah aO (ah bJ (aa 1) (dC (.int 7919))) (dC (.int 11))))
 (ar (sIf (ah fGt (gz (aa 0)) (dC (.int 0))) (ay 2 (ah aO (aa 2) (ah bJ (ah a8 (ax (aa 0) (ah a8 (ah aO (ah bJ (dC (.int 5)) (aa 1)) (dC (.int 2))) (gz (aa 0)))) (dC (.int 2147483629))) (dC (.int 69621))))) bA)
 (ar (ay 2 (ah a8 (ah bJ (aa 2) (aa 2)) (dC (.int 2147483647))))
 (aA (ah a8 (ah bJ (aa 2) (aa 2)) (dC (.int 998244353))))))))
def bX:FN:=fnV 3 wy
def yB:DS :=
 (ar (ay 3 (br (bD [])))
 (ar (sIf (ah fEq (ah a8 (aa 0) (dC (.int 2))) (dC (.int 0))) (ar (ay 0 (ah gO (aa 0) (dC (.int 2))))
 (ar (bY (aQ (aa 2)) (aw 4) (ar (cf (aa 3) (ah a8 (aa 0) (aa 1)))
 (ay 0 (ah gO (aa 0) (aa 1)))))
 (aA (aa 3)))) bA)
 (ar (bY (aQ (aa 2)) (aw 4) (ar (ay 5 (ah a8 (ah aO (ah gO (aa 0) (dC (.int 2))) (ah bJ (aa 4) (dC (.int 40503)))) (dC (.int 2147483629))))
 (ar (ay 5 (ah a8 (ah aO (ah bJ (aa 5) (aa 5)) (aa 4)) (dC (.int 998244353))))
 (ar (ay 5 (ah a8 (ah bJ (aa 5) (aa 5)) (dC (.int 2147483587))))
 (cf (aa 3) (ah a8 (ah gO (aa 5) (dC (.int 11))) (aa 1)))))))
 (aA (aa 3)))))
def hJ:FN:=fnV 6 yB
def wz:DS :=
 (ar (sIf (ah fEq (ah a8 (ah gO (aa 0) (dC (.int 6))) (dC (.int 8))) (dC (.int 5))) (aA (ax (bD [(dC (.int 17)),(dC (.int 31)),(dC (.int 61)),(dC (.int 97))]) (ah a8 (ah gO (aa 0) (dC (.int 48))) (dC (.int 4))))) bA)
 (aA (ax (bD [(dC (.int 5)),(dC (.int 5)),(dC (.int 7)),(dC (.int 7)),(dC (.int 11)),(dC (.int 13))]) (ah a8 (aa 0) (dC (.int 6))))))
def iZ:FN:=fnV 1 wz
def hU(qJ:FN):DS :=
 (ar (ay 3 (ak (cal bX) [(aa 0),(ah aO (dC (.int 4)) (ax (aa 1) (dC (.int 0))))]))
 (ar (bP 1 (dC (.int 0)) (ah aO (ax (aa 1) (dC (.int 0))) (dC (.int 1))))
 (ar (sIf (dOr (ah fEq (aa 2) (dC (.int 3))) (dOr (ah fGt (ax (aa 1) (dC (.int 1))) (dC (.int 5))) (dOr (ij (ah fGt (aa 2) (dC (.int 0))) (ah fLt (ah a8 (aa 3) (dC (.int 5))) (dC (.int 3)))) (ij (ah fEq (aa 2) (dC (.int 0))) (ah fEq (ah a8 (aa 3) (dC (.int 16))) (dC (.int 7))))))) (ar (bP 1 (dC (.int 1)) (ah aO (ax (aa 1) (dC (.int 1))) (dC (.int 1))))
 (aA (cV [(dC (.str "hand")),(ah a8 (ah gO (aa 3) (dC (.int 5))) (dC (.int 5)))]))) bA)
 (ar (ay 4 (ah aO (dC (.int 1)) (ah a8 (ah gO (aa 3) (dC (.int 5))) (dC (.int 4)))))
 (ar (ay 5 (br (bD [])))
 (ar (bY (aQ (aa 4)) (aw 6) (sIf (ah fLt (ax (aa 1) (dC (.int 1))) (dC (.int 9))) (cf (aa 5) (ak (cal qJ) [(aa 0),(aa 1),(ah aO (aa 2) (dC (.int 1)))])) bA))
 (aA (cV [(dC (.str "some")),(ah HE (ah aO (dC (.int 1)) (ah a8 (ah gO (aa 3) (dC (.int 75))) (aa 4))) (gz (aa 5))),(dUn bh (aa 5))]))))))))
def cj:Nat→FN
 | 0=>λ_ _=>.bad
 | n+1=>fnV 7 (hU (cj n))
def eD(qK:FN):DS :=
 (ar (sIf (ah fEq (ax (aa 0) (dC (.int 0))) (dC (.str "hand"))) (aA (ah fIn (ax (aa 0) (dC (.int 1))) (aa 1))) bA)
 (aA (ah fGe (gz (aF (aY (ax (aa 0) (dC (.int 2)))) [none,some 1] (aw 0) (ak (cal qK) [(aa 0),(aa 1)]) (aa 0))) (ax (aa 0) (dC (.int 1))))))
def bf:Nat→FN
 | 0=>λ_ _=>.bad
 | n+1=>fnV 2 (eD (bf n))
def oJ:DS :=
 (ar (ay 2 (dC (.non)))
 (ar (uv (ay 2 (ak eA [(aa 0),(aa 1)])) (λn=>if n="TooMany" then (fC (ay 2 (dC (.non)))) else ug))
 (aA (aa 2))))
def eM:FN:=fnV 3 oJ
def hV:DS :=
 (ar (ay 1 (bD [(bD [])]))
 (ar (bY (aQ (aa 0)) (aw 2) (ay 1 (ah aO (aa 1) (aF (aY (aa 1)) [none,some 2] (aw 0) (dC (.bl true)) (ah aO (aa 0) (bD [(aa 1)]))))))
 (aA (aa 1))))
def cR:FN:=fnV 3 hV
def hX:DS :=
 (ar (ay 3 (aF (aY (aa 1)) [none,some 2] (aw 0) (ak (cal (bf 8)) [(aa 1),(aa 0)]) (aa 0)))
 (ar (ay 4 (aF (aY (aa 3)) [none,some 3] (aw 0) (ah fEq (aF (aY (aa 0)) [none,some 1,some 0] (aw 0) (ah wa (aF (aY (aa 2)) [none,some 0] (aw 0) (ah fNe (aa 0) (aa 1)) (aa 0)) (aa 1)) (dC (.int 1))) (bD [])) (aa 0)))
 (ar (ay 5 (br (bD [])))
 (ar (bY (aY (aa 1)) (aw 6) (ar (ay 7 (aF (aQ (dC (.int 5))) [none,some 6] (aw 0) (ah f_ (aa 0) (aa 1)) (dUn kS (ah aO (aa 1) (bD [(aa 0)])))))
 (sIf (ij (ah f_ (aa 6) (aa 3)) (ah fEq (aF (aY (aa 7)) [none,some 3] (aw 0) (ah f_ (aa 0) (aa 1)) (aa 0)) (bD []))) (cf (aa 5) (aa 6)) bA)))
 (aA (ah fEq (ak (cal bC) [(aa 0),(dC (.int 5))]) (cV [(dUn cW (aa 4)),(dUn cW (aa 5))])))))))
def fO:DS:=(ay 3 (aF (aY (aa 1)) [none,some 2] (aw 0) (ak (cal (bf 8)) [(aa 1),(aa 0)]) (aa 0)))
def fP:DS:=(ay 4 (aF (aY (aa 3)) [none,some 3] (aw 0) (ah fEq (aF (aY (aa 0)) [none,some 1,some 0] (aw 0) (ah wa (aF (aY (aa 2)) [none,some 0] (aw 0) (ah fNe (aa 0) (aa 1)) (aa 0)) (aa 1)) (dC (.int 1))) (bD [])) (aa 0)))
def fQ:DS:=(ay 5 (br (bD [])))
def fR:DS:=(bY (aY (aa 1)) (aw 6) (ar (ay 7 (aF (aQ (dC (.int 5))) [none,some 6] (aw 0) (ah f_ (aa 0) (aa 1)) (dUn kS (ah aO (aa 1) (bD [(aa 0)])))))
 (sIf (ij (ah f_ (aa 6) (aa 3)) (ah fEq (aF (aY (aa 7)) [none,some 3] (aw 0) (ah f_ (aa 0) (aa 1)) (aa 0)) (bD []))) (cf (aa 5) (aa 6)) bA)))
def fS:DS:=(aA (ah fEq (ak (cal bC) [(aa 0),(dC (.int 5))]) (cV [(dUn cW (aa 4)),(dUn cW (aa 5))])))
def fT:DS:=fS
def fU:DS:=ar fR fT
def fV:DS:=ar fQ fU
def fW:DS:=ar fP fV
def jP:DS:=ar fO fW
theorem o5:hX=jP:=rfl
theorem l6(e:Slots)(μ:af):jP e μ=(fO e μ).seq fW:=rfl
theorem l7(e:Slots)(μ:af):fW e μ=(fP e μ).seq fV:=rfl
theorem l9(e:Slots)(μ:af):fV e μ=(fQ e μ).seq fU:=rfl
theorem l_(e:Slots)(μ:af):fU e μ=(fR e μ).seq fT:=rfl
theorem ma(e:Slots)(μ:af):fT e μ=fS e μ:=rfl
def cy:FN:=fnV 8 hX
def E_:DS :=
 (ar (ay 1 (ak (cal iZ) [(ak (cal bX) [(aa 0),(dC (.int 0))])]))
 (ar (ay 2 (ak (cal (cj 8)) [(aa 0),(br (bD [(dC (.int 0)),(dC (.int 0))])),(dC (.int 0))]))
 (ar (ay 3 (ak (cal eM) [(aa 1),(aa 2)]))
 (ar (sIf (dUn jO (aa 3)) (aA (dC (.bl true))) bA)
 (ar (ay 4 (dUn bh (ak (cal hJ) [(ak (cal bX) [(aa 0),(dC (.int 1))]),(aa 1),(ax (aa 3) (dC (.int 1)))])))
 (ar (ay 5 (ak (cal kj) [(aa 3),(aa 4)]))
 (ar (ay 6 (ak (cal (cN 8)) [(aa 2)]))
 (ar (ay 7 (ak (cal cR) [(dC (.int 5))]))
 (ar (bY (aY (aa 7)) (aw 8) (ar (ay 9 (ak (cal (bf 8)) [(aa 2),(aa 8)]))
 (ar (sIf (dOr (ah fNe (ax (ak (cal b3) [(aa 3),(aa 8)]) (dC (.int 0))) (ax (bD [(dC (.str "shut")),(dC (.str "open"))]) (dUn nJ (aa 9)))) (ah fNe (ak (cal (fj 8)) [(aa 2),(aa 8)]) (aa 9))) (aA (dC (.bl false))) bA)
 (ar (ay 10 (aF (aQ (gz (aa 5))) [none,some 5,some 8,some 3] (aw 0) (dC (.bl true)) (ax (bD [(dC (.non)),(ax (aa 1) (aa 0))]) (dUn nJ (ah fIn (ax (ax (ax (aa 3) (dC (.int 2))) (aa 0)) (dC (.int 0))) (aa 2))))))
 (ar (ay 11 (ak (cal kY) [(aa 3),(aa 10)]))
 (ar (sIf (dOr (ij (aa 9) (ah fNe (uf (aa 11) none (some (dC (.int 2)))) (cV [(dC (.str "one")),(ax (aa 4) (dC (.int 0)))]))) (ij (p8 (aa 9)) (ah fNe (ax (aa 11) (dC (.int 0))) (dC (.str "any"))))) (aA (dC (.bl false))) bA)
 (sIf (ah fNe (ak (cal dF) [(aa 3),(dC (.int 5)),(aa 8)]) (ak (cal (fj 8)) [(aa 6),(aa 8)])) (aA (dC (.bl false))) bA)))))))
 (aA (ak (cal cy) [(aa 3),(aa 7),(aa 2)])))))))))))
def yC:DS:=(ay 1 (ak (cal iZ) [(ak (cal bX) [(aa 0),(dC (.int 0))])]))
def yD:DS:=(ay 2 (ak (cal (cj 8)) [(aa 0),(br (bD [(dC (.int 0)),(dC (.int 0))])),(dC (.int 0))]))
def yE:DS:=(ay 3 (ak (cal eM) [(aa 1),(aa 2)]))
def yF:DS:=(sIf (dUn jO (aa 3)) (aA (dC (.bl true))) bA)
def yG:DS:=(ay 4 (dUn bh (ak (cal hJ) [(ak (cal bX) [(aa 0),(dC (.int 1))]),(aa 1),(ax (aa 3) (dC (.int 1)))])))
def yH:DS:=(ay 5 (ak (cal kj) [(aa 3),(aa 4)]))
def yI:DS:=(ay 6 (ak (cal (cN 8)) [(aa 2)]))
def yJ:DS:=(ay 7 (ak (cal cR) [(dC (.int 5))]))
def yK:DS:=(bY (aY (aa 7)) (aw 8) (ar (ay 9 (ak (cal (bf 8)) [(aa 2),(aa 8)]))
 (ar (sIf (dOr (ah fNe (ax (ak (cal b3) [(aa 3),(aa 8)]) (dC (.int 0))) (ax (bD [(dC (.str "shut")),(dC (.str "open"))]) (dUn nJ (aa 9)))) (ah fNe (ak (cal (fj 8)) [(aa 2),(aa 8)]) (aa 9))) (aA (dC (.bl false))) bA)
 (ar (ay 10 (aF (aQ (gz (aa 5))) [none,some 5,some 8,some 3] (aw 0) (dC (.bl true)) (ax (bD [(dC (.non)),(ax (aa 1) (aa 0))]) (dUn nJ (ah fIn (ax (ax (ax (aa 3) (dC (.int 2))) (aa 0)) (dC (.int 0))) (aa 2))))))
 (ar (ay 11 (ak (cal kY) [(aa 3),(aa 10)]))
 (ar (sIf (dOr (ij (aa 9) (ah fNe (uf (aa 11) none (some (dC (.int 2)))) (cV [(dC (.str "one")),(ax (aa 4) (dC (.int 0)))]))) (ij (p8 (aa 9)) (ah fNe (ax (aa 11) (dC (.int 0))) (dC (.str "any"))))) (aA (dC (.bl false))) bA)
 (sIf (ah fNe (ak (cal dF) [(aa 3),(dC (.int 5)),(aa 8)]) (ak (cal (fj 8)) [(aa 6),(aa 8)])) (aA (dC (.bl false))) bA)))))))
def yL:DS:=(aA (ak (cal cy) [(aa 3),(aa 7),(aa 2)]))
def yM:DS:=yL
def yN:DS:=ar yK yM
def yO:DS:=ar yJ yN
def yP:DS:=ar yI yO
def yQ:DS:=ar yH yP
def yR:DS:=ar yG yQ
def yS:DS:=ar yF yR
def yT:DS:=ar yE yS
def yU:DS:=ar yD yT
def Fb:DS:=ar yC yU
theorem LK:E_=Fb:=rfl
theorem Cm(e:Slots)(μ:af):Fb e μ=(yC e μ).seq yU:=rfl
theorem Cn(e:Slots)(μ:af):yU e μ=(yD e μ).seq yT:=rfl
theorem Co(e:Slots)(μ:af):yT e μ=(yE e μ).seq yS:=rfl
theorem Cp(e:Slots)(μ:af):yS e μ=(yF e μ).seq yR:=rfl
theorem Cq(e:Slots)(μ:af):yR e μ=(yG e μ).seq yQ:=rfl
theorem Cr(e:Slots)(μ:af):yQ e μ=(yH e μ).seq yP:=rfl
theorem Cs(e:Slots)(μ:af):yP e μ=(yI e μ).seq yO:=rfl
theorem Ct(e:Slots)(μ:af):yO e μ=(yJ e μ).seq yN:=rfl
theorem Cu(e:Slots)(μ:af):yN e μ=(yK e μ).seq yM:=rfl
theorem Cv(e:Slots)(μ:af):yM e μ=yL e μ:=rfl
def nU:FN:=fnV 12 E_
end Fw.k34
section
set_option maxHeartbeats 4000000
namespace Fw.k34
open PySem L2 Fw
seal Fw.CE Fw.CT Fw.CA Fw.CS Fw.CSs Fw.CI Fw.CB Fw.CF Fw.CW Fw.CO L2.lg
def top(i:Nat):Stmt:=PySem.Challenge.pw_fewopen_k34_whole_tables_keep_their_rule.main.body.getD i (.Pass ⟨0,0,0,0⟩)
abbrev yV:Stmt:=top 5
abbrev ju:Stmt:=top 6
abbrev pL:Stmt:=top 8
abbrev pM:Stmt:=top 9
abbrev iA:Stmt:=top 10
abbrev uM:Stmt:=top 11
abbrev gk:Stmt:=top 12
abbrev yW:Stmt:=top 13
abbrev yX:Stmt:=top 14
abbrev nV:Stmt:=top 16
abbrev uN:Stmt:=top 17
abbrev fm:Stmt:=top 18
abbrev pN:Stmt:=top 21
abbrev k6:Stmt:=top 22
abbrev jv:Stmt:=top 23
abbrev eN:Stmt:=top 24
abbrev gm:Stmt:=top 25
abbrev iB:Stmt:=top 26
abbrev kl:Stmt:=top 27
abbrev mf:Stmt:=top 28
abbrev jw:Stmt:=top 30
abbrev fo:Stmt:=top 31
abbrev km:Stmt:=top 32
abbrev uO:Stmt:=top 33
abbrev hZ:Stmt:=top 34
abbrev mV:Stmt:=top 35
abbrev uP:Stmt:=top 36
abbrev ko:Stmt:=top 38
abbrev gn:Stmt:=top 39
abbrev k7:Stmt:=top 40
abbrev fX:Stmt:=top 41
abbrev jy:Stmt:=top 42
abbrev fq:Stmt:=top 43
abbrev fI:Stmt:=top 44
abbrev uQ:Stmt:=top 45
abbrev kq:Stmt:=top 47
abbrev mh:Stmt:=top 48
abbrev qL:Stmt:=top 49
abbrev kr:Stmt:=top 50
abbrev h8:Stmt:=top 51
abbrev ku:Stmt:=top 52
abbrev h_:Stmt:=top 53
abbrev aX:Stmt:=top 54
abbrev sP:Stmt:=top 55
structure Tx(K:PySem.W.Frag)(mg:Str→Option Value):Prop where
 N0:mg "all"=none
 JE:mg "any"=none
 kx:mg "enumerate"=none
 JF:mg "int"=none
 lC:mg "len"=none
 uR:mg "list"=none
 N4:mg "max"=none
 N5:mg "min"=none
 dG:mg "range"=none
 i4:mg "sorted"=none
 JG:mg "sum"=none
 eO:mg "tuple"=none
 Fc:mg "zip"=none
 wA:∃tk,mg "MOST_WIDE"=some (.int 12 tk)
structure Ec(K:PySem.W.Frag)(mg:Str→Option Value)(b5:Addr):Prop where
 k8:mg "TooMany"=some (.ref b5)
 Mw:PySem.W.nsIn K mainGlobals "TooMany"=some (some (.ref b5))
 k9:PySem.W.excIn K b5 bmV "ValueError.__new__"=true
 s0:(BZ K b5).contains (.ref b5)=true
abbrev n0:List Str:=["left","right"]
abbrev n1:List Str:=["p","one","other"]
abbrev n2:List Str:=["entry","p","number"]
abbrev n3:List Str:=["p","number","row"]
abbrev n4:List Str:=["entry","other","p","number"]
abbrev n5:List Str:=["p","row","lead","place","number"]
abbrev n6:List Str:=["line","p","place"]
abbrev n7:List Str:=["p","lines","place"]
abbrev n8:List Str:=["inner","hands"]
abbrev n9:List Str:=["rule","hands"]
abbrev n10:List Str:=["inner"]
abbrev n11:List Str:=["rule","rules"]
abbrev n12:List Str:=["row","filling","table"]
abbrev n13:List Str:=["table","filling"]
abbrev n14:List Str:=["number","row","hands"]
abbrev n15:List Str:=["table","hands"]
abbrev n16:List Str:=["rule"]
abbrev n17:List Str:=["inner","p"]
abbrev n18:List Str:=["p","rule"]
abbrev n19:List Str:=["number","table"]
abbrev n20:List Str:=["table","numbers"]
abbrev n21:List Str:=["place"]
abbrev n22:List Str:=["wide"]
abbrev n23:List Str:=["number","part"]
abbrev n24:List Str:=["seen"]
abbrev n25:List Str:=["line","part"]
abbrev n26:List Str:=["table","numbers","seen_parts","wide","lines","found"]
abbrev n27:List Str:=["number","seen"]
abbrev n28:List Str:=["table","seen","numbers","seen_parts","against","found"]
abbrev n29:List Str:=["hands","hand"]
abbrev n30:List Str:=["many","found","hand"]
abbrev n31:List Str:=["other","hand"]
abbrev n32:List Str:=["hand","opening","hands"]
abbrev n33:List Str:=["opening","hands"]
abbrev n34:List Str:=["opening","many","hands"]
abbrev n35:List Str:=["hands","opening"]
abbrev n36:List Str:=["table","many","opening","hands","least","greatest"]
abbrev n37:List Str:=["hands","opening","many"]
abbrev n38:List Str:=["hand","hands"]
abbrev n39:List Str:=["table","many","hands"]
abbrev n40:List Str:=["_law_each","_law_hands"]
abbrev n41:List Str:=["_law_rule_here","_law_hands"]
abbrev n42:List Str:=["_law_some","_law_hand"]
abbrev n43:List Str:=["_law_many","_law_found","_law_hand"]
abbrev n44:List Str:=["_law_hands","_law_rule_here"]
abbrev n45:List Str:=["_law_table","_law_some","_law_rule_here","_law_fit","_law_least","_law_greatest","_law_one","_law_more"]
abbrev n46:List Str:=["_law_k","_law_hand"]
abbrev n47:List Str:=["_law_hand","_law_fit","_law_one"]
abbrev n48:List Str:=["_law_one","_law_fit"]
abbrev n49:List Str:=["_law_hand","_law_one"]
abbrev n50:List Str:=["_law_other","_law_fit"]
abbrev n51:List Str:=["_law_k","_law_seen","_law_hands","_law_table"]
abbrev n52:List Str:=["_law_script","_law_p_here","_law_rule_here","_law_table","_law_filling","_law_seen","_law_turned","_law_some","_law_hands","_law_due","_law_own","_law_answer"]
abbrev n53:List Str:=["p","row","lead","place"]
abbrev n54:List Str:=["row","many"]
abbrev n55:List Str:=["p","rows","many"]
abbrev n56:List Str:=["width","place"]
abbrev n57:List Str:=["p","width","lines","wished"]
abbrev n58:List Str:=["some"]
abbrev n59:List Str:=["p","line","first","many","number"]
abbrev n60:List Str:=["p","rule","line","unused"]
abbrev n61:List Str:=["table","numbers","seen_parts"]
abbrev n62:List Str:=["table","seen"]
abbrev n63:List Str:=["many"]
abbrev n64:List Str:=["table","many"]
abbrev n65:List Str:=["_law_script","_law_k"]
abbrev n66:List Str:=["_law_cell_here","_law_most","_law_many"]
abbrev n67:List Str:=["_law_cell_here"]
abbrev n68:List Str:=["_law_script","_law_state","_law_deep"]
abbrev n69:List Str:=["_law_p_here","_law_rule_here"]
abbrev n70:List Str:=["_law_many"]
abbrev n71:List Str:=["_law_table","_law_some","_law_rule_here"]
abbrev n72:List Str:=["_law_script"]
abbrev n73:List Str:=["p","one","other","rest","told"]
abbrev n74:List Str:=["row","many","place"]
abbrev n75:List Str:=["p","rows","many","leads","noughts","row","rest","place","lead","found","fresh"]
abbrev n76:List Str:=["width","place","row"]
abbrev n77:List Str:=["p","width","lines","wished","many","rows","place","parted","row","multipliers","lead"]
abbrev n78:List Str:=["p","line","first","many","number","fresh","power","place"]
abbrev n79:List Str:=["p","rule","line","unused","many","rows","inner_unused","number","inner"]
abbrev n80:List Str:=["p","rule","wide"]
abbrev n81:List Str:=["table","numbers","found"]
abbrev n82:List Str:=["_law_script","_law_k","_law_number"]
abbrev n83:List Str:=["_law_cell_here","_law_most","_law_many","_law_found","_law_turn","_law_number"]
abbrev n84:List Str:=["_law_script","_law_state","_law_deep","_law_cell_here","_law_many","_law_rules","_law_turn"]
abbrev n85:List Str:=["_law_p_here","_law_rule_here","_law_found"]
abbrev d0:FuncData:=PySem.W.fnOf "" "" (gQ sP) [] (ao sP) .none .none .none .none none .none .none
structure Zc where
 P:Program
 w:World
 K:PySem.W.Frag
 mg:Str→Option Value
 base:Heap
 A:List Addr
 D:List FuncData
 b5:Addr
abbrev Zg(Z:Zc)(x:Str)(st:Stmt)(ps:List Str)(i:Nat):Prop:=Gf Z.K Z.mg x st ps (Z.A.getD i 0) (Z.D.getD i d0)
structure Mo(Z:Zc):Prop extends Tx Z.K Z.mg,Ec Z.K Z.mg Z.b5 where
 yY:Zg Z "over" yV n1 0
 mi:Zg Z "comes_to" ju n1 1
 uS:Zg Z "times" pL n3 2
 uT:Zg Z "freed" pM n53 3
 lD:Zg Z "first_place" iA n54 4
 AE:Zg Z "eased" uM n55 5
 mW:Zg Z "numbers_at" gk n7 6
 yZ:Zg Z "unit" yW n56 7
 y_:Zg Z "held" yX n57 8
 gv:Zg Z "is_hand" nV n16 9
 uU:Zg Z "fits" uN n9 10
 iC:Zg Z "turned_rule" fm n16 11
 AF:Zg Z "parts" pN n13 12
 sQ:Zg Z "rows_of" k6 n15 13
 jz:Zg Z "own_places" jv n58 14
 eP:Zg Z "places_taken" eN n16 15
 jA:Zg Z "is_crowded" gm n18 16
 lE:Zg Z "with_powers" iB n59 17
 ky:Zg Z "rows_made" kl n60 18
 jB:Zg Z "table_of" mf n18 19
 mj:Zg Z "lines_at" jw n20 20
 lF:Zg Z "hidden_line" fo n22 21
 kA:Zg Z "opened_by" km n20 22
 uV:Zg Z "opens" uO n15 23
 oK:Zg Z "rows_seen" hZ n24 24
 wB:Zg Z "misfit" mV n61 25
 Fd:Zg Z "told" uP n62 26
 kB:Zg Z "is_opened" ko n15 27
 mX:Zg Z "sets_below" gn n63 28
 sR:Zg Z "without" k7 n29 29
 jQ:Zg Z "with_one_more" fX n29 30
 qM:Zg Z "is_least" jy n33 31
 lG:Zg Z "is_greatest" fq n34 32
 oM:Zg Z "open_sets" fI n64 33
 Fe:Zg Z "bars" uQ n39 34
 ia:Zg Z "_law_cell" kq n65 35
 qN:Zg Z "_law_row" mh n66 36
 wC:Zg Z "_law_p" qL n67 37
 kC:Zg Z "_law_rule" kr n68 38
 ib:Zg Z "_law_fits" h8 n41 39
 oN:Zg Z "_law_made" ku n69 40
 oO:Zg Z "_law_sets" h_ n70 41
 ic:Zg Z "_law_sets_right" aX n71 42
 N6:Zg Z "law" sP n72 43
abbrev Ok(Z:Zc)(r i:Nat)(ps:List Str)(f:FN):Prop:=i9 Z.P Z.w Z.K Z.mg Z.base CX0 r (Z.A.getD i 0) (Z.D.getD i d0) ps (spD Z.K f ps.length)
abbrev OkX(Z:Zc)(r i:Nat)(ps:List Str)(f:FN):Prop:=i9 Z.P Z.w Z.K Z.mg Z.base (CX1 Z.P Z.w) r (Z.A.getD i 0) (Z.D.getD i d0) ps (spX Z.K Z.mg f ps.length)
section
variable{Z:Zc}
theorem mY:aH n73 n1 (ao yV):=fsc
theorem wD(M:Mo Z):Ok Z 1 0 n1 kX :=
 bx .V M.yY.F mY λcdv A outer s H E hr=>(ai (aI 3 mY.nd (bN (ae 2) (ae 0)))
 (ai (cz (gZ hr (ae 3) aj) (av Lb) aV)
 (ai (aI 4 mY.nd (bN (ae 1) (ae 0)))
 (ai (D1 PassesOwn.never (ly hr (ae 3) aj) (ai (aI 4 mY.nd (bN (eW (Lq (ae 4)) (iu (ae 0) (ae 3))) (ae 0)))
 (av (aI 3 mY.nd (bN (ae 0) (ae 3))))))
 (av (aE (ae 4)))))))
theorem wF:aH n1 n1 (ao ju):=fsc
theorem mZ(M:Mo Z):Ok Z 1 1 n1 cF :=
 bx .V M.mi.F wF λcdv A outer s H E hr=>(av (aE (bN (Ez hr M.JG (CF.ce (bF (N':=n0) rfl (az (ao ju) rfl n1 rfl (by decide +kernel)) rfl (fA rfl rfl) (yh M.Fc (ae 1) (ae 2)) (λ_ _ _ _ _=>(gW 0 1 (show n0.Nodup by decide +kernel) rfl)) (λ_ _ _ _ _=>bK) (λ_ _ _ _ _=>(eW (ae 0) (ae 1)))))) (ae 0))))
theorem Ff:aH n3 n3 (ao pL):=fsc
theorem sS(M:Mo Z):Ok Z 1 2 n3 iU :=
 bx .V M.uS.F Ff λcdv A outer s H E hr=>(av (aE (CF.ce (bF (N':=n2) rfl (az (ao pL) rfl n3 rfl (by decide +kernel)) rfl (aJ rfl) (b7 (ae 2)) (λ_ _ _ _ _=>(aM 0 (show n2.Nodup by decide +kernel))) (λ_ _ _ _ _=>bK) (λ_ _ _ _ _=>(bN (eW (ae 2) (ae 0)) (ae 1)))))))
theorem wG:aH n5 n53 (ao pM):=fsc
theorem sU(M:Mo Z):Ok Z 1 3 n53 iV :=
 bx .V M.uT.F wG λcdv A outer s H E hr=>(ai (aI 4 wG.nd (aC (ae 1) (ae 3)))
 (ai (cz (gZ hr (ae 4) aj) (av (aE (ae 1))) aV)
 (av (aE (CF.ce (bF (N':=n4) rfl (az (ao pM) rfl n5 rfl (by decide +kernel)) rfl (fA rfl rfl) (yh M.Fc (ae 1) (ae 2)) (λ_ _ _ _ _=>(gW 0 1 (show n4.Nodup by decide +kernel) rfl)) (λ_ _ _ _ _=>bK) (λ_ _ _ _ _=>(bN (uw (ae 0) (eW (ae 3) (ae 1))) (ae 2)))))))))
theorem kD:aH n74 n54 (ao iA):=fsc
theorem o7(M:Mo Z):Ok Z 1 4 n54 eL :=
 bx .V M.lD.F kD λcdv A outer s H E hr=>(ai (dj PassesOwn.never rfl (cC M.dG (ae 1)) (aM 2 kD.nd) (av (cz (ly hr (aC (ae 0) (ae 2)) aj) (av (aE (ae 2))) aV)))
 (av (aE lX)))
theorem dR:aH n75 n55 (ao uM):=fsc
theorem Cw(M:Mo Z):Ok Z 2 5 n55 mS :=
 bx .V M.AE.F dR λcdv A outer s H E hr=>(ai (aI 3 dR.nd (CF.cell Lv))
 (ai (aI 4 dR.nd (CF.cell (cJ aq)))
 (ai (dj PassesOwn.never rfl (b7 (ae 1)) (aM 5 dR.nd) (ai (aI 6 dR.nd (ae 5))
 (ai (dj PassesOwn.never rfl (wj (ae 3)) (gW 7 8 dR.nd rfl) (av (aI 6 dR.nd (cc (sU M) hr M.uT (ag (ae 0) (ag (ae 6) (ag (ae 8) (ag (ae 7) aq))))))))
 (ai (aI 9 dR.nd (cc (o7 M) hr M.lD (ag (ae 6) (ag (ae 2) aq))))
 (av (cz (EF (ae 9)) (av (gu (ae 4) (ae 6))) (ai (aI 10 dR.nd (cc (sS M) hr M.uS (ag (ae 0) (ag (cc (wD M) hr M.yY (ag (ae 0) (ag aj (ag (aC (ae 6) (ae 9)) aq)))) (ag (ae 6) aq)))))
 (ai (dj PassesOwn.never rfl (b7 (CF.ce (EJ M.uR (ae 3)))) (aM 7 dR.nd) (av (An hr 3 (ae 7) (cc (sU M) hr M.uT (ag (ae 0) (ag (HY hr (ae 3) (ae 7)) (ag (ae 10) (ag (ae 9) aq))))))))
 (av (An hr 3 (ae 9) (ae 10)))))))))))
 (av (aE (eT (ag (ae 3) (ag (ae 4) aq))))))))
theorem rJ:aH n7 n7 (ao gk):=fsc
theorem qO(M:Mo Z):Ok Z 1 6 n7 fg :=
 bx .V M.mW.F rJ λcdv A outer s H E hr=>(av (aE (CF.ce (bF (N':=n6) rfl (az (ao gk) rfl n7 rfl (by decide +kernel)) rfl (aJ rfl) (b7 (ae 1)) (λ_ _ _ _ _=>(aM 0 (show n6.Nodup by decide +kernel))) (λ_ _ _ _ _=>bK) (λ_ _ _ _ _=>(bN (aC (ae 0) (ae 2)) (ae 1)))))))
theorem AG:aH n76 n56 (ao yW):=fsc
theorem wH(M:Mo Z):Ok Z 1 7 n56 g_ :=
 bx .V M.yZ.F AG λcdv A outer s H E hr=>(ai (aI 2 AG.nd (CF.cell (yf (ag aj aq) (ae 0))))
 (ai (gK 2 (ae 1) aj)
 (av (aE (ae 2)))))
theorem ie:aH n77 n57 (ao yX):=fsc
theorem wI(M:Mo Z):Ok Z 3 8 n57 fh :=
 bx .K M.y_.F ie λcdv A outer s H E hr=>(ai (aI 4 ie.nd (iw M.lC (ae 2)))
 (ai (aI 5 ie.nd (CF.cell (cJ aq)))
 (ai (dj PassesOwn.never rfl (cC M.dG (ae 1)) (aM 6 ie.nd) (av (gu (ae 5) (bG (bG (cc (qO M) hr M.mW (ag (ae 0) (ag (ae 2) (ag (ae 6) aq)))) (CF.ce (cJ (ag (bN (aC (ae 3) (ae 6)) (ae 0)) aq)))) (cc (wH M) hr M.yZ (ag (ae 1) (ag (ae 6) aq)))))))
 (ai (aI 7 ie.nd (cc (Cw M) hr M.AE (ag (ae 0) (ag (ae 5) (ag (ae 4) aq)))))
 (ai (dj PassesOwn.never rfl (b7 (aC (ae 7) aj)) (aM 8 ie.nd) (av (cz (ly hr (aC (ae 8) (ae 4)) aj) (av (aE (kc (ag cI (ag (dq M.eO (cc (sS M) hr M.uS (ag (ae 0) (ag (cc (wD M) hr M.yY (ag (ae 0) (ag aj (ag (aC (ae 8) (ae 4)) aq)))) (ag (EC (ae 8) (Aj (bG (ae 4) aj)) Ai) aq))))) aq))))) aV)))
 (ai (aI 9 ie.nd (CF.cell (yf (ag aj aq) (ae 4))))
 (ai (dj PassesOwn.never rfl (wj (aC (ae 7) aj)) (gW 6 10 ie.nd rfl) (av (gK 9 (ae 6) (aC (ae 10) (ae 4)))))
 (av (aE (kc (ag cI (ag (ae 9) aq))))))))))))
theorem za:aH n16 n16 (ao nV):=fsc
theorem fJ(M:Mo Z):Ok Z 1 9 n16 bo :=
 bx .V M.gv.F za λcdv A outer s H E hr=>(av (aE (Eu hr (aC (ae 0) aj) cI)))
theorem Ir:aH n9 n9 (ao uN):=fsc
theorem qP(M:Mo Z) :
  ∀n,Ok Z (1+n) 10 n9 (fj n)
 | 0=>jh.mono (Nat.zero_le _)
 | n+1=>by
  have Iu:=qP M n
  exact bx .V M.uU.F Ir λcdv A outer s H E hr=>(ai (cz (eI (cc (fJ M) hr M.gv (ag (ae 0) aq))) (av (aE (EM hr (aC (ae 0) aj) (ae 1)))) aV)
 (av (aE (Jy (iw M.lC (CF.ce (bF (N':=n8) rfl (az (ao uN) rfl n9 rfl (by decide +kernel)) rfl (aJ rfl) (b7 (aC (ae 0) aj)) (λ_ _ _ _ _=>(aM 0 (show n8.Nodup by decide +kernel))) (λ_ _ _ _ _=>(bS (eI (cc Iu hr M.uU (ag (ae 0) (ag (ae 1) aq)))))) (λ_ _ _ _ _=>(ae 0))))) (aC (ae 0) aj)))))
theorem kE:aH n11 n16 (ao fm):=fsc
theorem jR(M:Mo Z) :
  ∀n,Ok Z (1+n) 11 n16 (cN n)
 | 0=>jh.mono (Nat.zero_le _)
 | n+1=>by
  have qQ:=jR M n
  exact bx .V M.iC.F kE λcdv A outer s H E hr=>(ai (cz (eI (cc (fJ M) hr M.gv (ag (ae 0) aq))) (av (aE (eT (ag cI (ag (aC (ae 0) aj) aq)) (hl:=Nat.le_of_ble_eq_true rfl)))) aV)
 (ai (aI 1 kE.nd (dq M.eO (CF.ce (bF (N':=n10) rfl (az (ao fm) rfl n11 rfl (by decide +kernel)) rfl (aJ rfl) (b7 (aC (ae 0) aj)) (λ_ _ _ _ _=>(aM 0 (show n10.Nodup by decide +kernel))) (λ_ _ _ _ _=>bK) (λ_ _ _ _ _=>(cc qQ hr M.iC (ag (ae 0) aq)))))))
 (av (aE (eT (ag cI (ag (bG (uw (iw M.lC (ae 1)) (aC (ae 0) aj)) aj) (ag (ae 1) aq))) (hl:=Nat.le_of_ble_eq_true rfl))))))
theorem Fg:aH n13 n13 (ao pN):=fsc
theorem Cy(M:Mo Z):Ok Z 2 12 n13 kj :=
 bx .V M.AF.F Fg λcdv A outer s H E hr=>(av (aE (CF.ce (bF (N':=n12) rfl (az (ao pN) rfl n13 rfl (by decide +kernel)) rfl (aJ rfl) (b7 (aC (ae 0) aj)) (λ_ _ _ _ _=>(aM 0 (show n12.Nodup by decide +kernel))) (λ_ _ _ _ _=>bK) (λ_ _ _ _ _=>(cc (mZ M) hr M.mi (ag (aC (ae 2) aj) (ag (aC (ae 0) aj) (ag (ae 1) aq)))))))))
theorem zb:aH n15 n15 (ao k6):=fsc
theorem wJ(M:Mo Z):Ok Z 1 13 n15 b8 :=
 bx .V M.sQ.F zb λcdv A outer s H E hr=>(av (aE (CF.ce (bF (N':=n14) rfl (az (ao k6) rfl n15 rfl (by decide +kernel)) rfl (fA rfl rfl) (Aq M.kx (aC (ae 0) aj)) (λ_ _ _ _ _=>(gW 0 1 (show n14.Nodup by decide +kernel) rfl)) (λ_ _ _ _ _=>(bS (NU hr (aC (ae 1) aj) (ae 2)))) (λ_ _ _ _ _=>(ae 0))))))
theorem rK:aH n58 n58 (ao jv):=fsc
theorem kF(M:Mo Z):Ok Z 1 14 n58 cZ :=
 bx .V M.jz.F rK λcdv A outer s H E hr=>(av (aE (Lz M.N4 (uw (aC (ae 0) aj) aj) aj)))
theorem o8:aH n16 n16 (ao eN):=fsc
theorem eZ(M:Mo Z) :
  ∀n,Ok Z (1+n) 15 n16 (aZ n)
 | 0=>jh.mono (Nat.zero_le _)
 | n+1=>by
  have o9:=eZ M n
  exact bx .V M.eP.F o8 λcdv A outer s H E hr=>(ai (cz (eI (cc (fJ M) hr M.gv (ag (ae 0) aq))) (av (aE aj)) aV)
 (av (aE (bG (cc (kF M) hr M.jz (ag (ae 0) aq)) (Ez hr M.JG (CF.ce (bF (N':=n10) rfl (az (ao eN) rfl n16 rfl (by decide +kernel)) rfl (aJ rfl) (b7 (aC (ae 0) aj)) (λ_ _ _ _ _=>(aM 0 (show n10.Nodup by decide +kernel))) (λ_ _ _ _ _=>bK) (λ_ _ _ _ _=>(cc o9 hr M.eP (ag (ae 0) aq))))))))))
theorem rL:aH n18 n18 (ao gm):=fsc
theorem kG(M:Mo Z) :
  ∀n,Ok Z (1+n) 16 n18 (bH n)
 | 0=>jh.mono (Nat.zero_le _)
 | n+1=>by
  have rM:=kG M n
  exact bx .V M.jA.F rL λcdv A outer s H E hr=>(ai (cz (eI (cc (fJ M) hr M.gv (ag (ae 1) aq))) (av (aE qj)) aV)
 (ai (cz (CW.ct (nD (wd (aC (ae 1) aj) aj) (eU (NJ (iw M.lC (aC (ae 1) aj)) (ae 0))))) (av (aE qj)) aV)
 (av (aE (Ey hr M.JE (CF.ce (bF (N':=n17) rfl (az (ao gm) rfl n18 rfl (by decide +kernel)) rfl (aJ rfl) (b7 (aC (ae 1) aj)) (λ_ _ _ _ _=>(aM 0 (show n17.Nodup by decide +kernel))) (λ_ _ _ _ _=>bK) (λ_ _ _ _ _=>(cc rM hr M.jA (ag (ae 1) (ag (ae 0) aq)))))))))))
theorem dw:aH n78 n59 (ao iB):=fsc
theorem o_(M:Mo Z):Ok Z 1 17 n59 du :=
 bx .V M.lE.F dw λcdv A outer s H E hr=>(ai (aI 5 dw.nd (CF.cell (uC M.uR (ae 1))))
 (ai (aI 6 dw.nd aj)
 (ai (dj PassesOwn.never rfl (BP M.dG (ae 2) (bG (ae 2) (ae 3))) (aM 7 dw.nd) (ai (aI 6 dw.nd (bN (eW (ae 6) (ae 4)) (ae 0)))
 (av (gK 5 (ae 7) (ae 6)))))
 (av (aE (ae 5))))))
theorem dH:aH n79 n60 (ao kl):=fsc
theorem lH(M:Mo Z) :
  ∀n,Ok Z (9+n) 18 n60 (ba n)
 | 0=>jh.mono (Nat.zero_le _)
 | n+1=>by
  have uW:=lH M n
  exact bx .V M.ky.F dH λcdv A outer s H E hr=>(ai (cz (eI (cc (fJ M) hr M.gv (ag (ae 1) aq))) (av (aE (CF.ce (cJ (ag (eT (ag (aC (ae 1) aj) (ag (dq M.eO (ae 2)) aq)) (hl:=Nat.le_of_ble_eq_true rfl)) aq))))) aV)
 (ai (aI 4 dH.nd (cc (kF M) hr M.jz (ag (ae 1) aq)))
 (ai (aI 5 dH.nd (CF.cell (cJ aq)))
 (ai (aI 6 dH.nd (bG (ae 3) (ae 4)))
 (ai (dj PassesOwn.never rfl (E9 M.kx (aC (ae 1) aj)) (gW 7 8 dH.nd rfl) (ai (yu (ae 5) (cc uW hr M.ky (ag (ae 0) (ag (ae 8) (ag (cc (o_ M) hr M.lE (ag (ae 0) (ag (ae 2) (ag (ae 3) (ag (ae 4) (ag (ae 7) aq)))))) (ag (ae 6) aq))))))
 (av (aI 6 dH.nd (bG (ae 6) (cc (eZ M 8) hr M.eP (ag (ae 8) aq)))))))
 (av (aE (ae 5))))))))
theorem oP:aH n80 n18 (ao mf):=fsc
theorem uX(M:Mo Z):OkX Z 18 19 n18 eA :=
 Lj M.jB.F oP λcdv A outer s H E hr=>(ai (aI 2 oP.nd (bG aj (cc (eZ M 8) hr M.eP (ag (ae 1) aq))))
 (ai (cz (wd (ae 2) (Ht M.wA.choose_spec)) (av (wc PySem.F.excBase_ValueError rfl M.k8 M.k9)) aV)
 (ai (cz (eI (cc (kG M 8) hr M.jA (ag (ae 0) (ag (ae 1) aq)))) (av (wc PySem.F.excBase_ValueError rfl M.k8 M.k9)) aV)
 (EO (av (aE (eT (ag (ae 0) (ag (ae 2) (ag (dq M.eO (cc (lH M 8) hr M.ky (ag (ae 0) (ag (ae 1) (ag (bG (CF.ce (cJ (ag aj aq))) (CF.ce (yf (ag aj aq) (uw (ae 2) aj)))) (ag aj aq)))))) aq))))))))))
theorem wK:aH n20 n20 (ao jw):=fsc
theorem m7(M:Mo Z):Ok Z 1 20 n20 cm :=
 bx .V M.mj.F wK λcdv A outer s H E hr=>(av (aE (CF.ce (bF (N':=n19) rfl (az (ao jw) rfl n20 rfl (by decide +kernel)) rfl (aJ rfl) (b7 (ae 1)) (λ_ _ _ _ _=>(aM 0 (show n19.Nodup by decide +kernel))) (λ_ _ _ _ _=>bK) (λ_ _ _ _ _=>(aC (aC (aC (ae 1) aj) (ae 0)) aj))))))
theorem qR:aH n22 n22 (ao fo):=fsc
theorem pb(M:Mo Z):Ok Z 1 21 n22 bZ :=
 bx .V M.lF.F qR λcdv A outer s H E hr=>(av (aE (dq M.eO (CF.ce (bF (N':=n21) rfl (az (ao fo) rfl n22 rfl (by decide +kernel)) rfl (aJ rfl) (cC M.dG (ae 0)) (λ_ _ _ _ _=>(aM 0 (show n21.Nodup by decide +kernel))) (λ_ _ _ _ _=>bK) (λ_ _ _ _ _=>(La (gZ hr (ae 0) aj) aj aj)))))))
theorem m8:aH n81 n20 (ao km):=fsc
theorem lI(M:Mo Z):Ok Z 4 22 n20 bc :=
 bx .K M.kA.F m8 λcdv A outer s H E hr=>(ai (aI 2 m8.nd (cc (wI M) hr M.y_ (ag (aC (ae 0) aj) (ag (aC (ae 0) aj) (ag (cc (m7 M) hr M.mj (ag (ae 0) (ag (ae 1) aq))) (ag (cc (pb M) hr M.lF (ag (aC (ae 0) aj) aq)) aq))))))
 (ai (cz (gZ hr (aC (ae 2) aj) cI) (av (aE (kc (ag cI (ag (aC (ae 2) aj) aq))))) aV)
 (av (aE (kc (ag cI (ag (aC (ae 2) aj) aq)))))))
theorem Fh:aH n15 n15 (ao uO):=fsc
theorem sV(M:Mo Z):Ok Z 5 23 n15 b3 :=
 bx .V M.uV.F Fh λcdv A outer s H E hr=>(av (aE (cc (lI M) hr M.kA (ag (ae 0) (ag (cc (wJ M) hr M.sQ (ag (ae 0) (ag (ae 1) aq))) aq)))))
theorem uY:aH n24 n24 (ao hZ):=fsc
theorem rN(M:Mo Z):Ok Z 1 24 n24 dE :=
 bx .V M.oK.F uY λcdv A outer s H E hr=>(av (aE (CF.ce (bF (N':=n23) rfl (az (ao hZ) rfl n24 rfl (by decide +kernel)) rfl (fA rfl rfl) (Aq M.kx (ae 0)) (λ_ _ _ _ _=>(gW 0 1 (show n23.Nodup by decide +kernel) rfl)) (λ_ _ _ _ _=>(bS (sL (ae 1)))) (λ_ _ _ _ _=>(ae 0))))))
theorem k_:aH n26 n61 (ao mV):=fsc
theorem zc(M:Mo Z):Ok Z 4 25 n61 iY :=
 bx .D M.wB.F k_ λcdv A outer s H E hr=>(ai (aI 3 k_.nd (aC (ae 0) aj))
 (ai (dZ (dm 4 (N':=n25) rfl (az (ao mV) rfl n26 rfl (by decide +kernel)) rfl (fA rfl rfl) (yh M.Fc (cc (m7 M) hr M.mj (ag (ae 0) (ag (ae 1) aq))) (ae 2)) (λ_ _ _ _ _=>(gW 0 1 (show n25.Nodup by decide +kernel) rfl)) (λ_ _ _ _ _=>bK) (λ_ _ _ _ _=>(bG (dq M.eO (ae 0)) (eT (ag (ae 1) aq)))) k_.nd) λ_ _ _ _ h=>ei h)
 (ai (aI 5 k_.nd (cc (wI M) hr M.y_ (ag (aC (ae 0) aj) (ag (bG (ae 3) aj) (ag (ae 4) (ag (dq M.eO (cc (wH M) hr M.yZ (ag (bG (ae 3) aj) (ag (ae 3) aq)))) aq))))))
 (ai (cz (gZ hr (aC (ae 5) aj) cI) (av (aE (aC (ae 5) aj))) aV)
 (av (aE lX))))))
theorem m9:aH n28 n62 (ao uP):=fsc
theorem Fi(M:Mo Z):Ok Z 5 26 n62 kY :=
 bx .V M.Fd.F m9 λcdv A outer s H E hr=>(ai (aI 2 m9.nd (cc (rN M) hr M.oK (ag (ae 1) aq)))
 (ai (dZ (dm 3 (N':=n27) rfl (az (ao uP) rfl n28 rfl (by decide +kernel)) rfl (aJ rfl) (b7 (ae 2)) (λ_ _ _ _ _=>(aM 0 (show n27.Nodup by decide +kernel))) (λ_ _ _ _ _=>bK) (λ_ _ _ _ _=>(aC (ae 1) (ae 0))) m9.nd) λ_ _ _ _ h=>ei h)
 (ai (aI 4 m9.nd (cc (zc M) hr M.wB (ag (ae 0) (ag (ae 2) (ag (ae 3) aq)))))
 (ai (cz (sL (ae 4)) (av (aE (kc (ag cI (ag (ae 4) aq))))) aV)
 (ai (aI 5 m9.nd (cc (lI M) hr M.kA (ag (ae 0) (ag (ae 2) aq))))
 (ai (cz (gZ hr (aC (ae 5) aj) cI) (av (aE (kc (ag cI (ag (aC (ae 5) aj) aq))))) aV)
 (av (aE (kc (ag cI (ag (cc (mZ M) hr M.mi (ag (aC (ae 0) aj) (ag (aC (ae 5) aj) (ag (ae 3) aq)))) (ag (aC (ae 5) aj) aq))))))))))))
theorem uZ:aH n15 n15 (ao ko):=fsc
theorem lJ(M:Mo Z):Ok Z 6 27 n15 aW :=
 bx .V M.kB.F uZ λcdv A outer s H E hr=>(av (aE (Eu hr (aC (cc (sV M) hr M.uV (ag (ae 0) (ag (ae 1) aq))) aj) cI)))
theorem fv:aH n30 n63 (ao gn):=fsc
theorem qS(M:Mo Z):Ok Z 1 28 n63 bI :=
 bx .V M.mX.F fv λcdv A outer s H E hr=>(ai (aI 1 fv.nd (CF.ce (cJ (ag (eT aq) aq))))
 (ai (dj PassesOwn.never rfl (cC M.dG (ae 0)) (aM 2 fv.nd) (av (aI 1 fv.nd (bG (ae 1) (CF.ce (bF (N':=n29) rfl (az (ao gn) rfl n30 rfl (by decide +kernel)) rfl (aJ rfl) (b7 (ae 1)) (λ_ _ _ _ _=>(aM 0 (show n29.Nodup by decide +kernel))) (λ_ _ _ _ _=>bK) (λ_ _ _ _ _=>(bG (ae 0) (eT (ag (ae 1) aq))))))))))
 (av (aE (ae 1)))))
theorem zd:aH n29 n29 (ao k7):=fsc
theorem wL(M:Mo Z):Ok Z 1 29 n29 ee :=
 bx .V M.sR.F zd λcdv A outer s H E hr=>(av (aE (dq M.eO (CF.ce (bF (N':=n31) rfl (az (ao k7) rfl n29 rfl (by decide +kernel)) rfl (aJ rfl) (b7 (ae 0)) (λ_ _ _ _ _=>(aM 0 (show n31.Nodup by decide +kernel))) (λ_ _ _ _ _=>(bS (ly hr (ae 0) (ae 1)))) (λ_ _ _ _ _=>(ae 0)))))))
theorem nW:aH n29 n29 (ao fX):=fsc
theorem m_(M:Mo Z):Ok Z 1 30 n29 bT :=
 bx .V M.jQ.F nW λcdv A outer s H E hr=>(av (aE (dq M.eO (yr M.i4 (bG (ae 0) (eT (ag (ae 1) aq)))))))
theorem wM:aH n33 n33 (ao jy):=fsc
theorem u0(M:Mo Z):Ok Z 2 31 n33 cn :=
 bx .V M.qM.F wM λcdv A outer s H E hr=>(av (aE (K_ (pJ hr (ae 0) (ae 1)) (K9 (DZ (Ey hr M.JE (CF.ce (bF (N':=n32) rfl (az (ao jy) rfl n33 rfl (by decide +kernel)) rfl (aJ rfl) (b7 (ae 1)) (λ_ _ _ _ _=>(aM 0 (show n32.Nodup by decide +kernel))) (λ_ _ _ _ _=>bK) (λ_ _ _ _ _=>(pJ hr (ae 1) (cc (wL M) hr M.sR (ag (ae 2) (ag (ae 0) aq)))))))))))))
theorem qT:aH n34 n34 (ao fq):=fsc
theorem pd(M:Mo Z):Ok Z 2 32 n34 bz :=
 bx .V M.lG.F qT λcdv A outer s H E hr=>(ai (cz (eI (pJ hr (ae 0) (ae 2))) (av (aE qj)) aV)
 (av (aE (Lu hr M.N0 (CF.ce (bF (N':=n32) rfl (az (ao fq) rfl n34 rfl (by decide +kernel)) rfl (aJ rfl) (cC M.dG (ae 1)) (λ_ _ _ _ _=>(aM 0 (show n32.Nodup by decide +kernel))) (λ_ _ _ _ _=>(bS (EN hr (ae 0) (ae 2)))) (λ_ _ _ _ _=>(pJ hr (ae 1) (cc (m_ M) hr M.jQ (ag (ae 2) (ag (ae 0) aq)))))))))))
theorem eQ:aH n36 n64 (ao fI):=fsc
theorem rO(M:Mo Z):Ok Z 7 33 n64 bC :=
 bx .V M.oM.F eQ λcdv A outer s H E hr=>(ai (aI 2 eQ.nd (CF.cell LI))
 (ai (dj PassesOwn.never rfl (b7 (cc (qS M) hr M.mX (ag (ae 1) aq))) (aM 3 eQ.nd) (av (Ik hr 2 (ae 3) (cc (lJ M) hr M.kB (ag (ae 0) (ag (ae 3) aq))))))
 (ai (dZ (dm 4 (N':=n35) rfl (az (ao fI) rfl n36 rfl (by decide +kernel)) rfl (aJ rfl) (wt (ae 2)) (λ_ _ _ _ _=>(aM 0 (show n35.Nodup by decide +kernel))) (λ_ _ _ _ _=>(bS (eI (cc (u0 M) hr M.qM (ag (ae 1) (ag (ae 0) aq)))))) (λ_ _ _ _ _=>(CF.ce (uC M.uR (ae 0)))) eQ.nd) λ_ _ _ _ h=>ei h)
 (ai (dZ (dm 5 (N':=n37) rfl (az (ao fI) rfl n36 rfl (by decide +kernel)) rfl (aJ rfl) (wt (ae 2)) (λ_ _ _ _ _=>(aM 0 (show n37.Nodup by decide +kernel))) (λ_ _ _ _ _=>(bS (eI (cc (pd M) hr M.lG (ag (ae 1) (ag (ae 2) (ag (ae 0) aq))))))) (λ_ _ _ _ _=>(CF.ce (uC M.uR (ae 0)))) eQ.nd) λ_ _ _ _ h=>ei h)
 (av (aE (kc (ag (CF.cell (jm hr M.i4 (ae 4))) (ag (CF.cell (jm hr M.i4 (ae 5))) aq)))))))))
theorem Iv:aH n39 n39 (ao uQ):=fsc
theorem Fj(M:Mo Z):Ok Z 7 34 n39 dF :=
 bx .V M.Fe.F Iv λcdv A outer s H E hr=>(av (aE (DZ (cc (lJ M) hr M.kB (ag (ae 0) (ag (CF.ce (bF (N':=n38) rfl (az (ao uQ) rfl n39 rfl (by decide +kernel)) rfl (aJ rfl) (cC M.dG (ae 1)) (λ_ _ _ _ _=>(aM 0 (show n38.Nodup by decide +kernel))) (λ_ _ _ _ _=>(bS (EN hr (ae 0) (ae 1)))) (λ_ _ _ _ _=>(ae 0)))) aq))))))
theorem gp:aH n82 n65 (ao kq):=fsc
theorem iD(M:Mo Z):Ok Z 1 35 n65 bX :=
 bx .V M.ia.F gp λcdv A outer s H E hr=>(ai (cz (Eo (ae 1) (iw M.lC (ae 0))) (av (aE (aC (ae 0) (ae 1)))) aV)
 (ai (aI 2 gp.nd (bG (eW (ae 1) aj) aj))
 (ai (cz (wd (iw M.lC (ae 0)) aj) (av (aI 2 gp.nd (bG (ae 2) (eW (bN (aC (ae 0) (bN (bG (eW aj (ae 1)) aj) (iw M.lC (ae 0)))) aj) aj)))) aV)
 (ai (aI 2 gp.nd (bN (eW (ae 2) (ae 2)) aj))
 (av (aE (bN (eW (ae 2) (ae 2)) aj)))))))
theorem cG:aH n83 n66 (ao mh):=fsc
theorem u3(M:Mo Z):Ok Z 1 36 n66 hJ :=
 bx .V M.qN.F cG λcdv A outer s H E hr=>(ai (aI 3 cG.nd (CF.cell (cJ aq)))
 (ai (cz (gZ hr (bN (ae 0) aj) aj) (ai (aI 0 cG.nd (iu (ae 0) aj))
 (ai (dj PassesOwn.never rfl (cC M.dG (ae 2)) (aM 4 cG.nd) (ai (gu (ae 3) (bN (ae 0) (ae 1)))
 (av (aI 0 cG.nd (iu (ae 0) (ae 1))))))
 (av (aE (ae 3))))) aV)
 (ai (dj PassesOwn.never rfl (cC M.dG (ae 2)) (aM 4 cG.nd) (ai (aI 5 cG.nd (bN (bG (iu (ae 0) aj) (eW (ae 4) aj)) aj))
 (ai (aI 5 cG.nd (bN (bG (eW (ae 5) (ae 5)) (ae 4)) aj))
 (ai (aI 5 cG.nd (bN (eW (ae 5) (ae 5)) aj))
 (av (gu (ae 3) (bN (iu (ae 5) aj) (ae 1))))))))
 (av (aE (ae 3))))))
theorem Cz:aH n67 n67 (ao qL):=fsc
theorem ze(M:Mo Z):Ok Z 1 37 n67 iZ :=
 bx .V M.wC.F Cz λcdv A outer s H E hr=>(ai (cz (gZ hr (bN (iu (ae 0) aj) aj) aj) (av (aE (aC (CF.ce (cJ (ag aj (ag aj (ag aj (ag aj aq)))))) (bN (iu (ae 0) aj) aj)))) aV)
 (av (aE (aC (CF.ce (cJ (ag aj (ag aj (ag aj (ag aj (ag aj (ag aj aq)))))))) (bN (ae 0) aj)))))
theorem eR:aH n84 n68 (ao kr):=fsc
theorem lK(M:Mo Z) :
  ∀n,Ok Z (1+n) 38 n68 (cj n)
 | 0=>jh.mono (Nat.zero_le _)
 | n+1=>by
  have u4:=lK M n
  exact bx .V M.kC.F eR λcdv A outer s H E hr=>(ai (aI 3 eR.nd (cc (iD M) hr M.ia (ag (ae 0) (ag (bG aj (aC (ae 1) aj)) aq))))
 (ai (gK 1 aj (bG (aC (ae 1) aj) aj))
 (ai (cz (CW.ct (vU (gZ hr (ae 2) aj) (vU (wd (aC (ae 1) aj) aj) (vU (CW.ct (nD (wd (ae 2) aj) (eU (Eo (bN (ae 3) aj) aj)))) (nC (CW.ct (nD (gZ hr (ae 2) aj) (eU (gZ hr (bN (ae 3) aj) aj))))))))) (ai (gK 1 aj (bG (aC (ae 1) aj) aj))
 (av (aE (eT (ag cI (ag (bN (iu (ae 3) aj) aj) aq)) (hl:=Nat.le_of_ble_eq_true rfl))))) aV)
 (ai (aI 4 eR.nd (bG aj (bN (iu (ae 3) aj) aj)))
 (ai (aI 5 eR.nd (CF.cell (cJ aq)))
 (ai (dj PassesOwn.never rfl (cC M.dG (ae 4)) (aM 6 eR.nd) (av (cz (Eo (aC (ae 1) aj) aj) (av (gu (ae 5) (cc u4 hr M.kC (ag (ae 0) (ag (ae 1) (ag (bG (ae 2) aj) aq)))))) aV)))
 (av (aE (eT (ag cI (ag (Ly M.N5 (bG aj (bN (iu (ae 3) aj) (ae 4))) (iw M.lC (ae 5))) (ag (dq M.eO (ae 5)) aq))) (hl:=Nat.le_of_ble_eq_true rfl))))))))))
theorem u5:aH n41 n41 (ao h8):=fsc
theorem iE(M:Mo Z) :
  ∀n,Ok Z (0+n) 39 n41 (bf n)
 | 0=>jh.mono (Nat.zero_le _)
 | n+1=>by
  have u6:=iE M n
  exact bx .V M.ib.F u5 λcdv A outer s H E hr=>(ai (cz (gZ hr (aC (ae 0) aj) cI) (av (aE (EM hr (aC (ae 0) aj) (ae 1)))) aV)
 (av (aE (Jy (iw M.lC (CF.ce (bF (N':=n40) rfl (az (ao h8) rfl n41 rfl (by decide +kernel)) rfl (aJ rfl) (b7 (aC (ae 0) aj)) (λ_ _ _ _ _=>(aM 0 (show n40.Nodup by decide +kernel))) (λ_ _ _ _ _=>(bS (eI (cc u6 hr M.ib (ag (ae 0) (ag (ae 1) aq)))))) (λ_ _ _ _ _=>(ae 0))))) (aC (ae 0) aj)))))
theorem gq:aH n85 n69 (ao ku):=fsc
theorem rP(M:Mo Z):Ok Z 19 40 n69 eM :=
 bx .V M.oN.F gq λcdv A outer s H E hr=>(ai (aI 2 gq.nd lX)
 (ai (Ll rfl rfl (λE pn=>(av (aI 2 gq.nd (Ej (uX M) (hr.mono (by decide)) M.jB.m M.jB.F.kp M.jB.b (ag (ae 0) (ag (ae 1) aq)))))) (LB (HK M.k8 (As M.k9) M.k8 (As M.k9) M.s0 λev=>(av (aI 2 gq.nd lX)))))
 (av (aE (ae 2)))))
theorem gs:aH n43 n70 (ao h_):=fsc
theorem rQ(M:Mo Z):Ok Z 1 41 n70 cR :=
 bx .V M.oO.F gs λcdv A outer s H E hr=>(ai (aI 1 gs.nd (CF.ce (cJ (ag (CF.ce (cJ aq)) aq))))
 (ai (dj PassesOwn.never rfl (cC M.dG (ae 0)) (aM 2 gs.nd) (av (aI 1 gs.nd (bG (ae 1) (CF.ce (bF (N':=n42) rfl (az (ao h_) rfl n43 rfl (by decide +kernel)) rfl (aJ rfl) (b7 (ae 1)) (λ_ _ _ _ _=>(aM 0 (show n42.Nodup by decide +kernel))) (λ_ _ _ _ _=>bK) (λ_ _ _ _ _=>(bG (ae 0) (CF.ce (cJ (ag (ae 1) aq)))))))))))
 (av (aE (ae 1)))))
theorem bU:aH n45 n71 (ao aX):=fsc
theorem lj(M:Mo Z):Ok Z 9 42 n71 cy :=
 bx .V M.ic.F bU λcdv A outer s H E hr=>(ai (aI 3 bU.nd (CF.ce (bF (N':=n44) rfl (az (ao aX) rfl n45 rfl (by decide +kernel)) rfl (aJ rfl) (b7 (ae 1)) (λ_ _ _ _ _=>(aM 0 (show n44.Nodup by decide +kernel))) (λ_ _ _ _ _=>(bS (eI (cc (iE M 8) hr M.ib (ag (ae 1) (ag (ae 0) aq)))))) (λ_ _ _ _ _=>(ae 0)))))
 (ai (dZ (dm 4 (N':=n48) rfl (az (ao aX) rfl n45 rfl (by decide +kernel)) rfl (aJ rfl) (b7 (ae 3)) (λ_ _ _ _ _=>(aM 0 (show n48.Nodup by decide +kernel))) (λ_ _ _ _ _=>(bS (gZ hr (CF.ce (bF (N':=n47) rfl (qw (ao aX) rfl (by decide +kernel)) rfl (aJ rfl) (b7 (ae 0)) (λ_ _ _ _ _=>(aM 0 (show n47.Nodup by decide +kernel))) (λ_ _ _ _ _=>(bS (LD hr (CF.ce (bF (N':=n46) rfl (oY (ao aX) rfl (by decide +kernel)) rfl (aJ rfl) (b7 (ae 2)) (λ_ _ _ _ _=>(aM 0 (show n46.Nodup by decide +kernel))) (λ_ _ _ _ _=>(bS (ly hr (ae 0) (ae 1)))) (λ_ _ _ _ _=>(ae 0)))) (ae 1)))) (λ_ _ _ _ _=>aj))) (CF.ce (cJ aq))))) (λ_ _ _ _ _=>(ae 0)) bU.nd) λ_ _ _ _ h=>ei h)
 (ai (aI 5 bU.nd (CF.cell (cJ aq)))
 (ai (dj PassesOwn.never rfl (b7 (ae 1)) (aM 6 bU.nd) (ai (dZ (dm 7 (N':=n49) rfl (az (ao aX) rfl n45 rfl (by decide +kernel)) rfl (aJ rfl) (cC M.dG aj) (λ_ _ _ _ _=>(aM 0 (show n49.Nodup by decide +kernel))) (λ_ _ _ _ _=>(bS (uF hr (ae 0) (ae 1)))) (λ_ _ _ _ _=>(Cd M.i4 (bG (ae 1) (CF.ce (cJ (ag (ae 0) aq)))))) bU.nd) λ_ _ _ _ h=>ei h)
 (av (cz (CW.ct (nD (uF hr (ae 6) (ae 3)) (eU (gZ hr (CF.ce (bF (N':=n50) rfl (az (ao aX) rfl n45 rfl (by decide +kernel)) rfl (aJ rfl) (b7 (ae 7)) (λ_ _ _ _ _=>(aM 0 (show n50.Nodup by decide +kernel))) (λ_ _ _ _ _=>(bS (uF hr (ae 0) (ae 1)))) (λ_ _ _ _ _=>(ae 0)))) (CF.ce (cJ aq)))))) (av (gu (ae 5) (ae 6))) aV))))
 (av (aE (Eu hr (cc (rO M) hr M.oM (ag (ae 0) (ag aj aq))) (eT (ag (CF.ce (jm hr M.i4 (ae 4))) (ag (CF.ce (jm hr M.i4 (ae 5))) aq))))))))))
theorem fY:aH n52 n72 (ao sP):=fsc
theorem Iw(M:Mo Z):Ok Z 20 43 n72 nU :=
 bx .V M.N6.F fY λcdv A outer s H E hr=>(ai (aI 1 fY.nd (cc (ze M) hr M.wC (ag (cc (iD M) hr M.ia (ag (ae 0) (ag aj aq))) aq)))
 (ai (aI 2 fY.nd (cc (lK M 8) hr M.kC (ag (ae 0) (ag (CF.cell (cJ (ag aj (ag aj aq)))) (ag aj aq)))))
 (ai (aI 3 fY.nd (cc (rP M) hr M.oN (ag (ae 1) (ag (ae 2) aq))))
 (ai (cz (EF (ae 3)) (av (aE qj)) aV)
 (ai (aI 4 fY.nd (dq M.eO (cc (u3 M) hr M.qN (ag (cc (iD M) hr M.ia (ag (ae 0) (ag aj aq))) (ag (ae 1) (ag (aC (ae 3) aj) aq))))))
 (ai (aI 5 fY.nd (cc (Cy M) hr M.AF (ag (ae 3) (ag (ae 4) aq))))
 (ai (aI 6 fY.nd (cc (jR M 8) hr M.iC (ag (ae 2) aq)))
 (ai (aI 7 fY.nd (cc (rQ M) hr M.oO (ag aj aq)))
 (ai (dj PassesOwn.never rfl (b7 (ae 7)) (aM 8 fY.nd) (ai (aI 9 fY.nd (cc (iE M 8) hr M.ib (ag (ae 2) (ag (ae 8) aq))))
 (ai (cz (CW.ct (vU (ly hr (aC (cc (sV M) hr M.uV (ag (ae 3) (ag (ae 8) aq))) aj) (aC (CF.ce (cJ (ag cI (ag cI aq)))) (Ar M.JF (ae 9)))) (nC (ly hr (cc (qP M 8) hr M.uU (ag (ae 2) (ag (ae 8) aq))) (ae 9))))) (av (aE qj)) aV)
 (ai (dZ (dm 10 (N':=n51) rfl (az (ao sP) rfl n52 rfl (by decide +kernel)) rfl (aJ rfl) (cC M.dG (iw M.lC (ae 5))) (λ_ _ _ _ _=>(aM 0 (show n51.Nodup by decide +kernel))) (λ_ _ _ _ _=>bK) (λ_ _ _ _ _=>(aC (CF.ce (cJ (ag lX (ag (aC (ae 1) (ae 0)) aq)))) (Ar M.JF (EM hr (aC (aC (aC (ae 3) aj) (ae 0)) aj) (ae 2))))) fY.nd) λ_ _ _ _ h=>ei h)
 (ai (aI 11 fY.nd (cc (Fi M) hr M.Fd (ag (ae 3) (ag (ae 10) aq))))
 (ai (cz (CW.ct (vU (CW.ct (nD (eI (ae 9)) (eU (ly hr (EC (ae 11) Ai (Aj aj)) (eT (ag cI (ag (aC (ae 4) aj) aq))))))) (nC (CW.ct (nD (K8 (eI (ae 9))) (eU (ly hr (aC (ae 11) aj) cI))))))) (av (aE qj)) aV)
 (av (cz (ly hr (cc (Fj M) hr M.Fe (ag (ae 3) (ag aj (ag (ae 8) aq)))) (cc (qP M 8) hr M.uU (ag (ae 6) (ag (ae 8) aq)))) (av (aE qj)) aV))))))))
 (av (aE (cc (lj M) hr M.ic (ag (ae 3) (ag (ae 7) (ag (ae 2) aq)))))))))))))))
end
theorem all_mk{l:PySem.W.OpenLaw}{w:World}{K:PySem.W.Frag}{h:Heap}{mg:Str→Option Value}{fa:Addr}(X:K.In h)(G:h.Ns mainGlobals mg)(hfa:mg "law"=some (.ref fa))
  {f0 f1 f2 f3 f4 f5 f6 f7 f8 f9 f10 f11 f12 f13 f14 f15 f16 f17 f18 f19 f20 f21 f22 f23 f24 f25 f26 f27 f28 f29 f30 f31 f32 f33 f34 f35 f36 f37 f38 f39 f40 f41 f42 f43:Addr}{d0 d1 d2 d3 d4 d5 d6 d7 d8 d9 d10 d11 d12 d13 d14 d15 d16 d17 d18 d19 d20 d21 d22 d23 d24 d25 d26 d27 d28 d29 d30 d31 d32 d33 d34 d35 d36 d37 d38 d39 d40 d41 d42 d43:FuncData}
  (A0:Fa K "over" yV f0 d0)
  (A1:Fa K "comes_to" ju f1 d1)
  (A2:Fa K "times" pL f2 d2)
  (A3:Fa K "freed" pM f3 d3)
  (A4:Fa K "first_place" iA f4 d4)
  (A5:Fa K "eased" uM f5 d5)
  (A6:Fa K "numbers_at" gk f6 d6)
  (A7:Fa K "unit" yW f7 d7)
  (A8:Fa K "held" yX f8 d8)
  (A9:Fa K "is_hand" nV f9 d9)
  (A10:Fa K "fits" uN f10 d10)
  (A11:Fa K "turned_rule" fm f11 d11)
  (A12:Fa K "parts" pN f12 d12)
  (A13:Fa K "rows_of" k6 f13 d13)
  (A14:Fa K "own_places" jv f14 d14)
  (A15:Fa K "places_taken" eN f15 d15)
  (A16:Fa K "is_crowded" gm f16 d16)
  (A17:Fa K "with_powers" iB f17 d17)
  (A18:Fa K "rows_made" kl f18 d18)
  (A19:Fa K "table_of" mf f19 d19)
  (A20:Fa K "lines_at" jw f20 d20)
  (A21:Fa K "hidden_line" fo f21 d21)
  (A22:Fa K "opened_by" km f22 d22)
  (A23:Fa K "opens" uO f23 d23)
  (A24:Fa K "rows_seen" hZ f24 d24)
  (A25:Fa K "misfit" mV f25 d25)
  (A26:Fa K "told" uP f26 d26)
  (A27:Fa K "is_opened" ko f27 d27)
  (A28:Fa K "sets_below" gn f28 d28)
  (A29:Fa K "without" k7 f29 d29)
  (A30:Fa K "with_one_more" fX f30 d30)
  (A31:Fa K "is_least" jy f31 d31)
  (A32:Fa K "is_greatest" fq f32 d32)
  (A33:Fa K "open_sets" fI f33 d33)
  (A34:Fa K "bars" uQ f34 d34)
  (A35:Fa K "_law_cell" kq f35 d35)
  (A36:Fa K "_law_row" mh f36 d36)
  (A37:Fa K "_law_p" qL f37 d37)
  (A38:Fa K "_law_rule" kr f38 d38)
  (A39:Fa K "_law_fits" h8 f39 d39)
  (A40:Fa K "_law_made" ku f40 d40)
  (A41:Fa K "_law_sets" h_ f41 d41)
  (A42:Fa K "_law_sets_right" aX f42 d42)
  (A43:Fa K "law" sP f43 d43)
  (z0:PySem.W.nsIn K mainGlobals "all"=some none)
  (z1:PySem.W.nsIn K mainGlobals "any"=some none)
  (z2:PySem.W.nsIn K mainGlobals "enumerate"=some none)
  (z3:PySem.W.nsIn K mainGlobals "int"=some none)
  (z4:PySem.W.nsIn K mainGlobals "len"=some none)
  (z5:PySem.W.nsIn K mainGlobals "list"=some none)
  (z6:PySem.W.nsIn K mainGlobals "max"=some none)
  (z7:PySem.W.nsIn K mainGlobals "min"=some none)
  (z8:PySem.W.nsIn K mainGlobals "range"=some none)
  (z9:PySem.W.nsIn K mainGlobals "sorted"=some none)
  (z10:PySem.W.nsIn K mainGlobals "sum"=some none)
  (z11:PySem.W.nsIn K mainGlobals "tuple"=some none)
  (z12:PySem.W.nsIn K mainGlobals "zip"=some none)
  {tk0:Nat} (y0:PySem.W.nsIn K mainGlobals "MOST_WIDE"=some (some (.int 12 tk0)))
  {b5:Addr}
  (x0:PySem.W.nsIn K mainGlobals "TooMany"=some (some (.ref b5)))
  (x1:PySem.W.excIn K b5 [.type "ValueError",.type "Exception",.type "BaseException",.type "object"] "ValueError.__new__"=true)
  (x2:PySem.W.mroIn K b5 (.ref b5)=some true)
  : ∃fd:FuncData,(∀(s:Shared) (v:Value),BindsTo s fd ⟨[v],[]⟩ [("_law_script",v)])∧∀base:Heap,K.In base→base.Ns mainGlobals mg→i9 l.prog w K mg base CX0 20 fa fd ["_law_script"] (spD K nU 1):=by
 have e:=hfa.symm.trans (PySem.W.mg_of X G A43.a)
 cases e
 have T:Tx K mg:=⟨PySem.W.mg_none_of X G z0,PySem.W.mg_none_of X G z1,PySem.W.mg_none_of X G z2,PySem.W.mg_none_of X G z3,PySem.W.mg_none_of X G z4,PySem.W.mg_none_of X G z5,PySem.W.mg_none_of X G z6,PySem.W.mg_none_of X G z7,PySem.W.mg_none_of X G z8,PySem.W.mg_none_of X G z9,PySem.W.mg_none_of X G z10,PySem.W.mg_none_of X G z11,PySem.W.mg_none_of X G z12,⟨_,PySem.W.mg_of X G y0⟩⟩
 have Y:Ec K mg b5:=⟨PySem.W.mg_of X G x0,x0,x1,Ib x2⟩
 obtain⟨_,_,kV,dc,pm,an,cd,ct,_,e,_⟩:=id A43.F.ex
 refine⟨d43,λs v=>e ▸ .of_eq rfl,λbase _ _=>Iw (Z:=⟨l.prog,w,K,mg,base,[f0,f1,f2,f3,f4,f5,f6,f7,f8,f9,f10,f11,f12,f13,f14,f15,f16,f17,f18,f19,f20,f21,f22,f23,f24,f25,f26,f27,f28,f29,f30,f31,f32,f33,f34,f35,f36,f37,f38,f39,f40,f41,f42,fa],[d0,d1,d2,d3,d4,d5,d6,d7,d8,d9,d10,d11,d12,d13,d14,d15,d16,d17,d18,d19,d20,d21,d22,d23,d24,d25,d26,d27,d28,d29,d30,d31,d32,d33,d34,d35,d36,d37,d38,d39,d40,d41,d42,d43],b5⟩) ⟨T,Y,gf3 X G A0,gf3 X G A1,gf3 X G A2,gf4 X G A3,gf2 X G A4,gf3 X G A5,gf3 X G A6,gf2 X G A7,gf4 X G A8,gf1 X G A9,gf2 X G A10,gf1 X G A11,gf2 X G A12,gf2 X G A13,gf1 X G A14,gf1 X G A15,gf2 X G A16,gf5 X G A17,gf4 X G A18,gf2 X G A19,gf2 X G A20,gf1 X G A21,gf2 X G A22,gf2 X G A23,gf1 X G A24,gf3 X G A25,gf2 X G A26,gf2 X G A27,gf1 X G A28,gf2 X G A29,gf2 X G A30,gf2 X G A31,gf3 X G A32,gf2 X G A33,gf3 X G A34,gf2 X G A35,gf3 X G A36,gf1 X G A37,gf3 X G A38,gf2 X G A39,gf2 X G A40,gf1 X G A41,gf3 X G A42,gf1 X G A43⟩⟩
theorem walk{l:PySem.W.OpenLaw}{q:Program}{loose:List Str}{XP:(Str→Option Value)→Heap→Prop}{YP:World→Heap→Prop}{d:DefRec}{K:Params→PySem.W.Frag}(hn:l.most=some 63)(hdf:d.params.defaults=[])
  (Ln:∀ns:List Int,ns.length≤63→∃μ',nU [.val (.lst (ns.map T.int))] []=.ok (.val (.bl true)) μ')
  (hY:∀(w:World) (h:Heap),YP w h→(K w.params).In h)
  (F:∀(w:World) (mg:Str→Option Value) (fa:Addr) (h:Heap),(K w.params).In h→h.Ns mainGlobals mg→mg d.name=some (.ref fa) →
   ∃fd:FuncData,(∀(s:Shared) (u:Value),BindsTo s fd ⟨[u],[]⟩ [("_law_script",u)])∧∀base:Heap,(K w.params).In base→base.Ns mainGlobals mg→i9 l.prog w (K w.params) mg base CX0 20 fa fd ["_law_script"] (spD (K w.params) nU 1)) :
  PySem.W.WalkO q loose XP YP l.row.toRowW d [] (λf vs=>PySem.call f vs) :=
 L2.G2 (n:=63) (k:=20) (x:="_law_script") (CX:=λ_=>CX0) (sp:=λw=>spD (K w.params) nU 1) hn (by decide) hdf ⟨rfl,by decide,by decide⟩ hY F (λw H a ns hl hO hS=>Lm Ln hl hS hO) λ_ _ _ _ _ z=>z
end Fw.k34
end
namespace Fw
open PySem Fw Fw.H
theorem Mx(a b:DS)(e:Slots)(μ:af):ar a b e μ=(a e μ).seq b:=rfl
theorem My(i:Nat)(d:D)(e:Slots)(μ:af):ay i d e μ=(d e μ).toS e λx μ1=>.nx (e.set i (some x)) μ1:=rfl
theorem Mz(d:D)(e:Slots)(μ:af):aA d e μ=(d e μ).toS e λx μ1=>.rt x μ1:=rfl
theorem N7(c:D)(a b:DS)(e:Slots)(μ:af):sIf c a b e μ=(c e μ).toS e λx μ1=>(R.lift (asB x) μ1).toS e λk μ1=>if k=true then a e μ1 else b e μ1:=rfl
theorem MA(e:Slots)(μ:af):bA e μ=.nx e μ:=rfl
theorem N8(f:T→Option T)(a:D)(e:Slots)(μ:af):dUn f a e μ=(a e μ).bind λx μ1=>R.lift (ap1 f (rd μ1 x)) μ1:=rfl
theorem MB(f:T→T→Option T)(a b:D)(e:Slots)(μ:af):ah f a b e μ=(a e μ).bind λx μ1=>(b e μ1).bind λy μ2=>R.lift (ap2 f (rd μ2 x) (rd μ2 y)) μ2:=rfl
theorem MC(i:Nat)(e:Slots)(μ:af):aa i e μ=R.lift (slot e i) μ:=rfl
theorem OO(t:T)(e:Slots)(μ:af):dC t e μ=.ok (.val t) μ:=rfl
theorem LM(f:FN)(ds:List D)(e:Slots)(μ:af):ak f ds e μ=(cU ds e μ).bind λxs μ1=>f xs μ1:=rfl
theorem Iy(d:D)(ds:List D)(e:Slots)(μ:af):cU (d::ds) e μ=(d e μ).bind λx μ1=>(cU ds e μ1).bind λxs μ2=>.ok (x::xs) μ2:=rfl
theorem JH(e:Slots)(μ:af):cU [] e μ=.ok [] μ:=rfl
theorem MD(ds:List D)(e:Slots)(μ:af):cV ds e μ=(cU ds e μ).bind λxs μ1=>(c8 xs μ1).bind λts μ2=>.ok (.val (.tup ts)) μ2:=rfl
theorem ME(ds:List D)(e:Slots)(μ:af):bD ds e μ=(cU ds e μ).bind λxs μ1=>(c8 xs μ1).bind λts μ2=>.ok (.val (.lst ts)) μ2:=rfl
theorem MF(a b:D)(e:Slots)(μ:af):ax a b e μ=(a e μ).bind λx μ1=>(b e μ1).bind λy μ2=>R.lift ((rd μ2 y).bind λu=>iM μ2 x u) μ2:=rfl
theorem MG(a:D)(e:Slots)(μ:af):gz a e μ=(a e μ).bind λx μ1=>R.lift ((ny μ1 x).map SV.val) μ1:=rfl
theorem N9(f:FN)(xs:List SV)(μ:af):cal f xs μ=(f xs μ).calm:=rfl
theorem JI(x:Option SV)(e:Slots)(i:Nat):slot (x::e) (i+1)=slot e i:=rfl
theorem JJ(x:SV)(e:Slots):slot (some x::e) 0=some x:=rfl
theorem LN{α:Type}(a:α)(e:Slots)(μ:af)(f:α→af→RS):(R.ok a μ).toS e f=f a μ:=rfl
theorem N_(μ:af)(t:T):rd μ (.val t)=some t:=rfl
theorem LO(f:T→Option T)(t:T):ap1 f (some t)=(f t).map SV.val:=rfl
theorem LP(f:T→T→Option T)(t u:T):ap2 f (some t) (some u)=(f t u).map SV.val:=rfl
theorem Oa(b:Bool):asB (.val (.bl b))=some b:=rfl
theorem MH(μ:af)(t:T):frz (.val t) μ=.ok t μ:=rfl
theorem LQ(μ:af):c8 [] μ=.ok [] μ:=rfl
theorem JK(x:SV)(xs:List SV)(μ:af):c8 (x::xs) μ=(frz x μ).bind λt μ1=>(c8 xs μ1).bind λts μ2=>.ok (t::ts) μ2:=rfl
theorem JL(e:Slots)(μ:af)(f:Slots→af→RS):(RS.nx e μ).seq f=f e μ:=rfl
theorem Gx{α:Type}(a:α)(μ:af):R.lift (some a) μ=.ok a μ:=rfl
theorem JM{α β:Type}(a:α)(μ:af)(f:α→af→R β):(R.ok a μ).bind f=f a μ:=rfl
theorem JN{α:Type}(a:α)(μ:af):(R.ok a μ).calm=.ok a μ:=rfl
theorem MI(a b:D)(e:Slots)(μ:af):ij a b e μ=(a e μ).bind λx μ1=>(R.lift (asB x) μ1).bind λk μ1=>if k=true then b e μ1 else .ok (.val (.bl false)) μ1:=rfl
theorem Ob(a b:D)(e:Slots)(μ:af):dOr a b e μ=(a e μ).bind λx μ1=>(R.lift (asB x) μ1).bind λk μ1=>if k=true then .ok (.val (.bl true)) μ1 else b e μ1:=rfl
theorem MJ(a:D)(e:Slots)(μ:af):p8 a e μ=(a e μ).bind λx μ1=>(R.lift (asB x) μ1).bind λk μ1=>.ok (.val (.bl (!k))) μ1:=rfl
theorem MK(d:D)(e:Slots)(μ:af):aY d e μ=(d e μ).bind λx μ1=>(R.lift ((rd μ1 x).bind bu) μ1).bind λts μ1=>.ok ⟨ts,λμ'=>rd μ' x=rd μ1 x⟩ μ1:=rfl
theorem ML(it:DI)(b:BD)(body:DS)(e:Slots)(μ:af):bY it b body e μ=(it e μ).toS e λW μ1=>forL W.same b body W.items e μ1:=rfl
theorem MN(e:Slots):ini [] e=[]:=rfl
theorem LR(mp:List (Option Nat))(e:Slots):ini (none::mp) e=none::ini mp e:=rfl
theorem LS(j:Nat)(mp:List (Option Nat))(e:Slots):ini (some j::mp) e=slot e j::ini mp e:=rfl
theorem LU(i:Nat)(t:T)(e:Slots):aw i t e=some (e.set i (some (.val t))):=rfl
end Fw
local macro_rules
 | `(tactic| simp_all! only [$ls,*]) => do
  let mut xs:Array (Lean.TSyntax `Lean.Parser.Tactic.simpLemma):=#[]
  for n in "Mx My Mz N7 MA N8 MB MC OO LM Iy JH MD ME MF MG N9 JI JJ LN N_ LO LP Oa MH LQ JK JL Gx JM JN MI Ob MJ MK ML MN LR LS LU".splitOn " " do xs := xs.push (← `(Lean.Parser.Tactic.simpLemma| $(Lean.mkIdent (`Fw ++ n.toName)):term))
  `(tactic| try dsimp only [$(xs),*, Nat.reduceAdd, Nat.reduceSub, List.set_cons_succ, List.set_cons_zero, $ls,*])
namespace Fw.E
open PySem Fw Fw.H
structure Rw(p:Int)(L:Nat)(r:List Int):Prop where
 len:r.length=L
 lo:∀x∈r,0≤x
 hi:∀x∈r,x<p
def g(r:List Int)(k:Nat):Int:=r.getD k 0
theorem dM(x:Int)(r:List Int):g (x::r) 0=x:=by simp[g]
theorem cP(x:Int)(r:List Int)(k:Nat):g (x::r) (k+1)=g r k:=by simp[g]
theorem wN(r:List Int)(k:Nat)(h:k<r.length):g r k=r[k]:=by simp[g,h]
theorem Rw.g0{p:Int}{L:Nat}{r:List Int}(h:Rw p L r)(hp:0<p)(k:Nat):0≤g r k∧g r k<p:=by
 by_cases hk:k<r.length
 ·rw[wN r k hk];exact⟨h.lo _ (List.getElem_mem hk),h.hi _ (List.getElem_mem hk)⟩
 ·have:g r k=0:=by simp[g,Nat.le_of_not_lt hk]
  lia
def dot:List Int→List Int→Int
 | x::xs,y::ys=>x*y+dot xs ys
 | _,_=>0
@[simp] theorem OP(ys:List Int):dot [] ys=0:=by cases ys<;>rfl
@[simp] theorem Fl(ys:List Int):dot ys []=0:=by cases ys<;>rfl
@[simp] theorem bQ(x y:Int)(xs ys:List Int):dot (x::xs) (y::ys)=x*y+dot xs ys:=rfl
theorem Fm(xs ys:List Int):dot xs ys=dot ys xs:=by
 induction xs generalizing ys with
 | nil=>cases ys<;>rfl
 | cons x xs ih=>cases ys with
  | nil=>rfl
  | cons y ys=>simp[ih,Int.mul_comm]
theorem qU(c1 c2 r1 r2:List Int)(h:c1.length=r1.length):dot (c1++c2) (r1++r2)=dot c1 r1+dot c2 r2:=by
 induction c1 generalizing r1 with
 | nil=>cases r1 with
  | nil=>simp
  | cons x r1=>simp at h
 | cons x c1 ih=>cases r1 with
  | nil=>simp at h
  | cons y r1=>simp[ih r1 (by simpa using h)];lia
theorem md(x p:Int):∃t,x%p=x-p*t:=⟨x / p,Int.emod_def x p⟩
def sub(p n:Int)(row lead:List Int):List Int:=(row.zip lead).map λq=>(q.1-n*q.2)%p
theorem AH(p n:Int):∀(row lead c:List Int),row.length=lead.length→∃t,dot c (sub p n row lead)=dot c row-n*dot c lead+p*t
 | [],lead,c,h=>by cases lead with
  | nil=>exact⟨0,by simp[sub]⟩
  | cons x l=>simp at h
 | e::row,[],c,h=>by simp at h
 | e::row,o::lead,[],h=>⟨0,by simp[sub]⟩
 | e::row,o::lead,c0::c,h=>by
  obtain⟨s,hs⟩:=AH p n row lead c (by simpa using h)
  obtain⟨t,ht⟩:=md (e-n*o) p
  refine⟨s-c0*t,?_⟩
  have e1:sub p n (e::row) (o::lead)=(e-n*o)%p::sub p n row lead:=rfl
  rw[e1,bQ,bQ,bQ,hs,ht]
  grind
theorem JO(p n:Int):∀(row lead:List Int) (k:Nat),row.length=lead.length→g (sub p n row lead) k=(g row k-n*g lead k)%p
 | [],lead,k,h=>by cases lead with
  | nil=>simp[sub,g]
  | cons x l=>simp at h
 | e::row,[],k,h=>by simp at h
 | e::row,o::lead,0,h=>by simp[sub,g]
 | e::row,o::lead,k+1,h=>by
  have e1:sub p n (e::row) (o::lead)=(e-n*o)%p::sub p n row lead:=rfl
  rw[e1,cP,cP,cP]
  exact JO p n row lead k (by simpa using h)
theorem LV{p:Int}{L:Nat}{row lead:List Int}(hp:0<p)(n:Int)(h1:row.length=L)(h2:lead.length=L):Rw p L (sub p n row lead):=by
 refine⟨by simp[sub,h1,h2],λx hx=>?_,λx hx=>?_⟩
 ·obtain⟨q,_,rfl⟩:=List.mem_map.mp hx
  exact Int.emod_nonneg _ (by lia)
 ·obtain⟨q,_,rfl⟩:=List.mem_map.mp hx
  exact Int.emod_lt_of_pos _ hp
def fr(p:Int)(row lead:List Int)(q:Nat):List Int:=if g row q=0 then row else sub p (g row q) row lead
theorem Fn{p:Int}{L:Nat}{row lead:List Int}(hp:0<p)(q:Nat)(h1:Rw p L row)(h2:Rw p L lead):Rw p L (fr p row lead q):=by
 unfold fr
 split
 ·exact h1
 ·exact LV hp _ h1.len h2.len
theorem Oc{p:Int}{L:Nat}{row lead:List Int}(hp:0<p)(q k:Nat)(h1:Rw p L row)(h2:Rw p L lead):g (fr p row lead q) k=(g row k-g row q*g lead k)%p:=by
 unfold fr
 split
 ·rename_i h
  have:=h1.g0 hp k
  rw[h]
  simp
  rw[Int.emod_eq_of_lt this.1 this.2]
 ·exact JO p _ row lead k (by rw[h1.len,h2.len])
def Z(p:Int)(c r:List Int):Prop:=p ∣ dot c r
theorem Od{p:Int}{L:Nat}{row lead c:List Int}(q:Nat)(h1:Rw p L row)(h2:Rw p L lead)(hz:Z p c lead):Z p c (fr p row lead q)↔Z p c row:=by
 unfold fr
 split
 ·exact Iff.rfl
 ·obtain⟨t,ht⟩:=AH p (g row q) row lead c (by rw[h1.len,h2.len])
  obtain⟨s,hs⟩:=hz
  unfold Z
  rw[ht,hs]
  constructor
  ·rintro⟨u,hu⟩;exact⟨u+g row q*s-t,by grind⟩
  ·rintro⟨u,hu⟩;exact⟨u-g row q*s+t,by grind⟩
def tm(p n:Int)(row:List Int):List Int:=row.map λe=>n*e%p
theorem qV(p n:Int):∀(row c:List Int),∃t,dot c (tm p n row)=n*dot c row+p*t
 | [],c=>⟨0,by simp[tm]⟩
 | e::row,[]=>⟨0,by simp[tm]⟩
 | e::row,c0::c=>by
  obtain⟨s,hs⟩:=qV p n row c
  obtain⟨t,ht⟩:=md (n*e) p
  refine⟨s-c0*t,?_⟩
  have e1:tm p n (e::row)=n*e%p::tm p n row:=rfl
  rw[e1,bQ,bQ,hs,ht]
  grind
theorem Oe(p n:Int)(row:List Int)(k:Nat):g (tm p n row) k=n*g row k%p:=by
 induction row generalizing k with
 | nil=>simp[tm,g]
 | cons e row ih =>
  have e1:tm p n (e::row)=n*e%p::tm p n row:=rfl
  cases k with
  | zero=>rw[e1,dM,dM]
  | succ k=>rw[e1,cP,cP];exact ih k
theorem AI{p:Int}{L:Nat}{row:List Int}(hp:0<p)(n:Int)(h:row.length=L):Rw p L (tm p n row):=by
 refine⟨by simp[tm,h],λx hx=>?_,λx hx=>?_⟩
 ·obtain⟨q,_,rfl⟩:=List.mem_map.mp hx
  exact Int.emod_nonneg _ (by lia)
 ·obtain⟨q,_,rfl⟩:=List.mem_map.mp hx
  exact Int.emod_lt_of_pos _ hp
def Inv(p n a:Int):Prop:=n*a%p=1%p
theorem Pu{p n a:Int}(row c:List Int)(hi:Inv p n a):Z p c (tm p n row)↔Z p c row:=by
 obtain⟨t,ht⟩:=qV p n row c
 unfold Z
 rw[ht]
 constructor
 ·rintro⟨u,hu⟩
  obtain⟨m1,e1⟩:=md (n*a) p
  obtain⟨m2,e2⟩:=md 1 p
  have e3:n*a-p*m1=1-p*m2:=by rw[← e1,← e2];exact hi
  exact⟨a*(u-t)+(m2-m1)*dot c row,by grind⟩
 ·rintro⟨u,hu⟩;exact⟨n*u+t,by grind⟩
theorem Of{p:Int}(h:gg p)(r:Int)(h1:1<r)(h2:r<p):p%r≠0:=by
 have hb:=h.pos
 have key:∀p∈([2,3,5,7,11,13,17,19,23,29,31,37,41,43,47,53,59,61,67,71,73,79,83,89,97]:List Int),∀r:Nat,r<97→1<r→(r:Int)<p→p%(r:Int)≠0:=by decide +kernel
 have:=key p h r.toNat (by lia) (by lia) (by lia)
 rwa [show(r.toNat:Int)=r by lia] at this
abbrev Ld:=Nat×List Int
def frees(p:Int)(ls:List Ld)(row:List Int):List Int:=ls.foldl (λr q=>fr p r q.2 q.1) row
structure lq(p:Int)(L m:Nat)(ls:List Ld)(ns:List (List Int))(rows:List (List Int)):Prop where
 nd:(ls.map (·.1)).Nodup
 key:∀q∈ls,q.1<m
 rl:∀q∈ls,Rw p L q.2
 rn:∀r∈ns,Rw p L r
 one:∀q∈ls,g q.2 q.1=1
 off:∀q∈ls,∀q'∈ls,q'.1≠q.1→g q.2 q'.1=0
 no:∀r∈ns,∀j,j<m→g r j=0
 eq:∀c,(∀r∈rows,Z p c r)↔((∀q∈ls,Z p c q.2)∧∀r∈ns,Z p c r)
theorem lq.start(p:Int)(L m:Nat):lq p L m [] [] []:=⟨by simp,by simp,by simp,by simp,by simp,by simp,by simp,by simp⟩
theorem wO{p:Int}{L:Nat}{ls:List Ld}(hp:1<p)(rl:∀q∈ls,Rw p L q.2)(one:∀q∈ls,g q.2 q.1=1)(off:∀q∈ls,∀q'∈ls,q'.1≠q.1→g q.2 q'.1=0) :
  ∀(l D:List Ld) (row:List Int),(∀q∈l,q∈ls)→(∀q∈D,q∈ls)→Rw p L row→(∀q∈D,g row q.1=0) →
   Rw p L (frees p l row)∧(∀q∈D++l,g (frees p l row) q.1=0)∧∀c,(∀q∈l,Z p c q.2)→(Z p c (frees p l row)↔Z p c row)
 | [],D,row,_,_,hr,hd=>⟨hr,λq hq=>hd q (by simpa using hq),λc _=>Iff.rfl⟩
 | a::l,D,row,hl,hD,hr,hd=>by
  have ha:a∈ls:=hl a (by simp)
  have r1:=Fn (by lia) a.1 hr (rl a ha)
  have hg:∀k,g (fr p row a.2 a.1) k=(g row k-g row a.1*g a.2 k)%p:=λk=>Oc (by lia) a.1 k hr (rl a ha)
  have h1:g (fr p row a.2 a.1) a.1=0:=by rw[hg,one a ha];simp
  obtain⟨i1,i2,i3⟩:=wO hp rl one off l (D++[a]) (fr p row a.2 a.1) (λq hq=>hl q (by simp[hq])) (λq hq=>by
   rcases List.mem_append.mp hq with h|h
   ·exact hD q h
   ·simp at h;subst h;exact ha) r1 (λq hq=>by
   rcases List.mem_append.mp hq with h|h
   ·by_cases e:q.1=a.1
    ·rw[e];exact h1
    ·rw[hg,hd q h,off a ha q (hD q h) e];simp
   ·simp at h;subst h;exact h1)
  refine⟨i1,λq hq=>i2 q (by simpa using hq),λc hc=>?_⟩
  exact(i3 c λq hq=>hc q (by simp[hq])).trans (Od a.1 hr (rl a ha) (hc a (by simp)))
theorem lq.rest{p:Int}{L m:Nat}{ls:List Ld}{ns rows:List (List Int)}{row:List Int}(hp:1<p)(E:lq p L m ls ns rows)(hr:Rw p L row) :
  Rw p L (frees p ls row)∧(∀q∈ls,g (frees p ls row) q.1=0)∧∀c,(∀q∈ls,Z p c q.2)→(Z p c (frees p ls row)↔Z p c row):=by
 obtain⟨h1,h2,h3⟩:=wO hp E.rl E.one E.off ls [] row (λq h=>h) (by simp) hr (by simp)
 exact⟨h1,by simpa using h2,h3⟩
theorem lq.LW{p:Int}{L m:Nat}{ls:List Ld}{ns rows:List (List Int)}{row:List Int}(hp:1<p)(E:lq p L m ls ns rows)(hr:Rw p L row)(h0:∀j,j<m→g (frees p ls row) j=0) :
  lq p L m ls (ns++[frees p ls row]) (rows++[row]):=by
 obtain⟨h1,h2,h3⟩:=E.rest hp hr
 refine⟨E.nd,E.key,E.rl,λr h=>?_,E.one,E.off,λr h j hj=>?_,λc=>?_⟩
 ·rcases List.mem_append.mp h with h|h
  ·exact E.rn r h
  ·simp at h;subst h;exact h1
 ·rcases List.mem_append.mp h with h|h
  ·exact E.no r h j hj
  ·simp at h;subst h;exact h0 j hj
 ·constructor
  ·intro h
   have a:=(E.eq c).mp λr hr=>h r (by simp[hr])
   refine⟨a.1,λr hr=>?_⟩
   rcases List.mem_append.mp hr with hr|hr
   ·exact a.2 r hr
   ·simp at hr;subst hr;exact(h3 c a.1).mpr (h row (by simp))
  ·rintro⟨a,b⟩ r hr
   rcases List.mem_append.mp hr with hr|hr
   ·exact(E.eq c).mpr ⟨a,λr h=>b r (by simp[h])⟩ r hr
   ·simp at hr;subst hr;exact(h3 c a).mp (b _ (by simp))
def led(p:Int)(ls:List Ld)(fresh:List Int)(f:Nat):List Ld:=ls.map λq=>(q.1,fr p q.2 fresh f)
theorem lq.lead{p:Int}{L m:Nat}{ls:List Ld}{ns rows:List (List Int)}{row:List Int}{n:Int}{f:Nat}(hp:1<p)(E:lq p L m ls ns rows)(hr:Rw p L row)(hf:f<m)(h0:g (frees p ls row) f≠0)(hi:Inv p n (g (frees p ls row) f)) :
  lq p L m (led p ls (tm p n (frees p ls row)) f++[(f,tm p n (frees p ls row))]) ns (rows++[row]):=by
 obtain⟨h1,h2,h3⟩:=E.rest hp hr
 have k1:Rw p L (tm p n (frees p ls row)):=AI (by lia) n h1.len
 have kz:∀c,Z p c (tm p n (frees p ls row))↔Z p c (frees p ls row):=λc=>Pu _ c hi
 have kf:g (tm p n (frees p ls row)) f=1:=by
  rw[Oe]
  have:n*g (frees p ls row) f%p=1%p:=hi
  rw[this]
  exact Int.emod_eq_of_lt (by lia) hp
 have k0:∀q∈ls,g (tm p n (frees p ls row)) q.1=0:=λq hq=>by rw[Oe,h2 q hq];simp
 generalize tm p n (frees p ls row)=u at k1 kz kf k0
 have fne:∀q∈ls,q.1≠f:=λq hq e=>h0 (by rw[← e];exact h2 q hq)
 have hg:∀q∈ls,∀k,g (fr p q.2 u f) k=(g q.2 k-g q.2 f*g u k)%p:=λq hq k=>Oc (by lia) f k (E.rl q hq) k1
 have mem:∀q,q∈led p ls u f++[(f,u)]→(∃q0∈ls,q=(q0.1,fr p q0.2 u f))∨q=(f,u):=λq hq=>by
  rcases List.mem_append.mp hq with h|h
  ·obtain⟨q0,h1,h2⟩:=List.mem_map.mp h
   exact .inl ⟨q0,h1,h2.symm⟩
  ·simp at h;exact .inr h
 have up:∀q0∈ls,(q0.1,fr p q0.2 u f)∈led p ls u f++[(f,u)]:=λq0 h=>List.mem_append_left _ (List.mem_map.mpr ⟨q0,h,rfl⟩)
 refine⟨?_,λq hq=>?_,λq hq=>?_,E.rn,λq hq=>?_,λq hq q' hq' hne=>?_,E.no,λc=>?_⟩
 ·have e1:(led p ls u f++[(f,u)]).map (·.1)=ls.map (·.1)++[f]:=by simp[led]
  rw[e1,List.nodup_append]
  refine⟨E.nd,by simp,λa ha b hb=>?_⟩
  simp at hb
  obtain⟨q,hq,rfl⟩:=List.mem_map.mp ha
  rw[hb]
  exact fne q hq
 ·rcases mem q hq with ⟨q0,h,rfl⟩|rfl
  ·exact E.key q0 h
  ·exact hf
 ·rcases mem q hq with ⟨q0,h,rfl⟩|rfl
  ·exact Fn (by lia) f (E.rl q0 h) k1
  ·exact k1
 ·rcases mem q hq with ⟨q0,h,rfl⟩|rfl
  ·show g (fr p q0.2 u f) q0.1=1
   rw[hg q0 h,E.one q0 h,k0 q0 h]
   simp
   exact Int.emod_eq_of_lt (by lia) hp
  ·exact kf
 ·rcases mem q hq with ⟨q0,h,rfl⟩|rfl
  ·show g (fr p q0.2 u f) q'.1=0
   rcases mem q' hq' with ⟨q1,h',rfl⟩|rfl
   ·have hne:q1.1≠q0.1:=hne
    show g (fr p q0.2 u f) q1.1=0
    rw[hg q0 h,E.off q0 h q1 h' hne,k0 q1 h']
    simp
   ·show g (fr p q0.2 u f) f=0
    rw[hg q0 h,kf]
    simp
  ·rcases mem q' hq' with ⟨q1,h',rfl⟩|rfl
   ·exact k0 q1 h'
   ·exact absurd rfl hne
 ·have key:∀q0∈ls,Z p c u→(Z p c (fr p q0.2 u f)↔Z p c q0.2):=λq0 h hz=>Od f (E.rl q0 h) k1 hz
  constructor
  ·intro h
   have a:=(E.eq c).mp λr hr=>h r (by simp[hr])
   have hz:Z p c u:=(kz c).mpr ((h3 c a.1).mpr (h row (by simp)))
   refine⟨λq hq=>?_,a.2⟩
   rcases mem q hq with ⟨q0,h',rfl⟩|rfl
   ·exact(key q0 h' hz).mpr (a.1 q0 h')
   ·exact hz
  ·rintro⟨a,b⟩ r hr
   have hz:Z p c u:=a (f,u) (by simp)
   have al:∀q∈ls,Z p c q.2:=λq hq=>(key q hq hz).mp (a _ (up q hq))
   rcases List.mem_append.mp hr with hr|hr
   ·exact(E.eq c).mpr ⟨al,b⟩ r hr
   ·simp at hr;subst hr
    exact(h3 c al).mp ((kz c).mp hz)
def jn:DS :=
 (ar (ay 3 (ah a8 (aa 2) (aa 0)))
 (ar (sIf (ah fEq (aa 3) (dC (.int 0))) ug bA)
 (ar (ay 4 (ah a8 (aa 1) (aa 0)))
 (ar (ka (ah fNe (aa 3) (dC (.int 1))) (ar (ay 4 (ah a8 (ah bJ (dUn DJ (aa 4)) (ah gO (aa 0) (aa 3))) (aa 0)))
 (ay 3 (ah a8 (aa 0) (aa 3)))))
 (aA (aa 4))))))
def gi:DS :=
 (aA (aF (aY (aa 2)) [none,some 0,some 1] (aw 0) (dC (.bl true)) (ah a8 (ah bJ (aa 2) (aa 0)) (aa 1))))
def dS:DS :=
 (ar (ay 4 (ax (aa 1) (aa 3)))
 (ar (sIf (ah fEq (aa 4) (dC (.int 0))) (aA (aa 1)) bA)
 (aA (aF (uj (aa 1) (aa 2)) [none,none,some 0,some 4] (dg [0,1]) (dC (.bl true)) (ah a8 (ah oV (aa 0) (ah bJ (aa 3) (aa 1))) (aa 2))))))
def bW:DS :=
 (ar (bY (aQ (aa 1)) (aw 2) (sIf (ah fNe (ax (aa 0) (aa 2)) (dC (.int 0))) (aA (aa 2)) bA))
 (aA (dC (.non))))
def jq:DS :=
 (ar (ay 3 (br (dC (.dct []))))
 (ar (ay 4 (br (bD [])))
 (ar (bY (aY (aa 1)) (aw 5) (ar (ay 6 (aa 5))
 (ar (bY (jk (aa 3)) (dg [7,8]) (ay 6 (ak (cal (fnV 5 dS)) [(aa 0),(aa 6),(aa 8),(aa 7)])))
 (ar (ay 9 (ak (cal (fnV 3 bW)) [(aa 6),(aa 2)]))
 (sIf (dUn jO (aa 9)) (cf (aa 4) (aa 6)) (ar (ay 10 (ak (cal (fnV 3 gi)) [(aa 0),(ak (cal (fnV 5 jn)) [(aa 0),(dC (.int 1)),(ax (aa 6) (aa 9))]),(aa 6)]))
 (ar (bY (aY (dUn vO (aa 3))) (aw 7) (lu 3 (aa 7) (ak (cal (fnV 5 dS)) [(aa 0),(ah oF (aa 3) (aa 7)),(aa 10),(aa 9)])))
 (lu 3 (aa 9) (aa 10)))))))))
 (aA (cV [(aa 3),(aa 4)])))))
abbrev li(r:List Int):T:=.lst (r.map T.int)
theorem pO{p:Int}(hP:gg p)(one other:Int)(μ:af)(h0:other%p≠0) :
  ∃y,fnV 5 jn [.val (.int p),.val (.int one),.val (.int other)] μ=.ok (.val (.int y)) μ∧0≤y∧y<p∧(y*other-one)%p=0:=by
 have hb:=hP.pos
 have hp0:0<p:=Int.lt_of_lt_of_le (by decide) hb.1
 unfold jn
 have hp:0<p:=by lia
 have z:(other%p==0)=false:=by simpa using h0
 (try simp_all! only[]);simp[hp,z]
 have r0:=Int.emod_nonneg other (Int.ne_of_gt hp0)
 have r1:=Int.emod_lt_of_pos other hp
 refine ya (P:=λr=>∃y,RS.qf μ.length (r.seq (aA (aa 4)))=R.ok (SV.val (T.int y)) μ∧0≤y∧y<p∧(y*other-one)%p=0) ?_
  (λn e μ'=>μ'=μ∧∃rest told:Int,e=[some (.val (.int p)),some (.val (.int one)),some (.val (.int other)),some (.val (.int rest)),some (.val (.int told))]∧rest.toNat=n∧1≤rest∧rest<p∧0≤told∧told<p∧∃t,told*other=one*rest+p*t) ?_ (other%p).toNat _ _ ?_
 ·rintro⟨y,h,_⟩;cases h
 ·rintro m e μ' ⟨rfl,rest,told,rfl,hm,q1,q2,q3,q4,t,ht⟩
  by_cases e1:rest=1
  ·subst e1
   refine⟨false,μ',by simp,?_⟩
   rw[if_neg (by simp)]
   refine⟨told,by simp,q3,q4,?_⟩
   rw[ht]
   simp
   exact Int.emod_eq_zero_of_dvd ⟨t,by lia⟩
  ·refine⟨true,μ',by simp[e1],?_⟩
   rw[if_pos rfl]
   have d1:0≤p / rest:=Int.ediv_nonneg (by lia) (by lia)
   have d2:p / rest≤p:=Int.ediv_le_self _ (by lia)
   have hm2:bJ (.int (-told)) (.int (p / rest))=some (.int (-told*(p / rest))):=kO _ _ (by lia) (by lia)
   have hr:0<rest:=by lia
   have hr2:rest<1073741824:=by lia
   (try simp_all! only[]);simp[hp,hr,hr2,hm2]
   have m0:=Int.emod_nonneg p (show rest≠0 by lia)
   have m1:=Int.emod_lt_of_pos p hr
   have m2:=Of hP rest (by lia) q2
   have t0:=Int.emod_nonneg (-told*(p / rest)) (Int.ne_of_gt hp0)
   have t1:=Int.emod_lt_of_pos (-told*(p / rest)) hp
   refine⟨(p%rest).toNat,by lia,p%rest,-told*(p / rest)%p,⟨rfl,rfl⟩,rfl,by lia,by lia,t0,t1,?_⟩
   obtain⟨u,hu⟩:=md (-told*(p / rest)) p
   have e3:p%rest=p-rest*(p / rest):=Int.emod_def p rest
   rw[hu,e3]
   refine⟨-(u*other)-(p / rest)*t-one,?_⟩
   generalize p / rest=d
   grind
 ·have b0:=Int.emod_nonneg one (Int.ne_of_gt hp0)
  have b1:=Int.emod_lt_of_pos one hp
  refine⟨rfl,_,_,rfl,rfl,by lia,r1,b0,b1,?_⟩
  obtain⟨u,hu⟩:=md one p
  obtain⟨v,hv⟩:=md other p
  exact⟨one*v-u*other,by rw[hu,hv];grind⟩
theorem wQ{p:Int}{L:Nat}(hp:0<p)(hp2:p<1000000)(n:Int)(r:List Int)(μ:af)(h:Rw p L r)(hl:L≤1000) :
  fnV 3 gi [.val (.int p),.val (.int n),.val (li r)] μ=.ok (.val (li (tm p n r))) μ:=by
 unfold gi
 simp
 rw[b4 _ (λe:Int=>.int (n*e%p)) (by simp)]
 ·rw[R.bE,R.aL,if_pos (by have:=h.len;simp[szL];lia)]
  (try simp_all! only[]);simp[tm,Function.comp_def]
 ·intro e he
  have h1:=h.lo e he
  have h2:=h.hi e he
  refine⟨_,rfl,?_⟩
  have:bJ (.int n) (.int e)=some (.int (n*e)):=ud _ _ (by lia) (by lia)
  (try simp_all! only[]);simp[this,hp]
theorem atg{r:List Int}{k:Int}(h0:0≤k)(h1:k<r.length):atI (r.map T.int) k=some (.int (g r k.toNat)):=by
 rw[ji h0 h1,wN r k.toNat (by lia)]
theorem wR{p:Int}{L:Nat}(hp:0<p)(hp2:p<1000000)(q:Nat)(row lead:List Int)(μ:af)(h1:Rw p L row)(h2:Rw p L lead)(hl:L≤1000)(hq:q<L) :
  fnV 5 dS [.val (.int p),.val (li row),.val (li lead),.val (.int q)] μ=.ok (.val (li (fr p row lead q))) μ:=by
 unfold dS
 have ha:atI (row.map T.int) (q:Int)=some (.int (g row q)):=atg (by lia) (by have:=h1.len;lia)
 simp[ha]
 by_cases e:g row q=0
 ·simp[e,fr]
 ·have e':(g row q==0)=false:=by simpa using e
  simp[e,e']
  rw[sF,b4 _ (λz:Int×Int=>.int ((z.1-g row q*z.2)%p)) (by simp)]
  ·rw[R.bE,R.aL,if_pos (by have:=h1.len;simp[szL];lia)]
   (try simp_all! only[]);simp[fr,e,sub,Function.comp_def]
  ·rintro⟨x,y⟩ hz
   have b:=h1.g0 hp q
   refine⟨_,rfl,?_⟩
   have:bJ (.int (g row q)) (.int y)=some (.int (g row q*y)):=kO _ _ (by lia) (by lia)
   simp[this,hp]
theorem Fo{p:Int}{L m:Nat}(r:List Int)(μ:af)(h:Rw p L r)(hm:m≤L)(hl:L≤1000) :
  (fnV 3 bW [.val (li r),.val (.int m)] μ=.ok (.val .non) μ∧∀j,j<m→g r j=0) ∨
  ∃f:Nat,fnV 3 bW [.val (li r),.val (.int m)] μ=.ok (.val (.int f)) μ∧f<m∧g r f≠0:=by
 unfold bW
 simp (disch:=lia)
 refine iR (P:=λx=>(RS.qf μ.length (x.seq (aA (dC .non)))=R.ok (SV.val .non) μ∧∀j,j<m→g r j=0)∨∃f:Nat,RS.qf μ.length (x.seq (aA (dC .non)))=R.ok (SV.val (.int f)) μ∧f<m∧g r f≠0)
  (λi e μ'=>μ'=μ∧(∀j,j<i→g r j=0)∧∃x,e=[some (.val (li r)),some (.val (.int m)),x]) (λ_ _ _ _=>trivial) ?_ ?_ ⟨rfl,by simp,none,rfl⟩
 ·rintro i t e μ' ht ⟨rfl,hz,x,rfl⟩
  obtain⟨hi,rfl⟩:=mO ht
  refine⟨_,rfl,?_⟩
  have hi':i<m:=by lia
  have ha:atI (r.map T.int) ((0:Int)+i)=some (.int (g r i)):=by
   have:=atg (r:=r) (k:=(0:Int)+i) (by lia) (by have:=h.len;lia)
   rwa [show((0:Int)+i).toNat=i by lia] at this
  simp at ha
  (try simp_all! only[]);simp[ha]
  by_cases e:g r i=0
  ·(try simp_all! only[]);simp[e]
   intro j hj
   by_cases ej:j=i
   ·rw[ej];exact e
   ·exact hz j (by lia)
  ·have e':(g r i==0)=false:=by simpa using e
   (try simp_all! only[]);simp[e,e']
   exact⟨i,rfl,hi',e⟩
 ·rintro e μ' ⟨rfl,hz,x,rfl⟩
  left
  refine⟨by simp,?_⟩
  rw[cD] at hz
  intro j hj
  exact hz j (by lia)
def dk(ls:List Ld):List (Key×T):=ls.map λq=>((.inl (q.1:Int):Key),li q.2)
theorem nX(a b:List Ld):dk (a++b)=dk a++dk b:=by simp[dk]
theorem Fp(a:List Ld):(dk a).length=a.length:=by simp[dk]
theorem sW{ls:List Ld}{i:Nat}{t:T}(h:(ed (dk ls))[i]?=some t):∃q,ls[i]?=some q∧i<ls.length∧t=.tup [.int (q.1:Int),li q.2]:=by
 unfold ed dk at h
 rw[List.map_map,List.getElem?_map] at h
 obtain⟨q,h1,rfl⟩:=Option.map_eq_some_iff.mp h
 exact⟨q,h1,(List.getElem?_eq_some_iff.mp h1).1,rfl⟩
theorem zf(p:Int)(ls:List Ld)(row:List Int)(i:Nat)(q:Ld)(h:ls[i]?=some q):frees p (ls.take (i+1)) row=fr p (frees p (ls.take i) row) q.2 q.1:=by
 unfold frees
 rw[List.take_add_one,h]
 simp
theorem wU{p:Int}{L:Nat}(hp:0<p):∀(ls:List Ld) (row:List Int),(∀q∈ls,Rw p L q.2)→Rw p L row→Rw p L (frees p ls row)
 | [],row,_,h=>h
 | q::ls,row,hq,h=>wU hp ls _ (λq' h'=>hq q' (by simp[h'])) (Fn hp q.1 h (hq q (by simp)))
theorem Iz{ls:List Ld}{q:Ld}(hn:(ls.map (·.1)).Nodup)(h:q∈ls):oW (dk ls) (.inl (q.1:Int))=some (li q.2):=by
 induction ls with
 | nil=>simp at h
 | cons a ls ih =>
  have hn':(a.1::ls.map (·.1)).Nodup:=hn
  obtain⟨h1,h2⟩:=List.nodup_cons.mp hn'
  have e:dk (a::ls)=((.inl (a.1:Int):Key),li a.2)::dk ls:=rfl
  rw[e]
  unfold oW
  rw[List.find?_cons]
  by_cases ea:a.1=q.1
  ·have:q=a:=by
    rcases List.mem_cons.mp h with h|h
    ·exact h
    ·exact absurd (List.mem_map.mpr ⟨q,h,ea.symm⟩) h1
   subst this
   simp
  ·have hne:¬ ((Sum.inl (a.1:Int):Key)=.inl (q.1:Int)):=λz=>ea (by have:=Sum.inl.inj z;lia)
   have:q∈ls:=by
    rcases List.mem_cons.mp h with h|h
    ·subst h;exact absurd rfl ea
    ·exact h
   simp only[hne,decide_false]
   exact ih h2 this
theorem Fq(ls:List Ld)(f:Nat):((dk ls).any λkv=>decide (kv.1=(.inl (f:Int):Key)))=ls.any λq=>decide (q.1=f):=by
 unfold dk
 rw[List.any_map]
 congr 1
 funext q
 show decide ((Sum.inl (q.1:Int):Key)=.inl (f:Int))=decide (q.1=f)
 by_cases e:q.1=f
 ·simp[e]
 ·have:¬ ((Sum.inl (q.1:Int):Key)=.inl (f:Int)):=λz=>e (by have:=Sum.inl.inj z;lia)
  simp[e,this]
theorem Fs{ls:List Ld}{f:Nat}(r:List Int)(h:∀q∈ls,q.1≠f):ur (dk ls) (.inl (f:Int)) (li r)=dk (ls++[(f,r)]):=by
 unfold ur
 rw[Fq,if_neg,nX]
 ·rfl
 ·intro hc
  obtain⟨q,hq,e⟩:=List.any_eq_true.mp hc
  exact h q hq (of_decide_eq_true e)
theorem Ft{a b:List Ld}{q:Ld}(r:List Int)(hn:((a++q::b).map (·.1)).Nodup):ur (dk (a++q::b)) (.inl (q.1:Int)) (li r)=dk (a++(q.1,r)::b):=by
 unfold ur
 rw[Fq,if_pos (List.any_eq_true.mpr ⟨q,by simp,by simp⟩)]
 have ne:∀x∈a++b,¬ ((Sum.inl (x.1:Int):Key)=.inl (q.1:Int)):=λx hx z=>by
  have e:x.1=q.1:=by have:=Sum.inl.inj z;lia
  rw[List.map_append,List.nodup_append] at hn
  obtain⟨_,n2,n3⟩:=hn
  rcases List.mem_append.mp hx with h|h
  ·exact n3 x.1 (List.mem_map.mpr ⟨x,h,rfl⟩) q.1 (by simp) e
  ·have n2':(q.1::b.map (·.1)).Nodup:=n2
   exact(List.nodup_cons.mp n2').1 (List.mem_map.mpr ⟨x,h,e⟩)
 have same:∀l:List Ld,(∀x∈l,x∈a++b)→(dk l).map (λkv=>if kv.1=(.inl (q.1:Int):Key) then (kv.1,li r) else kv)=dk l:=λl hl=>by
  unfold dk
  rw[List.map_map]
  refine List.map_congr_left λx hx=>?_
  show(if (Sum.inl (x.1:Int):Key)=.inl (q.1:Int) then _ else _)=_
  rw[if_neg (ne x (hl x hx))]
 rw[nX,List.map_append,same a (λx h=>by simp[h]),nX]
 congr 1
 show(if (Sum.inl (q.1:Int):Key)=.inl (q.1:Int) then _ else _)::(dk b).map _=_
 rw[if_pos rfl,same b (λx h=>by simp[h])]
 rfl
section
variable{p:Int}{L m:Nat}
theorem LX(hP:gg p)(hl:L≤1000)(hmL:m≤L){ls:List Ld}{row:List Int}(hk:∀q∈ls,q.1<m)(rl:∀q∈ls,Rw p L q.2)(hr:Rw p L row)(same:af→Prop)(μ:af)(hs:same μ)(x1 x2 x3 x4 x5 x7 x8 x9 x10:Option SV) :
  ∃y7 y8,forL same (dg [7,8]) (ay 6 (ak (cal (fnV 5 dS)) [(aa 0),(aa 6),(aa 8),(aa 7)])) (ed (dk ls)) [some (.val (.int p)),x1,x2,x3,x4,x5,some (.val (li row)),x7,x8,x9,x10] μ =
   .nx [some (.val (.int p)),x1,x2,x3,x4,x5,some (.val (li (frees p ls row))),y7,y8,x9,x10] μ:=by
 have hb:=hP.pos
 have hp0:0<p:=Int.lt_of_lt_of_le (by decide) hb.1
 obtain⟨e',μ',h1,y7,y8,h2,h3⟩:=eJ (same:=same) (b:=dg [7,8]) (body:=ay 6 (ak (cal (fnV 5 dS)) [(aa 0),(aa 6),(aa 8),(aa 7)])) (ts:=ed (dk ls))
  (e:=[some (.val (.int p)),x1,x2,x3,x4,x5,some (.val (li row)),x7,x8,x9,x10]) (μ:=μ)
  (λi e μ'=>∃y7 y8,μ'=μ∧e=[some (.val (.int p)),x1,x2,x3,x4,x5,some (.val (li (frees p (ls.take i) row))),y7,y8,x9,x10])
  (λi e μ' au=>by obtain⟨_,_,h,_⟩:=au;rw[h];exact hs) (λi t e μ' ht cK=>by
   obtain⟨y7,y8,hμ,he⟩:=cK
   subst hμ he
   obtain⟨q,hq,hi,rfl⟩:=sW ht
   have hm:q∈ls:=List.mem_of_getElem? hq
   have hf:=wR (p:=p) (L:=L) (by lia) (by lia) q.1 (frees p (ls.take i) row) q.2 μ' (wU (by lia) _ _ (λq' h'=>rl q' (List.mem_of_mem_take h')) hr) (rl q hm) hl (by have:=hk q hm;lia)
   refine⟨_,_,_,eh _ _ _ _ _,?_,some (.val (.int q.1)),some (.val (li q.2)),rfl,rfl⟩
   rw[zf p ls row i q hq]
   simp only[ja,fw,bg,c9,cX,List.set_cons_succ,List.set_cons_zero,cu,cq,R.aP,R.aL,j4]
   rw[hf]
   rfl) ⟨x7,x8,rfl,rfl⟩
 refine⟨y7,y8,?_⟩
 rw[h1,h2,h3]
 have:(ed (dk ls)).length=ls.length:=by simp[ed,dk]
 rw[this,List.take_length]
theorem Fu(u:List Int)(f:Nat)(ls:List Ld)(i:Nat)(q:Ld)(h:ls[i]?=some q):led p (ls.take (i+1)) u f=led p (ls.take i) u f++[(q.1,fr p q.2 u f)]:=by
 unfold led
 rw[List.take_add_one,h]
 simp
theorem Fv{ls:List Ld}{i:Nat}{t:T}(h:((dk ls).map λp=>vN p.1)[i]?=some t):∃q,ls[i]?=some q∧i<ls.length∧t=.int (q.1:Int):=by
 unfold dk at h
 rw[List.map_map,List.getElem?_map] at h
 obtain⟨q,h1,rfl⟩:=Option.map_eq_some_iff.mp h
 exact⟨q,h1,(List.getElem?_eq_some_iff.mp h1).1,rfl⟩
theorem LY(hP:gg p)(hl:L≤1000)(hmL:m≤L){ls:List Ld}{u:List Int}{f:Nat}(hn:(ls.map (·.1)).Nodup)(hf:f<m)(rl:∀q∈ls,Rw p L q.2)(hu:Rw p L u)(hsz:ls.length<szL)(same:af→Prop)(hs:∀μ,same μ)(μ tl:af)(x1 x2 x4 x5 x6 x7 x8:Option SV) :
  ∃y7,forL same (aw 7) (lu 3 (aa 7) (ak (cal (fnV 5 dS)) [(aa 0),(ah oF (aa 3) (aa 7)),(aa 10),(aa 9)])) ((dk ls).map λp=>vN p.1)
   [some (.val (.int p)),x1,x2,some (.cel μ.length),x4,x5,x6,x7,x8,some (.val (.int f)),some (.val (li u))] (μ++(true,.dct (dk ls))::tl) =
   .nx [some (.val (.int p)),x1,x2,some (.cel μ.length),x4,x5,x6,y7,x8,some (.val (.int f)),some (.val (li u))] (μ++(true,.dct (dk (led p ls u f)))::tl):=by
 have hb:=hP.pos
 have hp0:0<p:=Int.lt_of_lt_of_le (by decide) hb.1
 obtain⟨e',μ',h1,y7,h2,h3⟩:=eJ (same:=same) (b:=aw 7) (body:=lu 3 (aa 7) (ak (cal (fnV 5 dS)) [(aa 0),(ah oF (aa 3) (aa 7)),(aa 10),(aa 9)])) (ts:=(dk ls).map λp=>vN p.1)
  (e:=[some (.val (.int p)),x1,x2,some (.cel μ.length),x4,x5,x6,x7,x8,some (.val (.int f)),some (.val (li u))]) (μ:=μ++(true,.dct (dk ls))::tl)
  (λi e μ'=>∃y7,μ'=μ++(true,.dct (dk (led p (ls.take i) u f++ls.drop i)))::tl∧e=[some (.val (.int p)),x1,x2,some (.cel μ.length),x4,x5,x6,y7,x8,some (.val (.int f)),some (.val (li u))])
  (λi e μ' _=>hs μ') (λi t e μ' ht au=>by
   obtain⟨y7,hμ,he⟩:=au
   subst hμ he
   obtain⟨q,hq,hi,rfl⟩:=Fv ht
   have hm:q∈ls:=List.mem_of_getElem? hq
   have hd:ls.drop i=q::ls.drop (i+1):=by
    rw[List.drop_eq_getElem_cons hi]
    congr 1
    rw[List.getElem?_eq_getElem hi] at hq
    exact Option.some.inj hq
   have JP:(led p (ls.take i) u f++q::ls.drop (i+1)).map (·.1)=ls.map (·.1):=by
    rw[← hd,List.map_append]
    have:(led p (ls.take i) u f).map (·.1)=(ls.take i).map (·.1):=by unfold led;rw[List.map_map];rfl
    rw[this,← List.map_append,List.take_append_drop]
   have hnd:((led p (ls.take i) u f++q::ls.drop (i+1)).map (·.1)).Nodup:=by rw[JP];exact hn
   have hlen:(dk (led p (ls.take i) u f++q::ls.drop (i+1))).length<szL:=by
    have:=congrArg List.length JP
    simp only[List.length_map] at this
    rw[Fp,this];exact hsz
   have hv:=Iz hnd (q:=q) (by simp)
   have hfr:=wR (p:=p) (L:=L) (by lia) (by lia) f q.2 u (μ++(true,.dct (dk (led p (ls.take i) u f++q::ls.drop (i+1))))::tl) (rl q hm) hu hl (by lia)
   rw[hd]
   refine⟨_,_,_,j_ _ _ _,?_,some (.val (.int q.1)),rfl,rfl⟩
   rw[Fu u f ls i q hq,List.append_assoc,List.singleton_append,← Ft (fr p q.2 u f) hnd]
   simp only[qr,fw,bg,c9,cX,List.set_cons_succ,List.set_cons_zero,cu,cq,R.aP,R.aL,R.toS_ok,j4,gf,ir,fL,gX,Option.map_some,j3,BV,hv]
   rw[hfr]
   simp only[R.bE,R.toS_ok,mC]
   rw[sH (kts:=dk (led p (ls.take i) u f++q::ls.drop (i+1))) (by simp) hlen]
   simp) ⟨x7,by simp[led],rfl⟩
 refine⟨y7,?_⟩
 rw[h1,h2,h3]
 have:((dk ls).map λp=>vN p.1).length=ls.length:=by simp[dk]
 rw[this,List.take_length,List.drop_length,List.append_nil]
end
seal RS.x_
theorem wV{r:RS}{k:Slots→af→RS}{I:Slots→af→Prop}{P:RS→Prop}{e':Slots}{μ':af}(h:r=.nx e' μ')(hk:(k e' μ').x_ I P):(r.seq k).x_ I P:=by rw[h];exact hk
section
variable{p:Int}{L m:Nat}
theorem Fx(hP:gg p)(hl:L≤1000)(hmL:m≤L)(rows:List (List Int))(hR:∀r∈rows,Rw p L r)(hrn:rows.length≤1000)(x:SV)(μ:af)(hx:∀l,rd (μ++l) x=some (.lst (rows.map li))) :
  ∃ls ns,fnV 11 jq [.val (.int p),x,.val (.int m)] μ=.ok (.val (.tup [.dct (dk ls),.lst (ns.map li)])) μ∧lq p L m ls ns rows∧ls.length+ns.length=rows.length:=by
 have hb:=hP.pos
 have hp0:0<p:=Int.lt_of_lt_of_le (by decide) hb.1
 unfold jq
 simp[hx]
 refine iR (P:=λr=>∃ls ns,RS.qf μ.length (r.seq (aA (cV [aa 3,aa 4])))=R.ok (SV.val (.tup [.dct (dk ls),.lst (ns.map li)])) μ∧lq p L m ls ns rows∧ls.length+ns.length=rows.length)
  (λi e μ'=>∃ls ns x5 x6 x7 x8 x9 x10,e=[some (.val (.int p)),some x,some (.val (.int m)),some (.cel μ.length),some (.cel (μ.length+1)),x5,x6,x7,x8,x9,x10]∧μ'=μ++[(true,.dct (dk ls)),(true,.lst (ns.map li))]∧lq p L m ls ns (rows.take i)∧ls.length+ns.length=i)
  ?_ ?_ ?_ ⟨[],[],none,none,none,none,none,none,rfl,rfl,lq.start p L m,rfl⟩
 ·rintro i e μ' ⟨ls,ns,_,_,_,_,_,_,_,h,_⟩
  rw[h];exact hx _
 ·rintro i t e μ' ht ⟨ls,ns,x5,x6,x7,x8,x9,x10,rfl,rfl,E,hlen⟩
  rw[List.getElem?_map] at ht
  obtain⟨row,LZ,rfl⟩:=Option.map_eq_some_iff.mp ht
  have hi:i<rows.length:=(List.getElem?_eq_some_iff.mp LZ).1
  have hr:Rw p L row:=hR row (List.mem_of_getElem? LZ)
  have htk:rows.take (i+1)=rows.take i++[row]:=by rw[List.take_add_one,LZ];rfl
  obtain⟨r1,r2,r3⟩:=E.rest (by lia) hr
  refine⟨_,j_ _ _ _,?_⟩
  (try simp_all! only[]);simp only[gS,ja,c9,List.set_cons_succ,List.set_cons_zero,cu,cq,R.aP,R.toS_ok,RS.iq,kP,nE,R.aL,ir,gX,Option.map_some,Option.bind_some,Ad]
  obtain⟨y7,y8,h⟩:=LX hP hl hmL E.key E.rl hr (λμ'=>Option.map (λx=>x.snd) μ'[List.length μ]?=some (T.dct (dk ls))) (μ++[(true,T.dct (dk ls)),(true,T.lst (ns.map li))]) (by simp) (some x) (some (.val (.int m))) (some (.cel μ.length)) (some (.cel (μ.length+1))) (some (.val (li row))) x7 x8 x9 x10
  refine wV h ?_
  clear h
  simp only[gS,ja,c9,fw,bg,cX,j4,List.set_cons_succ,List.set_cons_zero,cu,cq,R.aP,R.aL,R.toS_ok,RS.iq]
  have hfo:=Fo (m:=m) (frees p ls row) (μ++[(true,T.dct (dk ls)),(true,T.lst (ns.map li))]) r1 hmL hl
  generalize fnV 3 bW [.val (li (frees p ls row)),.val (.int m)] (μ++[(true,T.dct (dk ls)),(true,T.lst (ns.map li))])=G at hfo ⊢
  rcases hfo with ⟨rfl,hz⟩|⟨f,rfl,hfm,hne⟩
  ·skip
   have hsz:(ns.map li).length<szL:=by rw[List.length_map];unfold szL;lia
   (try simp_all! only[]);simp[xY _ _ _ _ _ hsz]
   refine⟨ls,ns++[frees p ls row],⟨rfl,by simp⟩,?_,by simp;lia⟩
   rw[htk]
   exact E.LW (by lia) hr hz
  ·skip
   have ha:atI ((frees p ls row).map T.int) (f:Int)=some (.int (g (frees p ls row) f)):=atg (by lia) (by rw[r1.len];lia)
   have gb:=r1.g0 (p:=p) (by lia) f
   have L1:g (frees p ls row) f%p≠0:=by rw[Int.emod_eq_of_lt gb.1 gb.2];exact hne
   obtain⟨y,ho,y0,y1,yz⟩:=pO hP 1 (g (frees p ls row) f) (μ++[(true,T.dct (dk ls)),(true,T.lst (ns.map li))]) L1
   have ht:=wQ (p:=p) (L:=L) (by lia) (by lia) y (frees p ls row) (μ++[(true,T.dct (dk ls)),(true,T.lst (ns.map li))]) r1 hl
   have hinv:Inv p y (g (frees p ls row) f):=by
    unfold Inv
    exact Int.emod_eq_emod_iff_emod_sub_eq_zero.mpr yz
   have hE:=E.lead (by lia) hr hfm hne hinv
   have fne:∀q∈ls,q.1≠f:=λq hq e=>hne (by rw[← e];exact r2 q hq)
   generalize hu:tm p y (frees p ls row)=u at ht hE
   have hu2:Rw p L u:=by rw[← hu];exact AI (by lia) y r1.len
   (try simp_all! only[]);simp only[R.bE,R.toS_ok,xU,nq,c9,List.set_cons_succ,List.set_cons_zero,cu,cq,R.aP,R.aL,fL,j0,BN,Option.map_some,fM,Bool.false_eq_true,if_false,gS,ja,fw,bg,cX,j4,oy,i_,Option.bind_some,j8,ha,ho,ht,RS.iq,kP,ui,ir,gX,vO,eE]
   refine(LY hP hl hmL E.nd hfm E.rl hu2 (by unfold szL;lia) _ ?_ _ _ _ _ _ _ _ _ _).elim λy7 h=>wV h ?_
   ·intro μ'';trivial
   have hkl:(dk (led p ls u f)).length<szL:=by rw[Fp];simp[led];unfold szL;lia
   simp only[qr,c9,cu,cq,R.aP,R.toS_ok,fL,mC]
   rw[sH (kts:=dk (led p ls u f)) (by simp) hkl]
   (try simp_all! only[]);simp only[R.aP,R.toS_ok,HC,uq]
   rw[Fs u (λq hq=>by
    obtain⟨q0,h0,rfl⟩:=List.mem_map.mp hq
    exact fne q0 h0)]
   refine⟨_,ns,_,_,_,_,_,_,rfl,rfl,?_,?_⟩
   ·rw[htk];exact hE
   ·simp[led];lia
 ·rintro e μ' ⟨ls,ns,x5,x6,x7,x8,x9,x10,rfl,rfl,E,hlen⟩
  rw[List.length_map,List.take_length] at E
  rw[List.length_map] at hlen
  exact⟨ls,ns,by simp,E,hlen⟩
end
def eu(n k:Nat):List Int:=(List.replicate n 0).set k 1
theorem e8(n:Nat)(r:List Int):dot (List.replicate n 0) r=0:=by
 induction n generalizing r with
 | zero=>simp
 | succ n ih=>cases r with
  | nil=>simp
  | cons x r=>rw[List.replicate_succ,bQ,ih];simp
theorem kH:∀(n k:Nat) (r:List Int),k<n→dot (eu n k) r=g r k
 | 0,k,r,h=>by lia
 | n+1,0,r,h=>by
  cases r with
  | nil=>simp[g]
  | cons x r =>
   have:eu (n+1) 0=1::List.replicate n 0:=by simp[eu,List.replicate_succ]
   rw[this,bQ,e8,dM];lia
 | n+1,k+1,r,h=>by
  have e:eu (n+1) (k+1)=0::eu n k:=by simp[eu,List.replicate_succ]
  cases r with
  | nil=>simp[g]
  | cons x r=>rw[e,bQ,cP,kH n k r (by lia)];lia
theorem AJ(l r:List Int):dot (l.map λx=>-x) r=- dot l r:=by
 induction l generalizing r with
 | nil=>simp
 | cons x l ih=>cases r with
  | nil=>simp
  | cons y r=>simp only[List.map_cons,bQ,ih];rw[Int.neg_mul];lia
theorem qW:∀(xs ys:List Int),(∀i,g xs i*g ys i=0)→dot xs ys=0
 | [],ys,h=>by simp
 | x::xs,[],h=>by simp
 | x::xs,y::ys,h=>by
  rw[bQ,qW xs ys λi=>by simpa [cP] using h (i+1)]
  have:=h 0
  rw[dM,dM] at this
  lia
theorem qX:∀(xs ys:List Int) (k:Nat),(∀i,i≠k→g xs i*g ys i=0)→dot xs ys=g xs k*g ys k
 | [],ys,k,h=>by simp[g]
 | x::xs,[],k,h=>by simp[g]
 | x::xs,y::ys,0,h=>by
  rw[bQ,qW xs ys λi=>by simpa [cP] using h (i+1) (by lia),dM,dM];lia
 | x::xs,y::ys,k+1,h=>by
  have:=h 0 (by lia)
  rw[dM,dM] at this
  rw[bQ,this,qX xs ys k λi hi=>by simpa [cP] using h (i+1) (by lia),cP,cP];lia
theorem u7(r:List Int)(n k:Nat)(h:k<n):g (r.take n) k=g r k:=by
 simp[g,List.getD_eq_getElem?_getD,List.getElem?_take,h]
theorem zg(r:List Int)(n k:Nat)(h:n≤k):g (r.take n) k=0:=by
 simp[g,List.getD_eq_getElem?_getD,List.getElem?_take,Nat.not_lt.mpr h]
theorem AK(r:List Int)(k j:Nat)(v:Int)(h:k<r.length):g (r.set k v) j=if j=k then v else g r j:=by
 by_cases e:j=k
 ·subst e;simp[g,List.getD_eq_getElem?_getD,h]
 ·simp[g,List.getD_eq_getElem?_getD,List.getElem?_set,e,Ne.symm e]
theorem wW(r:List Int)(m:Nat)(h:m<r.length):r=r.take m++g r m::r.drop (m+1):=by
 rw[wN r m h,← List.drop_eq_getElem_cons h,List.take_append_drop]
theorem i5(a c r:List Int)(b:Int)(m:Nat)(ha:a.length=m)(h:m<r.length):dot (a++b::c) r=dot a (r.take m)+b*g r m+dot c (r.drop (m+1)):=by
 have e:=wW r m h
 have:dot (a++b::c) (r.take m++g r m::r.drop (m+1))=dot a (r.take m)+(b*g r m+dot c (r.drop (m+1))):=by
  rw[qU _ _ _ _ (by simp[ha];lia),bQ]
 rw[← e] at this
 rw[this];lia
theorem zh(n k:Nat):(eu n k).length=n:=by simp[eu]
theorem qY{p:Int}(hp:1<p)(n:Nat):Rw p n (List.replicate n 0):=⟨by simp,λx hx=>by have:=(List.mem_replicate.mp hx).2;lia,λx hx=>by have:=(List.mem_replicate.mp hx).2;lia⟩
theorem Rw.set{p:Int}{n k:Nat}{r:List Int}{v:Int}(h:Rw p n r)(h0:0≤v)(h1:v<p):Rw p n (r.set k v):=by
 refine⟨by simp[h.len],λx hx=>?_,λx hx=>?_⟩
 ·rcases List.mem_or_eq_of_mem_set hx with z|z
  ·exact h.lo x z
  ·lia
 ·rcases List.mem_or_eq_of_mem_set hx with z|z
  ·exact h.hi x z
  ·lia
theorem Rw.append{p:Int}{n k:Nat}{r s:List Int}(h:Rw p n r)(h':Rw p k s):Rw p (n+k) (r++s):=by
 refine⟨by simp[h.len,h'.len],λx hx=>?_,λx hx=>?_⟩
 ·rcases List.mem_append.mp hx with z|z
  ·exact h.lo x z
  ·exact h'.lo x z
 ·rcases List.mem_append.mp hx with z|z
  ·exact h.hi x z
  ·exact h'.hi x z
theorem Rw.drop{p:Int}{n k:Nat}{r:List Int}(h:Rw p n r):Rw p (n-k) (r.drop k) :=
 ⟨by simp[h.len],λx hx=>h.lo x (List.mem_of_mem_drop hx),λx hx=>h.hi x (List.mem_of_mem_drop hx)⟩
def col(lines:List (List Int))(j:Nat):List Int:=lines.map λl=>g l j
def aug(w:Nat)(lines:List (List Int))(ws:List Int)(j:Nat):List Int:=(col lines j++[g ws j])++eu w j
section
variable{p:Int}{w:Nat}{lines:List (List Int)}{ws:List Int}
theorem L3(hp:0<p)(hl:∀l∈lines,Rw p w l)(j:Nat):Rw p lines.length (col lines j):=by
 refine⟨by simp[col],λx hx=>?_,λx hx=>?_⟩
 ·obtain⟨l,h,rfl⟩:=List.mem_map.mp hx
  exact((hl l h).g0 hp j).1
 ·obtain⟨l,h,rfl⟩:=List.mem_map.mp hx
  exact((hl l h).g0 hp j).2
theorem L4(hp:1<p)(hl:∀l∈lines,Rw p w l)(hw:Rw p w ws)(j:Nat):Rw p (lines.length+1+w) (aug w lines ws j):=by
 have g0:=hw.g0 (by lia) j
 have h1:Rw p 1 [g ws j]:=⟨rfl,λx hx=>by simp at hx;lia,λx hx=>by simp at hx;lia⟩
 exact((L3 (by lia) hl j).append h1).append ((qY hp w).set (by lia) hp)
theorem Og(k j:Nat)(h:k<lines.length):g (col lines j) k=g lines[k] j:=by
 rw[wN _ _ (by simp[col,h])];simp[col]
theorem sX(j:Nat):(aug w lines ws j).take lines.length=col lines j∧g (aug w lines ws j) lines.length=g ws j∧(aug w lines ws j).drop (lines.length+1)=eu w j:=by
 have hc:(col lines j).length=lines.length:=by simp[col]
 refine⟨?_,?_,?_⟩
 ·unfold aug;rw[List.append_assoc,List.take_append_of_le_length (by lia),List.take_of_length_le (by lia)]
 ·unfold aug;rw[wN _ _ (by simp[hc])];simp[hc]
 ·unfold aug;rw[List.drop_append_of_le_length (by simp[hc]),List.drop_of_length_le (by simp[hc]),List.nil_append]
theorem told{ls:List Ld}{ns:List (List Int)}(hp:1<p)(E:lq p (lines.length+1+w) lines.length ls ns ((List.range w).map λj=>aug w lines ws j)){r:List Int}(hr:r∈ns)(hw:ws.length=w)(hl:∀l∈lines,l.length=w) :
  (∀l∈lines,p ∣ dot l (r.drop (lines.length+1)))∧p ∣ g r lines.length-dot ws (r.drop (lines.length+1)):=by
 have hrl:=(E.rn r hr).len
 have use:∀(a v:List Int) (b:Int),a.length=lines.length→(∀j,j<w→dot a (col lines j)+b*g ws j=g v j)→p ∣ dot a (r.take lines.length)+b*g r lines.length-dot v (r.drop (lines.length+1)):=λa v b ha hv=>by
  have hz:=((E.eq (a++b::v.map λx=>-x)).mp λq hq=>by
   obtain⟨j,hj,rfl⟩:=List.mem_map.mp hq
   have hj:j<w:=List.mem_range.mp hj
   obtain⟨e1,e2,e3⟩:=sX (w:=w) (lines:=lines) (ws:=ws) j
   unfold Z
   rw[i5 a _ _ b lines.length ha (by simp[aug,col]),e1,e2,e3,AJ,Fm v (eu w j),kH w j v hj,hv j hj]
   exact⟨0,by lia⟩).2 r hr
  unfold Z at hz
  rw[i5 a _ _ b lines.length ha (by lia),AJ] at hz
  exact hz
 refine⟨λl hl'=>?_,?_⟩
 ·obtain⟨k,hk,rfl⟩:=List.mem_iff_getElem.mp hl'
  have:=use (eu lines.length k) lines[k] 0 (zh _ _) λj hj=>by rw[kH _ _ _ hk,Og k j hk];lia
  rw[kH _ _ _ hk,u7 _ _ _ hk,E.no r hr k hk] at this
  obtain⟨t,ht⟩:=this
  exact⟨-t,by rw[Int.mul_neg];lia⟩
 ·have:=use (List.replicate lines.length 0) ws 1 (by simp) λj hj=>by rw[e8];lia
  rw[e8] at this
  simpa using this
theorem L5{ls:List Ld}{ns:List (List Int)}(hp:1<p)(E:lq p (lines.length+1+w) lines.length ls ns ((List.range w).map λj=>aug w lines ws j))(h0:∀r∈ns,g r lines.length=0){ms:List Int}(hm:ms.length=lines.length)
  (h1:∀q∈ls,g ms q.1=g q.2 lines.length) (h2:∀i,(∀q∈ls,q.1≠i)→g ms i=0) (j:Nat) (hj:j<w):p ∣ dot ms (col lines j)-g ws j:=by
 have hz:=(E.eq (ms++(-1)::List.replicate w 0)).mpr ⟨λq hq=>?_,λr hr=>?_⟩ (aug w lines ws j) (List.mem_map.mpr ⟨j,List.mem_range.mpr hj,rfl⟩)
 ·obtain⟨e1,e2,e3⟩:=sX (w:=w) (lines:=lines) (ws:=ws) j
  unfold Z at hz
  rw[i5 ms _ _ _ lines.length hm (by simp[aug,col]),e1,e2,e8] at hz
  obtain⟨t,ht⟩:=hz
  exact⟨t,by lia⟩
 ·unfold Z
  rw[i5 ms _ _ _ lines.length hm (by rw[(E.rl q hq).len];lia),e8,qX ms (q.2.take lines.length) q.1,u7 _ _ _ (E.key q hq),E.one q hq,h1 q hq]
  ·exact⟨0,by lia⟩
  ·intro i hi
   by_cases hk:∃q'∈ls,q'.1=i
   ·obtain⟨q',hq',rfl⟩:=hk
    rw[u7 _ _ _ (E.key q' hq'),E.off q hq q' hq' hi];simp
   ·rw[h2 i λq' hq' e=>hk ⟨q',hq',e⟩];simp
 ·unfold Z
  rw[i5 ms _ _ _ lines.length hm (by rw[(E.rn r hr).len];lia),e8,h0 r hr,qW]
  ·exact⟨0,by lia⟩
  ·intro i
   by_cases hi:i<lines.length
   ·rw[u7 _ _ _ hi,E.no r hr i hi];simp
   ·rw[zg _ _ _ (by lia)];simp
end
def cg:DS :=
 (aA (aF (aY (aa 1)) [none,some 0,some 2] (aw 0) (dC (.bl true)) (ah a8 (ax (aa 0) (aa 2)) (aa 1))))
def jr:DS :=
 (ar (ay 2 (br (lS j5 [(dC (.int 0))] (aa 0))))
 (ar (bP 2 (aa 1) (dC (.int 1)))
 (aA (aa 2))))
def iy:DS :=
 (ar (ay 4 (gz (aa 2)))
 (ar (ay 5 (br (bD [])))
 (ar (bY (aQ (aa 1)) (aw 6) (cf (aa 5) (ah aO (ah aO (ak (cal (fnV 3 cg)) [(aa 0),(aa 2),(aa 6)]) (bD [(ah a8 (ax (aa 3) (aa 6)) (aa 0))])) (ak (cal (fnV 3 jr)) [(aa 1),(aa 6)]))))
 (ar (ay 7 (ak (cal (fnV 11 jq)) [(aa 0),(aa 5),(aa 4)]))
 (ar (bY (aY (ax (aa 7) (dC (.int 1)))) (aw 8) (sIf (ah fNe (ax (aa 8) (aa 4)) (dC (.int 0))) (aA (fN [(dC (.str "turn")),(dUn bh (ak (cal (fnV 3 gi)) [(aa 0),(ak (cal (fnV 5 jn)) [(aa 0),(dC (.int 1)),(ax (aa 8) (aa 4))]),(uf (aa 8) (some (ah aO (aa 4) (dC (.int 1)))) none)]))])) bA))
 (ar (ay 9 (br (lS j5 [(dC (.int 0))] (aa 4))))
 (ar (bY (jk (ax (aa 7) (dC (.int 0)))) (dg [6,10]) (bP 9 (aa 6) (ax (aa 10) (aa 4))))
 (aA (fN [(dC (.str "sum")),(aa 9)])))))))))
abbrev tu(r:List Int):T:=.tup (r.map T.int)
theorem IA{μ:af}{x:SV}{ts:List T}(h:rd μ x=some (.lst ts)):ny μ x=some (.int ts.length):=by
 cases x with
 | val t=>cases h;rfl
 | cel k=>rw[vM,h];rfl
 | box xs=>cases h
theorem IB{μ:af}{x:SV}{ts:List T}{i:Int}(h:rd μ x=some (.lst ts)):iM μ x (.int i)=(atI ts i).map SV.val:=by
 cases x with
 | val t=>cases h;rfl
 | cel k=>rw[qc,h];rfl
 | box xs=>cases h
section
variable{p:Int}{w:Nat}{lines:List (List Int)}{ws:List Int}
def mdl(p:Int)(l:List Int):List Int:=l.map (·%p)
theorem Pw(p:Int)(l:List Int)(j:Nat):g (mdl p l) j=g l j%p:=by
 unfold g mdl
 rw[List.getD_eq_getElem?_getD,List.getD_eq_getElem?_getD,List.getElem?_map]
 cases l[j]? with
 | none=>simp
 | some x=>simp
theorem Oh{l:List Int}(hp:0<p)(h:l.length=w):Rw p w (mdl p l):=by
 refine⟨by unfold mdl;rw[List.length_map];exact h,λx hx=>?_,λx hx=>?_⟩
 ·obtain⟨y,_,rfl⟩:=List.mem_map.mp hx;exact Int.emod_nonneg _ (by lia)
 ·obtain⟨y,_,rfl⟩:=List.mem_map.mp hx;exact Int.emod_lt_of_pos _ hp
theorem Oi{l:List Int}(h:Rw p w l):mdl p l=l:=by
 unfold mdl
 exact(List.map_congr_left λx hx=>Int.emod_eq_of_lt (h.2 x hx) (h.3 x hx)).trans (List.map_id' l)
theorem L6(hl:∀l∈lines,Rw p w l):lines.map (mdl p)=lines:=(List.map_congr_left λl h=>Oi (hl l h)).trans (List.map_id' lines)
theorem wX(hp:0<p)(hl:∀l∈lines,l.length=w)(hn:lines.length≤1000)(j:Nat)(hj:j<w)(x:SV)(μ:af)(hx:rd μ x=some (.lst (lines.map tu))) :
  fnV 3 cg [.val (.int p),x,.val (.int j)] μ=.ok (.val (li (col (lines.map (mdl p)) j))) μ:=by
 unfold cg
 (try simp_all! only[]);simp[hx]
 rw[b4 _ (λl:List Int=>.int (g l j%p)) (by simp[hx])]
 ·rw[R.bE,R.aL,if_pos (by simp[szL];lia)]
  (try simp_all! only[]);simp[col,Function.comp_def,Pw]
 ·intro l hm
  have h:=hl l hm
  refine⟨_,rfl,?_⟩
  have ha:atI (l.map T.int) (j:Int)=some (.int (g l j)):=by
   have:=atg (r:=l) (k:=(j:Int)) (by lia) (by rw[h];lia)
   simpa using this
  (try simp_all! only[]);simp[ha,hp]
theorem IC(xs:List T)(k:Int)(h:-(2 ^ 63)≤k∧k<2 ^ 63∧xs.length*k.toNat≤szL):j5 (.lst xs) (.int k)=some (.lst (List.replicate k.toNat xs).flatten):=if_pos h
theorem rep0(n:Nat)(h:n≤1000):j5 (.lst [.int 0]) (.int (n:Int))=some (li (List.replicate n 0)):=by
 have hn:(n:Int).toNat=n:=by lia
 have hz:[T.int 0].length*(n:Int).toNat≤szL:=by
  rw[hn]
  unfold szL
  simp
  lia
 rw[IC _ _ ⟨by lia,by lia,hz⟩,hn,List.flatten_replicate_singleton,li,List.map_replicate]
theorem hs_(w j:Nat)(hj:j<w)(μ:af):setAt (.cel μ.length) (.int (j:Int)) (.int 1) (μ++[(true,li (List.replicate w 0))])=some (μ++[(true,li (eu w j))]):=by
  rw[kd (ts:=(List.replicate w 0).map T.int) gX (by lia) (by rw[List.length_map,List.length_replicate];lia),uq]
  have:(j:Int).toNat=j:=by lia
  rw[this]
  unfold eu li
  rw[List.map_set]
theorem L7(f:T→T→Option T)(x y:Int)(z z2:T)(μ:af)(hr:f (.lst [.int 0]) (.int x)=some z)(hs:setAt (.cel μ.length) (.int y) (.int 1) (μ++[(true,z)])=some (μ++[(true,z2)])):fnV 3 (ar (ay 2 (br (lS f [(dC (.int 0))] (aa 0))))
 (ar (bP 2 (aa 1) (dC (.int 1)))
 (aA (aa 2)))) [.val (.int x),.val (.int y)] μ=.ok (.val z2) μ:=by
 simp[hr,hs]
theorem AL(j:Nat)(hj:j<w)(hw:w≤1000)(μ:af):fnV 3 jr [.val (.int w),.val (.int j)] μ=.ok (.val (li (eu w j))) μ :=
 L7 j5 w j _ _ μ (rep0 w hw) (hs_ w j hj μ)
theorem Fy(f:T→T→Option T)(i j:Nat)(e:Slots)(μ:af)(k:Int)(t:T)(hs:slot e j=some (.val (.int k)))(h:f (.lst [.int 0]) (.int k)=some t):ay i (br (lS f [dC (.int 0)] (aa j))) e μ=.nx (e.set i (some (.cel μ.length))) (μ++[(true,t)]):=by
 (try simp_all! only[]);simp[hs,h]
theorem ID{raw:List (List Int)}(hP:gg p)(hl:∀l∈raw,l.length=w)(CC:raw.map (mdl p)=lines)(hw:Rw p w ws)(hn:lines.length≤200)(hw2:w≤100)(x:SV)(μ:af)(hx:∀l,rd (μ++l) x=some (.lst (raw.map tu)))(same:af→Prop)(Fz:∀μ',same μ')(x4 x6 x7 x8 x9 x10:Option SV) :
  ∃y6,forL same (aw 6) (cf (aa 5) (ah aO (ah aO (ak (cal (fnV 3 cg)) [(aa 0),(aa 2),(aa 6)]) (bD [(ah a8 (ax (aa 3) (aa 6)) (aa 0))])) (ak (cal (fnV 3 jr)) [(aa 1),(aa 6)]))) (bL 0 w)
   [some (.val (.int p)),some (.val (.int w)),some x,some (.val (tu ws)),x4,some (.cel μ.length),x6,x7,x8,x9,x10] (μ++[(true,.lst [])]) =
   .nx [some (.val (.int p)),some (.val (.int w)),some x,some (.val (tu ws)),x4,some (.cel μ.length),y6,x7,x8,x9,x10] (μ++[(true,.lst (((List.range w).map λj=>aug w lines ws j).map li))]):=by
 have hb:=hP.pos
 have hp0:0<p:=Int.lt_of_lt_of_le (by decide) hb.1
 have hrl:raw.length=lines.length:=by rw[← CC,List.length_map]
 obtain⟨e',μ',h1,y6,h2,h3⟩:=eJ (same:=same) (b:=aw 6) (body:=cf (aa 5) (ah aO (ah aO (ak (cal (fnV 3 cg)) [(aa 0),(aa 2),(aa 6)]) (bD [(ah a8 (ax (aa 3) (aa 6)) (aa 0))])) (ak (cal (fnV 3 jr)) [(aa 1),(aa 6)]))) (ts:=bL 0 w)
  (e:=[some (.val (.int p)),some (.val (.int w)),some x,some (.val (tu ws)),x4,some (.cel μ.length),x6,x7,x8,x9,x10]) (μ:=μ++[(true,.lst [])])
  (λi e μ'=>∃y6,e=[some (.val (.int p)),some (.val (.int w)),some x,some (.val (tu ws)),x4,some (.cel μ.length),y6,x7,x8,x9,x10]∧μ'=μ++[(true,.lst (((List.range i).map λj=>aug w lines ws j).map li))])
  (λi e μ' _=>Fz μ') (λi t e μ' ht au=>by
   obtain⟨y6,he,hμ⟩:=au
   subst he hμ
   obtain⟨hi,rfl⟩:=mO ht
   have e0:(0:Int)+(i:Int)=(i:Int):=by lia
   rw[e0]
   generalize hc:(true,T.lst (((List.range i).map λj=>aug w lines ws j).map li))=c
   have Oj:=wX (p:=p) (w:=w) (by lia) hl (by lia) i (by lia) x (μ++[c]) (hx _)
   rw[CC] at Oj
   have hun:=AL (w:=w) i (by lia) (by lia) (μ++[c])
   have gb:=hw.g0 (p:=p) (by lia) i
   have ha:atI (ws.map T.int) (i:Int)=some (.int (g ws i)):=by
    have:=atg (r:=ws) (k:=(i:Int)) (by lia) (by rw[hw.len];lia)
    simpa using this
   have L1:g ws i%p=g ws i:=Int.emod_eq_of_lt gb.1 gb.2
   have a1:aO (li (col lines i)) (.lst [.int (g ws i)])=some (li (col lines i++[g ws i])):=by
    rw[gy _ _ (by simp[col,szL];lia)];simp
   have a2:aO (li (col lines i++[g ws i])) (li (eu w i))=some (li (aug w lines ws i)):=by
    rw[gy _ _ (by simp[col,szL,eu];lia)];simp[aug]
   have hls:nA (.cel μ.length) (μ++[c])=some ():=by rw[← hc];exact mM _ _ _ _
   have hap:∀t,appendAt (.cel μ.length) t (μ++[c])=some (μ++[(true,T.lst (((List.range i).map λj=>aug w lines ws j).map li++[t]))]):=λt=>by rw[← hc];exact gG _ _ _ _ (by simp[szL];lia)
   refine⟨_,_,_,j_ _ _ _,?_,some (.val (.int i)),rfl,rfl⟩
   simp only[hls,hap,qd,fw,bg,cX,c9,j4,gf,ub,i_,kN,p7,mC,List.set_cons_succ,List.set_cons_zero,cu,cq,R.aP,R.aL,R.toS_ok,fL,j3,Option.bind_some,mF,ha,Option.map_some,j6 _ _ hp0,L1,Oj,hun,R.bE,a1,a2]
   rw[List.range_succ,List.map_append,List.map_append]
   rfl) ⟨x6,rfl,rfl⟩
 refine⟨y6,?_⟩
 rw[h1,h2,h3,cD]
end
theorem Px(r:List Int)(i:Int)(h0:0≤i)(h1:i≤r.length):Hj (li r) (some i) none=some (li (r.drop i.toNat)):=by
 have e1:sIx (r.map T.int).length 0 (some i)=i.toNat:=by show(if i<0 then _ else min i.toNat (r.map T.int).length)=_;rw[if_neg (by omega),List.length_map];omega
 have e2:sIx (r.map T.int).length (r.map T.int).length none=(r.map T.int).length:=rfl
 show some (T.lst (xQ (r.map T.int) (some i) none))=_
 unfold xQ
 rw[e1,e2,List.take_of_length_le (by simp)]
 simp
theorem atn{r:List Int}{k:Nat}(h:k<r.length):atI (r.map T.int) (k:Int)=some (.int (g r k)):=by
 have:=atg (r:=r) (k:=(k:Int)) (by omega) (by omega)
 simpa using this
section
variable{p:Int}{w:Nat}{lines:List (List Int)}{ws:List Int}
theorem IE{L m:Nat}(hp:0<p){ls:List Ld}(hn:(ls.map (·.1)).Nodup)(hk:∀q∈ls,q.1<m)(rl:∀q∈ls,Rw p L q.2)(hmL:m<L)(hp1:1<p)(same:af→Prop)(Fz:∀μ',same μ')(μ:af)(c:Bool×T)(x0 x1 x2 x3 x5 x6 x7 x8 x10:Option SV) :
  ∃y6 y10 ms,forL same (dg [6,10]) (bP 9 (aa 6) (ax (aa 10) (aa 4))) (ed (dk ls)) [x0,x1,x2,x3,some (.val (.int m)),x5,x6,x7,x8,some (.cel (μ.length+1)),x10] (μ++[c,(true,li (List.replicate m 0))]) =
   .nx [x0,x1,x2,x3,some (.val (.int m)),x5,y6,x7,x8,some (.cel (μ.length+1)),y10] (μ++[c,(true,li ms)])∧Rw p m ms∧(∀q∈ls,g ms q.1=g q.2 m)∧∀j,(∀q∈ls,q.1≠j)→g ms j=0:=by
 obtain⟨e',μ',h1,y6,y10,ms,h2,h3,h4,h5,h6⟩:=eJ (same:=same) (b:=dg [6,10]) (body:=bP 9 (aa 6) (ax (aa 10) (aa 4))) (ts:=ed (dk ls))
  (e:=[x0,x1,x2,x3,some (.val (.int m)),x5,x6,x7,x8,some (.cel (μ.length+1)),x10]) (μ:=μ++[c,(true,li (List.replicate m 0))])
  (λi e μ'=>∃y6 y10 ms,e=[x0,x1,x2,x3,some (.val (.int m)),x5,y6,x7,x8,some (.cel (μ.length+1)),y10]∧μ'=μ++[c,(true,li ms)]∧Rw p m ms∧(∀q∈ls.take i,g ms q.1=g q.2 m)∧∀j,(∀q∈ls.take i,q.1≠j)→g ms j=0)
  (λi e μ' _=>Fz μ') (λi t e μ' ht au=>by
   obtain⟨y6,y10,ms,he,hμ,hr,h5,h6⟩:=au
   subst he hμ
   obtain⟨q,hq,hi,rfl⟩:=sW ht
   have hm:q∈ls:=List.mem_of_getElem? hq
   have hkq:=hk q hm
   have ha:=atn (r:=q.2) (k:=m) (by rw[(rl q hm).len];exact hmL)
   have gb:=(rl q hm).g0 hp m
   have Py:setAt (.cel (μ.length+1)) (.int (q.1:Int)) (.int (g q.2 m)) (μ++[c,(true,li ms)])=some (μ++[c,(true,li (ms.set q.1 (g q.2 m)))]):=by
    rw[kd (ts:=ms.map T.int) Aa (by omega) (by rw[List.length_map,hr.len];omega),Hy]
    have:(q.1:Int).toNat=q.1:=by omega
    rw[this,← List.map_set]
   have htk:ls.take (i+1)=ls.take i++[q]:=by rw[List.take_add_one,hq];rfl
   have hne:∀q'∈ls.take i,q'.1≠q.1:=λq' hq' e=>by
    have hd:ls=ls.take i++q::ls.drop (i+1):=by
     have:ls.drop i=q::ls.drop (i+1):=by
      rw[List.drop_eq_getElem_cons hi]
      congr 1
      rw[List.getElem?_eq_getElem hi] at hq
      exact Option.some.inj hq
     rw[← this,List.take_append_drop]
    rw[hd,List.map_append,List.nodup_append] at hn
    exact hn.2.2 q'.1 (List.mem_map.mpr ⟨q',hq',rfl⟩) q.1 (by simp) e
   have hlen:q.1<ms.length:=by rw[hr.len];exact hkq
   refine⟨_,_,_,eh _ _ _ _ _,?_,some (.val (.int q.1)),some (.val (li q.2)),ms.set q.1 (g q.2 m),rfl,rfl,hr.set gb.1 gb.2,λq' hq'=>?_,λj hj=>?_⟩
   ·simp only[oA,i_,c9,List.set_cons_succ,List.set_cons_zero,cu,cq,R.aP,R.aL,R.toS_ok,fL,Option.bind_some,j8,ha,Option.map_some,mC,Py]
   ·rw[AK _ _ _ _ hlen]
    rw[htk] at hq'
    rcases List.mem_append.mp hq' with h|h
    ·rw[if_neg (hne q' h)];exact h5 q' h
    ·simp at h;subst h;rw[if_pos rfl]
   ·rw[AK _ _ _ _ hlen,if_neg (λe=>hj q (by rw[htk];simp) e.symm)]
    exact h6 j λq' hq'=>hj q' (by rw[htk];simp[hq'])) ⟨x6,x10,_,rfl,rfl,qY hp1 m,by simp,λj _=>by
     by_cases hj:j<m
     ·rw[wN _ _ (by simp[hj])];simp
     ·simp[g,List.getD_eq_getElem?_getD,hj]⟩
 have hil:(ed (dk ls)).length=ls.length:=by simp[ed,dk]
 rw[hil,List.take_length] at h5 h6
 exact⟨y6,y10,ms,by rw[h1,h2,h3],h4,h5,h6⟩
end
inductive CD(p:Int)(w:Nat)(lines:List (List Int))(ws:List Int)(μ:af):RS→Prop where
 | turn (c:T) (tv:List Int) (h:Rw p w tv) (h1:∀l∈lines,p ∣ dot l tv) (h2:p ∣ dot ws tv-1):CD p w lines ws μ (.rt (.box [.inl (.str "turn"),.inl (tu tv)]) (μ++[(true,c)]))
 | sum (c:T) (ms:List Int) (h:Rw p lines.length ms) (h1:∀j,j<w→p ∣ dot ms (col lines j)-g ws j):CD p w lines ws μ (.rt (.box [.inl (.str "sum"),.inr (μ.length+1)]) (μ++[(true,c),(true,li ms)]))
section
variable{p:Int}{w:Nat}{lines:List (List Int)}{ws:List Int}
theorem FA{raw:List (List Int)}(hP:gg p)(hrw:∀l∈raw,l.length=w)(CC:raw.map (mdl p)=lines)(hw:Rw p w ws)(hn:lines.length≤200)(hw2:w≤100)(x:SV)(μ:af)(hx:∀l,rd (μ++l) x=some (.lst (raw.map tu))) :
  CD p w lines ws μ (iy (starts 11 [.val (.int p),.val (.int w),x,.val (tu ws)]) μ):=by
 have hb:=hP.pos
 have hp0:0<p:=Int.lt_of_lt_of_le (by decide) hb.1
 have hl:∀l∈lines,Rw p w l:=λl h=>by
  rw[← CC] at h
  obtain⟨r,hr,rfl⟩:=List.mem_map.mp h
  exact Oh hp0 (hrw r hr)
 have hx0:rd μ x=some (.lst (raw.map tu)):=by simpa using hx []
 have hlen:=IA hx0
 rw[List.length_map,show raw.length=lines.length by rw[← CC,List.length_map]] at hlen
 unfold iy
 simp only[sD,gS,ja,zV,c9,List.map_cons,List.map_nil,List.length_cons,List.length_nil,List.cons_append,List.nil_append,Nat.reduceAdd,Nat.reduceSub,List.replicate_succ,List.replicate_zero,cu,cq,R.aP,R.aL,R.toS_ok,hlen,Option.map_some,List.set_cons_succ,List.set_cons_zero,RS.iq,p9,ub,cX,p7,toCell_val,kP,qe,fL,Option.bind_some,nz,dN (show(0:Int)≤(w:Int) by lia) (show(w:Int)≤1000000 by lia),if_true,Int.toNat_natCast]
 obtain⟨y6,h1⟩:=ID hP hrw CC hw hn hw2 x μ hx (λ_=>True) (λ_=>trivial) (some (.val (.int lines.length))) none none none none none
 rw[h1,RS.iq]
 clear h1
 have Ol:∀r∈(List.range w).map λj=>aug w lines ws j,Rw p (lines.length+1+w) r:=λr hr=>by
  obtain⟨j,_,rfl⟩:=List.mem_map.mp hr
  exact L4 (by lia) hl hw j
 obtain⟨ls,ns,h2,E,_⟩:=Fx (m:=lines.length) hP (L:=lines.length+1+w) (by lia) (by lia) ((List.range w).map λj=>aug w lines ws j) Ol (by simp;lia) (.cel μ.length) (μ++[(true,.lst (((List.range w).map λj=>aug w lines ws j).map li))]) (λl=>by simp)
 generalize hc:T.lst (((List.range w).map λj=>aug w lines ws j).map li)=c at h2 ⊢
 (try simp_all! only[]);simp only[gS,ja,c9,fw,bg,cX,j4,List.set_cons_succ,List.set_cons_zero,cu,cq,R.aP,R.aL,R.toS_ok,h2,R.bE,RS.iq,kP,ui,i_,oy,fL,Option.bind_some,mF,Ac,Option.map_some,eE]
 refine iR (P:=λr=>CD p w lines ws μ (r.seq (ar (ay 9 (br (lS j5 [dC (.int 0)] (aa 4))))
  (ar (bY (jk (ax (aa 7) (dC (.int 0)))) (dg [6,10]) (bP 9 (aa 6) (ax (aa 10) (aa 4)))) (aA (fN [dC (.str "sum"),aa 9]))))))
  (λi e μ'=>∃y8,e=[some (.val (.int p)),some (.val (.int w)),some x,some (.val (tu ws)),some (.val (.int lines.length)),some (.cel μ.length),y6,some (.val (.tup [.dct (dk ls),.lst (ns.map li)])),y8,none,none]∧μ'=μ++[(true,c)]∧∀r∈ns.take i,g r lines.length=0)
  ?_ ?_ ?_ ⟨none,rfl,rfl,by simp⟩
 ·intro i e μ' _;trivial
 ·rintro i t e μ' ht ⟨y8,rfl,rfl,hz⟩
  rw[List.getElem?_map] at ht
  obtain⟨r,hr,rfl⟩:=Option.map_eq_some_iff.mp ht
  have hm:r∈ns:=List.mem_of_getElem? hr
  have hR:=E.rn r hm
  have ha:=atn (r:=r) (k:=lines.length) (by rw[hR.len];lia)
  refine⟨_,j_ _ _ _,?_⟩
  by_cases e0:g r lines.length=0
  ·(try simp_all! only[]);simp[ha,e0]
   intro r' hr'
   rw[List.take_add_one,hr] at hr'
   rcases List.mem_append.mp hr' with h|h
   ·exact hz r' h
   ·simp at h;subst h;exact e0
  ·have gb:=hR.g0 (p:=p) (by lia) lines.length
   obtain⟨y,ho,y0,y1,yz⟩:=pO hP 1 (g r lines.length) (μ++[(true,c)]) (by rw[Int.emod_eq_of_lt gb.1 gb.2];exact e0)
   have hR2:Rw p w (r.drop (lines.length+1)):=by
    have:=hR.drop (k:=lines.length+1)
    rwa [show lines.length+1+w-(lines.length+1)=w by lia] at this
   have ht2:=wQ (p:=p) (L:=w) (by lia) (by lia) y (r.drop (lines.length+1)) (μ++[(true,c)]) hR2 (by lia)
   have Om:=Px r ((lines.length:Int)+1) (by lia) (by rw[hR.len];lia)
   rw[show((lines.length:Int)+1).toNat=lines.length+1 by lia] at Om
   have e1:(g r lines.length==0)=false:=by simpa using e0
   have tl:=told (by lia) E hm hw.len λl h=>(hl l h).len
   obtain⟨t,hts⟩:∃t,g r lines.length-dot ws (r.drop (lines.length+1))=p*t:=tl.2
   obtain⟨s,hs⟩:∃s,y*g r lines.length-1=p*s:=Int.dvd_of_emod_eq_zero yz
   have Oo:CD p w lines ws μ (.rt (.box [.inl (.str "turn"),.inl (tu (tm p y (r.drop (lines.length+1))))]) (μ++[(true,c)])):=by
    refine .turn c _ (AI (by lia) y hR2.len) (λl h=>?_) ?_
    ·obtain⟨u,hu⟩:=qV p y (r.drop (lines.length+1)) l
     obtain⟨v,hv⟩:=tl.1 l h
     rw[hu,hv]
     exact⟨y*v+u,by grind⟩
    ·obtain⟨u,hu⟩:=qV p y (r.drop (lines.length+1)) ws
     rw[hu]
     exact⟨s-y*t+u,by grind⟩
   have hb2:fNe (.int (g r lines.length)) (.int 0)=some (.bl true):=by rw[zU,e1];rfl
   have goal:∀(e:Slots),slot e 0=some (.val (.int p))→slot e 4=some (.val (.int lines.length))→slot e 8=some (.val (li r)) →
     sIf (ah fNe (ax (aa 8) (aa 4)) (dC (.int 0))) (aA (fN [(dC (.str "turn")),(dUn bh (ak (cal (fnV 3 gi)) [(aa 0),(ak (cal (fnV 5 jn)) [(aa 0),(dC (.int 1)),(ax (aa 8) (aa 4))]),(uf (aa 8) (some (ah aO (aa 4) (dC (.int 1)))) none)]))])) bA e (μ++[(true,c)]) =
     .rt (.box [.inl (.str "turn"),.inl (tu (tm p y (r.drop (lines.length+1))))]) (μ++[(true,c)]):=λe q0 q4 q8=>by
    (try simp_all! only[]);simp only[xU,gf,i_,c9,oy,q0,q4,q8,R.aP,R.aL,R.toS_ok,fL,Option.bind_some,j8,ha,Option.map_some,j3,hb2,fM,if_true,uh,uc,bg,cX,nq,fw,j4,ho,R.bE,zW,sk,sj,vK,nz,j0,Om,ht2,gA,boxed]
   rw[goal _ rfl rfl rfl,HD]
   exact Oo
 ·rintro e μ' ⟨y8,rfl,rfl,hz⟩
  rw[List.length_map,List.take_length] at hz
  rw[RS.iq,gS,Fy j5 9 4 _ _ (lines.length:Int) _ rfl (rep0 lines.length (by lia)),RS.iq]
  obtain⟨z6,z10,ms,h3,h4,h5,h6⟩:=IE (p:=p) (L:=lines.length+1+w) (m:=lines.length) (by lia) E.nd E.key E.rl (by lia) (by lia) (λ_=>True) (λ_=>trivial) μ (true,c) (some (.val (.int p))) (some (.val (.int w))) (some x) (some (.val (tu ws))) (some (.cel μ.length)) y6 (some (.val (.tup [.dct (dk ls),.lst (ns.map li)]))) y8 none
  have JD:(μ++[(true,c)]).length=μ.length+1:=by simp
  have hap:μ++[(true,c)]++[(true,li (List.replicate lines.length 0))]=μ++[(true,c),(true,li (List.replicate lines.length 0))]:=by simp
  rw[JD,hap]
  (try simp_all! only[]);simp only[gS,kP,nE,i_,c9,oy,List.set_cons_succ,List.set_cons_zero,cu,cq,R.aP,R.aL,R.toS_ok,fL,Option.bind_some,mF,vZ,Option.map_some,Ad]
  rw[h3,RS.iq]
  (try simp_all! only[]);simp only[uh,uc,bg,cX,oy,c9,cu,cq,R.aP,R.aL,R.toS_ok,boxed,Option.map_some]
  exact .sum c ms h4 λj hj=>L5 (by lia) E hz h4.len h5 h6 j hj
theorem AM(hP:gg p)(hl:∀l∈lines,Rw p w l)(hw:Rw p w ws)(hn:lines.length≤100)(hw2:w≤100)(x:SV)(μ:af)(hx:∀l,rd (μ++l) x=some (.lst (lines.map tu))) :
  CD p w lines ws μ (iy (starts 11 [.val (.int p),.val (.int w),x,.val (tu ws)]) μ):=FA hP (λl h=>(hl l h).1) (L6 hl) hw (by lia) hw2 x μ hx
end
def less(n:Int)(v l:List Int):List Int:=(v.zip l).map λq=>q.1-n*q.2
theorem qZ(n:Int):∀(v l t:List Int),v.length=l.length→dot (less n v l) t=dot v t-n*dot l t
 | [],l,t,h=>by cases l with
  | nil=>simp[less]
  | cons x l=>simp at h
 | a::v,[],t,h=>by simp at h
 | a::v,b::l,[],h=>by simp[less]
 | a::v,b::l,c::t,h=>by
  have e:less n (a::v) (b::l)=(a-n*b)::less n v l:=rfl
  rw[e,bQ,bQ,bQ,qZ n v l t (by simpa using h)]
  grind
theorem zi(n:Int):∀(v l:List Int) (j:Nat),v.length=l.length→g (less n v l) j=g v j-n*g l j
 | [],l,j,h=>by cases l with
  | nil=>simp[less,g]
  | cons x l=>simp at h
 | a::v,[],j,h=>by simp at h
 | a::v,b::l,0,h=>by simp[less,g]
 | a::v,b::l,j+1,h=>by
  have e:less n (a::v) (b::l)=(a-n*b)::less n v l:=rfl
  rw[e,cP,cP,cP]
  exact zi n v l j (by simpa using h)
theorem u9(p:Int):∀(v t:List Int),(∀j,j<v.length→p ∣ g v j)→p ∣ dot v t
 | [],t,_=>⟨0,by simp⟩
 | a::v,[],_=>⟨0,by simp⟩
 | a::v,b::t,h=>by
  rw[bQ]
  have h0:=h 0 (by simp)
  rw[dM] at h0
  obtain⟨s,hs⟩:=h0
  obtain⟨u,hu⟩:=u9 p v t λj hj=>by have:=h (j+1) (by simp;lia);rwa [cP] at this
  exact⟨s*b+u,by rw[hs,hu];grind⟩
theorem wY(p:Int)(w:Nat)(t:List Int):∀(lines:List (List Int)) (ms v:List Int),ms.length=lines.length→(∀l∈lines,l.length=w)→v.length=w→(∀j,j<w→p ∣ dot ms (col lines j)-g v j)→(∀l∈lines,p ∣ dot l t)→p ∣ dot v t
 | [],ms,v,_,_,hv,h,_=>u9 p v t λj hj=>by
  obtain⟨s,hs⟩:=h j (by lia)
  rw[show col ([]:List (List Int)) j=[] from rfl,Fl] at hs
  exact⟨-s,by rw[Int.mul_neg];lia⟩
 | l::lines,[],v,h,_,_,_,_=>by simp at h
 | l::lines,m::ms,v,hm,hl,hv,h,ht=>by
  have hl0:=hl l (by simp)
  have ih:=wY p w t lines ms (less m v l) (by simpa using hm) (λl' h'=>hl l' (by simp[h'])) (by simp[less,hv,hl0]) (λj hj=>by
   obtain⟨s,hs⟩:=h j hj
   rw[show col (l::lines) j=g l j::col lines j from rfl,bQ] at hs
   rw[zi _ _ _ _ (by lia)]
   exact⟨s,by grind⟩) λl' h'=>ht l' (by simp[h'])
  rw[qZ _ _ _ _ (by lia)] at ih
  obtain⟨s,hs⟩:=ih
  obtain⟨u,hu⟩:=ht l (by simp)
  exact⟨s+m*u,by grind⟩
theorem FC{p:Int}{w:Nat}{lines:List (List Int)}{ws ms tv:List Int}(hp:1<p)(hl:∀l∈lines,l.length=w)(hw:ws.length=w)(hm:ms.length=lines.length)(h:∀j,j<w→p ∣ dot ms (col lines j)-g ws j)(h1:∀l∈lines,p ∣ dot l tv)(h2:p ∣ dot ws tv-1):False:=by
 obtain⟨a,ha⟩:=wY p w tv lines ms ws hm hl hw h h1
 obtain⟨b,hb⟩:=h2
 have:p*(a-b)=1:=by grind
 have h3:p ∣ 1:=⟨a-b,this.symm⟩
 have:=Int.le_of_dvd (by lia) h3
 lia
theorem sY(n:Nat):a_ 0 n=(List.range n).map λ(i:Nat)=>(i:Int):=by simp[a_]
theorem Rw.snoc{p:Int}{n:Nat}{r:List Int}{a:Int}(h:Rw p n r)(h0:0≤a)(h1:a<p):Rw p (n+1) (r++[a]) :=
 Rw.append h (k:=1) ⟨rfl,by simp;exact h0,by simp;exact h1⟩
theorem FD(c r:List Int)(a b:Int)(h:c.length=r.length):dot (c++[a]) (r++[b])=dot c r+a*b:=by
 rw[qU _ _ _ _ h];simp[dot]
end Fw.E
namespace Fw.F
open PySem Fw Fw.H Fw.E
abbrev Rows:=List (Int×List Int)
def rt(q:Int×List Int):T:=.tup [.int q.1,tu q.2]
def tb(p:Int)(w:Nat)(rows:Rows):T:=.tup [.int p,.int w,.tup (rows.map rt)]
structure Tbl(p:Int)(w:Nat)(rows:Rows):Prop where
 pr:gg p
 w0:0<w
 w1:w≤12
 n:rows.length≤24
 li:∀q∈rows,Rw p w q.2
def jo:DS :=
 (aA (ah a8 (dUn vP (aF (uj (aa 1) (aa 2)) [none,none] (dg [0,1]) (dC (.bl true)) (ah bJ (aa 0) (aa 1)))) (aa 0)))
def cF:FN:=fnV 3 jo
theorem IF(xs ys:List Int):((xs.zip ys).map λq=>q.1*q.2).sum=dot xs ys:=by
 induction xs generalizing ys with
 | nil=>rfl
 | cons x xs ih =>
  cases ys with
  | nil=>rfl
  | cons y ys=>simp[dot,ih]
theorem wZ(p:Int)(xs ys:List Int)(x y:SV)(μ:af)(hp:0<p)(hx:∀a∈xs,0≤a∧a<1000)(hl:xs.length≤1000)(h1:(rd μ x).bind bu=some (xs.map T.int))(h2:(rd μ y).bind bu=some (ys.map T.int)) :
  cF [.val (.int p),x,y] μ=.ok (.val (.int (dot xs ys%p))) μ:=by
 unfold cF jo
 simp[h1,h2]
 rw[sF,b4 _ (λq:Int×Int=>.int (q.1*q.2)) (by simp)]
 ·rw[R.bE,R.aL,if_pos (by simp[szL];lia)]
  simp only[R.aL,fL,j0]
  rw[v8,IF]
  simp[hp]
 ·rintro⟨a,b⟩ hq
  have hm:=hx a (List.of_mem_zip hq).1
  refine⟨_,rfl,?_⟩
  have:bJ (.int a) (.int b)=some (.int (a*b)):=kO _ _ (by lia) (by lia)
  simp[this]
def parts(p:Int)(rows:Rows)(fs:List Int):List Int:=rows.map λq=>dot q.2 fs%p
def dy(rows:Rows)(i:Nat):Int×List Int:=rows.getD i (0,[])
def rowsOf(rows:Rows)(bV:List Int):List Nat:=(List.range rows.length).filter λi=>decide ((dy rows i).1∈bV)
theorem enum_rows(rows:Rows):dJ 0 (rows.map rt)=(List.range rows.length).map λ(i:Nat)=>.tup [.int (i:Int),rt (dy rows i)]:=by
 apply List.ext_getElem?
 intro i
 rw[v_,List.getElem?_map,List.getElem?_map]
 by_cases h:i<rows.length
 ·rw[List.getElem?_range h,List.getElem?_eq_getElem h]
  simp[dy,h]
 ·rw[List.getElem?_eq_none (by lia),List.getElem?_eq_none (by simp;lia)]
  rfl
def nums(is:List Nat):List Int:=is.map λ(i:Nat)=>(i:Int)
theorem q5(is:List Nat):(is.map λ(i:Nat)=>T.int (i:Int))=(nums is).map T.int:=by simp[nums]
end Fw.F
namespace Fw
open PySem Fw Fw.H Fw.E
theorem IG:fEq (.lst []) (.lst [])=some (.bl true):=mE [] []
theorem IH:fNe (.lst []) (.lst [])=some (.bl false):=vL [] []
theorem L8(x:SV)(μ:af):R.ok x (μ.take μ.length)=R.ok x μ:=by rw[List.take_length]
def stw:=And.intro @gS <| And.intro @ja <| And.intro @uh <| And.intro @xU <| And.intro @DQ <| And.intro @Hk <| And.intro @qd <| And.intro @HH <| And.intro @BX <| And.intro @oA <| And.intro @qr <| And.intro @kP <| And.intro @p9 <| And.intro @nq <| And.intro @gf <| And.intro @c9 <| And.intro @oy <| And.intro @fw <| And.intro @bg <| And.intro @cX <| And.intro @G6 <| And.intro @G5 <| And.intro @K0 <| And.intro @G7 <| And.intro @G8 <| And.intro @ub <| And.intro @i_ <| And.intro @zV <| And.intro @DR <| And.intro @zW <| And.intro @sj <| And.intro @sk <| And.intro @uc <| And.intro @ui <| And.intro @qe <| And.intro @xV <| And.intro @Hl <| And.intro @Ef <| And.intro @nE <| And.intro @Hm <| And.intro @DT <| And.intro @DU <| And.intro @j_ <| And.intro @eh <| And.intro @Eh <| And.intro @j4 <| And.intro @eF <| And.intro @lU <| And.intro @jc <| And.intro @sD <| And.intro @cu <| And.intro @cq <| And.intro @BJ <| And.intro @R.toS_ok <| And.intro @fL <| And.intro @ir <| And.intro @HG <| And.intro @j0 <| And.intro @j3 <| And.intro @toCell_val <| And.intro @fM <| And.intro @nz <| And.intro @mC <| And.intro @p7 <| And.intro @kN <| And.intro @RS.iq <| And.intro @RS.K6 <| And.intro @pB <| And.intro @Hn <| And.intro @uk <| And.intro @HA <| And.intro @BK <| And.intro @gA <| And.intro @xP <| And.intro @eE <| And.intro @jb <| And.intro @DM <| And.intro @DN <| And.intro @j8 <| And.intro @mF <| And.intro @DL <| And.intro @vK <| And.intro @DG <| And.intro @j6 <| And.intro @DH <| And.intro @DK <| And.intro @kO <| And.intro @ud <| And.intro @G_ <| And.intro @Ha <| And.intro @Hb <| And.intro @Hd <| And.intro @Hg <| And.intro @zU <| And.intro @Hh <| And.intro @Hi <| And.intro @mE <| And.intro @vL <| And.intro @IG <| And.intro @IH <| And.intro @L8 <| And.intro @BW <| And.intro @Eg <| And.intro @HF <| And.intro @xR <| And.intro @xS <| And.intro @Ei <| And.intro @R.aP <| And.intro @R.aL <| And.intro @R.bE <| And.intro @vZ <| And.intro @Ac <| @HB
def stc:=And.intro @Option.bind_some.{0,0} <| And.intro @Option.map_some.{0,0} <| And.intro @List.map_cons.{0,0} <| And.intro @List.map_nil.{0,0} <| And.intro @List.length_cons.{0} <| And.intro @List.length_nil.{0} <| And.intro @List.cons_append.{0} <| And.intro @List.nil_append.{0} <| And.intro @List.replicate_succ.{0} <| And.intro @List.replicate_zero.{0} <| And.intro @List.set_cons_succ.{0} <| And.intro @List.set_cons_zero.{0} <| And.intro @List.getElem?_cons_zero.{0} <| And.intro @List.getElem?_cons_succ.{0} <| And.intro @List.take_zero.{0} <| And.intro @List.take_nil.{0} <| And.intro @beq_self_eq_true.{0} <| And.intro @if_false.{1} <| And.intro @if_true.{1} <| And.intro @Bool.false_eq_true <| And.intro @Bool.not_true <| @Bool.not_false
end Fw
local macro_rules
  | `(tactic| simp?! only [$ls,*]) => `(tactic| simp (disch := first | decide | omega | assumption) only [Fw.stw, Fw.stc, Nat.reduceAdd, Nat.reduceSub, $ls,*])
namespace Fw
open PySem Fw Fw.H Fw.E
end Fw
local macro_rules
 | `(tactic| simp! only [$ls,*]) => do
  let mut xs:Array (Lean.TSyntax `Lean.Parser.Tactic.simpLemma):=#[]
  for n in "Mx My Mz N7 MA N8 MB MC OO LM Iy JH MD ME MF MG N9 JI JJ LN N_ LO LP Oa MH LQ JK JL Gx JM JN MI Ob MJ MK ML MN LR LS LU DQ qd HH BX oA qr p9 G7 DR zW sj sk uc qe xV Hl Ef nE eh Eh eF lU jc sD BJ ir HG toCell_val nz RS.K6 pB Hn uk HA BK gA xP eE jb DM DN j8 mF DL vK DG j6 DH DK kO ud G_ Ha Hb Hd Hg zU Hh Hi mE vL IG IH L8 BW Eg HF xR xS Ei vZ Ac HB".splitOn " " do xs := xs.push (← `(Lean.Parser.Tactic.simpLemma| $(Lean.mkIdent (`Fw ++ n.toName)):term))
  `(tactic| simp (disch := first | decide | omega | assumption) only [$(xs),*, Fw.stc, Nat.reduceAdd, Nat.reduceSub, $ls,*])
local macro_rules
 | `(tactic| dsimp! only [$ls,*]) => do
  let mut xs:Array (Lean.TSyntax `Lean.Parser.Tactic.simpLemma):=#[]
  for n in "JI JJ MC OO N_ MH Oa gS ja uh xU DQ Hk qd HH BX oA qr kP p9 nq gf fw bg cX G6 G5 K0 G7 G8 ub i_ zV DR zW sj sk uc ui qe xV Hl Ef nE Hm DT DU j_ eh Eh j4 eF lU jc sD BJ R.toS_ok ir HG j0 j3 toCell_val nz p7 kN RS.iq RS.K6 pB Hn uk HA BK gA xP eE jb DM DN j8 mF DL vK DG j6 DH DK kO ud G_ Ha Hb Hd Hg zU Hh Hi mE vL IG IH L8 BW Eg HF xR xS Ei R.aP R.aL R.bE vZ Ac HB".splitOn " " do xs := xs.push (← `(Lean.Parser.Tactic.simpLemma| $(Lean.mkIdent (`Fw ++ n.toName)):term))
  `(tactic| simp (disch := first | decide | omega | assumption) only [$(xs),*, Fw.stc, Nat.reduceAdd, Nat.reduceSub, $ls,*])
namespace Fw.U
open PySem Fw Builtin.Str
end Fw.U
namespace Fw.F
open PySem Fw Fw.H Fw.E
def fh:FN:=fnK 11 E.iy
def ml:DS :=
 (aA (aF (qt (ax (aa 0) (dC (.int 2)))) [none,none,some 1] (dg [0,1]) (ah fIn (ax (aa 1) (dC (.int 0))) (aa 2)) (aa 0)))
def b8:FN:=fnV 2 ml
def eY:DS :=
 (aA (aF (aY (aa 1)) [none,some 0] (aw 0) (dC (.bl true)) (ax (ax (ax (aa 1) (dC (.int 2))) (aa 0)) (dC (.int 1)))))
def cm:FN:=fnV 2 eY
def c5:DS :=
 (aA (dUn bh (aF (aQ (aa 0)) [none] (aw 0) (dC (.bl true)) (DF (ah fEq (aa 0) (dC (.int 0))) (dC (.int 1)) (dC (.int 0))))))
def bZ:FN:=fnV 1 c5
def eB:DS :=
 (ar (ay 2 (ak (cal fh) [(ax (aa 0) (dC (.int 0))),(ax (aa 0) (dC (.int 1))),(ak (cal cm) [(aa 0),(aa 1)]),(ak (cal bZ) [(ax (aa 0) (dC (.int 1)))])]))
 (ar (sIf (ah fEq (ax (aa 2) (dC (.int 0))) (dC (.str "sum"))) (aA (fN [(dC (.str "open")),(ax (aa 2) (dC (.int 1)))])) bA)
 (aA (fN [(dC (.str "shut")),(ax (aa 2) (dC (.int 1)))]))))
def bc:FN:=fnK 3 eB
def dU:DS :=
 (aA (ak (cal bc) [(aa 0),(ak (cal b8) [(aa 0),(aa 1)])]))
theorem sZ{p:Int}{w:Nat}{rows:Rows}(hn:rows.length≤24)(bV:List Int)(y:SV)(μ:af)(h2:rd μ y=some (.lst (bV.map T.int))) :
  b8 [.val (tb p w rows),y] μ=.ok (.val (li (nums (rowsOf rows bV)))) μ:=by
 unfold b8 ml tb
 simp! only[h2]
 rw[enum_rows,eK (λ(i:Nat)=>.tup [.int (i:Int),rt (dy rows i)]) (λi=>decide ((dy rows i).1∈bV)) (λ(i:Nat)=>.int (i:Int)) (by simp)]
 ·rw[R.bE,R.aL,if_pos (by simp[szL];lia)]
  simp! only[]
  rw[q5]
  rfl
 ·intro i hi
  refine⟨_,eh 0 1 _ _ _,?_,λ_=>?_⟩
  ·simp! only[rt,h2,iS]
  ·simp! only[]
def linesAt(rows:Rows)(is:List Nat):List (List Int):=is.map λi=>(dy rows i).2
theorem w5{p:Int}{w:Nat}{rows:Rows}(is:List Nat)(hi:∀i∈is,i<rows.length)(hl:is.length≤1000)(y:SV)(μ:af)(h2:rd μ y=some (li (nums is))) :
  cm [.val (tb p w rows),y] μ=.ok (.val (.lst ((linesAt rows is).map tu))) μ:=by
 unfold cm eY
 simp! only[h2]
 rw[← q5,b4 (λ(i:Nat)=>.int (i:Int)) (λ(i:Nat)=>tu (dy rows i).2) (by simp[h2])]
 ·rw[R.bE,R.aL,if_pos (by simp[szL];lia)]
  simp! only[]
  simp[linesAt,Function.comp_def]
 ·intro i hm
  have hlt:=hi i hm
  have a1:atI (rows.map rt) (i:Int)=some (rt (dy rows i)):=by
   rw[ji (by lia) (by lia)]
   simp[dy,hlt]
  refine⟨_,rfl,?_⟩
  unfold tb
  simp! only[a1,rt]
theorem II(w:Nat)(h:0<w):eu w 0=1::List.replicate (w-1) 0:=by
 obtain⟨n,rfl⟩:∃n,w=n+1:=⟨w-1,by lia⟩
 simp[eu,List.replicate_succ]
theorem CG(w:Nat)(h:0<w)(h2:w≤1000)(μ:af):bZ [.val (.int w)] μ=.ok (.val (tu (eu w 0))) μ:=by
 unfold bZ c5
 have hr:c_ (w:Int)=true:=dN (by lia) (by lia)
 dsimp! only[hr]
 rw[gH,sE (λk=>.int (if k=0 then 1 else 0)) trivial]
 ·rw[R.bE,R.aL,if_pos (by simp[szL];lia)]
  dsimp! only[]
  have e:((a_ 0 (w:Int).toNat).map λk=>T.int (if k=0 then 1 else 0))=(eu w 0).map T.int:=by
   rw[sY,Int.toNat_natCast,II w h]
   obtain⟨n,rfl⟩:∃n,w=n+1:=⟨w-1,by lia⟩
   rw[List.range_succ_eq_map]
   simp only[List.map_cons,List.map_map,Nat.add_sub_cancel,List.map_replicate]
   refine congr (congrArg _ rfl) ?_
   refine List.eq_replicate_iff.mpr ⟨by simp,λb hb=>?_⟩
   obtain⟨k,_,rfl⟩:=List.mem_map.mp hb
   show T.int (if ((Nat.succ k:Nat):Int)=0 then 1 else 0)=_
   rw[if_neg (by lia)]
  rw[e]
 ·intro k hk
  refine⟨_,rfl,?_⟩
  dsimp! only[]
  by_cases hk0:k=0
  ·subst hk0;rfl
  ·rw[if_neg (by simpa using hk0),if_neg hk0]
inductive Opened(p:Int)(w:Nat)(lines:List (List Int))(μ:af):R SV→Prop where
 | FE (c:T) (tv:List Int) (h:Rw p w tv) (h1:∀l∈lines,p ∣ dot l tv) (h2:g tv 0=1):Opened p w lines μ (.ok (.box [.inl (.str "shut"),.inl (tu tv)]) (μ++[(true,c)]))
 | opn (c:T) (ms:List Int) (h:Rw p lines.length ms) (h1:∀j,j<w→p ∣ dot ms (col lines j)-g (eu w 0) j):Opened p w lines μ (.ok (.box [.inl (.str "open"),.inr (μ.length+1)]) (μ++[(true,c),(true,li ms)]))
theorem IJ{p:Int}{w:Nat}{rows:Rows}(H:Tbl p w rows){i:Nat}(h:i<rows.length):Rw p w (dy rows i).2:=by
 have:dy rows i=rows[i]:=by simp[dy,h]
 rw[this];exact H.li _ (List.getElem_mem h)
theorem jC{p:Int}{w:Nat}{rows:Rows}(H:Tbl p w rows){is:List Nat}(hi:∀i∈is,i<rows.length):∀l∈linesAt rows is,Rw p w l:=λl hl=>by
 obtain⟨i,hm,rfl⟩:=List.mem_map.mp hl
 exact IJ H (hi i hm)
theorem JQ{p:Int}(hp:1<p)(w k:Nat):Rw p w (eu w k):=Rw.set (qY hp w) (by lia) (by lia)
theorem L9{p x:Int}(hp:1<p)(h0:0≤x)(h1:x<p)(h:p ∣ x-1):x=1:=by
 obtain⟨k,hk⟩:=h
 rcases Int.lt_trichotomy k 0 with z|z|z
 ·have:p*k≤p*(-1):=Int.mul_le_mul_of_nonneg_left (by lia) (by lia)
  lia
 ·subst z;lia
 ·have:p*1≤p*k:=Int.mul_le_mul_of_nonneg_left (by lia) (by lia)
  lia
theorem AN{p:Int}{w:Nat}{rows:Rows}(H:Tbl p w rows)(is:List Nat)(hi:∀i∈is,i<rows.length)(hl:is.length≤100)(y:SV)(μ:af)(h2:rd μ y=some (li (nums is))) :
  Opened p w (linesAt rows is) μ (bc [.val (tb p w rows),y] μ):=by
 have hb:=H.pr.pos
 have hp0:0<p:=Int.lt_of_lt_of_le (by decide) hb.1
 have hw:=H.w1
 have e1:=w5 (p:=p) (w:=w) is hi (by lia) y μ h2
 have e2:=CG w H.w0 (by lia) μ
 have hL:=jC H hi
 have hh:=AM H.pr hL (JQ (by lia) w 0) (by simp[linesAt];lia) (by lia) (.val (.lst ((linesAt rows is).map tu))) μ (λ_=>rfl)
 unfold bc eB tb
 unfold tb at e1
 dsimp! only[e1,e2]
 generalize hr:E.iy (starts 11 [.val (.int p),.val (.int w),.val (.lst ((linesAt rows is).map tu)),.val (tu (eu w 0))]) μ=r at hh
 have hf:∀r',r.lT=r'→fh [.val (.int p),.val (.int w),.val (.lst ((linesAt rows is).map tu)),.val (tu (eu w 0))] μ=r':=λr' h=>by
  rw[← h,← hr];rfl
 cases hh with
 | turn c tv h h1 h3 =>
  rw[hf _ rfl]
  have hp0:tv.length=w:=h.1
  have h4:g tv 0=1:=by
   rw[kH w 0 tv H.w0] at h3
   have:=h.g0 (p:=p) (by lia) 0
   exact L9 (by lia) this.1 this.2 h3
  have s1:((Str.ofString "turn")==(Str.ofString "sum"))=false:=by decide
  dsimp! only[pick,s1]
  exact .FE c tv h h1 h4
 | sum c ms h h1 =>
  rw[hf _ rfl]
  dsimp! only[pick]
  exact .opn c ms h h1
structure Sq(μ:af)(x:SV)(xs:List Int):Prop where
 len:ny μ x=some (.int xs.length)
 at_:∀k:Int,0≤k→k<xs.length→iM μ x (.int k)=some (.val (.int (g xs k.toNat)))
 it:(rd μ x).bind bu=some (xs.map T.int)
theorem Oq(μ:af)(xs:List Int):Sq μ (.val (li xs)) xs:=⟨by simp,λk h0 h1=>by rw[j8,atg h0 h1];rfl,rfl⟩
theorem q_(p:Int)(w:Nat)(fs:List Int):∀(lines:List (List Int)) (ms v:List Int),ms.length=lines.length→(∀l∈lines,l.length=w)→v.length=w→(∀j,j<w→p ∣ dot ms (col lines j)-g v j)→p ∣ dot ms (lines.map λl=>dot l fs)-dot v fs
 | [],ms,v,hm,_,hv,h=>by
  have e:ms=[]:=List.length_eq_zero_iff.mp (by simpa using hm)
  subst e
  have:=u9 p v fs λj hj=>by
   obtain⟨k,hk⟩:=h j (by lia)
   exact⟨-k,by simp[col,dot] at hk;grind⟩
  obtain⟨k,hk⟩:=this
  exact⟨-k,by simp[dot];grind⟩
 | l::lines,[],v,hm,_,_,_=>by simp at hm
 | l::lines,m::ms,v,hm,hl,hv,h=>by
  have hll:=hl l (by simp)
  have ih:=q_ p w fs lines ms (less m v l) (by simpa using hm) (λl' h'=>hl l' (by simp[h'])) (by simp[less,hv,hll]) λj hj=>by
   obtain⟨k,hk⟩:=h j hj
   rw[zi m v l j (by rw[hv,hll])]
   simp only[col,List.map_cons,dot] at hk
   exact⟨k,by simp only[col];grind⟩
  obtain⟨k,hk⟩:=ih
  rw[qZ m v l fs (by rw[hv,hll])] at hk
  exact⟨k,by rw[List.map_cons,dot];grind⟩
theorem IK(c m:Int)(n:Nat)(μ:af)(hm:0<m)(hm2:m<1000000)(hn2:n≤1000):∃r,fnV 6 H.Em [.val (.int c),.val (.int m),.val (.int n)] μ=.ok (.val (li r)) μ∧Rw m n r:=by
 obtain⟨r,h,R⟩:=H.ye c m n μ hm hm2 (by lia) (by lia)
 exact⟨r,h,by have:=R.len;lia,R.lo,R.hi⟩
theorem s_{rows:Rows}{bV:List Int}:∀i∈rowsOf rows bV,i<rows.length:=λi hi=>List.mem_range.mp (List.mem_filter.mp hi).1
theorem zj(rows:Rows)(bV:List Int):(rowsOf rows bV).length≤rows.length:=Nat.le_trans (List.length_filter_le _ _) (by simp)
theorem L_{p:Int}{w:Nat}{rows:Rows}(H:Tbl p w rows)(bV:List Int)(y:SV)(μ:af)(h2:rd μ y=some (li bV)) :
  Opened p w (linesAt rows (rowsOf rows bV)) μ (fnK 2 dU [.val (tb p w rows),y] μ):=by
 have hn:=H.n
 have e1:=sZ (p:=p) (w:=w) H.n bV y μ h2
 have ho:=AN H (rowsOf rows bV) s_ (by have:=zj rows bV;lia) (.val (li (nums (rowsOf rows bV)))) μ rfl
 unfold dU
 simp! only[e1]
 generalize bc [.val (tb p w rows),.val (li (nums (rowsOf rows bV)))] μ=r at ho
 cases ho with
 | FE c tv h h1 h2=>exact .FE c tv h h1 h2
 | opn c ms h h1=>exact .opn c ms h h1
theorem zk{p:Int}{w:Nat}{rows:Rows}(H:Tbl p w rows)(bV:List Int)(y:SV)(μ:af)(h2:rd μ y=some (li bV)) :
  (∃tv,fnV 2 dU [.val (tb p w rows),y] μ=.ok (.val (.tup [.str "shut",tu tv])) μ∧Rw p w tv∧(∀l∈linesAt rows (rowsOf rows bV),p ∣ dot l tv)∧g tv 0=1) ∨
  ∃ms,fnV 2 dU [.val (tb p w rows),y] μ=.ok (.val (.tup [.str "open",li ms])) μ∧Rw p (linesAt rows (rowsOf rows bV)).length ms∧∀j,j<w→p ∣ dot ms (col (linesAt rows (rowsOf rows bV)) j)-g (eu w 0) j:=by
 have h:=L_ H bV y μ h2
 rw[jc] at h
 rw[eF]
 generalize dU (starts 2 [.val (tb p w rows),y]) μ=r at h ⊢
 cases r with
 | rt x μ' =>
  rw[uk] at h
  rw[pB]
  generalize hq:R.ok x μ'=q at h
  cases h with
  | FE c tv h h1 h2 =>
   cases hq
   exact .inl ⟨tv,by simp[ice,frz,gx,oU],h,h1,h2⟩
  | opn c ms h h1 =>
   cases hq
   exact .inr ⟨ms,by simp[ice,frz,gx,oU],h,h1⟩
 | nx e μ'=>generalize hq:(RS.nx e μ').lT=q at h;cases h<;>cases hq
 | bk e μ'=>generalize hq:(RS.bk e μ').lT=q at h;cases h<;>cases hq
 | ct e μ'=>generalize hq:(RS.ct e μ').lT=q at h;cases h<;>cases hq
 | err c e μ'=>generalize hq:(RS.err c e μ').lT=q at h;cases h<;>cases hq
 | bad=>generalize hq:RS.bad.lT=q at h;cases h<;>cases hq
end Fw.F
namespace Fw.J
open PySem Fw Fw.H Fw.E Fw.F
end Fw.J
namespace Fw.U
open PySem Fw Fw.H Fw.E
abbrev hnd(h:Int):T:=.tup [.str "hand",.int h]
abbrev som(k:Int)(rs:List T):T:=.tup [.str "some",.int k,.tup rs]
def IsR:Nat→T→Prop
 | 0,t=>∃h:Int,0≤h∧h<10∧t=hnd h
 | d+1,t=>(∃h:Int,0≤h∧h<10∧t=hnd h)∨∃(k:Int) (r:T) (rs:List T),t=som k (r::rs)∧1≤k∧k≤rs.length+1∧rs.length+1≤10∧∀x∈r::rs,IsR d x
def hHd:T→List Int
 | .tup [_,.int h]=>[h]
 | _=>[]
def hwd:Nat→T→List Int
 | 0,t=>hHd t
 | d+1,t=>match t with
  | .tup [_,.int _,.tup rs]=>rs.flatMap (hwd d)
  | t=>hHd t
def JR(hs:List Int):T→Bool
 | .tup [_,.int h]=>decide (h∈hs)
 | _=>false
def b9(hs:List Int):Nat→T→Bool
 | 0,t=>JR hs t
 | d+1,t=>match t with
  | .tup [_,.int k,.tup rs]=>decide (k≤((rs.filter (b9 hs d)).length:Int))
  | t=>JR hs t
theorem cS(hs:List Int)(d:Nat)(h:Int):b9 hs d (hnd h)=decide (h∈hs):=by cases d<;>rfl
theorem ig(hs:List Int)(d:Nat)(k:Int)(rs:List T):b9 hs (d+1) (som k rs)=decide (k≤((rs.filter (b9 hs d)).length:Int)):=rfl
theorem w6:(("some":Str)=="hand")=false:=by decide +kernel
def iW:DS:=(aA (ah fEq (ax (aa 0) (dC (.int 0))) (dC (.str "hand"))))
def bo:FN:=fnV 1 iW
theorem kI(h:Int)(μ:af):bo [.val (hnd h)] μ=.ok (.val (.bl true)) μ:=by unfold bo iW;simp?! only[]
theorem u_(k:Int)(rs:List T)(μ:af):bo [.val (som k rs)] μ=.ok (.val (.bl false)) μ:=by unfold bo iW;simp?! only[w6]
def nQ(nR:FN):DS :=
 (ar (sIf (ak (cal bo) [(aa 0)]) (aA (ah fIn (ax (aa 0) (dC (.int 1))) (aa 1))) bA)
 (aA (ah fGe (gz (aF (aY (ax (aa 0) (dC (.int 2)))) [none,some 1] (aw 0) (ak (cal nR) [(aa 0),(aa 1)]) (aa 0))) (ax (aa 0) (dC (.int 1))))))
theorem IL{F:Nat→FN}(hF:∀n,F (n+1)=fnV 2 (nQ (F n))):∀(d n:Nat) (t:T),IsR d t→d≤n→∀(μ:af) (v:SV) (hs:List Int),rd μ v=some (li hs)→F (n+1) [.val t,v] μ=.ok (.val (.bl (b9 hs d t))) μ:=by
 intro d
 induction d with
 | zero =>
  rintro n t ⟨h,_,_,rfl⟩ hn μ v hs hv
  rw[hF,cS]
  unfold nQ
  simp?! only[kI,hv,iS]
 | succ d ih =>
  rintro n t ht hn μ v hs hv
  obtain⟨m,rfl⟩:∃m,n=m+1:=⟨n-1,by lia⟩
  rcases ht with ⟨h,_,_,rfl⟩|⟨k,r,rs,rfl,h1,h2,h3,h4⟩
  ·rw[hF,cS]
   unfold nQ
   simp?! only[kI,hv,iS]
  ·have hc:=λ(same:af→Prop) (hs':same μ)=>qq (same:=same) (b:=aw 0) (c:=ak (cal (F (m+1))) [(aa 0),(aa 1)]) (d:=aa 0) (e:=[none,some v]) (μ:=μ) (b9 hs d) id hs' (r::rs) λx hx=>by
    refine⟨_,rfl,?_,λ_=>?_⟩
    ·simp?! only[ih m x (h4 x hx) (by lia) μ v hs hv]
    ·simp?! only[id]
   rw[hF,ig]
   unfold nQ
   simp?! only[u_]
   rw[hc]
   ·rw[R.bE,R.aL,if_pos (by simp[szL];lia)]
    simp?! only[List.map_id]
   ·trivial
theorem va(d:Nat)(h:Int):hwd d (hnd h)=[h]:=by cases d<;>rfl
theorem AO(d:Nat)(k:Int)(rs:List T):hwd (d+1) (som k rs)=rs.flatMap (hwd d):=rfl
theorem zl(μ:af)(ts us:List T)(hl:ts.length+us.length≤szL):gI (.cel μ.length) (.lst us) (μ++[(true,.lst ts)])=some (μ++[(true,.lst (ts++us))]):=by
 unfold gI
 simp only[gX]
 rw[if_pos hl]
 simp
end Fw.U
namespace Fw.J
open PySem Fw Fw.H Fw.E Fw.F
def w8:DS :=
 (aA (aF (aY (ax (aa 0) (dC (.int 2)))) [none,some 1,some 0] (aw 0) (dC (.bl true)) (ak (cal cF) [(ax (aa 2) (dC (.int 0))),(ax (aa 0) (dC (.int 1))),(aa 1)])))
theorem IM{p:Int}{w:Nat}{rows:Rows}(H:Tbl p w rows)(fs:List Int)(y:SV)(μ:af)(h2:(rd μ y).bind bu=some (fs.map T.int)) :
  fnV 2 w8 [.val (tb p w rows),y] μ=.ok (.val (li (parts p rows fs))) μ:=by
 have hb:=H.pr.pos
 have hn:=H.n
 have hw:=H.w1
 have e:bM (λ_=>True) (aw 0) (dC (.bl true)) (ak (cal cF) [(ax (aa 2) (dC (.int 0))),(ax (aa 0) (dC (.int 1))),(aa 1)]) [none,some y,some (.val (.tup [.int p,.int w,.tup (rows.map rt)]))] (rows.map rt) μ=.ok ((parts p rows fs).map T.int) μ:=by
  rw[b4 rt (λq:Int×List Int=>.int (dot q.2 fs%p)) trivial]
  ·simp[parts,Function.comp_def]
  ·rintro⟨h,l⟩ hq
   refine⟨_,rfl,?_⟩
   have hR:=H.li _ hq
   have:=wZ p l fs (.val (tu l)) y μ (by lia) (λa ha=>⟨hR.2 a ha,by have:=hR.3 a ha;lia⟩) (by have h3:l.length=w:=hR.1;lia) rfl h2
   simp?! only[rt,this]
 have ls:(rows.map rt).length≤szL:=by rw[List.length_map];unfold szL;lia
 unfold w8 tb
 simp?! only[e,ls]
end Fw.J
namespace Fw.K
open PySem Fw Fw.H Fw.E Fw.F Fw.J
end Fw.K
namespace Fw.U
open PySem Fw Fw.H Fw.E
def trn:Nat→T→T
 | 0,t=>t
 | d+1,t=>match t with
  | .tup [_,.int k,.tup rs]=>som ((rs.length:Int)-k+1) (rs.map (trn d))
  | t=>t
theorem pP(d:Nat)(h:Int):trn d (hnd h)=hnd h:=by cases d<;>rfl
theorem vb(d:Nat)(k:Int)(rs:List T):trn (d+1) (som k rs)=som ((rs.length:Int)-k+1) (rs.map (trn d)):=rfl
theorem Ma:∀(d:Nat) (t:T),IsR d t→IsR d (trn d t):=by
 intro d
 induction d with
 | zero=>intro t h;exact h
 | succ d ih =>
  rintro t (⟨h,h0,h1,rfl⟩|⟨k,r,rs,rfl,h1,h2,h3,h4⟩)
  ·rw[pP];exact .inl ⟨h,h0,h1,rfl⟩
  ·rw[vb]
   refine .inr ⟨_,trn d r,rs.map (trn d),rfl,?_,?_,by simpa using h3,?_⟩
   ·simp only[List.length_cons];lia
   ·simp only[List.length_cons,List.length_map];lia
   ·intro x hx
    have hx:x∈(r::rs).map (trn d):=hx
    obtain⟨y,hy,rfl⟩:=List.mem_map.mp hx
    exact ih y (h4 y hy)
theorem FG{hs os:List Int}(ho:∀h:Int,0≤h→h<10→(h∈hs↔¬ h∈os)):∀(d:Nat) (t:T),IsR d t→b9 hs d (trn d t)=!b9 os d t:=by
 intro d
 induction d with
 | zero =>
  rintro t ⟨h,h0,h1,rfl⟩
  show b9 hs 0 (hnd h)=_
  rw[cS,cS]
  have:=ho h h0 h1
  by_cases c:h∈os
  ·rw[decide_eq_true c,decide_eq_false (λz=>this.mp z c)];rfl
  ·rw[decide_eq_false c,decide_eq_true (this.mpr c)];rfl
 | succ d ih =>
  rintro t (⟨h,h0,h1,rfl⟩|⟨k,r,rs,rfl,h1,h2,h3,h4⟩)
  ·rw[pP,cS,cS]
   have:=ho h h0 h1
   by_cases c:h∈os
   ·rw[decide_eq_true c,decide_eq_false (λz=>this.mp z c)];rfl
   ·rw[decide_eq_false c,decide_eq_true (this.mpr c)];rfl
  ·have key:∀l:List T,(∀x∈l,IsR d x)→((l.map (trn d)).filter (b9 hs d)).length+(l.filter (b9 os d)).length=l.length:=by
    intro l
    induction l with
    | nil=>intro _;rfl
    | cons a l il =>
     intro hl
     have e1:=ih a (hl a List.mem_cons_self)
     have e2:=il λx hx=>hl x (List.mem_cons_of_mem _ hx)
     rw[List.map_cons,List.filter_cons,List.filter_cons,e1]
     cases b9 os d a<;>simp<;>lia
   have:=key (r::rs) h4
   rw[vb,ig,ig]
   by_cases c:k≤(((r::rs).filter (b9 os d)).length:Int)
   ·rw[decide_eq_true c,decide_eq_false (by simp only[List.length_cons] at this ⊢;lia)];rfl
   ·rw[decide_eq_false c,decide_eq_true (by simp only[List.length_cons] at this ⊢;lia)];rfl
def cY(eX:FN):DS :=
 (ar (sIf (ak (cal bo) [(aa 0)]) (aA (cV [(dC (.str "hand")),(ax (aa 0) (dC (.int 1)))])) bA)
 (ar (ay 1 (dUn bh (aF (aY (ax (aa 0) (dC (.int 2)))) [none] (aw 0) (dC (.bl true)) (ak (cal eX) [(aa 0)]))))
 (aA (cV [(dC (.str "some")),(ah aO (ah oV (gz (aa 1)) (ax (aa 0) (dC (.int 1)))) (dC (.int 1))),(aa 1)]))))
theorem IP{F:Nat→FN}(hF:∀n,F (n+1)=fnV 2 (cY (F n))):∀(d n:Nat) (t:T),IsR d t→d≤n→∀(μ:af),F (n+1) [.val t] μ=.ok (.val (trn d t)) μ:=by
 intro d
 induction d with
 | zero =>
  rintro n t ⟨h,h0,h1,rfl⟩ hn μ
  rw[hF,pP]
  unfold cY
  simp?! only[kI]
 | succ d ih =>
  rintro n t ht hn μ
  obtain⟨m,rfl⟩:∃m,n=m+1:=⟨n-1,by lia⟩
  rcases ht with ⟨h,h0,h1,rfl⟩|⟨k,r,rs,rfl,h1,h2,h3,h4⟩
  ·rw[hF,pP]
   unfold cY
   simp?! only[kI]
  ·have hc:=λ(same:af→Prop) (hs':same μ)=>b4 (same:=same) (b:=aw 0) (d:=ak (cal (F (m+1))) [(aa 0)]) (e:=[none]) (μ:=μ) (id:T→T) (λx=>trn d x) hs' (r::rs) λx hx=>by
    refine⟨_,rfl,?_⟩
    simp?! only[ih m x (h4 x hx) (by lia) μ,id]
   rw[List.map_id] at hc
   have e3:aF (aY (ax (aa 0) (dC (.int 2)))) [none] (aw 0) (dC (.bl true)) (ak (cal (F (m+1))) [(aa 0)]) [some (.val (som k (r::rs))),none] μ=.ok (.val (.lst ((r::rs).map λx=>trn d x))) μ:=by
    simp?! only[]
    rw[hc]
    ·rw[R.bE,R.aL,if_pos (by simp[szL];lia)];rfl
    ·trivial
   have e4:dUn bh (aF (aY (ax (aa 0) (dC (.int 2)))) [none] (aw 0) (dC (.bl true)) (ak (cal (F (m+1))) [(aa 0)])) [some (.val (som k (r::rs))),none] μ=.ok (.val (.tup ((r::rs).map λx=>trn d x))) μ:=by
    rw[nq,e3,R.aL,fL,j0,gA];rfl
   generalize hq:dUn bh (aF (aY (ax (aa 0) (dC (.int 2)))) [none] (aw 0) (dC (.bl true)) (ak (cal (F (m+1))) [(aa 0)]))=D at e4
   rw[hF,vb]
   unfold cY
   rw[hq]
   simp?! only[u_,e4,List.length_map]
end Fw.U
namespace Fw.J
open PySem Fw Fw.H Fw.E Fw.F
def pol(x:Int):List Int→Int
 | []=>0
 | c::cs=>c+x*pol x cs
theorem Mb{p a b:Int}(hP:gg p)(h:p ∣ a*b)(ha:¬ p ∣ a):p ∣ b:=by
 have h0:a%p≠0:=λz=>ha (Int.dvd_of_emod_eq_zero z)
 obtain⟨y,_,_,_,yz⟩:=pO hP 1 a [] h0
 obtain⟨s,hs⟩:=Int.dvd_of_emod_eq_zero yz
 obtain⟨t,ht⟩:=h
 exact⟨y*t-b*s,by grind⟩
theorem rf(x:Int):∀cs,pol x (cs++[0])=pol x cs
 | []=>by simp[pol]
 | c::cs=>by rw[List.cons_append,pol,rf x cs,pol]
theorem AQ{p a b:Int}(h:p ∣ a-b):p ∣ a↔p ∣ b:=by
 obtain⟨k,hk⟩:=h
 constructor
 ·rintro⟨t,ht⟩
  exact⟨t-k,by grind⟩
 ·rintro⟨t,ht⟩
  exact⟨t+k,by grind⟩
theorem small{p k:Int}(hp:0<p)(h:p ∣ k)(h1:-p<k)(h2:k<p):k=0:=by
 obtain⟨t,ht⟩:=h
 have:t=0∨1≤t∨t≤-1:=by omega
 rcases this with z|z|z
 ·subst z;omega
 ·have:p*1≤p*t:=Int.mul_le_mul_of_nonneg_left z (by omega)
  omega
 ·have:p*t≤p*(-1):=Int.mul_le_mul_of_nonneg_left z (by omega)
  omega
def quo(a:Int):List Int→List Int
 | []=>[]
 | [_]=>[]
 | _::d::ds=>pol a (d::ds)::quo a (d::ds)
theorem vc(a:Int):∀cs,(quo a cs).length=cs.length-1
 | []=>rfl
 | [_]=>rfl
 | _::d::ds=>by rw[quo,List.length_cons,vc a (d::ds)];simp
theorem FH(a x:Int):∀cs,pol x cs-pol a cs=(x-a)*pol x (quo a cs)
 | []=>by simp[quo,pol]
 | [c]=>by simp[quo,pol]
 | c::d::ds=>by
  have ih:=FH a x (d::ds)
  have e1:pol x (c::d::ds)=c+x*pol x (d::ds):=rfl
  have e2:pol a (c::d::ds)=c+a*pol a (d::ds):=rfl
  have e3:pol x (quo a (c::d::ds))=pol a (d::ds)+x*pol x (quo a (d::ds)):=rfl
  rw[e1,e2,e3]
  generalize pol x (d::ds)=u at ih ⊢
  generalize pol a (d::ds)=v at ih ⊢
  generalize pol x (quo a (d::ds))=q at ih ⊢
  grind
theorem w_{p:Int}(a:Int):∀cs,(∀q∈quo a cs,p ∣ q)→p ∣ pol a cs→∀c∈cs,p ∣ c
 | [],_,_=>by simp
 | [c],_,h=>by
  intro d hd
  have:d=c:=by simpa using hd
  rw[this]
  simpa [pol] using h
 | c::d::ds,hq,h=>by
  rw[quo] at hq
  have hg:p ∣ pol a (d::ds):=hq _ List.mem_cons_self
  have ih:=w_ a (d::ds) (λq hm=>hq q (List.mem_cons_of_mem _ hm)) hg
  intro e he
  rcases List.mem_cons.mp he with z|z
  ·rw[z]
   obtain⟨k,hk⟩:=h
   obtain⟨t,ht⟩:=hg
   rw[pol] at hk
   exact⟨k-a*t,by grind⟩
  ·exact ih e z
theorem xa{p:Int}(hP:gg p):∀(n:Nat) (cs xs:List Int),cs.length=n→cs.length≤xs.length→xs.Nodup→(∀x∈xs,0≤x∧x<p)→(∀x∈xs,p ∣ pol x cs)→∀c∈cs,p ∣ c
 | 0,cs,xs,h0,_,_,_,_=>by
  have:cs=[]:=List.eq_nil_of_length_eq_zero h0
  subst this
  simp
 | n+1,cs,[],h0,hl,_,_,_=>by rw[h0] at hl;simp at hl
 | n+1,cs,a::xs,h0,hl,hd,hx,hz=>by
  have hb:=hP.pos
  obtain⟨hd1,hd2⟩:=List.nodup_cons.mp hd
  refine w_ a cs (xa hP n (quo a cs) xs (by rw[vc];omega) (by rw[vc];simp at hl;omega) hd2 (λx h=>hx x (List.mem_cons_of_mem _ h)) λx h=>?_) (hz a List.mem_cons_self)
  have e:=FH a x cs
  obtain⟨u,hu⟩:=hz x (List.mem_cons_of_mem _ h)
  obtain⟨v,hv⟩:=hz a List.mem_cons_self
  have h1:=hx x (List.mem_cons_of_mem _ h)
  have h2:=hx a List.mem_cons_self
  refine Mb (a:=x-a) hP ⟨u-v,by grind⟩ λhk=>?_
  have:=small (by omega) hk (by omega) (by omega)
  have:x=a:=by omega
  exact hd1 (this ▸ h)
def sbl:List Int→List Int→List Int
 | c::cs,d::ds=>(c-d)::sbl cs ds
 | _,_=>[]
theorem AR:∀(cs ds:List Int),cs.length=ds.length→(sbl cs ds).length=cs.length
 | [],[],_=>rfl
 | c::cs,d::ds,h=>by rw[sbl,List.length_cons,AR cs ds (by simpa using h),List.length_cons]
theorem AS(x:Int):∀(cs ds:List Int),cs.length=ds.length→pol x (sbl cs ds)=pol x cs-pol x ds
 | [],[],_=>by simp[sbl,pol]
 | c::cs,d::ds,h=>by
  have ih:=AS x cs ds (by simpa using h)
  rw[sbl,pol,pol,pol,ih]
  grind
end Fw.J
namespace Fw.Sets
def subs:Nat→List (List Int)
 | 0=>[[]]
 | n+1=>subs n++(subs n).map λs=>s++[(n:Int)]
theorem xb:∀n,(subs n).length=2 ^ n
 | 0=>rfl
 | n+1=>by unfold subs;rw[List.length_append,List.length_map,xb n,Nat.pow_succ];omega
theorem pQ:∀n,∀s∈subs n,s.Pairwise (·<·)∧∀x∈s,0≤x∧x<(n:Int)
 | 0,s,h=>by
  rw[subs,List.mem_singleton] at h
  subst h
  exact⟨.nil,λ_ h=>(nomatch h)⟩
 | n+1,s,h=>by
  rw[subs] at h
  rcases List.mem_append.mp h with h|h
  ·obtain⟨h1,h2⟩:=pQ n s h
   exact⟨h1,λx hx=>⟨(h2 x hx).1,by have:=(h2 x hx).2;omega⟩⟩
  ·obtain⟨t,ht,rfl⟩:=List.mem_map.mp h
   obtain⟨h1,h2⟩:=pQ n t ht
   refine⟨List.pairwise_append.mpr ⟨h1,List.pairwise_singleton _ _,λa ha b hb=>?_⟩,λx hx=>?_⟩
   ·rw[List.mem_singleton] at hb;subst hb;exact(h2 a ha).2
   ·rcases List.mem_append.mp hx with hx|hx
    ·exact⟨(h2 x hx).1,by have:=(h2 x hx).2;omega⟩
    ·rw[List.mem_singleton] at hx;subst hx;exact⟨by omega,by omega⟩
theorem rg:∀(n:Nat) (s:List Int),s.Pairwise (·<·)→(∀x∈s,0≤x∧x<(n:Int))→s∈subs n
 | 0,s,_,h=>by
  cases s with
  | nil=>exact List.mem_singleton.mpr rfl
  | cons x s=>have:=h x (.head _);omega
 | n+1,s,hs,h=>by
  rw[subs]
  by_cases hn:(n:Int)∈s
  ·refine List.mem_append.mpr (.inr (List.mem_map.mpr ?_))
   obtain⟨t,ht⟩:∃t,s=t++[(n:Int)]:=by
    have hne:s≠[]:=λe=>by rw[e] at hn;cases hn
    refine⟨s.dropLast,?_⟩
    have e1:=List.dropLast_concat_getLast hne
    have hl:=h _ (List.getLast_mem hne)
    have e2:s.getLast hne=(n:Int):=by
     rw[← e1] at hn hs
     rcases List.mem_append.mp hn with q|q
     ·have:=(List.pairwise_append.mp hs).2.2 _ q _ (List.mem_singleton.mpr rfl)
      omega
     ·exact(List.mem_singleton.mp q).symm
    rw[← e2,e1]
   refine⟨t,?_,ht.symm⟩
   rw[ht] at hs h
   obtain⟨p1,_,p3⟩:=List.pairwise_append.mp hs
   exact rg n t p1 λx hx=>⟨(h x (List.mem_append_left _ hx)).1,p3 x hx _ (List.mem_singleton.mpr rfl)⟩
  ·refine List.mem_append.mpr (.inl (rg n s hs λx hx=>⟨(h x hx).1,?_⟩))
   have:=(h x hx).2
   have:x≠n:=λe=>hn (e ▸ hx)
   omega
theorem kJ{n:Nat}{s:List Int}:s∈subs n↔s.Pairwise (·<·)∧∀x∈s,0≤x∧x<(n:Int):=⟨pQ n s,λh=>rg n s h.1 h.2⟩
theorem jD:∀n,(subs n).Nodup
 | 0=>by rw[subs];exact List.pairwise_singleton _ _
 | n+1=>by
  rw[subs]
  refine List.nodup_append.mpr ⟨jD n,?_,λa ha b hb e=>?_⟩
  ·refine List.Pairwise.map _ (λa b (h:a≠b) e=>h ?_) (jD n)
   exact List.append_cancel_right e
  ·subst e
   obtain⟨t,ht,rfl⟩:=List.mem_map.mp hb
   have:=(pQ n _ ha).2 (n:Int) (List.mem_append_right _ (List.mem_singleton.mpr rfl))
   omega
def less(s:List Int)(h:Int):List Int:=s.filter λx=>decide (x≠h)
theorem xc{n:Nat}{s:List Int}(hs:s∈subs n)(h:Int):less s h∈subs n:=by
 obtain⟨h1,h2⟩:=kJ.mp hs
 exact kJ.mpr ⟨h1.filter _,λx hx=>h2 x (List.mem_filter.mp hx).1⟩
section
variable(O:List Int→Bool)
end
end Fw.Sets
namespace Fw.Sets
open Fw
theorem sub_len{n:Nat}:∀{s:List Int},s∈subs n→s.length≤n:=by
 induction n with
 | zero=>intro s h;rw[subs,List.mem_singleton] at h;subst h;exact Nat.le_refl _
 | succ n ih =>
  intro s h
  rw[subs] at h
  rcases List.mem_append.mp h with h|h
  ·have:=ih h;omega
  ·obtain⟨t,ht,rfl⟩:=List.mem_map.mp h
   have:=ih ht
   rw[List.length_append]
   show t.length+1≤n+1
   omega
def more(s:List Int)(h:Int):List Int:=jS (s++[h])
theorem tf(s:List Int)(h:Int):(more s h).Perm (s++[h]):=iT _
theorem FI{s:List Int}{h x:Int}:x∈more s h↔x∈s∨x=h:=by
 rw[(tf s h).mem_iff,List.mem_append,List.mem_singleton]
theorem strict:∀{l:List Int},l.Pairwise (·≤·)→l.Nodup→l.Pairwise (·<·)
 | [],_,_=>.nil
 | a::l,h1,h2=>by
  obtain⟨p1,p2⟩:=List.pairwise_cons.mp h1
  obtain⟨q1,q2⟩:=List.pairwise_cons.mp h2
  refine List.pairwise_cons.mpr ⟨λb hb=>?_,strict p2 q2⟩
  have:=p1 b hb
  have:=q1 b hb
  omega
theorem xf{n:Nat}{s:List Int}(hs:s∈subs n){h:Int}(h0:0≤h∧h<(n:Int))(hm:h∉s):more s h∈subs n:=by
 obtain⟨h1,h2⟩:=kJ.mp hs
 refine kJ.mpr ⟨strict (lZ _) ((tf s h).nodup_iff.mpr ?_),λx hx=>?_⟩
 ·refine List.nodup_append.mpr ⟨h1.imp λq=>by omega,List.pairwise_singleton _ _,λa ha b hb e=>?_⟩
  rw[List.mem_singleton] at hb
  subst hb e
  exact hm ha
 ·rcases FI.mp hx with q|rfl
  ·exact h2 x q
  ·exact h0
section
variable(O:List Int→Bool)
end
end Fw.Sets
namespace Fw.Sets
open PySem Fw Fw.H Fw.E Fw.F
def Mul(p:Int)(w:Nat)(lines:List (List Int))(ms:List Int):Prop:=ms.length=lines.length∧∀j,j<w→p ∣ dot ms (col lines j)-g (eu w 0) j
def Op(p:Int)(w:Nat)(rows:Rows)(s:List Int):Prop:=∃ms,Mul p w (linesAt rows (rowsOf rows s)) ms
section
variable{p:Int}{w n:Nat}{rows:Rows}
end
section
variable{p:Int}{w n:Nat}{rows:Rows}{O:List Int→Bool}
end
theorem pR{p:Int}{w:Nat}{rows:Rows}(H:Tbl p w rows){s tv:List Int}(h1:∀l∈linesAt rows (rowsOf rows s),p ∣ dot l tv)(h2:g tv 0=1):¬ Op p w rows s:=λau=>by
 obtain⟨ms,hl,h⟩:=au
 have hb:=H.pr.pos
 have hL:=jC H (is:=rowsOf rows s) s_
 refine FC (p:=p) (w:=w) (ws:=eu w 0) (by omega) (λl hl=>(hL l hl).1) (zh _ _) hl h h1 ?_
 rw[kH w 0 tv H.w0,h2]
 exact⟨0,by omega⟩
theorem word{p:Int}{w:Nat}{rows:Rows}(H:Tbl p w rows)(s:List Int)(y:SV)(μ:af)(h2:rd μ y=some (li s)) :
  (Op p w rows s∧∃ms,fnV 2 dU [.val (tb p w rows),y] μ=.ok (.val (.tup [.str "open",li ms])) μ)∨(¬ Op p w rows s∧∃tv,fnV 2 dU [.val (tb p w rows),y] μ=.ok (.val (.tup [.str "shut",tu tv])) μ):=by
 rcases F.zk H s y μ h2 with ⟨tv,e,_,h3,h4⟩|⟨ms,e,h2,h3⟩
 ·exact .inr ⟨pR H h3 h4,tv,e⟩
 ·exact .inl ⟨⟨ms,h2.1,h3⟩,ms,e⟩
end Fw.Sets
namespace Fw.Rl
open PySem Fw Fw.H Fw.E Fw.F Fw.U Fw.J Fw.Sets
def plc:Nat→T→Nat
 | 0,_=>0
 | d+1,t=>match t with
  | .tup [_,.int k,.tup rs]=>(k.toNat-1)+(rs.map (plc d)).sum
  | _=>0
theorem pS(d:Nat)(h:Int):plc d (hnd h)=0:=by cases d<;>rfl
theorem la(d:Nat)(k:Int)(rs:List T):plc (d+1) (som k rs)=(k.toNat-1)+(rs.map (plc d)).sum:=rfl
def rcn:Nat→T→Nat
 | 0,_=>1
 | d+1,t=>match t with
  | .tup [_,.int _,.tup rs]=>(rs.map (rcn d)).sum
  | _=>1
theorem jE(d:Nat)(h:Int):rcn d (hnd h)=1:=by cases d<;>rfl
theorem pT(d:Nat)(k:Int)(rs:List T):rcn (d+1) (som k rs)=(rs.map (rcn d)).sum:=rfl
def crw(p:Int):Nat→T→Bool
 | 0,_=>false
 | d+1,t=>match t with
  | .tup [_,.int k,.tup rs]=>(decide (1<k) && decide (p≤rs.length)) || rs.any (crw p d)
  | _=>false
theorem AU(p:Int)(d:Nat)(h:Int):crw p d (hnd h)=false:=by cases d<;>rfl
theorem vd(p:Int)(d:Nat)(k:Int)(rs:List T):crw p (d+1) (som k rs)=((decide (1<k) && decide (p≤rs.length)) || rs.any (crw p d)):=rfl
def pw(p nb:Int):Nat→Int
 | 0=>1
 | i+1=>pw p nb i*nb%p
def ef(p nb:Int)(l:List Int)(u:Nat):Nat→List Int
 | 0=>l
 | m+1=>(ef p nb l u m).set (u+m) (pw p nb (m+1))
theorem Mc{p:Int}(hp:2≤p)(nb:Int)(i:Nat):0≤pw p nb i∧pw p nb i<p:=by
 cases i with
 | zero=>show(0:Int)≤1∧(1:Int)<p;omega
 | succ i=>exact⟨Int.emod_nonneg _ (by omega),Int.emod_lt_of_pos _ (by omega)⟩
theorem pU{p:Int}{w:Nat}{l:List Int}(hp:2≤p)(hl:Rw p w l)(nb:Int)(u:Nat):∀m,Rw p w (ef p nb l u m)
 | 0=>hl
 | m+1=>Rw.set (pU hp hl nb u m) (Mc hp nb (m+1)).1 (Mc hp nb (m+1)).2
theorem nc(p nb:Int)(l:List Int)(u:Nat):∀m,(ef p nb l u m).length=l.length
 | 0=>rfl
 | m+1=>by rw[ef,List.length_set,nc p nb l u m]
def mkL(f:T→List Int→Nat→Rows)(q:T→Nat)(p:Int)(L:List Int)(u m:Nat):List T→Nat→Nat→Rows
 | [],_,_=>[]
 | x::xs,i,v=>f x (ef p ((i:Int)+1) L u m) v++mkL f q p L u m xs (i+1) (v+q x)
def mk(p:Int):Nat→T→List Int→Nat→Rows
 | 0,t,L,_=>match t with
  | .tup [_,.int h]=>[(h,L)]
  | _=>[]
 | d+1,t,L,v=>match t with
  | .tup [_,.int h]=>[(h,L)]
  | .tup [_,.int k,.tup rs]=>mkL (mk p d) (plc d) p L v (k.toNat-1) rs 0 (v+(k.toNat-1))
  | _=>[]
theorem gM(p:Int)(d:Nat)(h:Int)(L:List Int)(v:Nat):mk p d (hnd h) L v=[(h,L)]:=by cases d<;>rfl
theorem nY(p:Int)(d:Nat)(k:Int)(rs:List T)(L:List Int)(v:Nat):mk p (d+1) (som k rs) L v=mkL (mk p d) (plc d) p L v (k.toNat-1) rs 0 (v+(k.toNat-1)):=rfl
def df:List Int→(Nat→Int)→Int
 | [],_=>0
 | a::l,x=>a*x 0+df l λi=>x (i+1)
theorem kK:∀(l:List Int) (x y:Nat→Int),(∀i,g l i≠0→x i=y i)→df l x=df l y
 | [],_,_,_=>rfl
 | a::l,x,y,h=>by
  rw[df,df,kK l (λi=>x (i+1)) (λi=>y (i+1)) λi hi=>h (i+1) (by rw[cP];exact hi)]
  by_cases c:a=0
  ·subst c;simp
  ·rw[h 0 (by rw[dM];exact c)]
theorem FJ:∀(l:List Int) (i:Nat) (a:Int) (x:Nat→Int),i<l.length→df (l.set i a) x=df l x+(a-g l i)*x i
 | [],i,_,_,h=>by simp at h
 | b::l,0,a,x,_=>by
  rw[List.set_cons_zero,df,df,dM];grind
 | b::l,i+1,a,x,h=>by
  rw[List.set_cons_succ,df,df,cP,FJ l i a (λi=>x (i+1)) (by simpa using h)];grind
theorem zm:∀(l tv:List Int),l.length=tv.length→dot l tv=df l (g tv)
 | [],[],_=>rfl
 | a::l,b::tv,h=>by
  rw[dot,df,dM,zm l tv (by simpa using h)]
  congr 1
theorem Ot{w:Nat}{l:List Int}(h:l.length=w)(x:Nat→Int):dot l ((List.range w).map x)=df l x:=by
 rw[zm l _ (by simp[h])]
 refine kK l _ _ λi hi=>?_
 have hl:i<w:=by
  rw[← h]
  refine Nat.lt_of_not_le λc=>hi ?_
  simp[g,List.getElem?_eq_none c]
 simp[g,hl]
def Sup(v:Nat)(L:List Int):Prop:=∀i,v≤i→g L i=0
theorem Sup.up{v u:Nat}{L:List Int}(h:Sup v L)(k:v≤u):Sup u L:=λi hi=>h i (Nat.le_trans k hi)
theorem Ou(l:List Int)(i j:Nat)(a:Int)(h:j≠i):g (l.set i a) j=g l j:=by
 unfold g
 rw[List.getD_eq_getElem?_getD,List.getD_eq_getElem?_getD,List.getElem?_set_ne (Ne.symm h)]
theorem ve(p nb:Int)(L:List Int)(u:Nat):∀(m j:Nat),j<u∨u+m≤j→g (ef p nb L u m) j=g L j
 | 0,_,_=>rfl
 | m+1,j,h=>by
  rw[ef,Ou _ _ _ _ (by omega),ve p nb L u m j (by omega)]
theorem pV{p nb:Int}{L:List Int}{u:Nat}(h:Sup u L)(m:Nat):Sup (u+m) (ef p nb L u m):=λj hj=>by
 rw[ve p nb L u m j (.inr hj)]
 exact h j (by omega)
theorem FK(p nb:Int):∀i,p ∣ pw p nb i-nb ^ i
 | 0=>⟨0,by simp[pw]⟩
 | i+1=>by
  obtain⟨t,ht⟩:=FK p nb i
  obtain⟨u,hu⟩:=(show ∃u,pw p nb i*nb%p=pw p nb i*nb-p*u from ⟨pw p nb i*nb / p,by have:=Int.emod_add_mul_ediv (pw p nb i*nb) p;omega⟩)
  rw[pw,hu,Int.pow_succ]
  exact⟨t*nb-u,by grind⟩
theorem AV(x y:Int):∀cs:List Int,pol x (cs++[y])=pol x cs+x ^ cs.length*y
 | []=>by simp[pol]
 | c::cs=>by
  rw[List.cons_append,pol,AV x y cs,pol,List.length_cons,Int.pow_succ]
  grind
theorem zo{p nb:Int}{L:List Int}{u:Nat}(h:Sup u L)(x:Nat→Int):∀m,u+m≤L.length→p ∣ df (ef p nb L u m) x-pol nb (df L x::(List.range m).map λi=>x (u+i))
 | 0,_=>⟨0,by simp[ef,pol]⟩
 | m+1,hm=>by
  obtain⟨t,ht⟩:=zo (p:=p) (nb:=nb) h x m (by omega)
  obtain⟨s,hs⟩:=FK p nb (m+1)
  have hg:g (ef p nb L u m) (u+m)=0:=by rw[ve p nb L u m _ (.inr (Nat.le_refl _))];exact h _ (by omega)
  rw[ef,FJ _ _ _ _ (by rw[nc];omega),hg,List.range_succ,List.map_append,← List.cons_append]
  simp only[List.map_cons,List.map_nil]
  rw[AV,List.length_cons,List.length_map,List.length_range]
  generalize pol nb (df L x::List.map (λi=>x (u+i)) (List.range m))=A at ht ⊢
  generalize df (ef p nb L u m) x=B at ht ⊢
  generalize nb ^ (m+1)=C at hs ⊢
  generalize x (u+m)=X
  generalize pw p nb (m+1)=W at hs ⊢
  exact⟨t+s*X,by grind⟩
theorem AW{f:T→List Int→Nat→Rows}{q:T→Nat}{p:Int}{L:List Int}{u m:Nat}{P:T→Nat→Nat→(Int×List Int)→Prop}:∀(xs:List T) (i v:Nat),(∀x∈xs,∀(i v:Nat) (r:Int×List Int),r∈f x (ef p ((i:Int)+1) L u m) v→P x i v r)→∀r∈mkL f q p L u m xs i v,∃x∈xs,∃i v,P x i v r
 | [],_,_,_,r,hr=>by cases hr
 | x::xs,i,v,h,r,hr=>by
  rcases List.mem_append.mp hr with z|z
  ·exact⟨x,List.mem_cons_self,i,v,h x List.mem_cons_self i v r z⟩
  ·obtain⟨y,hy,j,w,hp⟩:=AW xs (i+1) (v+q x) (λy hy=>h y (List.mem_cons_of_mem _ hy)) r z
   exact⟨y,List.mem_cons_of_mem _ hy,j,w,hp⟩
theorem IQ{p:Int}{w:Nat}(hp:2≤p):∀(d:Nat) (t:T),IsR d t→∀(L:List Int) (v:Nat),Rw p w L→∀r∈mk p d t L v,Rw p w r.2∧0≤r.1∧r.1<10:=by
 intro d
 induction d with
 | zero =>
  rintro t ⟨h,h0,h1,rfl⟩ L v hL r hr
  rw[gM,List.mem_singleton] at hr
  subst hr
  exact⟨hL,h0,h1⟩
 | succ d ih =>
  rintro t ht L v hL r hr
  rcases ht with ⟨h,h0,h1,rfl⟩|⟨k,r0,rs,rfl,h1,h2,h3,h4⟩
  ·rw[gM,List.mem_singleton] at hr
   subst hr
   exact⟨hL,h0,h1⟩
  ·rw[nY] at hr
   obtain⟨_,_,_,_,hq⟩:=AW (P:=λ_ _ _ r=>Rw p w r.2∧0≤r.1∧r.1<10) _ _ _ (λx hx i v r hr=>ih x (h4 x hx) _ v (pU hp hL _ _ _) r hr) r hr
   exact hq
theorem AX{f:T→List Int→Nat→Rows}{q c:T→Nat}{p:Int}{L:List Int}{u m:Nat}:∀(xs:List T) (i v:Nat),(∀x∈xs,∀L v,(f x L v).length=c x)→(mkL f q p L u m xs i v).length=(xs.map c).sum
 | [],_,_,_=>rfl
 | x::xs,i,v,h=>by
  rw[mkL,List.length_append,h x List.mem_cons_self,AX xs _ _ λy hy=>h y (List.mem_cons_of_mem _ hy),List.map_cons,List.sum_cons]
theorem FL{p:Int}:∀(d:Nat) (t:T),IsR d t→∀(L:List Int) (v:Nat),(mk p d t L v).length=rcn d t:=by
 intro d
 induction d with
 | zero =>
  rintro t ⟨h,h0,h1,rfl⟩ L v
  rw[gM,jE];rfl
 | succ d ih =>
  rintro t ht L v
  rcases ht with ⟨h,h0,h1,rfl⟩|⟨k,r0,rs,rfl,h1,h2,h3,h4⟩
  ·rw[gM,jE];rfl
  ·rw[nY,pT]
   exact AX _ _ _ λx hx L v=>ih x (h4 x hx) L v
theorem Me{p:Int}:∀(d:Nat) (t:T),IsR d t→∀(L:List Int) (v:Nat),Sup v L→∀r∈mk p d t L v,Sup (v+plc d t) r.2:=by
 intro d
 induction d with
 | zero =>
  rintro t ⟨h,h0,h1,rfl⟩ L v hL r hr
  rw[gM,List.mem_singleton] at hr
  subst hr
  rw[pS];exact hL
 | succ d ih =>
  rintro t ht L v hL r hr
  rcases ht with ⟨h,h0,h1,rfl⟩|⟨k,r0,rs,rfl,h1,h2,h3,h4⟩
  ·rw[gM,List.mem_singleton] at hr
   subst hr
   rw[pS];exact hL
  ·rw[nY] at hr
   rw[la]
   have key:∀(xs:List T) (i v':Nat),(∀x∈xs,IsR d x)→v+(k.toNat-1)≤v'→∀r∈mkL (mk p d) (plc d) p L v (k.toNat-1) xs i v',Sup (v'+(xs.map (plc d)).sum) r.2:=by
    intro xs
    induction xs with
    | nil=>intro i v' _ _ r hr;cases hr
    | cons x xs ihx =>
     intro i v' hx hv r hr
     rw[List.map_cons,List.sum_cons]
     rcases List.mem_append.mp hr with z|z
     ·exact(ih x (hx x List.mem_cons_self) _ v' ((pV hL _).up hv) r z).up (by omega)
     ·exact(ihx (i+1) (v'+plc d x) (λy hy=>hx y (List.mem_cons_of_mem _ hy)) (by omega) r z).up (by omega)
   exact(key _ 0 _ h4 (Nat.le_refl _) r hr).up (by omega)
theorem FO{p:Int}(hP:gg p)(S:List Int)(x:Nat→Int):∀(d:Nat) (t:T),IsR d t→crw p d t=false→∀(L:List Int) (v:Nat),Sup v L→v+plc d t≤L.length→(∀r∈mk p d t L v,r.1∈S→p ∣ df r.2 x)→b9 S d t=true→p ∣ df L x:=by
 have hb:=hP.pos
 intro d
 induction d with
 | zero =>
  rintro t ⟨h,h0,h1,rfl⟩ _ L v hL _ hz hf
  rw[cS,decide_eq_true_eq] at hf
  exact hz (h,L) (by rw[gM];exact List.mem_singleton.mpr rfl) hf
 | succ d ih =>
  rintro t ht hc L v hL hv hz hf
  rcases ht with ⟨h,h0,h1,rfl⟩|⟨k,r0,rs,rfl,h1,h2,h3,h4⟩
  ·rw[cS,decide_eq_true_eq] at hf
   exact hz (h,L) (by rw[gM];exact List.mem_singleton.mpr rfl) hf
  ·rw[ig,decide_eq_true_eq] at hf
   rw[vd,Bool.or_eq_false_iff] at hc
   rw[nY] at hz
   rw[la] at hv
   have key:∀(xs:List T) (i v':Nat),(∀x∈xs,IsR d x∧crw p d x=false)→v+(k.toNat-1)≤v'→v'+(xs.map (plc d)).sum≤L.length→(∀r∈mkL (mk p d) (plc d) p L v (k.toNat-1) xs i v',r.1∈S→p ∣ df r.2 x) →
     ∃Is:List Int,Is.length=(xs.filter (b9 S d)).length∧Is.Nodup∧∀a∈Is,(i:Int)+1≤a∧a≤i+xs.length∧p ∣ df (ef p a L v (k.toNat-1)) x:=by
    intro xs
    induction xs with
    | nil=>intro i v' _ _ _ _;exact⟨[],rfl,List.nodup_nil,by simp⟩
    | cons y xs ihx =>
     intro i v' hx hv1 hv2 hr
     rw[List.map_cons,List.sum_cons] at hv2
     obtain⟨Is,e1,e2,e3⟩:=ihx (i+1) (v'+plc d y) (λy hy=>hx y (List.mem_cons_of_mem _ hy)) (by omega) (by omega) λr hm=>hr r (List.mem_append.mpr (.inr hm))
     rw[List.length_cons]
     cases hy:b9 S d y with
     | false =>
      refine⟨Is,by rw[List.filter_cons_of_neg (by rw[hy];exact Bool.false_ne_true)];exact e1,e2,λa ha=>?_⟩
      have:=e3 a ha
      exact⟨by omega,by omega,this.2.2⟩
     | true =>
      have hd:=ih y (hx y List.mem_cons_self).1 (hx y List.mem_cons_self).2 (ef p ((i:Int)+1) L v (k.toNat-1)) v' ((pV hL _).up hv1) (by rw[nc];omega) (λr hm=>hr r (List.mem_append.mpr (.inl hm))) hy
      refine⟨((i:Int)+1)::Is,by rw[List.filter_cons_of_pos hy,List.length_cons,List.length_cons,e1],List.nodup_cons.mpr ⟨λhm=>?_,e2⟩,λa ha=>?_⟩
      ·have:=e3 _ hm
       omega
      ·rcases List.mem_cons.mp ha with z|z
       ·subst z;exact⟨by omega,by omega,hd⟩
       ·have:=e3 a z
        exact⟨by omega,by omega,this.2.2⟩
   obtain⟨Is,e1,e2,e3⟩:=key (r0::rs) 0 (v+(k.toNat-1)) (λx hx=>⟨h4 x hx,by
    have:=List.any_eq_false.mp hc.2 x hx
    simpa using this⟩) (Nat.le_refl _) (by omega) hz
   rw[← e1] at hf
   have Ov:∀a∈Is,p ∣ pol a (df L x::(List.range (k.toNat-1)).map λi=>x (v+i)):=λa ha=>(AQ (zo hL x (k.toNat-1) (by omega))).mp (e3 a ha).2.2
   by_cases hk:k=1
   ·subst hk
    cases Is with
    | nil=>simp at hf
    | cons a Is =>
     have:=Ov a List.mem_cons_self
     simpa [pol] using this
   ·refine xa hP _ (df L x::(List.range (k.toNat-1)).map λi=>x (v+i)) Is rfl (by rw[List.length_cons,List.length_map,List.length_range];omega) e2 (λa ha=>?_) Ov _ List.mem_cons_self
    have hq:=e3 a ha
    have:¬ p≤((r0::rs).length:Int):=λc=>by
     have:=hc.1
     rw[Bool.and_eq_false_iff,decide_eq_false_iff_not,decide_eq_false_iff_not] at this
     rcases this with z|z
     ·omega
     ·exact z c
    omega
theorem AY(s x:Int):∀cs:List Int,pol x (cs.map λc=>s*c)=s*pol x cs
 | []=>by simp[pol]
 | c::cs=>by rw[List.map_cons,pol,AY s x cs,pol];grind
theorem AZ(x:Int)(cs:List Int):∀n,pol x (cs++List.replicate n 0)=pol x cs
 | 0=>by simp
 | n+1=>by rw[List.replicate_succ',← List.append_assoc,rf,AZ x cs n]
theorem A_(x:Int):∀n,pol x (List.replicate n 0)=0
 | 0=>rfl
 | n+1=>by rw[List.replicate_succ,pol,A_ x n];simp
theorem roots{p:Int}(hP:gg p)(c:Int):∀Is:List Int,(∀a∈Is,0<a∧a<p)→∃cs:List Int,cs.length=Is.length∧∀a∈Is,p ∣ c+a*pol a cs
 | [],_=>⟨[],rfl,by simp⟩
 | a::Is,h=>by
  have hb:=hP.pos
  obtain⟨cs,e1,e2⟩:=roots hP c Is λb hb=>h b (List.mem_cons_of_mem _ hb)
  have ha:=h a List.mem_cons_self
  have h0:a%p≠0:=by rw[Int.emod_eq_of_lt (by omega) ha.2];omega
  obtain⟨s,_,_,_,sz⟩:=pO hP 1 a [] h0
  obtain⟨u,hu⟩:=Int.dvd_of_emod_eq_zero sz
  refine⟨sbl (cs++[0]) ((c::cs).map λz=>s*z),by rw[AR _ _ (by simp)];simp[e1],λb hm=>?_⟩
  rw[AS _ _ _ (by simp),rf,AY,pol]
  rcases List.mem_cons.mp hm with z|z
  ·subst z
   exact⟨-(u*(c+b*pol b cs)),by grind⟩
  ·obtain⟨t,ht⟩:=e2 b z
   exact⟨t*(1-s*b),by grind⟩
theorem Ow{p:Int}(hP:gg p)(S:List Int):∀(d:Nat) (t:T),IsR d t→crw p d t=false→∀(L:List Int) (v:Nat) (x0:Nat→Int),Sup v L→v+plc d t≤L.length→(b9 S d t=false∨p ∣ df L x0) →
  ∃x:Nat→Int,(∀i,i<v∨v+plc d t≤i→x i=x0 i)∧∀r∈mk p d t L v,r.1∈S→p ∣ df r.2 x:=by
 have hb:=hP.pos
 have hand:∀(d:Nat) (h:Int) (L:List Int) (v:Nat) (x0:Nat→Int),(b9 S d (hnd h)=false∨p ∣ df L x0)→∃x:Nat→Int,(∀i,i<v∨v+plc d (hnd h)≤i→x i=x0 i)∧∀r∈mk p d (hnd h) L v,r.1∈S→p ∣ df r.2 x:=by
  intro d h L v x0 hc
  refine⟨x0,λ_ _=>rfl,λr hr hs=>?_⟩
  rw[gM,List.mem_singleton] at hr
  subst hr
  rcases hc with hc|hc
  ·rw[cS,decide_eq_false_iff_not] at hc
   exact absurd hs hc
  ·exact hc
 intro d
 induction d with
 | zero =>
  rintro t ⟨h,h0,h1,rfl⟩ _ L v x0 hL _ hf
  exact hand 0 h L v x0 hf
 | succ d ih =>
  rintro t ht hc L v x0 hL hv hf
  rcases ht with ⟨h,h0,h1,rfl⟩|⟨k,r0,rs,rfl,h1,h2,h3,h4⟩
  ·exact hand (d+1) h L v x0 hf
  ·rw[vd,Bool.or_eq_false_iff] at hc
   rw[nY]
   rw[la] at hv
   rw[la]
   have hcr:∀x∈r0::rs,crw p d x=false:=λx hx=>by
    have:=List.any_eq_false.mp hc.2 x hx
    simpa using this
   generalize hm:k.toNat-1=m at *
   have find:∀(xs:List T) (i:Nat),∃Is:List Int,Is.length=(xs.filter (b9 S d)).length∧(∀a∈Is,(i:Int)+1≤a∧a≤i+xs.length)∧∀(j:Nat) (y:T),xs[j]?=some y→b9 S d y=true→((i+j:Nat):Int)+1∈Is:=by
    intro xs
    induction xs with
    | nil=>intro i;exact⟨[],rfl,by simp,by simp⟩
    | cons y xs ihx =>
     intro i
     obtain⟨Is,e1,e2,e3⟩:=ihx (i+1)
     rw[List.length_cons]
     cases hy:b9 S d y with
     | false =>
      refine⟨Is,by rw[List.filter_cons_of_neg (by rw[hy];exact Bool.false_ne_true)];exact e1,λa ha=>?_,λj z hj hz=>?_⟩
      ·have:=e2 a ha
       omega
      ·cases j with
       | zero =>
        have:y=z:=by simpa using hj
        rw[← this,hy] at hz;cases hz
       | succ j =>
        have:=e3 j z (by simpa using hj) hz
        rwa [show i+1+j=i+(j+1) by omega] at this
     | true =>
      refine⟨((i:Int)+1)::Is,by rw[List.filter_cons_of_pos hy,List.length_cons,List.length_cons,e1],λa ha=>?_,λj z hj hz=>?_⟩
      ·rcases List.mem_cons.mp ha with z|z
       ·subst z;omega
       ·have:=e2 a z
        omega
      ·cases j with
       | zero=>exact List.mem_cons_self
       | succ j =>
        have:=e3 j z (by simpa using hj) hz
        rw[show i+1+j=i+(j+1) by omega] at this
        exact List.mem_cons_of_mem _ this
   have Ox:∃cs:List Int,cs.length=m∧∀(j:Nat) (y:T),(r0::rs)[j]?=some y→b9 S d y=true→p ∣ df L x0+((j:Int)+1)*pol ((j:Int)+1) cs:=by
    rcases hf with hf|hf
    ·rw[ig,decide_eq_false_iff_not] at hf
     obtain⟨Is,e1,e2,e3⟩:=find (r0::rs) 0
     rw[← e1] at hf
     by_cases hk:k=1
     ·have:Is=[]:=List.eq_nil_of_length_eq_zero (by omega)
      subst this
      refine⟨List.replicate m 0,by simp,λj y hj hy=>?_⟩
      have:=e3 j y hj hy
      cases this
     ·have hlt:((r0::rs).length:Int)<p:=by
       have:=hc.1
       rw[Bool.and_eq_false_iff,decide_eq_false_iff_not,decide_eq_false_iff_not] at this
       rcases this with z|z<;>omega
      obtain⟨cs,c1,c2⟩:=roots hP (df L x0) Is λa ha=>by
       have:=e2 a ha
       omega
      refine⟨cs++List.replicate (m-cs.length) 0,by rw[List.length_append,List.length_replicate];omega,λj y hj hy=>?_⟩
      rw[AZ]
      have:=c2 _ (e3 j y hj hy)
      rwa [Nat.zero_add] at this
    ·refine⟨List.replicate m 0,by simp,λj y hj hy=>?_⟩
     rw[A_]
     simpa using hf
   obtain⟨cs,c1,c2⟩:=Ox
   obtain⟨x1,hx1⟩:∃x1:Nat→Int,x1=λi=>if v≤i∧i<v+m then cs.getD (i-v) 0 else x0 i:=⟨_,rfl⟩
   have x1o:∀i,i<v∨v+m≤i→x1 i=x0 i:=λi hi=>by rw[hx1];exact if_neg (by omega)
   have x1i:((List.range m).map λi=>x1 (v+i))=cs:=by
    refine List.ext_getElem (by simp[c1]) λi hi1 hi2=>?_
    rw[List.getElem_map,List.getElem_range,hx1]
    rw[List.length_map,List.length_range] at hi1
    show(if v≤v+i∧v+i<v+m then cs.getD (v+i-v) 0 else x0 (v+i))=_
    rw[if_pos (by omega),Nat.add_sub_cancel_left]
    simp[hi2]
   have dL:df L x1=df L x0:=kK L _ _ λi hi=>x1o i (.inl (Nat.lt_of_not_le λc=>hi (hL i c)))
   have good:∀(j:Nat) (y:T),(r0::rs)[j]?=some y→b9 S d y=true→p ∣ df (ef p ((j:Int)+1) L v m) x1:=λj y hj hy=>by
    refine(AQ (zo hL x1 m (by omega))).mpr ?_
    rw[x1i,dL,pol]
    exact c2 j y hj hy
   have key:∀(xs:List T) (i v':Nat) (x1:Nat→Int),(∀x∈xs,IsR d x∧crw p d x=false)→v+m≤v'→v'+(xs.map (plc d)).sum≤L.length→(∀(j:Nat) (y:T),xs[j]?=some y→b9 S d y=true→p ∣ df (ef p (((i+j:Nat):Int)+1) L v m) x1) →
     ∃x:Nat→Int,(∀i,i<v'∨v'+(xs.map (plc d)).sum≤i→x i=x1 i)∧∀r∈mkL (mk p d) (plc d) p L v m xs i v',r.1∈S→p ∣ df r.2 x:=by
    intro xs
    induction xs with
    | nil=>intro i v' x1 _ _ _ _;exact⟨x1,λ_ _=>rfl,by intro r hr;cases hr⟩
    | cons y xs ihx =>
     intro i v' x1 hx hv1 hv2 hg
     rw[List.map_cons,List.sum_cons] at hv2
     rw[List.map_cons,List.sum_cons]
     have hs:Sup v' (ef p ((i:Int)+1) L v m):=(pV hL _).up hv1
     obtain⟨x2,a1,a2⟩:=ih y (hx y List.mem_cons_self).1 (hx y List.mem_cons_self).2 (ef p ((i:Int)+1) L v m) v' x1 hs (by rw[nc];omega) (by
      cases hy:b9 S d y with
      | false=>exact .inl rfl
      | true=>exact .inr (hg 0 y rfl hy))
     obtain⟨x3,b1,b2⟩:=ihx (i+1) (v'+plc d y) x2 (λy hy=>hx y (List.mem_cons_of_mem _ hy)) (by omega) (by omega) λj z hj hz=>by
      rw[kK _ x2 x1 λq hq=>a1 q (.inl (Nat.lt_of_not_le λc=>hq (((pV hL m).up hv1) q c)))]
      have:=hg (j+1) z (by simpa using hj) hz
      rwa [show i+(j+1)=i+1+j by omega] at this
     refine⟨x3,λq hq=>?_,λr hr hsr=>?_⟩
     ·rw[b1 q (by omega),a1 q (by omega)]
     ·rcases List.mem_append.mp hr with z|z
      ·have Pz:=Me d y (hx y List.mem_cons_self).1 _ v' hs r z
       rw[kK _ x3 x2 λq hq=>b1 q (.inl (Nat.lt_of_not_le λc=>hq (Pz q c)))]
       exact a2 r z hsr
      ·exact b2 r z hsr
   obtain⟨x,k1,k2⟩:=key (r0::rs) 0 (v+m) x1 (λx hx=>⟨h4 x hx,hcr x hx⟩) (Nat.le_refl _) (by omega) (λj y hj hy=>by rw[Nat.zero_add];exact good j y hj hy)
   refine⟨x,λi hi=>?_,k2⟩
   rw[k1 i (by omega),x1o i (by omega)]
abbrev l0(q:Nat):List Int:=1::List.replicate q 0
abbrev tbl(p:Int)(d:Nat)(t:T):Rows:=mk p d t (l0 (plc d t)) 1
theorem Oy(n i:Nat):g (List.replicate n 0) i=0:=by
 unfold g
 rw[List.getD_eq_getElem?_getD,List.getElem?_replicate]
 by_cases h:i<n
 ·rw[if_pos h];rfl
 ·rw[if_neg h];rfl
theorem FP(q:Nat):Sup 1 (l0 q):=λi hi=>by
 obtain⟨j,rfl⟩:∃j,i=j+1:=⟨i-1,by omega⟩
 rw[cP,Oy]
theorem FQ:∀(n:Nat) (x:Nat→Int),df (List.replicate n 0) x=0
 | 0,_=>rfl
 | n+1,x=>by rw[List.replicate_succ,df,FQ n];simp
theorem Oz(q:Nat)(x:Nat→Int):df (l0 q) x=x 0:=by
 show 1*x 0+df (List.replicate q 0) _=_
 rw[FQ];simp
theorem JS{p:Int}(hp:2≤p)(q:Nat):Rw p (1+q) (l0 q):=by
 refine⟨by simp;omega,λx hx=>?_,λx hx=>?_⟩ <;>
 ·rcases List.mem_cons.mp hx with z|z
  ·omega
  ·rw[List.mem_replicate] at z;omega
theorem tj{rows:Rows}{S l:List Int}:l∈linesAt rows (rowsOf rows S)↔∃r∈rows,r.1∈S∧r.2=l:=by
 unfold linesAt rowsOf
 rw[List.mem_map]
 constructor
 ·rintro⟨i,hi,rfl⟩
  obtain⟨h1,h2⟩:=List.mem_filter.mp hi
  rw[List.mem_range] at h1
  have e:dy rows i=rows[i]:=by simp[dy,h1]
  exact⟨rows[i],List.getElem_mem h1,by rw[← e];simpa using h2,by rw[e]⟩
 ·rintro⟨r,hr,hs,rfl⟩
  obtain⟨i,hi,rfl⟩:=List.getElem_of_mem hr
  have e:dy rows i=rows[i]:=by simp[dy,hi]
  exact⟨i,List.mem_filter.mpr ⟨List.mem_range.mpr hi,by rw[e];simpa using hs⟩,by rw[e]⟩
theorem FR{p:Int}(hP:gg p){d:Nat}{t:T}(ht:IsR d t)(hw:plc d t≤11)(hn:rcn d t≤24):Tbl p (1+plc d t) (tbl p d t) :=
 ⟨hP,by omega,by omega,by rw[FL d t ht];exact hn,λq hq=>(IQ hP.pos.1 d t ht _ 1 (JS hP.pos.1 _) q hq).1⟩
theorem Mf{p:Int}(hP:gg p){d:Nat}{t:T}(ht:IsR d t)(hw:plc d t≤11)(hn:rcn d t≤24)(hc:crw p d t=false)(S:List Int):Op p (1+plc d t) (tbl p d t) S↔b9 S d t=true:=by
 have hb:=hP.pos
 have H:=FR hP ht hw hn
 have hlen:∀r∈tbl p d t,r.2.length=1+plc d t:=λr hr=>(H.li r hr).1
 constructor
 ·intro ho
  cases hf:b9 S d t with
  | true=>rfl
  | false =>
   obtain⟨x,h1,h2⟩:=Ow hP S d t ht hc (l0 (plc d t)) 1 (λi=>if i=0 then 1 else 0) (FP _) (by simp;omega) (.inl hf)
   refine absurd ho (pR H (tv:=(List.range (1+plc d t)).map x) (λl hl=>?_) ?_)
   ·obtain⟨r,hr,hs,rfl⟩:=tj.mp hl
    rw[Ot (hlen r hr)]
    exact h2 r hr hs
   ·rw[Nat.add_comm,List.range_succ_eq_map,List.map_cons,dM,h1 0 (.inl (by omega))]
    rfl
 ·intro hf
  rcases F.zk H S (.val (li S)) [] rfl with ⟨tv,_,h2,h3,h4⟩|⟨ms,_,h2,h3⟩
  ·exfalso
   have:=FO hP S (g tv) d t ht hc (l0 (plc d t)) 1 (FP _) (by simp;omega) (λr hr hs=>by
    have:=h3 r.2 (tj.mpr ⟨r,hr,hs,rfl⟩)
    rwa [zm _ _ (by rw[hlen r hr];exact h2.1.symm)] at this) hf
   rw[Oz,h4] at this
   obtain⟨c,hc⟩:=this
   have:c=0∨1≤c∨c≤-1:=by omega
   rcases this with z|z|z
   ·subst z;omega
   ·have:p*1≤p*c:=Int.mul_le_mul_of_nonneg_left z (by omega)
    omega
   ·have:p*c≤p*(-1):=Int.mul_le_mul_of_nonneg_left z (by omega)
    omega
  ·exact⟨ms,h2.1,h3⟩
end Fw.Rl
namespace Fw
open PySem Fw
end Fw
namespace Fw.J
open PySem Fw Fw.H Fw.E Fw.F
end Fw.J
namespace Fw.k34
open PySem Fw Fw.H Fw.E Fw.F Fw.U Fw.Rl
theorem gw(h:Int)(μ:af):bo [.val (hnd h)] μ=.ok (.val (.bl true)) μ:=kI h μ
theorem kL(k:Int)(rs:List T)(μ:af):bo [.val (som k rs)] μ=.ok (.val (.bl false)) μ:=u_ k rs μ
theorem FT{k:Int}(h1:1≤k)(rs:List T)(μ:af):cZ [.val (som k rs)] μ=.ok (.val (.int ((k.toNat-1:Nat):Int))) μ:=by
 have e:(if (0:Int) > k-1 then (0:Int) else k-1)=((k.toNat-1:Nat):Int):=by
  rw[if_neg (by lia)];lia
 unfold cZ mT
 simp! only[Ee,e]
theorem xg(f:T→Nat):∀l:List T,(l.map λx=>((f x:Nat):Int)).sum=(((l.map f).sum:Nat):Int)
 | []=>rfl
 | a::l=>by rw[List.map_cons,List.map_cons,List.sum_cons,List.sum_cons,xg f l,Int.natCast_add]
theorem tq:∀(d n:Nat) (t:T),IsR d t→d≤n→∀(μ:af),aZ (n+1) [.val t] μ=.ok (.val (.int ((plc d t:Nat):Int))) μ:=by
 intro d
 induction d with
 | zero =>
  rintro n t ⟨h,h0,h9,rfl⟩ hn μ
  show fnV 1 (cO (aZ n)) _ _=_
  rw[pS]
  unfold cO
  simp! only[gw]
  rfl
 | succ d ih =>
  rintro n t ht hn μ
  obtain⟨m,rfl⟩:∃m,n=m+1:=⟨n-1,by lia⟩
  show fnV 1 (cO (aZ (m+1))) _ _=_
  rcases ht with ⟨h,h0,h9,rfl⟩|⟨k,r,rs,rfl,h1,h2,h3,h4⟩
  ·rw[pS]
   unfold cO
   simp! only[gw]
   rfl
  ·have hc:=λ(same:af→Prop) (hs':same μ)=>b4 (same:=same) (b:=aw 0) (d:=ak (cal (aZ (m+1))) [(aa 0)]) (e:=[none]) (μ:=μ) (id:T→T) (λx=>.int ((plc d x:Nat):Int)) hs' (r::rs) λx hx=>by
    refine⟨_,rfl,?_⟩
    simp! only[ih m x (h4 x hx) (by lia) μ,id]
   rw[List.map_id] at hc
   have e:vP (.lst ((r::rs).map λx=>T.int ((plc d x:Nat):Int)))=some (.int ((((r::rs).map (plc d)).sum:Nat):Int)):=by
    rw[v8,xg]
   have ho:=FT h1 (r::rs) μ
   rw[la]
   unfold cO
   simp! only[kL,ho]
   rw[hc]
   ·rw[R.bE,R.aL,if_pos (by simp[szL];lia)]
    rw[List.map_cons] at e
    simp! only[e]
    rw[Int.natCast_add]
   ·trivial
theorem FU{p:Int}:∀(d n:Nat) (t:T),IsR d t→d≤n→∀(μ:af),bH (n+1) [.val (.int p),.val t] μ=.ok (.val (.bl (crw p d t))) μ:=by
 intro d
 induction d with
 | zero =>
  rintro n t ⟨h,h0,h9,rfl⟩ hn μ
  show fnV 2 (dD (bH n)) _ _=_
  rw[AU]
  unfold dD
  simp! only[gw]
 | succ d ih =>
  rintro n t ht hn μ
  obtain⟨m,rfl⟩:∃m,n=m+1:=⟨n-1,by lia⟩
  show fnV 2 (dD (bH (m+1))) _ _=_
  rcases ht with ⟨h,h0,h9,rfl⟩|⟨k,r,rs,rfl,h1,h2,h3,h4⟩
  ·rw[AU]
   unfold dD
   simp! only[gw]
  ·have hc:=λ(same:af→Prop) (hs':same μ)=>b4 (same:=same) (b:=aw 0) (d:=ak (cal (bH (m+1))) [(aa 1),(aa 0)]) (e:=[none,some (.val (.int p))]) (μ:=μ) (id:T→T) (λx=>.bl (crw p d x)) hs' (r::rs) λx hx=>by
    refine⟨_,rfl,?_⟩
    simp! only[ih m x (h4 x hx) (by lia) μ,id]
   rw[List.map_id] at hc
   have e:rF (.lst ((r::rs).map λx=>T.bl (crw p d x)))=some (.bl ((r::rs).any (crw p d))):=v7 (crw p d) (r::rs)
   have e3:dUn rF (aF (aY (ax (aa 1) (dC (.int 2)))) [none,some 0] (aw 0) (dC (.bl true)) (ak (cal (bH (m+1))) [(aa 1),(aa 0)])) [some (.val (.int p)),some (.val (som k (r::rs)))] μ=.ok (.val (.bl ((r::rs).any (crw p d)))) μ:=by
    simp! only[]
    rw[hc]
    ·rw[R.bE,R.aL,if_pos (by simp[szL];lia)]
     rw[List.map_cons] at e
     simp! only[e]
    ·trivial
   generalize hq:dUn rF (aF (aY (ax (aa 1) (dC (.int 2)))) [none,some 0] (aw 0) (dC (.bl true)) (ak (cal (bH (m+1))) [(aa 1),(aa 0)]))=D at e3
   rw[vd]
   unfold dD
   rw[hq]
   generalize (r::rs).any (crw p d)=A at e3 ⊢
   have c1:decide (p≤((r::rs).length:Int))=decide (p≤((rs.length+1:Nat):Int)):=rfl
   rw[c1]
   by_cases c0:(1:Int)<k
   ·have c0':decide ((1:Int)<k)=true:=decide_eq_true c0
    rw[c0',Bool.true_and]
    cases c2:decide (p≤((rs.length+1:Nat):Int)) with
    | true =>
     simp! only[kL,c0',c2]
     rfl
    | false =>
     simp! only[kL,c0',c2,e3]
     rfl
   ·have c0':decide ((1:Int)<k)=false:=decide_eq_false c0
    rw[c0',Bool.false_and,Bool.false_or]
    simp! only[kL,c0',e3]
def IS:DS:=(ar (ay 6 (ah a8 (ah bJ (aa 6) (aa 4)) (aa 0)))
 (bP 5 (aa 7) (aa 6)))
theorem CJ{p:Int}{w:Nat}{l:List Int}(hp:2≤p)(hp2:p<1000000)(hl:Rw p w l)(hw:w≤1000)(u m:Nat)(hu:u+m≤w)(nb:Int)(hn:-1000<nb∧nb<1000)(μ:af) :
  du [.val (.int p),.val (li l),.val (.int u),.val (.int m),.val (.int nb)] μ=.ok (.val (li (ef p nb l u m))) μ:=by
 have rn:(c_ (u:Int) && c_ ((u:Int)+(m:Int)))=true:=by rw[dN (by lia) (by lia),dN (by lia) (by lia)];rfl
 obtain⟨e',μ',hf,x7,rfl,rfl⟩:=eJ (same:=λ_=>True) (b:=aw 7) (body:=IS) (ts:=bL (u:Int) ((u:Int)+(m:Int)-(u:Int)).toNat)
  (I:=λi e μ1=>∃x7,e=[some (.val (.int p)),some (.val (li l)),some (.val (.int u)),some (.val (.int m)),some (.val (.int nb)),some (.cel μ.length),some (.val (.int (pw p nb i))),x7]∧μ1=μ++[(true,li (ef p nb l u i))])
  (λ_ _ _ _=>trivial) (λi t e μ1 ht hI=>by
   obtain⟨x7,rfl,rfl⟩:=hI
   obtain⟨q,rfl,hq,hqi⟩:=mP ht
   have hl':=pU hp hl nb u i
   obtain⟨h0,h1⟩:=Mc hp nb i
   have ll:=hl'.len
   have eq:q=((u+i:Nat):Int):=by lia
   subst eq
   have hm:bJ (.int (pw p nb i)) (.int nb)=some (.int (pw p nb i*nb)):=ud _ _ (by lia) (by lia)
   have hmd:a8 (.int (pw p nb i*nb)) (.int p)=some (.int (pw p nb (i+1))):=j6 _ _ (by lia)
   have hs:setAt (.cel μ.length) (.int ((u+i:Nat):Int)) (.int (pw p nb (i+1))) (μ++[(true,li (ef p nb l u i))])=some (μ++[(true,li (ef p nb l u (i+1)))]):=by
    rw[kd (ts:=(ef p nb l u i).map T.int) (by simp) (by lia) (by rw[List.length_map];lia),uq,Int.toNat_natCast]
    show _=some (μ++[(true,T.lst (((ef p nb l u i).set (u+i) (pw p nb (i+1))).map T.int))])
    rw[List.map_set]
   refine⟨_,_,μ++[(true,li (ef p nb l u (i+1)))],rfl,?_,some (.val (.int ((u+i:Nat):Int))),rfl,rfl⟩
   unfold IS
   dsimp! only[hm,hmd,hs])
  (e:=[some (.val (.int p)),some (.val (li l)),some (.val (.int u)),some (.val (.int m)),some (.val (.int nb)),some (.cel μ.length),some (.val (.int 1)),none]) (μ:=μ++[(true,li l)]) ⟨none,rfl,rfl⟩
 rw[cD,show((u:Int)+(m:Int)-(u:Int)).toNat=m by lia] at hf
 unfold du
 rw[eF,show lB=ar (ay 5 (br (dUn iN (aa 1)))) (ar (ay 6 (dC (.int 1))) (ar (bY (pA (aa 2) (ah aO (aa 2) (aa 3))) (aw 7) IS) (aA (aa 5)))) from rfl]
 have hf2:forL (λ_=>True) (aw 7) IS (bL (u:Int) ((u:Int)+(m:Int)-(u:Int)).toNat) [some (.val (.int p)),some (.val (li l)),some (.val (.int u)),some (.val (.int m)),some (.val (.int nb)),some (.cel μ.length),some (.val (.int 1)),none] (μ++[(true,li l)])=RS.nx [some (.val (.int p)),some (.val (li l)),some (.val (.int u)),some (.val (.int m)),some (.val (.int nb)),some (.cel μ.length),some (.val (.int (pw p nb m))),x7] (μ++[(true,li (ef p nb l u m))]):=by
  rw[show((u:Int)+(m:Int)-(u:Int)).toNat=m by lia];exact hf
 dsimp! only[rn,hf2,Ab]
def Ba(F:FN):DS:=(ar (pE (aa 5) (ak (cal F) [(aa 0),(aa 8),(ak (cal du) [(aa 0),(aa 2),(aa 3),(aa 4),(aa 7)]),(aa 6)]))
 (ay 6 (ah aO (aa 6) (ak (cal (aZ 8)) [(aa 8)]))))
theorem tw{F:FN}{p:Int}{w d:Nat}(hp:2≤p)(hp2:p<1000)(hw:w≤1000)(hd:d≤7){L:List Int}(hL:Rw p w L){u m:Nat}(hu:u+m≤w) :
  ∀(xs:List T) (i v:Nat),(∀x∈xs,IsR d x∧∀(L:List Int) (v:Nat) (μ:af),Rw p w L→v+plc d x≤w→F [.val (.int p),.val x,.val (li L),.val (.int v)] μ=.ok (.val (.lst ((mk p d x L v).map rt))) μ)→i+xs.length≤10→v+(xs.map (plc d)).sum≤w →
  ∀(μ:af) (acc:Rows) (x1 x7 x8:Option SV),acc.length+(xs.map (rcn d)).sum≤1000→∃(x6 y7 y8:Option SV),forL (λ_=>True) (dg [7,8]) (Ba F) (dJ ((i+1:Nat):Int) xs) [some (.val (.int p)),x1,some (.val (li L)),some (.val (.int u)),some (.val (.int m)),some (.cel μ.length),some (.val (.int v)),x7,x8] (μ++[(true,.lst (acc.map rt))]) =
   .nx [some (.val (.int p)),x1,some (.val (li L)),some (.val (.int u)),some (.val (.int m)),some (.cel μ.length),x6,y7,y8] (μ++[(true,.lst ((acc++mkL (mk p d) (plc d) p L u m xs i v).map rt))])
 | [],i,v,_,_,_=>λμ acc x1 x7 x8 _=>⟨some (.val (.int v)),x7,x8,by simp[dJ,forL,mkL]⟩
 | x::xs,i,v,hx,hi,hv=>by
  intro μ acc x1 x7 x8 hc
  rw[List.map_cons,List.sum_cons] at hv hc
  rw[List.length_cons] at hi
  obtain⟨hxr,hxj⟩:=hx x List.mem_cons_self
  have e1:=CJ hp (by lia) hL hw u m hu ((i:Int)+1) (by lia) (μ++[(true,.lst (acc.map rt))])
  have e2:=hxj (ef p ((i:Int)+1) L u m) v (μ++[(true,.lst (acc.map rt))]) (pU hp hL _ u m) (by lia)
  have hlen:=FL (p:=p) d x hxr (ef p ((i:Int)+1) L u m) v
  rw[mkL,← List.append_assoc]
  generalize mk p d x (ef p ((i:Int)+1) L u m) v=xh at e2 hlen ⊢
  have e3:=tq d 7 x hxr (by lia) (μ++[(true,.lst ((acc++xh).map rt))])
  have hex:gI (.cel μ.length) (.lst (xh.map rt)) (μ++[(true,.lst (acc.map rt))])=some (μ++[(true,.lst ((acc++xh).map rt))]):=by
   rw[zl _ _ _ (by simp[szL];lia),List.map_append]
  have hb:Ba F [some (.val (.int p)),x1,some (.val (li L)),some (.val (.int u)),some (.val (.int m)),some (.cel μ.length),some (.val (.int v)),some (.val (.int ((i:Int)+1))),some (.val x)] (μ++[(true,.lst (acc.map rt))]) =
    .nx [some (.val (.int p)),x1,some (.val (li L)),some (.val (.int u)),some (.val (.int m)),some (.cel μ.length),some (.val (.int ((v:Int)+(plc d x:Nat)))),some (.val (.int ((i:Int)+1))),some (.val x)] (μ++[(true,.lst ((acc++xh).map rt))]):=by
   unfold Ba
   dsimp! only[yb,mM,e1,e2,hex,e3]
  obtain⟨x6,y7,y8,g3⟩:=tw hp hp2 hw hd hL hu xs (i+1) (v+plc d x) (λy hy=>hx y (List.mem_cons_of_mem _ hy)) (by lia) (by lia) μ (acc++xh) x1 (some (.val (.int ((i:Int)+1)))) (some (.val x)) (by rw[List.length_append];lia)
  refine⟨x6,y7,y8,?_⟩
  rw[dJ,forL,if_pos trivial]
  rw[show(((i+1:Nat):Nat):Int)=(i:Int)+1 by lia]
  simp only[eh,List.set_cons_succ,List.set_cons_zero,hb]
  rw[show(((i+1+1:Nat):Nat):Int)=(i:Int)+1+1 by lia,show((v+plc d x:Nat):Int)=(v:Int)+(plc d x:Nat) by lia] at g3
  rw[g3]
theorem pW{d:Nat}{x:T}:∀{l:List T},x∈l→rcn d x≤(l.map (rcn d)).sum
 | y::l,h=>by
  rw[List.map_cons,List.sum_cons]
  rcases List.mem_cons.mp h with z|z
  ·rw[z];lia
  ·have:=pW (d:=d) z
   lia
theorem IT{p:Int}{w:Nat}(hp:2≤p)(hp2:p<1000)(hw:w≤1000):∀(d n:Nat) (t:T),IsR d t→d≤n→d≤8→rcn d t≤1000→∀(L:List Int) (v:Nat) (μ:af),Rw p w L→v+plc d t≤w→ba (n+1) [.val (.int p),.val t,.val (li L),.val (.int v)] μ=.ok (.val (.lst ((mk p d t L v).map rt))) μ:=by
 intro d
 induction d with
 | zero =>
  rintro n t ⟨h,h0,h9,rfl⟩ _ _ _ L v μ _ _
  show fnV 9 (eo (ba n)) _ _=_
  rw[gM]
  unfold eo
  simp! only[gw,rt]
 | succ d ih =>
  rintro n t ht hn hd hc L v μ hL hv
  obtain⟨n,rfl⟩:∃m,n=m+1:=⟨n-1,by lia⟩
  show fnV 9 (eo (ba (n+1))) _ _=_
  rcases ht with ⟨h,h0,h9,rfl⟩|⟨k,r,rs,rfl,h1,h2,h3,h4⟩
  ·rw[gM]
   unfold eo
   simp! only[gw,rt]
  ·rw[la] at hv
   rw[pT] at hc
   rw[nY]
   obtain⟨m,rfl⟩:∃m:Nat,k=(m:Int)+1:=⟨(k-1).toNat,by lia⟩
   rw[show((m:Int)+1).toNat-1=m by lia] at hv ⊢
   have ho:=FT h1 (r::rs) μ
   rw[show((m:Int)+1).toNat-1=m by lia] at ho
   obtain⟨x6,y7,y8,g3⟩:=tw (F:=ba (n+1)) (d:=d) hp hp2 hw (by lia) hL (u:=v) (m:=m) (by lia) (r::rs) 0 (v+m) (λx hx=>⟨h4 x hx,λL v μ hL hv=>ih n x (h4 x hx) (by lia) (by lia) (by have:=pW (d:=d) hx;lia) L v μ hL hv⟩) (by simp;lia) (by lia) μ [] (some (.val (som ((m:Int)+1) (r::rs)))) none none (by simpa using hc)
   rw[show(((0+1:Nat):Nat):Int)=1 from rfl,Int.natCast_add,List.nil_append,List.map_nil] at g3
   rw[show eo (ba (n+1))=(ar (sIf (ak (cal bo) [(aa 1)]) (aA (bD [(cV [(ax (aa 1) (dC (.int 1))),(dUn bh (aa 2))])])) bA)
     (ar (ay 4 (ak (cal cZ) [(aa 1)]))
     (ar (ay 5 (br (bD [])))
     (ar (ay 6 (ah aO (aa 3) (aa 4)))
     (ar (bY (uG (ax (aa 1) (dC (.int 2)))) (dg [7,8]) (Ba (ba (n+1))))
     (aA (aa 5))))))) from rfl]
   simp! only[kL,ho,Cg,qE,g3,Ab]
theorem tE(n:Str)(e:Slots)(μ:af):uu n e μ=.err (.exc n none) e μ:=(rfl)
theorem Bb(c:T)(e:Slots)(μ:af)(f:Slots→af→RS):(RS.err c e μ).seq f=.err c e μ:=(rfl)
theorem xi(n:Nat)(c:T)(e:Slots)(μ:af):RS.qf n (.err c e μ)=.err c (μ.take n):=(rfl)
theorem toS_err{α:Type}(c:T)(e:Slots)(μ:af)(f:α→af→RS):(R.err c μ:R α).toS e f=.err c e μ:=(rfl)
theorem IU{d:DS}{e:Slots}{μ μ':af}{x:SV}(h:d e μ=.rt x μ'):fC d e μ=.rt x μ':=by unfold fC;rw[h]
def good(p:Int)(d:Nat)(t:T):Bool:=decide (plc d t≤11) && !crw p d t
theorem CK{p:Int}(hp:2≤p)(hp2:p<1000){d:Nat}{t:T}(ht:IsR d t)(hd:d≤5)(hq:rcn d t≤24)(μ:af) :
  eA [.val (.int p),.val t] μ=if good p d t=true then .ok (.val (tb p (1+plc d t:Nat) (tbl p d t))) μ else .err (.exc "TooMany" none) μ:=by
 have e1:aZ 8 [.val t] μ=.ok (.val (.int ((plc d t:Nat):Int))) μ:=tq d 7 t ht (by lia) μ
 have e2:bH 8 [.val (.int p),.val t] μ=.ok (.val (.bl (crw p d t))) μ:=FU d 7 t ht (by lia) μ
 have e3:plc d t≤11→ba 8 [.val (.int p),.val t,.val (li (l0 (plc d t))),.val (.int 1)] μ=.ok (.val (.lst ((tbl p d t).map rt))) μ:=λh=>IT (w:=1+plc d t) hp hp2 (by lia) d 7 t ht (by lia) (by lia) (by lia) (l0 (plc d t)) 1 μ (JS hp _) (Nat.le_refl _)
 unfold good
 generalize tbl p d t=rows at *
 generalize crw p d t=c at *
 generalize plc d t=q at *
 unfold eA oI
 by_cases h:q≤11
 ·have c1:decide ((12:Int)<1+(q:Int))=false:=decide_eq_false (by lia)
  rw[decide_eq_true h,Bool.true_and]
  cases c with
  | true =>
   rw[Bool.not_true,if_neg Bool.false_ne_true]
   simp?! only[e1,c1,e2,tE,Bb,xi,List.take_length]
  | false =>
   rw[Bool.not_false,if_pos rfl]
   have e4:j5 (.lst [.int 0]) (.int (1+(q:Int)-1))=some (li (List.replicate q 0)):=by
    rw[show(1+(q:Int)-1)=(q:Int) by lia]
    exact rep0 q (by lia)
   have e5:aO (.lst [.int 1]) (li (List.replicate q 0))=some (li (1::List.replicate q 0)):=by
    rw[gy _ _ (by simp[szL];lia)];simp
   have e6:fC (aA (cV [(aa 0),(aa 2),(dUn bh (ak (cal (ba 8)) [(aa 0),(aa 1),(ah aO (bD [(dC (.int 1))]) (lS j5 [(dC (.int 0))] (ah oV (aa 2) (dC (.int 1))))),(dC (.int 1))]))])) [some (.val (.int p)),some (.val t),some (.val (.int (1+(q:Int))))] μ=.rt (.val (tb p (1+q:Nat) rows)) μ:=by
    refine IU ?_
    have e3:ba 8 [.val (.int p),.val t,.val (li (1::List.replicate q 0)),.val (.int 1)] μ=.ok (.val (.lst (rows.map rt))) μ:=e3 h
    generalize li (1::List.replicate q 0)=L at e3 e5
    generalize li (List.replicate q 0)=L0 at e4 e5
    unfold tb
    generalize j5=fr at e4 ⊢
    simp?! only[G9,e4,e5,e3,Int.natCast_add,Int.natCast_one]
   generalize fC (aA (cV [(aa 0),(aa 2),(dUn bh (ak (cal (ba 8)) [(aa 0),(aa 1),(ah aO (bD [(dC (.int 1))]) (lS j5 [(dC (.int 0))] (ah oV (aa 2) (dC (.int 1))))),(dC (.int 1))]))]))=D6 at e6
   simp?! only[e1,c1,e2,e6]
 ·have c1:decide ((12:Int)<1+(q:Int))=true:=decide_eq_true (by lia)
  rw[decide_eq_false h,Bool.false_and,if_neg Bool.false_ne_true]
  simp?! only[e1,c1,tE,Bb,xi,List.take_length]
theorem Mg{b:DS}{g:Str→DS}{e e':Slots}{μ μ':af}(h:b e μ=.nx e' μ'):uv b g e μ=.nx e' μ':=by unfold uv;rw[h]
theorem IV{b:DS}{g:Str→DS}{e e':Slots}{μ μ':af}{n:Str}(h:b e μ=.err (.exc n none) e' μ'):uv b g e μ=g n e' μ':=by unfold uv;rw[h]
theorem IW{d:DS}{e e':Slots}{μ μ':af}(h:d e μ=.nx e' μ'):fC d e μ=.nx e' μ':=by unfold fC;rw[h]
theorem FV{p:Int}(hp:2≤p)(hp2:p<1000){d:Nat}{t:T}(ht:IsR d t)(hd:d≤5)(hq:rcn d t≤24)(μ:af) :
  eM [.val (.int p),.val t] μ=.ok (.val (if good p d t=true then tb p (1+plc d t:Nat) (tbl p d t) else .non)) μ:=by
 have h:=CK hp hp2 ht hd hq μ
 unfold eM oJ
 generalize tb p (1+plc d t:Nat) (tbl p d t)=u at h ⊢
 have e1:uv (ay 2 (ak eA [(aa 0),(aa 1)])) (λn=>if n="TooMany" then (fC (ay 2 (dC (.non)))) else ug) [some (.val (.int p)),some (.val t),some (.val .non)] μ=.nx [some (.val (.int p)),some (.val t),some (.val (if good p d t=true then u else .non))] μ:=by
  cases hg:good p d t with
  | true =>
   rw[hg,if_pos rfl] at h
   rw[if_pos rfl]
   exact Mg (by simp?! only[h])
  | false =>
   rw[hg,if_neg Bool.false_ne_true] at h
   rw[if_neg Bool.false_ne_true,IV (n:="TooMany") (e':=[some (.val (.int p)),some (.val t),some (.val .non)]) (μ':=μ) (by simp?! only[h,toS_err]),if_pos rfl]
   exact IW (by simp?! only[])
 generalize uv (ay 2 (ak eA [(aa 0),(aa 1)])) (λn=>if n="TooMany" then (fC (ay 2 (dC (.non)))) else ug)=D at e1
 simp?! only[e1]
end Fw.k34
namespace Fw.K
open PySem Fw Fw.H Fw.E Fw.F Fw.J
section
variable{p:Int}{w:Nat}{rows:Rows}{is:List Nat}
end
theorem CL(p:Int)(rows:Rows)(fs:List Int):(parts p rows fs).length=rows.length:=by unfold parts;rw[List.length_map]
theorem xj{p:Int}(hp:0<p)(rows:Rows)(fs:List Int):Rw p rows.length (parts p rows fs):=by
 refine⟨CL p rows fs,λx hx=>?_,λx hx=>?_⟩
 ·obtain⟨q,_,rfl⟩:=List.mem_map.mp hx;exact Int.emod_nonneg _ (by omega)
 ·obtain⟨q,_,rfl⟩:=List.mem_map.mp hx;exact Int.emod_lt_of_pos _ hp
end Fw.K
namespace Fw.k34
open PySem Fw Fw.H Fw.E Fw.F Fw.U Fw.Rl
theorem kT(ns:List Int)(k:Int)(μ:af)(h0:0≤k)(h1:k≤1000):∃c,bX [.val (.lst (ns.map T.int)),.val (.int k)] μ=.ok (.val (.int c)) μ:=H.kT ns k μ h0 h1
theorem ye(c m:Int)(n:Nat)(μ:af)(hm:0<m)(hm2:m<1000000)(hn2:n≤1000):∃r,hJ [.val (.int c),.val (.int m),.val (.int n)] μ=.ok (.val (li r)) μ∧Rw m n r:=IK c m n μ hm hm2 hn2
structure Ru(n d:Nat)(t:T):Prop where
 r:IsR d t
 h:∀h∈hwd d t,0≤h∧h<(n:Int)
theorem IX{n:Nat}(hn:n≤10)(d:Nat){h:Int}(h0:0≤h)(h1:h<(n:Int)):Ru n d (hnd h):=by
 refine⟨?_,λx hx=>?_⟩
 ·cases d with
  | zero=>exact⟨h,h0,by omega,rfl⟩
  | succ d=>exact .inl ⟨h,h0,by omega,rfl⟩
 ·rw[va,List.mem_singleton] at hx
  subst hx
  exact⟨h0,h1⟩
theorem IY{n d:Nat}{k:Int}{ts:List T}(h1:1≤k)(h2:k≤ts.length)(h3:ts.length≤10)(h:∀t∈ts,Ru n d t):Ru n (d+1) (som k ts):=by
 refine⟨?_,λx hx=>?_⟩
 ·cases ts with
  | nil=>simp at h2;omega
  | cons r rs=>exact .inr ⟨k,r,rs,rfl,h1,by simpa using h2,by simpa using h3,λx hx=>(h x hx).r⟩
 ·rw[AO] at hx
  obtain⟨t,ht,hx⟩:=List.mem_flatMap.mp hx
  exact(h t ht).h x hx
abbrev S2(a b:Nat):Bool×T:=(true,.lst [.int (a:Int),.int (b:Int)])
section
variable{M:af}{ks a b:Nat}
theorem OA(h:M[ks]?=some (S2 a b)):iM M (.cel ks) (.int 0)=some (.val (.int a)):=by rw[qc,ir,h];rfl
theorem Mh(h:M[ks]?=some (S2 a b)):iM M (.cel ks) (.int 1)=some (.val (.int b)):=by rw[qc,ir,h];rfl
theorem JT(h:M[ks]?=some (S2 a b)):setAt (.cel ks) (.int 0) (.int ((a:Int)+1)) M=some (M.set ks (S2 (a+1) b)):=by
 rw[kd (ts:=[.int a,.int b]) h (by lia) (by simp)];rfl
theorem OB(h:M[ks]?=some (S2 a b)):setAt (.cel ks) (.int 1) (.int ((b:Int)+1)) M=some (M.set ks (S2 a (b+1))):=by
 rw[kd (ts:=[.int a,.int b]) h (by lia) (by simp)];rfl
end
theorem FW{A B:D}{e:Slots}{μ:af}{a b:Bool}(h1:A e μ=.ok (.val (.bl a)) μ)(h2:B e μ=.ok (.val (.bl b)) μ):dOr A B e μ=.ok (.val (.bl (a || b))) μ:=by
 cases a with
 | true =>
  simp?! only[h1]
  rfl
 | false =>
  simp?! only[h1,h2]
  rfl
theorem FX{A B:D}{e:Slots}{μ:af}{a b:Bool}(h1:A e μ=.ok (.val (.bl a)) μ)(h2:B e μ=.ok (.val (.bl b)) μ):ij A B e μ=.ok (.val (.bl (a && b))) μ:=by
 cases a with
 | true =>
  simp?! only[h1,h2]
  rfl
 | false =>
  simp?! only[h1]
  rfl
def cb(deep:Int)(b:Nat)(c:Int):Bool:=(deep==3) || (decide (5<(b:Int)) || ((decide (0<deep) && decide (c%5<3)) || ((deep==0) && (c%16==7))))
def FY:D:=(dOr (ah fEq (aa 2) (dC (.int 3))) (dOr (ah fGt (ax (aa 1) (dC (.int 1))) (dC (.int 5))) (dOr (ij (ah fGt (aa 2) (dC (.int 0))) (ah fLt (ah a8 (aa 3) (dC (.int 5))) (dC (.int 3)))) (ij (ah fEq (aa 2) (dC (.int 0))) (ah fEq (ah a8 (aa 3) (dC (.int 16))) (dC (.int 7)))))))
theorem FZ{M:af}{ks a b:Nat}(h:M[ks]?=some (S2 a b))(deep c:Int)(x0 x4 x5 x6:Option SV):FY [x0,some (.cel ks),some (.val (.int deep)),some (.val (.int c)),x4,x5,x6] M=.ok (.val (.bl (cb deep b c))) M:=by
 have i1:=Mh h
 unfold FY cb
 exact FW (by simp?! only[]) (FW (by simp?! only[i1]) (FW (FX (by simp?! only[]) (by simp?! only[])) (FX (by simp?! only[]) (by simp?! only[]))))
theorem Bc:∀(d:Nat) (t:T),IsR d t→1≤rcn d t
 | 0,t,⟨h,_,_,e⟩=>by rw[e,jE];exact Nat.le_refl _
 | d+1,t,.inl ⟨h,_,_,e⟩=>by rw[e,jE];exact Nat.le_refl _
 | d+1,t,.inr ⟨k,r,rs,e,h1,h2,h3,h4⟩=>by
  rw[e,pT]
  exact Nat.le_trans (Bc d r (h4 r List.mem_cons_self)) (pW List.mem_cons_self)
theorem arith{d a a' b b' s:Nat}(hd:d≤2)(h1:a'≤a+1+(d+1)*s)(h2:b'=b+s)(h3:b'≤8)(h4:a+(d+2)*(9-b)≤900):a'+(d+1)*(9-b')≤900∧a'≤900:=by
 have:d=0∨d=1∨d=2:=by lia
 rcases this with rfl|rfl|rfl<;>lia
theorem arith2{d a a' s:Nat}(hd:d≤2)(h1:a'≤a+1+(d+1)*s)(hs:1≤s):a'≤a+(d+2)*s:=by
 have:d=0∨d=1∨d=2:=by lia
 rcases this with rfl|rfl|rfl<;>lia
def tG(F:FN):DS:=(sIf (ah fLt (ax (aa 1) (dC (.int 1))) (dC (.int 9))) (cf (aa 5) (ak (cal F) [(aa 0),(aa 1),(ah aO (aa 2) (dC (.int 1)))])) bA)
def F8(F:FN):DS:=(ar (ay 3 (ak (cal bX) [(aa 0),(ah aO (dC (.int 4)) (ax (aa 1) (dC (.int 0))))]))
 (ar (bP 1 (dC (.int 0)) (ah aO (ax (aa 1) (dC (.int 0))) (dC (.int 1))))
 (ar (sIf FY (ar (bP 1 (dC (.int 1)) (ah aO (ax (aa 1) (dC (.int 1))) (dC (.int 1))))
 (aA (cV [(dC (.str "hand")),(ah a8 (ah gO (aa 3) (dC (.int 5))) (dC (.int 5)))]))) bA)
 (ar (ay 4 (ah aO (dC (.int 1)) (ah a8 (ah gO (aa 3) (dC (.int 5))) (dC (.int 4)))))
 (ar (ay 5 (br (bD [])))
 (ar (bY (aQ (aa 4)) (aw 6) (tG F))
 (aA (cV [(dC (.str "some")),(ah HE (ah aO (dC (.int 1)) (ah a8 (ah gO (aa 3) (dC (.int 75))) (aa 4))) (gz (aa 5))),(dUn bh (aa 5))]))))))))
theorem xk(F:FN):hU F=F8 F:=rfl
def Drawn(F:FN)(ns:List Int)(d:Nat):Prop:=∀(M:af) (ks a b:Nat),M[ks]?=some (S2 a b)→b≤8→a+(d+1)*(9-b)≤900 →
 ∃(t:T) (a':Nat),Ru 5 d t∧b+rcn d t≤9∧a'≤a+(d+1)*rcn d t∧F [.val (.lst (ns.map T.int)),.cel ks,.val (.int (3-(d:Int)))] M=.ok (.val t) (M.set ks (S2 a' (b+rcn d t)))
theorem tH(F:FN)(ns:List Int)(d:Nat){M:af}{ks a b:Nat}(h:M[ks]?=some (S2 a b))(hb:b≤8)(ha:a≤900){c:Int}(ot:bX [.val (.lst (ns.map T.int)),.val (.int (4+(a:Int)))] M=.ok (.val (.int c)) M)(hc:cb (3-(d:Int)) b c=true) :
  ∃(t:T) (a':Nat),Ru 5 d t∧b+rcn d t≤9∧a'≤a+(d+1)*rcn d t∧fnV 7 (hU F) [.val (.lst (ns.map T.int)),.cel ks,.val (.int (3-(d:Int)))] M=.ok (.val t) (M.set ks (S2 a' (b+rcn d t))):=by
 have l1:ks<M.length:=(List.getElem?_eq_some_iff.mp h).1
 have e1:a8 (.int (c / 5)) (.int 5)=some (.int (c / 5%5)):=j6 _ _ (by lia)
 have e2:=Int.emod_nonneg (c / 5) (show(5:Int)≠0 by lia)
 have e3:=Int.emod_lt_of_pos (c / 5) (show(0:Int)<5 by lia)
 generalize c / 5%5=hh at e1 e2 e3
 refine⟨hnd hh,a+1,IX (by lia) d e2 e3,by rw[jE];lia,by rw[jE];lia,?_⟩
 rw[jE]
 have i0:=OA h
 have s0:=JT h
 have h':(M.set ks (S2 (a+1) b))[ks]?=some (S2 (a+1) b):=List.getElem?_set_self l1
 have hlen:(M.set ks (S2 (a+1) b)).length=M.length:=List.length_set
 have i1:=Mh h'
 have s1:=OB h'
 have hcd:=FZ h' (3-(d:Int)) c (some (.val (.lst (ns.map T.int)))) none none none
 rw[hc] at hcd
 rw[List.set_set] at s1
 rw[xk]
 unfold F8
 generalize FY=C at hcd
 generalize hM1:M.set ks (S2 (a+1) b)=M1 at *
 simp?! only[i0,ot,s0,hcd,i1,s1,e1]
 rw[List.take_of_length_le (by rw[List.length_set];exact Nat.le_refl _)]
theorem zp(M:af)(ks:Nat)(x y z:Bool×T)(h:ks<M.length):(M.set ks x++[y]).set ks z=M.set ks z++[y]:=by
 rw[List.set_append_left _ _ (by rw[List.length_set];exact h),List.set_set]
theorem CM{F:FN}{ns:List Int}{d:Nat}(hd:d≤2)(hF:Drawn F ns d){M:af}{ks a b:Nat}(l1:ks<M.length)(hb:b≤5)(ha:a+(d+2)*(9-b)≤900)(m:Nat)(hm:1≤m)(hm2:m≤4)(x3 x4:Option SV) :
  ∃(ts:List T) (a':Nat) (y6:Option SV),ts≠[]∧ts.length≤m∧(∀x∈ts,Ru 5 d x)∧b+(ts.map (rcn d)).sum≤9∧a'≤a+1+(d+1)*(ts.map (rcn d)).sum ∧
   forL (λ_=>True) (aw 6) (tG F) (bL 0 m) [some (.val (.lst (ns.map T.int))),some (.cel ks),some (.val (.int (3-((d+1:Nat):Int)))),x3,x4,some (.cel M.length),none] (M.set ks (S2 (a+1) b)++[(true,.lst [])]) =
    .nx [some (.val (.lst (ns.map T.int))),some (.cel ks),some (.val (.int (3-((d+1:Nat):Int)))),x3,x4,some (.cel M.length),y6] (M.set ks (S2 a' (b+(ts.map (rcn d)).sum))++[(true,.lst ts)]):=by
 have n0:∀x∈([]:List T),Ru 5 d x:=λx hx=>absurd hx (by simp)
 obtain⟨e',μ',hf,ts,a',y6,rfl,rfl,h1,h2,h3,h4,h5⟩:=eJ (same:=λ_=>True) (b:=aw 6) (body:=tG F) (ts:=bL 0 m)
  (I:=λi e μ1=>∃(ts:List T) (a':Nat) (y6:Option SV),e=[some (.val (.lst (ns.map T.int))),some (.cel ks),some (.val (.int (3-((d+1:Nat):Int)))),x3,x4,some (.cel M.length),y6]∧μ1=M.set ks (S2 a' (b+(ts.map (rcn d)).sum))++[(true,.lst ts)]∧(1≤i→ts≠[])∧ts.length≤i∧(∀x∈ts,Ru 5 d x)∧b+(ts.map (rcn d)).sum≤9∧a'≤a+1+(d+1)*(ts.map (rcn d)).sum)
  (λ_ _ _ _=>trivial) (λi z e μ1 hz hI=>by
   obtain⟨ts,a',y6,rfl,rfl,g1,g2,g3,g4,g5⟩:=hI
   obtain⟨k,rfl,hi,hk⟩:=mP hz
   have lN:(M.set ks (S2 a' (b+(ts.map (rcn d)).sum))).length=M.length:=List.length_set
   have hN:(M.set ks (S2 a' (b+(ts.map (rcn d)).sum))++[(true,.lst ts)])[ks]?=some (S2 a' (b+(ts.map (rcn d)).sum)):=by
    rw[List.getElem?_append_left (by rw[lN];exact l1),List.getElem?_set_self l1]
   have i1:=Mh hN
   by_cases c:b+(ts.map (rcn d)).sum≤8
   ·have c':decide (((b+(ts.map (rcn d)).sum:Nat):Int)<9)=true:=decide_eq_true (by lia)
    obtain⟨ar1,_⟩:=arith hd g5 rfl c ha
    obtain⟨t,a'',r1,r2,r3,r4⟩:=hF _ ks a' (b+(ts.map (rcn d)).sum) hN c ar1
    rw[zp M ks _ _ _ l1] at r4
    have hs:((ts++[t]).map (rcn d)).sum=(ts.map (rcn d)).sum+rcn d t:=by rw[List.map_append,List.sum_append];simp
    have hls:nA (.cel M.length) (M.set ks (S2 a' (b+(ts.map (rcn d)).sum))++[(true,.lst ts)])=some ():=by
     conv=>lhs;rw[← lN]
     exact mM _ _ _ _
    have hap:appendAt (.cel M.length) t (M.set ks (S2 a'' (b+(ts.map (rcn d)).sum+rcn d t))++[(true,.lst ts)])=some (M.set ks (S2 a'' (b+(ts.map (rcn d)).sum+rcn d t))++[(true,.lst (ts++[t]))]):=by
     have lN2:(M.set ks (S2 a'' (b+(ts.map (rcn d)).sum+rcn d t))).length=M.length:=List.length_set
     conv=>lhs;rw[← lN2]
     exact gG _ [] ts t (by unfold szL;lia)
    have e4:(3-((d+1:Nat):Int))+1=3-(d:Int):=by lia
    rw[Nat.add_assoc] at r4 hap
    refine⟨_,_,M.set ks (S2 a'' (b+((ts.map (rcn d)).sum+rcn d t)))++[(true,.lst (ts++[t]))],rfl,?_,ts++[t],a'',some (.val (.int k)),rfl,by rw[hs],λ_=>by simp,by rw[List.length_append];show ts.length+1≤i+1;lia,λx hx=>?_,by rw[hs];lia,by rw[hs,Nat.mul_add];lia⟩
    ·unfold tG
     generalize hN1:M.set ks (S2 a' (b+(ts.map (rcn d)).sum))++[(true,T.lst ts)]=N1 at *
     simp?! only[i1,c',hls,e4,r4,hap]
    ·rcases List.mem_append.mp hx with hx|hx
     ·exact g3 x hx
     ·rw[List.mem_singleton.mp hx];exact r1
   ·have c':decide (((b+(ts.map (rcn d)).sum:Nat):Int)<9)=false:=decide_eq_false (by lia)
    refine⟨_,_,_,rfl,?_,ts,a',some (.val (.int k)),rfl,rfl,λ_ z=>?_,by lia,g3,g4,g5⟩
    ·unfold tG
     simp?! only[i1,c']
    ·subst z
     simp at c
     lia)
  (e:=[some (.val (.lst (ns.map T.int))),some (.cel ks),some (.val (.int (3-((d+1:Nat):Int)))),x3,x4,some (.cel M.length),none]) (μ:=M.set ks (S2 (a+1) b)++[(true,.lst [])]) ⟨[],a+1,none,rfl,rfl,λz=>absurd z (by lia),Nat.le_refl _,n0,show b+0≤9 by lia,show a+1≤a+1+(d+1)*0 by lia⟩
 rw[cD] at h1 h2
 exact⟨ts,a',y6,h1 hm,h2,h3,h4,h5,hf⟩
theorem CN(F:FN)(ns:List Int)(d:Nat)(hd:d≤2)(hF:Drawn F ns d){M:af}{ks a b:Nat}(h:M[ks]?=some (S2 a b))(hb:b≤8)(ha:a+(d+2)*(9-b)≤900)(ha2:a≤900){c:Int}(ot:bX [.val (.lst (ns.map T.int)),.val (.int (4+(a:Int)))] M=.ok (.val (.int c)) M)(hc:cb (3-((d+1:Nat):Int)) b c=false) :
  ∃(t:T) (a':Nat),Ru 5 (d+1) t∧b+rcn (d+1) t≤9∧a'≤a+(d+2)*rcn (d+1) t∧fnV 7 (hU F) [.val (.lst (ns.map T.int)),.cel ks,.val (.int (3-((d+1:Nat):Int)))] M=.ok (.val t) (M.set ks (S2 a' (b+rcn (d+1) t))):=by
 have l1:ks<M.length:=(List.getElem?_eq_some_iff.mp h).1
 have hb5:b≤5:=by
  unfold cb at hc
  simp only[Bool.or_eq_false_iff,decide_eq_false_iff_not] at hc
  lia
 obtain⟨m,hm,m1,m2⟩:∃m:Nat,1+c / 5%4=(m:Int)∧1≤m∧m≤4:=⟨(1+c / 5%4).toNat,by lia,by lia,by lia⟩
 have k0:=Int.emod_nonneg (c / 75) (show(m:Int)≠0 by lia)
 obtain⟨k,hk,k1⟩:∃k:Int,1+c / 75%(m:Int)=k∧1≤k:=⟨_,rfl,by lia⟩
 have hr1:a8 (.int (c / 75)) (.int (m:Int))=some (.int (c / 75%(m:Int))):=j6 _ _ (by lia)
 obtain⟨ts,a',y6,t1,t2,t3,t4,t5,hf⟩:=CM hd hF l1 hb5 ha m m1 m2 (some (.val (.int c))) (some (.val (.int m)))
 obtain⟨x,xs,rfl⟩:∃x xs,ts=x::xs:=by
  cases ts with
  | nil=>exact absurd rfl t1
  | cons x xs=>exact⟨x,xs,rfl⟩
 obtain⟨mn,hmn,n1,n2⟩:∃mn:Int,(if (((x::xs).length:Nat):Int)<k then (((x::xs).length:Nat):Int) else k)=mn∧1≤mn∧mn≤((x::xs).length:Int):=by
  refine⟨_,rfl,?_,?_⟩
  ·split
   ·rw[List.length_cons];lia
   ·exact k1
  ·rw[List.length_cons]
   split
   ·lia
   ·lia
 have hcs:rcn (d+1) (som mn (x::xs))=((x::xs).map (rcn d)).sum:=pT d mn (x::xs)
 have PB:1≤((x::xs).map (rcn d)).sum:=Nat.le_trans (Bc d x (t3 x List.mem_cons_self).r) (pW List.mem_cons_self)
 refine⟨som mn (x::xs),a',IY n1 n2 (by lia) t3,by rw[hcs];exact t4,by rw[hcs];exact arith2 hd t5 PB,?_⟩
 rw[hcs]
 have i0:=OA h
 have s0:=JT h
 have h':(M.set ks (S2 (a+1) b))[ks]?=some (S2 (a+1) b):=List.getElem?_set_self l1
 have hlen:(M.set ks (S2 (a+1) b)).length=M.length:=List.length_set
 have hcd:=FZ h' (3-((d+1:Nat):Int)) c (some (.val (.lst (ns.map T.int)))) none none none
 rw[hc] at hcd
 have rn:c_ (m:Int)=true:=dN (by lia) (by lia)
 have lN:(M.set ks (S2 a' (b+((x::xs).map (rcn d)).sum))).length=M.length:=List.length_set
 have gN:(M.set ks (S2 a' (b+((x::xs).map (rcn d)).sum))++[(true,T.lst (x::xs))])[M.length]?=some (true,.lst (x::xs)):=by
  conv=>lhs;rw[← lN]
  rw[gX]
 have rdN:rd (M.set ks (S2 a' (b+((x::xs).map (rcn d)).sum))++[(true,.lst (x::xs))]) (.cel M.length)=some (.lst (x::xs)):=by
  conv=>lhs;rw[← lN]
  rw[ir,gX];rfl
 have lnS:ny (M.set ks (S2 a' (b+((x::xs).map (rcn d)).sum))++[(true,.lst (x::xs))]) (.cel M.length)=some (.int (((x::xs).length:Nat):Int)):=by
  rw[vM,rdN];rfl
 have hf:forL (λ_=>True) (aw 6) (tG F) (bL 0 (m:Int).toNat) [some (.val (.lst (ns.map T.int))),some (.cel ks),some (.val (.int (3-((d+1:Nat):Int)))),some (.val (.int c)),some (.val (.int m)),some (.cel M.length),none] (M.set ks (S2 (a+1) b)++[(true,.lst [])])=.nx [some (.val (.lst (ns.map T.int))),some (.cel ks),some (.val (.int (3-((d+1:Nat):Int)))),some (.val (.int c)),some (.val (.int m)),some (.cel M.length),y6] (M.set ks (S2 a' (b+((x::xs).map (rcn d)).sum))++[(true,.lst (x::xs))]):=by
  rw[Int.toNat_natCast];exact hf
 have sa:(M.set ks (S2 a' (b+((x::xs).map (rcn d)).sum))++[(true,T.lst (x::xs))]).take M.length=M.set ks (S2 a' (b+((x::xs).map (rcn d)).sum)):=by
  conv=>lhs;rw[← lN]
  exact List.take_left
 rw[xk]
 unfold F8
 generalize FY=C at hcd
 generalize (3-((d+1:Nat):Int))=dp at *
 generalize hN2:M.set ks (S2 a' (b+((x::xs).map (rcn d)).sum))++[(true,T.lst (x::xs))]=N2 at *
 generalize hM1:M.set ks (S2 (a+1) b)=M1 at *
 generalize hM2:M.set ks (S2 a' (b+((x::xs).map (rcn d)).sum))=M2 at *
 generalize hXS:x::xs=XS at *
 simp?! only[i0,ot,s0,hcd,hm,hr1,hk,hlen,rn,hf,gN,Option.map_some,Ed,lnS,hmn,sa]
theorem IZ(ns:List Int):∀(d n:Nat),d≤n→d≤3→Drawn (cj (n+1)) ns d:=by
 intro d
 induction d with
 | zero =>
  intro n hn h4 M ks a b h hb ha
  obtain⟨c,hc⟩:=kT ns (4+(a:Int)) M (by lia) (by lia)
  exact tH (cj n) ns 0 h hb (by lia) hc (by unfold cb;rfl)
 | succ d ih =>
  intro n hn h4 M ks a b h hb ha
  obtain⟨m,rfl⟩:∃m,n=m+1:=⟨n-1,by lia⟩
  have ha9:a≤900:=by
   have:d=0∨d=1∨d=2:=by lia
   rcases this with rfl|rfl|rfl<;>lia
  obtain⟨c,hc⟩:=kT ns (4+(a:Int)) M (by lia) (by lia)
  cases z:cb (3-((d+1:Nat):Int)) b c with
  | true=>exact tH (cj (m+1)) ns (d+1) h hb ha9 hc z
  | false=>exact CN (cj (m+1)) ns d (by lia) (ih m (by lia) (by lia)) h hb ha ha9 hc z
theorem F9:∀(d fu:Nat) (t:T),IsR d t→d≤fu→∀(μ:af) (v:SV) (hs:List Int),rd μ v=some (li hs)→bf (fu+1) [.val t,v] μ=.ok (.val (.bl (b9 hs d t))) μ:=by
 intro d
 induction d with
 | zero =>
  rintro n t ⟨h,_,_,rfl⟩ hn μ v hs hv
  show fnV 2 (eD (bf n)) _ _=_
  rw[cS]
  unfold eD
  simp?! only[hv,iS]
 | succ d ih =>
  rintro n t ht hn μ v hs hv
  obtain⟨m,rfl⟩:∃m,n=m+1:=⟨n-1,by omega⟩
  show fnV 2 (eD (bf (m+1))) _ _=_
  rcases ht with ⟨h,_,_,rfl⟩|⟨k,r,rs,rfl,h1,h2,h3,h4⟩
  ·rw[cS]
   unfold eD
   simp?! only[hv,iS]
  ·have hc:=λ(same:af→Prop) (hs':same μ)=>qq (same:=same) (b:=aw 0) (c:=ak (cal (bf (m+1))) [(aa 0),(aa 1)]) (d:=aa 0) (e:=[none,some v]) (μ:=μ) (b9 hs d) id hs' (r::rs) λx hx=>by
    refine⟨_,rfl,?_,λ_=>?_⟩
    ·simp?! only[ih m x (h4 x hx) (by omega) μ v hs hv]
    ·simp?! only[id]
   rw[ig]
   unfold eD
   simp?! only[w6]
   rw[hc]
   ·rw[R.bE,R.aL,if_pos (by simp[szL];omega)]
    simp?! only[List.map_id]
   ·trivial
theorem F_{hs os:List Int}:∀(d:Nat) (t:T),IsR d t→(∀h∈hwd d t,(h∈hs↔h∈os))→b9 hs d t=b9 os d t:=by
 intro d
 induction d with
 | zero =>
  rintro t ⟨h,_,_,rfl⟩ ho
  rw[cS,cS,decide_eq_decide]
  exact ho h (by rw[va];exact List.mem_singleton.mpr rfl)
 | succ d ih =>
  rintro t ht ho
  rcases ht with ⟨h,_,_,rfl⟩|⟨k,r,rs,rfl,h1,h2,h3,h4⟩
  ·rw[cS,cS,decide_eq_decide]
   exact ho h (by rw[va];exact List.mem_singleton.mpr rfl)
  ·rw[ig,ig]
   have:(r::rs).filter (b9 hs d)=(r::rs).filter (b9 os d):=List.filter_congr λx hx=>ih x (h4 x hx) λh hh=>ho h (by rw[AO];exact List.mem_flatMap.mpr ⟨x,hx,hh⟩)
   rw[this]
end Fw.k34
namespace Fw.Sets
open PySem Fw Fw.H Fw.E Fw.F
section
variable{p:Int}{n:Nat}{rows:Rows}{X:Int→Int}
end
section
variable{p:Int}{n:Nat}{rows:Rows}{X:Int→Int}{O:List Int→Bool}
end
section
variable{p:Int}{n:Nat}{rows:Rows}{O:List Int→Bool}
end
end Fw.Sets
namespace Fw.k33
open PySem Fw
def jn:DS :=
 (ar (ay 3 (ah a8 (aa 2) (aa 0)))
 (ar (sIf (ah fEq (aa 3) (dC (.int 0))) ug bA)
 (ar (ay 4 (ah a8 (aa 1) (aa 0)))
 (ar (ka (ah fNe (aa 3) (dC (.int 1))) (ar (ay 4 (ah a8 (ah bJ (dUn DJ (aa 4)) (ah gO (aa 0) (aa 3))) (aa 0)))
 (ay 3 (ah a8 (aa 0) (aa 3)))))
 (aA (aa 4))))))
def kX:FN:=fnV 5 jn
def gi:DS :=
 (aA (aF (aY (aa 2)) [none,some 0,some 1] (aw 0) (dC (.bl true)) (ah a8 (ah bJ (aa 2) (aa 0)) (aa 1))))
def iU:FN:=fnV 3 gi
def dS:DS :=
 (ar (ay 4 (ax (aa 1) (aa 3)))
 (ar (sIf (ah fEq (aa 4) (dC (.int 0))) (aA (aa 1)) bA)
 (aA (aF (uj (aa 1) (aa 2)) [none,none,some 0,some 4] (dg [0,1]) (dC (.bl true)) (ah a8 (ah oV (aa 0) (ah bJ (aa 3) (aa 1))) (aa 2))))))
def iV:FN:=fnV 5 dS
def bW:DS :=
 (ar (bY (aQ (aa 1)) (aw 2) (sIf (ah fNe (ax (aa 0) (aa 2)) (dC (.int 0))) (aA (aa 2)) bA))
 (aA (dC (.non))))
def eL:FN:=fnV 3 bW
def jq:DS :=
 (ar (ay 3 (br (dC (.dct []))))
 (ar (ay 4 (br (bD [])))
 (ar (bY (aY (aa 1)) (aw 5) (ar (ay 6 (aa 5))
 (ar (bY (jk (aa 3)) (dg [7,8]) (ay 6 (ak (cal iV) [(aa 0),(aa 6),(aa 8),(aa 7)])))
 (ar (ay 9 (ak (cal eL) [(aa 6),(aa 2)]))
 (sIf (dUn jO (aa 9)) (cf (aa 4) (aa 6)) (ar (ay 10 (ak (cal iU) [(aa 0),(ak (cal kX) [(aa 0),(dC (.int 1)),(ax (aa 6) (aa 9))]),(aa 6)]))
 (ar (bY (aY (dUn vO (aa 3))) (aw 7) (lu 3 (aa 7) (ak (cal iV) [(aa 0),(ah oF (aa 3) (aa 7)),(aa 10),(aa 9)])))
 (lu 3 (aa 9) (aa 10)))))))))
 (aA (cV [(aa 3),(aa 4)])))))
def mS:FN:=fnV 11 jq
def cg:DS :=
 (aA (aF (aY (aa 1)) [none,some 0,some 2] (aw 0) (dC (.bl true)) (ah a8 (ax (aa 0) (aa 2)) (aa 1))))
def fg:FN:=fnV 3 cg
def jr:DS :=
 (ar (ay 2 (br (lS j5 [(dC (.int 0))] (aa 0))))
 (ar (bP 2 (aa 1) (dC (.int 1)))
 (aA (aa 2))))
def g_:FN:=fnV 3 jr
def iy:DS :=
 (ar (ay 4 (gz (aa 2)))
 (ar (ay 5 (br (bD [])))
 (ar (bY (aQ (aa 1)) (aw 6) (cf (aa 5) (ah aO (ah aO (ak (cal fg) [(aa 0),(aa 2),(aa 6)]) (bD [(ah a8 (ax (aa 3) (aa 6)) (aa 0))])) (ak (cal g_) [(aa 1),(aa 6)]))))
 (ar (ay 7 (ak (cal mS) [(aa 0),(aa 5),(aa 4)]))
 (ar (bY (aY (ax (aa 7) (dC (.int 1)))) (aw 8) (sIf (ah fNe (ax (aa 8) (aa 4)) (dC (.int 0))) (aA (fN [(dC (.str "turn")),(dUn bh (ak (cal iU) [(aa 0),(ak (cal kX) [(aa 0),(dC (.int 1)),(ax (aa 8) (aa 4))]),(uf (aa 8) (some (ah aO (aa 4) (dC (.int 1)))) none)]))])) bA))
 (ar (ay 9 (br (lS j5 [(dC (.int 0))] (aa 4))))
 (ar (bY (jk (ax (aa 7) (dC (.int 0)))) (dg [6,10]) (bP 9 (aa 6) (ax (aa 10) (aa 4))))
 (aA (fN [(dC (.str "sum")),(aa 9)])))))))))
def fh:FN:=fnK 11 iy
def nS:DS :=
 (aA (aF (qt (ax (aa 0) (dC (.int 2)))) [none,none,some 1] (dg [0,1]) (ah fIn (ax (aa 1) (dC (.int 0))) (aa 2)) (aa 0)))
def b8:FN:=fnV 2 nS
def eY:DS :=
 (aA (aF (aY (aa 1)) [none,some 0] (aw 0) (dC (.bl true)) (ax (ax (ax (aa 1) (dC (.int 2))) (aa 0)) (dC (.int 1)))))
def cm:FN:=fnV 2 eY
def c5:DS :=
 (aA (dUn bh (aF (aQ (aa 0)) [none] (aw 0) (dC (.bl true)) (DF (ah fEq (aa 0) (dC (.int 0))) (dC (.int 1)) (dC (.int 0))))))
def bZ:FN:=fnV 1 c5
def eB:DS :=
 (ar (ay 2 (ak (cal fh) [(ax (aa 0) (dC (.int 0))),(ax (aa 0) (dC (.int 1))),(ak (cal cm) [(aa 0),(aa 1)]),(ak (cal bZ) [(ax (aa 0) (dC (.int 1)))])]))
 (ar (sIf (ah fEq (ax (aa 2) (dC (.int 0))) (dC (.str "sum"))) (aA (fN [(dC (.str "open")),(ax (aa 2) (dC (.int 1)))])) bA)
 (aA (fN [(dC (.str "shut")),(ax (aa 2) (dC (.int 1)))]))))
def bc:FN:=fnK 3 eB
def dU:DS :=
 (aA (ak (cal bc) [(aa 0),(ak (cal b8) [(aa 0),(aa 1)])]))
def b3:FN:=fnV 2 dU
def fH:DS :=
 (aA (ah fEq (ax (ak (cal b3) [(aa 0),(aa 1)]) (dC (.int 0))) (dC (.str "open"))))
def aW:FN:=fnV 2 fH
def gj:DS :=
 (ar (ay 1 (bD [(cV [])]))
 (ar (bY (aQ (aa 0)) (aw 2) (ay 1 (ah aO (aa 1) (aF (aY (aa 1)) [none,some 2] (aw 0) (dC (.bl true)) (ah aO (aa 0) (cV [(aa 1)]))))))
 (aA (aa 1))))
def iF:DS:=(ay 1 (bD [(cV [])]))
def iG:DS:=(bY (aQ (aa 0)) (aw 2) (ay 1 (ah aO (aa 1) (aF (aY (aa 1)) [none,some 2] (aw 0) (dC (.bl true)) (ah aO (aa 0) (cV [(aa 1)]))))))
def iH:DS:=(aA (aa 1))
def iJ:DS:=iH
def iK:DS:=ar iG iJ
def lL:DS:=ar iF iK
theorem rR:gj=lL:=rfl
theorem nZ(e:Slots)(μ:af):lL e μ=(iF e μ).seq iK:=rfl
theorem n_(e:Slots)(μ:af):iK e μ=(iG e μ).seq iJ:=rfl
theorem oa(e:Slots)(μ:af):iJ e μ=iH e μ:=rfl
def bI:FN:=fnV 3 gj
def kZ:DS :=
 (aA (dUn bh (aF (aY (aa 0)) [none,some 1] (aw 0) (ah fNe (aa 0) (aa 1)) (aa 0))))
def ee:FN:=fnV 2 kZ
def dW:DS :=
 (aA (dUn bh (dUn mR (ah aO (aa 0) (cV [(aa 1)])))))
def bT:FN:=fnV 2 dW
def jt:DS :=
 (aA (ij (ah g9 (aa 0) (aa 1)) (p8 (dUn rF (aF (aY (aa 1)) [none,some 0,some 1] (aw 0) (dC (.bl true)) (ah g9 (aa 1) (ak (cal ee) [(aa 2),(aa 0)])))))))
def cn:FN:=fnV 2 jt
def fk:DS :=
 (ar (sIf (ah g9 (aa 0) (aa 2)) (aA (dC (.bl false))) bA)
 (aA (dUn BM (aF (aQ (aa 1)) [none,some 0,some 2] (aw 0) (ah nH (aa 0) (aa 2)) (ah g9 (aa 1) (ak (cal bT) [(aa 2),(aa 0)]))))))
def bz:FN:=fnV 3 fk
def cQ:DS :=
 (ar (ay 2 (br (dC (.dtt false []))))
 (ar (bY (aY (ak (cal bI) [(aa 1)])) (aw 3) (sM 2 (aa 3) (ak (cal aW) [(aa 0),(aa 3)])))
 (ar (ay 4 (aF (kh (aa 2)) [none,some 2] (aw 0) (ak (cal cn) [(aa 1),(aa 0)]) (dUn iN (aa 0))))
 (ar (ay 5 (aF (kh (aa 2)) [none,some 2,some 1] (aw 0) (ak (cal bz) [(aa 1),(aa 2),(aa 0)]) (dUn iN (aa 0))))
 (aA (fN [(br (dUn cW (aa 4))),(br (dUn cW (aa 5)))]))))))
def jF:DS:=(ay 2 (br (dC (.dtt false []))))
def jG:DS:=(bY (aY (ak (cal bI) [(aa 1)])) (aw 3) (sM 2 (aa 3) (ak (cal aW) [(aa 0),(aa 3)])))
def jH:DS:=(ay 4 (aF (kh (aa 2)) [none,some 2] (aw 0) (ak (cal cn) [(aa 1),(aa 0)]) (dUn iN (aa 0))))
def jI:DS:=(ay 5 (aF (kh (aa 2)) [none,some 2,some 1] (aw 0) (ak (cal bz) [(aa 1),(aa 2),(aa 0)]) (dUn iN (aa 0))))
def jJ:DS:=(aA (fN [(br (dUn cW (aa 4))),(br (dUn cW (aa 5)))]))
def jK:DS:=jJ
def jL:DS:=ar jI jK
def jM:DS:=ar jH jL
def jN:DS:=ar jG jM
def ng:DS:=ar jF jN
theorem vf:cQ=ng:=rfl
theorem pe(e:Slots)(μ:af):ng e μ=(jF e μ).seq jN:=rfl
theorem pf(e:Slots)(μ:af):jN e μ=(jG e μ).seq jM:=rfl
theorem pg(e:Slots)(μ:af):jM e μ=(jH e μ).seq jL:=rfl
theorem ph(e:Slots)(μ:af):jL e μ=(jI e μ).seq jK:=rfl
theorem pj(e:Slots)(μ:af):jK e μ=jJ e μ:=rfl
def bC:FN:=fnV 6 cQ
def nT:DS :=
 (aA (p8 (ak (cal aW) [(aa 0),(aF (aQ (aa 1)) [none,some 2] (aw 0) (ah nH (aa 0) (aa 1)) (aa 0))])))
def dF:FN:=fnV 3 nT
def hV:DS :=
 (ar (ay 1 (bD [(bD [])]))
 (ar (bY (aQ (aa 0)) (aw 2) (ay 1 (ah aO (aa 1) (aF (aY (aa 1)) [none,some 2] (aw 0) (dC (.bl true)) (ah aO (aa 0) (bD [(aa 1)]))))))
 (aA (aa 1))))
def og:DS:=(ay 1 (bD [(bD [])]))
def oh:DS:=(bY (aQ (aa 0)) (aw 2) (ay 1 (ah aO (aa 1) (aF (aY (aa 1)) [none,some 2] (aw 0) (dC (.bl true)) (ah aO (aa 0) (bD [(aa 1)]))))))
def oi:DS:=(aA (aa 1))
def oj:DS:=oi
def om:DS:=ar oh oj
def tI:DS:=ar og om
theorem CP:hV=tI:=rfl
theorem vg(e:Slots)(μ:af):tI e μ=(og e μ).seq om:=rfl
theorem vh(e:Slots)(μ:af):om e μ=(oh e μ).seq oj:=rfl
theorem vi(e:Slots)(μ:af):oj e μ=oi e μ:=rfl
def cR:FN:=fnV 3 hV
end Fw.k33
namespace Fw.k33
open PySem Fw Fw.H Fw.E Fw.F Fw.Sets
theorem dz{n:Nat}(h:n≤8):(subs n).length≤256:=by
 rw[xb];exact Nat.le_trans (Nat.pow_le_pow_right (by decide) h) (by decide)
def rh:DS:=(ay 1 (ah aO (aa 1) (aF (aY (aa 1)) [none,some 2] (aw 0) (dC (.bl true)) (ah aO (aa 0) (cV [(aa 1)])))))
theorem zq{i:Nat}(hi:i<8)(x0:Option SV)(μ:af):rh [x0,some (.val (.lst ((subs i).map tu))),some (.val (.int (i:Int)))] μ=.nx [x0,some (.val (.lst ((subs (i+1)).map tu))),some (.val (.int (i:Int)))] μ:=by
 have hs:=dz (n:=i) (by omega)
 have ec:bM (λ_=>True) (aw 0) (dC (.bl true)) (ah aO (aa 0) (cV [(aa 1)])) [none,some (.val (.int (i:Int)))] ((subs i).map tu) μ=.ok ((subs i).map λs=>tu (s++[(i:Int)])) μ:=by
  rw[b4 tu (λs=>tu (s++[(i:Int)])) trivial]
  intro s hm
  have hl:=sub_len hm
  have fa:aO (tu s) (.tup [.int (i:Int)])=some (tu (s++[(i:Int)])):=by
   unfold tu
   rw[p_ _ _ (by simp[szL];omega),List.map_append];rfl
  refine⟨_,rfl,?_⟩
  simp?! only[fa]
 have ls:((subs i).map tu).length≤szL:=by rw[List.length_map];unfold szL;omega
 have fa:aO (.lst ((subs i).map tu)) (.lst ((subs i).map λs=>tu (s++[(i:Int)])))=some (.lst ((subs (i+1)).map tu)):=by
  rw[gy _ _ (by rw[List.length_map,List.length_map];unfold szL;omega)]
  rw[show subs (i+1)=subs i++(subs i).map λs=>s++[(i:Int)] from rfl,List.map_append,List.map_map]
  rfl
 unfold rh
 simp?! only[ec,ls,fa]
theorem Ga{n:Nat}(hn:n≤8)(μ:af):bI [.val (.int n)] μ=.ok (.val (.lst ((subs n).map tu))) μ:=by
 have rw_:c_ (n:Int)=true:=dN (by omega) (by omega)
 obtain⟨e',M',hf,x2,rfl,rfl⟩:=eJ (same:=λ_=>True) (b:=aw 2) (ts:=bL 0 (n:Int).toNat) (body:=rh)
  (I:=λi e M=>∃x2,e=[some (.val (.int n)),some (.val (.lst ((subs i).map tu))),x2]∧μ=M)
  (λ_ _ _ _=>trivial) (λj t e M ht au=>by
   obtain⟨x2,he,hM⟩:=au
   subst he hM
   obtain⟨k,rfl,hj,hk⟩:=mP ht
   have hj:j<n:=by simpa using hj
   have ek:k=(j:Int):=by omega
   subst ek
   exact⟨_,_,_,rfl,zq (by omega) _ μ,some (.val (.int (j:Int))),rfl,rfl⟩)
  (e:=[some (.val (.int n)),some (.val (.lst ((subs 0).map tu))),none]) (μ:=μ) ⟨none,rfl,rfl⟩
 rw[cD] at hf
 rw[Int.toNat_natCast] at hf
 unfold bI
 rw[eF,rR,nZ]
 unfold iF
 simp?! only[]
 rw[n_,show iG=bY (aQ (aa 0)) (aw 2) rh from rfl]
 have hf:forL (λ_=>True) (aw 2) rh (bL 0 n) [some (.val (.int n)),some (.val (.lst [.tup []])),none] μ=.nx [some (.val (.int n)),some (.val (.lst ((subs n).map tu))),x2] μ:=hf
 simp?! only[rw_,Int.toNat_natCast,hf]
 rw[oa]
 unfold iH
 simp?! only[]
def Gb:DS:=(ay 1 (ah aO (aa 1) (aF (aY (aa 1)) [none,some 2] (aw 0) (dC (.bl true)) (ah aO (aa 0) (bD [(aa 1)])))))
theorem zr{i:Nat}(hi:i<8)(x0:Option SV)(μ:af):Gb [x0,some (.val (.lst ((subs i).map li))),some (.val (.int (i:Int)))] μ=.nx [x0,some (.val (.lst ((subs (i+1)).map li))),some (.val (.int (i:Int)))] μ:=by
 have hs:=dz (n:=i) (by omega)
 have ec:bM (λ_=>True) (aw 0) (dC (.bl true)) (ah aO (aa 0) (bD [(aa 1)])) [none,some (.val (.int (i:Int)))] ((subs i).map li) μ=.ok ((subs i).map λs=>li (s++[(i:Int)])) μ:=by
  rw[b4 li (λs=>li (s++[(i:Int)])) trivial]
  intro s hm
  have hl:=sub_len hm
  have fa:aO (li s) (.lst [.int (i:Int)])=some (li (s++[(i:Int)])):=by
   unfold li
   rw[gy _ _ (by simp[szL];omega),List.map_append];rfl
  refine⟨_,rfl,?_⟩
  simp?! only[fa]
 have ls:((subs i).map li).length≤szL:=by rw[List.length_map];unfold szL;omega
 have fa:aO (.lst ((subs i).map li)) (.lst ((subs i).map λs=>li (s++[(i:Int)])))=some (.lst ((subs (i+1)).map li)):=by
  rw[gy _ _ (by rw[List.length_map,List.length_map];unfold szL;omega)]
  rw[show subs (i+1)=subs i++(subs i).map λs=>s++[(i:Int)] from rfl,List.map_append,List.map_map]
  rfl
 unfold Gb
 simp?! only[ec,ls,fa]
theorem rj{n:Nat}(hn:n≤8)(μ:af):cR [.val (.int n)] μ=.ok (.val (.lst ((subs n).map li))) μ:=by
 have rw_:c_ (n:Int)=true:=dN (by omega) (by omega)
 obtain⟨e',M',hf,x2,rfl,rfl⟩:=eJ (same:=λ_=>True) (b:=aw 2) (ts:=bL 0 (n:Int).toNat) (body:=Gb)
  (I:=λi e M=>∃x2,e=[some (.val (.int n)),some (.val (.lst ((subs i).map li))),x2]∧μ=M)
  (λ_ _ _ _=>trivial) (λj t e M ht au=>by
   obtain⟨x2,he,hM⟩:=au
   subst he hM
   obtain⟨k,rfl,hj,hk⟩:=mP ht
   have hj:j<n:=by simpa using hj
   have ek:k=(j:Int):=by omega
   subst ek
   exact⟨_,_,_,rfl,zr (by omega) _ μ,some (.val (.int (j:Int))),rfl,rfl⟩)
  (e:=[some (.val (.int n)),some (.val (.lst ((subs 0).map li))),none]) (μ:=μ) ⟨none,rfl,rfl⟩
 rw[cD] at hf
 rw[Int.toNat_natCast] at hf
 unfold cR
 rw[eF,CP,vg]
 unfold og
 simp?! only[]
 rw[vh,show oh=bY (aQ (aa 0)) (aw 2) Gb from rfl]
 have hf:forL (λ_=>True) (aw 2) Gb (bL 0 n) [some (.val (.int n)),some (.val (.lst [.lst []])),none] μ=.nx [some (.val (.int n)),some (.val (.lst ((subs n).map li))),x2] μ:=hf
 simp?! only[rw_,Int.toNat_natCast,hf]
 rw[vi]
 unfold oi
 simp?! only[]
theorem zt(s:List Int)(h:Int)(hl:s.length≤1000)(μ:af):ee [.val (tu s),.val (.int h)] μ=.ok (.val (tu (less s h))) μ:=by
 have ec:bM (λ_=>True) (aw 0) (ah fNe (aa 0) (aa 1)) (aa 0) [none,some (.val (.int h))] (s.map T.int) μ=.ok ((less s h).map T.int) μ:=by
  rw[d_ (λx=>decide (x≠h)) T.int trivial s]
  ·rfl
  ·intro k _
   refine⟨_,rfl,?_,λ_=>rfl⟩
   simp?! only[]
   congr 3
   rw[Bool.eq_iff_iff]
   simp
 have ls:(s.map T.int).length≤szL:=by rw[List.length_map];unfold szL;omega
 unfold ee kZ
 simp?! only[ec,ls,gA]
theorem zu(l:List Int)(h:l.length<64):mR (tu l)=some (li (jS l)):=by
 unfold tu li
 show((cM (l.map T.int)).bind λns=>if ns.length<64 then some (T.lst ((jS ns).map T.int)) else none)=_
 rw[gB]
 show(if l.length<64 then _ else none)=_
 rw[if_pos h]
theorem I0(s:List Int)(h:Int)(hl:s.length<60)(μ:af):bT [.val (tu s),.val (.int h)] μ=.ok (.val (tu (more s h))) μ:=by
 have fa:aO (tu s) (.tup [.int h])=some (tu (s++[h])):=by
  unfold tu
  rw[p_ _ _ (by simp[szL];omega),List.map_append];rfl
 have e:=zu (s++[h]) (by rw[List.length_append];simp;omega)
 unfold bT dW
 simp?! only[fa,e,gA]
 rfl
theorem Gd{p:Int}{w:Nat}{rows:Rows}(hn:rows.length≤24)(bV:List Int)(μ:af) :
  F.b8 [.val (tb p w rows),.val (tu bV)] μ=.ok (.val (li (nums (rowsOf rows bV)))) μ:=by
 have fi:∀x:Int,fIn (.int x) (.tup (bV.map T.int))=some (.bl (decide (x∈bV))):=λx=>by
  unfold fIn
  simp only[jb,ff,Bool.and_true,ke]
  rfl
 unfold F.b8 ml tb tu
 simp! only[]
 rw[enum_rows,eK (λ(i:Nat)=>.tup [.int (i:Int),rt (dy rows i)]) (λi=>decide ((dy rows i).1∈bV)) (λ(i:Nat)=>.int (i:Int)) (by simp)]
 ·rw[R.bE,R.aL,if_pos (by simp[szL];lia)]
  simp! only[]
  rw[q5]
  rfl
 ·intro i hi
  refine⟨_,eh 0 1 _ _ _,?_,λ_=>?_⟩
  ·simp! only[rt,fi]
  ·simp! only[]
theorem Ge{p:Int}{w:Nat}{rows:Rows}(H:Tbl p w rows)(s:List Int)(μ:af):b3 [.val (tb p w rows),.val (tu s)] μ=b3 [.val (tb p w rows),.val (li s)] μ:=by
 have e1:b8 [.val (tb p w rows),.val (tu s)] μ=.ok (.val (li (nums (rowsOf rows s)))) μ:=Gd H.n s μ
 have e2:b8 [.val (tb p w rows),.val (li s)] μ=.ok (.val (li (nums (rowsOf rows s)))) μ:=F.sZ H.n s (.val (li s)) μ rfl
 unfold b3 dU
 simp?! only[e1,e2]
 generalize bc [.val (tb p w rows),.val (li (nums (rowsOf rows s)))] μ=r
 cases r<;>rfl
theorem Mi:(("open":Str)=="open")=true:=by decide +kernel
theorem OC:(("shut":Str)=="open")=false:=by decide +kernel
open Classical in
def ow(p:Int)(w:Nat)(rows:Rows)(s:List Int):Bool:=decide (Op p w rows s)
theorem kM{p:Int}{w:Nat}{rows:Rows}(s:List Int):ow p w rows s=true↔Op p w rows s:=by unfold ow;exact @decide_eq_true_iff _ (Classical.propDecidable _)
theorem Bd{p:Int}{w:Nat}{rows:Rows}(H:Tbl p w rows)(s:List Int)(μ:af):∃a t,b3 [.val (tb p w rows),.val (li s)] μ=.ok (.val (.tup [.str a,t])) μ∧(a=="open")=ow p w rows s:=by
 have h:(Op p w rows s∧∃ms,b3 [.val (tb p w rows),.val (li s)] μ=.ok (.val (.tup [.str "open",li ms])) μ)∨(¬ Op p w rows s∧∃tv,b3 [.val (tb p w rows),.val (li s)] μ=.ok (.val (.tup [.str "shut",tu tv])) μ):=word H s (.val (li s)) μ rfl
 rcases h with ⟨h1,ms,h2⟩|⟨h1,tv,h2⟩
 ·exact⟨_,_,h2,by rw[Mi];exact((kM s).mpr h1).symm⟩
 ·refine⟨_,_,h2,?_⟩
  rw[OC]
  cases e:ow p w rows s with
  | true=>exact absurd ((kM s).mp e) h1
  | false=>rfl
theorem zv{p:Int}{w:Nat}{rows:Rows}(H:Tbl p w rows)(s:List Int)(μ:af):aW [.val (tb p w rows),.val (tu s)] μ=.ok (.val (.bl (ow p w rows s))) μ:=by
 obtain⟨a,t,h1,h2⟩:=Bd H s μ
 rw[← Ge H s μ] at h1
 unfold aW fH
 simp?! only[h1,h2]
theorem zw{p:Int}{w:Nat}{rows:Rows}(H:Tbl p w rows)(s:List Int)(μ:af):aW [.val (tb p w rows),.val (li s)] μ=.ok (.val (.bl (ow p w rows s))) μ:=by
 obtain⟨a,t,h1,h2⟩:=Bd H s μ
 unfold aW fH
 simp?! only[h1,h2]
def dd(O:List Int→Bool)(l:List (List Int)):List (List Int×Bool):=l.map λs=>(s,O s)
theorem Mj{O:List Int→Bool}{l:List (List Int)}{s:List Int}(h:s∉l):qF (dd O l) s (O s)=dd O (l++[s]):=by
 unfold qF
 rw[if_neg]
 ·simp[dd]
 ·intro e
  obtain⟨kv,h1,h2⟩:=List.any_eq_true.mp e
  obtain⟨t,h3,rfl⟩:=List.mem_map.mp h1
  exact h (by rw[← of_decide_eq_true h2];exact h3)
theorem Gg{O:List Int→Bool}:∀{l:List (List Int)}{s:List Int},s∈l→oG (dd O l) s=some (O s)
 | [],s,h=>by cases h
 | t::l,s,h=>by
  unfold oG
  show((((t,O t)::dd O l).find? λkv=>decide (kv.1=s)).map (·.2))=_
  by_cases e:t=s
  ·subst e;rw[List.find?_cons_of_pos (by simp)];rfl
  ·rw[List.find?_cons_of_neg (by simpa using e)]
   exact Gg ((List.mem_cons.mp h).resolve_left λq=>e q.symm)
theorem Be(s:List Int):wo (tu s)=some s:=by unfold tu wo;exact gB s
theorem Mk{O:List Int→Bool}{l:List (List Int)}{s:List Int}(h:s∈l)(b:Bool):g9 (.dtt b (dd O l)) (tu s)=some (.bl (O s)):=by
 show((wo (tu s)).bind λk=>(oG (dd O l) k).map T.bl)=_
 rw[Be,Option.bind_some,Gg h]
 rfl
theorem Ml(μ:af)(kts:List (List Int×Bool))(s:List Int)(b:Bool)(h:kts.length<szL):l5 (.cel μ.length) (tu s) (.bl b) (μ++[(true,.dtt false kts)])=some (μ++[(true,.dtt false (qF kts s b))]):=by
 have e:(μ++[(true,T.dtt false kts)])[μ.length]?=some (true,T.dtt false kts):=by simp
 unfold l5
 simp only[e,Be,Option.bind_some,if_pos h]
 simp
theorem oq{l:List (List Int)}{i:Nat}{s:List Int}(hd:l.Nodup)(h:l[i]?=some s):l.take (i+1)=l.take i++[s]∧s∉l.take i:=by
 have hi:i<l.length:=(List.getElem?_eq_some_iff.mp h).1
 have e:l[i]=s:=(List.getElem?_eq_some_iff.mp h).2
 have e2:l.take (i+1)=l.take i++[s]:=by rw[List.take_succ,h];rfl
 refine⟨e2,λhm=>?_⟩
 have:=List.Sublist.nodup (List.take_sublist (i+1) l) hd
 rw[e2] at this
 exact(List.nodup_append.mp this).2.2 s hm s (by simp) rfl
def opB:DS:=(sM 2 (aa 3) (ak (cal aW) [(aa 0),(aa 3)]))
theorem I_{p:Int}{w:Nat}{rows:Rows}(H:Tbl p w rows){n:Nat}(hn:n≤8)(μ:af) :
  ∃x3,forL (λ_=>True) (aw 3) opB ((subs n).map tu) [some (.val (tb p w rows)),some (.val (.int n)),some (.cel μ.length),none,none,none] (μ++[(true,.dtt false [])]) =
   .nx [some (.val (tb p w rows)),some (.val (.int n)),some (.cel μ.length),x3,none,none] (μ++[(true,.dtt false (dd (ow p w rows) (subs n)))]):=by
 have hs:=dz hn
 obtain⟨e',M',hf,x3,rfl,rfl⟩:=eJ (same:=λ_=>True) (b:=aw 3) (ts:=(subs n).map tu) (body:=opB)
  (I:=λi e M=>∃x3,e=[some (.val (tb p w rows)),some (.val (.int n)),some (.cel μ.length),x3,none,none]∧M=μ++[(true,.dtt false (dd (ow p w rows) ((subs n).take i)))])
  (λ_ _ _ _=>trivial) (λj t e M ht au=>by
   obtain⟨x3,he,hM⟩:=au
   subst he hM
   rw[List.getElem?_map] at ht
   obtain⟨s,h1,rfl⟩:=Option.map_eq_some_iff.mp ht
   obtain⟨e1,e2⟩:=oq (jD n) h1
   have h3:=zv H s (μ++[(true,.dtt false (dd (ow p w rows) ((subs n).take j)))])
   have h4:=Ml μ (dd (ow p w rows) ((subs n).take j)) s (ow p w rows s) (by unfold dd szL;rw[List.length_map,List.length_take];omega)
   rw[Mj e2,← e1] at h4
   refine⟨_,_,μ++[(true,.dtt false (dd (ow p w rows) ((subs n).take (j+1))))],rfl,?_,some (.val (tu s)),rfl,rfl⟩
   unfold opB
   simp?! only[EX,h3,h4])
  (e:=[some (.val (tb p w rows)),some (.val (.int n)),some (.cel μ.length),none,none,none]) (μ:=μ++[(true,.dtt false [])]) ⟨none,rfl,rfl⟩
 rw[List.length_map,List.take_length] at hf
 exact⟨x3,hf⟩
def lsB(O:List Int→Bool)(s:List Int):Bool:=O s && !(s.any λh=>O (less s h))
def grB(O:List Int→Bool)(n:Nat)(s:List Int):Bool:=!O s && (((a_ 0 n).filter λh=>decide (h∉s)).all λh=>O (more s h))
theorem pX{O:List Int→Bool}{n:Nat}{x:SV}{μ:af}{b:Bool}(hx:rd μ x=some (.dtt b (dd O (subs n)))){s:List Int}(hs:s∈subs n):ap2 g9 (rd μ x) (some (tu s))=some (.val (.bl (O s))):=by
 rw[hx,j3,Mk hs];rfl
theorem xl{O:List Int→Bool}{n:Nat}(hn:n≤8){x:SV}{μ:af}{b:Bool}(hx:rd μ x=some (.dtt b (dd O (subs n)))){s:List Int}(hs:s∈subs n):cn [x,.val (tu s)] μ=.ok (.val (.bl (lsB O s))) μ:=by
 have hl:=sub_len hs
 have ec:bM (λ_=>True) (aw 0) (dC (.bl true)) (ah g9 (aa 1) (ak (cal ee) [(aa 2),(aa 0)])) [none,some x,some (.val (tu s))] (s.map T.int) μ=.ok (s.map λh=>T.bl (O (less s h))) μ:=by
  rw[sE (λh=>T.bl (O (less s h))) trivial s]
  intro h hm
  have h1:=zt s h (by omega) μ
  have h2:=pX hx (xc hs h)
  refine⟨_,rfl,?_⟩
  simp?! only[h1,h2]
 have ls:(s.map T.int).length≤szL:=by rw[List.length_map];unfold szL;omega
 have h2:=pX hx hs
 have fa:=v7 (λh=>O (less s h)) s
 unfold cn jt lsB
 have tus:tu s=.tup (s.map T.int):=rfl
 cases ho:O s with
 | true =>
  rw[ho] at h2
  simp?! only[h2,tus,ec,ls,fa]
  rw[Bool.true_and]
 | false =>
  rw[ho] at h2
  simp?! only[h2]
  rfl
theorem Mm(h:Int)(s:List Int):nH (.int h) (tu s)=some (.bl (decide (h∉s))):=by
 unfold nH tu
 simp only[jb,ff,Bool.and_true,ke]
 congr 2
 by_cases q:h∈s<;>simp[q,fB]
theorem Mn(h:Int)(s:List Int):nH (.int h) (li s)=some (.bl (decide (h∉s))):=by
 unfold nH li
 simp only[eE,ff,Bool.and_true,ke]
 congr 2
 by_cases q:h∈s<;>simp[q,fB]
theorem rk{O:List Int→Bool}{n:Nat}(hn:n≤8){x:SV}{μ:af}{b:Bool}(hx:rd μ x=some (.dtt b (dd O (subs n)))){s:List Int}(hs:s∈subs n):bz [x,.val (.int n),.val (tu s)] μ=.ok (.val (.bl (grB O n s))) μ:=by
 have hl:=sub_len hs
 have rw_:c_ (n:Int)=true:=dN (by omega) (by omega)
 have ec:bM (λ_=>True) (aw 0) (ah nH (aa 0) (aa 2)) (ah g9 (aa 1) (ak (cal bT) [(aa 2),(aa 0)])) [none,some x,some (.val (tu s))] (bL 0 n) μ=.ok (((a_ 0 n).filter λh=>decide (h∉s)).map λh=>T.bl (O (more s h))) μ:=by
  rw[gH,d_ (λh=>decide (h∉s)) (λh=>T.bl (O (more s h))) trivial (a_ 0 n)]
  intro h hm
  have h0:=eV.mp hm
  have h1:=I0 s h (by omega) μ
  have h4:=Mm h s
  refine⟨_,rfl,?_,λhq=>?_⟩
  ·simp?! only[h4]
  ·have h2:=pX hx (xf hs (h:=h) (by omega) (of_decide_eq_true hq))
   simp?! only[h1,h2]
 have ls:(bL 0 n).length≤szL:=by rw[cD];unfold szL;omega
 have h2:=pX hx hs
 have fa:=Eb (λh=>O (more s h)) ((a_ 0 n).filter λh=>decide (h∉s))
 unfold bz fk grB
 cases ho:O s with
 | true =>
  rw[ho] at h2
  simp?! only[h2]
  rfl
 | false =>
  rw[ho] at h2
  simp?! only[h2,rw_,Int.toNat_natCast,ec,ls,fa]
  rw[Bool.true_and]
def srt(l:List (List Int)):List (List Int):=qH l [] l
theorem tJ:∀(l:List (List Int)),oH (l.map li)=some l
 | []=>rfl
 | s::l=>by
  show(cM (s.map T.int)).bind (λns=>(oH (l.map li)).map (ns::·))=_
  rw[gB,Option.bind_some,tJ l]
  rfl
theorem i6(l:List (List Int))(h:l.length<64):cW (.lst (l.map li))=some (.lst ((srt l).map li)):=by
 show((oH (l.map li)).bind λnss=>if (l.map li).length<64 then some (T.lst (qH (l.map li) .non nss)) else none)=_
 rw[tJ,Option.bind_some,if_pos (by rw[List.length_map];exact h)]
 congr 2
 unfold srt qH
 rw[List.length_map,List.map_map]
 refine List.map_congr_left λi hi=>?_
 have hi:i<l.length:=List.mem_range.mp ((HT.kW _ _).mem_iff.mp hi)
 simp[hi]
def LL(O:List Int→Bool)(n:Nat):List (List Int):=(subs n).filter (lsB O)
def GG(O:List Int→Bool)(n:Nat):List (List Int):=(subs n).filter (grB O n)
theorem Bf(O:List Int→Bool)(l:List (List Int)):wq (dd O l)=l.map tu:=by unfold wq dd;rw[List.map_map];rfl
theorem Gh(μ:af)(kts:List (List Int×Bool)):keysAt (.cel μ.length) (μ++[(true,.dtt false kts)])=some (kts,μ++[(false,.dtt true kts)]):=by
 have e:(μ++[(true,T.dtt false kts)])[μ.length]?=some (true,T.dtt false kts):=by simp
 unfold keysAt
 simp only[e]
 simp
theorem Gi(μ:af)(kts:List (List Int×Bool)):keysAt (.cel μ.length) (μ++[(false,.dtt true kts)])=some (kts,μ++[(false,.dtt true kts)]):=by
 have e:(μ++[(false,T.dtt true kts)])[μ.length]?=some (false,T.dtt true kts):=by simp
 unfold keysAt
 simp only[e]
section
variable{p:Int}{w:Nat}{rows:Rows}{n:Nat}
theorem Gj(H:Tbl p w rows)(hn:n≤8)(h1:(LL (ow p w rows) n).length<64)(h2:(GG (ow p w rows) n).length<64)(μ:af) :
  cQ [some (.val (tb p w rows)),some (.val (.int n)),none,none,none,none] μ=.rt (.box [.inr (μ.length+1),.inr (μ.length+2)]) (μ++[(false,.dtt true (dd (ow p w rows) (subs n))),(true,.lst ((srt (LL (ow p w rows) n)).map li)),(true,.lst ((srt (GG (ow p w rows) n)).map li))]):=by
 have hsm:=dz hn
 have hb:=Ga hn (μ++[(true,.dtt false [])])
 obtain⟨x3,hl⟩:=I_ H hn μ
 rw[vf,pe]
 unfold jF
 simp?! only[]
 rw[pf,show jG=bY (aY (ak (cal bI) [(aa 1)])) (aw 3) opB from rfl]
 simp?! only[hb,hl]
 rw[pg]
 unfold jH
 have hx:rd (μ++[(false,T.dtt true (dd (ow p w rows) (subs n)))]) (.cel μ.length)=some (.dtt true (dd (ow p w rows) (subs n))):=by simp
 have k1:=Gh μ (dd (ow p w rows) (subs n))
 have k2:=Gi μ (dd (ow p w rows) (subs n))
 have ls:((subs n).map tu).length≤szL:=by rw[List.length_map];unfold szL;omega
 have fl:∀s,iN (tu s)=some (li s):=λs=>rfl
 have e1:bM (λ_=>True) (aw 0) (ak (cal cn) [(aa 1),(aa 0)]) (dUn iN (aa 0)) [none,some (.cel μ.length)] ((subs n).map tu) (μ++[(false,T.dtt true (dd (ow p w rows) (subs n)))])=.ok ((LL (ow p w rows) n).map li) (μ++[(false,T.dtt true (dd (ow p w rows) (subs n)))]):=by
  rw[eK tu (lsB (ow p w rows)) li trivial]
  ·rfl
  ·intro s hs
   have q:=xl hn hx hs
   refine⟨_,rfl,?_,λ_=>?_⟩
   ·simp?! only[q]
   ·simp?! only[fl]
 have e2:bM (λ_=>True) (aw 0) (ak (cal bz) [(aa 1),(aa 2),(aa 0)]) (dUn iN (aa 0)) [none,some (.cel μ.length),some (.val (.int n))] ((subs n).map tu) (μ++[(false,T.dtt true (dd (ow p w rows) (subs n)))])=.ok ((GG (ow p w rows) n).map li) (μ++[(false,T.dtt true (dd (ow p w rows) (subs n)))]):=by
  rw[eK tu (grB (ow p w rows) n) li trivial]
  ·rfl
  ·intro s hs
   have q:=rk hn hx hs
   refine⟨_,rfl,?_,λ_=>?_⟩
   ·simp?! only[q]
   ·simp?! only[fl]
 simp?! only[sN,k1,Bf,ls,e1]
 rw[ph]
 unfold jI
 simp?! only[sN,k2,Bf,ls,e2]
 rw[pj]
 unfold jJ
 have s1:=i6 _ h1
 have s2:=i6 _ h2
 simp?! only[s1,s2]
 have eb:∀a b:Nat,boxed [.cel a,.cel b]=some [.inr a,.inr b]:=λ_ _=>rfl
 rw[eb,R.aP,R.aL,R.toS_ok]
 simp only[List.append_assoc,List.cons_append,List.nil_append,List.length_append,List.length_cons,List.length_nil]
theorem vj(H:Tbl p w rows)(hn:n≤8)(h1:(LL (ow p w rows) n).length<64)(h2:(GG (ow p w rows) n).length<64)(μ:af) :
  bC [.val (tb p w rows),.val (.int n)] μ=.ok (.val (.tup [.lst ((srt (LL (ow p w rows) n)).map li),.lst ((srt (GG (ow p w rows) n)).map li)])) μ:=by
 have h:=Gj H hn h1 h2 μ
 unfold bC
 generalize cQ=bd at h
 simp?! only[h]
 simp[ice,frz,gx,oU]
end
theorem rm(l:List (List Int))(n:Nat):eS (n+1) (l.map li)=true:=by
 rw[qa]
 intro t ht
 obtain⟨s,_,rfl⟩:=List.mem_map.mp ht
 show okT (n+1) (.lst (s.map T.int))=true
 rw[gR]
 exact sh _ _
theorem Ja(l:List (List Int)):eqT (.lst (l.map li)) (.lst [])=l.isEmpty:=by
 cases l with
 | nil=>rw[List.map_nil];exact j7 1 _ (by rw[gR,mD])
 | cons s l=>rw[List.map_cons,eqT];rfl
theorem xm(l:List (List Int)):fEq (.lst (l.map li)) (.lst [])=some (.bl l.isEmpty):=by
 rw[qb (by rw[gR];exact rm l 98) (by rw[gR,mD]),Ja]
theorem tK(l:List Int)(h:l.length<64):kS (li l)=some (li (jS l)):=by
 unfold li
 show((cM (l.map T.int)).bind λns=>if ns.length<64 then some (T.lst ((jS ns).map T.int)) else none)=_
 rw[gB,Option.bind_some,if_pos h]
theorem JU{O:Int→Bool}(l:List Int):(l.filter λh=>!O h).isEmpty=l.all O:=by
 induction l with
 | nil=>rfl
 | cons a l ih=>cases q:O a<;>simp[q,ih]
theorem JV{O:Int→Bool}(l:List Int):(l.filter O).isEmpty=!l.any O:=by
 induction l with
 | nil=>rfl
 | cons a l ih=>cases q:O a<;>simp[q,ih]
theorem Bg{α β:Type}(f:α→β)(l:List α):(l.map f).isEmpty=l.isEmpty:=by cases l<;>rfl
theorem tL(s:List Int)(h:Int)(M:af):bM (λ_=>True) (aw 0) (ah fNe (aa 0) (aa 1)) (aa 0) [none,some (.val (.int h))] (s.map T.int) M=.ok ((less s h).map T.int) M:=by
 rw[d_ (λx=>decide (x≠h)) T.int trivial s]
 ·rfl
 ·intro k _
  refine⟨_,rfl,?_,λ_=>rfl⟩
  simp?! only[]
  congr 3
  rw[Bool.eq_iff_iff]
  simp
def ifA(b:Bool)(l:List (List Int))(s:List Int):List (List Int):=if b=true then l++[s] else l
theorem tM(p:List Int→Bool)(l:List (List Int))(s:List Int):(l++[s]).filter p=ifA (p s) (l.filter p) s:=by
 unfold ifA
 cases q:p s<;>simp[q]
def rS(O:List Int→Bool)(n:Nat):T:=.tup [.lst ((srt (LL O n)).map li),.lst ((srt (GG O n)).map li)]
def rest(n:Nat)(s:List Int):List Int:=(a_ 0 n).filter λh=>decide (h∉s)
theorem tN:∀n:Nat,(a_ 0 n).Pairwise (·<·):=λn=>by
 unfold a_
 rw[List.pairwise_map]
 exact List.pairwise_lt_range.imp λh=>by omega
theorem Gk(n:Nat)(s:List Int):rest n s∈subs n:=by
 refine kJ.mpr ⟨(tN n).filter _,λx hx=>?_⟩
 have:=eV.mp (List.mem_filter.mp hx).1
 omega
theorem tO{n:Nat}(s:List Int)(M:af):bM (λ_=>True) (aw 0) (ah nH (aa 0) (aa 1)) (aa 0) [none,some (.val (li s))] (bL 0 n) M=.ok ((rest n s).map T.int) M:=by
 rw[gH,d_ (λh=>decide (h∉s)) T.int trivial (a_ 0 n)]
 ·rfl
 ·intro h hm
  have h4:=Mn h s
  refine⟨_,rfl,?_,λhq=>?_⟩
  ·simp?! only[h4]
  ·simp?! only[]
theorem vk{p:Int}{w:Nat}{rows:Rows}(H:Tbl p w rows){n:Nat}(hn:n≤8)(s:List Int)(μ:af):dF [.val (tb p w rows),.val (.int n),.val (li s)] μ=.ok (.val (.bl (!ow p w rows (rest n s)))) μ:=by
 have rw_:c_ (n:Int)=true:=dN (by omega) (by omega)
 have lsn:(bL 0 n).length≤szL:=by rw[cD];unfold szL;omega
 have h1:=zw H (rest n s) μ
 have ec:=tO (n:=n) s μ
 unfold li at h1
 unfold dF nT
 simp?! only[rw_,Int.toNat_natCast,lsn,ec,h1]
end Fw.k33
namespace Fw.Sets
open PySem Fw Fw.H Fw.E Fw.F
section
variable{p:Int}{w n:Nat}{rows:Rows}{O:List Int→Bool}
end
end Fw.Sets
namespace Fw.F
open PySem Fw Fw.H Fw.E
def sT:Option Int→T
 | some i=>.int i
 | none=>.non
def hG:DS :=
 (aA (aF (qt (aa 0)) [none,none] (dg [0,1]) (dUn gC (aa 1)) (aa 0)))
def dE:FN:=fnV 1 hG
def eg(seen:List (Option Int))(i:Nat):Option Int:=seen.getD i none
def aK(seen:List (Option Int)):List Nat:=(List.range seen.length).filter λi=>(eg seen i).isSome
def aT(seen:List (Option Int)):List Int:=(aK seen).map λi=>(eg seen i).getD 0
theorem CQ(seen:List (Option Int)):dJ 0 (seen.map sT)=(List.range seen.length).map λ(i:Nat)=>.tup [.int (i:Int),sT (eg seen i)]:=by
 apply List.ext_getElem?
 intro i
 rw[v_,List.getElem?_map,List.getElem?_map]
 by_cases h:i<seen.length
 ·rw[List.getElem?_range h,List.getElem?_eq_getElem h]
  simp[eg,h]
 ·rw[List.getElem?_eq_none (by omega),List.getElem?_eq_none (by simp;omega)]
  rfl
theorem CU(o:Option Int):gC (sT o)=some (.bl o.isSome):=by cases o<;>rfl
theorem vm(seen:List (Option Int))(hn:seen.length≤1000)(y:SV)(μ:af)(h:rd μ y=some (.lst (seen.map sT))):dE [y] μ=.ok (.val (li (nums (aK seen)))) μ:=by
 unfold dE hG
 simp?! only[h]
 rw[CQ,eK (λ(i:Nat)=>.tup [.int (i:Int),sT (eg seen i)]) (λi=>(eg seen i).isSome) (λ(i:Nat)=>.int (i:Int)) (by simp[h])]
 ·rw[R.bE,R.aL,if_pos (by simp[szL];omega)]
  simp?! only[]
  rw[q5]
  rfl
 ·intro i hi
  refine⟨_,eh 0 1 _ _ _,?_,λ_=>?_⟩
  ·simp?! only[CU]
  ·simp?! only[]
theorem fK{seen:List (Option Int)}{i:Nat}(h:i∈aK seen):i<seen.length∧(eg seen i).isSome=true:=by
 unfold aK at h
 rw[List.mem_filter,List.mem_range] at h
 exact h
theorem xn{α β:Type}(f:α→T)(g:β→T):∀(xs:List α) (ys:List β),gP (xs.map f) (ys.map g)=(xs.zip ys).map λq=>.tup [f q.1,g q.2]
 | [],ys=>by simp[gP]
 | x::xs,[]=>by simp[gP]
 | x::xs,y::ys=>by simp[gP,xn f g xs ys]
def g_:FN:=fnV 3 E.jr
def iX:DS :=
 (ar (ay 3 (ax (aa 0) (dC (.int 1))))
 (ar (ay 4 (aF (uj (ak (cal cm) [(aa 0),(aa 1)]) (aa 2)) [none,none] (dg [0,1]) (dC (.bl true)) (ah aO (dUn bh (aa 0)) (cV [(aa 1)]))))
 (ar (ay 5 (ak (cal fh) [(ax (aa 0) (dC (.int 0))),(ah aO (aa 3) (dC (.int 1))),(aa 4),(dUn bh (ak (cal g_) [(ah aO (aa 3) (dC (.int 1))),(aa 3)]))]))
 (ar (sIf (ah fEq (ax (aa 5) (dC (.int 0))) (dC (.str "sum"))) (aA (ax (aa 5) (dC (.int 1)))) bA)
 (aA (dC (.non)))))))
def longer(lines:List (List Int))(ps:List Int):List (List Int):=(lines.zip ps).map λq=>q.1++[q.2]
theorem rq{lines:List (List Int)}{ps:List Int}(h:ps.length=lines.length):(longer lines ps).length=lines.length:=by simp[longer,h]
theorem CV{p:Int}{w:Nat}{lines:List (List Int)}{ps:List Int}(hl:∀l∈lines,Rw p w l)(hp:∀x∈ps,0≤x∧x<p):∀l∈longer lines ps,Rw p (w+1) l:=λl h=>by
 obtain⟨⟨a,b⟩,hq,rfl⟩:=List.mem_map.mp h
 have hm:=List.of_mem_zip hq
 have hb:=hp b hm.2
 exact Rw.snoc (hl a hm.1) hb.1 hb.2
theorem CY(l:List Int)(x:Int)(j:Nat)(h:j<l.length):g (l++[x]) j=g l j:=by
 unfold g;rw[List.getD_eq_getElem?_getD,List.getD_eq_getElem?_getD,List.getElem?_append_left h]
theorem CZ(l:List Int)(x:Int)(w:Nat)(h:l.length=w):g (l++[x]) w=x:=by
 unfold g;rw[List.getD_eq_getElem?_getD,List.getElem?_append_right (by omega)];simp[h]
theorem rz{w:Nat}:∀{lines:List (List Int)}{ps:List Int},(∀l∈lines,l.length=w)→ps.length=lines.length→(∀j,j<w→col (longer lines ps) j=col lines j)∧col (longer lines ps) w=ps
 | [],ps,_,h=>by
  have e:ps=[]:=List.length_eq_zero_iff.mp (by simpa using h)
  subst e;exact⟨λ_ _=>rfl,rfl⟩
 | l::lines,[],_,h=>by simp at h
 | l::lines,q::ps,hl,h=>by
  obtain⟨h1,h2⟩:=rz (lines:=lines) (ps:=ps) (λx hx=>hl x (by simp[hx])) (by simpa using h)
  have hll:=hl l (by simp)
  have e:longer (l::lines) (q::ps)=(l++[q])::longer lines ps:=rfl
  rw[e]
  refine⟨λj hj=>?_,?_⟩
  ·show g (l++[q]) j::col (longer lines ps) j=g l j::col lines j
   rw[h1 j hj,CY _ _ _ (by omega)]
  ·show g (l++[q]) w::col (longer lines ps) w=q::ps
   rw[h2,CZ _ _ _ hll]
def Fit(p:Int)(lines:List (List Int))(ps:List Int)(x:List Int):Prop:=∀q∈lines.zip ps,p ∣ dot q.1 x-q.2
inductive Mis(p:Int)(w:Nat)(lines:List (List Int))(ps:List Int)(μ:af):R SV→Prop where
 | no (x:List Int) (h:Rw p w x) (h1:Fit p lines ps x):Mis p w lines ps μ (.ok (.val .non) μ)
 | mis (ms:List Int) (h:Rw p lines.length ms) (h1:∀j,j<w→p ∣ dot ms (col lines j)) (h2:p ∣ dot ms ps-1):Mis p w lines ps μ (.ok (.cel μ.length) (μ++[(true,li ms)]))
theorem PD:(("sum":Str)=="sum")=true:=by decide +kernel
theorem PF:(("turn":Str)=="sum")=false:=by decide +kernel
theorem Mp(μ:af)(c t:T):gc μ.length (.cel (μ.length+1)) (μ++[(true,c),(true,t)])=.ok (.cel μ.length) (μ++[(true,t)]):=by
 unfold gc
 simp
theorem C0{p:Int}{w:Nat}{rows:Rows}(H:Tbl p w rows)(is:List Nat)(hi:∀i∈is,i<rows.length)(hl:is.length≤24)(ps:List Int)(hps:ps.length=is.length)(hpb:∀x∈ps,0≤x∧x<p)(y z:SV)(μ:af)(h2:rd μ y=some (li (nums is)))(h3:rd μ z=some (li ps)) :
  Mis p w (linesAt rows is) ps μ (fnD 6 iX [.val (tb p w rows),y,z] μ):=by
 have hb:=H.pr.pos
 have hw:=H.w1
 have hw0:=H.w0
 have e1:=w5 (p:=p) (w:=w) is hi (by omega) y μ h2
 have hL:=jC H hi
 have hLl:(linesAt rows is).length=is.length:=by simp[linesAt]
 generalize linesAt rows is=lines at *
 have e2:∀same:af→Prop,same μ→bM same (dg [0,1]) (dC (.bl true)) (ah aO (dUn bh (aa 0)) (cV [(aa 1)])) [none,none] (gP (lines.map tu) (ps.map T.int)) μ=.ok ((longer lines ps).map tu) μ:=λsame hs=>by
  rw[xn,b4 (λq:List Int×Int=>.tup [tu q.1,.int q.2]) (λq=>tu (q.1++[q.2])) hs]
  ·simp[longer]
  ·rintro⟨l,q⟩ hq
   have hR:=hL l (List.of_mem_zip hq).1
   have fa:aO (tu l) (.tup [.int q])=some (tu (l++[q])):=by
    rw[p_ _ _ (by rw[List.length_map,hR.1];simp[szL];omega)];simp
   refine⟨_,eh 0 1 _ _ _,?_⟩
   simp?! only[fa]
 have lz:(gP (lines.map tu) (ps.map T.int)).length≤szL:=by rw[v9,List.length_map,List.length_map];unfold szL;omega
 have eu1:g_ [.val (.int ((w:Int)+1)),.val (.int w)] μ=.ok (.val (li (eu (w+1) w))) μ:=E.AL (w:=w+1) w (by omega) (by omega) μ
 have hh:=AM (w:=w+1) (lines:=longer lines ps) H.pr (CV hL hpb) (JQ (by omega) (w+1) w) (by rw[rq (by omega)];omega) (by omega) (.val (.lst ((longer lines ps).map tu))) μ (λ_=>rfl)
 obtain⟨lc1,lc2⟩:=rz (w:=w) (lines:=lines) (ps:=ps) (λl h=>(hL l h).1) (by omega)
 unfold tb at *
 unfold iX
 simp?! only[e1,h3,lz]
 rw[e2 _ ⟨trivial,h3⟩,R.bE,R.aL]
 simp?! only[lz,eu1]
 generalize hr:E.iy (starts 11 [.val (.int p),.val (.int ((w+1:Nat):Int)),.val (.lst ((longer lines ps).map tu)),.val (tu (eu (w+1) w))]) μ=r at hh
 have hf:∀r',r.lT=r'→fh [.val (.int p),.val (.int ((w:Int)+1)),.val (.lst ((longer lines ps).map tu)),.val (tu (eu (w+1) w))] μ=r':=λr' h=>by
  rw[← h,← hr];rfl
 cases hh with
 | turn c tv h h1 h3' =>
  rw[hf _ rfl]
  simp?! only[pick,PF]
  have e:(R.ok (SV.val T.non) ((μ++[(true,c)]).take μ.length))=R.ok (SV.val T.non) μ:=by rw[Hz]
  show Mis p w lines ps μ (R.ok (SV.val T.non) ((μ++[(true,c)]).take μ.length))
  rw[e]
  have hx:=AI (p:=p) (L:=w) (row:=tv.take w) (by omega) (-1) (by rw[List.length_take,h.1];omega)
  refine .no _ hx ?_
  rintro⟨l,q⟩ hq
  have hm:=List.of_mem_zip hq
  have hll:l.length=w:=(hL l hm.1).1
  have a1:=h1 (l++[q]) (List.mem_map.mpr ⟨(l,q),hq,rfl⟩)
  have et:tv=tv.take w++[g tv w]:=by
   have:=wW tv w (by rw[h.1];omega)
   rw[List.drop_of_length_le (by rw[h.1];omega)] at this
   exact this
  rw[et,FD _ _ _ _ (by rw[hll,List.length_take,h.1];omega)] at a1
  rw[kH _ _ _ (by omega)] at h3'
  obtain⟨t,ht⟩:=qV p (-1) (tv.take w) l
  obtain⟨u,hu⟩:=a1
  obtain⟨v,hv⟩:=h3'
  rw[ht]
  exact⟨t-u+q*v,by grind⟩
 | sum c ms h h1 =>
  rw[hf _ rfl]
  simp?! only[pick,PD]
  rw[Mp]
  rw[rq (by omega)] at h
  refine .mis ms h (λj hj=>?_) ?_
  ·have:=h1 j (by omega)
   rw[lc1 j hj] at this
   have e0:g (eu (w+1) w) j=0:=by
    unfold eu
    rw[AK _ _ _ _ (by simp),if_neg (by omega)]
    unfold g
    rw[List.getD_eq_getElem?_getD,List.getElem?_replicate,if_pos (by omega)]
    rfl
   rw[e0,Int.sub_zero] at this
   exact this
  ·have:=h1 w (by omega)
   rw[lc2] at this
   have e0:g (eu (w+1) w) w=1:=by
    unfold eu
    rw[AK _ _ _ _ (by simp),if_pos rfl]
   rw[e0] at this
   exact this
def iY:FN:=fnD 6 iX
def iz:DS :=
 (ar (ay 2 (ak (cal dE) [(aa 1)]))
 (ar (ay 3 (aF (aY (aa 2)) [none,some 1] (aw 0) (dC (.bl true)) (ax (aa 1) (aa 0))))
 (ar (ay 4 (ak (cal iY) [(aa 0),(aa 2),(aa 3)]))
 (ar (sIf (dUn gC (aa 4)) (aA (fN [(dC (.str "none")),(aa 4)])) bA)
 (ar (ay 5 (ak (cal bc) [(aa 0),(aa 2)]))
 (ar (sIf (ah fEq (ax (aa 5) (dC (.int 0))) (dC (.str "shut"))) (aA (fN [(dC (.str "any")),(ax (aa 5) (dC (.int 1)))])) bA)
 (aA (fN [(dC (.str "one")),(ak (cal cF) [(ax (aa 0) (dC (.int 0))),(ax (aa 5) (dC (.int 1))),(aa 3)]),(ax (aa 5) (dC (.int 1)))]))))))))
inductive Tld(p:Int)(w:Nat)(lines:List (List Int))(ps:List Int)(μ:af):R SV→Prop where
 | none (ms:List Int) (h:Rw p lines.length ms) (h1:∀j,j<w→p ∣ dot ms (col lines j)) (h2:p ∣ dot ms ps-1):Tld p w lines ps μ (.ok (.box [.inl (.str "none"),.inr μ.length]) (μ++[(true,li ms)]))
 | any (c:T) (tv x:List Int) (hx:Rw p w x) (hf:Fit p lines ps x) (h:Rw p w tv) (h1:∀l∈lines,p ∣ dot l tv) (h2:g tv 0=1):Tld p w lines ps μ (.ok (.box [.inl (.str "any"),.inl (tu tv)]) (μ++[(true,c)]))
 | one (c:T) (ms x:List Int) (hx:Rw p w x) (hf:Fit p lines ps x) (h:Rw p lines.length ms) (h1:∀j,j<w→p ∣ dot ms (col lines j)-g (eu w 0) j):Tld p w lines ps μ (.ok (.box [.inl (.str "one"),.inl (.int (dot ms ps%p)),.inr (μ.length+1)]) (μ++[(true,c),(true,li ms)]))
theorem OD:(("open":Str)=="shut")=false:=by decide +kernel
theorem OE:(("shut":Str)=="shut")=true:=by decide +kernel
structure Seen(p:Int)(rows:Rows)(seen:List (Option Int)):Prop where
 len:seen.length=rows.length
 by_:∀i,some i∈seen→0≤i∧i<p
theorem Seen.parts{p:Int}{rows:Rows}{seen:List (Option Int)}(h:Seen p rows seen):∀x∈aT seen,0≤x∧x<p:=λx hx=>by
 obtain⟨i,hi,rfl⟩:=List.mem_map.mp hx
 obtain⟨h1,h2⟩:=fK hi
 obtain⟨v,hv⟩:=Option.isSome_iff_exists.mp h2
 rw[hv]
 refine h.by_ v ?_
 have:seen[i]?=some (some v):=by
  unfold eg at hv
  rw[List.getD_eq_getElem?_getD,List.getElem?_eq_getElem h1] at hv
  rw[List.getElem?_eq_getElem h1]
  exact congrArg some hv
 exact List.mem_of_getElem? this
theorem OF{p:Int}{w:Nat}{rows:Rows}(H:Tbl p w rows){seen:List (Option Int)}(hs:Seen p rows seen)(y:SV)(μ:af)(hy:rd μ y=some (.lst (seen.map sT))) :
  Tld p w (linesAt rows (aK seen)) (aT seen) μ (fnK 6 iz [.val (tb p w rows),y] μ):=by
 have hb:=H.pr.pos
 have hw:=H.w1
 have hn:=H.n
 have hsl:=hs.len
 have e0:=vm seen (by omega) y μ hy
 have hil:(aK seen).length≤24:=Nat.le_trans (List.length_filter_le _ _) (by rw[List.length_range];omega)
 have hlt:∀i∈aK seen,i<rows.length:=λi h=>by have:=(fK h).1;omega
 have e1:bM (λ_=>True) (aw 0) (dC (.bl true)) (ax (aa 1) (aa 0)) [none,some y] ((nums (aK seen)).map T.int) μ=.ok ((aT seen).map T.int) μ:=by
  rw[← q5,b4 (λ(i:Nat)=>T.int (i:Int)) (λi=>T.int ((eg seen i).getD 0)) trivial]
  ·rw[aT,List.map_map];rfl
  ·intro i hm
   obtain⟨h1,h2⟩:=fK hm
   obtain⟨v,hv⟩:=Option.isSome_iff_exists.mp h2
   have a1:iM μ y (.int (i:Int))=some (.val (.int v)):=by
    rw[IB hy,ji (by omega) (by omega)]
    have:seen[(i:Int).toNat]'(by simpa using h1)=some v:=by
     have:eg seen i=seen[i]:=by simp[eg,h1]
     rw[hv] at this
     simpa using this.symm
    rw[this];rfl
   refine⟨_,rfl,?_⟩
   rw[hv]
   simp?! only[a1,Option.getD_some]
 have lp:((nums (aK seen)).map T.int).length≤szL:=by unfold nums;rw[List.length_map,List.length_map];unfold szL;omega
 have hml:(aT seen).length=(aK seen).length:=by simp[aT]
 have hm:=C0 H (aK seen) hlt hil (aT seen) hml hs.parts (.val (li (nums (aK seen)))) (.val (li (aT seen))) μ rfl rfl
 have ho:=AN H (aK seen) hlt (by omega) (.val (li (nums (aK seen)))) μ rfl
 have hLl:(linesAt rows (aK seen)).length=(aK seen).length:=by simp[linesAt]
 generalize hq1:fnD 6 iX [.val (tb p w rows),.val (li (nums (aK seen))),.val (li (aT seen))] μ=q1 at hm
 have hq1:iY [.val (tb p w rows),.val (li (nums (aK seen))),.val (li (aT seen))] μ=q1:=hq1
 generalize linesAt rows (aK seen)=lines at *
 generalize aT seen=ps at *
 generalize nums (aK seen)=is at *
 have nnl:∀ms,gC (li ms)=some (.bl true):=λms=>rfl
 cases hm with
 | mis ms h h1 h2 =>
  have hg:(μ++[(true,li ms)])[μ.length]?=some (true,li ms):=gX
  unfold iz
  simp?! only[e0,e1,lp,hq1,hg,nnl]
  exact .none ms h h1 h2
 | no x hx p5 =>
  generalize hq2:bc [.val (tb p w rows),.val (li is)] μ=q2 at ho
  cases ho with
  | FE c tv h h1 h2 =>
   unfold iz
   simp?! only[e0,e1,lp,hq1,hq2,pick,OE]
   exact .any c tv x hx p5 h h1 h2
  | opn c ms h h1 =>
   have hg:(μ++[(true,c),(true,li ms)])[μ.length+1]?=some (true,li ms):=Aa
   have hc:=wZ p ms ps (.cel (μ.length+1)) (.val (li ps)) (μ++[(true,c),(true,li ms)]) (by omega) (λa ha=>⟨h.2 a ha,by have:=h.3 a ha;omega⟩) (by rw[h.1];omega) (by rw[ir,hg];rfl) rfl
   have tb0:iM (μ++[(true,c),(true,li ms)]) (.val (tb p w rows)) (.int 0)=some (.val (.int p)):=rfl
   unfold iz
   simp?! only[e0,e1,lp,hq1,hq2,pick,OD,tb0,hc]
   exact .one c ms x hx p5 h h1
theorem OG{p:Int}{w:Nat}{rows:Rows}(H:Tbl p w rows){seen:List (Option Int)}(hs:Seen p rows seen)(y:SV)(μ:af)(hy:rd μ y=some (.lst (seen.map sT))) :
  (∃ms,fnV 6 iz [.val (tb p w rows),y] μ=.ok (.val (.tup [.str "none",li ms])) μ∧Rw p (linesAt rows (aK seen)).length ms∧(∀j,j<w→p ∣ dot ms (col (linesAt rows (aK seen)) j))∧p ∣ dot ms (aT seen)-1) ∨
  (∃tv x,fnV 6 iz [.val (tb p w rows),y] μ=.ok (.val (.tup [.str "any",tu tv])) μ∧Rw p w x∧Fit p (linesAt rows (aK seen)) (aT seen) x∧Rw p w tv∧(∀l∈linesAt rows (aK seen),p ∣ dot l tv)∧g tv 0=1) ∨
  ∃ms x,fnV 6 iz [.val (tb p w rows),y] μ=.ok (.val (.tup [.str "one",.int (dot ms (aT seen)%p),li ms])) μ∧Rw p w x∧Fit p (linesAt rows (aK seen)) (aT seen) x∧Rw p (linesAt rows (aK seen)).length ms∧∀j,j<w→p ∣ dot ms (col (linesAt rows (aK seen)) j)-g (eu w 0) j:=by
 have h:=OF H hs y μ hy
 rw[jc] at h
 rw[eF]
 generalize iz (starts 6 [.val (tb p w rows),y]) μ=r at h ⊢
 cases r with
 | rt x μ' =>
  rw[uk] at h
  rw[pB]
  generalize hq:R.ok x μ'=q at h
  cases h with
  | none ms h h1 h2 =>
   cases hq
   exact .inl ⟨ms,by simp[ice,frz,gx,oU],h,h1,h2⟩
  | any c tv x hx hf h h1 h2 =>
   cases hq
   exact .inr (.inl ⟨tv,x,by simp[ice,frz,gx,oU],hx,hf,h,h1,h2⟩)
  | one c ms x hx hf h h1 =>
   cases hq
   exact .inr (.inr ⟨ms,x,by simp[ice,frz,gx,oU],hx,hf,h,h1⟩)
 | nx e μ'=>generalize hq:(RS.nx e μ').lT=q at h;cases h<;>cases hq
 | bk e μ'=>generalize hq:(RS.bk e μ').lT=q at h;cases h<;>cases hq
 | ct e μ'=>generalize hq:(RS.ct e μ').lT=q at h;cases h<;>cases hq
 | err c e μ'=>generalize hq:(RS.err c e μ').lT=q at h;cases h<;>cases hq
 | bad=>generalize hq:RS.bad.lT=q at h;cases h<;>cases hq
end Fw.F
namespace Fw.E
open PySem Fw Fw.H
end Fw.E
namespace Fw.F
open PySem Fw Fw.H Fw.E
theorem zx{p:Int}{w:Nat}{rows:Rows}{seen:List (Option Int)}(H:Tbl p w rows)(hs:Seen p rows seen):(∀i∈aK seen,i<rows.length)∧(aK seen).length≤24∧(∀l∈linesAt rows (aK seen),Rw p w l)∧(aT seen).length=(linesAt rows (aK seen)).length∧(linesAt rows (aK seen)).length≤24:=by
 have hsl:=hs.len
 have hn:=H.n
 have hlt:∀i∈aK seen,i<rows.length:=λi h=>by have:=(fK h).1;omega
 have hil:(aK seen).length≤24:=Nat.le_trans (List.length_filter_le _ _) (by rw[List.length_range];omega)
 exact⟨hlt,hil,jC H hlt,by simp[aT,linesAt],by unfold linesAt;rw[List.length_map];exact hil⟩
section
variable{p:Int}{w:Nat}
theorem xo(p:Int):∀(ms ps qs:List Int),ps.length=qs.length→(∀i,p ∣ g ps i-g qs i)→p ∣ dot ms ps-dot ms qs
 | [],ps,qs,_,_=>⟨0,by cases ps<;>cases qs<;>simp[dot]⟩
 | m::ms,[],[],_,_=>⟨0,by simp[dot]⟩
 | m::ms,[],q::qs,h,_=>by simp at h
 | m::ms,a::ps,[],h,_=>by simp at h
 | m::ms,a::ps,b::qs,h,hd=>by
  obtain⟨k,hk⟩:=xo p ms ps qs (by simpa using h) λi=>by have:=hd (i+1);rwa [cP,cP] at this
  obtain⟨t,ht⟩:=hd 0
  rw[dM,dM] at ht
  exact⟨k+m*t,by rw[dot,dot];grind⟩
theorem xp{lines:List (List Int)}{ps x:List Int}(hps:ps.length=lines.length)(hf:Fit p lines ps x)(ms:List Int):p ∣ dot ms ps-dot ms (lines.map λl=>dot l x):=by
 refine xo p ms ps _ (by rw[List.length_map,hps]) λi=>?_
 by_cases hi:i<lines.length
 ·have hz:(lines[i],ps[i]'(by omega))∈lines.zip ps:=List.mem_iff_getElem.mpr ⟨i,by simp;omega,by simp⟩
  obtain⟨k,hk⟩:=hf _ hz
  rw[wN _ _ (show i<ps.length by omega),wN _ _ (show i<(lines.map λl=>dot l x).length by simpa using hi),List.getElem_map]
  exact⟨-k,by simp only at hk;grind⟩
 ·have e1:g ps i=0:=by unfold g;rw[List.getD_eq_getElem?_getD,List.getElem?_eq_none (by omega)];rfl
  have e2:g (lines.map λl=>dot l x) i=0:=by unfold g;rw[List.getD_eq_getElem?_getD,List.getElem?_eq_none (by simp;omega)];rfl
  rw[e1,e2];exact⟨0,by omega⟩
theorem Jb{lines:List (List Int)}{ps ms x:List Int}(hp:1<p)(hl:∀l∈lines,Rw p w l)(hps:ps.length=lines.length)(hm:ms.length=lines.length)(h1:∀j,j<w→p ∣ dot ms (col lines j))(h2:p ∣ dot ms ps-1)(hf:Fit p lines ps x):False:=by
 have a:=q_ p w x lines ms (List.replicate w 0) hm (λl h=>(hl l h).1) (by simp) λj hj=>by
  have e0:g (List.replicate w 0) j=0:=by unfold g;rw[List.getD_eq_getElem?_getD,List.getElem?_replicate];split<;>rfl
  rw[e0,Int.sub_zero];exact h1 j hj
 rw[e8] at a
 obtain⟨k,hk⟩:=a
 obtain⟨t,ht⟩:=xp hps hf ms
 obtain⟨u,hu⟩:=h2
 have:=Int.le_of_dvd (by omega) (show p ∣ 1 from ⟨k+t-u,by grind⟩)
 omega
end
theorem on:(("one":Str)=="none")=false:=by decide +kernel
theorem an:(("any":Str)=="none")=false:=by decide +kernel
end Fw.F
namespace Fw.k34
open PySem Fw Fw.H Fw.E Fw.F Fw.U Fw.Rl Fw.Sets
open Fw.k33 (ow kM LL GG lsB grB srt rest rS tN Gk tO)
theorem Mq{p:Int}(hP:gg p){d:Nat}{t:T}(ht:IsR d t)(hw:plc d t≤11)(hn:rcn d t≤24)(hc:crw p d t=false)(S:List Int):ow p (1+plc d t) (tbl p d t) S=b9 S d t:=by
 rw[Bool.eq_iff_iff,kM,Mf hP ht hw hn hc]
theorem xq{d:Nat}{t:T}(ht:IsR d t)(hd:d≤5)(μ:af)(hs:List Int):fj 8 [.val t,.val (li hs)] μ=.ok (.val (.bl (b9 hs d t))) μ:=IL (F:=fj) (λ_=>rfl) d 7 t ht (by omega) μ (.val (li hs)) hs rfl
theorem tP{d:Nat}{t:T}(ht:IsR d t)(hd:d≤5)(μ:af)(hs:List Int):bf 8 [.val t,.val (li hs)] μ=.ok (.val (.bl (b9 hs d t))) μ:=F9 d 7 t ht (by omega) μ (.val (li hs)) hs rfl
theorem Gm:bI=k33.bI:=rfl
theorem tQ:aW=k33.aW:=rfl
theorem Gn:cn=k33.cn:=rfl
theorem xr:bz=k33.bz:=rfl
theorem Jc:bC=k33.bC:=by
 unfold bC k33.bC cQ k33.cQ
 rw[Gm,tQ,Gn,xr]
theorem Jd:dF=k33.dF:=by
 unfold dF k33.dF nT k33.nT
 rw[tQ]
section
variable{p:Int}{w:Nat}{rows:Rows}{n:Nat}
theorem vj(H:Tbl p w rows)(hn:n≤8)(h1:(LL (ow p w rows) n).length<64)(h2:(GG (ow p w rows) n).length<64)(μ:af) :
  bC [.val (tb p w rows),.val (.int n)] μ=.ok (.val (rS (ow p w rows) n)) μ:=by
 rw[Jc];exact k33.vj H hn h1 h2 μ
theorem vk(H:Tbl p w rows)(hn:n≤8)(s:List Int)(μ:af):dF [.val (tb p w rows),.val (.int n),.val (li s)] μ=.ok (.val (.bl (!ow p w rows (rest n s)))) μ:=by
 rw[Jd];exact k33.vk H hn s μ
end
theorem zy{n d:Nat}{t:T}(R:Ru n d t)(hn:n≤10)(s:List Int):b9 s d (trn d t)=!b9 (rest n s) d t:=by
 rw[FG (hs:=s) (os:=(a_ 0 10).filter λh=>decide (h∉s)) (λh h0 h1=>?_) d t R.r]
 ·congr 1
  refine F_ d t R.r λh hh=>?_
  have hb:=R.h h hh
  unfold rest
  rw[List.mem_filter,List.mem_filter,eV,eV]
  constructor
  ·rintro⟨_,z⟩;exact⟨by omega,z⟩
  ·rintro⟨_,z⟩;exact⟨by omega,z⟩
 ·rw[List.mem_filter,eV,decide_eq_true_eq]
  constructor
  ·rintro z ⟨_,y⟩;exact y z
  ·intro z
   exact Classical.byContradiction λy=>z ⟨by omega,y⟩
theorem Gp{d:Nat}{t:T}(ht:IsR d t)(hd:d≤5)(μ:af):cN 8 [.val t] μ=.ok (.val (trn d t)) μ:=IP (F:=cN) (λ_=>rfl) d 7 t ht (by omega) μ
section
variable{p:Int}{w:Nat}{rows:Rows}
theorem Je(H:Tbl p w rows)(fs:List Int)(y:SV)(μ:af)(h2:(rd μ y).bind bu=some (fs.map T.int)):kj [.val (tb p w rows),y] μ=.ok (.val (li (parts p rows fs))) μ:=J.IM H fs y μ h2
theorem xt(H:Tbl p w rows)(bV:List Int)(μ:af) :
  (∃tv,b3 [.val (tb p w rows),.val (li bV)] μ=.ok (.val (.tup [.str "shut",tu tv])) μ∧Rw p w tv∧(∀l∈linesAt rows (rowsOf rows bV),p ∣ dot l tv)∧g tv 0=1) ∨
  ∃ms,b3 [.val (tb p w rows),.val (li bV)] μ=.ok (.val (.tup [.str "open",li ms])) μ∧Rw p (linesAt rows (rowsOf rows bV)).length ms∧∀j,j<w→p ∣ dot ms (col (linesAt rows (rowsOf rows bV)) j)-g (eu w 0) j:=F.zk H bV _ μ rfl
theorem Bh(a b:Bool):fNe (.bl a) (.bl b)=some (.bl (!(a==b))):=by cases a<;>cases b<;>rfl
end
section
variable{p:Int}{w:Nat}{rows:Rows}{seen:List (Option Int)}
theorem Gq(hs:Seen p rows seen)(x:List Int):Fit p (linesAt rows (aK seen)) (aT seen) x↔∀i,i<rows.length→∀v,eg seen i=some v→p ∣ dot (dy rows i).2 x-v:=by
 have hl:=hs.len
 unfold Fit linesAt aT
 rw[List.zip_map']
 constructor
 ·intro h i hi v hv
  have:=h ((dy rows i).2,(eg seen i).getD 0) (List.mem_map.mpr ⟨i,List.mem_filter.mpr ⟨List.mem_range.mpr (by omega),by rw[hv];rfl⟩,rfl⟩)
  rw[hv] at this
  exact this
 ·intro h q hq
  obtain⟨i,hi,rfl⟩:=List.mem_map.mp hq
  obtain⟨h1,h2⟩:=fK hi
  obtain⟨v,hv⟩:=Option.isSome_iff_exists.mp h2
  have:=h i (by omega) v hv
  rw[hv]
  exact this
def cB(rows:Rows)(hs vs:List Int):List (Option Int):=(List.range vs.length).map λi=>if i∈rowsOf rows hs then some (g vs i) else none
theorem tR(hs vs:List Int)(i:Nat)(hi:i<vs.length):eg (cB rows hs vs) i=if i∈rowsOf rows hs then some (g vs i) else none:=by
 unfold eg cB
 rw[List.getD_eq_getElem?_getD,List.getElem?_map,List.getElem?_range hi]
 rfl
theorem oQ(hs vs:List Int)(hv:Rw p rows.length vs):Seen p rows (cB rows hs vs):=by
 refine⟨by unfold cB;rw[List.length_map,List.length_range];exact hv.1,λi hi=>?_⟩
 unfold cB at hi
 obtain⟨k,hk,e⟩:=List.mem_map.mp hi
 have hk:=List.mem_range.mp hk
 split at e
 ·cases e
  have e:g vs k=vs[k]:=by simp[g,hk]
  rw[e]
  exact⟨hv.2 _ (List.getElem_mem hk),hv.3 _ (List.getElem_mem hk)⟩
 ·cases e
theorem xu(hs vs:List Int)(hv:vs.length=rows.length):aK (cB rows hs vs)=rowsOf rows hs:=by
 unfold aK
 rw[show(cB rows hs vs).length=rows.length by unfold cB;rw[List.length_map,List.length_range];exact hv]
 unfold rowsOf
 refine List.filter_congr λi hi=>?_
 have hi:=List.mem_range.mp hi
 rw[tR hs vs i (by omega)]
 have:i∈rowsOf rows hs↔(dy rows i).1∈hs:=by
  unfold rowsOf
  rw[List.mem_filter,List.mem_range,decide_eq_true_iff]
  exact⟨λq=>q.2,λq=>⟨hi,q⟩⟩
 by_cases q:(dy rows i).1∈hs
 ·rw[if_pos (this.mpr q),decide_eq_true q];rfl
 ·rw[if_neg (λz=>q (this.mp z)),decide_eq_false q];rfl
theorem Jf(fs:List Int)(i:Nat)(hi:i<rows.length):g (parts p rows fs) i=dot (dy rows i).2 fs%p:=by
 unfold parts g
 simp[dy,hi]
theorem Gr(hp:0<p){fs:List Int}(hs:List Int)(hv:Rw p rows.length (parts p rows fs)):Fit p (linesAt rows (aK (cB rows hs (parts p rows fs)))) (aT (cB rows hs (parts p rows fs))) fs:=by
 rw[Gq (oQ hs _ hv)]
 intro i hi v e
 rw[tR hs _ i (by rw[hv.1];exact hi)] at e
 split at e
 ·cases e
  rw[Jf fs i hi]
  exact⟨dot (dy rows i).2 fs / p,by have:=Int.emod_add_mul_ediv (dot (dy rows i).2 fs) p;omega⟩
 ·cases e
theorem Jg(H:Tbl p w rows){fs:List Int}(hF:Rw p w fs)(s:List Int)(μ:af) :
  (Op p w rows s∧∃ms,kY [.val (tb p w rows),.val (.lst ((cB rows s (parts p rows fs)).map sT))] μ=.ok (.val (.tup [.str "one",.int (g fs 0),li ms])) μ) ∨
  (¬ Op p w rows s∧∃tv,kY [.val (tb p w rows),.val (.lst ((cB rows s (parts p rows fs)).map sT))] μ=.ok (.val (.tup [.str "any",tu tv])) μ):=by
 have hb:=H.pr.pos
 have hw0:=H.w0
 have hv:Rw p rows.length (parts p rows fs):=K.xj (by omega) rows fs
 have S:=oQ s _ hv
 have p5:=Gr (p:=p) (by omega) s hv
 have er:=xu s (parts p rows fs) hv.1
 obtain⟨_,_,f1,f2,_⟩:=zx H S
 rcases F.OG H S (.val (.lst ((cB rows s (parts p rows fs)).map sT))) μ rfl with ⟨ms,e,a1,a2,a3⟩|⟨tv,x,e,_,_,a1,a2,a3⟩|⟨ms,x,e,_,_,a1,a2⟩
 ·exact(Jb (by omega) f1 f2 a1.1 a2 a3 p5).elim
 ·rw[er] at a2
  exact .inr ⟨pR H a2 a3,tv,e⟩
 ·have hn:dot ms (aT (cB rows s (parts p rows fs)))%p=g fs 0:=by
   have c1:=q_ p w fs (linesAt rows (aK (cB rows s (parts p rows fs)))) ms (eu w 0) a1.1 (λl h=>(f1 l h).1) (zh _ _) a2
   rw[kH w 0 fs hw0] at c1
   obtain⟨k,hk⟩:=c1
   obtain⟨t,ht⟩:=xp f2 p5 ms
   have gb:=hF.g0 (p:=p) (by omega) 0
   rw[show dot ms (aT (cB rows s (parts p rows fs)))=g fs 0+p*(k+t) by grind,Int.add_mul_emod_self_left]
   exact Int.emod_eq_of_lt gb.1 gb.2
  rw[hn] at e
  rw[er] at a1 a2
  exact .inl ⟨⟨ms,a1.1,a2⟩,ms,e⟩
theorem Gs(s vs:List Int)(hv:Rw p rows.length vs)(μ:af):bM (λ_=>True) (aw 0) (dC (.bl true)) (ax (bD [(dC (.non)),(ax (aa 1) (aa 0))]) (dUn nJ (ah fIn (ax (ax (ax (aa 3) (dC (.int 2))) (aa 0)) (dC (.int 0))) (aa 2)))) [none,some (.val (li vs)),some (.val (li s)),some (.val (tb p w rows))] (bL 0 vs.length) μ=.ok ((cB rows s vs).map sT) μ:=by
 have hvl:=hv.1
 rw[gH,sY,List.map_map]
 rw[show(List.map (T.int ∘ λ(i:Nat)=>(i:Int)) (List.range vs.length))=(List.range vs.length).map λ(i:Nat)=>T.int (i:Int) from rfl]
 rw[b4 (λ(i:Nat)=>T.int (i:Int)) (λi=>sT (if i∈rowsOf rows s then some (g vs i) else none)) trivial]
 ·unfold cB;rw[List.map_map];rfl
 ·intro i hi
  have hi:=List.mem_range.mp hi
  have a1:atI (vs.map T.int) (i:Int)=some (.int (g vs i)):=by rw[atg (by omega) (by omega)];rfl
  have a2:atI (rows.map rt) (i:Int)=some (rt (dy rows i)):=by
   rw[ji (by omega) (by omega)]
   simp[dy,show i<rows.length by omega]
  have i2:iM μ (.val (tb p w rows)) (.int 2)=some (.val (.tup (rows.map rt))):=rfl
  have i0:iM μ (.val (rt (dy rows i))) (.int 0)=some (.val (.int (dy rows i).1)):=rfl
  have fi:fIn (.int (dy rows i).1) (li s)=some (.bl (decide ((dy rows i).1∈s))):=iS _ _
  have fb:∀b,nJ (.bl b)=some (.int (if b=true then 1 else 0)):=λb=>by cases b<;>rfl
  have hm:((dy rows i).1∈s)↔i∈rowsOf rows s:=by
   unfold rowsOf
   rw[List.mem_filter,List.mem_range,decide_eq_true_iff]
   exact⟨λq=>⟨by omega,q⟩,λq=>q.2⟩
  refine⟨_,rfl,?_⟩
  by_cases hq:i∈rowsOf rows s
  ·rw[decide_eq_true (hm.mpr hq)] at fi
   rw[if_pos hq]
   generalize tb p w rows=u at *
   generalize rt (dy rows i)=v at *
   simp?! only[a1,i2,a2,i0,fi,fb]
   rfl
  ·rw[decide_eq_false (λz=>hq (hm.mp z))] at fi
   rw[if_neg hq]
   generalize tb p w rows=u at *
   generalize rt (dy rows i)=v at *
   simp?! only[a1,i2,a2,i0,fi,fb]
   rfl
end
open Fw.k33 (ow kM LL GG lsB grB srt rest rS ifA tM oq tL tK i6 dz rm xm JU JV Bg)
theorem xv(s:List Int):okT 100 (li s)=true:=by
 show okT 100 (.lst _)=true
 rw[gR];exact sh _ _
theorem Bj(a b:List Int):eqT (li a) (li b)=decide (a=b):=by
 have h:fEq (li a) (li b)=some (.bl (eqT (li a) (li b))):=qb (xv a) (xv b)
 have h2:fEq (.lst (a.map T.int)) (.lst (b.map T.int))=some (.bl (a==b)):=mE a b
 have e:some (T.bl (eqT (li a) (li b)))=some (.bl (a==b)):=h.symm.trans h2
 have e:=T.bl.inj (Option.some.inj e)
 rw[e,Bool.eq_iff_iff,decide_eq_true_eq,beq_iff_eq]
theorem Bk(s:List Int)(l:List (List Int)):inT (li s) (l.map li)=decide (s∈l):=by
 unfold inT
 rw[Bool.eq_iff_iff,decide_eq_true_iff,List.any_eq_true]
 constructor
 ·rintro⟨t,ht,he⟩
  obtain⟨a,ha,rfl⟩:=List.mem_map.mp ht
  rw[Bj,decide_eq_true_eq] at he
  exact he ▸ ha
 ·intro h
  exact⟨li s,List.mem_map.mpr ⟨s,h,rfl⟩,by rw[Bj];exact decide_eq_true rfl⟩
theorem Gu(l:List (List Int)):okT 100 (.lst (l.map li))=true:=by rw[gR];exact rm l 98
theorem Mr(s:List Int)(l:List (List Int)):wa (li s) (.lst (l.map li))=some (.bl (decide (s∈l))):=by rw[HI (xv s) (Gu l),Bk]
theorem Bl(s:List Int)(l:List (List Int)):f_ (li s) (.lst (l.map li))=some (.bl (!decide (s∈l))):=by rw[wb (xv s) (Gu l),Bk]
theorem Jh(h:Int)(s:List Int):f_ (.int h) (li s)=some (.bl (decide (h∉s))):=by
 rw[show li s=.lst (s.map T.int) from rfl,wb (zR _ _) (xv s),ke]
 simp
theorem Gv{α:Type}(l:List α):fEq (.lst (l.map λ_=>T.int 1)) (.lst [])=some (.bl l.isEmpty):=by
 have h:=mE (l.map λ_=>(1:Int)) []
 rw[List.map_map,List.map_nil] at h
 rw[show(λ_:α=>T.int 1)=T.int ∘ λ_=>(1:Int) from rfl,h]
 cases l<;>rfl
theorem Ms(O:List Int→Bool)(n:Nat):fEq (rS O n) (rS O n)=some (.bl true):=by
 have h:okT 100 (rS O n)=true:=by
  unfold rS
  have a:=rm (srt (LL O n)) 97
  have b:=rm (srt (GG O n)) 97
  rw[zS,iL,iL,mD,gR,gR,a,b];rfl
 rw[qb h h,j7 100 _ h]
def grS:DS:=(ar (ay 7 (aF (aQ (dC (.int 5))) [none,some 6] (aw 0) (ah f_ (aa 0) (aa 1)) (dUn kS (ah aO (aa 1) (bD [(aa 0)])))))
 (sIf (ij (ah f_ (aa 6) (aa 3)) (ah fEq (aF (aY (aa 7)) [none,some 3] (aw 0) (ah f_ (aa 0) (aa 1)) (aa 0)) (bD []))) (cf (aa 5) (aa 6)) bA))
section
variable(O:List Int→Bool)
abbrev FF:List (List Int):=(subs 5).filter O
theorem zA{s:List Int}(hs:s∈subs 5):decide (s∈FF O)=O s:=by
 rw[Bool.eq_iff_iff,decide_eq_true_eq,List.mem_filter]
 exact⟨λq=>q.2,λq=>⟨hs,q⟩⟩
theorem Mt:(FF O).length≤32:=Nat.le_trans (List.length_filter_le _ _) (by decide)
theorem zB(M:af):bM (λ_=>True) (aw 0) (ah fEq (aF (aY (aa 0)) [none,some 1,some 0] (aw 0) (ah wa (aF (aY (aa 2)) [none,some 0] (aw 0) (ah fNe (aa 0) (aa 1)) (aa 0)) (aa 1)) (dC (.int 1))) (bD [])) (aa 0) [none,some (.val (.lst ((FF O).map li)))] ((FF O).map li) M=.ok ((LL O 5).map li) M:=by
 rw[eK (λs=>li s) (λs=>!(s.any λh=>O (less s h))) (λs=>li s) trivial]
 ·rw[show LL O 5=(FF O).filter λs=>!(s.any λh=>O (less s h)) by
   unfold LL FF lsB
   rw[List.filter_filter]
   refine List.filter_congr λs _=>?_
   rw[Bool.and_comm]]
 ·intro s hs
  have hs5:=(List.mem_filter.mp hs).1
  have hl:=sub_len hs5
  have lss:(s.map T.int).length≤szL:=by rw[List.length_map];unfold szL;omega
  have ec:bM (λ_=>True) (aw 0) (ah wa (aF (aY (aa 2)) [none,some 0] (aw 0) (ah fNe (aa 0) (aa 1)) (aa 0)) (aa 1)) (dC (.int 1)) [none,some (.val (.lst ((FF O).map li))),some (.val (li s))] (s.map T.int) M=.ok ((s.filter λh=>O (less s h)).map λ_=>T.int 1) M:=by
   rw[d_ (λh=>O (less s h)) (λ_=>T.int 1) trivial s]
   intro h hm
   have e1:=tL s h M
   have e2:=Mr (less s h) (FF O)
   rw[zA O (xc hs5 h)] at e2
   refine⟨_,rfl,?_,λ_=>by simp?! only[]⟩
   simp?! only[lss,e1,e2]
  have fe:=Gv (s.filter λh=>O (less s h))
  rw[JV] at fe
  refine⟨_,rfl,?_,λ_=>by simp?! only[]⟩
  simp?! only[lss,ec,fe]
theorem Ji{s:List Int}(hs:s∈subs 5)(x0 x1 x2 x4 x7:Option SV)(μ:af)(B:List (List Int))(hB:B.length<1000) :
  ∃y7,grS [x0,x1,x2,some (.val (.lst ((FF O).map li))),x4,some (.cel μ.length),some (.val (li s)),x7] (μ++[(true,.lst (B.map li))]) =
   .nx [x0,x1,x2,some (.val (.lst ((FF O).map li))),x4,some (.cel μ.length),some (.val (li s)),y7] (μ++[(true,.lst ((ifA (grB O 5 s) B s).map li))]):=by
 have hl:=sub_len hs
 have rn5:c_ 5=true:=by decide
 have lsn:(bL 0 (5:Int).toNat).length≤szL:=by rw[cD];unfold szL;decide
 have hM:∀M:af,bM (λ_=>True) (aw 0) (ah f_ (aa 0) (aa 1)) (dUn kS (ah aO (aa 1) (bD [(aa 0)]))) [none,some (.val (li s))] (bL 0 (5:Int).toNat) M=.ok (((a_ 0 5).filter λh=>decide (h∉s)).map λh=>li (more s h)) M:=λM=>by
  rw[gH,show(5:Int).toNat=5 from rfl,d_ (λh=>decide (h∉s)) (λh=>li (more s h)) trivial (a_ 0 5)]
  intro h hm
  have fa:aO (li s) (.lst [.int h])=some (li (s++[h])):=by
   rw[gy _ _ (by simp[szL];omega)];simp
  have so:=tK (s++[h]) (by rw[List.length_append];simp;omega)
  exact⟨_,rfl,by simp?! only[Jh],λ_=>by simp?! only[fa,so];rfl⟩
 have ls:(((a_ 0 5).filter λh=>decide (h∉s)).map λh=>li (more s h)).length≤szL:=by
  rw[List.length_map]
  have:=List.length_filter_le (λh=>decide (h∉s)) (a_ 0 5)
  have e:(a_ 0 5).length=5:=by simp[a_]
  unfold szL;omega
 have ec:∀M:af,bM (λ_=>True) (aw 0) (ah f_ (aa 0) (aa 1)) (aa 0) [none,some (.val (.lst ((FF O).map li)))] (((a_ 0 5).filter λh=>decide (h∉s)).map λh=>li (more s h)) M=.ok (((((a_ 0 5).filter λh=>decide (h∉s)).filter λh=>!O (more s h)).map (more s)).map li) M:=λM=>by
  rw[eK (λh=>li (more s h)) (λh=>!O (more s h)) (λh=>li (more s h)) trivial,List.map_map]
  ·rfl
  ·intro h hm
   obtain⟨m1,m2⟩:=List.mem_filter.mp hm
   have m1:=eV.mp m1
   have g2:=Bl (more s h) (FF O)
   rw[zA O (xf hs (h:=h) (by omega) (of_decide_eq_true m2))] at g2
   refine⟨_,rfl,?_,λ_=>by simp?! only[]⟩
   simp?! only[g2]
 have g1:=Bl s (FF O)
 rw[zA O hs] at g1
 have hls:nA (.cel μ.length) (μ++[(true,.lst (B.map li))])=some ():=mM _ _ _ _
 have ap:=gG μ [] (B.map li) (li s) (by rw[List.length_map];unfold szL;omega)
 have e:grB O 5 s=(!O s && ((((a_ 0 5).filter λh=>decide (h∉s)).filter λh=>!O (more s h)).map (more s)).isEmpty):=by rw[Bg,JU];rfl
 have fe:=xm ((((a_ 0 5).filter λh=>decide (h∉s)).filter λh=>!O (more s h)).map (more s))
 have ec:=ec (μ++[(true,.lst (B.map li))])
 have hM:=hM (μ++[(true,.lst (B.map li))])
 refine⟨some (.val (.lst (((a_ 0 5).filter λh=>decide (h∉s)).map λh=>li (more s h)))),?_⟩
 rw[e]
 generalize (((a_ 0 5).filter λh=>decide (h∉s)).filter λh=>!O (more s h)).map (more s)=f at ec fe
 generalize (((a_ 0 5).filter λh=>decide (h∉s)).map λh=>li (more s h))=MM at ec hM ls ⊢
 unfold grS
 cases ho:O s with
 | true =>
  rw[ho] at g1
  simp?! only[rn5,lsn,hM,g1]
  rfl
 | false =>
  rw[ho] at g1
  cases hf:f.isEmpty with
  | false =>
   rw[hf] at fe
   simp?! only[rn5,lsn,hM,g1,ls,ec,fe]
   rfl
  | true =>
   rw[hf] at fe
   simp?! only[rn5,lsn,hM,g1,ls,ec,fe,hls,ap]
   simp[ifA]
end
theorem rT{p:Int}{w:Nat}{rows:Rows}(H:Tbl p w rows){d:Nat}{t:T}(ht:IsR d t)(hd:d≤5)(hO:∀S,ow p w rows S=b9 S d t)(μ:af) :
  cy [.val (tb p w rows),.val (.lst ((subs 5).map li)),.val t] μ=.ok (.val (.bl true)) μ:=by
 obtain⟨O,hOO⟩:∃O:List Int→Bool,O=λS=>b9 S d t:=⟨_,rfl⟩
 have hsm:=dz (n:=5) (by omega)
 have hlen:(subs 5).length<64:=by decide
 have h1:(LL O 5).length<64:=Nat.lt_of_le_of_lt (List.length_filter_le _ _) hlen
 have h2:(GG O 5).length<64:=Nat.lt_of_le_of_lt (List.length_filter_le _ _) hlen
 have s1:=i6 _ h1
 have s2:=i6 _ h2
 have f1:=vj H (n:=5) (by omega) (Nat.lt_of_le_of_lt (List.length_filter_le _ _) hlen) (Nat.lt_of_le_of_lt (List.length_filter_le _ _) hlen) μ
 rw[show ow p w rows=O by rw[hOO];exact funext hO] at f1
 have f3:=Ms O 5
 have hsz:((subs 5).map li).length≤szL:=by rw[List.length_map];unfold szL;omega
 have PH:((FF O).map li).length≤szL:=by have:=Mt O;rw[List.length_map];unfold szL;omega
 have e0:bM (λ_=>True) (aw 0) (ak (cal (bf 8)) [(aa 1),(aa 0)]) (aa 0) [none,some (.val t)] ((subs 5).map li) μ=.ok ((FF O).map li) μ:=by
  rw[eK (λs=>li s) O (λs=>li s) trivial]
  intro s hs
  have:=tP ht hd μ s
  rw[show b9 s d t=O s by rw[hOO]] at this
  exact⟨_,rfl,by simp?! only[this],λ_=>by simp?! only[]⟩
 have e1:=zB O μ
 obtain⟨e',M',hf,x6,x7,rfl,rfl⟩:=eJ (same:=λ_=>True) (b:=aw 6) (ts:=(subs 5).map li) (body:=grS)
  (I:=λi e M=>∃x6 x7,e=[some (.val (tb p w rows)),some (.val (.lst ((subs 5).map li))),some (.val t),some (.val (.lst ((FF O).map li))),some (.val (.lst ((LL O 5).map li))),some (.cel μ.length),x6,x7]∧M=μ++[(true,.lst ((((subs 5).take i).filter (grB O 5)).map li))])
  (λ_ _ _ _=>trivial) (λj z e M hz au=>by
   obtain⟨x6,x7,he,hM⟩:=au
   subst he hM
   rw[List.getElem?_map] at hz
   obtain⟨s,q1,rfl⟩:=Option.map_eq_some_iff.mp hz
   have hs:s∈subs 5:=List.mem_of_getElem? q1
   obtain⟨e1,e2⟩:=oq (jD 5) q1
   have hlt:(((subs 5).take j).filter (grB O 5)).length<1000:=by
    have a1:=List.length_filter_le (grB O 5) ((subs 5).take j)
    have a2:=List.length_take_le j (subs 5)
    have a3:=List.length_take_le' j (subs 5)
    omega
   obtain⟨y7,k⟩:=Ji O hs (some (.val (tb p w rows))) (some (.val (.lst ((subs 5).map li)))) (some (.val t)) (some (.val (.lst ((LL O 5).map li)))) x7 μ (((subs 5).take j).filter (grB O 5)) hlt
   refine⟨_,_,μ++[(true,.lst ((((subs 5).take (j+1)).filter (grB O 5)).map li))],rfl,?_,some (.val (li s)),y7,rfl,rfl⟩
   rw[e1,tM]
   exact k)
  (e:=[some (.val (tb p w rows)),some (.val (.lst ((subs 5).map li))),some (.val t),some (.val (.lst ((FF O).map li))),some (.val (.lst ((LL O 5).map li))),some (.cel μ.length),none,none]) (μ:=μ++[(true,.lst [])]) ⟨none,none,rfl,rfl⟩
 rw[List.length_map,List.take_length,show List.filter (grB O 5) (subs 5)=GG O 5 from rfl] at hf
 have f1:bC [.val (tb p w rows),.val (.int 5)] (μ++[(true,T.lst ((GG O 5).map li))])=.ok (.val (rS O 5)) (μ++[(true,T.lst ((GG O 5).map li))]):=by
  have f1:=vj H (n:=5) (by omega) (Nat.lt_of_le_of_lt (List.length_filter_le _ _) hlen) (Nat.lt_of_le_of_lt (List.length_filter_le _ _) hlen) (μ++[(true,T.lst ((GG O 5).map li))])
  rw[show ow p w rows=O by rw[hOO];exact funext hO] at f1
  exact f1
 have r2:(μ++[(true,T.lst ((GG O 5).map li))])[μ.length]?=some (true,T.lst ((GG O 5).map li)):=by simp
 have rt:(μ++[(true,T.lst ((GG O 5).map li))]).take μ.length=μ:=by simp
 unfold cy
 rw[eF,o5,l6]
 unfold fO
 simp?! only[hsz,e0]
 rw[l7]
 unfold fP
 simp?! only[PH,e1]
 rw[l9]
 unfold fQ
 simp?! only[]
 rw[l_,show fR=bY (aY (aa 1)) (aw 6) grS from rfl]
 simp?! only[hf]
 rw[ma]
 unfold fS
 have f3:fEq (rS O 5) (.tup [.lst ((srt (LL O 5)).map li),.lst ((srt (GG O 5)).map li)])=some (.bl true):=f3
 generalize μ++[(true,T.lst ((GG O 5).map li))]=M at r2 rt f1 ⊢
 generalize rS O 5=Du at f1 f3
 generalize tb p w rows=u at *
 simp?! only[f1,r2,s1,s2,f3,rt]
open Fw.k33 (ow kM rest dz)
theorem rj(μ:af):cR [.val (.int 5)] μ=.ok (.val (.lst ((subs 5).map li))) μ:=k33.rj (n:=5) (by omega) μ
theorem Bm(l:List Int)(hl:∀q∈l,gg q)(i:Int)(h0:0≤i)(h1:i<l.length):∃p,gg p∧atI (l.map T.int) i=some (.int p) :=
 ⟨_,hl _ (List.getElem_mem (by omega)),ji (xs:=l) (f:=T.int) h0 h1⟩
theorem PJ(c:Int)(μ:af):∃p,gg p∧iZ [.val (.int c)] μ=.ok (.val (.int p)) μ:=by
 have a0:=Int.emod_nonneg (c / 48) (show(4:Int)≠0 by omega)
 have a1:=Int.emod_lt_of_pos (c / 48) (show(0:Int)<4 by omega)
 have b0:=Int.emod_nonneg c (show(6:Int)≠0 by omega)
 have b1:=Int.emod_lt_of_pos c (show(0:Int)<6 by omega)
 obtain⟨p1,P1,e1⟩:=Bm [17,31,61,97] (by unfold gg;decide) (c / 48%4) a0 (by show c / 48%4<4;omega)
 obtain⟨p2,P2,e2⟩:=Bm [5,5,7,7,11,13] (by unfold gg;decide) (c%6) b0 (by show c%6<6;omega)
 simp only[List.map_cons,List.map_nil] at e1 e2
 unfold iZ wz
 cases hq:(c / 6%8==5) with
 | true=>exact⟨p1,P1,by simp?! only[hq,e1]⟩
 | false=>exact⟨p2,P2,by simp?! only[hq,e2]⟩
def stB:DS:=(ar (ay 9 (ak (cal (bf 8)) [(aa 2),(aa 8)]))
 (ar (sIf (dOr (ah fNe (ax (ak (cal b3) [(aa 3),(aa 8)]) (dC (.int 0))) (ax (bD [(dC (.str "shut")),(dC (.str "open"))]) (dUn nJ (aa 9)))) (ah fNe (ak (cal (fj 8)) [(aa 2),(aa 8)]) (aa 9))) (aA (dC (.bl false))) bA)
 (ar (ay 10 (aF (aQ (gz (aa 5))) [none,some 5,some 8,some 3] (aw 0) (dC (.bl true)) (ax (bD [(dC (.non)),(ax (aa 1) (aa 0))]) (dUn nJ (ah fIn (ax (ax (ax (aa 3) (dC (.int 2))) (aa 0)) (dC (.int 0))) (aa 2))))))
 (ar (ay 11 (ak (cal kY) [(aa 3),(aa 10)]))
 (ar (sIf (dOr (ij (aa 9) (ah fNe (uf (aa 11) none (some (dC (.int 2)))) (cV [(dC (.str "one")),(ax (aa 4) (dC (.int 0)))]))) (ij (p8 (aa 9)) (ah fNe (ax (aa 11) (dC (.int 0))) (dC (.str "any"))))) (aA (dC (.bl false))) bA)
 (sIf (ah fNe (ak (cal dF) [(aa 3),(dC (.int 5)),(aa 8)]) (ak (cal (fj 8)) [(aa 6),(aa 8)])) (aA (dC (.bl false))) bA))))))
theorem zC(i:Int):okT 100 (.tup [.str "one",.int i])=true:=by
 rw[zS,iL,iL,mD,zR]
 unfold okT;decide +kernel
theorem zD(n:Nat)(x:Str)(h:x="open"∨x="shut"∨x="any"):okT n (.str x)=true:=by
 rcases h with rfl|rfl|rfl<;>(unfold okT;decide +kernel)
theorem ne_str(x:Str)(h:x="open"∨x="shut"∨x="any"):fNe (.str x) (.str x)=some (.bl false):=by
 rw[ue (zD 100 x h) (zD 100 x h),j7 100 _ (zD 100 x h)];rfl
theorem Jj{p:Int}{w:Nat}{rows:Rows}(H:Tbl p w rows){d:Nat}{t:T}(R:Ru 5 d t)(hd:d≤5)(hO:∀S,ow p w rows S=b9 S d t){fs:List Int}(hf:Rw p w fs)(s:List Int)(x0 x1 x7 x9 x10 x11:Option SV)(μ:af) :
  ∃y9 y10 y11,stB [x0,x1,some (.val t),some (.val (tb p w rows)),some (.val (tu fs)),some (.val (li (parts p rows fs))),some (.val (trn d t)),x7,some (.val (li s)),x9,x10,x11] μ=.nx [x0,x1,some (.val t),some (.val (tb p w rows)),some (.val (tu fs)),some (.val (li (parts p rows fs))),some (.val (trn d t)),x7,some (.val (li s)),y9,y10,y11] μ:=by
 have hb:=H.pr.pos
 have hw0:=H.w0
 have hn:=H.n
 have hv:Rw p rows.length (parts p rows fs):=K.xj (by omega) rows fs
 have hvl:=hv.1
 have e1:=tP R.r hd μ s
 have e2:=xq R.r hd μ s
 have e3:=Gs (p:=p) (w:=w) (rows:=rows) s (parts p rows fs) hv μ
 have rv:c_ ((parts p rows fs).length:Int)=true:=dN (by omega) (by omega)
 have lv:(bL 0 (parts p rows fs).length).length≤szL:=by rw[cD];unfold szL;omega
 have ll:ny μ (.val (li (parts p rows fs)))=some (.int ((parts p rows fs).length:Int)):=(Oq μ _).len
 have e5:=vk H (n:=5) (by omega) s μ
 rw[hO] at e5
 have e5:dF [.val (tb p w rows),.val (.int 5),.val (li s)] μ=.ok (.val (.bl (!b9 (rest 5 s) d t))) μ:=e5
 have e6:=xq (Ma d t R.r) hd μ s
 rw[zy R (by omega)] at e6
 have f0:atI (fs.map T.int) 0=some (.int (g fs 0)):=by rw[atg (by omega) (by rw[hf.1];omega)];rfl
 have i0:∀(x y:T) (μ:af),iM μ (.val (.tup [x,y])) (.int 0)=some (.val x):=λ_ _ _=>rfl
 have fb1:nJ (.bl true)=some (.int 1):=rfl
 have fb0:nJ (.bl false)=some (.int 0):=rfl
 have at1:atI [T.str "shut",T.str "open"] 1=some (.str "open"):=rfl
 have at0:atI [T.str "shut",T.str "open"] 0=some (.str "shut"):=rfl
 have nt:fNe (.bl true) (.bl true)=some (.bl false):=rfl
 have nf:fNe (.bl false) (.bl false)=some (.bl false):=rfl
 rcases Jg H hf s μ with ⟨ho,ms,e4⟩|⟨ho,tv,e4⟩
 ·have p5:b9 s d t=true:=by rw[← hO];exact(kM s).mpr ho
  rw[p5] at e1 e2
  obtain⟨ms',h1⟩:∃u,b3 [.val (tb p w rows),.val (li s)] μ=.ok (.val (.tup [.str "open",u])) μ:=by
   rcases xt H s μ with ⟨tv,h1,_,h3,h4⟩|⟨ms,h1,_⟩
   ·exact absurd ho (pR H h3 h4)
   ·exact⟨_,h1⟩
  have n1:=ne_str "open" (.inl rfl)
  have c1:Hj (.tup [.str "one",.int (g fs 0),li ms]) none (some 2)=some (.tup [.str "one",.int (g fs 0)]):=rfl
  have n2:fNe (.tup [.str "one",.int (g fs 0)]) (.tup [.str "one",.int (g fs 0)])=some (.bl false):=by
   rw[ue (zC _) (zC _),j7 100 _ (zC _)];rfl
  refine⟨some (.val (.bl true)),some (.val (.lst ((cB rows s (parts p rows fs)).map sT))),some (.val (.tup [.str "one",.int (g fs 0),li ms])),?_⟩
  have fx:fNe (.bl (!b9 (rest 5 s) d t)) (.bl (!b9 (rest 5 s) d t))=some (.bl false):=by rw[Bh,beq_self_eq_true];rfl
  generalize b9 (rest 5 s) d t=f at *
  generalize tb p w rows=u at *
  generalize cB rows s (parts p rows fs)=sn at *
  generalize parts p rows fs=ps at *
  generalize li ms=lm at *
  unfold stB
  simp?! only[e1,h1,i0,fb1,at1,n1,e2,nt,nf,ll,rv,Int.toNat_natCast,lv,e3,e4,c1,f0,n2,e5,e6,fx]
 ·have p5:b9 s d t=false:=by
   rw[← hO]
   cases e:ow p w rows s with
   | true=>exact absurd ((kM s).mp e) ho
   | false=>rfl
  rw[p5] at e1 e2
  obtain⟨ms',h1⟩:∃u,b3 [.val (tb p w rows),.val (li s)] μ=.ok (.val (.tup [.str "shut",u])) μ:=by
   rcases xt H s μ with ⟨tv,h1,_⟩|⟨ms,h1,h2,h3⟩
   ·exact⟨_,h1⟩
   ·exact absurd ⟨ms,h2.1,h3⟩ ho
  have n1:=ne_str "shut" (.inr (.inl rfl))
  have n2:=ne_str "any" (.inr (.inr rfl))
  refine⟨some (.val (.bl false)),some (.val (.lst ((cB rows s (parts p rows fs)).map sT))),some (.val (.tup [.str "any",tu tv])),?_⟩
  have fx:fNe (.bl (!b9 (rest 5 s) d t)) (.bl (!b9 (rest 5 s) d t))=some (.bl false):=by rw[Bh,beq_self_eq_true];rfl
  generalize b9 (rest 5 s) d t=f at *
  generalize tb p w rows=u at *
  generalize cB rows s (parts p rows fs)=sn at *
  generalize parts p rows fs=ps at *
  generalize tu tv=lm at *
  unfold stB
  simp?! only[e1,h1,i0,fb0,at0,n1,e2,nt,nf,ll,rv,Int.toNat_natCast,lv,e3,e4,n2,e5,e6,fx]
theorem holds(ns:List Int)(hl:ns.length≤63):∃μ',nU [.val (.lst (ns.map T.int))] []=.ok (.val (.bl true)) μ':=by
 obtain⟨c0,hc0⟩:=kT ns 0 [] (by decide) (by decide)
 obtain⟨p,hP,hp⟩:=PJ c0 []
 have hb:=hP.pos
 obtain⟨t,a',R,hc,_,e2⟩:=IZ ns 3 7 (by omega) (by omega) [S2 0 0] 0 0 0 rfl (by omega) (by omega)
 obtain⟨μ2,hμ2⟩:∃μ2,([S2 0 0]:af).set 0 (S2 a' (0+rcn 3 t))=μ2:=⟨_,rfl⟩
 rw[hμ2] at e2
 have e2:cj 8 [.val (.lst (ns.map T.int)),.cel 0,.val (.int 0)] [(true,.lst [.int 0,.int 0])]=.ok (.val t) μ2:=e2
 have e3:=FV (p:=p) (by omega) (by omega) R.r (by omega) (by omega) μ2
 refine⟨[],?_⟩
 show(E_ (starts 12 [.val (.lst (ns.map T.int))]) []).qf 0=_
 rw[LK,Cm]
 unfold yC
 simp?! only[hc0,hp]
 rw[Cn]
 unfold yD
 simp?! only[e2]
 rw[Co]
 unfold yE
 simp?! only[e3]
 rw[Cp]
 unfold yF
 cases hg:good p 3 t with
 | false =>
  have n0:jO .non=some (.bl true):=rfl
  rw[if_neg Bool.false_ne_true]
  simp?! only[n0]
 | true =>
  rw[if_pos rfl]
  unfold good at hg
  rw[Bool.and_eq_true,decide_eq_true_eq,Bool.not_eq_true'] at hg
  obtain⟨hq,hcr⟩:=hg
  have H:=FR hP R.r hq (by omega)
  have hO:=Mq hP R.r hq (by omega) hcr
  generalize tbl p 3 t=rows at H hO ⊢
  generalize hw:1+plc 3 t=w at *
  have n0:jO (tb p w rows)=some (.bl false):=rfl
  have i1:iM μ2 (.val (tb p w rows)) (.int 1)=some (.val (.int (w:Int))):=rfl
  obtain⟨c1,hc1⟩:=kT ns 1 μ2 (by omega) (by omega)
  obtain⟨fs,hfs,hf⟩:=ye c1 p w μ2 (by omega) (by omega) (by have:=H.w1;omega)
  have ht2:bh (li fs)=some (tu fs):=rfl
  have e5:=Je H fs (.val (tu fs)) μ2 rfl
  have e6:=Gp R.r (by omega) μ2
  have e7:=rj μ2
  have hsm:=dz (n:=5) (by omega)
  have hsz:((subs 5).map li).length≤szL:=by rw[List.length_map];unfold szL;omega
  have e9:=rT H R.r (by omega) hO μ2
  obtain⟨e',M',hl,x8,x9,x10,x11,rfl,rfl⟩:=eJ (same:=λ_=>True) (b:=aw 8) (ts:=(subs 5).map li) (body:=stB)
   (I:=λi e M=>∃x8 x9 x10 x11,e=[some (.val (.lst (ns.map T.int))),some (.val (.int p)),some (.val t),some (.val (tb p w rows)),some (.val (tu fs)),some (.val (li (parts p rows fs))),some (.val (trn 3 t)),some (.val (.lst ((subs 5).map li))),x8,x9,x10,x11]∧μ2=M)
   (λ_ _ _ _=>trivial) (λi z e M hz au=>by
    obtain⟨x8,x9,x10,x11,he,hM⟩:=au
    subst he hM
    rw[List.getElem?_map] at hz
    obtain⟨s,_,rfl⟩:=Option.map_eq_some_iff.mp hz
    obtain⟨y9,y10,y11,h⟩:=Jj H R (by omega) hO hf s (some (.val (.lst (ns.map T.int)))) (some (.val (.int p))) (some (.val (.lst ((subs 5).map li)))) x9 x10 x11 μ2
    exact⟨_,_,μ2,rfl,h,some (.val (li s)),y9,y10,y11,rfl,rfl⟩)
   (e:=[some (.val (.lst (ns.map T.int))),some (.val (.int p)),some (.val t),some (.val (tb p w rows)),some (.val (tu fs)),some (.val (li (parts p rows fs))),some (.val (trn 3 t)),some (.val (.lst ((subs 5).map li))),none,none,none,none]) (μ:=μ2) ⟨none,none,none,none,rfl,rfl⟩
  generalize tb p w rows=u at *
  generalize parts p rows fs=ps at *
  simp?! only[n0]
  rw[Cq]
  unfold yG
  simp?! only[hc1,i1,hfs,ht2]
  rw[Cr]
  unfold yH
  have e5:kj [.val u,.val (.tup (fs.map T.int))] μ2=.ok (.val (li ps)) μ2:=e5
  simp?! only[e5]
  rw[Cs]
  unfold yI
  simp?! only[e6]
  rw[Ct]
  unfold yJ
  simp?! only[e7]
  rw[Cu,show yK=bY (aY (aa 7)) (aw 8) stB from rfl]
  simp?! only[hl]
  rw[Cv]
  unfold yL
  simp?! only[e9]
end Fw.k34
open PySem PySem.W PyProof.Rows
namespace PySem.W.Fast
theorem te10773791182813268974 : True := trivial
theorem tw7517938226628475054 : True := trivial
theorem tw18171029244991616147 : True := trivial
theorem tw11125932476571374284 : True := trivial
theorem tw1248187930815049718 : True := trivial
theorem tw10953678831361852791 : True := trivial
theorem tw4370546697126708694 : True := trivial
theorem tw7264853500262039395 : True := trivial
theorem tw1125392446207136934 : True := trivial
theorem tw17641929152505961545 : True := trivial
theorem tw3620457771464774764 : True := trivial
theorem tw16136449210538738665 : True := trivial
theorem tw4752003747704759153 : True := trivial
theorem tw13634001753670908424 : True := trivial
theorem tw17756440988905775234 : True := trivial
theorem tw3086395644712088947 : True := trivial
theorem tw6656744248486904041 : True := trivial
theorem tw14474778033388696429 : True := trivial
theorem tw10789192050227937611 : True := trivial
theorem tw10248511861964943864 : True := trivial
theorem tw16294839356946771491 : True := trivial
theorem tw17384571395001787122 : True := trivial
theorem tw1142700873670707146 : True := trivial
theorem tw7957859775995553953 : True := trivial
theorem tw10715445462575926494 : True := trivial
theorem tw18372806805525807525 : True := trivial
theorem tw11782888293891446064 : True := trivial
theorem tw14504884918739032267 : True := trivial
theorem tw17585841914050731067 : True := trivial
theorem tw10471165775482466253 : True := trivial
theorem tw301060484944656597 : True := trivial
theorem tw11376882090466668498 : True := trivial
theorem tw16944147879937605622 : True := trivial
theorem tw1558917673893664660 : True := trivial
theorem tw4218279135632406076 : True := trivial
theorem tw15429815666755957977 : True := trivial
end PySem.W.Fast
set_option maxRecDepth 100000 in
set_option maxHeartbeats 0 in
theorem PySem.Challenge.cw_fewopen_k34_whole_tables_keep_their_rule_holds : PySem.Challenge.rw_fewopen_k34_whole_tables_keep_their_rule.Holds := by
 w_on;o_law;k_head;(case hw=>w_witness2)
 k_fill
 refine Fw.k34.walk (l:=PySem.Challenge.rw_fewopen_k34_whole_tables_keep_their_rule) rfl rfl Fw.k34.holds (λw h Y=>PySem.W.kIn_of Y) ?F
 case F =>
  intro w mg fa h KX G hmg
  refine' Fw.k34.all_mk KX G hmg ?A0 ?A1 ?A2 ?A3 ?A4 ?A5 ?A6 ?A7 ?A8 ?A9 ?A10 ?A11 ?A12 ?A13 ?A14 ?A15 ?A16 ?A17 ?A18 ?A19 ?A20 ?A21 ?A22 ?A23 ?A24 ?A25 ?A26 ?A27 ?A28 ?A29 ?A30 ?A31 ?A32 ?A33 ?A34 ?A35 ?A36 ?A37 ?A38 ?A39 ?A40 ?A41 ?A42 ?A43 ?z0 ?z1 ?z2 ?z3 ?z4 ?z5 ?z6 ?z7 ?z8 ?z9 ?z10 ?z11 ?z12 ?y0 ?x0 ?x1 ?x2
  (case A0=>refine' Fw.bp ?a ?l ?c ?k;(case a=>k_is);(case l=>k_is);(case c=>k_is);(case k=>k_is))
  (case A1=>refine' Fw.bp ?a ?l ?c ?k;(case a=>k_is);(case l=>k_is);(case c=>k_is);(case k=>k_is))
  (case A2=>refine' Fw.bp ?a ?l ?c ?k;(case a=>k_is);(case l=>k_is);(case c=>k_is);(case k=>k_is))
  (case A3=>refine' Fw.bp ?a ?l ?c ?k;(case a=>k_is);(case l=>k_is);(case c=>k_is);(case k=>k_is))
  (case A4=>refine' Fw.bp ?a ?l ?c ?k;(case a=>k_is);(case l=>k_is);(case c=>k_is);(case k=>k_is))
  (case A5=>refine' Fw.bp ?a ?l ?c ?k;(case a=>k_is);(case l=>k_is);(case c=>k_is);(case k=>k_is))
  (case A6=>refine' Fw.bp ?a ?l ?c ?k;(case a=>k_is);(case l=>k_is);(case c=>k_is);(case k=>k_is))
  (case A7=>refine' Fw.bp ?a ?l ?c ?k;(case a=>k_is);(case l=>k_is);(case c=>k_is);(case k=>k_is))
  (case A8=>refine' Fw.bp ?a ?l ?c ?k;(case a=>k_is);(case l=>k_is);(case c=>k_is);(case k=>k_is))
  (case A9=>refine' Fw.bp ?a ?l ?c ?k;(case a=>k_is);(case l=>k_is);(case c=>k_is);(case k=>k_is))
  (case A10=>refine' Fw.bp ?a ?l ?c ?k;(case a=>k_is);(case l=>k_is);(case c=>k_is);(case k=>k_is))
  (case A11=>refine' Fw.bp ?a ?l ?c ?k;(case a=>k_is);(case l=>k_is);(case c=>k_is);(case k=>k_is))
  (case A12=>refine' Fw.bp ?a ?l ?c ?k;(case a=>k_is);(case l=>k_is);(case c=>k_is);(case k=>k_is))
  (case A13=>refine' Fw.bp ?a ?l ?c ?k;(case a=>k_is);(case l=>k_is);(case c=>k_is);(case k=>k_is))
  (case A14=>refine' Fw.bp ?a ?l ?c ?k;(case a=>k_is);(case l=>k_is);(case c=>k_is);(case k=>k_is))
  (case A15=>refine' Fw.bp ?a ?l ?c ?k;(case a=>k_is);(case l=>k_is);(case c=>k_is);(case k=>k_is))
  (case A16=>refine' Fw.bp ?a ?l ?c ?k;(case a=>k_is);(case l=>k_is);(case c=>k_is);(case k=>k_is))
  (case A17=>refine' Fw.bp ?a ?l ?c ?k;(case a=>k_is);(case l=>k_is);(case c=>k_is);(case k=>k_is))
  (case A18=>refine' Fw.bp ?a ?l ?c ?k;(case a=>k_is);(case l=>k_is);(case c=>k_is);(case k=>k_is))
  (case A19=>refine' Fw.bp ?a ?l ?c ?k;(case a=>k_is);(case l=>k_is);(case c=>k_is);(case k=>k_is))
  (case A20=>refine' Fw.bp ?a ?l ?c ?k;(case a=>k_is);(case l=>k_is);(case c=>k_is);(case k=>k_is))
  (case A21=>refine' Fw.bp ?a ?l ?c ?k;(case a=>k_is);(case l=>k_is);(case c=>k_is);(case k=>k_is))
  (case A22=>refine' Fw.bp ?a ?l ?c ?k;(case a=>k_is);(case l=>k_is);(case c=>k_is);(case k=>k_is))
  (case A23=>refine' Fw.bp ?a ?l ?c ?k;(case a=>k_is);(case l=>k_is);(case c=>k_is);(case k=>k_is))
  (case A24=>refine' Fw.bp ?a ?l ?c ?k;(case a=>k_is);(case l=>k_is);(case c=>k_is);(case k=>k_is))
  (case A25=>refine' Fw.bp ?a ?l ?c ?k;(case a=>k_is);(case l=>k_is);(case c=>k_is);(case k=>k_is))
  (case A26=>refine' Fw.bp ?a ?l ?c ?k;(case a=>k_is);(case l=>k_is);(case c=>k_is);(case k=>k_is))
  (case A27=>refine' Fw.bp ?a ?l ?c ?k;(case a=>k_is);(case l=>k_is);(case c=>k_is);(case k=>k_is))
  (case A28=>refine' Fw.bp ?a ?l ?c ?k;(case a=>k_is);(case l=>k_is);(case c=>k_is);(case k=>k_is))
  (case A29=>refine' Fw.bp ?a ?l ?c ?k;(case a=>k_is);(case l=>k_is);(case c=>k_is);(case k=>k_is))
  (case A30=>refine' Fw.bp ?a ?l ?c ?k;(case a=>k_is);(case l=>k_is);(case c=>k_is);(case k=>k_is))
  (case A31=>refine' Fw.bp ?a ?l ?c ?k;(case a=>k_is);(case l=>k_is);(case c=>k_is);(case k=>k_is))
  (case A32=>refine' Fw.bp ?a ?l ?c ?k;(case a=>k_is);(case l=>k_is);(case c=>k_is);(case k=>k_is))
  (case A33=>refine' Fw.bp ?a ?l ?c ?k;(case a=>k_is);(case l=>k_is);(case c=>k_is);(case k=>k_is))
  (case A34=>refine' Fw.bp ?a ?l ?c ?k;(case a=>k_is);(case l=>k_is);(case c=>k_is);(case k=>k_is))
  (case A35=>refine' Fw.bp ?a ?l ?c ?k;(case a=>k_is);(case l=>k_is);(case c=>k_is);(case k=>k_is))
  (case A36=>refine' Fw.bp ?a ?l ?c ?k;(case a=>k_is);(case l=>k_is);(case c=>k_is);(case k=>k_is))
  (case A37=>refine' Fw.bp ?a ?l ?c ?k;(case a=>k_is);(case l=>k_is);(case c=>k_is);(case k=>k_is))
  (case A38=>refine' Fw.bp ?a ?l ?c ?k;(case a=>k_is);(case l=>k_is);(case c=>k_is);(case k=>k_is))
  (case A39=>refine' Fw.bp ?a ?l ?c ?k;(case a=>k_is);(case l=>k_is);(case c=>k_is);(case k=>k_is))
  (case A40=>refine' Fw.bp ?a ?l ?c ?k;(case a=>k_is);(case l=>k_is);(case c=>k_is);(case k=>k_is))
  (case A41=>refine' Fw.bp ?a ?l ?c ?k;(case a=>k_is);(case l=>k_is);(case c=>k_is);(case k=>k_is))
  (case A42=>refine' Fw.bp ?a ?l ?c ?k;(case a=>k_is);(case l=>k_is);(case c=>k_is);(case k=>k_is))
  (case A43=>refine' Fw.bp ?a ?l ?c ?k;(case a=>k_is);(case l=>k_is);(case c=>k_is);(case k=>k_is))
  (case z0=>k_is)
  (case z1=>k_is)
  (case z2=>k_is)
  (case z3=>k_is)
  (case z4=>k_is)
  (case z5=>k_is)
  (case z6=>k_is)
  (case z7=>k_is)
  (case z8=>k_is)
  (case z9=>k_is)
  (case z10=>k_is)
  (case z11=>k_is)
  (case z12=>k_is)
  (case y0=>k_is)
  (case x0=>k_is)
  (case x1=>k_exc)
  (case x2=>k_is)
