import PyProof.Rows.All
import Wide.All
import OpenK.AllK
import Wide.FinOn
import Lean
import PyProof.EqAt
import PyProof.EqKinds
import PyProof.TupleCall
import PyProof.StationsW
import PyProof.ExcClass3
import PyProof.ExcInit
import PyProof.ExcBaseAll.ValueError
import OpenK.KOwn
import PyProof.FString
import PyProof.FitsInt
import PyProof.RulesDel
import PyProof.RulesAs
import PyProof.ExcAttrAll.ValueError
import KE.KIsAll
import PyProof.SetKind
import PyProof.DictKinds
import PyProof.CompFree
import PyProof.FactsAll.set_1
import PyProof.Seq
import PyProof.Walks
import PyProof.CollectWalk
import PyProof.WalkLemmas
import PyProof.Rows.TmSorted
import PyProof.Rows.StrMeet
import PyProof.Rows.SortStr
import PyProof.Rows.SetFrom
import KE.KDictList
import PyProof.NeKinds
import PyProof.Rows.TupDisplay
import PyProof.StrOps2
import PyProof.StrBlockH
import PyProof.WalksEnum
import PyProof.EnumMake
import KE.KEqDict
import KE.KRevIter
import PyProof.StrCalls2
import PyProof.StrLawsTight
import KE.KRevSl
import PyProof.StrLawsFirst
import PyProof.ZipIter
import PyProof.ListRange
import KE.KItemsList
import KE.BitLaws
import KE.KDictOf
import PySem.Challenge.RW_unfoldnet_k92_whole_poured
set_option Elab.async false
set_option linter.all false
set_option maxRecDepth 100000
set_option maxHeartbeats 8000000
section
namespace L2
open PySem PySem.Spec PyProof.Rows
abbrev Key:=Sum Int Str
def lU:Key→Value→Bool
 | .inl k,v=>Value.isInt k v
 | .inr x,v=>Value.isStrOf x v
def EX(w:World):Key→Int
 | .inl k=>hashInt k
 | .inr x=>hashStr w x
theorem cb:∀ {k:Key} {v:Value},lU k v=true→(∃ i t,k=Sum.inl i∧v=Value.int i t)∨(∃ x t,k=Sum.inr x∧v=Value.str x t)
 | .inl i,v,h=>by
  obtain⟨t,e⟩:=Value.isInt_shape (k:=i) (v:=v) h
  exact .inl ⟨i,t,rfl,e⟩
 | .inr x,v,h=>by
  obtain⟨t,e⟩:=Value.isStrOf_shape (x:=x) (v:=v) h
  exact .inr ⟨x,t,rfl,e⟩
theorem vz(i:Int)(t:Tok):lU (.inl i) (.int i t)=true:=by simp [lU,Value.isInt]
theorem vF(x:Str)(t:Tok):lU (.inr x) (.str x t)=true:=by simp [lU,Value.isStrOf]
theorem Bo(a b:Int):decide ((Sum.inl a:Key)=Sum.inl b)=(a==b):=by
 by_cases e:a=b
 ·subst e;simp
 ·have h:¬(Sum.inl a:Key)=Sum.inl b:=fun q=>e (Sum.inl.inj q)
  rw [decide_eq_false h]
  exact(beq_eq_false_iff_ne.mpr e).symm
theorem Bu(a b:Str):decide ((Sum.inr a:Key)=Sum.inr b)=decide (a=b):=by
 by_cases e:a=b
 ·subst e;simp
 ·have h:¬(Sum.inr a:Key)=Sum.inr b:=fun q=>e (Sum.inr.inj q)
  rw [decide_eq_false h,decide_eq_false e]
theorem Cj(a:Int)(b:Str):decide ((Sum.inl a:Key)=Sum.inr b)=false:=decide_eq_false (fun q=>nomatch q)
theorem BW(a:Str)(b:Int):decide ((Sum.inr a:Key)=Sum.inl b)=false:=decide_eq_false (fun q=>nomatch q)
def bU(prog:Program)(w:World):PySem.KeyKind prog w Key where
 is:=lU
 hash:=EX w
 inj:=fun v a b ha hb=>by
  rcases cb ha with⟨i,t,rfl,rfl⟩ | ⟨x,t,rfl,rfl⟩
  ·rcases cb hb with⟨j,u,rfl,e⟩ | ⟨y,u,rfl,e⟩
   ·injection e with e1 _;rw [e1]
   ·exact nomatch e
  ·rcases cb hb with⟨j,u,rfl,e⟩ | ⟨y,u,rfl,e⟩
   ·exact nomatch e
   ·injection e with e1 _;rw [e1]
 byValue:=fun k v h=>by
  rcases cb h with⟨i,t,rfl,rfl⟩ | ⟨x,t,rfl,rfl⟩ <;> rfl
 pyHash:=fun hv h=>by
  rcases cb hv with⟨i,t,rfl,rfl⟩ | ⟨x,t,rfl,rfl⟩
  ·exact wpAny_pyHash_int h
  ·exact wpAny_pyHash_str h
 eqBool:=fun hu hv h=>by
  rcases cb hu with⟨i,t,rfl,rfl⟩ | ⟨x,t,rfl,rfl⟩
  ·rcases cb hv with⟨j,u,rfl,rfl⟩ | ⟨y,u,rfl,rfl⟩
   ·rw [Bo] at h;exact wpAny_eqBool_int h
   ·rw [Cj] at h;exact SeqAt.EqAt.int_str i t y u _ _ _ _ h
  ·rcases cb hv with⟨j,u,rfl,rfl⟩ | ⟨y,u,rfl,rfl⟩
   ·rw [BW] at h;exact SeqAt.EqAt.str_int x t j u _ _ _ _ h
   ·rw [Bu] at h;exact wpAny_eqBool_str h
 «strs»:=fun k x t v h=>by
  rcases cb h with⟨i,u,rfl,e⟩ | ⟨y,u,rfl,e⟩
  ·exact nomatch e
  ·injection e with e1 _
   subst e1
   cases v <;> rfl
theorem lP(prog:Program)(w:World)(k:Key)(v:Value):(bU prog w).is k v=lU k v:=rfl
theorem rK(prog:Program)(w:World)(i:Int)(t:Tok):(bU prog w).is (.inl i) (.int i t)=true:=vz i t
theorem rR(prog:Program)(w:World)(x:Str)(t:Tok):(bU prog w).is (.inr x) (.str x t)=true:=vF x t
end L2
namespace L2
open PySem PySem.Spec PyProof.Rows
inductive V where
 | non | bl (b:Bool) | int (i:Int) | str (x:Str) | byt (b:Array UInt8) | flt (b:UInt64) | ref (a:Addr) | ty (n:String)
 deriving DecidableEq
def RelV:V→Value→Prop
 | .non,u=>u=Value.none
 | .bl b,u=>u=Value.bool b
 | .int i,u=>∃ t,u=Value.int i t
 | .str x,u=>∃ t,u=Value.str x t
 | .byt b,u=>∃ t,u=Value.bytes b t
 | .flt b,u=>∃ t,u=Value.float b t
 | .ref a,u=>u=Value.ref a
 | .ty n,u=>u=Value.type n
abbrev Vals:List V→List Value→Prop:=Paired RelV
theorem Vals.length{xs:List V}{us:List Value}(r:Vals xs us):xs.length=us.length:=Paired.length r
theorem Vals.get:∀ {xs:List V} {us:List Value} {i:Nat} {x:V},Vals xs us→xs[i]?=some x→∃ u,us[i]?=some u∧RelV x u
 | _,_,_,_,.nil,e=>by simp at e
 | _,_,0,_,.cons r _,e=>by simp at e;subst e;exact⟨_,rfl,r⟩
 | _,_,i+1,x,.cons _ t,e=>by
  obtain⟨u,h1,h2⟩:=Vals.get (i:=i) (x:=x) t (by simpa using e)
  exact⟨u,by simpa using h1,h2⟩
theorem Vals.set{x:V}{u:Value}(r:RelV x u):∀ {xs:List V} {us:List Value} (i:Nat),Vals xs us→Vals (xs.set i x) (us.set i u)
 | _,_,_,.nil=>.nil
 | _,_,0,.cons _ t=>.cons r t
 | _,_,i+1,.cons q t=>.cons q (Vals.set r i t)
theorem Vals.append:∀ {xs ys:List V} {us ws:List Value},Vals xs us→Vals ys ws→Vals (xs++ys) (us++ws)
 | _,_,_,_,.nil,s=>s
 | _,_,_,_,.cons r t,s=>.cons r (Vals.append t s)
theorem Vals.take:∀ {xs:List V} {us:List Value} (n:Nat),Vals xs us→Vals (xs.take n) (us.take n)
 | _,_,0,_=>.nil
 | _,_,_+1,.nil=>.nil
 | _,_,n+1,.cons r t=>.cons r (Vals.take n t)
theorem Vals.drop:∀ {xs:List V} {us:List Value} (n:Nat),Vals xs us→Vals (xs.drop n) (us.drop n)
 | _,_,0,r=>r
 | _,_,_+1,.nil=>.nil
 | _,_,n+1,.cons _ t=>Vals.drop n t
def fZ:Option V→Option Value→Prop
 | some v,some u=>RelV v u
 | none,none=>True
 | _,_=>False
def KV{κ:Type}:List (κ × V)→List (κ × Value)→Prop:=Paired fun(p:κ × V) (q:κ × Value)=>p.1=q.1∧RelV p.2 q.2
def kV:Key→V
 | .inl i=>.int i
 | .inr x=>.str x
inductive HO where
 | lst (xs:List V)
 | tup (xs:List V)
 | dK (kvs:List (Key × V)) | dT (kvs:List (List Key × V))
 | set (S:Int→Bool) (n:Nat)
 | ins (C dx:Addr) (fs:List (Str × V))
 | own (x:Addr)
 | xd (fs:List (Str × V))
 | met (f x:Addr)
 | rng (lo hi:Int)
 | frz (o:Obj) (u:HO)
 | tbl (ps:Array Value)
 | ext (φ:Heap→Prop)
abbrev Hp:=Addr→Option HO
def upd(H:Hp)(a:Addr)(o:HO):Hp:=fun b=>if b=a then some o else H b
theorem ae{H:Hp}{a:Addr}{o:HO}:upd H a o a=some o:=by unfold upd;rw [if_pos rfl]
theorem ar{H:Hp}{a b:Addr}{o:HO}(h:b≠a):upd H a o b=H b:=by unfold upd;rw [if_neg h]
theorem cv{H:Hp}{a b:Addr}{o u:HO}(h:H a=some o)(h':H b=some u)(d:o≠u):a≠b:=by
 intro e;subst e;rw [h] at h';exact d (Option.some.inj h')
theorem ay{H:Hp}{a b:Addr}{o:HO}(h:H a=some o)(h':H b=none):a≠b:=by
 intro e;subst e;rw [h] at h';cases h'
section
variable (P:Program)(w:World)
def bO(H:Hp)(h:Heap)(a:Addr):HO→Prop
 | .lst xs=>xs.length≤sizeLine∧∃ (its:List Value) (n:Nat),Vals xs its∧h.get? a=some { cls:=.type "list",data:=.seq its.toArray n }
 | .tup xs=>xs.length≤sizeLine∧∃ its:List Value,Vals xs its∧IsTup h a its.toArray
 | .dK kvs=>kvs.length≤sizeLine∧(a==sysModules)=false∧∃ vs,KV kvs vs∧h.DictOf (bU P w) a vs
 | .dT kvs=>kvs.length≤sizeLine∧(a==sysModules)=false∧∃ xs:List (List Key × Addr × Value),
   Paired (fun(p:List Key × V) (q:List Key × Addr × Value)=>p.1=q.1∧H q.2.1=some (.tup (p.1.map kV))∧RelV p.2 q.2.2) kvs xs ∧
   ∃ o es ep,h.get? a=some o∧o.ExactDict∧o.data=.dict es ep∧es.toList=xs.map (entryOfKey (tupleKind (bU P w)))∧(xs.map (·.1)).Nodup
 | .set S n=>h.SetOf (intKind P w) a S n
 | .ins C dx fs=>H dx=some (.own a)∧fs.length≤1000∧dx≠a∧h.get? a=some (PySem.W.instObj C dx) ∧
   ∃ mA,h.Ns1 dx mA∧(∀ f,fZ (fs.lookup f) (mA f))∧PySem.Within mA (fs.map (·.1))
 | .own _=>∃ o,h.get? a=some o
 | .xd fs=>∃ mA,h.Ns1 a mA∧∀ f,fZ (fs.lookup f) (mA f)
 | .rng lo hi=>∃ t u v,h.get? a=some { cls:=.type "range",data:=.fields #[.int lo t,.int hi u,.int 1 v] }
 | .frz o u=>h.get? a=some o∧bO H h a u
 | .tbl ps=>h.get? a=some { cls:=.none,data:=.fields ps }
 | .met f x=>h.get? a=some (PySem.W.methodObj (.ref f) (.ref x))
 | .ext φ=>φ h∧(∃ o,h.get? a=some o)∧∀ h1 h2:Heap,φ h1→(∀ o,h1.get? a=some o→h2.get? a=some o)→φ h2
def iU(H:Hp)(h:Heap):Prop:=∀ a o,H a=some o→bO P w H h a o
end
section
variable {P:Program}{w:World}{H H':Hp}{h h':Heap}{a:Addr}{o:HO}
theorem bO.lt(x:bO P w H h a o):a<h.objs.size:=by
 cases o with
 | lst xs=>obtain⟨_,_,_,_,e⟩:=x;exact Heap.lt_size e
 | tup xs=>obtain⟨_,_,_,p⟩:=x;exact p.lt
 | dK kvs=>obtain⟨_,_,_,_,o,_,_,e,_⟩:=x;exact Heap.lt_size e
 | dT kvs=>obtain⟨_,_,_,_,o,_,_,e,_⟩:=x;exact Heap.lt_size e
 | set S n=>obtain⟨o,_,_,_,e,_⟩:=x;exact Heap.lt_size e
 | ins C dx fs=>obtain⟨_,_,_,e,_⟩:=x;exact Heap.lt_size e
 | own y=>obtain⟨_,e⟩:=x;exact Heap.lt_size e
 | xd fs=>obtain⟨_,⟨_,_,_,e,_⟩,_⟩:=x;exact Heap.lt_size e
 | rng lo hi=>obtain⟨_,_,_,e⟩:=x;exact Heap.lt_size e
 | frz ob u=>obtain⟨e,_⟩:=x;exact Heap.lt_size e
 | tbl ps=>exact Heap.lt_size (show h.get? a=some _ from x)
 | met f y=>exact Heap.lt_size (show h.get? a=some _ from x)
 | ext φ=>obtain⟨_,⟨_,e⟩,_⟩:=x;exact Heap.lt_size e
theorem Paired.il{α β:Type}{F G:α→β→Prop}:∀ {l₁:List α} {l₂:List β},Paired F l₁ l₂→(∀ a b,F a b→G a b)→Paired G l₁ l₂
 | _,_,.nil,_=>.nil
 | _,_,.cons r t,f=>.cons (f _ _ r) (Paired.il t f)
theorem bO.iy(x:bO P w H h a o)(k:∀ b u,(b=a∨H b=some (.own a))→h.get? b=some u→h'.get? b=some u)
  (ho:∀ b,H b=some (.own a)→H' b=some (.own a)) (ht:∀ b xs,H b=some (.tup xs)→H' b=some (.tup xs)):bO P w H' h' a o:=by
 induction o with
 | lst xs=>obtain⟨z,its,n,r,e⟩:=x;exact⟨z,its,n,r,k _ _ (.inl rfl) e⟩
 | tup xs=>obtain⟨z,its,r,ob,e,c⟩:=x;exact⟨z,its,r,ob,k _ _ (.inl rfl) e,c⟩
 | dK kvs=>obtain⟨z,y,vs,r,ob,es,ep,e,c⟩:=x;exact⟨z,y,vs,r,ob,es,ep,k _ _ (.inl rfl) e,c⟩
 | dT kvs =>
  obtain⟨z,y,xs,r,ob,es,ep,e,c⟩:=x
  exact⟨z,y,xs,Paired.il r fun p q z=>⟨z.1,ht _ _ z.2.1,z.2.2⟩,ob,es,ep,k _ _ (.inl rfl) e,c⟩
 | set S n=>obtain⟨ob,es,ep,t,e,c⟩:=x;exact⟨ob,es,ep,t,k _ _ (.inl rfl) e,c⟩
 | ins C dx fs =>
  obtain⟨d,z,ne,e,mA,⟨od,es,ep,e2,c⟩,r⟩:=x
  exact⟨ho _ d,z,ne,k _ _ (.inl rfl) e,mA,⟨od,es,ep,k _ _ (.inr d) e2,c⟩,r⟩
 | own y=>obtain⟨ob,e⟩:=x;exact⟨ob,k _ _ (.inl rfl) e⟩
 | xd fs=>obtain⟨mA,⟨od,es,ep,e,c⟩,r⟩:=x;exact⟨mA,⟨od,es,ep,k _ _ (.inl rfl) e,c⟩,r⟩
 | rng lo hi=>obtain⟨t,u,v,e⟩:=x;exact⟨t,u,v,k _ _ (.inl rfl) e⟩
 | frz ob u ih=>obtain⟨e,q⟩:=x;exact⟨k _ _ (.inl rfl) e,ih q⟩
 | tbl ps =>
  have e:h.get? a=some { cls:=.none,data:=.fields ps }:=x
  show h'.get? a=some { cls:=.none,data:=.fields ps }
  exact k a _ (.inl rfl) e
 | met f y =>
  have e:h.get? a=some (PySem.W.methodObj (.ref f) (.ref y)):=x
  show h'.get? a=some (PySem.W.methodObj (.ref f) (.ref y))
  exact k a _ (.inl rfl) e
 | ext φ=>obtain⟨p,⟨o,e⟩,st⟩:=x;exact⟨st _ _ p fun o q=>k _ _ (.inl rfl) q,⟨o,k _ _ (.inl rfl) e⟩,st⟩
theorem iU.lt(x:iU P w H h)(e:H a=some o):a<h.objs.size:=(x a o e).lt
theorem iU.fresh(x:iU P w H h)(e:h.objs.size≤a):H a=none:=by
 cases q:H a with
 | none=>rfl
 | some u=>exact absurd (Nat.lt_of_lt_of_le (x.lt q) e) (Nat.lt_irrefl _)
theorem iU.kept(x:iU P w H h)(k:∀ b u,h.get? b=some u→h'.get? b=some u):iU P w H h':=fun a o e =>
 (x a o e).iy (fun b u _ q=>k b u q) (fun _ q=>q) fun _ _ q=>q
theorem iU.laid(x:iU P w H h)(k:∀ b u,h.get? b=some u→h'.get? b=some u)(hp:h.objs.size≤a)(new:bO P w (upd H a o) h' a o):iU P w (upd H a o) h':=fun b u e=>by
 have hn:=x.fresh hp
 by_cases hb:b=a
 ·subst hb;rw [ae] at e;cases e;exact new
 ·rw [ar hb] at e
  exact(x b u e).iy (fun c v _ q=>k c v q) (fun c q=>by rw [ar (ay q hn)];exact q) fun c xs q=>by rw [ar (ay q hn)];exact q
end
def Rd(H:Hp)(a:Addr)(u:HO):Prop:=H a=some u∨∃ o,H a=some (.frz o u)
theorem Rd.ok{P:Program}{w:World}{H:Hp}{h:Heap}{a:Addr}{u:HO}(r:Rd H a u)(x:iU P w H h):bO P w H h a u:=by
 rcases r with r | ⟨o,r⟩
 ·exact x a u r
 ·obtain⟨_,q⟩:=x a _ r
  exact q
def C9:Option HO→Prop
 | some (.lst _)=>True
 | some (.dK _)=>True
 | some (.dT _)=>True
 | some (.set _ _)=>True
 | some (.ins _ _ _)=>True
 | some (.ext _)=>True
 | _=>False
section
variable {P:Program}{w:World}{H:Hp}{h h':Heap}{x e:Addr}{o':HO}
theorem iU.write(ok:iU P w H h)(mu:C9 (H x))(he:e=x∨H e=some (.own x))(k:∀ b u,b≠e→h.get? b=some u→h'.get? b=some u)(heo:∃ u,h'.get? e=some u)
  (new:bO P w (upd H x o') h' x o'):iU P w (upd H x o') h':=fun b u q=>by
 have nown:∀ c y,H c=some (.own y)→c≠x:=fun c y r z=>by subst z;rw [r] at mu;exact mu
 have ntup:∀ c xs,H c=some (.tup xs)→c≠x:=fun c xs r z=>by subst z;rw [r] at mu;exact mu
 by_cases hb:b=x
 ·subst hb;rw [ae] at q;cases q;exact new
 ·rw [ar hb] at q
  by_cases hbe:b=e
  ·have q':H b=some (.own x):=by
    rcases he with z | z
    ·exact absurd (hbe.trans z) hb
    ·rw [hbe];exact z
   rw [q] at q';cases q'
   obtain⟨v,hv⟩:=heo
   exact⟨v,by rw [hbe];exact hv⟩
  ·refine(ok b u q).iy (fun c v hc r=>k c v ?_ r) (fun c r=>by rw [ar (nown c b r)];exact r) fun c xs r=>by rw [ar (ntup c xs r)];exact r
   rcases hc with rfl | hc
   ·exact hbe
   ·rintro rfl
    rcases he with z | z
    ·exact nown c b hc z
    ·rw [hc] at z;cases z;exact hb rfl
end
structure Un(fs ex:List Addr)(H H':Hp)(h h':Heap):Prop where
 keep:∀ b o,h.get? b=some o→H b=none→b∉fs→b∉ex→h'.get? b=some o
 slot:∀ b o,h.get? b=some o→H b=none→b∈fs→b∉ex→∃ sl,h'.get? b=some { o with slots:=sl }
 free:∀ b o,h.get? b=some o→H b=none→b∉ex→H' b=none
 there:∀ b o,h.get? b=some o→b∉ex→∃ o',h'.get? b=some o'
 iK:∀ b xs,H b=some (.tup xs)→H' b=some (.tup xs)
 frzs:∀ b o u,H b=some (.frz o u)→H' b=some (.frz o u)
 tbls:∀ b ps,H b=some (.tbl ps)→∃ more,H' b=some (.tbl (ps++more))
section
variable {fs fs' ex ex':List Addr}{H H1 H2:Hp}{h h1 h2 h':Heap}{a x e:Addr}{o:HO}
theorem Un.any(u:Un fs ex H H1 h h1){b:Addr}{ob:Obj}(q:h.get? b=some ob)(n:H b=none)(hx:b∉ex):∃ sl,h1.get? b=some { ob with slots:=sl }:=by
 by_cases hb:b∈fs
 ·exact u.slot b ob q n hb hx
 ·exact⟨ob.slots,u.keep b ob q n hb hx⟩
theorem Un.kept(k:∀ b u,h.get? b=some u→h'.get? b=some u):Un fs ex H H h h' :=
 ⟨fun b ob q _ _ _=>k b ob q,fun b ob q _ _ _=>⟨ob.slots,k b ob q⟩,fun _ _ _ n _=>n,fun b ob q _=>⟨ob,k b ob q⟩,fun _ _ q=>q,fun _ _ _ q=>q,fun _ ps q=>⟨#[],by rw [q];simp⟩⟩
theorem Un.refl:Un fs ex H H h h:=Un.kept fun _ _ q=>q
theorem Un.laid(k:∀ b u,h.get? b=some u→h'.get? b=some u)(hp:h.objs.size≤a)(hn:H a=none):Un fs ex H (upd H a o) h h' where
 keep:=fun b u q _ _ _=>k b u q
 slot:=fun b u q _ _ _=>⟨u.slots,k b u q⟩
 free:=fun b u q n _=>by rw [ar (Nat.ne_of_lt (Nat.lt_of_lt_of_le (Heap.lt_size q) hp))];exact n
 there:=fun b u q _=>⟨u,k b u q⟩
 iK:=fun b xs q=>by rw [ar (ay q hn)];exact q
 frzs:=fun b u xs q=>by rw [ar (ay q hn)];exact q
 tbls:=fun b ps q=>⟨#[],by rw [ar (ay q hn),q];simp⟩
theorem Un.write(mu:C9 (H x))(he:e=x∨H e=some (.own x))(k:∀ b u,b≠e→h.get? b=some u→h'.get? b=some u)(heo:∃ u,h'.get? e=some u):Un fs ex H (upd H x o) h h':=by
 have hx:∀ b,H b=none→b≠x:=fun b n z=>by subst z;rw [n] at mu;exact mu
 have hb:∀ b,H b=none→b≠e:=fun b n z=>by
  subst z
  rcases he with r | r
  ·exact hx b n r
  ·rw [n] at r;cases r
 have hm:∀ b u,H b=some u→¬ C9 (some u)→b≠x:=fun b u q nm z=>by subst z;rw [q] at mu;exact nm mu
 refine⟨fun b u q n _ _=>k b u (hb b n) q,fun b u q n _ _=>⟨u.slots,k b u (hb b n) q⟩,fun b u q n _=>by rw [ar (hx b n)];exact n,fun b u q _=>?_,
  fun b xs q=>by rw [ar (hm b _ q fun z=>z)];exact q,fun b u xs q=>by rw [ar (hm b _ q fun z=>z)];exact q,fun b ps q=>⟨#[],by rw [ar (hm b _ q fun z=>z),q];simp⟩⟩
 by_cases hbe:b=e
 ·subst hbe;exact heo
 ·exact⟨u,k b u hbe q⟩
end
def Em(h:Heap)(H:Hp):List Addr:=(List.range h.objs.size).filter fun a=>(H a).isSome
def qi(h:Heap)(H:Hp):Heap:=PySem.W.hideAll h (Em h H)
theorem vH(h:Heap)(H:Hp):(qi h H).objs.size=h.objs.size:=PySem.W.hideAll_size _ _
theorem yW{h:Heap}{H:Hp}{b:Addr}{o:Obj}(e:h.get? b=some o)(n:H b=none):(qi h H).get? b=some o :=
 PySem.W.hideAll_get _ e fun hm=>by
  have q:(H b).isSome=true:=(List.mem_filter.mp hm).2
  rw [n] at q;simp at q
theorem Ac{h:Heap}{H:Hp}{b:Addr}{o:Obj}(e:(qi h H).get? b=some o):h.get? b=some o∧H b=none:=by
 have e':h.get? b=some o:=PySem.W.of_hideAll (Em h H) e
 refine⟨e',?_⟩
 cases q:H b with
 | none=>rfl
 | some x =>
  have hm:b∈Em h H:=List.mem_filter.mpr ⟨List.mem_range.mpr (Heap.lt_size e'),by simp [q]⟩
  have z:(qi h H).get? b=none:=PySem.W.hideAll_none (Em h H) hm
  rw [z] at e;cases e
end L2
namespace L2
open PySem PySem.Spec PyProof.Rows
structure Mod(K:PySem.W.Frag)(mg:Str→Option Value)(base:Heap):Prop where
 kin:K.In base
 glob:base.Ns mainGlobals mg
 blt:∃ mb,base.Ns builtinsNs mb∧∀ x:Str,x≠"__name__"→mb x=bootBuiltins x
 nolimit:base.NoLimit
structure Cx where
 prog:Program
 w:World
 K:PySem.W.Frag
 mg:Str→Option Value
 base:Heap
 A:Around
 N:List Str
 s₀:Shared
 H₀:Hp
 env:Env
 outer:List Env
 stack:List Env
 ex:List Addr
 fn:Str→Bool
 calm:Bool
 pn:List (Addr × Obj)
 xe:Value→Shared→Prop
def hU(l:List Env):List Addr:=l.filterMap (·.frame)
abbrev Cx.fs(X:Cx):List Addr:=hU X.outer
def En(sc:Scope)(x:Str):Prop:=sc.names.lookup x=some .local∨sc.names.lookup x=some .cell∨sc.names.lookup x=some .free
def Loc(sc:Scope)(x:Str):Prop:=sc.names.lookup x=some .local∨sc.names.lookup x=some .cell
def Look(env:Env)(h:Heap)(m:Str→Option Value)(x:Str)(u:Value):Prop :=
 (env.kindOf x=some .local∧m x=some u)∨((env.kindOf x=some .cell∨env.kindOf x=some .free)∧∃ c,env.cells.lookup x=some c∧h.IsCell c (some u))
structure Cx.Ok(X:Cx):Prop where
 mod:Mod X.K X.mg X.base
 kind:X.env.scope.kind=.function
 glob:X.env.globals=mainGlobals
 blt:X.env.builtins=builtinsNs
 above:X.s₀.heap.objs.size≤X.env.locals
 inj:∀ x y c,X.env.cells.lookup x=some c→X.env.cells.lookup y=some c→x=y
 has:∀ x,(X.env.kindOf x=some .cell∨X.env.kindOf x=some .free)→∃ c,X.env.cells.lookup x=some c
 cab:∀ x c,X.fn x=true→X.env.cells.lookup x=some c→X.s₀.heap.objs.size≤c
 hd:X.calm=true→X.A.handled=none
 frames:X.A.frames=some X.stack
 stk:X.stack=X.outer∨(X.stack=X.env::X.outer∧X.env.frame=some X.env.locals)
 exf:∀ b∈X.ex,b≠X.env.locals∧∀ x c,X.env.cells.lookup x=some c→c≠b
 bs:∀ b o,X.base.get? b=some o→X.s₀.heap.get? b=some o∧X.H₀ b=none
 bsz:X.base.objs.size≤X.s₀.heap.objs.size
 noex:∀ b o,X.base.get? b=some o→b∉X.ex
 exfs:∀ b∈X.ex,b∉X.fs
 hV:X.s₀.heap.FunFrames X.base X.outer
 frf:∀ b∈X.fs,X.H₀ b=none
structure Inv(X:Cx)(pins:List (Addr × Obj))(σ:List (Option V))(H:Hp)(s:Shared):Prop where
 ok:X.Ok
 os:s.os=X.s₀.os
 bare:AllBare s.gens
 base:Un X.fs X.ex X.H₀ H X.s₀.heap s.heap
 loc:∃ m,s.heap.Ns X.env.locals m∧∀ (i:Nat) (x:Str) (v:V),X.N[i]?=some x→σ[i]?=some (some v)→En X.env.scope x→∃ u,RelV v u∧Look X.env s.heap m x u
 cell:∀ x c,X.env.cells.lookup x=some c→∃ v,s.heap.IsCell c v
 free:H X.env.locals=none
 freeC:∀ x c,X.env.cells.lookup x=some c→H c=none
 pin:∀ p∈X.pn++pins,s.heap.get? p.1=some p.2∧H p.1=none∧p.1≠X.env.locals∧p.1∉X.fs∧∀ v,p.2.data≠.cell v
 hok:iU X.prog X.w H s.heap
 len:σ.length=X.N.length
section
variable {X:Cx}{pins:List (Addr × Obj)}{σ:List (Option V)}{H H':Hp}{s:Shared}{h':Heap}
theorem Cx.Ok.ET(ok:X.Ok){b:Addr}{o:Obj}(e:X.base.get? b=some o):b∉X.fs:=fun hb=>by
 have:=(ok.hV.mem hb).1
 rw [e] at this;cases this
theorem Inv.bs(I:Inv X pins σ H s):∀ b o,X.base.get? b=some o→s.heap.get? b=some o∧H b=none:=fun b o e =>
 ⟨I.base.keep b o (I.ok.bs b o e).1 (I.ok.bs b o e).2 (I.ok.ET e) (I.ok.noex b o e),I.base.free b o (I.ok.bs b o e).1 (I.ok.bs b o e).2 (I.ok.noex b o e)⟩
theorem Inv.bk(I:Inv X pins σ H s):∀ b o,X.base.get? b=some o→s.heap.get? b=some o:=fun b o e=>(I.bs b o e).1
theorem Inv.mod(I:Inv X pins σ H s):Mod X.K X.mg X.base:=I.ok.mod
theorem Inv.fi(I:Inv X pins σ H s):X.K.In s.heap:=I.ok.mod.kin.keeps I.bk
theorem Inv.lt(I:Inv X pins σ H s):X.env.locals<s.heap.objs.size:=let ⟨_,hn,_⟩:=I.loc;hn.lt
theorem Inv.sz(I:Inv X pins σ H s):X.s₀.heap.objs.size≤s.heap.objs.size:=Nat.le_trans I.ok.above (Nat.le_of_lt I.lt)
theorem Inv.EI(I:Inv X pins σ H s){a:Addr}(h:s.heap.objs.size≤a):a∉X.fs:=fun hb=>by
 obtain⟨_,o,ho,_⟩:=I.ok.hV.mem hb
 exact absurd (Nat.lt_of_lt_of_le (Heap.lt_size ho) (Nat.le_trans I.sz h)) (Nat.lt_irrefl _)
theorem Inv.yx(I:Inv X pins σ H s):∀ x c,X.env.cells.lookup x=some c→c≠X.env.locals:=fun x c e z=>by
 obtain⟨v,o,ho,hd⟩:=I.cell x c e
 obtain⟨m,⟨o',es,ep,ho',hd',_⟩,_⟩:=I.loc
 rw [z,ho'] at ho;cases ho;rw [hd'] at hd;cases hd
theorem Inv.hV(I:Inv X pins σ H s):s.heap.FunFrames X.base X.outer:=by
 have all:∀ (l:List Env),(∀ b∈hU l,b∈X.fs)→X.s₀.heap.FunFrames X.base l→s.heap.FunFrames X.base l:=by
  intro l
  induction l with
  | nil=>intro _ _;trivial
  | cons env r ih =>
   intro hs hl
   obtain⟨hk,⟨L,o,hf,hn,ho,hd⟩,hr⟩:=hl
   have hL:L∈X.fs:=hs L (by unfold hU;rw [List.filterMap_cons,hf];exact List.mem_cons_self)
   obtain⟨sl,e⟩:=I.base.slot L o ho (I.ok.frf L hL) hL fun z=>I.ok.exfs L z hL
   exact⟨hk,⟨L,_,hf,hn,e,hd⟩,ih (fun b hb=>hs b (by unfold hU;rw [List.filterMap_cons,hf];exact List.mem_cons_of_mem _ hb)) hr⟩
 exact all X.outer (fun _ hb=>hb) I.ok.hV
theorem Inv.stack(I:Inv X pins σ H s):s.heap.FunFrames X.base X.stack:=by
 rcases I.ok.stk with e | ⟨e,hf⟩
 ·rw [e];exact I.hV
 ·rw [e]
  obtain⟨m,hn,_⟩:=I.loc
  refine .cons (by rw [I.ok.kind];decide) hf hn ?_ I.hV
  exact Heap.get?_none_of_le (Nat.le_trans I.ok.bsz I.ok.above)
theorem Inv.lV(I:Inv X pins σ H s):∀ b∈hU X.stack,b∈X.env.locals::X.fs:=fun b hb=>by
 rcases I.ok.stk with e | ⟨e,hf⟩
 ·rw [e] at hb;exact List.mem_cons_of_mem _ hb
 ·rw [e] at hb
  unfold hU at hb
  rw [List.filterMap_cons,hf] at hb
  exact hb
theorem Inv.lj(I:Inv X pins σ H s):∀ b∈hU X.stack,H b=none:=fun b hb=>by
 rcases List.mem_cons.mp (I.lV b hb) with e | hb
 ·rw [e];exact I.free
 ·obtain⟨_,o,ho,_⟩:=I.ok.hV.mem hb
  exact I.base.free b o ho (I.ok.frf b hb) fun z=>I.ok.exfs b z hb
theorem Inv.step{g':Array GenState}{t':Nat}{d':Drawn}{ch:List Addr}(I:Inv X pins σ H s)
  (hch:∀ b∈ch,(b∈X.ex∨X.s₀.heap.objs.size≤b)∧b≠X.env.locals∧(∀ x c,X.env.cells.lookup x=some c→c≠b)∧∀ p∈X.pn++pins,p.1≠b)
  (keep:∀ b o,b≠X.env.locals→b∉X.fs→b∉ch→s.heap.get? b=some o→H b=none→h'.get? b=some o)
  (slot:∀ b o,b≠X.env.locals→b∈X.fs→b∉ch→s.heap.get? b=some o→H b=none→∃ sl,h'.get? b=some { o with slots:=sl }) (free:∀ b o,b∉ch→s.heap.get? b=some o→H b=none→H' b=none)
  (there:∀ b o,b∉ch→s.heap.get? b=some o→∃ o',h'.get? b=some o')
  (iK:∀ b xs,H b=some (.tup xs)→H' b=some (.tup xs)) (frzs:∀ b o u,H b=some (.frz o u)→H' b=some (.frz o u)) (tbls:∀ b ps,H b=some (.tbl ps)→∃ more,H' b=some (.tbl (ps++more)))
  (ns:∀ m,s.heap.Ns X.env.locals m→h'.Ns X.env.locals m) (hok:iU X.prog X.w H' h') (hg:AllBare g') :
  Inv X pins σ H' { s with heap:=h',gens:=g',drawn:=d',toks:=t' }:=by
 have neL:∀ b o,X.s₀.heap.get? b=some o→b≠X.env.locals:=fun b o e=>Nat.ne_of_lt (Nat.lt_of_lt_of_le (Heap.lt_size e) I.ok.above)
 have neC:∀ b o,X.s₀.heap.get? b=some o→b∉X.ex→b∉ch:=fun b o e hx hb=>by
  rcases(hch b hb).1 with z | z
  ·exact hx z
  ·exact absurd (Nat.lt_of_lt_of_le (Heap.lt_size e) z) (Nat.lt_irrefl _)
 have cellK:∀ x c,X.env.cells.lookup x=some c→∀ v,s.heap.IsCell c v→h'.IsCell c v:=fun x c e v ⟨o,ho,hd⟩=>by
  have nch:c∉ch:=fun z=>(hch c z).2.2.1 x c e rfl
  by_cases hc:c∈X.fs
  ·obtain⟨sl,q⟩:=slot c o (I.yx x c e) hc nch ho (I.freeC x c e)
   exact⟨_,q,hd⟩
  ·exact⟨o,keep c o (I.yx x c e) hc nch ho (I.freeC x c e),hd⟩
 refine⟨I.ok,I.os,hg,⟨fun b o e n hb hx=>?_,fun b o e n hb hx=>?_,fun b o e n hx=>?_,fun b o e hx=>?_,fun b xs e=>iK b xs (I.base.iK b xs e),fun b o xs e=>frzs b o xs (I.base.frzs b o xs e),fun b ps e=>?_⟩,?_,fun x c e=>?_,?_,fun x c e=>?_,fun p hp=>?_,hok,I.len⟩
 ·exact keep b o (neL b o e) hb (neC b o e hx) (I.base.keep b o e n hb hx) (I.base.free b o e n hx)
 ·obtain⟨sl,e1⟩:=I.base.slot b o e n hb hx
  obtain⟨sl',e2⟩:=slot b _ (neL b o e) hb (neC b o e hx) e1 (I.base.free b o e n hx)
  exact⟨sl',e2⟩
 ·obtain⟨o',e1⟩:=I.base.there b o e hx
  exact free b o' (neC b o e hx) e1 (I.base.free b o e n hx)
 ·obtain⟨o',e1⟩:=I.base.there b o e hx
  exact there b o' (neC b o e hx) e1
 ·obtain⟨m1,e1⟩:=I.base.tbls b ps e
  obtain⟨m2,e2⟩:=tbls b _ e1
  exact⟨m1++m2,by rw [e2,Array.append_assoc]⟩
 ·obtain⟨m,hn,hl⟩:=I.loc
  refine⟨m,ns m hn,fun i x v e1 e2 e3=>?_⟩
  obtain⟨u,r,l⟩:=hl i x v e1 e2 e3
  refine⟨u,r,?_⟩
  rcases l with l | ⟨k,c,e,z⟩
  ·exact .inl l
  ·exact .inr ⟨k,c,e,cellK x c e _ z⟩
 ·obtain⟨v,z⟩:=I.cell x c e
  exact⟨v,cellK x c e v z⟩
 ·obtain⟨m,⟨o,_,_,ho,_⟩,_⟩:=I.loc
  exact free _ o (fun z=>(hch _ z).2.1 rfl) ho I.free
 ·obtain⟨v,o,ho,hd⟩:=I.cell x c e
  exact free c o (fun z=>(hch c z).2.2.1 x c e rfl) ho (I.freeC x c e)
 ·obtain⟨e,n,ne,nf,d⟩:=I.pin p hp
  have nch:p.1∉ch:=fun z=>(hch p.1 z).2.2.2 p hp rfl
  exact⟨keep p.1 p.2 ne nf nch e n,free p.1 p.2 nch e n,ne,nf,d⟩
theorem Inv.un{t':Nat}(I:Inv X pins σ H s)(u:Un X.fs [] H H' s.heap h')(hok:iU X.prog X.w H' h'):Inv X pins σ H' { s with heap:=h',toks:=t' }:=by
 obtain⟨m,⟨o,es,ep,ho,r⟩,_⟩:=id I.loc
 obtain⟨sl,hL⟩:=u.any ho I.free (by simp)
 exact I.step (g':=s.gens) (d':=s.drawn) (ch:=[]) (fun _ z=>nomatch z) (fun b o _ hb _ e n=>u.keep b o e n hb (by simp)) (fun b o _ hb _ e n=>u.slot b o e n hb (by simp)) (fun b o _ e n=>u.free b o e n (by simp)) (fun b o _ e=>u.there b o e (by simp)) u.iK u.frzs u.tbls (fun m' hm=>by
  obtain⟨o',es',ep',ho',r'⟩:=hm
  rw [ho] at ho';cases ho'
  exact⟨_,es',ep',hL,r'⟩) hok I.bare
theorem Inv.call{g':Array GenState}{t':Nat}{d':Drawn}{ch:List Addr}(I:Inv X pins σ H s)(u:Un (hU X.stack) ch H H' s.heap h')(hok:iU X.prog X.w H' h')(hg:AllBare g')
  (hch:∀ b∈ch,(b∈X.ex∨X.s₀.heap.objs.size≤b)∧b≠X.env.locals∧(∀ x c,X.env.cells.lookup x=some c→c≠b)∧∀ p∈X.pn++pins,p.1≠b) :
  Inv X pins σ H' { s with heap:=h',gens:=g',drawn:=d',toks:=t' }:=by
 obtain⟨m,⟨o,es,ep,ho,r⟩,_⟩:=id I.loc
 obtain⟨sl,hL⟩:=u.any ho I.free fun z=>(hch _ z).2.1 rfl
 exact I.step (ch:=ch) hch (fun b o hL hb hc e n=>u.keep b o e n (fun z=>(List.mem_cons.mp (I.lV b z)).elim hL hb) hc) (fun b o _ _ hc e n=>u.any e n hc) (fun b o hc e n=>u.free b o e n hc) (fun b o hc e=>u.there b o e hc) u.iK u.frzs u.tbls (fun m' hm=>by
  obtain⟨o',es',ep',ho',r'⟩:=hm
  rw [ho] at ho';cases ho'
  exact⟨_,es',ep',hL,r'⟩) hok hg
theorem Inv.turned{t':Nat}{it:Addr}(I:Inv X pins σ H s)(k:∀ b o,b≠it→s.heap.get? b=some o→h'.get? b=some o)(hn:H it=none)(hL:it≠X.env.locals)
  (h1:it∈X.ex∨X.s₀.heap.objs.size≤it) (h2:∀ x c,X.env.cells.lookup x=some c→c≠it) (h3:∀ p∈X.pn++pins,p.1≠it):Inv X pins σ H { s with heap:=h',toks:=t' }:=by
 have nit:∀ b u,H b=some u→b≠it:=fun b u e z=>by rw [z,hn] at e;cases e
 refine I.step (g':=s.gens) (d':=s.drawn) (ch:=[it]) (fun b hb=>?_) (fun b o _ _ hc e _=>k b o (fun z=>hc (by simp [z])) e) (fun b o _ _ hc e _=>⟨o.slots,k b o (fun z=>hc (by simp [z])) e⟩) (fun _ _ _ _ n=>n)
  (fun b o hc e=>⟨o,k b o (fun z=>hc (by simp [z])) e⟩) (fun _ _ e=>e) (fun _ _ _ e=>e) (fun b ps e=>⟨#[],by rw [e];simp⟩) (fun m hm=>?_) (fun b u e=>?_) I.bare
 ·have e:b=it:=by simpa using hb
  subst e
  exact⟨h1,hL,h2,h3⟩
 ·obtain⟨o,es,ep,ho,r⟩:=hm
  exact⟨o,es,ep,k _ o (Ne.symm hL) ho,r⟩
 ·refine(I.hok b u e).iy (fun c v hc q=>k c v ?_ q) (fun _ q=>q) fun _ _ q=>q
  rcases hc with z | z
  ·rw [z];exact nit b u e
  ·exact nit c _ z
theorem Inv.tok(I:Inv X pins σ H s)(t:Nat):Inv X pins σ H { s with toks:=t }:=I.un (h':=s.heap) (t':=t) Un.refl I.hok
theorem Inv.kept{t':Nat}(I:Inv X pins σ H s)(k:∀ b u,s.heap.get? b=some u→h'.get? b=some u):Inv X pins σ H { s with heap:=h',toks:=t' }:=I.un (Un.kept k) (I.hok.kept k)
theorem Inv.laid{a:Addr}{o:HO}{t':Nat}(I:Inv X pins σ H s)(k:∀ b u,s.heap.get? b=some u→h'.get? b=some u)(hp:s.heap.objs.size≤a)(new:bO X.prog X.w (upd H a o) h' a o) :
  Inv X pins σ (upd H a o) { s with heap:=h',toks:=t' }:=I.un (Un.laid k hp (I.hok.fresh hp)) (I.hok.laid k hp new)
theorem Inv.write{x e:Addr}{o:HO}{t':Nat}(I:Inv X pins σ H s)(mu:C9 (H x))(he:e=x∨H e=some (.own x))(k:∀ b u,b≠e→s.heap.get? b=some u→h'.get? b=some u)(heo:∃ u,h'.get? e=some u)
  (new:bO X.prog X.w (upd H x o) h' x o):Inv X pins σ (upd H x o) { s with heap:=h',toks:=t' }:=I.un (Un.write mu he k heo) (I.hok.write mu he k heo new)
theorem Inv.weak{σ':List (Option V)}(I:Inv X pins σ H s)(hl:σ'.length=σ.length)(w:∀ (i:Nat) v,σ'[i]?=some (some v)→σ[i]?=some (some v)):Inv X pins σ' H s :=
 ⟨I.ok,I.os,I.bare,I.base,let ⟨m,hn,hl'⟩:=I.loc;⟨m,hn,fun i x v e1 e2 e3=>hl' i x v e1 (w i v e2) e3⟩,I.cell,I.free,I.freeC,I.pin,I.hok,hl.trans I.len⟩
theorem Inv.u9{pins':List (Addr × Obj)}(I:Inv X pins σ H s)(h:∀ p∈pins',s.heap.get? p.1=some p.2∧H p.1=none∧p.1≠X.env.locals∧p.1∉X.fs∧∀ v,p.2.data≠.cell v):Inv X pins' σ H s :=
 ⟨I.ok,I.os,I.bare,I.base,I.loc,I.cell,I.free,I.freeC,fun p hp=>(List.mem_append.mp hp).elim (fun z=>I.pin p (List.mem_append_left _ z)) (h p),I.hok,I.len⟩
theorem lQ{N:List Str}(hN:N.Nodup){i j:Nat}{x:Str}(a:N[i]?=some x)(b:N[j]?=some x):i=j:=by
 obtain⟨h1,e1⟩:=List.getElem?_eq_some_iff.mp a
 obtain⟨h2,e2⟩:=List.getElem?_eq_some_iff.mp b
 exact(List.getElem_inj hN).mp (e1.trans e2.symm)
theorem oK{M:Model}{A:Around}{E:Value→Shared→Prop}{i:Nat}{x:Str}{v:V}{u:Value}{Q:Unit→Shared→Prop}(I:Inv X pins σ H s)(hN:X.N.Nodup)(hi:X.N[i]?=some x)(hx:Loc X.env.scope x)(r:RelV v u)
  (h:∀ s',Inv X pins (σ.set i (some v)) H s'→(∃ a,Heap.SameBut a s.heap s'.heap∧(a=X.env.locals∨X.env.cells.lookup x=some a))→Q () s') (hf:X.fn x=true∨X.env.scope.names.lookup x=some .local:=by first | exact .inl rfl | exact .inr rfl | assumption):wpAny M A (storeName X.env x u) Q E s:=by
 obtain⟨m,hn,hl⟩:=id I.loc
 have hcls:(X.env.scope.kind==.class || (X.env.scope.kind==.module&&X.env.locals != X.env.globals))=false:=by rw [I.ok.kind];rfl
 have hiσ:i<σ.length:=by rw [I.len];exact(List.getElem?_eq_some_iff.mp hi).1
 have yx:=I.yx
 have tracked:∀ {a:Addr} {h':Heap},(∃ o,s.heap.get? a=some o∧H a=none)→Heap.SameBut a s.heap h'→iU X.prog X.w H h':=fun {a h'} ha hs b ob e=>by
  obtain⟨_,_,hfree⟩:=ha
  refine(I.hok b ob e).iy (fun c w' hc q=>(hs.2 c ?_).trans q) (fun _ q=>q) fun _ _ q=>q
  rintro rfl
  rcases hc with rfl | hc
  ·rw [hfree] at e;cases e
  ·rw [hfree] at hc;cases hc
 rcases hx with hk | hk
 ·refine wpAny_storeName_local hk hn (fun h' hn' hs=>?_) hcls
  obtain⟨oL,_,_,hoL,_⟩:=id hn
  refine h _ ⟨I.ok,I.os,I.bare,⟨fun b o e n hb hx=>?_,fun b o e n hb hx=>?_,I.base.free,fun b o e hx=>?_,I.base.iK,I.base.frzs,I.base.tbls⟩,⟨_,hn',fun j y v' e1 e2 e3=>?_⟩,fun y c e=>?_,I.free,I.freeC,fun p hp=>?_,tracked ⟨oL,hoL,I.free⟩ hs,by simpa using I.len⟩ ⟨_,hs,.inl rfl⟩
  ·exact(hs.2 b (Nat.ne_of_lt (Nat.lt_of_lt_of_le (Heap.lt_size e) I.ok.above))).trans (I.base.keep b o e n hb hx)
  ·obtain⟨sl,e1⟩:=I.base.slot b o e n hb hx
   exact⟨sl,(hs.2 b (Nat.ne_of_lt (Nat.lt_of_lt_of_le (Heap.lt_size e) I.ok.above))).trans e1⟩
  ·obtain⟨o',e1⟩:=I.base.there b o e hx
   exact⟨o',(hs.2 b (Nat.ne_of_lt (Nat.lt_of_lt_of_le (Heap.lt_size e) I.ok.above))).trans e1⟩
  ·by_cases hj:j=i
   ·subst hj
    rw [hi] at e1;cases e1
    rw [List.getElem?_set_self hiσ] at e2
    cases e2
    exact⟨u,r,.inl ⟨hk,by simp⟩⟩
   ·rw [List.getElem?_set_ne (Ne.symm hj)] at e2
    obtain⟨u',r',q⟩:=hl j y v' e1 e2 e3
    refine⟨u',r',?_⟩
    rcases q with⟨k,e⟩ | ⟨k,c,e,z⟩
    ·refine .inl ⟨k,?_⟩
     have:y≠x:=fun e=>hj (lQ hN e1 (e ▸ hi))
     simp [this,e]
    ·exact .inr ⟨k,c,e,z.sameBut hs (yx y c e)⟩
  ·obtain⟨w',z⟩:=I.cell y c e
   exact⟨w',z.sameBut hs (yx y c e)⟩
  ·obtain⟨e,n,ne,nf,d⟩:=I.pin p hp
   exact⟨(hs.2 p.1 ne).trans e,n,ne,nf,d⟩
 ·have hfn:X.fn x=true:=by
   rcases hf with z | z
   ·exact z
   ·rw [z] at hk;cases hk
  obtain⟨c,hc⟩:=I.ok.has x (.inl hk)
  obtain⟨w',z⟩:=I.cell x c hc
  refine wpAny_storeName_cell I.ok.kind hk hc z (fun h' hc' hs=>?_)
  obtain⟨oc,hoc,hocd⟩:=id z
  refine h { s with heap:=h' } ⟨I.ok,I.os,I.bare,⟨fun b o e n hb hx=>?_,fun b o e n hb hx=>?_,I.base.free,fun b o e hx=>?_,I.base.iK,I.base.frzs,I.base.tbls⟩,⟨m,hn.sameBut hs (Ne.symm (yx x c hc)),fun j y v' e1 e2 e3=>?_⟩,fun y c' e=>?_,I.free,I.freeC,fun p hp=>?_,tracked ⟨oc,hoc,I.freeC x c hc⟩ hs,by simpa using I.len⟩ ⟨c,hs,.inr hc⟩
  ·exact(hs.2 b (Nat.ne_of_lt (Nat.lt_of_lt_of_le (Heap.lt_size e) (I.ok.cab x c hfn hc)))).trans (I.base.keep b o e n hb hx)
  ·obtain⟨sl,e1⟩:=I.base.slot b o e n hb hx
   exact⟨sl,(hs.2 b (Nat.ne_of_lt (Nat.lt_of_lt_of_le (Heap.lt_size e) (I.ok.cab x c hfn hc)))).trans e1⟩
  ·obtain⟨o',e1⟩:=I.base.there b o e hx
   exact⟨o',(hs.2 b (Nat.ne_of_lt (Nat.lt_of_lt_of_le (Heap.lt_size e) (I.ok.cab x c hfn hc)))).trans e1⟩
  ·by_cases hj:j=i
   ·subst hj
    rw [hi] at e1;cases e1
    rw [List.getElem?_set_self hiσ] at e2
    cases e2
    exact⟨u,r,.inr ⟨.inl hk,c,hc,hc'⟩⟩
   ·rw [List.getElem?_set_ne (Ne.symm hj)] at e2
    obtain⟨u',r',q⟩:=hl j y v' e1 e2 e3
    refine⟨u',r',?_⟩
    rcases q with q | ⟨k,c',e,z'⟩
    ·exact .inl q
    ·refine .inr ⟨k,c',e,z'.sameBut hs ?_⟩
     rintro rfl
     exact hj (lQ hN e1 (I.ok.inj _ _ _ e hc ▸ hi))
  ·by_cases hcc:c'=c
   ·subst hcc;exact⟨_,hc'⟩
   ·obtain⟨w2,z2⟩:=I.cell y c' e
    exact⟨w2,z2.sameBut hs hcc⟩
  ·obtain⟨e,n,ne,nf,d⟩:=I.pin p hp
   refine⟨(hs.2 p.1 ?_).trans e,n,ne,nf,d⟩
   intro q
   rw [q,hoc] at e
   have q':oc=p.2:=Option.some.inj e
   exact d w' (by rw [← q'];exact hocd)
theorem jS{M:Model}{A:Around}{E:Value→Shared→Prop}{i:Nat}{x:Str}{v:V}{u:Value}{Q:Unit→Shared→Prop}(I:Inv X pins σ H s)(hN:X.N.Nodup)(hi:X.N[i]?=some x)(hx:Loc X.env.scope x)(r:RelV v u)
  (h:∀ s',Inv X pins (σ.set i (some v)) H s'→Q () s') (hf:X.fn x=true∨X.env.scope.names.lookup x=some .local:=by first | exact .inl rfl | exact .inr rfl | assumption):wpAny M A (storeName X.env x u) Q E s :=
 oK I hN hi hx r (fun s' I' _=>h s' I') hf
theorem Inv.xm{s':Shared}{ch:List Addr}(I:Inv X pins σ H s)(ho:s'.os=s.os)(u:Un (hU X.stack) ch H H' s.heap s'.heap)(hok:iU X.prog X.w H' s'.heap)(hg:AllBare s'.gens)
  (hch:∀ b∈ch,(b∈X.ex∨X.s₀.heap.objs.size≤b)∧b≠X.env.locals∧(∀ x c,X.env.cells.lookup x=some c→c≠b)∧∀ p∈X.pn++pins,p.1≠b):Inv X pins σ H' s':=by
 obtain⟨h',g',d',t',o'⟩:=s'
 have e:o'=s.os:=ho
 subst e
 exact I.call (g':=g') (t':=t') (d':=d') u hok hg hch
end
abbrev XK:=Value→Option Addr→Hp→Prop
abbrev St:=List (Option V)
abbrev VK:=V→Hp→Prop
abbrev TE:=St→Hp→VK→Prop
abbrev TT:=St→Hp→(Bool→Hp→Prop)→Prop
abbrev TA:=St→Hp→(List V→Hp→Prop)→Prop
structure Ends where
 nx:St→Hp→Prop
 rt:VK
 bk:St→Hp→Prop:=fun _ _=>False
 ct:St→Hp→Prop:=fun _ _=>False
abbrev TS:=Ends→St→Hp→Prop
def EP(X:Cx)(pins:List (Addr × Obj))(σ:St)(Q:VK)(u:Value)(s':Shared):Prop:=∃ v H',Inv X pins σ H' s'∧RelV v u∧Q v H'
def TP(X:Cx)(pins:List (Addr × Obj))(σ:St)(Q:Bool→Hp→Prop)(b:Bool)(s':Shared):Prop:=∃ H',Inv X pins σ H' s'∧Q b H'
def AP(X:Cx)(pins:List (Addr × Obj))(σ:St)(Q:List V→Hp→Prop)(us:List Value)(s':Shared):Prop:=∃ vs H',Inv X pins σ H' s'∧Vals vs us∧Q vs H'
def SP(X:Cx)(pins:List (Addr × Obj))(D:Ends)(f:Flow)(s':Shared):Prop :=
 match f with
 | .next=>∃ σ' H',Inv X pins σ' H' s'∧D.nx σ' H'
 | .brk=>∃ σ' H',Inv X pins σ' H' s'∧D.bk σ' H'
 | .cont=>∃ σ' H',Inv X pins σ' H' s'∧D.ct σ' H'
 | .ret u=>∃ v σ' H',Inv X pins σ' H' s'∧RelV v u∧D.rt v H'
def PE(X:Cx)(e:Expr)(t:TE):Prop :=
 ∀ (pins:List (Addr × Obj)) (s:Shared) (σ:St) (H:Hp) (Q:VK),Inv X pins σ H s→t σ H Q→wpAny (model X.prog X.w) X.A (eval e X.env) (EP X pins σ Q) X.xe s
def PT(X:Cx)(e:Expr)(t:TT):Prop :=
 ∀ (pins:List (Addr × Obj)) (s:Shared) (σ:St) (H:Hp) (Q:Bool→Hp→Prop),Inv X pins σ H s→t σ H Q→wpAny (model X.prog X.w) X.A (isTrue e X.env (eval e X.env)) (TP X pins σ Q) X.xe s
def PW(X:Cx)(e:Expr)(t:TT):Prop :=
 ∀ (whole:Sem Value) (pins:List (Addr × Obj)) (s:Shared) (σ:St) (H:Hp) (Q:Bool→Hp→Prop),Inv X pins σ H s→t σ H Q→wpAny (model X.prog X.w) X.A (isTrue e X.env whole) (TP X pins σ Q) X.xe s
theorem PW.pt{X:Cx}{e:Expr}{t:TT}(h:PW X e t):PT X e t:=h _
def PA(X:Cx)(es:List Expr)(t:TA):Prop :=
 ∀ (pos:Pos) (pins:List (Addr × Obj)) (s:Shared) (σ:St) (H:Hp) (Q:List V→Hp→Prop),Inv X pins σ H s→t σ H Q→wpAny (model X.prog X.w) X.A (spliced (backTo pos (starEach es X.env))) (AP X pins σ Q) X.xe s
def PS(X:Cx)(st:Stmt)(t:TS):Prop :=
 ∀ (pins:List (Addr × Obj)) (s:Shared) (σ:St) (H:Hp) (D:Ends),Inv X pins σ H s→t D σ H→wpAny (model X.prog X.w) X.A (exec st X.env) (SP X pins D) X.xe s
def qV(X:Cx)(st:List Stmt)(t:TS):Prop :=
 ∀ (pins:List (Addr × Obj)) (s:Shared) (σ:St) (H:Hp) (D:Ends),Inv X pins σ H s→t D σ H→wpAny (model X.prog X.w) X.A (execs st X.env) (SP X pins D) X.xe s
theorem cc{α:Type}{t:Sem α}{Q Q':α→Shared→Prop}{M:Model}{A:Around}{E:Value→Shared→Prop}{s:Shared}(h:wpAny M A t Q E s)(hQ:∀ a s,Q a s→Q' a s):wpAny M A t Q' E s:=wpAny_mono h hQ fun _ _ x=>x
end L2
namespace L2
open PySem PySem.Spec PyProof.Rows
section
variable {X:Cx}
def C3(i:Nat):TE:=fun σ H Q=>∃ v,σ[i]?=some (some v)∧Q v H
def tC(v:V):TE:=fun _ H Q=>Q v H
theorem Bw{i:Nat}{x:Str}{pos:Pos}(hN:X.N[i]?=some x)(hv:En X.env.scope x)(hd:(x==("__debug__":Str))=false:=by decide)(hcd:(x==("__classdict__":Str))=false:=by decide):PE X (.Name x pos) (C3 i):=by
 intro pins s σ H Q I h
 obtain⟨v,e,h⟩:=h
 obtain⟨m,hn,hl⟩:=I.loc
 obtain⟨u,r,l⟩:=hl i x v hN e hv
 have fin:EP X pins σ Q u s:=⟨v,H,I,r,h⟩
 rcases l with⟨hk,hm⟩ | ⟨hk,c,hc,hcell⟩
 ·exact wpAny_Name (wpAny_loadName_local I.ok.kind hk hn hm fin) hd
 ·rcases hk with hk | hk
  ·exact wpAny_Name (wpAny_loadName_cell I.ok.kind hk hc hcell fin) hd
  ·exact wpAny_Name (wpAny_loadName_free I.ok.kind hk hc hcell fin hcd) hd
theorem ak{i j pos}:PE X (.Constant (.int i) j pos) (tC (.int i)):=fun _ _ _ H _ I h=>wpAny_Constant_int ⟨.int i,H,I.tok _,⟨_,rfl⟩,h⟩
theorem fg{b j pos}:PE X (.Constant (.bool b) j pos) (tC (.bl b)):=fun _ _ _ H _ I h=>Constant_bool ⟨.bl b,H,I,rfl,h⟩
theorem pL{j pos}:PE X (.Constant .none j pos) (tC .non):=fun _ _ _ H _ I h=>Constant_none ⟨.non,H,I,rfl,h⟩
theorem cJ{x j pos}:PE X (.Constant (.str x) j pos) (tC (.str x)):=fun _ _ _ H _ I h=>Calls.Constant_str ⟨.str x,H,I.tok _,⟨_,rfl⟩,h⟩
def Gl(X:Cx)(x:Str):Prop:=X.env.kindOf x=some .globalImplicit
theorem iF{E:Value→Shared→Prop}{pins:List (Addr × Obj)}{s:Shared}{σ:St}{H:Hp}{x:Str}{u:Value}{pos:Pos}{Q:Value→Shared→Prop}(I:Inv X pins σ H s)(hg:Gl X x)(hm:X.mg x=some u)(h:Q u s)
  (hd:(x==("__debug__":Str))=false:=by decide):wpAny (model X.prog X.w) X.A (eval (.Name x pos) X.env) Q E s :=
 Calls.Name_function_global I.ok.kind hg (Calls.loadGlobal_global (by rw [I.ok.glob];exact I.mod.glob.keeps I.bk) hm h) hd
theorem eE{E:Value→Shared→Prop}{pins:List (Addr × Obj)}{s:Shared}{σ:St}{H:Hp}{x:Str}{u:Value}{pos:Pos}{Q:Value→Shared→Prop}(I:Inv X pins σ H s)(hg:Gl X x)(hm:X.mg x=none)(hv:bootBuiltins x=some u)(h:Q u s)
  (hn:x≠"__name__":=by decide) (hd:(x==("__debug__":Str))=false:=by decide):wpAny (model X.prog X.w) X.A (eval (.Name x pos) X.env) Q E s:=by
 obtain⟨mb,h1,h2⟩:=I.mod.blt
 exact Calls.Name_function_global I.ok.kind hg (Calls.loadGlobal_builtin (by rw [I.ok.glob];exact I.mod.glob.keeps I.bk) hm (by rw [I.ok.blt];exact h1.keeps I.bk) ((h2 x hn).trans hv) h) hd
theorem dQ{x:Str}{v:V}{u:Value}{pos:Pos}(hg:Gl X x)(hm:X.mg x=some u)(r:RelV v u)(hd:(x==("__debug__":Str))=false:=by decide):PE X (.Name x pos) (tC v) :=
 fun _ _ _ H _ I h=>iF I hg hm ⟨v,H,I,r,h⟩ hd
theorem pj{x:Str}{v:V}{u:Value}{pos:Pos}(hg:Gl X x)(hm:X.mg x=none)(hv:bootBuiltins x=some u)(r:RelV v u)(hn:x≠"__name__":=by decide)(hd:(x==("__debug__":Str))=false:=by decide):PE X (.Name x pos) (tC v) :=
 fun _ _ _ H _ I h=>eE I hg hm hv ⟨v,H,I,r,h⟩ hn hd
variable {a b:Expr}{ta tb:TE}{pos:Pos}
def PC(X:Cx)(op:CmpOp)(a b:Expr)(t:TE):Prop :=
 ∀ (pins:List (Addr × Obj)) (s:Shared) (σ:St) (H:Hp) (Q:VK),Inv X pins σ H s→t σ H Q →
  wpAny (model X.prog X.w) X.A (eval a X.env) (fun v s₁=>wpAny (model X.prog X.w) X.A (eval b X.env) (fun u s₂=>wpAny (model X.prog X.w) X.A (compareOp op v u) (EP X pins σ Q) X.xe s₂) X.xe s₁) X.xe s
def tB(t:TE):TT:=fun σ H Q=>t σ H fun x H1=>∃ c,x=.bl c∧Q c H1
theorem yT{op:CmpOp}{t:TE}(h:PC X op a b t)(h1:behindInMarks op b=false:=by first | exact nobehind _ (by decide) (by decide) | rfl):PE X (.Compare a [op] [b] pos) t:=fun pins s σ H Q I hw=>wpAny_Compare1 (h pins s σ H Q I hw) h1
theorem lX{op:CmpOp}{t:TE}(h:PC X op a b t)(h1:behindInMarks op b=false:=by first | exact nobehind _ (by decide) (by decide) | rfl):PT X (.Compare a [op] [b] pos) (tB t):=by
 intro pins s σ H Q I hw
 refine wpAny_isTrue_Compare1 (cc (h pins s σ H _ I hw) fun v s1 h1=>cc h1 fun u s2 h2=>cc h2 fun c s3 ⟨x,H1,I1,r1,q1⟩=>?_) h1
 obtain⟨d,rfl,q⟩:=q1
 cases r1
 exact wpAny_truthy_bool ⟨H1,I1,q⟩
theorem cu{e:Expr}{t:TE}(h:PE X e t)(he:∀ whole,isTrue e X.env whole=(do let v ← whole;standAt e.pos;holding [v] (truthy v)):=by intro _;rfl):PT X e (tB t):=by
 intro pins s σ H Q I hw
 refine isTrue_plain (cc (h pins s σ H _ I hw) fun v s1 ⟨x,H1,I1,r1,q1⟩=>?_) (he _)
 obtain⟨d,rfl,q⟩:=q1
 cases r1
 exact wpAny_truthy_bool ⟨H1,I1,q⟩
variable {tA tB':TT}{rest:List Expr}
def tOr(t u:TT):TT:=fun σ H Q=>t σ H fun c H1=>if c=true then Q true H1 else u σ H1 Q
def Fw(t:TT):TT:=fun σ H Q=>t σ H fun c H1=>Q (!c) H1
theorem pw_or1(ha:PT X a tA):PW X (.BoolOp .Or [a] pos) tA:=by
 intro wh pins s σ H Q I h
 refine isTrue_or (cc (ha pins s σ H Q I h) fun c s1 e=>?_)
 cases c with
 | false=>exact isTrue_or_nil e
 | true=>exact e
theorem pw_or(ha:PT X a tA)(hb:PW X (.BoolOp .Or (b::rest) pos) tB'):PW X (.BoolOp .Or (a::b::rest) pos) (tOr tA tB'):=by
 intro wh pins s σ H Q I h
 refine isTrue_or (cc (ha pins s σ H _ I h) fun c s1 ⟨H1,I1,q1⟩=>?_)
 cases c with
 | true=>exact⟨H1,I1,q1⟩
 | false=>exact hb wh pins s1 σ H1 Q I1 q1
theorem cR(ha:PT X a tA):PT X (.UnaryOp .Not a pos) (Fw tA):=by
 intro pins s σ H Q I h
 exact isTrue_not (ha pins s σ H (fun c H1=>Q (!c) H1) I h)
def CM(ta tb:TE):TE:=fun σ H Q=>ta σ H fun x H1=>∃ c,x=.bl c∧if c=true then tb σ H1 Q else Q (.bl false) H1
def E3(ta tb:TE):TE:=fun σ H Q=>ta σ H fun x H1=>∃ c,x=.bl c∧if c=true then Q (.bl true) H1 else tb σ H1 Q
theorem kl{op}{t:TE}(h:PE X a t):PE X (.BoolOp op [a] pos) t:=fun pins s σ H Q I hw=>BoolOp_one (h pins s σ H Q I hw)
theorem mz(ha:PE X a ta)(hb:PE X (.BoolOp .And (b::rest) pos) tb):PE X (.BoolOp .And (a::b::rest) pos) (CM ta tb):=by
 intro pins s σ H Q I h
 refine BoolOp_and (cc (ha pins s σ H _ I h) fun v s1 ⟨x,H1,I1,r1,q1⟩=>?_)
 obtain⟨c,rfl,q1⟩:=q1
 cases r1
 refine wpAny_truthy_bool ?_
 cases c with
 | true=>exact hb pins s1 σ H1 Q I1 q1
 | false=>exact⟨.bl false,H1,I1,rfl,q1⟩
theorem Ei(ha:PE X a ta)(hb:PE X (.BoolOp .Or (b::rest) pos) tb):PE X (.BoolOp .Or (a::b::rest) pos) (E3 ta tb):=by
 intro pins s σ H Q I h
 refine BoolOp_or (cc (ha pins s σ H _ I h) fun v s1 ⟨x,H1,I1,r1,q1⟩=>?_)
 obtain⟨c,rfl,q1⟩:=q1
 cases r1
 refine wpAny_truthy_bool ?_
 cases c with
 | false=>exact hb pins s1 σ H1 Q I1 q1
 | true=>exact⟨.bl true,H1,I1,rfl,q1⟩
end
end L2
namespace L2
open PySem PySem.Spec PyProof.Rows
def aI(K:PySem.W.Frag)(H:Hp)(a:Addr)(xs:List V):Prop :=
 Rd H a (.lst xs) ∨
  ∃ (o:Obj) (its:Array Value) (n:Nat),K.lookup a=some o∧o.cls=.type "list"∧o.dict=none∧o.data=.seq its n∧its.size≤sizeLine∧Vals xs its.toList
def cg(K:PySem.W.Frag)(H:Hp)(a:Addr)(xs:List V):Prop :=
 Rd H a (.tup xs) ∨
  ∃ (o:Obj) (its:Array Value) (n:Nat),K.lookup a=some o∧o.cls=.type "tuple"∧o.data=.seq its n∧its.size≤sizeLine∧Vals xs its.toList
def Fi:Value→Option V
 | .none=>some .non
 | .bool b=>some (.bl b)
 | .int i _=>some (.int i)
 | .str x _=>some (.str x)
 | .bytes b _=>some (.byt b)
 | .float b _=>some (.flt b)
 | .ref a=>some (.ref a)
 | .type n=>some (.ty n)
 | _=>none
theorem RelV.abs{x:V}{u:Value}(r:RelV x u):Fi u=some x:=by
 cases x with
 | non=>cases r;rfl
 | bl _=>cases r;rfl
 | int _=>obtain⟨t,rfl⟩:=r;rfl
 | str _=>obtain⟨t,rfl⟩:=r;rfl
 | byt _=>obtain⟨t,rfl⟩:=r;rfl
 | flt _=>obtain⟨t,rfl⟩:=r;rfl
 | ref _=>cases r;rfl
 | ty _=>cases r;rfl
theorem RelV.inj{x y:V}{u:Value}(r:RelV x u)(q:RelV y u):x=y:=Option.some.inj (r.abs.symm.trans q.abs)
theorem Vals.inj:∀ {xs ys:List V} {us:List Value},Vals xs us→Vals ys us→xs=ys
 | _,_,_,.nil,.nil=>rfl
 | _,_,_,.cons r t,.cons r' t'=>by rw [r.inj r',Vals.inj t t']
section
variable {X:Cx}{pins:List (Addr × Obj)}{σ:St}{H:Hp}{s:Shared}{a:Addr}{xs ys:List V}
theorem aI.of{K:PySem.W.Frag}(h:H a=some (.lst xs)):aI K H a xs:=.inl (.inl h)
theorem cg.of{K:PySem.W.Frag}(h:H a=some (.tup xs)):cg K H a xs:=.inl (.inl h)
theorem Inv.list(I:Inv X pins σ H s)(h:aI X.K H a xs):∃ its:List Value,Vals xs its∧PlainL s.heap a its.toArray∧xs.length≤sizeLine:=by
 rcases h with h | ⟨o,its,n,hk,hc,hd,hs,hz,r⟩
 ·obtain⟨z,its,n,r,e⟩:=h.ok I.hok
  exact⟨its,r,⟨_,n,e,rfl,rfl,rfl⟩,z⟩
 ·refine⟨its.toList,r,⟨o,n,I.fi a o hk,hc,hd,by simpa using hs⟩,?_⟩
  have e:=r.length
  simp only [Array.length_toList] at e
  lia
theorem Inv.tuple(I:Inv X pins σ H s)(h:cg X.K H a xs):∃ its:List Value,Vals xs its∧IsTup s.heap a its.toArray∧xs.length≤sizeLine:=by
 rcases h with h | ⟨o,its,n,hk,hc,hs,hz,r⟩
 ·obtain⟨z,its,r,p⟩:=h.ok I.hok
  exact⟨its,r,p,z⟩
 ·refine⟨its.toList,r,⟨o,I.fi a o hk,hc,n,by simpa using hs⟩,?_⟩
  have e:=r.length
  simp only [Array.length_toList] at e
  lia
theorem Inv.jg(I:Inv X pins σ H s)(h:aI X.K H a xs)(h':aI X.K H a ys):xs=ys:=by
 obtain⟨its,r,⟨o,n,e,_,_,d⟩,_⟩:=I.list h
 obtain⟨its',r',⟨o',n',e',_,_,d'⟩,_⟩:=I.list h'
 rw [e] at e';cases e'
 rw [d] at d'
 injection d' with d1 _
 have:its=its':=by simpa using congrArg Array.toList d1
 subst this
 exact r.inj r'
theorem Inv.wR(I:Inv X pins σ H s)(h:cg X.K H a xs)(h':cg X.K H a ys):xs=ys:=by
 obtain⟨its,r,⟨o,e,_,n,d⟩,_⟩:=I.tuple h
 obtain⟨its',r',⟨o',e',_,n',d'⟩,_⟩:=I.tuple h'
 rw [e] at e';cases e'
 rw [d] at d'
 injection d' with d1 _
 have:its=its':=by simpa using congrArg Array.toList d1
 subst this
 exact r.inj r'
end
abbrev Cx.nu(X:Cx)(E:Value→Shared→Prop):Cx:={ X with xe:=E }
abbrev Cx.zK(X:Cx):Cx:=X.nu fun _ _=>False
theorem Cx.Ok.nu{X:Cx}(ok:X.Ok)(E:Value→Shared→Prop):(X.nu E).Ok :=
 ⟨ok.mod,ok.kind,ok.glob,ok.blt,ok.above,ok.inj,ok.has,ok.cab,ok.hd,ok.frames,ok.stk,ok.exf,ok.bs,ok.bsz,ok.noex,ok.exfs,ok.hV,ok.frf⟩
theorem Cx.Ok.iu{X:Cx}{E:Value→Shared→Prop}(ok:(X.nu E).Ok):X.Ok :=
 ⟨ok.mod,ok.kind,ok.glob,ok.blt,ok.above,ok.inj,ok.has,ok.cab,ok.hd,ok.frames,ok.stk,ok.exf,ok.bs,ok.bsz,ok.noex,ok.exfs,ok.hV,ok.frf⟩
section
variable {X:Cx}{pins:List (Addr × Obj)}{σ:St}{H:Hp}{s:Shared}{E:Value→Shared→Prop}
theorem Inv.nu(I:Inv X pins σ H s)(E:Value→Shared→Prop):Inv (X.nu E) pins σ H s:=⟨I.ok.nu E,I.os,I.bare,I.base,I.loc,I.cell,I.free,I.freeC,I.pin,I.hok,I.len⟩
theorem Inv.iu(I:Inv (X.nu E) pins σ H s):Inv X pins σ H s:=⟨I.ok.iu,I.os,I.bare,I.base,I.loc,I.cell,I.free,I.freeC,I.pin,I.hok,I.len⟩
theorem SP.iu{D:Ends}{f:Flow}{s':Shared}(h:SP (X.nu E) pins D f s'):SP X pins D f s':=by
 cases f with
 | next=>obtain⟨σ',H',I,q⟩:=h;exact⟨σ',H',I.iu,q⟩
 | brk=>obtain⟨σ',H',I,q⟩:=h;exact⟨σ',H',I.iu,q⟩
 | cont=>obtain⟨σ',H',I,q⟩:=h;exact⟨σ',H',I.iu,q⟩
 | ret u=>obtain⟨v,σ',H',I,r,q⟩:=h;exact⟨v,σ',H',I.iu,r,q⟩
theorem qV.zK{st:List Stmt}{t:TS}(h:qV X.zK st t):qV X st t:=fun pins s σ H D I hw =>
 wpAny_mono (h pins s σ H D (I.nu _) hw) (fun _ _ q=>q.iu) fun _ _ z=>False.elim z
end
section
variable {X:Cx}{st:Stmt}{rest:List Stmt}{t u:TS}{e:Expr}{te:TE}{pos:Pos}
def Dz:TS:=fun D σ H=>D.nx σ H
def Dh(t u:TS):TS:=fun D σ H=>t { D with nx:=u D } σ H
theorem aX:qV X [] Dz:=fun _ _ σ H _ I h=>wpAny_execs_nil ⟨σ,H,I,h⟩
theorem aj(h1:PS X st t)(h2:qV X rest u):qV X (st::rest) (Dh t u):=by
 intro pins s σ H D I h
 refine wpAny_execs_cons (cc (h1 pins s σ H { D with nx:=u D } I h) fun f s1 q=>?_)
 cases f with
 | next =>
  obtain⟨σ',H',I',q⟩:=q
  exact h2 pins s1 σ' H' D I' q
 | ret v=>exact q
 | brk=>exact q
 | cont=>exact q
theorem au(h1:PS X st t):qV X [st] t:=by
 intro pins s σ H D I h
 refine wpAny_execs_cons (cc (h1 pins s σ H D I h) fun f s1 q=>?_)
 cases f with
 | next=>exact wpAny_execs_nil q
 | ret v=>exact q
 | brk=>exact q
 | cont=>exact q
theorem Inv.quiet{pins:List (Addr × Obj)}{σ:St}{H:Hp}{s:Shared}(I:Inv X pins σ H s):interactive X.env=false:=by simp [interactive,I.ok.kind]
def Dm(te:TE):TS:=fun D σ H=>te σ H fun _ H1=>D.nx σ H1
theorem cD(he:PE X e te)(hs:swapsWith e none pos.line X.env=pure false:=by rfl):PS X (.Expr e pos) (Dm te):=by
 intro pins s σ H D I h
 exact wpAny_Expr_any (cc (he pins s σ H _ I h) fun v s1 ⟨x,H1,I1,r1,q1⟩=>⟨σ,H1,I1,q1⟩) I.quiet hs
def EU(te:TE):TS:=fun D σ H=>te σ H D.rt
theorem aK(he:PE X e te):PS X (.Return (some e) pos) (EU te):=by
 intro pins s σ H D I h
 exact wpAny_Return_some (cc (he pins s σ H _ I h) fun v s1 ⟨x,H1,I1,r1,q1⟩=>⟨x,σ,H1,I1,r1,q1⟩)
def Es(c:TT)(t u:TS):TS:=fun D σ H=>c σ H fun b H1=>if b=true then t D σ H1 else u D σ H1
theorem bB{c:Expr}{a b:List Stmt}{tc:TT}(hc:PT X c tc)(ha:qV X a t)(hb:qV X b u):PS X (.If c a b pos) (Es tc t u):=by
 intro pins s σ H D I h
 refine wpAny_If (cc (hc pins s σ H _ I h) fun d s1 ⟨H1,I1,q1⟩=>?_)
 cases d with
 | true=>exact ha pins s1 σ H1 D I1 q1
 | false=>exact hb pins s1 σ H1 D I1 q1
def B2:TS:=fun _ _ _=>False
theorem iD{sts:List Stmt}:qV X sts B2:=fun _ _ _ _ _ _ h=>h.elim
end
abbrev TG:=V→St→Hp→(St→Hp→Prop)→Prop
abbrev Bd:=List V→St→Hp→(St→Hp→Prop)→Prop
def PG(X:Cx)(target:Expr)(t:TG):Prop :=
 ∀ (pins:List (Addr × Obj)) (s:Shared) (σ:St) (H:Hp) (v:V) (u:Value) (Q:St→Hp→Prop),Inv X pins σ H s→RelV v u→t v σ H Q →
  wpAny (model X.prog X.w) X.A (assign target X.env u) (fun _ s'=>∃ σ' H',Inv X pins σ' H' s'∧Q σ' H') X.xe s
def Ej(X:Cx)(ts:List Expr)(t:Bd):Prop :=
 ∀ (pins:List (Addr × Obj)) (s:Shared) (σ:St) (H:Hp) (vs:List V) (us:List Value) (Q:St→Hp→Prop),Inv X pins σ H s→Vals vs us→t vs σ H Q →
  wpAny (model X.prog X.w) X.A (assignInOrder ((assignEach ts X.env).map (·.2)) us) (fun _ s'=>∃ σ' H',Inv X pins σ' H' s'∧Q σ' H') X.xe s
abbrev Bx:=V→V→V→Hp→(Hp→Prop)→Prop
def Ec(X:Cx)(t:Bx):Prop :=
 ∀ (pins:List (Addr × Obj)) (s:Shared) (σ:St) (H:Hp) (o i v:V) (ov iv u:Value) (Q:Hp→Prop),Inv X pins σ H s→RelV o ov→RelV i iv→RelV v u→t o i v H Q →
  wpAny (model X.prog X.w) X.A (setItem ov iv u) (fun _ s'=>∃ H',Inv X pins σ H' s'∧Q H') X.xe s
section
variable {X:Cx}{pos:Pos}
def dU(i:Nat):TG:=fun v σ H Q=>Q (σ.set i (some v)) H
theorem aA{i:Nat}{x:Str}(hN:X.N.Nodup)(hi:X.N[i]?=some x)(hx:Loc X.env.scope x)(hf:X.fn x=true∨X.env.scope.names.lookup x=some .local:=by first | exact .inl rfl | exact .inr rfl | assumption):PG X (.Name x pos) (dU i):=by
 intro pins s σ H v u Q I r h
 exact wpAny_assign_Name (jS I hN hi hx r (fun s' I'=>⟨_,H,I',h⟩) hf)
def Ew:Bd:=fun vs σ H Q=>vs=[]∧Q σ H
def CQ(t:TG)(u:Bd):Bd:=fun vs σ H Q=>∃ v r,vs=v::r∧t v σ H fun σ' H'=>u r σ' H' Q
theorem dE:Ej X [] Ew:=by
 intro pins s σ H vs us Q I r h
 obtain⟨e,h⟩:=h
 subst e
 cases r
 exact assignInOrder_nil ⟨σ,H,I,h⟩
theorem bh{e:Expr}{es:List Expr}{t:TG}{u:Bd}(h1:PG X e t)(h2:Ej X es u)
  (hs:(assignEach (e::es) X.env).map (·.2)=assign e X.env::(assignEach es X.env).map (·.2):=by rfl):Ej X (e::es) (CQ t u):=by
 intro pins s σ H vs us Q I r h
 obtain⟨v,vr,e1,h⟩:=h
 subst e1
 cases r with
 | cons r rr =>
  rw [hs]
  refine assignInOrder_cons (cc (h1 pins s σ H _ _ _ I r h) fun _ s1 ⟨σ1,H1,I1,q1⟩=>?_)
  exact h2 pins s1 σ1 H1 _ _ Q I1 rr q1
def ER(K:PySem.W.Frag)(n:Nat)(t:Bd):TG:=fun v σ H Q=>∃ a xs,v=.ref a∧cg K H a xs∧xs.length=n∧t xs σ H Q
theorem eB{es:List Expr}{k:Nat}{t:Bd}{n:Nat}(hc:X.calm=true)(h:Ej X es t)
  (hn:(assignEach es X.env).length=n:=by rfl) (hst:(assignEach es X.env).findIdx? (·.1)=none:=by rfl):PG X (.Tuple es k pos) (ER X.K n t):=by
 intro pins s σ H v u Q I r hw
 obtain⟨a,xs,e1,hq,hl,hw⟩:=hw
 subst e1
 cases r
 obtain⟨its,rv,ht,hz⟩:=I.tuple hq
 refine assign_Tuple_tuple (I.ok.hd hc) ht (by simp [hn,← hl,rv.length]) hst fun h' hx=>?_
 have I1:Inv X pins σ H { s with heap:=h' }:=I.kept (t':=s.toks) fun b o e=>hx b o (Nat.ne_of_lt (Heap.lt_size e)) e
 exact h pins _ σ H xs _ Q I1 (by simpa using rv) hw
def Fl(to ti:TE)(t:Bx):TG:=fun v σ H Q=>to σ H fun o H1=>ti σ H1 fun i H2=>t o i v H2 fun H3=>Q σ H3
theorem B4{o i:Expr}{to ti:TE}{t:Bx}(ho:PE X o to)(hi:PE X i ti)(hs:Ec X t)
  (ha:∀ v,assign (.Subscript o i pos) X.env v = (do
   let ov ← holding [v] (eval o X.env)
   let iv ← holding [v,ov] (eval i X.env)
   standAt pos
   holding [v,ov,iv] (setItem ov iv v)
   release [v,ov,iv] []):=by intro _;rfl):PG X (.Subscript o i pos) (Fl to ti t):=by
 intro pins s σ H v u Q I r h
 rw [ha]
 refine wpAny_bind (wpAny_holding (cc (ho pins s σ H _ I h) fun ov s1 ⟨x,H1,I1,r1,q1⟩=>?_))
 refine wpAny_bind (wpAny_holding (cc (hi pins s1 σ H1 _ I1 q1) fun iv s2 ⟨y,H2,I2,r2,q2⟩=>?_))
 refine wpAny_bind (wpAny_standAt (wpAny_bind (wpAny_holding (cc (hs pins s2 σ H2 x y v ov iv u _ I2 r1 r2 r q2) fun _ s3 ⟨H3,I3,q3⟩=>?_))))
 exact wpAny_release ⟨σ,H3,I3,q3⟩
def Bc(te:TE)(g:TG):TS:=fun D σ H=>te σ H fun x H1=>g x σ H1 D.nx
theorem uh{tg e:Expr}{te:TE}{g:TG}(he:PE X e te)(hg:PG X tg g)(hs:swapsWithSole [tg] e pos.line X.env=pure false:=by rfl)(hw:swappedStores [tg] e X.env=pure none:=by rfl)
  (h1:(assignEach [tg] X.env).map (·.2)=[assign tg X.env]:=by rfl):PS X (.Assign [tg] e pos) (Bc te g):=by
 intro pins s σ H D I h
 refine wpAny_Assign_stores (cc (he pins s σ H _ I h) fun v s1 ⟨x,H1,I1,r1,q1⟩=>?_) hs hw
 rw [h1]
 exact cc (hg pins s1 σ H1 x v _ I1 r1 q1) fun _ s2 q=>q
theorem aN{i:Nat}{x:Str}{e:Expr}{te:TE}{pos':Pos}(hN:X.N.Nodup)(hi:X.N[i]?=some x)(hx:Loc X.env.scope x)(he:PE X e te)(hs:swapsWith e (some (.Name x pos')) pos.line X.env=pure false:=by rfl)(hf:X.fn x=true∨X.env.scope.names.lookup x=some .local:=by first | exact .inl rfl | exact .inr rfl | assumption) :
  PS X (.Assign [.Name x pos'] e pos) (Bc te (dU i)):=by
 intro pins s σ H D I h
 refine wpAny_Assign_Name (cc (he pins s σ H _ I h) fun v s1 ⟨y,H1,I1,r1,q1⟩=>?_) hs
 exact jS I1 hN hi hx r1 (fun s2 I2=>⟨_,H1,I2,q1⟩) hf
end
section
variable {X:Cx}{pos:Pos}
def BG(c:TT)(tb:TS):TS:=fun D σ H=>∃ W:Nat→St→Hp→Prop,(∃ m,W m σ H)∧∀ m σ H,W m σ H →
 c σ H fun b H1=>if b=true then ∃ N:St→Hp→Prop,(∀ σ' H',N σ' H'→∃ m',m'<m∧W m' σ' H')∧tb { D with nx:=N,ct:=N,bk:=D.nx } σ H1 else D.nx σ H1
theorem yl{c:Expr}{body:List Stmt}{tc:TT}{tb:TS}(hp:PassesOwn (model X.prog X.w) X.A X.env X.xe)(hc:PT X c tc)(hb:qV X body tb):PS X (.While c body [] pos) (BG tc tb):=by
 intro pins s σ H D I h
 obtain⟨W,⟨m0,w0⟩,turn⟩:=h
 refine wpAny_While (codeAny_whileLoop (fun n s'=>∃ σ' H',Inv X pins σ' H' s'∧W n σ' H') ?_ m0 ⟨σ,H,I,w0⟩)
 rintro n s1 ⟨σ1,H1,I1,w1⟩
 refine wpAny_passesOwn hp (cc (hc pins s1 σ1 H1 _ I1 (turn n σ1 H1 w1)) fun b s2 ⟨H2,I2,q2⟩=>?_)
 cases b with
 | true =>
  obtain⟨N,hN,q2⟩:=q2
  rw [if_pos rfl]
  refine wpAny_passesOwn hp (cc (hb pins s2 σ1 H2 _ I2 q2) fun f s3 q3=>?_)
  cases f with
  | next =>
   obtain⟨σ3,H3,I3,n3⟩:=q3
   obtain⟨m',hm,w3⟩:=hN σ3 H3 n3
   exact⟨m',hm,σ3,H3,I3,w3⟩
  | cont =>
   obtain⟨σ3,H3,I3,n3⟩:=q3
   obtain⟨m',hm,w3⟩:=hN σ3 H3 n3
   exact⟨m',hm,σ3,H3,I3,w3⟩
  | brk=>exact q3
  | ret v=>exact q3
 | false =>
  rw [if_neg Bool.false_ne_true]
  exact wpAny_execs_nil ⟨σ1,H2,I2,q2⟩
end
structure It where
 go:Nat→Hp→Prop
 yld:Nat→Hp→V→Hp→Prop
 stop:Nat→Hp→Prop
def gP(X:Cx)(pins:List (Addr × Obj))(H:Hp)(b:Addr):Prop :=
 H b=none∧b≠X.env.locals∧b∉X.fs∧(b∈X.ex∨X.s₀.heap.objs.size≤b)∧(∀ x c,X.env.cells.lookup x=some c→c≠b)∧∀ p∈X.pn++pins,p.1≠b
theorem Inv.tD{X:Cx}{pins:List (Addr × Obj)}{σ:St}{H H':Hp}{s:Shared}{b:Addr}(I:Inv X pins σ H s)(hb:s.heap.objs.size≤b)(hn:H' b=none):gP X pins H' b:=by
 refine⟨hn,Nat.ne_of_gt (Nat.lt_of_lt_of_le I.lt hb),I.EI hb,.inr (Nat.le_trans I.sz hb),fun x c e z=>?_,fun p hp z=>?_⟩
 ·obtain⟨v,q⟩:=I.cell x c e
  exact absurd (Nat.lt_of_lt_of_le q.lt (by rw [z];exact hb)) (Nat.lt_irrefl _)
 ·exact absurd (Nat.lt_of_lt_of_le (Heap.lt_size (I.pin p hp).1) (by rw [z];exact hb)) (Nat.lt_irrefl _)
structure Turn(P:Program)(w:World)(K:PySem.W.Frag)(tg:Expr)(J:It)(fp:List Addr)(it:Addr)(tn:Nat→Heap→Prop):Prop where
 mem:it∈fp
 obj:∀ i h,tn i h→∀ b∈fp,∃ o,h.get? b=some o∧∀ v,o.data≠.cell v
 keep:∀ i h h',tn i h→(∀ b∈fp,∀ o,h.get? b=some o→h'.get? b=some o)→tn i h'
 item:∀ (X:Cx),X.prog=P→X.w=w→X.K=K→X.calm=true→∀ (i:Nat) (pins:List (Addr × Obj)) (s:Shared) (σ:St) (H:Hp) (E:Value→Shared→Prop),Inv X pins σ H s→(∀ b∈fp,gP X pins H b)→tn i s.heap→J.go i H →
  wpAny (model P w) X.A (pyNext (.ref it)) (fun r s1=>∃ u,r=some u ∧
   wpAny (model P w) X.A (letOwnedTupleGo tg (.ref it) u) (fun _ s2=>∃ x H',Inv X pins σ H' s2∧RelV x u∧J.yld i H x H'∧tn (i+1) s2.heap∧∀ b∈fp,H' b=none) E s1) E s
 done:∀ (X:Cx),X.prog=P→X.w=w→X.K=K→X.calm=true→∀ (i:Nat) (pins:List (Addr × Obj)) (s:Shared) (σ:St) (H:Hp) (E:Value→Shared→Prop),Inv X pins σ H s→(∀ b∈fp,gP X pins H b)→tn i s.heap→J.stop i H →
  wpAny (model P w) X.A (pyNext (.ref it)) (fun r s1=>r=none∧Inv X pins σ H s1) E s
 self:∀ (A:Around) (i:Nat) (s:Shared) (Q:Value→Shared→Prop) (E:Value→Shared→Prop),tn i s.heap→Q (.ref it) s→wpAny (model P w) A (pyIter (.ref it)) Q E s
abbrev TI:=St→Hp→(It→Hp→Prop)→Prop
def PIE(X:Cx)(pins:List (Addr × Obj))(σ:St)(tg:Expr)(R:It→Hp→Prop)(itv:Value)(s2:Shared):Prop :=
 ∃ (it:Addr) (fp:List Addr) (tn:Nat→Heap→Prop) (J:It) (H':Hp),itv=.ref it∧Inv X pins σ H' s2∧Turn X.prog X.w X.K tg J fp it tn∧tn 0 s2.heap∧(∀ b∈fp,gP X pins H' b)∧R J H'
def PI(X:Cx)(tg iter:Expr)(wi:TI):Prop :=
 ∀ (pins:List (Addr × Obj)) (s:Shared) (σ:St) (H:Hp) (R:It→Hp→Prop),Inv X pins σ H s→wi σ H R →
  wpAny (model X.prog X.w) X.A (eval iter X.env) (fun v s1=>wpAny (model X.prog X.w) X.A (pyIter v) (PIE X pins σ tg R) X.xe s1) X.xe s
theorem qL{M:Model}{A:Around}{E:Value→Shared→Prop}{s:Shared}{tg:Expr}{it:Addr}{u:Value}{o:Obj}{n:String}{vs:Array Value}{Q:Unit→Shared→Prop}(ho:s.heap.get? it=some o)(hc:o.cls=.type n)(hd:o.data=.fields vs)
    (hn:["enumerate", "zip", "dict_itemiterator", "dict_reverseitemiterator", "odict_iterator", "itertools.zip_longest", "itertools.pairwise"].contains n=false) (hQ:Q () s):wpAny M A (letOwnedTupleGo tg (.ref it) u) Q E s:=by
  unfold letOwnedTupleGo
  cases tg <;> first
    | exact wpAny_pure hQ
    | (cases u <;> first
        | exact wpAny_pure hQ
        | (refine wpAny_bind (wpAny_load ho ?_)
           rw [hc,hd]
           show wpAny M A (if (["enumerate", "zip", "dict_itemiterator", "dict_reverseitemiterator", "odict_iterator", "itertools.zip_longest", "itertools.pairwise"].contains n&&vs[0]?==some (rawInt _))=true then _ else _) Q E s
           rw [if_neg (by intro h;rw [hn,Bool.false_and] at h;cases h)]
           exact wpAny_pure hQ))
def CK(K:PySem.W.Frag)(a:Addr):It :=
 ⟨fun i H=>∃ xs x,aI K H a xs∧xs[i]?=some x,fun i H x H'=>H'=H∧∀ xs,aI K H a xs→xs[i]?=some x,fun i H=>∃ xs,aI K H a xs∧xs.length≤i⟩
def EV(K:PySem.W.Frag)(a:Addr):It :=
 ⟨fun i H=>∃ xs x,cg K H a xs∧xs[i]?=some x,fun i H x H'=>H'=H∧∀ xs,cg K H a xs→xs[i]?=some x,fun i H=>∃ xs,cg K H a xs∧xs.length≤i⟩
def Bq(lo:Int)(n:Nat):It:=⟨fun i _=>i<n,fun i H x H'=>H'=H∧x=.int (lo+i),fun i _=>n≤i⟩
theorem vV{P:Program}{w:World}{K:PySem.W.Frag}{tg:Expr}(a it:Addr):Turn P w K tg (CK K a) [it] it (fun i h=>h.IsListIter it a i) where
 mem:=by simp
 obj:=fun i h st b hb=>by
  have e:b=it:=by simpa using hb
  subst e
  obtain⟨o,e,c,d⟩:=st
  exact⟨o,e,fun v z=>by rw [d] at z;cases z⟩
 keep:=fun i h h' st k=>st.at fun o e=>k it (by simp) o e
 item:=by
  intro X hP hw hK hc i pins s σ H E I hf st hg
  subst hP hw hK
  obtain⟨xs,x,hq,hx⟩:=hg
  obtain⟨its,rv,p,hz⟩:=I.list hq
  obtain⟨u,hu,ru⟩:=rv.get hx
  obtain⟨f0,f1,f2,f3,f4,f5⟩:=hf it (by simp)
  refine wpAny_pyNext_list_item st p.isList (x:=u) (by simpa using hu) fun h' st' sb=>?_
  have I1:Inv X pins σ H { s with heap:=h' }:=I.turned (t':=s.toks) (fun b o hb e=>(sb.2 b hb).trans e) f0 f1 f3 f4 f5
  obtain⟨o,e,c,d⟩:=id st'
  exact⟨u,rfl,qL (s:={ s with heap:=h' }) e c d (by decide) ⟨x,H,I1,ru,⟨rfl,fun ys hy=>by rw [I.jg hy hq];exact hx⟩,st',fun b hb=>(hf b hb).1⟩⟩
 done:=by
  intro X hP hw hK hc i pins s σ H E I hf st hg
  subst hP hw hK
  obtain⟨xs,hq,hx⟩:=hg
  obtain⟨its,rv,p,hz⟩:=I.list hq
  obtain⟨f0,f1,f2,f3,f4,f5⟩:=hf it (by simp)
  have hl:=rv.length
  exact wpAny_pyNext_list_end (I.ok.hd hc) st p.isList (by simp;lia) fun h' eb=>⟨rfl,I.turned (t':=s.toks) (fun b o hb e=>eb b o hb e) f0 f1 f3 f4 f5⟩
 self:=fun _ _ _ _ _ st h=>wpAny_pyIter_listiter st h
theorem sP{P:Program}{w:World}{K:PySem.W.Frag}{tg:Expr}(a it:Addr):Turn P w K tg (EV K a) [it] it (fun i h=>h.IsTupleIter it a i) where
 mem:=by simp
 obj:=fun i h st b hb=>by
  have e:b=it:=by simpa using hb
  subst e
  obtain⟨o,e,c,d⟩:=st
  exact⟨o,e,fun v z=>by rw [d] at z;cases z⟩
 keep:=fun i h h' st k=>st.at fun o e=>k it (by simp) o e
 item:=by
  intro X hP hw hK hc i pins s σ H E I hf st hg
  subst hP hw hK
  obtain⟨xs,x,hq,hx⟩:=hg
  obtain⟨its,rv,p,hz⟩:=I.tuple hq
  obtain⟨u,hu,ru⟩:=rv.get hx
  obtain⟨f0,f1,f2,f3,f4,f5⟩:=hf it (by simp)
  refine wpAny_pyNext_tuple_item st (show s.heap.IsTuple a its.toArray from p) (x:=u) (by simpa using hu) fun h' st' sb=>?_
  have I1:Inv X pins σ H { s with heap:=h' }:=I.turned (t':=s.toks) (fun b o hb e=>(sb.2 b hb).trans e) f0 f1 f3 f4 f5
  obtain⟨o,e,c,d⟩:=id st'
  exact⟨u,rfl,qL (s:={ s with heap:=h' }) e c d (by decide) ⟨x,H,I1,ru,⟨rfl,fun ys hy=>by rw [I.wR hy hq];exact hx⟩,st',fun b hb=>(hf b hb).1⟩⟩
 done:=by
  intro X hP hw hK hc i pins s σ H E I hf st hg
  subst hP hw hK
  obtain⟨xs,hq,hx⟩:=hg
  obtain⟨its,rv,p,hz⟩:=I.tuple hq
  obtain⟨f0,f1,f2,f3,f4,f5⟩:=hf it (by simp)
  have hl:=rv.length
  exact wpAny_pyNext_tuple_end (I.ok.hd hc) st (show s.heap.IsTuple a its.toArray from p) (by simp;lia) fun h' eb=>⟨rfl,I.turned (t':=s.toks) (fun b o hb e=>eb b o hb e) f0 f1 f3 f4 f5⟩
 self:=fun _ _ _ _ _ st h=>wpAny_pyIter_tupleiter st h
theorem tZ{P:Program}{w:World}{K:PySem.W.Frag}{tg:Expr}(it:Addr)(lo:Int)(n:Nat):Turn P w K tg (Bq lo n) [it] it (fun i h=>IsRangeIter h it (lo+(i:Nat)*1) ((n:Int)-(i:Nat)) 1) where
 mem:=by simp
 obj:=fun i h st b hb=>by
  have e:b=it:=by simpa using hb
  subst e
  exact⟨_,st,fun v z=>by
   have z':Data.fields _=Data.cell v:=z
   cases z'⟩
 keep:=fun i h h' st k=>k it (by simp) _ st
 item:=by
  intro X hP hw hK hc i pins s σ H E I hf st hg
  subst hP hw hK
  obtain⟨f0,f1,f2,f3,f4,f5⟩:=hf it (by simp)
  have W:=Walks.range (prog:=X.prog) (w:=X.w) (I.ok.hd hc) it lo 1 n
  refine W.item i s _ _ hg st fun v h' tk hv st' kk=>?_
  obtain⟨t,rfl⟩:=hv
  have I1:Inv X pins σ H { s with heap:=h',toks:=tk }:=I.turned (fun b o hb e=>kk b o (by simpa using hb) e) f0 f1 f3 f4 f5
  refine⟨_,rfl,qL (s:={ s with heap:=h',toks:=tk }) (n:="range_iterator") st' rfl rfl (by decide) ⟨.int (lo+i),H,I1,⟨t,?_⟩,⟨rfl,rfl⟩,st',fun b hb=>(hf b hb).1⟩⟩
  rw [Int.mul_one]
 done:=by
  intro X hP hw hK hc i pins s σ H E I hf st hg
  subst hP hw hK
  obtain⟨f0,f1,f2,f3,f4,f5⟩:=hf it (by simp)
  exact wpAny_pyNext_range_end (I.ok.hd hc) st (by have:n≤i:=hg;lia) fun h' eb=>⟨rfl,I.turned (t':=s.toks) (fun b o hb e=>eb b o hb e) f0 f1 f3 f4 f5⟩
 self:=fun _ _ _ _ _ st h=>wpAny_pyIter_rangeiter st h
end L2
namespace L2
open PySem PySem.Spec PyProof.Rows
section
variable {X:Cx}{tg:Expr}
def Dy(K:PySem.W.Frag)(tl:TE):TI:=fun σ H R=>tl σ H fun x H1=>∃ a,x=.ref a∧(∃ xs,aI K H1 a xs)∧R (CK K a) H1
def Fd(K:PySem.W.Frag)(tl:TE):TI:=fun σ H R=>tl σ H fun x H1=>∃ a,x=.ref a∧(∃ xs,cg K H1 a xs)∧R (EV K a) H1
theorem bx{l:Expr}{tl:TE}(hl:PE X l tl):PI X tg l (Dy X.K tl):=by
 intro pins s σ H R I h
 refine cc (hl pins s σ H _ I h) fun v s1 ⟨x,H1,I1,r1,q1⟩=>?_
 obtain⟨a,e,⟨xs,hq⟩,q⟩:=q1
 subst e
 cases r1
 obtain⟨its,rv,p,hz⟩:=I1.list hq
 refine wpAny_pyIter_list p.isList ?_
 refine⟨s1.heap.objs.size,[s1.heap.objs.size],_,_,H1,rfl,I1.kept (t':=s1.toks) fun b o e=>Heap.get?_push_of_some _ e,vV a _,⟨_,Heap.get?_push_size _ rfl,rfl,rfl⟩,fun b hb=>?_,q⟩
 have e:b=s1.heap.objs.size:=by simpa using hb
 subst e
 exact I1.tD (Nat.le_refl _) (I1.hok.fresh (Nat.le_refl _))
theorem xB{l:Expr}{tl:TE}(hl:PE X l tl):PI X tg l (Fd X.K tl):=by
 intro pins s σ H R I h
 refine cc (hl pins s σ H _ I h) fun v s1 ⟨x,H1,I1,r1,q1⟩=>?_
 obtain⟨a,e,⟨xs,hq⟩,q⟩:=q1
 subst e
 cases r1
 obtain⟨its,rv,p,hz⟩:=I1.tuple hq
 refine wpAny_pyIter_tuple (show s1.heap.IsTuple a its.toArray from p) ?_
 refine⟨s1.heap.objs.size,[s1.heap.objs.size],_,_,H1,rfl,I1.kept (t':=s1.toks) fun b o e=>Heap.get?_push_of_some _ e,sP a _,⟨_,Heap.get?_push_size _ rfl,rfl,rfl⟩,fun b hb=>?_,q⟩
 have e:b=s1.heap.objs.size:=by simpa using hb
 subst e
 exact I1.tD (Nat.le_refl _) (I1.hok.fresh (Nat.le_refl _))
theorem x4{pins:List (Addr × Obj)}{σ:St}{H:Hp}{s:Shared}{R:It→Hp→Prop}{E:Value→Shared→Prop}{lo hi:Int}{t u v:Tok}{tk:Nat}(I:Inv X pins σ H s)(h1 : -(2 ^ 62)≤lo)(h2:lo<2 ^ 62)(h3 : -(2 ^ 62)≤hi)(h4:hi<2 ^ 62)
  (q:R (Bq lo (hi-lo).toNat) H):wpAny (model X.prog X.w) X.A (pyIter (.ref s.heap.objs.size)) (PIE X pins σ tg R) E { s with heap:=s.heap.push { cls:=.type "range",data:=.fields #[.int lo t,.int hi u,.int 1 v] },toks:=tk }:=by
 refine wpAny_pyIter_range (IsRange.new ..) (small_one h1 h2 h3 h4) ?_
 have I1:Inv X pins σ H { s with heap:=s.heap.push { cls:=.type "range",data:=.fields #[.int lo t,.int hi u,.int 1 v] },toks:=tk }:=I.kept fun b o e=>Heap.get?_push_of_some _ e
 refine⟨(s.heap.push { cls:=.type "range",data:=.fields #[.int lo t,.int hi u,.int 1 v] }).objs.size,[(s.heap.push { cls:=.type "range",data:=.fields #[.int lo t,.int hi u,.int 1 v] }).objs.size],_,_,H,rfl,
  I1.kept (t':=tk) fun b o e=>Heap.get?_push_of_some _ e,tZ _ lo (hi-lo).toNat,?_,fun b hb=>?_,q⟩
 ·have e1:lo+((0:Nat):Int)*1=lo:=by simp
  have e2:(((hi-lo).toNat:Nat):Int)-((0:Nat):Int)=Builtin.Range.rangeSize lo hi 1:=by rw [rangeSize_one];split <;> lia
  show IsRangeIter _ _ (lo+((0:Nat):Int)*1) ((((hi-lo).toNat:Nat):Int)-((0:Nat):Int)) 1
  rw [e1,e2]
  exact Heap.get?_push_size _ rfl
 ·have e:b=(s.heap.push { cls:=.type "range",data:=.fields #[.int lo t,.int hi u,.int 1 v] }).objs.size:=by simpa using hb
  subst e
  exact I1.tD (Nat.le_refl _) (I1.hok.fresh (Nat.le_refl _))
def Eg(ta:TA):TI:=fun σ H R=>ta σ H fun vs H1=>∃ j:Int,vs=[.int j]∧-(2 ^ 62)≤j∧j<2 ^ 62∧R (Bq 0 j.toNat) H1
theorem cO{a:Expr}{ta:TA}{p pos:Pos}(hg:Gl X "range")(hm:X.mg "range"=none)(ha:PA X [a] ta)(hs:starEach [a] X.env=[(false,eval a X.env)]:=by rfl):PI X tg (.Call (.Name "range" p) [a] [] pos) (Eg ta):=by
 intro pins s σ H R I h
 refine Call_ (eE I hg hm boot_range (PyProof.Rows.callWith_type1 (cc (ha pos pins s σ H _ I h) fun us s1 ⟨vs,H1,I1,r1,q1⟩=>?_) hs rfl))
 obtain⟨j,e,q1,q2,q⟩:=q1
 subst e
 cases r1 with
 | cons r rr =>
  cases rr
  obtain⟨t,rfl⟩:=r
  exact call_range_1 (x4 I1 (by lia) (by lia) q1 q2 (by simpa using q))
def Fu(wi:TI)(g:TG)(tb:TS):TS:=fun D σ H=>wi σ H fun J H1=>∃ W:Nat→Nat→St→Hp→Prop,(∃ m,W 0 m σ H1)∧∀ i m σ H,W i m σ H →
 (J.stop i H∧D.nx σ H)∨(J.go i H∧∃ N:St→Hp→Prop,(∀ σ' H',N σ' H'→∃ m',m'<m∧W (i+1) m' σ' H')∧∀ x H',J.yld i H x H'→g x σ H' fun σ2 H2=>tb { D with nx:=N,ct:=N,bk:=D.nx } σ2 H2)
def mq(fp:List Addr)(h:Heap):List (Addr × Obj):=fp.filterMap fun b=>(h.get? b).map fun o=>(b,o)
theorem gR{fp:List Addr}{h:Heap}{b:Addr}{o:Obj}(hb:b∈fp)(e:h.get? b=some o):(b,o)∈mq fp h:=List.mem_filterMap.mpr ⟨b,hb,by rw [e];rfl⟩
theorem vC{fp:List Addr}{h:Heap}{p:Addr × Obj}(hp:p∈mq fp h):p.1∈fp∧h.get? p.1=some p.2:=by
 obtain⟨b,hb,e⟩:=List.mem_filterMap.mp hp
 cases q:h.get? b with
 | none=>rw [q] at e;cases e
 | some o =>
  rw [q] at e
  have e':(b,o)=p:=Option.some.inj e
  subst e'
  exact⟨hb,q⟩
theorem Inv.pinned{pins:List (Addr × Obj)}{σ:St}{H:Hp}{s:Shared}{fp:List Addr}(I:Inv X pins σ H s)(hf:∀ b∈fp,gP X pins H b)(ho:∀ b∈fp,∃ o,s.heap.get? b=some o∧∀ v,o.data≠.cell v):Inv X (pins++mq fp s.heap) σ H s :=
 I.u9 fun p hp=>(List.mem_append.mp hp).elim (fun z=>I.pin p (List.mem_append_right _ z)) fun z=>by
  obtain⟨hb,e⟩:=vC z
  obtain⟨f0,f1,f2,_⟩:=hf p.1 hb
  obtain⟨o,e',d⟩:=ho p.1 hb
  rw [e] at e';cases e'
  exact⟨e,f0,f1,f2,d⟩
theorem Inv.jD{pins pl:List (Addr × Obj)}{σ:St}{H:Hp}{s:Shared}(I:Inv X (pins++pl) σ H s):Inv X pins σ H s:=I.u9 fun p hp=>I.pin p (List.mem_append_right _ (List.mem_append_left _ hp))
theorem dA{iter:Expr}{body:List Stmt}{wi:TI}{g:TG}{tb:TS}{pos:Pos}(hp:PassesOwn (model X.prog X.w) X.A X.env X.xe)(hc:X.calm=true)(hi:PI X tg iter wi)(hg:PG X tg g)(hb:qV X body tb)
  (hs:∀ x,foldedSetIterable iter X.env x=pure x:=by intro _;rfl):PS X (.For tg iter body [] pos) (Fu wi g tb):=by
 intro pins s σ H D I h
 refine wpAny_For (cc (hi pins s σ H _ I h) fun v s1 h1=>cc h1 fun itv s2 h2=>?_) hs
 obtain⟨it,fp,tn,J,H2,e,I2,T,st2,f2,W,⟨m0,w0⟩,turn⟩:=h2
 subst e
 have stat:∀ {H':Hp},(∀ b∈fp,H' b=none)→∀ b∈fp,gP X pins H' b:=fun hn b hb=>⟨hn b hb,(f2 b hb).2⟩
 refine codeAny_forLoop_any (fun n s'=>∃ i σ' H',Inv X pins σ' H' s'∧tn i s'.heap∧(∀ b∈fp,H' b=none)∧W i n σ' H') ?_ m0 ⟨0,σ,H2,I2,st2,fun b hb=>(f2 b hb).1,w0⟩
 rintro n s3 ⟨i,σ3,H3,I3,st3,fr3,w3⟩
 rcases turn i n σ3 H3 w3 with⟨stop,qn⟩ | ⟨go,N,hN,step⟩
 ·refine wpAny_passesOwn hp (cc (T.done X rfl rfl rfl hc i pins s3 σ3 H3 X.xe I3 (stat fr3) st3 stop) fun r s4 ⟨hr,I4⟩=>?_)
  subst hr
  exact wpAny_execs_nil ⟨σ3,H3,I4,qn⟩
 ·refine wpAny_passesOwn hp (cc (T.item X rfl rfl rfl hc i pins s3 σ3 H3 X.xe I3 (stat fr3) st3 go) fun r s4 ⟨u,hr,h4⟩=>?_)
  subst hr
  refine wpAny_passesOwn hp (cc h4 fun _ s5 ⟨x,H5,I5,r5,y5,st5,fr5⟩=>?_)
  have I5':=I5.pinned (stat fr5) (T.obj _ _ st5)
  refine wpAny_passesOwn hp (cc (hg _ s5 σ3 H5 x u _ I5' r5 (step x H5 y5)) fun _ s6 ⟨σ6,H6,I6,q6⟩=>?_)
  refine wpAny_passesOwn hp (cc (hb _ s6 σ6 H6 _ I6 q6) fun f s7 q7=>?_)
  have again:∀ {σ7:St} {H7:Hp},Inv X (pins++mq fp s5.heap) σ7 H7 s7→N σ7 H7→∃ m,m<n∧∃ i σ' H',Inv X pins σ' H' s7∧tn i s7.heap∧(∀ b∈fp,H' b=none)∧W i m σ' H':=fun {σ7 H7} I7 n7=>by
   obtain⟨m',hm,w7⟩:=hN σ7 H7 n7
   refine⟨m',hm,i+1,σ7,H7,I7.jD,T.keep _ _ _ st5 fun b hb o e=>(I7.pin (b,o) (List.mem_append_right _ (List.mem_append_right _ (gR hb e)))).1,fun b hb=>?_,w7⟩
   obtain⟨o,e,d⟩:=T.obj _ _ st5 b hb
   exact(I7.pin (b,o) (List.mem_append_right _ (List.mem_append_right _ (gR hb e)))).2.1
  cases f with
  | next=>obtain⟨σ7,H7,I7,n7⟩:=q7;exact again I7 n7
  | cont=>obtain⟨σ7,H7,I7,n7⟩:=q7;exact again I7 n7
  | brk=>obtain⟨σ7,H7,I7,q7⟩:=q7;exact⟨σ7,H7,I7.jD,q7⟩
  | ret v=>obtain⟨x7,σ7,H7,I7,r7,q7⟩:=q7;exact⟨x7,σ7,H7,I7.jD,r7,q7⟩
end
theorem e7{K:PySem.W.Frag}{a:Addr}{xs:List V}{g:TG}{tb:TS}{D:Ends}{σ:St}{H:Hp}(Pv:Nat→St→Hp→Prop)(h0:Pv 0 σ H)(hl:∀ i σ H,i≤xs.length→Pv i σ H→aI K H a xs)
  (hs:∀ i x σ H,xs[i]?=some x→Pv i σ H→g x σ H fun σ2 H2=>tb { D with nx:=Pv (i+1),ct:=Pv (i+1),bk:=D.nx } σ2 H2) (hd:∀ σ H,Pv xs.length σ H→D.nx σ H) :
  ∃ W:Nat→Nat→St→Hp→Prop,(∃ m,W 0 m σ H)∧∀ i m σ H,W i m σ H →
   ((CK K a).stop i H∧D.nx σ H)∨((CK K a).go i H∧∃ N:St→Hp→Prop,(∀ σ' H',N σ' H'→∃ m',m'<m∧W (i+1) m' σ' H')∧∀ x H',(CK K a).yld i H x H'→g x σ H' fun σ2 H2=>tb { D with nx:=N,ct:=N,bk:=D.nx } σ2 H2):=by
 refine⟨fun i m σ H=>m=xs.length-i∧i≤xs.length∧Pv i σ H,⟨xs.length,by simp,Nat.zero_le _,h0⟩,?_⟩
 rintro i m σ H ⟨rfl,hi,p⟩
 have q:=hl i σ H hi p
 by_cases hlt:i<xs.length
 ·refine .inr ⟨⟨xs,xs[i],q,by simp [hlt]⟩,Pv (i+1),fun σ' H' p'=>⟨xs.length-(i+1),by lia,rfl,hlt,p'⟩,fun x H' y=>?_⟩
  obtain⟨e,y⟩:=y
  subst e
  exact hs i x σ _ (y xs q) p
 ·have e:i=xs.length:=by lia
  subst e
  exact .inl ⟨⟨xs,q,Nat.le_refl _⟩,hd σ H p⟩
theorem nR{lo:Int}{n:Nat}{g:TG}{tb:TS}{D:Ends}{σ:St}{H:Hp}(Pv:Nat→St→Hp→Prop)(h0:Pv 0 σ H)
  (hs:∀ i σ H,i<n→Pv i σ H→g (.int (lo+i)) σ H fun σ2 H2=>tb { D with nx:=Pv (i+1),ct:=Pv (i+1),bk:=D.nx } σ2 H2) (hd:∀ σ H,Pv n σ H→D.nx σ H) :
  ∃ W:Nat→Nat→St→Hp→Prop,(∃ m,W 0 m σ H)∧∀ i m σ H,W i m σ H →
   ((Bq lo n).stop i H∧D.nx σ H)∨((Bq lo n).go i H∧∃ N:St→Hp→Prop,(∀ σ' H',N σ' H'→∃ m',m'<m∧W (i+1) m' σ' H')∧∀ x H',(Bq lo n).yld i H x H'→g x σ H' fun σ2 H2=>tb { D with nx:=N,ct:=N,bk:=D.nx } σ2 H2):=by
 refine⟨fun i m σ H=>m=n-i∧i≤n∧Pv i σ H,⟨n,by simp,Nat.zero_le _,h0⟩,?_⟩
 rintro i m σ H ⟨rfl,hi,p⟩
 by_cases hlt:i<n
 ·refine .inr ⟨hlt,Pv (i+1),fun σ' H' p'=>⟨n-(i+1),by lia,rfl,hlt,p'⟩,fun x H' y=>?_⟩
  obtain⟨e,y⟩:=y
  subst e y
  exact hs i σ _ hlt p
 ·have e:i=n:=by lia
  subst e
  exact .inl ⟨Nat.le_refl _,hd σ H p⟩
end L2
namespace L2
open PySem PySem.Spec PyProof.Rows
abbrev R2:=V→V→Hp→VK→Prop
def gZ(X:Cx)(f:Value→Value→Sem Value)(r:R2):Prop :=
 ∀ (pins:List (Addr × Obj)) (s:Shared) (σ:St) (H:Hp) (x y:V) (v u:Value) (Q:VK),Inv X pins σ H s→RelV x v→RelV y u→r x y H Q →
  wpAny (model X.prog X.w) X.A (f v u) (EP X pins σ Q) X.xe s
def ED(X:Cx)(f:Value→Sem Value)(r:V→Hp→VK→Prop):Prop :=
 ∀ (pins:List (Addr × Obj)) (s:Shared) (σ:St) (H:Hp) (x:V) (v:Value) (Q:VK),Inv X pins σ H s→RelV x v→r x H Q →
  wpAny (model X.prog X.w) X.A (f v) (EP X pins σ Q) X.xe s
def dC(X:Cx)(f:Value)(r:List V→Hp→VK→Prop):Prop :=
 ∀ (pins:List (Addr × Obj)) (s:Shared) (σ:St) (H:Hp) (xs:List V) (us:List Value) (Q:VK),Inv X pins σ H s→Vals xs us→r xs H Q →
  wpAny (model X.prog X.w) X.A (call f us) (EP X pins σ Q) X.xe s
def El(r:R2)(ta tb:TE):TE:=fun σ H Q=>ta σ H fun x H1=>tb σ H1 fun y H2=>r x y H2 Q
def tUn(r:V→Hp→VK→Prop)(ta:TE):TE:=fun σ H Q=>ta σ H fun x H1=>r x H1 Q
def rI(C:Int→Int→Prop)(g:Int→Int→V):R2:=fun x y H Q=>∃ i j,x=.int i∧y=.int j∧C i j∧Q (g i j) H
def AI(g:Int→Int→V):R2:=fun x y H Q=>∃ i j,x=.int i∧y=.int j∧Q (g i j) H
def rU(g:Int→V):V→Hp→VK→Prop:=fun x H Q=>∃ i,x=.int i∧Q (g i) H
section
variable {X:Cx}{a b c:Expr}{ta tb tc:TE}{pos:Pos}
theorem Cn(ha:PE X a ta)(hb:PE X b tb){pins:List (Addr × Obj)}{s:Shared}{σ:St}{H:Hp}{R:V→V→Hp→Prop}(I:Inv X pins σ H s)
  (h:ta σ H fun x H1=>tb σ H1 fun y H2=>R x y H2) {Q:Value→Shared→Prop} {f:Value→Value→Sem Value}
  (hf:∀ v u s2 x y H2,Inv X pins σ H2 s2→RelV x v→RelV y u→R x y H2→wpAny (model X.prog X.w) X.A (f v u) Q X.xe s2) :
  wpAny (model X.prog X.w) X.A (eval a X.env) (fun v s₁=>wpAny (model X.prog X.w) X.A (eval b X.env) (fun u s₂=>wpAny (model X.prog X.w) X.A (f v u) Q X.xe s₂) X.xe s₁) X.xe s:=by
 refine cc (ha pins s σ H _ I h) fun v s1 ⟨x,H1,I1,r1,q1⟩=>?_
 refine cc (hb pins s1 σ H1 _ I1 q1) fun u s2 ⟨y,H2,I2,r2,q2⟩=>?_
 exact hf v u s2 x y H2 I2 r1 r2 q2
theorem aB{op:Operator}{r:R2}(ho:gZ X (binaryOp op) r)(ha:PE X a ta)(hb:PE X b tb):PE X (.BinOp a op b pos) (El r ta tb):=by
 intro pins s σ H Q I h
 exact wpAny_BinOp (Cn ha hb I h fun v u s2 x y H2 I2 rx ry q=>ho pins s2 σ H2 x y v u Q I2 rx ry q)
theorem zc{op:UnaryOp}{r:V→Hp→VK→Prop}(ho:ED X (unaryOp op) r)(ha:PE X a ta):PE X (.UnaryOp op a pos) (tUn r ta):=by
 intro pins s σ H Q I h
 exact UnaryOp_ (cc (ha pins s σ H _ I h) fun v s1 ⟨x,H1,I1,r1,q1⟩=>ho pins s1 σ H1 x v Q I1 r1 q1)
theorem Dg{f:Value→Value→Sem Value}{C:Int→Int→Prop}{g:Int→Int→Int}
  (rule:∀ (i j:Int) (t u:Tok) (s:Shared) (Q:Value→Shared→Prop) (E:Value→Shared→Prop),C i j→Q (.int (g i j) s.toks) { s with toks:=s.toks+1 }→wpAny (model X.prog X.w) X.A (f (.int i t) (.int j u)) Q E s) :
  gZ X f (rI C fun i j=>.int (g i j)):=by
 intro pins s σ H x y v u Q I rx ry h
 obtain⟨i,j,rfl,rfl,hc,q⟩:=h
 obtain⟨t,rfl⟩:=rx
 obtain⟨t',rfl⟩:=ry
 exact rule i j t t' s _ _ hc ⟨.int (g i j),H,I.tok _,⟨_,rfl⟩,q⟩
theorem Co{f:Value→Value→Sem Value}{g:Int→Int→Int}
  (rule:∀ (i j:Int) (t u:Tok) (s:Shared) (Q:Value→Shared→Prop) (E:Value→Shared→Prop),Q (.int (g i j) s.toks) { s with toks:=s.toks+1 }→wpAny (model X.prog X.w) X.A (f (.int i t) (.int j u)) Q E s) :
  gZ X f (AI fun i j=>.int (g i j)):=by
 intro pins s σ H x y v u Q I rx ry h
 obtain⟨i,j,rfl,rfl,q⟩:=h
 obtain⟨t,rfl⟩:=rx
 obtain⟨t',rfl⟩:=ry
 exact rule i j t t' s _ _ ⟨.int (g i j),H,I.tok _,⟨_,rfl⟩,q⟩
theorem BU{f:Value→Value→Sem Value}{g:Int→Int→Bool}
  (rule:∀ (i j:Int) (t u:Tok) (s:Shared) (Q:Value→Shared→Prop) (E:Value→Shared→Prop),Q (.bool (g i j)) s→wpAny (model X.prog X.w) X.A (f (.int i t) (.int j u)) Q E s) :
  gZ X f (AI fun i j=>.bl (g i j)):=by
 intro pins s σ H x y v u Q I rx ry h
 obtain⟨i,j,rfl,rfl,q⟩:=h
 obtain⟨t,rfl⟩:=rx
 obtain⟨t',rfl⟩:=ry
 exact rule i j t t' s _ _ ⟨.bl (g i j),H,I,rfl,q⟩
def EM(i j:Int):Prop:=0<j∧j<1073741824
def EE(i j:Int):Prop:=0≤j∧j≤1000000∧i.natAbs<2 ^ 64
def BS(i j:Int):Prop:=(-(2 ^ 64)<i∧i<2 ^ 64)∨(-(2 ^ 64)<j∧j<2 ^ 64)
theorem BS.ok{i j:Int}(h:BS i j):IntMulOk i j:=by
 rcases h with⟨h1,h2⟩ | ⟨h1,h2⟩
 ·exact .of_left (intBits_le_64 h1 h2)
 ·exact .of_right (intBits_le_64 h1 h2)
theorem two_pow_nn(k:Nat):(0:Int)≤2 ^ k:=by
 rw [two_pow_cast]
 exact Int.natCast_nonneg _
theorem di:gZ X (binaryOp .Add) (AI fun i j=>.int (i+j)):=Co fun _ _ _ _ _ _ _ q=>add_int q
theorem BJ:gZ X (binaryOp .Sub) (AI fun i j=>.int (i-j)):=Co fun _ _ _ _ _ _ _ q=>sub_int q
theorem eW:gZ X (binaryOp .Mult) (rI BS fun i j=>.int (i*j)):=Dg fun _ _ _ _ _ _ _ hc q=>mul_int q hc.ok
theorem bE:gZ X (binaryOp .FloorDiv) (rI EM fun i j=>.int (i / j)):=Dg fun i j _ _ _ _ _ hc q=>by
 have h1:(0:Int)<j:=hc.1
 have h2:j<1073741824:=hc.2
 exact floordiv_int (by lia) (by rw [Int.fdiv_eq_ediv_of_nonneg i (by lia)];exact q) (.inl (PyProof.noPylong_small (by lia)))
theorem bF:gZ X (binaryOp .Mod) (rI (fun _ j=>0<j) fun i j=>.int (i % j)):=Dg fun i j _ _ _ _ _ hc q=>by
 have h1:(0:Int)<j:=hc
 exact mod_int' (by lia) (by rw [Int.fmod_eq_emod_of_nonneg i (by lia)];exact q)
theorem BO:gZ X (binaryOp .LShift) (rI EE fun i j=>.int (i*2 ^ j.toNat)):=Dg fun _ _ _ _ _ _ _ hc q=>lshift_int_small hc.1 hc.2.1 hc.2.2 q
theorem uv:gZ X (binaryOp .RShift) (rI (fun _ j=>0≤j) fun i j=>.int (i / 2 ^ j.toNat)):=Dg fun i j _ _ _ _ _ hc q =>
 rshift_int hc (by rw [Int.fdiv_eq_ediv_of_nonneg i (two_pow_nn _)];exact q)
theorem pU:gZ X (binaryOp .BitAnd) (AI fun i j=>.int (Builtin.bitAnd i j)):=Co fun _ _ _ _ _ _ _ q=>and_int q
theorem unI{f:Value→Sem Value}{g:Int→Int}
  (rule:∀ (i:Int) (t:Tok) (s:Shared) (Q:Value→Shared→Prop) (E:Value→Shared→Prop),Q (.int (g i) s.toks) { s with toks:=s.toks+1 }→wpAny (model X.prog X.w) X.A (f (.int i t)) Q E s) :
  ED X f (rU fun i=>.int (g i)):=by
 intro pins s σ H x v Q I rx h
 obtain⟨i,rfl,q⟩:=h
 obtain⟨t,rfl⟩:=rx
 exact rule i t s _ _ ⟨.int (g i),H,I.tok _,⟨_,rfl⟩,q⟩
theorem sW:ED X (unaryOp .USub) (rU fun i=>.int (-i)):=unI fun _ _ _ _ _ q=>neg_int q
end
def Ed:V→V→Bool
 | .non,.non=>true | .non,.int _=>true | .int _,.non=>true | .non,.bl _=>true | .bl _,.non=>true | .non,.str _=>true | .str _,.non=>true
 | .int _,.int _=>true | .bl _,.bl _=>true | .str _,.str _=>true | .byt _,.byt _=>true
 | .int _,.str _=>true | .str _,.int _=>true | .bl _,.str _=>true | .str _,.bl _=>true
 | _,_=>false
def rEq:R2:=fun x y H Q=>Ed x y=true∧Q (.bl (decide (x=y))) H
def rNe:R2:=fun x y H Q=>Ed x y=true∧Q (.bl (!decide (x=y))) H
theorem uX{i j:Int}:decide (V.int i=V.int j)=(i==j):=by
 rw [Bool.eq_iff_iff]
 simp
theorem yK{i j:Bool}:decide (V.bl i=V.bl j)=(i==j):=by
 rw [Bool.eq_iff_iff]
 simp
theorem uB{i j:Str}:decide (V.str i=V.str j)=(i==j):=by
 rw [Bool.eq_iff_iff]
 simp
theorem vp{i j:Array UInt8}:decide (V.byt i=V.byt j)=(i.toList==j.toList):=by
 rw [Bool.eq_iff_iff]
 cases i
 cases j
 simp
section
variable {X:Cx}{a b c:Expr}{ta tb tc:TE}{pos:Pos}
theorem bD{pins:List (Addr × Obj)}{σ:St}{H:Hp}{s:Shared}{Q:VK}{k k':Bool}(I:Inv X pins σ H s)(q:Q (.bl k) H)(e:k=k'):EP X pins σ Q (.bool k') s:=by
 subst e
 exact⟨.bl k,H,I,rfl,q⟩
theorem jA:gZ X (compareOp .Eq) rEq:=by
 intro pins s σ H x y v u Q I rx ry h
 obtain⟨hs,q⟩:=h
 cases x with
 | non =>
  cases rx
  cases y with
  | non=>cases ry;exact PySem.EqNone.eq_none_none (bD I q (by simp))
  | bl j=>cases ry;exact PySem.EqNone.eq_none_bool (bD I q (by simp))
  | int j=>obtain⟨t',rfl⟩:=ry;exact PySem.EqNone.eq_none_int (bD I q (by simp))
  | str j=>obtain⟨t',rfl⟩:=ry;exact PySem.EqNone.eq_none_str (bD I q (by simp))
  | _=>exact absurd (show false=true from hs) Bool.false_ne_true
 | bl i =>
  cases rx
  cases y with
  | non=>cases ry;exact PySem.EqNone.eq_bool_none (bD I q (by simp))
  | bl j=>cases ry;exact eq_bool (bD I q yK)
  | str j=>obtain⟨t',rfl⟩:=ry;exact PySem.EqMixed.eq_bool_str (bD I q (by simp))
  | _=>exact absurd (show false=true from hs) Bool.false_ne_true
 | int i =>
  obtain⟨t,rfl⟩:=rx
  cases y with
  | non=>cases ry;exact PySem.EqNone.eq_int_none (bD I q (by simp))
  | int j=>obtain⟨t',rfl⟩:=ry;exact eq_int (bD I q uX)
  | str j=>obtain⟨t',rfl⟩:=ry;exact PySem.EqMixed.eq_int_str (bD I q (by simp))
  | _=>exact absurd (show false=true from hs) Bool.false_ne_true
 | str i =>
  obtain⟨t,rfl⟩:=rx
  cases y with
  | non=>cases ry;exact PySem.EqNone.eq_str_none (bD I q (by simp))
  | bl j=>cases ry;exact PySem.EqMixed.eq_str_bool (bD I q (by simp))
  | int j=>obtain⟨t',rfl⟩:=ry;exact PySem.EqMixed.eq_str_int (bD I q (by simp))
  | str j=>obtain⟨t',rfl⟩:=ry;exact eq_str (bD I q uB)
  | _=>exact absurd (show false=true from hs) Bool.false_ne_true
 | byt i =>
  obtain⟨t,rfl⟩:=rx
  cases y with
  | byt j=>obtain⟨t',rfl⟩:=ry;exact PySem.W.eq_bytes (bD I q vp)
  | _=>exact absurd (show false=true from hs) Bool.false_ne_true
 | _=>cases y <;> exact absurd (show false=true from hs) Bool.false_ne_true
theorem zf:gZ X (compareOp .NotEq) rNe:=by
 intro pins s σ H x y v u Q I rx ry h
 obtain⟨hs,q⟩:=h
 cases x with
 | non =>
  cases rx
  cases y with
  | non=>cases ry;exact PySem.EqNone.ne_none_none (bD I q (by simp))
  | bl j=>cases ry;exact PySem.EqNone.ne_none_bool (bD I q (by simp))
  | int j=>obtain⟨t',rfl⟩:=ry;exact PySem.EqNone.ne_none_int (bD I q (by simp))
  | str j=>obtain⟨t',rfl⟩:=ry;exact PySem.EqNone.ne_none_str (bD I q (by simp))
  | _=>exact absurd (show false=true from hs) Bool.false_ne_true
 | bl i =>
  cases rx
  cases y with
  | non=>cases ry;exact PySem.EqNone.ne_bool_none (bD I q (by simp))
  | bl j=>cases ry;exact ne_bool (bD I q (congrArg not yK))
  | str j=>obtain⟨t',rfl⟩:=ry;exact PySem.EqMixed.ne_bool_str (bD I q (by simp))
  | _=>exact absurd (show false=true from hs) Bool.false_ne_true
 | int i =>
  obtain⟨t,rfl⟩:=rx
  cases y with
  | non=>cases ry;exact PySem.EqNone.ne_int_none (bD I q (by simp))
  | int j=>obtain⟨t',rfl⟩:=ry;exact ne_int (bD I q (congrArg not uX))
  | str j=>obtain⟨t',rfl⟩:=ry;exact PySem.EqMixed.ne_int_str (bD I q (by simp))
  | _=>exact absurd (show false=true from hs) Bool.false_ne_true
 | str i =>
  obtain⟨t,rfl⟩:=rx
  cases y with
  | non=>cases ry;exact PySem.EqNone.ne_str_none (bD I q (by simp))
  | bl j=>cases ry;exact PySem.EqMixed.ne_str_bool (bD I q (by simp))
  | int j=>obtain⟨t',rfl⟩:=ry;exact PySem.EqMixed.ne_str_int (bD I q (by simp))
  | str j=>obtain⟨t',rfl⟩:=ry;exact ne_str (bD I q (congrArg not uB))
  | _=>exact absurd (show false=true from hs) Bool.false_ne_true
 | byt i =>
  obtain⟨t,rfl⟩:=rx
  cases y with
  | byt j=>obtain⟨t',rfl⟩:=ry;exact PySem.W.ne_bytes (bD I q (congrArg not vp))
  | _=>exact absurd (show false=true from hs) Bool.false_ne_true
 | _=>cases y <;> exact absurd (show false=true from hs) Bool.false_ne_true
theorem yI:gZ X (compareOp .Lt) (AI fun i j=>.bl (decide (i<j))):=BU fun _ _ _ _ _ _ _ q=>lt_int q
theorem nZ:gZ X (compareOp .LtE) (AI fun i j=>.bl (decide (i≤j))):=BU fun _ _ _ _ _ _ _ q=>le_int q
theorem vd:gZ X (compareOp .Gt) (AI fun i j=>.bl (decide (j<i))):=BU fun _ _ _ _ _ _ _ q=>gt_int q
theorem wK:gZ X (compareOp .In) (fun x y H Q=>∃ i j,x=.str i∧y=.str j∧Q (.bl (!(Builtin.Str.occurrences j i 0 j.length 1).isEmpty)) H):=by
 intro pins s σ H x y v u Q I rx ry h
 obtain⟨i,j,rfl,rfl,q⟩:=h
 obtain⟨t,rfl⟩:=rx
 obtain⟨t',rfl⟩:=ry
 exact in_str (bD I q rfl)
theorem zR:gZ X (compareOp .IsNot) (fun x y H Q=>y=.non∧Q (.bl (!decide (x=.non))) H):=by
 intro pins s σ H x y v u Q I rx ry h
 obtain⟨rfl,q⟩:=h
 cases ry
 refine isnot_none_gen (bD I q ?_)
 cases x <;> first
  | (cases rx;rfl)
  | (obtain⟨t,rfl⟩:=rx;rfl)
theorem bw(b:Expr){op:CmpOp}(h:op≠.In:=by decide)(h2:op≠.NotIn:=by decide):behindInMarks op b=false:=by
 have e1:(op==CmpOp.In)=false:=by cases op <;> first | rfl | exact absurd rfl h
 have e2:(op==CmpOp.NotIn)=false:=by cases op <;> first | rfl | exact absurd rfl h2
 cases b <;> simp [behindInMarks,e1,e2]
theorem cI{op:CmpOp}{r:R2}(ho:gZ X (compareOp op) r)(ha:PE X a ta)(hb:PE X b tb)(hm:behindInMarks op b=false):PE X (.Compare a [op] [b] pos) (El r ta tb):=by
 intro pins s σ H Q I h
 exact wpAny_Compare1 (Cn ha hb I h fun v u s2 x y H2 I2 rx ry q=>ho pins s2 σ H2 x y v u Q I2 rx ry q) hm
def A6(t:TE):TT:=fun σ H Q=>t σ H fun x H'=>∃ k,x=.bl k∧Q k H'
theorem bb{op:CmpOp}{r:R2}(ho:gZ X (compareOp op) r)(ha:PE X a ta)(hb:PE X b tb)(hm:behindInMarks op b=false):PT X (.Compare a [op] [b] pos) (A6 (El r ta tb)):=by
 intro pins s σ H Q I h
 refine wpAny_isTrue_Compare1 (cc (ha pins s σ H _ I h) fun v s1 ⟨x,H1,I1,r1,q1⟩=>cc (hb pins s1 σ H1 _ I1 q1) fun u s2 ⟨y,H2,I2,r2,q2⟩ =>
  cc (ho pins s2 σ H2 x y v u _ I2 r1 r2 q2) fun c s3 ⟨z,H3,I3,r3,k,e,q3⟩=>?_) hm
 subst e
 cases r3
 exact wpAny_truthy_bool ⟨H3,I3,q3⟩
def ym(r r':R2)(ta tb tc:TE):TE:=fun σ H Q=>ta σ H fun x H1=>tb σ H1 fun y H2=>r x y H2 fun z H3=>∃ k,z=.bl k ∧
 (if k=true then tc σ H3 fun w' H4=>r' y w' H4 Q else Q (.bl false) H3)
theorem xn{op op':CmpOp}{r r':R2}(ho:gZ X (compareOp op) r)(ho':gZ X (compareOp op') r')(ha:PE X a ta)(hb:PE X b tb)(hc:PE X c tc)
  (hm:lastMarks [op,op'] [b,c]=false:=by with_unfolding_all rfl):PE X (.Compare a [op,op'] [b,c] pos) (ym r r' ta tb tc):=by
 intro pins s σ H Q I h
 refine Compare_chain (cc (ha pins s σ H _ I h) fun v s1 ⟨x,H1,I1,r1,q1⟩=>chain_link (cc (hb pins s1 σ H1 _ I1 q1) fun u s2 ⟨y,H2,I2,r2,q2⟩ =>
  cc (ho pins s2 σ H2 x y v u _ I2 r1 r2 q2) fun d s3 ⟨z,H3,I3,r3,k,e,q3⟩=>?_)) hm
 subst e
 cases r3
 refine wpAny_truthy_bool ?_
 cases k with
 | false=>exact ite_ff ⟨.bl false,H3,I3,rfl,q3⟩
 | true=>exact ite_tt (chain_last (cc (hc pins s3 σ H3 _ I3 q3) fun w' s4 ⟨z',H4,I4,r4,q4⟩=>ho' pins s4 σ H4 y z' u w' Q I4 r2 r4 q4))
theorem xq{op op':CmpOp}{r r':R2}(ho:gZ X (compareOp op) r)(ho':gZ X (compareOp op') r')(ha:PE X a ta)(hb:PE X b tb)(hc:PE X c tc)
  (hm:lastMarks [op,op'] [b,c]=false:=by with_unfolding_all rfl):PT X (.Compare a [op,op'] [b,c] pos) (A6 (ym r r' ta tb tc)):=by
 intro pins s σ H Q I h
 refine isTrue_chain (cc (ha pins s σ H _ I h) fun v s1 ⟨x,H1,I1,r1,q1⟩=>test_link (cc (hb pins s1 σ H1 _ I1 q1) fun u s2 ⟨y,H2,I2,r2,q2⟩ =>
  cc (ho pins s2 σ H2 x y v u _ I2 r1 r2 q2) fun d s3 ⟨z,H3,I3,r3,k,e,q3⟩=>?_)) hm
 subst e
 cases r3
 refine wpAny_truthy_bool ?_
 cases k with
 | false =>
  obtain⟨k',e',q'⟩:=q3
  cases e'
  exact ite_ff ⟨H3,I3,q'⟩
 | true =>
  refine ite_tt (test_last (cc (hc pins s3 σ H3 _ I3 q3) fun w' s4 ⟨z',H4,I4,r4,q4⟩=>cc (ho' pins s4 σ H4 y z' u w' _ I4 r2 r4 q4) fun d' s5 ⟨z2,H5,I5,r5,k2,e2,q5⟩=>?_))
  subst e2
  cases r5
  exact wpAny_truthy_bool ⟨H5,I5,q5⟩
theorem mG:(sizeLine:Nat)<2 ^ 63:=by rw [sizeLine_eq];decide
theorem tQ:gZ X (binaryOp .Add) (fun x y H Q=>∃ i j,x=.str i∧y=.str j∧i.length+j.length≤sizeLine∧Q (.str (i++j)) H):=by
 intro pins s σ H x y v u Q I rx ry h
 obtain⟨i,j,rfl,rfl,hz,q⟩:=h
 obtain⟨t,rfl⟩:=rx
 obtain⟨t',rfl⟩:=ry
 exact add_str (fun t' tk=>⟨.str (i++j),H,I.tok _,⟨_,rfl⟩,q⟩) hz
theorem vals1{x:V}{us:List Value}(r:Vals [x] us):∃ u,us=[u]∧RelV x u:=by
 cases r with
 | cons r1 r2=>cases r2;exact⟨_,rfl,r1⟩
theorem vals2{x y:V}{us:List Value}(r:Vals [x,y] us):∃ u w',us=[u,w']∧RelV x u∧RelV y w':=by
 cases r with
 | cons r1 r2 =>
  cases r2 with
  | cons r3 r4=>cases r4;exact⟨_,_,rfl,r1,r3⟩
theorem wL(hc:X.calm=true):dC X (.builtin "min") (fun xs H Q=>∃ i j,xs=[.int i,.int j]∧Q (.int (if j<i then j else i)) H):=by
 intro pins s σ H xs us Q I r h
 obtain⟨i,j,rfl,q⟩:=h
 obtain⟨u,w',rfl,⟨t,rfl⟩,⟨t',rfl⟩⟩:=vals2 r
 refine min_two_ints (I.ok.hd hc) fun h' tk k=>⟨_,H,I.kept k,?_,q⟩
 by_cases hj:j<i
 ·rw [if_pos hj,if_pos hj];exact⟨_,rfl⟩
 ·rw [if_neg hj,if_neg hj];exact⟨_,rfl⟩
def tF(K:PySem.W.Frag)(x:V)(H:Hp)(n:Nat):Prop :=
 match x with
 | .str y=>y.length≤sizeLine∧n=y.length
 | .byt y=>y.size≤sizeLine∧n=y.size
 | .ref p=>(∃ xs,aI K H p xs∧n=xs.length)∨∃ xs,cg K H p xs∧n=xs.length
 | _=>False
theorem bG:dC X (.builtin "len") (fun xs H Q=>∃ x n,xs=[x]∧tF X.K x H n∧Q (.int n) H):=by
 intro pins s σ H xs us Q I r h
 obtain⟨x,n,rfl,e,q⟩:=h
 obtain⟨u,rfl,rx⟩:=vals1 r
 have hl:=mG
 have hs:sizeLine=16777216:=sizeLine_eq
 cases x with
 | str y =>
  obtain⟨t,rfl⟩:=rx
  obtain⟨hy,e'⟩:y.length≤sizeLine∧n=y.length:=e
  subst e'
  exact len_str (by lia) ⟨.int _,H,I.tok _,⟨_,rfl⟩,q⟩
 | byt y =>
  obtain⟨t,rfl⟩:=rx
  obtain⟨hy,e'⟩:y.size≤sizeLine∧n=y.size:=e
  subst e'
  exact PySem.W.len_bytes (by lia) ⟨.int _,H,I.tok _,⟨_,rfl⟩,q⟩
 | ref p =>
  cases rx
  have e':(∃ xs,aI X.K H p xs∧n=xs.length)∨∃ xs,cg X.K H p xs∧n=xs.length:=e
  rcases e' with⟨xs,hx,e'⟩ | ⟨xs,hx,e'⟩
  ·subst e'
   obtain⟨its,r',pl,hz⟩:=I.list hx
   have hlen:=r'.length
   exact Calls.call_len_list pl.isList (by simp only [List.size_toArray];lia) ⟨.int xs.length,H,I.tok _,⟨_,by simp only [List.size_toArray];rw [hlen]⟩,q⟩
  ·subst e'
   obtain⟨its,r',pl,hz⟩:=I.tuple hx
   have hlen:=r'.length
   exact len_tuple pl (by simp only [List.size_toArray];lia) ⟨.int xs.length,H,I.tok _,⟨_,by simp only [List.size_toArray];rw [hlen]⟩,q⟩
 | _=>exact(show False from e).elim
end
end L2
namespace L2
open PySem PySem.Spec PyProof.Rows
structure tX(h:Heap)(x dx C:Addr)(mA:Str→Option Value):Prop where
 obj:h.get? x=some (PySem.W.instObj C dx)
 ns:h.Ns1 dx mA
 ne:dx≠x
theorem kg{h:Heap}{dx:Addr}{mA:Str→Option Value}(n:h.Ns1 dx mA):∃ od,h.get? dx=some od∧∀ name,PySem.W.lookIn name od=some (mA name):=by
 obtain⟨o,es,ep,ho,hd,hk,_,hm⟩:=n
 refine⟨o,ho,fun name=>?_⟩
 have e:=hm name
 unfold nsFind findBy at e
 rw [← Array.find?_toList] at e
 unfold PySem.W.lookIn
 rw [hd]
 dsimp only
 split
 ·rename_i y q
  rw [q] at e
  exact congrArg some e
 ·rename_i q
  rw [q] at e
  have a:es.toList.any (·.refKey)=false:=by
   rw [List.any_eq_false]
   intro y hy
   obtain⟨z,t,hkey⟩:=hk y (Array.mem_toList_iff.mp hy)
   simp [DictEntry.refKey,hkey]
  have a':¬ es.toList.any (·.refKey)=true:=by rw [a];exact Bool.false_ne_true
  rw [if_neg a']
  exact congrArg some e
theorem tX.look{h:Heap}{x dx C:Addr}{mA:Str→Option Value}(I:tX h x dx C mA):∃ od,PySem.W.InstAt h x (PySem.W.instObj C dx) C (some od)∧∀ name,PySem.W.lookIn name od=some (mA name) :=
 let ⟨od,ho,hl⟩:=kg I.ns
 ⟨od,⟨I.obj,rfl,rfl,ho⟩,hl⟩
section
variable {prog:Program}{w:World}{A:Around}{E:Value→Shared→Prop}{s:Shared}{K:PySem.W.Frag}{x dx C f:Addr}{mA:Str→Option Value}{name:Str}{v:Value}
theorem get_map{expr:Bool}{Q:Value→Shared→Prop}(X:K.In s.heap)(I:tX s.heap x dx C mA)(hg:PySem.W.plainGet K C name=true)(hh:PySem.W.hasDictIn K C=true)
  (ha:PySem.W.findIn K (.ref C) name=some none) (hv:mA name=some v) (hv':PySem.W.handedIn v=true) (h:Q v { s with toks:=s.toks+1 }) :
  wpAny (model prog w) A (getAttr (.ref x) name expr) Q E s:=by
 obtain⟨od,J,hl⟩:=I.look
 exact PySem.W.get_value X J (PySem.W.plainGet_of hg).1 (PySem.W.findObj_own hh ha rfl (by rw [hl,hv])) hv' h
theorem yB{pl:Sem Bool}{Q:Value × List Value→Shared→Prop}(X:K.In s.heap)(I:tX s.heap x dx C mA)(hg:PySem.W.plainGet K C name=true)
  (hf:PySem.W.findIn K (.ref C) name=some (some (.ref f))) (ht:PySem.W.isFn K (.ref f)=true) (hv:mA name=none) (h:Q (.ref f,[.ref x]) s) :
  wpAny (model prog w) A (getMethod (.ref x) name pl) Q E s:=by
 obtain⟨od,J,hl⟩:=I.look
 exact PySem.W.method_fn X J (PySem.W.plainGet_of hg).1 (PySem.W.plainGet_of hg).2 hf (beq_iff_eq.mp ht) (by show(PySem.W.lookIn name od).map (·.isSome)=some false;rw [hl,hv];rfl) h
theorem pK{ns:List Str}{Q:Unit→Shared→Prop}(X:K.In s.heap)(I:tX s.heap x dx C mA)
  (hs:PySem.W.findIn K (.ref C) "__setattr__"=some (some (.builtin "object.__setattr__"))) (hp:PySem.W.plainOver K C=true) (ht:PySem.W.takerIn K C name=some none) (hh:PySem.W.hasDictIn K C=true)
  (hw:PySem.Within mA ns) (hsz:ns.length≤sizeLine)
  (h:∀ h',tX h' x dx C (fun y=>if y=name then some v else mA y)→Heap.SameBut dx s.heap h'→Q () { s with heap:=h',toks:=s.toks+2 }) :
  wpAny (model prog w) A (setAttr (.ref x) name v) Q E s:=by
 obtain⟨od,J,hl⟩:=I.look
 refine PySem.W.set_plain X J hs (PySem.W.osa_open (s:={ s with toks:=s.toks+1 }) (r:=none) X J hp ht fun b=>?_)
 obtain⟨cd,hc,hd'⟩:=PySem.W.any_some hh
 have hx:s.heap.get? x=some ⟨.ref C,some dx,.plain,#[]⟩:=I.obj
 refine wpAny_bind (wpAny_pure (wpAny_bind (wpAny_bind (wpAny_loadPart hx (wpAny_bind (PySem.W.Looks.here (s:={ s with toks:=s.toks+1 }) (PySem.W.looks_clsIn X hc) ?_))))))
 rw [hd']
 refine wpAny_pure (a:=some dx) (wpAny_bind (wpAny_pure (wpAny_bind ?_)))
 refine wpAny_nsSet1 (s:={ s with toks:=s.toks+1 }) I.ns fun h' hn2 hs2=>?_
 obtain⟨oD,esD,epD,hoD,hdD,hcD⟩:=hn2.count (PySem.Within.cons name v hw)
 refine wpAny_bind (wpAny_lookBehind hoD (by rw [hdD];exact pastItsLine_dict (Nat.le_trans hcD (by rw [List.length_cons];lia))) ?_)
 exact wpAny_pure (h _ ⟨(hs2.2 _ (Ne.symm I.ne)).trans I.obj,hn2,I.ne⟩ hs2)
theorem yG{R:Result→Shared→Prop}{vs:List Value}{kw:List (Str × Value)}(X:K.In s.heap)(hm:PySem.W.makesIn K C=true)
  (hi:PySem.W.findIn K (.ref C) "__init__"=some (some (.ref f))) (hf:PySem.W.typeIn K (.ref f)=some (.type "function"))
  (h:codeAny (model prog w) (A.under (.builtin "type.__call__" ⟨.ref C :: vs,kw⟩)) (.call (.ref f) ⟨.ref (s.heap.objs.size + 1) :: vs,kw⟩) (PySem.W.InitBack (s.heap.objs.size + 1) R)
   { s with heap:=(s.heap.push PySem.W.emptyDict).push (PySem.W.instObj C s.heap.objs.size) }) :
  codeAny (model prog w) A (.call (.ref C) ⟨vs,kw⟩) R s:=by
 obtain⟨hh,g,d,t,os⟩:=s
 exact PySem.W.make_core (PySem.W.makes_of X hm) (PySem.W.looks_findIn X hi) (fun self=>PySem.W.bind_fn X self hf) (.inl rfl) h
end
def cE(f:Str)(v:V):List (Str × V)→List (Str × V)
 | []=>[(f,v)]
 | (g,x)::r=>if g=f then(g,v)::r else(g,x)::cE f v r
theorem kF(f g:Str)(v:V):∀ fs:List (Str × V),(cE f v fs).lookup g=if g=f then some v else fs.lookup g
 | []=>by
  show List.lookup g [(f,v)]=_
  by_cases h:g=f
  ·have hb:(g==f)=true:=beq_iff_eq.mpr h
   simp only [List.lookup,hb,if_pos h]
  ·have hb:(g==f)=false:=beq_eq_false_iff_ne.mpr h
   simp only [List.lookup,hb,if_neg h]
 | (k,x)::r=>by
  have ih:=kF f g v r
  rw [show cE f v ((k,x)::r)=(if k=f then(k,v)::r else(k,x)::cE f v r) from rfl]
  by_cases hk:k=f
  ·rw [if_pos hk]
   by_cases h:g=k
   ·have hb:(g==k)=true:=beq_iff_eq.mpr h
    simp only [List.lookup,hb,if_pos (h.trans hk)]
   ·have hb:(g==k)=false:=beq_eq_false_iff_ne.mpr h
    simp only [List.lookup,hb,if_neg (fun e:g=f=>h (e.trans hk.symm))]
  ·rw [if_neg hk]
   by_cases h:g=k
   ·have hb:(g==k)=true:=beq_iff_eq.mpr h
    simp only [List.lookup,hb,if_neg (fun e:g=f=>hk (h.symm.trans e))]
   ·have hb:(g==k)=false:=beq_eq_false_iff_ne.mpr h
    simp only [List.lookup,hb]
    exact ih
theorem jU(f:Str)(v:V):∀ fs:List (Str × V),f∈(cE f v fs).map (·.1)∧∀ g,g∈fs.map (·.1)→g∈(cE f v fs).map (·.1)
 | []=>⟨by simp [cE],fun g h=>by simp at h⟩
 | (k,x)::r=>by
  obtain⟨i1,i2⟩:=jU f v r
  rw [show cE f v ((k,x)::r)=(if k=f then(k,v)::r else(k,x)::cE f v r) from rfl]
  by_cases hk:k=f
  ·rw [if_pos hk]
   subst hk
   exact⟨by simp,fun g h=>by simpa using h⟩
  ·rw [if_neg hk]
   refine⟨?_,fun g h=>?_⟩
   ·rw [List.map_cons]
    exact List.mem_cons_of_mem _ i1
   ·rw [List.map_cons] at h ⊢
    rcases List.mem_cons.mp h with e | e
    ·exact List.mem_cons.mpr (.inl e)
    ·exact List.mem_cons_of_mem _ (i2 g e)
theorem kE(f:Str)(v:V):∀ fs:List (Str × V),(cE f v fs).length≤fs.length+1
 | []=>by simp [cE]
 | (k,x)::r=>by
  have ih:=kE f v r
  rw [show cE f v ((k,x)::r)=(if k=f then(k,v)::r else(k,x)::cE f v r) from rfl]
  by_cases hk:k=f
  ·rw [if_pos hk,List.length_cons,List.length_cons];lia
  ·rw [if_neg hk,List.length_cons,List.length_cons];lia
theorem fZ.some_of{v:V}{o:Option Value}(r:fZ (some v) o):∃ u,o=some u∧RelV v u:=by
 cases o with
 | none=>exact(show False from r).elim
 | some u=>exact⟨u,rfl,r⟩
theorem fZ.none_of{o:Option Value}(r:fZ none o):o=none:=by
 cases o with
 | none=>rfl
 | some u=>exact(show False from r).elim
theorem vK{v:V}{u:Value}(r:RelV v u):PySem.W.handedIn u=true:=by
 cases v with
 | non=>cases (show u=Value.none from r);rfl
 | bl b=>cases (show u=Value.bool b from r);rfl
 | int i=>obtain⟨t,e⟩:=(show ∃ t,u=Value.int i t from r);cases e;rfl
 | str x=>obtain⟨t,e⟩:=(show ∃ t,u=Value.str x t from r);cases e;rfl
 | byt b=>obtain⟨t,e⟩:=(show ∃ t,u=Value.bytes b t from r);cases e;rfl
 | flt b=>obtain⟨t,e⟩:=(show ∃ t,u=Value.float b t from r);cases e;rfl
 | ref a=>cases (show u=Value.ref a from r);rfl
 | ty n=>cases (show u=Value.type n from r);rfl
section
variable {P:Program}{w:World}{H H':Hp}{h h':Heap}{a C dx:Addr}{fs fs':List (Str × V)}
theorem kX(hok:iU P w H h)(e:H a=some (.ins C dx fs)):∃ mA,tX h a dx C mA∧(∀ f,fZ (fs.lookup f) (mA f))∧PySem.Within mA (fs.map (·.1))∧fs.length≤1000∧H dx=some (.own a):=by
 obtain⟨d,z,ne,ob,mA,n,r,q⟩:=(show bO P w H h a (.ins C dx fs) from hok a _ e)
 exact⟨mA,⟨ob,n,ne⟩,r,q,z,d⟩
end
structure yp(K:PySem.W.Frag)(C:Addr):Prop where
 pg:PySem.W.plainGet K C Str.empty=true
 hd:PySem.W.hasDictIn K C=true
 po:PySem.W.plainOver K C=true
 sa:PySem.W.findIn K (.ref C) "__setattr__"=some (some (.builtin "object.__setattr__"))
theorem yp.get{K:PySem.W.Frag}{C:Addr}(c:yp K C)(f:Str):PySem.W.plainGet K C f=true:=c.pg
def fW(K:PySem.W.Frag)(C:Addr)(f:Str):Prop:=PySem.W.findIn K (.ref C) f=some none
theorem fW.Dt{K:PySem.W.Frag}{C:Addr}{f:Str}(n:fW K C f):PySem.W.takerIn K C f=some none:=by
 unfold PySem.W.takerIn
 rw [show PySem.W.findIn K (.ref C) f=some none from n]
 rfl
structure Con(K:PySem.W.Frag)(C:Addr)(f:Str)(v:V)(u:Value):Prop where
 at_:PySem.W.findIn K (.ref C) f=some (some u)
 rel:RelV v u
 get:PySem.W.specialIn K u "__get__"=some none
 cp:PySem.W.copiedNames.contains f=false
structure Meth(K:PySem.W.Frag)(C:Addr)(m:Str)(f:Addr):Prop where
 at_:PySem.W.findIn K (.ref C) m=some (some (.ref f))
 fn:PySem.W.isFn K (.ref f)=true
 kp:PySem.W.keepIn K (.ref f)=true
section
variable {X:Cx}{pins:List (Addr × Obj)}{σ:St}{H:Hp}{s:Shared}{a C dx:Addr}{fs:List (Str × V)}{f:Str}{v:V}{A:Around}{E:Value→Shared→Prop}
theorem sU{b:Bool}{Q:Value→Shared→Prop}(I:Inv X pins σ H s)(e:H a=some (.ins C dx fs))(c:yp X.K C)(n:fW X.K C f)(l:fs.lookup f=some v)
  (h:∀ u s',Inv X pins σ H s'→RelV v u→Q u s'):wpAny (model X.prog X.w) A (getAttr (.ref a) f b) Q E s:=by
 obtain⟨mA,O,r,_,_,_⟩:=kX I.hok e
 obtain⟨u,hu,ru⟩:=fZ.some_of (v:=v) (o:=mA f) (by rw [← l];exact r f)
 exact get_map I.fi O (c.get f) c.hd n hu (vK ru) (h u _ (I.tok _) ru)
theorem m9{m:Str}{g:Addr}{pl:Sem Bool}{Q:Value × List Value→Shared→Prop}(I:Inv X pins σ H s)(e:H a=some (.ins C dx fs))(c:yp X.K C)(k:Meth X.K C m g)(l:fs.lookup m=none)
  (h:Q (.ref g,[.ref a]) s):wpAny (model X.prog X.w) A (getMethod (.ref a) m pl) Q E s:=by
 obtain⟨mA,O,r,_,_,_⟩:=kX I.hok e
 have hn:mA m=none:=fZ.none_of (by rw [← l];exact r m)
 exact yB I.fi O (c.get m) k.at_ k.fn hn h
theorem tJ{y:V}{u:Value}{Q:Unit→Shared→Prop}(I:Inv X pins σ H s)(e:H a=some (.ins C dx fs))(c:yp X.K C)(n:fW X.K C f)(hl:fs.length<1000)(ry:RelV y u)
  (h:∀ s',Inv X pins σ (upd H a (.ins C dx (cE f y fs))) s'→Q () s'):wpAny (model X.prog X.w) A (setAttr (.ref a) f u) Q E s:=by
 obtain⟨mA,O,r,wi,_,ho⟩:=kX I.hok e
 have hz:(fs.map (·.1)).length≤sizeLine:=by rw [List.length_map,sizeLine_eq];lia
 refine pK I.fi O c.sa c.po n.Dt c.hd wi hz fun h' O' sb=>h _ ?_
 have hd:∃ o,h'.get? dx=some o:=let ⟨o,_,_,e',_⟩:=O'.ns;⟨o,e'⟩
 refine I.write (x:=a) (e:=dx) (by rw [e];exact True.intro) (.inr ho) (fun b q hb z=>(sb.2 b hb).trans z) hd ?_
 refine⟨by rw [ar O.ne];exact ho,?_,O.ne,O'.obj,_,O'.ns,fun g=>?_,fun g hg=>?_⟩
 ·have:=kE f y fs;lia
 ·show fZ ((cE f y fs).lookup g) (if g=f then some u else mA g)
  rw [kF]
  by_cases q:g=f
  ·rw [if_pos q,if_pos q];exact ry
  ·rw [if_neg q,if_neg q];exact r g
 ·by_cases q:g=f
  ·rw [q];exact(jU f y fs).1
  ·refine(jU f y fs).2 g (wi g fun z=>hg ?_)
   show(if g=f then some u else mA g)=none
   rw [if_neg q];exact z
theorem Inv.made(I:Inv X pins σ H s):Inv X pins σ (upd (upd H s.heap.objs.size (.own (s.heap.objs.size+1))) (s.heap.objs.size+1) (.ins C s.heap.objs.size []))
  { s with heap:=(s.heap.push PySem.W.emptyDict).push (PySem.W.instObj C s.heap.objs.size) }:=by
 have e1:(s.heap.push PySem.W.emptyDict).get? s.heap.objs.size=some PySem.W.emptyDict:=Heap.get?_push_size s.heap rfl
 have e2:((s.heap.push PySem.W.emptyDict).push (PySem.W.instObj C s.heap.objs.size)).get? (s.heap.objs.size+1)=some (PySem.W.instObj C s.heap.objs.size):=by
  have:=Heap.get?_push_size (s.heap.push PySem.W.emptyDict) (o:=PySem.W.instObj C s.heap.objs.size) rfl
  rwa [Heap.size_push] at this
 have e3:(s.heap.push PySem.W.emptyDict).Ns s.heap.objs.size (fun _=>none):=⟨PySem.W.emptyDict,#[],_,e1,rfl,(fun e he=>absurd he (by simp)),fun _=>rfl⟩
 have I1:=I.laid (a:=s.heap.objs.size) (o:=.own (s.heap.objs.size+1)) (h':=s.heap.push PySem.W.emptyDict) (t':=s.toks) (fun b u q=>Heap.get?_push_of_some _ q) (Nat.le_refl _) ⟨_,e1⟩
 refine I1.laid (a:=s.heap.objs.size+1) (o:=.ins C s.heap.objs.size []) (t':=s.toks) (fun b u q=>Heap.get?_push_of_some _ q) (Nat.le_of_eq (Heap.size_push _ _)) ?_
 have ne:s.heap.objs.size≠s.heap.objs.size+1:=Nat.ne_of_lt (Nat.lt_succ_self _)
 refine⟨by rw [ar ne,ae],Nat.zero_le _,ne,e2,fun _=>none,(Heap.Ns1.of_empty e3).at fun o q=>Heap.get?_push_of_some _ q,fun _=>True.intro,fun y hy=>absurd rfl hy⟩
theorem uz{prog:Program}{w:World}{env:Env}{e:Expr}{f:Str}{pos:Pos}{s:Shared}{Q:Value→Shared→Prop}(hb:attributeBase e f env (eval e env)=eval e env)
  (h:wpAny (model prog w) A (eval e env) (fun o s₁=>wpAny (model prog w) A (getAttr o f true) Q E s₁) E s):wpAny (model prog w) A (eval (.Attribute e f pos) env) Q E s :=
 Attribute_any_ h (by rw [arm_eval_Attribute,hb])
end
def Ep(K:PySem.W.Frag)(ta:TE)(f:Str):TE:=fun σ H Q=>ta σ H fun x H1=>∃ a C dx fs v,x=.ref a∧H1 a=some (.ins C dx fs)∧yp K C∧fW K C f∧fs.lookup f=some v∧Q v H1
def Eu(K:PySem.W.Frag)(ta tv:TE)(f:Str):TS:=fun D σ H=>tv σ H fun y H1=>ta σ H1 fun x H2=>∃ a C dx fs,x=.ref a∧H2 a=some (.ins C dx fs)∧yp K C∧fW K C f∧fs.length<1000 ∧
 D.nx σ (upd H2 a (.ins C dx (cE f y fs)))
section
variable {X:Cx}{o e value:Expr}{f:Str}{pos pos' tpos:Pos}{ta tv:TE}
theorem iA(he:PE X e ta)(hb:attributeBase e f X.env (eval e X.env)=eval e X.env):PE X (.Attribute e f pos) (Ep X.K ta f):=by
 intro pins s σ H Q I h
 refine uz hb (cc (he pins s σ H _ I h) fun u s1 ⟨x,H1,I1,rx,a,C,dx,fs,v,ex,ea,c,n,l,q⟩=>?_)
 subst ex
 obtain rfl:u=Value.ref a:=rx
 exact sU I1 ea c n l fun u' s2 I2 ru=>⟨v,H1,I2,ru,q⟩
theorem pV(ha:PE X o ta)(hv:PE X value tv)(hs:swapsWith value (some (.Attribute o f pos')) pos.line X.env=pure false):PS X (.Assign [.Attribute o f pos'] value pos) (Eu X.K ta tv f):=by
 intro pins s σ H D I h
 refine plainObj_wpAny_Assign_Attribute (cc (hv pins s σ H _ I h) fun u s1 ⟨y,H1,I1,ry,q⟩=>cc (ha pins s1 σ H1 _ I1 q) fun ov s2 ⟨x,H2,I2,rx,a,C,dx,fs,ex,ea,c,n,l,q2⟩=>?_) hs
 subst ex
 obtain rfl:ov=Value.ref a:=rx
 exact tJ I2 ea c n l ry fun s3 I3=>⟨σ,_,I3,q2⟩
end
section
variable {X:Cx}{pins:List (Addr × Obj)}{σ:St}{H:Hp}{s:Shared}{A:Around}{E:Value→Shared→Prop}{Q:Value→Shared→Prop}{c:Value}{b:Bool}
inductive i8(K:PySem.W.Frag)(H:Hp):V→Value→Prop where
 | non:i8 K H .non (.type "NoneType")
 | bl (x:Bool):i8 K H (.bl x) (.type "bool")
 | int (i:Int):i8 K H (.int i) (.type "int")
 | str (x:Str):i8 K H (.str x) (.type "str")
 | flt (x:UInt64):i8 K H (.flt x) (.type "float")
 | lst {a:Addr} {xs:List V} (e:H a=some (.lst xs)):i8 K H (.ref a) (.type "list")
 | frz {a:Addr} {o:Obj} {xs:List V} (e:H a=some (.frz o (.lst xs))):i8 K H (.ref a) (.type "list")
 | tup {a:Addr} {xs:List V} (e:H a=some (.tup xs)):i8 K H (.ref a) (.type "tuple")
 | dK {a:Addr} {kvs:List (Key × V)} (e:H a=some (.dK kvs)):i8 K H (.ref a) (.type "dict")
 | dT {a:Addr} {kvs:List (List Key × V)} (e:H a=some (.dT kvs)):i8 K H (.ref a) (.type "dict")
 | ins {a C dx:Addr} {fs:List (Str × V)} (e:H a=some (.ins C dx fs)) (cl:yp K C) (ha:PySem.W.findIn K (.ref C) "__class__"=some (some (.builtin "object.__class__")))
   (hn:PySem.W.specialIn K (.builtin "object.__class__") "__get__"=some (some (.builtin "getset_descriptor.__get__"))) (htk:PySem.W.takesIn K (.builtin "object.__class__")=some true)
   (hm:PySem.W.mroIn K C (.type "object")=some true):i8 K H (.ref a) (.ref C)
theorem vO{x:V}{u t:Value}(I:Inv X pins σ H s)(rx:RelV x u)(ty:i8 X.K H x t)(e:PySem.W.kitOne X.K t c=some b)(h:∀ tk,Q (.bool b) { s with toks:=tk }) :
  wpAny (model X.prog X.w) A (call (.builtin "isinstance") [u,c]) Q E s:=by
 cases ty with
 | non=>cases (show u=Value.none from rx);exact PySem.W.kia_one PySem.W.kitx_none I.fi True.intro e (fun z=>nomatch z) h
 | bl y=>cases (show u=Value.bool y from rx);exact PySem.W.kia_one PySem.W.kitx_bool I.fi True.intro e (fun z=>nomatch z) h
 | int i=>obtain⟨t,q⟩:=(show ∃ t,u=Value.int i t from rx);cases q;exact PySem.W.kia_one PySem.W.kitx_int I.fi True.intro e (fun z=>nomatch z) h
 | str y=>obtain⟨t,q⟩:=(show ∃ t,u=Value.str y t from rx);cases q;exact PySem.W.kia_one PySem.W.kitx_str I.fi True.intro e (fun z=>nomatch z) h
 | flt y=>obtain⟨t,q⟩:=(show ∃ t,u=Value.float y t from rx);cases q;exact PySem.W.kia_one PySem.W.kitx_float I.fi True.intro e (fun z=>nomatch z) h
 | @lst a xs ea =>
  cases (show u=Value.ref a from rx)
  obtain⟨_,_,n,_,h1⟩:=(show bO X.prog X.w H s.heap a (.lst xs) from I.hok a _ ea)
  exact PySem.W.kia_one PySem.W.kitx_list I.fi ⟨_,h1,rfl⟩ e (fun z=>nomatch z) h
 | @frz a ob xs ea =>
  cases (show u=Value.ref a from rx)
  obtain⟨_,_,_,n,_,h1⟩:=(show bO X.prog X.w H s.heap a (.frz ob (.lst xs)) from I.hok a _ ea)
  exact PySem.W.kia_one PySem.W.kitx_list I.fi ⟨_,h1,rfl⟩ e (fun z=>nomatch z) h
 | @tup a xs ea =>
  cases (show u=Value.ref a from rx)
  obtain⟨_,_,_,p⟩:=(show bO X.prog X.w H s.heap a (.tup xs) from I.hok a _ ea)
  obtain⟨o,h1,h2,_⟩:=p
  exact PySem.W.kia_one PySem.W.kitx_tuple I.fi ⟨o,h1,h2⟩ e (fun z=>nomatch z) h
 | @dK a kvs ea =>
  cases (show u=Value.ref a from rx)
  obtain⟨_,_,vs,_,p⟩:=(show bO X.prog X.w H s.heap a (.dK kvs) from I.hok a _ ea)
  obtain⟨o,es,ep,h1,h2,_⟩:=p
  exact PySem.W.kia_one PySem.W.kitx_dict I.fi ⟨o,h1,h2.1⟩ e (fun z=>nomatch z) h
 | @dT a kvs ea =>
  cases (show u=Value.ref a from rx)
  obtain⟨_,_,xs,_,o,es,ep,h1,h2,_⟩:=(show bO X.prog X.w H s.heap a (.dT kvs) from I.hok a _ ea)
  exact PySem.W.kia_one PySem.W.kitx_dict I.fi ⟨o,h1,h2.1⟩ e (fun z=>nomatch z) h
 | @ins a C dx fs ea cl ha hn htk hm =>
  cases (show u=Value.ref a from rx)
  obtain⟨mA,O,_⟩:=kX I.hok ea
  obtain⟨od,J,_⟩:=O.look
  exact PySem.W.kia_one (PySem.W.kitx_own (cl.get _) cl.hd ha hn htk hm) I.fi J e (fun z=>nomatch z) h
end
end L2
namespace L2
open PySem PySem.Spec PyProof.Rows
structure bR(k:Nat)(A:Around):Prop where
 hd:A.handled=none
 dp:A.depth+3*k+5<recursionLimit
 un:A.units+16*k+200<cLine
 gd:A.guards=some []
theorem bR.mono{j k:Nat}{A:Around}(r:bR k A)(h:j≤k):bR j A:=⟨r.hd,by have:=r.dp;lia,by have:=r.un;lia,r.gd⟩
theorem bR.deeper{k:Nat}{A:Around}(r:bR (k+1) A)(env:Env):bR k (A.deeper env) :=
 ⟨r.hd,by have:=r.dp;show A.depth+1+3*k+5<_;lia,by have:=r.un;show A.units+3+16*k+200<_;lia,r.gd⟩
theorem tR{A:Around}{C:Addr}{us:List Value}{kw:List (Str × Value)}:(A.under (.builtin "type.__call__" ⟨.ref C::us,kw⟩)).depth=A.depth+1:=by
 first | rfl | simp [Around.under,Code.weight,Code.isCreation,Code.isGuard,Code.isCaller,Code.frames,Code.isFrame,guardIds]
theorem uf{A:Around}{C:Addr}{us:List Value}{kw:List (Str × Value)}:(A.under (.builtin "type.__call__" ⟨.ref C::us,kw⟩)).units=A.units+1:=by
 first | rfl | simp [Around.under,Code.cUnits,Code.frames,Code.isFrame]
theorem bR.make{k:Nat}{A:Around}(r:bR (k+1) A)(C:Addr)(us:List Value)(kw:List (Str × Value)):bR k (A.under (.builtin "type.__call__" ⟨.ref C::us,kw⟩)) :=
 ⟨r.hd,by have:=r.dp;rw [tR];lia,by have:=r.un;rw [uf];lia,by first | exact r.gd | (simp [Around.under,Code.isGuard,guardIds];exact r.gd)⟩
theorem bR.depth{k:Nat}{A:Around}(r:bR k A):A.depth<recursionLimit:=by have:=r.dp;lia
theorem bR.units{k:Nat}{A:Around}(r:bR k A):A.units+64<cLine:=by have:=r.un;lia
theorem bR.mH{k:Nat}{A:Around}(r:bR k A):A.units<cLine:=by have:=r.un;lia
def Bk:TA:=fun _ H Q=>Q [] H
def Dj(ta:TE)(tr:TA):TA:=fun σ H Q=>ta σ H fun x H1=>tr σ H1 fun xs H2=>Q (x::xs) H2
section
variable {X:Cx}{e:Expr}{es:List Expr}{te:TE}{t:TA}{pos:Pos}
theorem ag:PA X [] Bk:=fun _ _ _ _ H Q I h=>Calls.spliced_nil ⟨[],H,I,.nil,h⟩
theorem aa(ha:PE X e te)(hr:PA X es t)(hs:starEach (e::es) X.env=(false,eval e X.env)::starEach es X.env:=by rfl):PA X (e::es) (Dj te t):=by
 intro pos pins s σ H Q I h
 rw [hs]
 show wpAny _ _ (spliced ((false,eval e X.env)::backTo pos (starEach es X.env))) _ _ s
 refine Calls.spliced_cons (cc (ha pins s σ H _ I h) fun u s1 ⟨x,H1,I1,r1,q1⟩=>?_)
 exact cc (hr pos pins s1 σ H1 _ I1 q1) fun us s2 ⟨xs,H2,I2,r2,q2⟩=>⟨x::xs,H2,I2,.cons r1 r2,q2⟩
def Fg(t:TA):TE:=fun σ H Q=>t σ H fun xs H1=>xs.length≤sizeLine∧∀ p,H1 p=none→Q (.ref p) (upd H1 p (.tup xs))
def Ey(t:TA):TE:=fun σ H Q=>t σ H fun xs H1=>xs.length≤sizeLine∧∀ p,H1 p=none→Q (.ref p) (upd H1 p (.lst xs))
theorem cz{x1}(h:PA X es t):PE X (.Tuple es x1 pos) (Fg t):=by
 intro pins s σ H Q I hq
 refine wpAny_Tuple_spliced (cc (h pos pins s σ H _ I hq) fun us s1 ⟨xs,H1,I1,r,z,q⟩=>⟨by rw [← r.length];exact z,?_⟩)
 have hf:H1 s1.heap.objs.size=none:=I1.hok.fresh (Nat.le_refl _)
 refine⟨.ref s1.heap.objs.size,upd H1 s1.heap.objs.size (.tup xs),I1.laid (t':=s1.toks) (fun b u e=>Heap.get?_push_of_some _ e) (Nat.le_refl _) ?_,rfl,q _ hf⟩
 exact⟨z,us,r,⟨_,Heap.get?_push_size _ rfl,rfl,_,rfl⟩⟩
theorem bj(h:PA X es t):PE X (.List es pos) (Ey t):=by
 intro pins s σ H Q I hq
 refine wpAny_List_spliced (cc (h pos pins s σ H _ I hq) fun us s1 ⟨xs,H1,I1,r,z,q⟩=>⟨by rw [← r.length];exact z,?_⟩)
 have hf:H1 s1.heap.objs.size=none:=I1.hok.fresh (Nat.le_refl _)
 refine⟨.ref s1.heap.objs.size,upd H1 s1.heap.objs.size (.lst xs),I1.laid (t':=s1.toks) (fun b u e=>Heap.get?_push_of_some _ e) (Nat.le_refl _) ?_,rfl,q _ hf⟩
 exact⟨z,us,0,r,Heap.get?_push_size _ rfl⟩
end
abbrev Sp:=List V→Hp→VK→XK→Prop
abbrev rD:=List Env→Hp→Shared→XK→Value→Shared→Prop
structure sg(P:Program)(w:World)(K:PySem.W.Frag)(mg:Str→Option Value)(base:Heap)(A:Around)(outer:List Env)(s:Shared)(H:Hp):Prop where
 frames:A.frames=some outer
 mod:Mod K mg base
 bs:∀ b o,base.get? b=some o→s.heap.get? b=some o∧H b=none
 bsz:base.objs.size≤s.heap.objs.size
 hV:s.heap.FunFrames base outer
 frf:∀ b∈hU outer,H b=none
 hok:iU P w H s.heap
 bare:AllBare s.gens
def CE(outer:List Env)(P:Program)(w:World)(H:Hp)(s:Shared)(Q:VK)(u:Value)(s':Shared):Prop :=
 ∃ v H',s'.os=s.os∧AllBare s'.gens∧Un (hU outer) [] H H' s.heap s'.heap∧iU P w H' s'.heap∧RelV v u∧Q v H'
def CR(CX:rD)(outer:List Env)(P:Program)(w:World)(H:Hp)(s:Shared)(Q:VK)(E:XK)(r:Result)(s':Shared):Prop :=
 match r with
 | .ok (.ret u)=>CE outer P w H s Q u s'
 | .ok _=>False
 | .error e=>CX outer H s E e s'
structure aH(P:Program)(w:World)(K:PySem.W.Frag)(mg:Str→Option Value)(base:Heap)(CX:rD)(k:Nat)(f:Addr)(fd:FuncData)(ps:List Str)(sp:Sp):Prop where
 len:∀ vs H Q E,sp vs H Q E→vs.length=ps.length
 run:∀ (A:Around) (outer:List Env) (s:Shared) (H:Hp) (args:Args) (us:List Value) (vs:List V) (Q:VK) (E:XK),bR k A→sg P w K mg base A outer s H→BindsTo s fd args (ps.zip us)→Vals vs us→sp vs H Q E →
  codeAny (model P w) A (.call (.ref f) args) (CR CX outer P w H s Q E) s
theorem aH.imp{P:Program}{w:World}{K:PySem.W.Frag}{mg:Str→Option Value}{base:Heap}{CX:rD}{k:Nat}{f:Addr}{fd:FuncData}{ps:List Str}{sp sp':Sp}(F:aH P w K mg base CX k f fd ps sp)
  (h:∀ vs H Q E,sp' vs H Q E→sp vs H Q E):aH P w K mg base CX k f fd ps sp' :=
 ⟨fun vs H Q E q=>F.len vs H Q E (h _ _ _ _ q),fun A outer s H args us vs Q E hr he hb hv hs=>F.run A outer s H args us vs Q E hr he hb hv (h _ _ _ _ hs)⟩
theorem sg.make{P:Program}{w:World}{K:PySem.W.Frag}{mg:Str→Option Value}{base:Heap}{A:Around}{outer:List Env}{s:Shared}{H:Hp}(e:sg P w K mg base A outer s H)(C:Addr)(us:List Value)(kw:List (Str × Value)) :
  sg P w K mg base (A.under (.builtin "type.__call__" ⟨.ref C::us,kw⟩)) outer s H:=⟨by first | exact e.frames | (simpa [Around.under,Code.envs,Code.isFrame,pushEnvs] using e.frames),e.mod,e.bs,e.bsz,e.hV,e.frf,e.hok,e.bare⟩
section
variable {X:Cx}{pins:List (Addr × Obj)}{σ:St}{H:Hp}{s s':Shared}
theorem Inv.Ck(I:Inv X pins σ H s):sg X.prog X.w X.K X.mg X.base X.A X.stack s H :=
 ⟨I.ok.frames,I.ok.mod,I.bs,Nat.le_trans I.ok.bsz I.sz,I.stack,I.lj,I.hok,I.bare⟩
theorem Inv.after{Q:VK}{u:Value}(I:Inv X pins σ H s)(h:CE X.stack X.prog X.w H s Q u s'):EP X pins σ Q u s':=by
 obtain⟨v,H',os,bare,un,hok,r,q⟩:=h
 obtain⟨hh,g,d,t,os'⟩:=s'
 obtain rfl:os'=s.os:=os
 exact⟨v,H',I.call (h':=hh) (g':=g) (d':=d) (t':=t) (ch:=[]) un hok bare (fun b z=>absurd z (by simp)),r,q⟩
end
def C6(sp:Sp)(dvs:List V)(E:XK)(t:TA):TE:=fun σ H Q=>t σ H fun vs H1=>sp (vs++dvs) H1 Q E
def AL(C:Addr)(m:Str)(sp:Sp)(dvs:List V)(E:XK)(ta:TE)(t:TA):TE:=fun σ H Q=>ta σ H fun x H1=>∃ a dx fs,x=.ref a∧H1 a=some (.ins C dx fs)∧fs.lookup m=none ∧
 t σ H1 fun vs H2=>sp (x::(vs++dvs)) H2 Q E
def C8(C:Addr)(sp:Sp)(dvs:List V)(E:XK)(t:TA):TE:=fun σ H Q=>t σ H fun vs H1=>∀ x dx,H1 x=none→H1 dx=none→dx≠x →
 sp (.ref x::(vs++dvs)) (upd (upd H1 dx (.own x)) x (.ins C dx [])) (fun v H2=>v=.non∧Q (.ref x) H2) E
def Binds(K:PySem.W.Frag)(fd:FuncData)(ps:List Str)(ds:List Value):Prop :=
 ∀ (s:Shared) (us:List Value),K.In s.heap→(us++ds).length=ps.length→BindsTo s fd ⟨us,[]⟩ (ps.zip (us++ds))
theorem Binds.all{K:PySem.W.Frag}{fd:FuncData}{ps:List Str}(h:∀ us:List Value,us.length=ps.length→bindArgs fd ⟨us,[]⟩=pure (ps.zip us)):Binds K fd ps []:=fun s us _ hl=>by
 rw [List.append_nil] at hl ⊢
 exact .of_eq (h us hl)
def Passes(CX:rD)(X:Cx)(E:XK):Prop:=∀ (pins:List (Addr × Obj)) (σ:St) (H:Hp) (s:Shared) (e:Value) (s':Shared),Inv X pins σ H s→CX X.stack H s E e s'→X.xe e s'
section
variable {X:Cx}{CX:rD}{k:Nat}{f C:Addr}{fd:FuncData}{ps:List Str}{sp:Sp}{dvs:List V}{ds:List Value}{E:XK}{x m:Str}{p pos apos:Pos}{e o:Expr}{es:List Expr}{ta:TE}{t:TA}
theorem uo{pins:List (Addr × Obj)}{σ:St}{H:Hp}{s:Shared}{Q:VK}{us:List Value}{vs:List V}(F:aH X.prog X.w X.K X.mg X.base CX k f fd ps sp)(hr:bR k X.A)(hb:Binds X.K fd ps ds)(hd:Vals dvs ds)(hx:Passes CX X E)
  (I:Inv X pins σ H s) (r:Vals vs us) (h:sp (vs++dvs) H Q E):wpAny (model X.prog X.w) X.A (call (.ref f) us) (EP X pins σ Q) X.xe s:=by
 have r2:Vals (vs++dvs) (us++ds):=r.append hd
 have hl:(us++ds).length=ps.length:=by rw [← r2.length];exact F.len _ _ _ _ h
 refine wpAny_call (codeAny_mono (F.run X.A X.stack s H ⟨us,[]⟩ (us++ds) (vs++dvs) Q E hr I.Ck (hb s us I.fi hl) r2 h) fun r s' hq=>?_)
 cases r with
 | error e=>exact hx pins σ H s e s' I hq
 | ok fl =>
  cases fl with
  | ret u=>exact I.after hq
  | next=>exact False.elim hq
  | brk=>exact False.elim hq
  | cont=>exact False.elim hq
theorem az(F:aH X.prog X.w X.K X.mg X.base CX k f fd ps sp)(hr:bR k X.A)(hg:Gl X x)(hm:X.mg x=some (.ref f))(hk:PySem.W.keepIn X.K (.ref f)=true)(hb:Binds X.K fd ps ds)(hd:Vals dvs ds)(hx:Passes CX X E)
  (ha:PA X (e::es) t) (hdb:(x==("__debug__":Str))=false:=by decide) (he:starEach (e::es) X.env=(false,eval e X.env)::starEach es X.env:=by rfl) (hpl:(backTo pos (starEach es X.env)).any (·.1)=false:=by rfl) :
  PE X (.Call (.Name x p) (e::es) [] pos) (C6 sp dvs E t):=by
 intro pins s σ H Q I h
 refine wpAny_Call_Name_kw (iF I hg hm ?_ hdb)
 refine PySem.W.callWith_K (h₀:=X.base) I.ok.mod.kin hk (cc (ha pos pins s σ H _ I h) fun us s1 ⟨vs,H1,I1,r,q⟩=>⟨I1.fi,?_⟩) he hpl
 exact uo F hr hb hd hx I1 r q
theorem eQ{pl:Sem Bool}(he:PE X o ta)(c:yp X.K C)(hm:Meth X.K C m f)(F:aH X.prog X.w X.K X.mg X.base CX k f fd ps sp)(hr:bR k X.A)(hb:Binds X.K fd ps ds)(hd:Vals dvs ds)(hx:Passes CX X E)(ha:PA X (e::es) t)
  (hst:starEach (e::es) X.env=(false,eval e X.env)::starEach es X.env:=by rfl) (hpl:(backTo pos (starEach es X.env)).any (·.1)=false:=by rfl)
  (ht:eval (.Call (.Attribute o m apos) (e :: es) [] pos) X.env = (do
   let ov ← eval o X.env
   standAt apos.atName
   let (f,first) ← holding [ov] (getMethod ov m pl)
   callWith pos f first (backTo pos (starEach (e::es) X.env)) (backToKw pos (keywordEach [] X.env))):=by rfl) :
  PE X (.Call (.Attribute o m apos) (e::es) [] pos) (AL C m sp dvs E ta t):=by
 intro pins s σ H Q I h
 refine PySem.W.methodCall_KW (pl:=pl) (cc (he pins s σ H _ I h) fun u s1 ⟨x,H1,I1,rx,a,dx,fs,ex,ea,l,q⟩=>?_) ht
 subst ex
 obtain rfl:u=Value.ref a:=rx
 refine m9 I1 ea c hm l ?_
 refine PySem.W.callWith_K (first:=[.ref a]) (h₀:=X.base) I.ok.mod.kin hm.kp (cc (ha pos pins s1 σ H1 _ I1 q) fun us s2 ⟨vs,H2,I2,r,q2⟩=>⟨I2.fi,?_⟩) hst hpl
 exact uo (us:=.ref a::us) (vs:=.ref a::vs) F hr hb hd hx I2 (.cons rfl r) q2
theorem bW{pl:Sem Bool}(he:PE X o ta)(c:yp X.K C)(hm:Meth X.K C m f)(F:aH X.prog X.w X.K X.mg X.base CX k f fd ps sp)(hr:bR k X.A)(hb:Binds X.K fd ps ds)(hd:Vals dvs ds)(hx:Passes CX X E)
  (ht:eval (.Call (.Attribute o m apos) [] [] pos) X.env = (do
   let ov ← eval o X.env
   standAt apos.atName
   let (f,first) ← holding [ov] (getMethod ov m pl)
   callWith pos f first (backTo pos (starEach [] X.env)) (backToKw pos (keywordEach [] X.env))):=by rfl) :
  PE X (.Call (.Attribute o m apos) [] [] pos) (AL C m sp dvs E ta Bk):=by
 intro pins s σ H Q I h
 refine PySem.W.methodCall_KW (pl:=pl) (cc (he pins s σ H _ I h) fun u s1 ⟨x,H1,I1,rx,a,dx,fs,ex,ea,l,q⟩=>?_) ht
 subst ex
 obtain rfl:u=Value.ref a:=rx
 refine m9 I1 ea c hm l ?_
 exact PySem.W.callWith_K0 (first:=[.ref a]) I1.fi hm.kp (uo (us:=[.ref a]) (vs:=[.ref a]) F hr hb hd hx I1 (.cons rfl .nil) q)
structure Mk(K:PySem.W.Frag)(C f:Addr):Prop where
 makes:PySem.W.makesIn K C=true
 init:PySem.W.findIn K (.ref C) "__init__"=some (some (.ref f))
 fn:PySem.W.isFn K (.ref f)=true
 kp:PySem.W.keepIn K (.ref C)=true
theorem yt{pins:List (Addr × Obj)}{σ:St}{H:Hp}{s:Shared}{Q:VK}{us:List Value}{vs:List V}(M:Mk X.K C f)(F:aH X.prog X.w X.K X.mg X.base CX k f fd ps sp)(hr:bR (k+1) X.A)(hb:Binds X.K fd ps ds)(hd:Vals dvs ds)
  (hx:Passes CX X E) (I:Inv X pins σ H s) (r:Vals vs us)
  (h:∀ x dx,H x=none→H dx=none→dx≠x→sp (.ref x::(vs++dvs)) (upd (upd H dx (.own x)) x (.ins C dx [])) (fun v H2=>v=.non∧Q (.ref x) H2) E) :
  wpAny (model X.prog X.w) X.A (call (.ref C) us) (EP X pins σ Q) X.xe s:=by
 have hq:=h (s.heap.objs.size+1) s.heap.objs.size (I.hok.fresh (Nat.le_succ _)) (I.hok.fresh (Nat.le_refl _)) (Nat.ne_of_lt (Nat.lt_succ_self _))
 have I2:=Inv.made (C:=C) I
 have r2:Vals (V.ref (s.heap.objs.size+1)::(vs++dvs)) (Value.ref (s.heap.objs.size+1)::(us++ds)):=.cons rfl (r.append hd)
 have hl:(Value.ref (s.heap.objs.size+1)::us++ds).length=ps.length:=by
  have e:=r2.length
  rw [F.len _ _ _ _ hq] at e
  exact e.symm
 refine wpAny_call (yG (f:=f) I.fi M.makes M.init (beq_iff_eq.mp M.fn) (codeAny_mono (F.run _ X.stack _ _ ⟨Value.ref (s.heap.objs.size+1)::us,[]⟩ (Value.ref (s.heap.objs.size+1)::(us++ds)) _ _ E (hr.make C us [])
  (I2.Ck.make C us []) (hb _ (Value.ref (s.heap.objs.size+1)::us) I2.fi hl) r2 hq) fun r s' hq'=>?_))
 cases r with
 | error e=>exact hx pins σ _ _ e s' I2 hq'
 | ok fl =>
  cases fl with
  | ret u =>
   obtain⟨v,H',I3,rv,ev,q3⟩:=I2.after hq'
   subst ev
   exact⟨rv,⟨V.ref (s.heap.objs.size+1),H',I3,rfl,q3⟩⟩
  | next=>exact False.elim hq'
  | brk=>exact False.elim hq'
  | cont=>exact False.elim hq'
theorem p8(M:Mk X.K C f)(F:aH X.prog X.w X.K X.mg X.base CX k f fd ps sp)(hr:bR (k+1) X.A)(hg:Gl X x)(hm:X.mg x=some (.ref C))(hb:Binds X.K fd ps ds)(hd:Vals dvs ds)(hx:Passes CX X E)
  (ha:PA X (e::es) t) (hdb:(x==("__debug__":Str))=false:=by decide) (he:starEach (e::es) X.env=(false,eval e X.env)::starEach es X.env:=by rfl) (hpl:(backTo pos (starEach es X.env)).any (·.1)=false:=by rfl) :
  PE X (.Call (.Name x p) (e::es) [] pos) (C8 C sp dvs E t):=by
 intro pins s σ H Q I h
 refine wpAny_Call_Name_kw (iF I hg hm ?_ hdb)
 refine PySem.W.callWith_K (h₀:=X.base) I.ok.mod.kin M.kp (cc (ha pos pins s σ H _ I h) fun us s1 ⟨vs,H1,I1,r,q⟩=>⟨I1.fi,?_⟩) he hpl
 exact yt M F hr hb hd hx I1 r q
end
section
variable {X:Cx}{CX:rD}{k:Nat}{f C:Addr}{fd:FuncData}{ps ks:List Str}{sp:Sp}{E:XK}{x m:Str}{p pos apos kpos:Pos}{e o:Expr}{es:List Expr}{kws:List Keyword}{te ta:TE}{t tk:TA}{nm:Option Str}
structure E9(K:PySem.W.Frag)(fd:FuncData)(ps ks:List Str)(g:List Value→List Value→List Value)(gV:List V→List V→List V):Prop where
 to:∀ (s:Shared) (us ws:List Value),K.In s.heap→(g us ws).length=ps.length→BindsTo s fd ⟨us,ks.zip ws⟩ (ps.zip (g us ws))
 rel:∀ {vs:List V} {us:List Value} {zs:List V} {ws:List Value},Vals vs us→Vals zs ws→Vals (gV vs zs) (g us ws)
variable {g:List Value→List Value→List Value}{gV:List V→List V→List V}
end
structure aU(N P:List Str)(sc:Scope):Prop where
 kind:sc.kind=.function
 co:sc.isCoroutine=false
 gen:sc.isGenerator=false
 nd:N.Nodup
 pre:N.take P.length=P
 par:∀ x∈P,sc.names.lookup x=some .local∨sc.names.lookup x=some .cell
 nofree:∀ y∈sc.names,y.2≠.free
theorem o8{kindOf:Str→Option NameKind}{x:Str}:∀ {binds:List (Str × Value)} {m:Str→Option Value},(∀ v,(x,v)∉binds)→bindL kindOf binds m x=m x
 | [],_,_=>rfl
 | (n,v)::r,m,h=>by
  unfold bindL
  rw [o8 fun w hw=>h w (List.mem_cons_of_mem _ hw)]
  split
  ·have:x≠n:=by rintro rfl;exact h v List.mem_cons_self
   simp [this]
  ·rfl
theorem oE{kindOf:Str→Option NameKind}{x:Str}:∀ {binds:List (Str × Value)} {m:Str→Option Value},(∀ v,(x,v)∉binds)→bindC kindOf binds m x=m x
 | [],_,_=>rfl
 | (n,v)::r,m,h=>by
  unfold bindC
  rw [oE fun w hw=>h w (List.mem_cons_of_mem _ hw)]
  split
  ·rfl
  ·have:x≠n:=by rintro rfl;exact h v List.mem_cons_self
   simp [this]
theorem ou{kindOf:Str→Option NameKind}{x:Str}{v:Value}:∀ {P:List Str} {vs:List Value} {i:Nat} {m:Str→Option Value},P.Nodup→P[i]?=some x→vs[i]?=some v→kindOf x=some .local →
  bindL kindOf (P.zip vs) m x=some v
 | [],_,_,_,_,h,_,_=>by simp at h
 | _::_,[],_,_,_,_,h,_=>by simp at h
 | p::P,w::vs,0,m,nd,h1,h2,hk=>by
  simp at h1 h2;subst h1;subst h2
  show bindL kindOf ((p,w)::P.zip vs) m p=_
  unfold bindL
  rw [o8 fun v hv=>(List.nodup_cons.mp nd).1 (List.of_mem_zip hv).1,if_pos hk]
  simp
 | p::P,w::vs,i+1,m,nd,h1,h2,hk=>by
  show bindL kindOf ((p,w)::P.zip vs) m x=_
  unfold bindL
  exact ou (i:=i) (List.nodup_cons.mp nd).2 (by simpa using h1) (by simpa using h2) hk
theorem oF{kindOf:Str→Option NameKind}{x:Str}{v:Value}:∀ {P:List Str} {vs:List Value} {i:Nat} {m:Str→Option Value},P.Nodup→P[i]?=some x→vs[i]?=some v→kindOf x≠some .local →
  bindC kindOf (P.zip vs) m x=some v
 | [],_,_,_,_,h,_,_=>by simp at h
 | _::_,[],_,_,_,_,h,_=>by simp at h
 | p::P,w::vs,0,m,nd,h1,h2,hk=>by
  simp at h1 h2;subst h1;subst h2
  show bindC kindOf ((p,w)::P.zip vs) m p=_
  unfold bindC
  rw [oE fun v hv=>(List.nodup_cons.mp nd).1 (List.of_mem_zip hv).1,if_neg hk]
  simp
 | p::P,w::vs,i+1,m,nd,h1,h2,hk=>by
  show bindC kindOf ((p,w)::P.zip vs) m x=_
  unfold bindC
  exact oF (i:=i) (List.nodup_cons.mp nd).2 (by simpa using h1) (by simpa using h2) hk
def start(N:List Str)(vs:List V):St:=vs.map some++List.replicate (N.length-vs.length) none
def iL(CX:rD)(P:Program)(w:World)(K:PySem.W.Frag)(mg:Str→Option Value)(base:Heap)(N:List Str)(qual:Str)(scope:Scope)(f:Addr)(cd:Value)(A:Around)(outer:List Env)(s:Shared)(H:Hp)(E:XK):Cx where
 prog:=P
 w:=w
 K:=K
 mg:=mg
 base:=base
 A:=A.deeper (envOfC qual scope s.heap.objs.size f cd)
 N:=N
 s₀:=s
 H₀:=H
 env:=envOfC qual scope s.heap.objs.size f cd
 outer:=outer
 stack:=envOfC qual scope s.heap.objs.size f cd::outer
 ex:=[]
 calm:=true
 fn:=fun _=>true
 pn:=[]
 xe:=fun e s'=>wpAny (model P w) (A.deeper (envOfC qual scope s.heap.objs.size f cd)) («leaving» (envOfC qual scope s.heap.objs.size f cd) e) (fun _ s''=>CX outer H s E e s'') (fun e' s''=>CX outer H s E e' s'') s'
theorem qP{sc:Scope}{n:Nat}{x:Str}(h:sc.names.lookup x=some .cell):∃ c,(cellsFrom n sc.names []).lookup x=some c:=by
 have q:=PySem.W.cellsFrom_some sc.names n [] (.inl h)
 exact Option.isSome_iff_exists.mp q
theorem wc{CX:rD}{P:Program}{w:World}{K:PySem.W.Frag}{mg:Str→Option Value}{base:Heap}{N ps:List Str}{qual:Str}{scope:Scope}{f:Addr}{cd:Value}{A:Around}{outer:List Env}{s s1:Shared}{H:Hp}{E:XK}{us:List Value}{vs:List V}
  (S:aU N ps scope) (hd:A.handled=none) (e0:sg P w K mg base A outer s H) (hl:vs.length=ps.length) (r:Vals vs us)
  (x:InCallC s s.heap.objs.size (bindL (envOfC qual scope s.heap.objs.size f cd).kindOf (ps.zip us) fun _=>none) (cellsFrom (s.heap.objs.size+1) scope.names []) (bindC (envOfC qual scope s.heap.objs.size f cd).kindOf (ps.zip us) fun _=>none) s1) :
  Inv (iL CX P w K mg base N qual scope f cd A outer s H E) [] (start N vs) H s1:=by
 have hpl:ps.length≤N.length:=by have:=congrArg List.length S.pre;rw [List.length_take] at this;lia
 obtain⟨h1,tk,rfl,hk⟩:=x.done
 have noA:∀ b:Addr,b∉(iL CX P w K mg base N qual scope f cd A outer s H E).ex:=fun b z=>absurd (show b∈([]:List Addr) from z) (by simp)
 refine⟨⟨e0.mod,S.kind,rfl,rfl,Nat.le_refl _,fun y z c h1 h2=>?_,fun y hy=>?_,fun y c _ h=>?_,fun _=>hd,Around.frames_deeper e0.frames,.inr ⟨rfl,rfl⟩,fun b z=>absurd z (noA b),e0.bs,e0.bsz,fun b _ _=>noA b,fun b z=>absurd z (noA b),e0.hV,e0.frf⟩,
  rfl,e0.bare,Un.kept hk,⟨_,x.toInCall.ns,fun i y v h1 h2 h3=>?_⟩,fun y c h=>⟨_,x.cell y c h⟩,e0.hok.fresh (Nat.le_refl _),fun y c h=>?_,fun p hp=>absurd (show p∈([]:List (Addr × Obj)) from hp) (by simp),e0.hok.kept hk,?_⟩
 ·exact name_of_addr x.apart (PySem.mem_of_lookup h1) (PySem.mem_of_lookup h2)
 ·have hy:scope.names.lookup y=some .cell∨scope.names.lookup y=some .free:=hy
  rcases hy with hy | hy
  ·exact qP hy
  ·exact absurd rfl (S.nofree _ (PySem.mem_of_lookup hy))
 ·exact Nat.le_of_lt (x.above y c (PySem.mem_of_lookup h))
 ·have hi:i<vs.length:=by
   unfold start at h2
   by_cases hi:i<vs.length
   ·exact hi
   ·rw [List.getElem?_append_right (by simpa using hi)] at h2
    rw [List.getElem?_replicate] at h2
    split at h2 <;> cases h2
  have ha:vs[i]?=some v:=by
   unfold start at h2
   rw [List.getElem?_append_left (by simpa using hi),List.getElem?_map] at h2
   cases e:vs[i]? with
   | none=>rw [e] at h2;cases h2
   | some a=>rw [e] at h2;cases h2;rfl
  obtain⟨u,hu,rv⟩:=r.get ha
  have hp:ps[i]?=some y:=by
   rw [← S.pre,List.getElem?_take_of_lt (by lia)];exact h1
  have ndP:ps.Nodup:=by rw [← S.pre];exact S.nd.sublist (List.take_sublist _ _)
  refine⟨u,rv,?_⟩
  rcases S.par y (List.mem_of_getElem? hp) with k | k
  ·exact .inl ⟨k,ou ndP hp hu k⟩
  ·obtain⟨c,e⟩:=qP (n:=s.heap.objs.size+1) k
   refine .inr ⟨.inl k,c,e,?_⟩
   have q:=x.cell y c e
   rw [oF ndP hp hu (by show scope.names.lookup y≠_;rw [k];decide)] at q
   exact q
 ·exact e0.hok.fresh (Nat.le_of_lt (x.above y c (PySem.mem_of_lookup h)))
 ·unfold start
  show _=N.length
  rw [List.length_append,List.length_map,List.length_replicate]
  lia
theorem A5{CX:rD}{P:Program}{w:World}{K:PySem.W.Frag}{mg:Str→Option Value}{base:Heap}{k:Nat}{f:Addr}{name qual:Str}{params:Arguments}{body:List Stmt}{scope:Scope}{dV kV doc pm cdv ct oc:Value}{an od:Option Addr}
  {osl:Array (Option Value)} {N ps:List Str} {sp:Sp} (lk:K.lookup f=some ⟨oc,od,.func (PySem.W.fnOf name qual params body scope dV kV doc pm an cdv ct),osl⟩) (hcd:PySem.W.codeIn K cdv qual=true) (S:aU N ps scope)
  (len:∀ vs H Q E,sp vs H Q E→vs.length=ps.length)
  (hbody:∀ (A:Around) (outer:List Env) (s:Shared) (H:Hp) (vs:List V) (Q:VK) (E:XK),bR k (A.deeper (envOfC qual scope s.heap.objs.size f cdv))→sp vs H Q E →
   ∃ t,qV (iL CX P w K mg base N qual scope f cdv A outer s H E) body t∧t { nx:=fun _ H'=>Q .non H',rt:=Q } (start N vs) H) :
  aH P w K mg base CX (k+1) f (PySem.W.fnOf name qual params body scope dV kV doc pm an cdv ct) ps sp:=by
 refine⟨len,fun A outer s H args us vs Q E hr e0 hb r hsp=>?_⟩
 have hl:=len _ _ _ _ hsp
 have KX:K.In s.heap:=e0.mod.kin.keeps fun b o e=>(e0.bs b o e).1
 have lim:s.heap.NoLimit:=e0.mod.nolimit.keeps fun b o e=>(e0.bs b o e).1
 have hkind:∀ y∈ps.zip us,scope.names.lookup y.1=some .local∨(scope.names.lookup y.1=some .cell∧((cellsFrom (s.heap.objs.size+1) scope.names []).lookup y.1).isSome=true):=fun⟨n,v⟩ hy=>by
  rcases S.par n (List.of_mem_zip hy).1 with q | q
  ·exact .inl q
  ·exact .inr ⟨q,PySem.W.cellsFrom_some _ _ _ (.inl q)⟩
 refine codeAny_call_function hr.depth (KX _ _ lk) rfl S.co S.gen rfl (PySem.W.codeRec_of KX hcd) (hb _ _ _ _ ?_)
 refine wpAny_newFunctionEnv_cells S.kind hkind fun env he s1 x=>?_
 subst he
 refine⟨lim.keeps x.toInCall.keep,codeAny_func ?_⟩
 obtain⟨t,ht,hq⟩:=hbody A outer s H vs Q E (hr.deeper _) hsp
 have I:Inv (iL CX P w K mg base N qual scope f cdv A outer s H E) [] (start N vs) H s1:=wc S hr.hd e0 hl r x
 refine wpAny_mono (ht [] s1 (start N vs) H _ I hq) (fun fl s' hs=>?_) fun e s' hs=>hs
 have fin:∀ {σ':St} {H':Hp} {v:V} {u:Value},Inv (iL CX P w K mg base N qual scope f cdv A outer s H E) [] σ' H' s'→RelV v u→Q v H'→CE outer P w H s Q u s' :=
  fun {σ' H' v u} J rv q=>⟨v,H',J.os,J.bare,J.base,J.hok,rv,q⟩
 cases fl with
 | ret u =>
  obtain⟨v,σ',H',J,rv,q⟩:=hs
  exact fin J rv q
 | next =>
  obtain⟨σ',H',J,q⟩:=hs
  exact fin (v:=V.non) (u:=Value.none) J rfl q
 | brk =>
  obtain⟨_,_,_,q⟩:=hs
  exact False.elim q
 | cont =>
  obtain⟨_,_,_,q⟩:=hs
  exact False.elim q
end L2
namespace L2
open PySem PySem.Spec PyProof.Rows
section
variable {X:Cx}{x:Str}{p pos:Pos}{e:Expr}{es:List Expr}{t:TA}{id T:String}{r:List V→Hp→VK→Prop}
def tCB(r:List V→Hp→VK→Prop)(t:TA):TE:=fun σ H Q=>t σ H fun vs H1=>r vs H1 Q
theorem aF(hc:dC X (.builtin id) r)(hg:Gl X x)(hm:X.mg x=none)(hv:bootBuiltins x=some (.builtin id))(ha:PA X (e::es) t)(hn:x≠"__name__":=by decide)(hdb:(x==("__debug__":Str))=false:=by decide)
  (he:starEach (e::es) X.env=(false,eval e X.env)::starEach es X.env:=by rfl) (hpl:(backTo pos (starEach es X.env)).any (·.1)=false:=by rfl):PE X (.Call (.Name x p) (e::es) [] pos) (tCB r t):=by
 intro pins s σ H Q I h
 refine wpAny_Call_Name_kw (eE I hg hm hv ?_ hn hdb)
 exact PyProof.Rows.callWith_builtin1 (cc (ha pos pins s σ H _ I h) fun us s1 ⟨vs,H1,I1,r1,q1⟩=>hc pins s1 σ H1 vs us Q I1 r1 q1) he hpl
theorem ba(hc:dC X (.type T) r)(hg:Gl X x)(hm:X.mg x=none)(hv:bootBuiltins x=some (.type T))(ha:PA X (e::es) t)(hn:x≠"__name__":=by decide)(hdb:(x==("__debug__":Str))=false:=by decide)
  (he:starEach (e::es) X.env=(false,eval e X.env)::starEach es X.env:=by rfl) (hpl:(backTo pos (starEach es X.env)).any (·.1)=false:=by rfl):PE X (.Call (.Name x p) (e::es) [] pos) (tCB r t):=by
 intro pins s σ H Q I h
 refine wpAny_Call_Name_kw (eE I hg hm hv ?_ hn hdb)
 exact PyProof.Rows.callWith_type1 (cc (ha pos pins s σ H _ I h) fun us s1 ⟨vs,H1,I1,r1,q1⟩=>hc pins s1 σ H1 vs us Q I1 r1 q1) he hpl
end
end L2
namespace HT
open PySem PyProof.Rows
section
open PySem.SeqAt
open PySem.AutoSeq1 (wpAny_loadPart')
open PySem.MeetsSeq PySem.MeetsSeq2 PySem.MeetsSeq3
end
section
variable {prog:Program}{w:World}{A:Around}{E:Value→Shared→Prop}{s:Shared}
theorem AD{t b:Addr}{vs ws:List Value}{Q:Value→Shared→Prop}(ht:IsTup s.heap t vs.toArray)(hb:IsTup s.heap b ws.toArray)(hv:vs≠[])
  (h1:ws=[]→Q (.ref t) s) (h2:ws≠[]→Q (.ref s.heap.objs.size) { s with heap:=s.heap.push { cls:=.type "tuple",data:=.seq (vs++ws).toArray } })
  (hsz:vs.length+ws.length≤sizeLine):wpAny (model prog w) A (binaryOp .Add (.ref t) (.ref b)) Q E s:=by
 obtain⟨⟨cls,dd,data,sl⟩,ho,hc,n,hd⟩:=id ht
 obtain⟨⟨cls2,dd2,data2,sl2⟩,ho2,hc2,n2,hd2⟩:=id hb
 simp only at hc hd hc2 hd2
 subst hc hd hc2 hd2
 have e:vs.toArray++ws.toArray=(vs++ws).toArray:=by simp
 by_cases hw:ws=[]
 ·exact concat_meets ⟨_,ho,rfl⟩ ⟨_,ho2,rfl⟩ noFill_tuple_add seq_tuple_add PySem.F.slot_tuple_add PySem.F.entry_tuple_add (PySem.F.args_tuple_add_2 _ _)
   (tuple_addW1 t b vs.toArray ws.toArray n n2 dd dd2 sl sl2 (by simpa using hv) (by simp [hw])) ⟨ho,ho2,h1 hw⟩
 ·refine concat_meets ⟨_,ho,rfl⟩ ⟨_,ho2,rfl⟩ noFill_tuple_add seq_tuple_add PySem.F.slot_tuple_add PySem.F.entry_tuple_add (PySem.F.args_tuple_add_2 _ _)
   (tuple_addW2 t b vs.toArray ws.toArray n n2 dd dd2 sl sl2 (by simpa using hv) (by simpa using hw) (by rw [List.size_toArray,List.size_toArray];exact hsz)) ⟨ho,ho2,?_⟩
  rw [e]
  exact h2 hw
def je(n d:Nat):Option Int→Nat
 | none=>d
 | some v=>if v<0 then(v+(n:Int)).toNat else min v.toNat n
theorem mS(n d:Nat):je n d none=d:=rfl
theorem gU(n d k:Nat):je n d (some (k:Int))=min k n:=by
 show(if (k:Int)<0 then((k:Int)+(n:Int)).toNat else min (k:Int).toNat n)=min k n
 rw [if_neg (by lia),Int.toNat_natCast]
end
end HT
namespace L2
open PySem PySem.Spec PyProof.Rows
abbrev TO:=St→Hp→(Option Int→Hp→Prop)→Prop
def PO(X:Cx)(e:Option Expr)(t:TO):Prop :=
 ∀ (pins:List (Addr × Obj)) (s:Shared) (σ:St) (H:Hp) (Q:Option Int→Hp→Prop),Inv X pins σ H s→t σ H Q →
  wpAny (model X.prog X.w) X.A (evalPart e X.env) (fun u s'=>∃ o H',Inv X pins σ H' s'∧IsPart u o∧Q o H') X.xe s
def Ah:TO:=fun _ H Q=>Q none H
def C7(t:TE):TO:=fun σ H Q=>t σ H fun x H1=>∃ i,x=.int i∧Q (some i) H1
section
variable {X:Cx}{e:Expr}{te:TE}{lo hi:Option Expr}{tl th:TO}{pos p2:Pos}
theorem cL:PO X none Ah:=by
 intro pins s σ H Q I h
 rw [evalPart_none]
 exact wpAny_pure ⟨none,H,I,.none,h⟩
theorem bK(h:PE X e te):PO X (some e) (C7 te):=by
 intro pins s σ H Q I hw
 rw [evalPart_some]
 refine cc (h pins s σ H _ I hw) fun u s1 ⟨x,H1,I1,r1,q1⟩=>?_
 obtain⟨i,rfl,q⟩:=q1
 obtain⟨t,rfl⟩:=r1
 exact⟨some i,H1,I1,.int i t,q⟩
def EK(X:Cx)(r:V→Option Int→Option Int→Hp→VK→Prop):Prop :=
 ∀ (pins:List (Addr × Obj)) (s:Shared) (σ:St) (H:Hp) (x:V) (v vl vu:Value) (lo hi:Option Int) (sl:Addr) (Q:VK),Inv X pins σ H s→RelV x v→s.heap.IsSliceOf sl vl vu .none→IsPart vl lo→IsPart vu hi→r x lo hi H Q →
  ∃ T id,typeLookup (.type T) "__getitem__"=pure (some (.builtin id))∧s.TypeIs v T∧wpAny (model X.prog X.w) X.A (getItem v (.ref sl)) (EP X pins σ Q) X.xe s
def tSl(r:V→Option Int→Option Int→Hp→VK→Prop)(te:TE)(tl th:TO):TE:=fun σ H Q=>te σ H fun x H1=>tl σ H1 fun l H2=>th σ H2 fun u H3=>r x l u H3 Q
theorem bH{r:V→Option Int→Option Int→Hp→VK→Prop}(hr:EK X r)(he:PE X e te)(hl:PO X lo tl)(hu:PO X hi th):PE X (.Subscript e (.Slice lo hi none p2) pos) (tSl r te tl th):=by
 intro pins s σ H Q I h
 refine Subscript_ (cc (he pins s σ H _ I h) fun v s1 ⟨x,H1,I1,r1,q1⟩=>?_)
 refine wpAny_Slice (cc (hl pins s1 σ H1 _ I1 q1) fun vl s2 ⟨l,H2,I2,pl,q2⟩=>cc (hu pins s2 σ H2 _ I2 q2) fun vu s3 ⟨u,H3,I3,pu,q3⟩=>?_)
 rw [evalPart_none]
 refine wpAny_pure ?_
 have I4:Inv X pins σ H3 { s3 with heap:=s3.heap.push { cls:=.type "slice",data:=.fields #[vl,vu,.none] } }:=I3.kept (t':=s3.toks) fun b ob q=>Heap.get?_push_of_some _ q
 obtain⟨T,id,hT,ht,hg⟩:=hr pins { s3 with heap:=s3.heap.push { cls:=.type "slice",data:=.fields #[vl,vu,.none] } } σ H3 x v vl vu l u s3.heap.objs.size Q I4 r1 (Heap.IsSliceOf.new ..) pl pu q3
 show wpAny (model X.prog X.w) X.A (subscriptTail e (.Slice lo hi none p2) v (.ref s3.heap.objs.size)) (EP X pins σ Q) X.xe { s3 with heap:=s3.heap.push { cls:=.type "slice",data:=.fields #[vl,vu,.none] } }
 exact tail_any (ops:=[.ref s3.heap.objs.size,v]) ht hT hg (by with_unfolding_all rfl)
def eD(xs:List V)(lo hi:Option Int):List V:=(xs.drop (HT.je xs.length 0 lo)).take (HT.je xs.length xs.length hi-HT.je xs.length 0 lo)
theorem qY(xs:List V)(lo hi:Option Int):(eD xs lo hi).length≤xs.length:=by
 unfold eD
 rw [List.length_take,List.length_drop]
 lia
def Di(K:PySem.W.Frag):R2:=fun x y H Q=>∃ a b xs ys,x=.ref a∧y=.ref b∧cg K H a xs∧cg K H b ys∧xs≠[]∧xs.length+ys.length≤sizeLine ∧
 (ys=[]→Q (.ref a) H)∧(ys≠[]→∀ p,H p=none→Q (.ref p) (upd H p (.tup (xs++ys))))
theorem Vals.pX{xs:List V}{us:List Value}(r:Vals xs us):us=[]↔xs=[]:=by
 cases r with
 | nil=>simp
 | cons _ _=>simp
theorem Aw:gZ X (binaryOp .Add) (Di X.K):=by
 intro pins s σ H x y v u Q I rx ry h
 obtain⟨a,b,xs,ys,rfl,rfl,ha,hb,hx,hz,q1,q2⟩:=h
 cases rx
 cases ry
 obtain⟨its,r1,p1,_⟩:=I.tuple ha
 obtain⟨its2,r2,p2,_⟩:=I.tuple hb
 refine HT.AD p1 p2 (fun z=>hx (r1.pX.mp z)) (fun z=>⟨.ref a,H,I,rfl,q1 (r2.pX.mp z)⟩) (fun z=>?_) (by rw [← r1.length,← r2.length];exact hz)
 refine⟨.ref s.heap.objs.size,_,I.laid (t':=s.toks) (o:=.tup (xs++ys)) (fun b ob q=>Heap.get?_push_of_some _ q) (Nat.le_refl _) ?_,rfl,q2 (fun w=>z (r2.pX.mpr w)) _ (I.hok.fresh (Nat.le_refl _))⟩
 exact⟨by rw [List.length_append];exact hz,_,r1.append r2,IsTup.new _ _⟩
end
end L2
namespace L2
open PySem PySem.Spec PyProof.Rows
def xf(n:Nat)(i:Int):Option Nat:=if 0≤i then(if i<n then some i.toNat else none) else if -(n:Int)≤i then some (i+n).toNat else none
def o3{α:Type}(xs:List α)(i:Int):Option α:=(xf xs.length i).bind fun j=>xs[j]?
theorem uV{n:Nat}{i:Int}{j:Nat}(h:xf n i=some j):seqIndex? i n=some j∧j<n∧-(n:Int)≤i∧i<n:=by
 unfold xf at h
 by_cases h0:0≤i
 ·rw [if_pos h0] at h
  by_cases h1:i<n
  ·rw [if_pos h1] at h
   have e:i.toNat=j:=Option.some.inj h
   exact⟨by rw [seqIndex_of h0 h1,e],by lia,by lia,h1⟩
  ·rw [if_neg h1] at h;cases h
 ·rw [if_neg h0] at h
  by_cases h1 : -(n:Int)≤i
  ·rw [if_pos h1] at h
   have e:(i+n).toNat=j:=Option.some.inj h
   exact⟨by rw [seqIndex_neg (by lia) h1,e],by lia,h1,by lia⟩
  ·rw [if_neg h1] at h;cases h
theorem pC{α:Type}{xs:List α}{i:Int}{v:α}(h:o3 xs i=some v):∃ j,seqIndex? i xs.length=some j∧xs[j]?=some v∧j<xs.length∧-(xs.length:Int)≤i∧i<xs.length:=by
 unfold o3 at h
 cases e:xf xs.length i with
 | none=>rw [e] at h;cases h
 | some j =>
  rw [e] at h
  obtain⟨h1,h2,h3,h4⟩:=uV e
  exact⟨j,h1,h,h2,h3,h4⟩
theorem aE{α:Type}{xs:List α}{j:Nat}{v:α}(h:xs[j]?=some v):o3 xs (j:Int)=some v:=by
 have hj:j<xs.length:=(List.getElem?_eq_some_iff.mp h).1
 have e:xf xs.length (j:Int)=some j:=by
  unfold xf
  rw [if_pos (by lia),if_pos (by lia)];simp
 unfold o3;rw [e];exact h
def zY(b:Expr):Prop:=∀ o i,subscripted b false o i=operate [o,i] (getItem o i)
def DJ(X:Cx)(r:R2):Prop :=
 ∀ (value slice:Expr) (pins:List (Addr × Obj)) (s:Shared) (σ:St) (H:Hp) (x y:V) (v u:Value) (Q:VK),Inv X pins σ H s→RelV x v→RelV y u→r x y H Q →
  subscripted slice false v u=operate [v,u] (getItem v u)→wpAny (model X.prog X.w) X.A (subscriptTail value slice v u) (EP X pins σ Q) X.xe s
def MtR(X:Cx)(id:String)(r:V→List V→Hp→VK→Prop):Prop :=
 ∀ (pins:List (Addr × Obj)) (s:Shared) (σ:St) (H:Hp) (x:V) (xs:List V) (v:Value) (us:List Value) (Q:VK),Inv X pins σ H s→RelV x v→Vals xs us→r x xs H Q →
  wpAny (model X.prog X.w) X.A (call (.builtin id) (v::us)) (EP X pins σ Q) X.xe s
section
variable {X:Cx}{a b:Expr}{ta tb:TE}{pos:Pos}
theorem aO{r:R2}(hr:DJ X r)(ha:PE X a ta)(hb:PE X b tb)(hs:zY b):PE X (.Subscript a b pos) (El r ta tb):=by
 intro pins s σ H Q I h
 exact Subscript_ (Cn ha hb I h fun v u s2 x y H2 I2 rx ry q=>hr a b pins s2 σ H2 x y v u Q I2 rx ry q (hs _ _))
def CW(K:PySem.W.Frag):R2:=fun x y H Q=>∃ p xs i v,x=.ref p∧y=.int i∧aI K H p xs∧o3 xs i=some v∧Q v H
def Fz(K:PySem.W.Frag):R2:=fun x y H Q=>∃ p xs i v,x=.ref p∧y=.int i∧cg K H p xs∧o3 xs i=some v∧Q v H
def Et:R2:=fun x y H Q=>∃ z i c,x=.str z∧y=.int i∧z.length≤sizeLine∧o3 z.cps.toList i=some c∧Q (.str ⟨#[c]⟩) H
theorem aV:DJ X (CW X.K):=by
 intro value slice pins s σ H x y v u Q I rx ry h hs
 obtain⟨p,xs,i,z,rfl,rfl,hq,he,q⟩:=h
 cases rx
 obtain⟨t,rfl⟩:=ry
 obtain⟨its,r,pl,hz⟩:=I.list hq
 obtain⟨j,h1,h2,h3,h4,h5⟩:=pC he
 obtain⟨w,ew,rw'⟩:=r.get h2
 have hl:=r.length
 have hn:=mG
 have fin:EP X pins σ Q w s:=⟨z,H,I,rw',q⟩
 by_cases h0:0≤i
 ·have hj:i.toNat=j:=by
   rw [seqIndex_of h0 h5] at h1
   exact Option.some.inj h1
  exact item_listR pl.isList h0 (by lia) (by rw [hj];simpa using ew) fin hs
 ·have hj:(i+(its.toArray.size:Int)).toNat=j:=by
   rw [seqIndex_neg (by lia) h4] at h1
   rw [List.size_toArray,← hl]
   exact Option.some.inj h1
  exact subscriptTail_builtinR (x:=w) pl.isList.typeIs slot_list_getitem.lookup
   (wpAny_getItem_list_neg (Q:=fun r s'=>r=w∧EP X pins σ Q r s') pl.isList (by lia) (by rw [List.size_toArray] <;> lia) (by lia) (by rw [hj];simpa using ew) ⟨rfl,fin⟩) hs
theorem bo:DJ X (Fz X.K):=by
 intro value slice pins s σ H x y v u Q I rx ry h hs
 obtain⟨p,xs,i,z,rfl,rfl,hq,he,q⟩:=h
 cases rx
 obtain⟨t,rfl⟩:=ry
 obtain⟨its,r,pl,hz⟩:=I.tuple hq
 obtain⟨j,h1,h2,h3,h4,h5⟩:=pC he
 obtain⟨w,ew,rw'⟩:=r.get h2
 have hl:=r.length
 have hn:=mG
 have fin:EP X pins σ Q w s:=⟨z,H,I,rw',q⟩
 exact subscriptTail_builtinR (x:=w) pl.typeIs slot_tuple_getitem.lookup
  (getItem_tuple (j:=j) (Q:=fun r s'=>r=w∧EP X pins σ Q r s') pl (by lia) (by lia) (by rw [List.size_toArray,← hl];exact h1) (by simpa using ew) ⟨rfl,fin⟩) hs
theorem ze:DJ X Et:=by
 intro value slice pins s σ H x y v u Q I rx ry h hs
 obtain⟨z,i,c,rfl,rfl,hz,he,q⟩:=h
 obtain⟨t,rfl⟩:=rx
 obtain⟨t',rfl⟩:=ry
 obtain⟨j,h1,h2,h3,h4,h5⟩:=pC he
 have hl:z.cps.toList.length=z.length:=by simp [Str.length]
 rw [hl] at h1 h4 h5
 have hn:=mG
 exact tail_any (typeIs_str s z t) slot_str_getitem.lookup (getItem_str (c:=c) (by
  have e1:decide (i < -(2 ^ 63:Int))=false:=decide_eq_false (by lia)
  have e2:decide (i≥2 ^ 63)=false:=decide_eq_false (by lia)
  rw [e1,e2,Bool.or_false]) (by rw [h1];simpa using h2) ⟨.str ⟨#[c]⟩,H,I.tok _,⟨_,rfl⟩,q⟩) hs
theorem sI(its:List Value)(n j:Nat)(u:Value):Obj.mapSeq (·.setIfInBounds j u) { cls:=.type "list",data:=.seq its.toArray n }={ cls:=.type "list",data:=.seq (its.set j u).toArray n }:=by
 simp [Obj.mapSeq]
theorem Inv.lst{pins:List (Addr × Obj)}{σ:St}{H:Hp}{s:Shared}{p:Addr}{xs:List V}(I:Inv X pins σ H s)(h:H p=some (.lst xs)) :
  ∃ (its:List Value) (n:Nat),Vals xs its∧s.heap.get? p=some { cls:=.type "list",data:=.seq its.toArray n }∧xs.length≤sizeLine:=by
 obtain⟨z,its,n,r,e⟩:=I.hok p _ h
 exact⟨its,n,r,e,z⟩
theorem Inv.Bi{pins:List (Addr × Obj)}{σ:St}{H:Hp}{s:Shared}{p:Addr}{xs ys:List V}{its its':List Value}{n n':Nat}{f:Obj→Obj}(I:Inv X pins σ H s)(h:H p=some (.lst xs))
  (ho:s.heap.get? p=some { cls:=.type "list",data:=.seq its.toArray n }) (hf:f { cls:=.type "list",data:=.seq its.toArray n }={ cls:=.type "list",data:=.seq its'.toArray n' }) (r:Vals ys its') (hz:ys.length≤sizeLine) (t:Nat) :
  Inv X pins σ (upd H p (.lst ys)) { s with heap:=s.heap.update p f,toks:=t }:=by
 have e:(s.heap.update p f).get? p=some { cls:=.type "list",data:=.seq its'.toArray n' }:=by
  rw [Heap.get?_update_self f ho (by rw [hf] <;> rfl),hf]
 refine I.write (x:=p) (e:=p) (by rw [h];trivial) (.inl rfl) (fun b u hb q=>(Heap.get?_update_other _ _ (Ne.symm hb)).trans q) ⟨_,e⟩ ?_
 exact⟨hz,its',n',r,e⟩
def C5:V→V→V→Hp→(Hp→Prop)→Prop:=fun o i v H Q=>∃ p xs k j,o=.ref p∧i=.int k∧H p=some (.lst xs)∧xf xs.length k=some j∧Q (upd H p (.lst (xs.set j v)))
theorem set_list:Ec X C5:=by
 intro pins s σ H o i v ov iv u Q I ro ri rv h
 obtain⟨p,xs,k,j,rfl,rfl,hp,hj,q⟩:=h
 cases ro
 obtain⟨t,rfl⟩:=ri
 obtain⟨its,n,r,ho,hz⟩:=I.lst hp
 obtain⟨h1,h2,h3,h4⟩:=uV hj
 have hl:=r.length
 have hn:=mG
 have I':Inv X pins σ (upd H p (.lst (xs.set j v))) { s with heap:=s.heap.update p (Obj.mapSeq (·.setIfInBounds j u)) } :=
  I.Bi hp ho (sI its n j u) (r.set rv j) (by rw [List.length_set];exact hz) s.toks
 by_cases h0:0≤k
 ·have hk:k.toNat=j:=by
   rw [seqIndex_of h0 h4] at h1
   exact Option.some.inj h1
  exact PySem.W.ki_setAt ho h0 (by lia) (by rw [List.size_toArray,← hl];exact h4) (by rw [hk];exact⟨_,I',q⟩)
 ·have hk:(k+(its.toArray.size:Int)).toNat=j:=by
   rw [seqIndex_neg (by lia) h3] at h1
   rw [List.size_toArray,← hl]
   exact Option.some.inj h1
  exact PySem.W.ki_setBack ho (by lia) (by rw [List.size_toArray,← hl];exact h3) (by lia) (by rw [hk];exact⟨_,I',q⟩)
theorem pD(lo hi:Option Int)(n:Nat):(sliceBounds lo hi none n).1=((HT.je n 0 lo:Nat):Int)∧(sliceBounds lo hi none n).2.1=((HT.je n n hi:Nat):Int)∧(sliceBounds lo hi none n).2.2=1:=by
 refine⟨?_,?_,rfl⟩
 ·cases lo with
  | none=>simp [sliceBounds,HT.je]
  | some i =>
   simp only [sliceBounds,HT.je,Option.getD_none,show(1:Int) > 0 by decide,if_true]
   by_cases h:i<0
   ·simp only [h,if_true] <;> lia
   ·simp only [h,if_false] <;> lia
 ·cases hi with
  | none=>simp [sliceBounds,HT.je]
  | some i =>
   simp only [sliceBounds,HT.je,Option.getD_none,show(1:Int) > 0 by decide,if_true]
   by_cases h:i<0
   ·simp only [h,if_true] <;> lia
   ·simp only [h,if_false] <;> lia
theorem nB(its:List Value)(lo hi:Option Int):slicePick its.toArray lo hi none=((its.drop (HT.je its.length 0 lo)).take (HT.je its.length its.length hi-HT.je its.length 0 lo)).toArray:=by
 obtain⟨h1,h2,h3⟩:=pD lo hi its.toArray.size
 unfold slicePick
 rw [h1,h2,h3]
 simp only [sliceRange_one,pick_run,List.size_toArray] <;> rfl
def Fn(K:PySem.W.Frag):V→Option Int→Option Int→Hp→VK→Prop:=fun x lo hi H Q=>∃ a xs,x=.ref a∧aI K H a xs∧∀ p,H p=none→Q (.ref p) (upd H p (.lst (eD xs lo hi)))
theorem ck:EK X (Fn X.K):=by
 intro pins s σ H x v vl vu lo hi sl Q I rx hs pl pu h
 obtain⟨a,xs,rfl,hx,q⟩:=h
 cases rx
 obtain⟨its,r,ht,hz⟩:=I.list hx
 have hlen:=r.length
 refine⟨"list",_,slot_list_getitem.lookup,ht.isList.typeIs,?_⟩
 refine wpAny_getItem_list_slice ht.isList hs pl pu .none (by simp) ?_ (by rw [List.size_toArray] <;> lia)
 rw [nB,← hlen]
 refine⟨.ref s.heap.objs.size,_,I.laid (t':=s.toks) (o:=.lst (eD xs lo hi)) (fun b ob q=>Heap.get?_push_of_some _ q) (Nat.le_refl _) ?_,rfl,q _ (I.hok.fresh (Nat.le_refl _))⟩
 exact⟨Nat.le_trans (qY xs lo hi) hz,_,0,(r.drop (HT.je xs.length 0 lo)).take (HT.je xs.length xs.length hi-HT.je xs.length 0 lo),Heap.get?_push_size _ rfl⟩
def dy:V→Bool
 | .non=>true
 | .bl _=>true
 | .int _=>true
 | .str _=>true
 | _=>false
def kO:V→V→Bool
 | .non,.non=>true
 | .bl a,.bl b=>a==b
 | .bl a,.int b=>(if a then 1 else 0)==b
 | .int a,.bl b=>a==(if b then 1 else 0)
 | .int a,.int b=>a==b
 | .str a,.str b=>a==b
 | _,_=>false
theorem lY{A:Around}{s:Shared}{y x:V}{u v:Value}(ry:RelV y u)(rx:RelV x v)(fy:dy y=true)(fx:dy x=true):SeqAt.EqAt A s u v (kO y x):=by
 cases y with
 | non =>
  cases ry
  cases x with
  | non=>cases rx;exact SeqAt.EqAt.same _
  | bl b=>cases rx;exact SeqAt.EqAt.none_bool b
  | int b=>obtain⟨t,rfl⟩:=rx;exact SeqAt.EqAt.none_int b t
  | str b=>obtain⟨t,rfl⟩:=rx;exact SeqAt.EqAt.none_str b t
  | _=>exact absurd (show false=true from fx) Bool.false_ne_true
 | bl a =>
  cases ry
  cases x with
  | non=>cases rx;exact SeqAt.EqAt.bool_none a
  | bl b=>cases rx;exact SeqAt.EqAt.bool_bool a b
  | int b=>obtain⟨t,rfl⟩:=rx;exact SeqAt.EqAt.bool_int a b t
  | str b=>obtain⟨t,rfl⟩:=rx;exact SeqAt.EqAt.bool_str a b t
  | _=>exact absurd (show false=true from fx) Bool.false_ne_true
 | int a =>
  obtain⟨t',rfl⟩:=ry
  cases x with
  | non=>cases rx;exact SeqAt.EqAt.int_none a t'
  | bl b=>cases rx;exact SeqAt.EqAt.int_bool a t' b
  | int b=>obtain⟨t,rfl⟩:=rx;exact SeqAt.EqAt.int_int a t' b t
  | str b=>obtain⟨t,rfl⟩:=rx;exact SeqAt.EqAt.int_str a t' b t
  | _=>exact absurd (show false=true from fx) Bool.false_ne_true
 | str a =>
  obtain⟨t',rfl⟩:=ry
  cases x with
  | non=>cases rx;exact SeqAt.EqAt.str_none a t'
  | bl b=>cases rx;exact SeqAt.EqAt.str_bool a t' b
  | int b=>obtain⟨t,rfl⟩:=rx;exact SeqAt.EqAt.str_int a t' b t
  | str b=>obtain⟨t,rfl⟩:=rx;exact SeqAt.EqAt.str_str a t' b t
  | _=>exact absurd (show false=true from fx) Bool.false_ne_true
 | _=>exact absurd (show false=true from fy) Bool.false_ne_true
def kP(x:V)(u:Value):Bool:=match u with
 | .none=>kO .non x
 | .bool b=>kO (.bl b) x
 | .int i _=>kO (.int i) x
 | .str z _=>kO (.str z) x
 | _=>false
theorem mQ{x y:V}{u:Value}(r:RelV y u)(f:dy y=true):kP x u=kO y x:=by
 cases y with
 | non=>cases r;rfl
 | bl b=>cases r;rfl
 | int i=>obtain⟨t,rfl⟩:=r;rfl
 | str z=>obtain⟨t,rfl⟩:=r;rfl
 | _=>exact absurd (show false=true from f) Bool.false_ne_true
theorem jO{x:V}:∀ {xs:List V} {us:List Value},Vals xs us→xs.all dy=true→us.any (kP x)=xs.any fun y=>kO y x
 | _,_,.nil,_=>rfl
 | y::xs,u::us,.cons r t,f=>by
  rw [List.all_cons,Bool.and_eq_true] at f
  rw [List.any_cons,List.any_cons,mQ r f.1,jO t f.2]
theorem eh{A:Around}{s:Shared}{x:V}{v:Value}(rx:RelV x v)(fx:dy x=true):∀ {xs:List V} {us:List Value},Vals xs us→xs.all dy=true→∀ u∈us,SeqAt.EqAt A s u v (kP x u)
 | _,_,.nil,_=>fun u hu=>by cases hu
 | y::xs,u::us,.cons r t,f=>fun u' hu=>by
  rw [List.all_cons,Bool.and_eq_true] at f
  rcases List.mem_cons.mp hu with rfl | hu
  ·rw [mQ r f.1];exact lY r rx f.1 fx
  ·exact eh rx fx t f.2 u' hu
def w9(x:V)(xs:List V):Bool:=xs.any fun y=>kO y x
def rIn(K:PySem.W.Frag)(neg:Bool):R2:=fun x y H Q=>∃ p xs,y=.ref p∧(aI K H p xs∨cg K H p xs)∧dy x=true∧xs.all dy=true∧Q (.bl (if neg then !w9 x xs else w9 x xs)) H
theorem cV:gZ X (compareOp .In) (rIn X.K false):=by
 intro pins s σ H x y v u Q I rx ry h
 obtain⟨p,xs,rfl,hq,fx,fs,q⟩:=h
 cases ry
 rcases hq with hq | hq
 ·obtain⟨its,r,pl,hz⟩:=I.list hq
  refine SeqAt.in_listAt (kP x) pl.isList (fun w hw=>eh rx fx r fs w (by simpa using hw)) ⟨.bl _,H,I,rfl,?_⟩
  rw [show its.toArray.any (kP x)=its.any (kP x) by simp,jO r fs]
  exact q
 ·obtain⟨its,r,pl,hz⟩:=I.tuple hq
  refine SeqAt.in_tupleAt (kP x) pl (fun w hw=>eh rx fx r fs w (by simpa using hw)) ⟨.bl _,H,I,rfl,?_⟩
  rw [show its.toArray.any (kP x)=its.any (kP x) by simp,jO r fs]
  exact q
theorem cS:gZ X (compareOp .NotIn) (rIn X.K true):=by
 intro pins s σ H x y v u Q I rx ry h
 obtain⟨p,xs,rfl,hq,fx,fs,q⟩:=h
 cases ry
 rcases hq with hq | hq
 ·obtain⟨its,r,pl,hz⟩:=I.list hq
  refine SeqAt.notIn_listAt (kP x) pl.isList (fun w hw=>eh rx fx r fs w (by simpa using hw)) ⟨.bl _,H,I,rfl,?_⟩
  rw [show its.toArray.any (kP x)=its.any (kP x) by simp,jO r fs]
  exact q
 ·obtain⟨its,r,pl,hz⟩:=I.tuple hq
  refine SeqAt.notIn_tupleAt (kP x) pl (fun w hw=>eh rx fx r fs w (by simpa using hw)) ⟨.bl _,H,I,rfl,?_⟩
  rw [show its.toArray.any (kP x)=its.any (kP x) by simp,jO r fs]
  exact q
theorem dC.or{f:Value}{r r':List V→Hp→VK→Prop}(h:dC X f r)(h':dC X f r'):dC X f (fun xs H Q=>r xs H Q∨r' xs H Q):=by
 intro pins s σ H xs us Q I rs q
 rcases q with q | q
 ·exact h pins s σ H xs us Q I rs q
 ·exact h' pins s σ H xs us Q I rs q
theorem bu:dC X (.type "list") (fun xs H Q=>∃ p ys,xs=[.ref p]∧(aI X.K H p ys∨cg X.K H p ys)∧∀ l,H l=none→Q (.ref l) (upd H l (.lst ys))):=by
 intro pins s σ H xs us Q I r h
 obtain⟨p,ys,rfl,hq,q⟩:=h
 obtain⟨u,rfl,rx⟩:=vals1 r
 cases rx
 have fin:∀ (its:List Value),Vals ys its→ys.length≤sizeLine→∀ (h':Heap) (c':Nat),(∀ b o',s.heap.get? b=some o'→h'.get? b=some o') →
   h'.get? s.heap.objs.size=some { cls:=.type "list",dict:=none,data:=.seq its.toArray c',slots:=#[] }→EP X pins σ Q (.ref s.heap.objs.size) { s with heap:=h' }:=fun its r' hz h' c' kp e =>
  ⟨.ref s.heap.objs.size,_,I.laid (t':=s.toks) kp (Nat.le_refl _) (show bO X.prog X.w _ h' _ (.lst ys) from⟨hz,its,c',r',e⟩),rfl,q _ (I.hok.fresh (Nat.le_refl _))⟩
 rcases hq with hq | hq
 ·obtain⟨its,r',pl,hz⟩:=I.list hq
  have hlen:=r'.length
  obtain⟨o,ho,hc,n,hd⟩:=pl.isList
  exact call_list_seq p (.inl rfl) ho hc hd (fun h' c' kp e=>fin its r' hz h' c' kp e) (by simp only [List.size_toArray] <;> lia)
 ·obtain⟨its,r',pl,hz⟩:=I.tuple hq
  have hlen:=r'.length
  obtain⟨o,ho,hc,n,hd⟩:=pl
  exact call_list_seq p (.inr rfl) ho hc hd (fun h' c' kp e=>fin its r' hz h' c' kp e) (by simp only [List.size_toArray] <;> lia)
theorem cw:dC X (.type "tuple") (fun xs H Q=>∃ p ys,xs=[.ref p]∧((aI X.K H p ys∧∀ l,H l=none→Q (.ref l) (upd H l (.tup ys)))∨(cg X.K H p ys∧Q (.ref p) H))):=by
 intro pins s σ H xs us Q I r h
 obtain⟨p,ys,rfl,h⟩:=h
 obtain⟨u,rfl,rx⟩:=vals1 r
 cases rx
 rcases h with⟨hq,q⟩ | ⟨hq,q⟩
 ·obtain⟨its,r',pl,hz⟩:=I.list hq
  have hlen:=r'.length
  refine call_tuple_list pl.isList (fun h' kp=>?_) (by simp only [List.size_toArray] <;> lia)
  have I1:Inv X pins σ H { s with heap:=h' }:=I.kept (t':=s.toks) kp
  have I2:Inv X pins σ (upd H h'.objs.size (.tup ys)) { s with heap:=h'.push { cls:=.type "tuple",data:=.seq its.toArray } } :=
   I1.laid (t':=s.toks) (fun b o e=>Heap.get?_push_of_some _ e) (Nat.le_refl _) (show bO X.prog X.w _ _ _ (.tup ys) from⟨hz,its,r',IsTup.new _ _⟩)
  exact⟨.ref h'.objs.size,_,I2,rfl,q _ (I1.hok.fresh (Nat.le_refl _))⟩
 ·obtain⟨its,r',pl,hz⟩:=I.tuple hq
  exact call_tuple_same pl ⟨.ref p,H,I,rfl,q⟩
def tyV(K:PySem.W.Frag)(T:String)(x:V)(H:Hp):Prop:=match x with
 | .str _=>T="str"
 | .int _=>T="int"
 | .ref p=>(T="list"∧∃ xs,aI K H p xs)∨(T="tuple"∧∃ o,K.lookup p=some o∧o.cls=.type "tuple"∧o.dict=none) ∨
   (T="dict"∧((∃ kvs,H p=some (.dK kvs))∨∃ kvs,H p=some (.dT kvs)))∨(T="set"∧∃ S n,H p=some (.set S n))
 | _=>False
theorem Bt{pins:List (Addr × Obj)}{σ:St}{H:Hp}{s:Shared}{T:String}{x:V}{v:Value}(I:Inv X pins σ H s)(r:RelV x v)(ty:tyV X.K T x H) :
  s.TypeIs v T∧∀ a,v=.ref a→∃ ob,s.heap.get? a=some ob∧ob.dict=none:=by
 cases x with
 | str z =>
  obtain⟨t,rfl⟩:=r
  cases (show T="str" from ty)
  exact⟨typeIs_str s z t,fun _ e=>nomatch e⟩
 | int i =>
  obtain⟨t,rfl⟩:=r
  cases (show T="int" from ty)
  exact⟨typeIs_int s i t,fun _ e=>nomatch e⟩
 | ref p =>
  cases r
  rcases ty with⟨rfl,xs,hq⟩ | ⟨rfl,o,hk,hc,hd⟩ | ⟨rfl,hk⟩ | ⟨rfl,S,n,hk⟩
  ·obtain⟨its,_,pl,_⟩:=I.list hq
   refine⟨pl.isList.typeIs,fun a e=>?_⟩
   cases e
   obtain⟨o,n,e,c,hd,_⟩:=pl
   exact⟨o,e,hd⟩
  ·refine⟨⟨o,I.fi p o hk,hc⟩,fun a e=>?_⟩
   cases e
   exact⟨o,I.fi _ o hk,hd⟩
  ·have z:∃ o,s.heap.get? p=some o∧o.ExactDict:=by
    rcases hk with⟨kvs,hk⟩ | ⟨kvs,hk⟩
    ·obtain⟨_,_,_,_,o,_,_,e,ex,_⟩:=I.hok p _ hk
     exact⟨o,e,ex⟩
    ·obtain⟨_,_,_,_,o,_,_,e,ex,_⟩:=I.hok p _ hk
     exact⟨o,e,ex⟩
   obtain⟨o,e,ex⟩:=z
   refine⟨⟨o,e,ex.1⟩,fun a e2=>?_⟩
   cases e2
   exact⟨o,e,ex.2.1⟩
  ·obtain⟨o,_,_,_,e,ex,_⟩:=I.hok p _ hk
   refine⟨⟨o,e,ex.1⟩,fun a e2=>?_⟩
   cases e2
   exact⟨o,e,ex.2.1⟩
 | _=>exact False.elim ty
def tBM(K:PySem.W.Frag)(T:String)(r:V→List V→Hp→VK→Prop)(to:TE)(t:TA):TE:=fun σ H Q=>to σ H fun x H1=>tyV K T x H1∧t σ H1 fun xs H2=>r x xs H2 Q
variable {o e:Expr}{es:List Expr}{to:TE}{t:TA}{name:Str}{apos cpos:Pos}{T id:String}{r:V→List V→Hp→VK→Prop}
theorem gy(pa:PlainAttrs T)(slot:Slot T name id)(hty:typeOf (.builtin id)=pure (.type "method_descriptor"))(hm:MtR X id r)(ho:PE X o to)(ha:PA X (e::es) t)
  (hbase:attributeBase o name X.env (eval o X.env)=eval o X.env:=by rfl)
  (hfew:((backTo cpos (starEach (e :: es) X.env)).all (fun x=>!x.1) && (backToKw cpos (keywordEach [] X.env)).all (fun x=>x.1.isSome)
   && decide ((e::es).length+([]:List Keyword).length+(if ([]:List Keyword).isEmpty then 0 else 1)<30))=true:=by rfl)
  (hline:(apos.endLine==cpos.line)=true:=by rfl) (hs:starEach (e::es) X.env=(false,eval e X.env)::starEach es X.env:=by rfl) (hplain:(backTo cpos (starEach es X.env)).any (·.1)=false:=by rfl) :
  PE X (.Call (.Attribute o name apos) (e::es) [] cpos) (tBM X.K T r to t):=by
 intro pins s σ H Q I h
 refine wpAny_Call_method_late hbase hfew hline rfl (cc (ho pins s σ H _ I h) fun v s1 ⟨x,H1,I1,r1,ty,q1⟩=>?_)
 obtain⟨h1,h2⟩:=Bt I1 r1 ty
 refine⟨T,id,pa,slot,hty,h1,h2,?_⟩
 have hA:=ha cpos pins s1 σ H1 _ I1 q1
 rw [hs] at hA ⊢
 refine Calls.callWith_builtin (by show(false || (backTo cpos (starEach es X.env)).any (·.1))=false;rw [hplain] <;> rfl) (Calls.evalArgs_plain ?_)
 exact cc hA fun us s2 ⟨vs,H2,I2,r2,q2⟩=>hm pins s2 σ H2 x vs v us Q I2 r1 r2 q2
end
end L2
namespace L2
open PySem PySem.Spec PyProof.Rows
def CL(X:Cx)(id:String)(r:V→List V→Hp→VK→Prop):Prop :=
 ∀ (pins:List (Addr × Obj)) (s:Shared) (σ:St) (H:Hp) (x:V) (xs:List V) (v:Value) (us:List Value) (Q:VK),Inv X pins σ H s→RelV x v→Vals xs us→r x xs H Q →
  wpAny (model X.prog X.w) X.A (call (.builtin id) (v::us)) (EP X pins σ Q) X.xe s
theorem Vals.one:∀ {x:V} {us:List Value},Vals [x] us→∃ u,us=[u]∧RelV x u
 | _,_,.cons r .nil=>⟨_,rfl,r⟩
theorem Vals.eraseIdx:∀ {xs:List V} {us:List Value} (i:Nat),Vals xs us→Vals (xs.eraseIdx i) (us.eraseIdx i)
 | _,_,_,.nil=>.nil
 | _,_,0,.cons _ t=>t
 | _,_,i+1,.cons r t=>.cons r (Vals.eraseIdx i t)
theorem Vals.reverse{xs:List V}{us:List Value}(h:Vals xs us):Vals xs.reverse us.reverse:=by
 induction h with
 | nil=>exact .nil
 | cons r t ih=>rw [List.reverse_cons,List.reverse_cons];exact Vals.append ih (.cons r .nil)
theorem oz{α:Type}:∀ (l:List α) (i:Nat),(l.eraseIdx i).length≤l.length
 | [],_=>Nat.le_refl _
 | _::_,0=>Nat.le_succ _
 | _::r,i+1=>Nat.succ_le_succ (oz r i)
section
variable {X:Cx}{pins:List (Addr × Obj)}{σ:St}{H:Hp}{s:Shared}{l b:Addr}{xs ys zs:List V}
theorem Inv.Cu{its its':List Value}{n:Nat}{f:Array Value→Array Value}{t':Nat}(I:Inv X pins σ H s)(hH:H l=some (.lst xs))
  (e:s.heap.get? l=some { cls:=.type "list",data:=.seq its.toArray n }) (hf:f its.toArray=its'.toArray) (hv:Vals ys its') (hz:ys.length≤sizeLine) :
  Inv X pins σ (upd H l (.lst ys)) { s with heap:=s.heap.update l (Obj.mapSeq f),toks:=t' }:=by
 have q:=PySem.IsL.update e f
 rw [hf] at q
 refine I.write (x:=l) (e:=l) (by rw [hH];exact trivial) (.inl rfl) (fun b' u hb hu=>(Heap.get?_update_other s.heap (Obj.mapSeq f) (Ne.symm hb)).trans hu) ⟨_,q⟩ ?_
 exact⟨hz,its',_,hv,q⟩
theorem Inv.BR{its:List Value}{t':Nat}(I:Inv X pins σ H s)(hv:Vals ys its)(hz:ys.length≤sizeLine) :
  Inv X pins σ (upd H s.heap.objs.size (.lst ys)) { s with heap:=s.heap.push { cls:=.type "list",data:=.seq its.toArray },toks:=t' } :=
 I.laid (fun _ _ q=>Heap.get?_push_of_some _ q) (Nat.le_refl _) ⟨hz,its,0,hv,Heap.get?_push_size _ rfl⟩
theorem Inv.fresh(I:Inv X pins σ H s):H s.heap.objs.size=none:=I.hok.fresh (Nat.le_refl _)
theorem Inv.pd(I:Inv X pins σ H s)(hH:H l=some (.lst xs)):xs.length≤sizeLine∧∃ (its:List Value) (n:Nat),Vals xs its∧xs.length=its.length∧s.heap.get? l=some { cls:=.type "list",data:=.seq its.toArray n }:=by
 obtain⟨z,its,n,r,e⟩:=I.hok l _ hH
 exact⟨z,its,n,r,r.length,e⟩
theorem xV{n:Nat}(h:n≤sizeLine):Builtin.List.listTooLong n=false:=by
 unfold Builtin.List.listTooLong
 exact decide_eq_false (by lia)
end
section
variable {X:Cx}
def zM:V→List V→Hp→VK→Prop:=fun x vs H Q=>∃ l xs y,x=.ref l∧vs=[y]∧H l=some (.lst xs)∧xs.length<sizeLine∧Q .non (upd H l (.lst (xs++[y])))
theorem dk:CL X "list.append" zM:=by
 intro pins s σ H x vs v us Q I rx rv h
 obtain⟨l,xs,y,rfl,rfl,hH,hz,q⟩:=h
 cases rx
 obtain⟨u,rfl,ru⟩:=rv.one
 obtain⟨z,its,n,r,hl,e⟩:=I.pd hH
 refine call_meets F.slot_list_append ⟨_,e,rfl⟩ F.entry_list_append (F.args_list_append_2 _ _) (PySem.list_append l its.toArray n u (by rw [List.size_toArray];lia)) ⟨e,?_⟩
 refine⟨.non,_,I.Cu (its':=its++[u]) hH e (by simp) (r.append (.cons ru .nil)) ?_,rfl,q⟩
 rw [List.length_append,List.length_singleton]
 lia
def zq:V→List V→Hp→VK→Prop:=fun x vs H Q=>∃ l b xs zs,x=.ref l∧vs=[.ref b]∧H l=some (.lst xs)∧H b=some (.lst zs)∧xs.length+zs.length≤sizeLine∧Q .non (upd H l (.lst (xs++zs)))
theorem wu:CL X "list.extend" zq:=by
 intro pins s σ H x vs v us Q I rx rv h
 obtain⟨l,b,xs,zs,rfl,rfl,hH,hB,hz,q⟩:=h
 cases rx
 obtain⟨u,rfl,ru⟩:=rv.one
 cases ru
 obtain⟨z,its,n,r,hl,e⟩:=I.pd hH
 obtain⟨z2,its2,n2,r2,hl2,e2⟩:=I.pd hB
 have hsz:its.toArray.size+its2.toArray.size≤sizeLine:=by rw [List.size_toArray,List.size_toArray];lia
 have hlong:¬(!its.toArray.isEmpty&&Builtin.List.listTooLong (its.toArray.size+its2.toArray.size))=true:=by
  rw [xV hsz,Bool.and_false]
  exact Bool.false_ne_true
 refine call_meets F.slot_list_extend ⟨_,e,rfl⟩ F.entry_list_extend (F.args_list_extend_2 _ _)
  (AutoSeq1.list_extend_list_list_0 l its.toArray n b its2.toArray n2 hlong (by rw [List.size_toArray];lia) (by lia)) ⟨e,e2,?_⟩
 refine⟨.non,_,I.Cu (its':=its++its2) hH e (by simp) (r.append r2) ?_,rfl,q⟩
 rw [List.length_append]
 lia
def Ct:V→List V→Hp→VK→Prop:=fun x vs H Q=>∃ l xs i k y,x=.ref l∧vs=[.int i]∧H l=some (.lst xs)∧-(2 ^ 63)≤i∧i<2 ^ 63∧seqIndex? i xs.length=some k∧xs[k]?=some y∧Q y (upd H l (.lst (xs.eraseIdx k)))
theorem yC:CL X "list.pop" Ct:=by
 intro pins s σ H x vs v us Q I rx rv h
 obtain⟨l,xs,i,k,y,rfl,rfl,hH,h1,h2,hk,hy,q⟩:=h
 cases rx
 obtain⟨u,rfl,ru⟩:=rv.one
 obtain⟨t,rfl⟩:=ru
 obtain⟨z,its,n,r,hl,e⟩:=I.pd hH
 obtain⟨w,hw,rw'⟩:=r.get hy
 refine call_meets F.slot_list_pop ⟨_,e,rfl⟩ F.entry_list_pop (F.args_list_pop_2 _ _)
  (MeetsSeq.list_pop_at l its.toArray n i t k w (fitsIndex_both h1 h2) (by rw [List.size_toArray,← hl];exact hk) (by rw [← Array.getElem?_toList];exact hw) (by rw [List.size_toArray];lia)) ⟨e,?_⟩
 refine⟨y,_,I.Cu (its':=its.eraseIdx k) hH e ?_ (r.eraseIdx k) ?_,rw',q⟩
 ·show its.toArray.eraseIdxIfInBounds k=(its.eraseIdx k).toArray
  rw [List.eraseIdxIfInBounds_toArray]
 ·have:=oz xs k
  lia
def Fy:R2:=fun x y H Q=>∃ l b xs zs,x=.ref l∧y=.ref b∧H l=some (.lst xs)∧H b=some (.lst zs)∧xs.length+zs.length≤sizeLine∧∀ p,H p=none→Q (.ref p) (upd H p (.lst (xs++zs)))
theorem dJ:gZ X (binaryOp .Add) Fy:=by
 intro pins s σ H x y v u Q I rx ry h
 obtain⟨l,b,xs,zs,rfl,rfl,hH,hB,hz,q⟩:=h
 cases rx
 cases ry
 obtain⟨z,its,n,r,hl,e⟩:=I.pd hH
 obtain⟨z2,its2,n2,r2,hl2,e2⟩:=I.pd hB
 refine PySem.P.add_list e e2 ?_ (by rw [List.size_toArray,List.size_toArray];lia)
 have ea:its.toArray++its2.toArray=(its++its2).toArray:=by simp
 rw [ea]
 exact⟨.ref _,_,I.BR (t':=s.toks) (r.append r2) (by rw [List.length_append];lia),rfl,q _ I.fresh⟩
end
section
variable {prog:Program}{w:World}{A:Around}{E:Value→Shared→Prop}{s:Shared}
end
section
variable {X:Cx}
end
end L2
namespace L2
open PySem PySem.Spec PyProof.Rows
section
variable {κ:Type}[DecidableEq κ]
def fh(kvs:List (κ × V))(k:κ):Option V:=(kvs.find? fun kv=>decide (kv.1=k)).map (·.2)
def putK(kvs:List (κ × V))(k:κ)(v:V):List (κ × V) :=
 if (kvs.any fun kv=>decide (kv.1=k))=true then kvs.map (fun kv=>if kv.1=k then(kv.1,v) else kv) else kvs++[(k,v)]
theorem ij{p:κ × V}{r:List (κ × V)}{k:κ}(e:p.1=k):fh (p::r) k=some p.2:=by simp [fh,List.find?_cons,e]
theorem ie{p:κ × V}{r:List (κ × V)}{k:κ}(e:¬ p.1=k):fh (p::r) k=fh r k:=by simp [fh,List.find?_cons,e]
theorem gg(k:κ):∀ kvs:List (κ × V),(kvs.any fun kv=>decide (kv.1=k))=(fh kvs k).isSome
 | []=>rfl
 | p::r=>by
  rw [List.any_cons]
  by_cases e:p.1=k
  ·simp only [ij e,decide_eq_true e,Bool.true_or,Option.isSome_some]
  ·rw [ie e,decide_eq_false e,Bool.false_or];exact gg k r
theorem kL(kvs:List (κ × V))(k:κ)(v:V):(putK kvs k v).length≤kvs.length+1:=by
 unfold putK
 split
 ·rw [List.length_map];lia
 ·rw [List.length_append,List.length_cons,List.length_nil];lia
theorem jf{kvs:List (κ × V)}{k:κ}(v:V)(h:fh kvs k=none):putK kvs k v=kvs++[(k,v)]:=by
 unfold putK
 rw [gg,h]
 exact if_neg (by decide)
theorem fZ.gB{o:Option V}{u:Option Value}(r:fZ o u):o.isSome=u.isSome:=by
 cases o with
 | none=>cases u with
  | none=>rfl
  | some _=>exact(show False from r).elim
 | some _=>cases u with
  | none=>exact(show False from r).elim
  | some _=>rfl
theorem fZ.getD{o:Option V}{u:Option Value}{d:V}{d':Value}(r:fZ o u)(rd:RelV d d'):RelV (o.getD d) (u.getD d'):=by
 cases o with
 | none=>cases u with
  | none=>exact rd
  | some _=>exact(show False from r).elim
 | some _=>cases u with
  | none=>exact(show False from r).elim
  | some _=>exact r
theorem KV.val{kvs:List (κ × V)}{vs:List (κ × Value)}(r:KV kvs vs)(k:κ):fZ (fh kvs k) (valueAt vs k):=by
 unfold KV at r
 induction r with
 | nil=>exact True.intro
 | @cons p q ps qs h t ih =>
  obtain⟨h1,h2⟩:=h
  by_cases e:p.1=k
  ·have e':q.1=k:=h1.symm.trans e
   have b:valueAt (q::qs) k=some q.2:=by simp [valueAt,List.find?_cons,e']
   rw [ij e,b];exact h2
  ·have e':¬ q.1=k:=fun z=>e (h1.trans z)
   have b:valueAt (q::qs) k=valueAt qs k:=by simp [valueAt,List.find?_cons,e']
   rw [ie e,b];exact ih
theorem KV.any{kvs:List (κ × V)}{vs:List (κ × Value)}(r:KV kvs vs)(k:κ):(kvs.any fun kv=>decide (kv.1=k))=vs.any fun kv=>decide (kv.1=k):=by
 unfold KV at r
 induction r with
 | nil=>rfl
 | cons h t ih=>rw [List.any_cons,List.any_cons,ih,h.1]
theorem KV.Bj{kvs:List (κ × V)}{vs:List (κ × Value)}(r:KV kvs vs)(k:κ){y:V}{u:Value}(ry:RelV y u) :
  KV (kvs.map fun kv=>if kv.1=k then(kv.1,y) else kv) (vs.map fun kv=>if kv.1=k then(kv.1,u) else kv):=by
 unfold KV at r ⊢
 induction r with
 | nil=>exact .nil
 | @cons p q ps qs h t ih =>
  rw [List.map_cons,List.map_cons]
  refine .cons ?_ ih
  obtain⟨h1,h2⟩:=h
  by_cases e:p.1=k
  ·rw [if_pos e,if_pos (h1.symm.trans e)];exact⟨h1,ry⟩
  ·rw [if_neg e,if_neg (fun z=>e (h1.trans z))];exact⟨h1,h2⟩
theorem KV.put{kvs:List (κ × V)}{vs:List (κ × Value)}(r:KV kvs vs)(k:κ){y:V}{u:Value}(ry:RelV y u):KV (putK kvs k y) (stored vs k u):=by
 unfold putK stored
 rw [r.any k]
 by_cases e:(vs.any fun kv=>decide (kv.1=k))=true
 ·rw [if_pos e,if_pos e];exact r.Bj k ry
 ·rw [if_neg e,if_neg e];exact Paired.snoc r ⟨rfl,ry⟩
theorem KV.keys{kvs:List (κ × V)}{vs:List (κ × Value)}(r:KV kvs vs):kvs.map (·.1)=vs.map (·.1):=by
 unfold KV at r
 induction r with
 | nil=>rfl
 | cons h t ih=>rw [List.map_cons,List.map_cons,ih,h.1]
theorem KV.length{kvs:List (κ × V)}{vs:List (κ × Value)}(r:KV kvs vs):kvs.length=vs.length:=Paired.length r
end
theorem oH{P:Program}{w:World}{k:Key}{u:Value}(r:RelV (kV k) u):(bU P w).is k u=true:=by
 cases k with
 | inl i=>obtain⟨t,e⟩:=(show ∃ t,u=Value.int i t from r);subst e;exact rK P w i t
 | inr x=>obtain⟨t,e⟩:=(show ∃ t,u=Value.str x t from r);subst e;exact rR P w x t
theorem oW{P:Program}{w:World}:∀ {ks:List Key} {us:List Value},Vals (ks.map kV) us→ItemsAre (bU P w) ks us
 | [],_,r=>by rw [List.map_nil] at r;cases r;exact .nil
 | k::ks,_,r=>by
  rw [List.map_cons] at r
  cases r with
  | cons h t=>exact .cons (oH h) (oW t)
abbrev KT(H:Hp):List (List Key × V)→List (List Key × Addr × Value)→Prop:=Paired fun p q=>p.1=q.1∧H q.2.1=some (.tup (p.1.map kV))∧RelV p.2 q.2.2
theorem KT.val{H:Hp}{kvs:List (List Key × V)}{xs:List (List Key × Addr × Value)}(r:KT H kvs xs)(k:List Key):fZ (fh kvs k) ((atKey xs k).map (·.2)):=by
 induction r with
 | nil=>exact True.intro
 | @cons p q ps qs h t ih =>
  obtain⟨h1,_,h2⟩:=h
  by_cases e:p.1=k
  ·have e':q.1=k:=h1.symm.trans e
   have b:atKey (q::qs) k=some q.2:=by simp [atKey,List.find?_cons,e']
   rw [ij e,b];exact h2
  ·have e':¬ q.1=k:=fun z=>e (h1.trans z)
   have b:atKey (q::qs) k=atKey qs k:=by simp [atKey,List.find?_cons,e']
   rw [ie e,b];exact ih
theorem KT.Bj{H:Hp}{kvs:List (List Key × V)}{xs:List (List Key × Addr × Value)}(r:KT H kvs xs)(k:List Key){y:V}{u:Value}(ry:RelV y u) :
  KT H (kvs.map fun kv=>if kv.1=k then(kv.1,y) else kv) (xs.map (putAt k u)):=by
 induction r with
 | nil=>exact .nil
 | @cons p q ps qs h t ih =>
  rw [List.map_cons,List.map_cons]
  refine .cons ?_ ih
  obtain⟨h1,h2,h3⟩:=h
  unfold putAt
  by_cases e:p.1=k
  ·rw [if_pos e,if_pos (h1.symm.trans e)];exact⟨h1,h2,ry⟩
  ·rw [if_neg e,if_neg (fun z=>e (h1.trans z))];exact⟨h1,h2,h3⟩
theorem KT.put{H:Hp}{kvs:List (List Key × V)}{xs:List (List Key × Addr × Value)}(r:KT H kvs xs)(k:List Key){b:Addr}{y:V}{u:Value}(hb:H b=some (.tup (k.map kV)))(ry:RelV y u) :
  KT H (putK kvs k y) (storedH xs k b u):=by
 have e:(kvs.any fun kv=>decide (kv.1=k))=(atKey xs k).isSome:=by
  rw [gg,(r.val k).gB,Option.isSome_map]
 unfold putK storedH
 rw [e]
 by_cases q:(atKey xs k).isSome=true
 ·rw [if_pos q,if_pos q];exact r.Bj k ry
 ·rw [if_neg q,if_neg q];exact Paired.snoc r ⟨rfl,hb,ry⟩
theorem KT.keeps{H H':Hp}{kvs:List (List Key × V)}{xs:List (List Key × Addr × Value)}(r:KT H kvs xs)(ht:∀ b ys,H b=some (.tup ys)→H' b=some (.tup ys)):KT H' kvs xs :=
 Paired.il r fun _ _ z=>⟨z.1,ht _ _ z.2.1,z.2.2⟩
section
variable {P:Program}{w:World}{H:Hp}{h:Heap}{a:Addr}
theorem A3{u:HO}(ok:iU P w H h)(e:Rd H a u):bO P w H h a u:=e.ok ok
theorem ku{kvs:List (Key × V)}(ok:iU P w H h)(e:Rd H a (.dK kvs)):kvs.length≤sizeLine∧(a==sysModules)=false∧∃ vs,KV kvs vs∧h.DictOf (bU P w) a vs :=
 show bO P w H h a (.dK kvs) from A3 ok e
theorem A4{kvs:List (Key × V)}(ok:iU P w H h)(e:H a=some (.dK kvs)):kvs.length≤sizeLine∧(a==sysModules)=false∧∃ vs,KV kvs vs∧h.DictOf (bU P w) a vs:=ku ok (.inl e)
theorem kd{ks:List Key}(ok:iU P w H h)(e:H a=some (.tup (ks.map kV))):(tupleKind (bU P w)).is h ks a:=by
 obtain⟨_,its,r,o,h1,h2,n,h3⟩:=(show bO P w H h a (.tup (ks.map kV)) from ok a _ e)
 exact⟨o,its.toArray,n,h1,h2,h3,by simpa using oW r⟩
theorem my{kvs:List (List Key × V)}(ok:iU P w H h)(e:Rd H a (.dT kvs)):kvs.length≤sizeLine∧(a==sysModules)=false ∧
  ∃ xs,KT H kvs xs∧h.DictOfH (tupleKind (bU P w)) a xs:=by
 obtain⟨z,y,xs,r,o,es,ep,h1,h2,h3,h4,h5⟩:=(show bO P w H h a (.dT kvs) from A3 ok e)
 refine⟨z,y,xs,r,o,es,ep,h1,h2,h3,h4,fun x hx=>?_,h5⟩
 have all:∀ {l:List (List Key × V)} {m:List (List Key × Addr × Value)},KT H l m→∀ x∈m,(tupleKind (bU P w)).is h x.1 x.2.1:=by
  intro l m q
  induction q with
  | nil=>intro x hx;exact nomatch hx
  | @cons p q ps qs hq t ih =>
   intro x hx
   rcases List.mem_cons.mp hx with e | hx
   ·subst e
    exact kd ok (by rw [← hq.1];exact hq.2.1)
   ·exact ih x hx
 exact all r x hx
theorem DI{kvs:List (List Key × V)}(ok:iU P w H h)(e:H a=some (.dT kvs)):kvs.length≤sizeLine∧(a==sysModules)=false ∧
  ∃ xs,KT H kvs xs∧h.DictOfH (tupleKind (bU P w)) a xs:=my ok (.inl e)
end
def gW(H:Hp)(a:Addr)(y:V)(r:Option V):Prop :=
 (∃ kvs k,Rd H a (.dK kvs)∧y=kV k∧r=fh kvs k)∨∃ kvs k b,Rd H a (.dT kvs)∧y=.ref b∧H b=some (.tup (k.map kV))∧r=fh kvs k
def nA(H:Hp)(a:Addr)(y v:V)(H':Hp):Prop :=
 (∃ kvs k,H a=some (.dK kvs)∧y=kV k∧kvs.length<sizeLine∧H'=upd H a (.dK (putK kvs k v))) ∨
 ∃ kvs k b,H a=some (.dT kvs)∧y=.ref b∧H b=some (.tup (k.map kV))∧kvs.length<sizeLine∧H'=upd H a (.dT (putK kvs k v))
theorem gW.k{H:Hp}{a:Addr}{kvs:List (Key × V)}{k:Key}(e:H a=some (.dK kvs)):gW H a (kV k) (fh kvs k):=.inl ⟨kvs,k,.inl e,rfl,rfl⟩
theorem nA.k{H:Hp}{a:Addr}{kvs:List (Key × V)}{k:Key}{v:V}(e:H a=some (.dK kvs))(hl:kvs.length<sizeLine):nA H a (kV k) v (upd H a (.dK (putK kvs k v))):=.inl ⟨kvs,k,e,rfl,hl,rfl⟩
section
variable {X:Cx}{pins:List (Addr × Obj)}{σ:St}{H:Hp}{s:Shared}{a:Addr}{y v:V}{u r:Value}{o:Option V}{A:Around}{E:Value→Shared→Prop}
theorem Inv.big(I:Inv X pins σ H s):sysModules<s.heap.objs.size:=by
 have h:mainGlobals<s.heap.objs.size:=(I.mod.glob.keeps I.bk).lt
 exact Nat.lt_trans (by decide) h
theorem vS{Q:Value→Shared→Prop}(hu:A.units+1<cLine)(I:Inv X pins σ H s)(g:gW H a y (some v))(ry:RelV y u)(h:∀ w' s',Inv X pins σ H s'→RelV v w'→Q w' s') :
  wpAny (model X.prog X.w) A (getItem (.ref a) u) Q E s:=by
 rcases g with⟨kvs,k,e,ey,l⟩ | ⟨kvs,k,b,e,ey,eb,l⟩
 ·subst ey
  obtain⟨z,hd,vs,rel,dd⟩:=ku I.hok e
  obtain⟨w',hw,rw'⟩:=fZ.some_of (v:=v) (o:=valueAt vs k) (by rw [l];exact rel.val k)
  exact wpAny_getItem_of (oH ry) dd.mapOf hw (h w' _ (I.tok _) rw')
 ·subst ey
  cases (show u=Value.ref b from ry)
  obtain⟨z,hd,xs,rel,dd⟩:=my I.hok e
  obtain⟨w',hw,rw'⟩:=fZ.some_of (v:=v) (o:=(atKey xs k).map (·.2)) (by rw [l];exact rel.val k)
  obtain⟨p,hp,hp2⟩:=Option.map_eq_some_iff.mp hw
  refine wpAny_getItem_heap (tupleKind_room_in1 hu) (kd I.hok eb) dd hp ?_
  rw [hp2]
  exact h w' _ (I.tok _) rw'
theorem EC{Q:Value→Shared→Prop}(hu:A.units+1<cLine)(I:Inv X pins σ H s)(g:gW H a y o)(ry:RelV y u)(h:∀ s',Inv X pins σ H s'→Q (.bool o.isSome) s') :
  wpAny (model X.prog X.w) A (compareOp .In u (.ref a)) Q E s:=by
 rcases g with⟨kvs,k,e,ey,l⟩ | ⟨kvs,k,b,e,ey,eb,l⟩
 ·subst ey
  obtain⟨z,hd,vs,rel,dd⟩:=ku I.hok e
  refine wpAny_in_of (oH ry) hd dd.mapOf ?_
  rw [← (rel.val k).gB,← l]
  exact h _ (I.tok _)
 ·subst ey
  cases (show u=Value.ref b from ry)
  obtain⟨z,hd,xs,rel,dd⟩:=my I.hok e
  refine wpAny_in_heap (tupleKind_room_in1 hu) (kd I.hok eb) hd dd ?_
  have q:=(rel.val k).gB
  rw [Option.isSome_map] at q
  rw [← q,← l]
  exact h _ (I.tok _)
theorem Az{Q:Value→Shared→Prop}(hu:A.units+1<cLine)(I:Inv X pins σ H s)(g:gW H a y o)(ry:RelV y u)(h:∀ s',Inv X pins σ H s'→Q (.bool (!o.isSome)) s') :
  wpAny (model X.prog X.w) A (compareOp .NotIn u (.ref a)) Q E s:=by
 rcases g with⟨kvs,k,e,ey,l⟩ | ⟨kvs,k,b,e,ey,eb,l⟩
 ·subst ey
  obtain⟨z,hd,vs,rel,dd⟩:=ku I.hok e
  refine wpAny_notIn_of (oH ry) hd dd.mapOf ?_
  rw [← (rel.val k).gB,← l]
  exact h _ (I.tok _)
 ·subst ey
  cases (show u=Value.ref b from ry)
  obtain⟨z,hd,xs,rel,dd⟩:=my I.hok e
  refine wpAny_notIn_heap (tupleKind_room_in1 hu) (kd I.hok eb) hd dd ?_
  have q:=(rel.val k).gB
  rw [Option.isSome_map] at q
  rw [← q,← l]
  exact h _ (I.tok _)
theorem vh{h':Heap}{t':Nat}{ob:HO}(I:Inv X pins σ H s)(mu:C9 (H a))(hs:Heap.SameBut a s.heap h')(he:∃ q,h'.get? a=some q)(new:bO X.prog X.w (upd H a ob) h' a ob) :
  Inv X pins σ (upd H a ob) { s with heap:=h',toks:=t' } :=
 I.write (x:=a) (e:=a) mu (.inl rfl) (fun b q hb z=>(hs.2 b hb).trans z) he new
theorem Cq{P:Program}{w:World}{H':Hp}{h':Heap}{kvs:List (Key × V)}{vs:List (Key × Value)}(z:kvs.length≤sizeLine)(hd:(a==sysModules)=false)(rel:KV kvs vs)(dd:h'.DictOf (bU P w) a vs) :
  bO P w H' h' a (.dK kvs):=⟨z,hd,vs,rel,dd⟩
theorem we{H':Hp}{Q:Unit→Shared→Prop}(hu:A.units+1<cLine)(I:Inv X pins σ H s)(g:nA H a y v H')(ry:RelV y u)(rv:RelV v r)(h:∀ s',Inv X pins σ H' s'→Q () s') :
  wpAny (model X.prog X.w) A (setItem (.ref a) u r) Q E s:=by
 rcases g with⟨kvs,k,e,ey,l,eH⟩ | ⟨kvs,k,b,e,ey,eb,l,eH⟩
 ·subst ey eH
  obtain⟨z,hd,vs,rel,dd⟩:=A4 I.hok e
  have hz:vs.length≤sizeLine:=by rw [← rel.length];exact z
  have hl:(putK kvs k v).length≤sizeLine:=by have:=kL kvs k v;lia
  refine wpAny_setItem_pairs (hsz:=hz) (oH ry) dd fun h' dd' hs=>h _ ?_
  have he:∃ q,h'.get? a=some q:=let ⟨q,_,_,hq,_⟩:=dd';⟨q,hq⟩
  exact vh I (by rw [e];exact True.intro) hs he (Cq hl hd (rel.put k rv) dd')
 ·subst ey eH
  cases (show u=Value.ref b from ry)
  obtain⟨z,hd,xs,rel,dd⟩:=DI I.hok e
  have hz:xs.length≤sizeLine:=by rw [← Paired.length rel];exact z
  have hl:(putK kvs k v).length≤sizeLine:=by have:=kL kvs k v;lia
  refine wpAny_setItem_heap (hsz:=hz) (tupleKind_room_in1 hu) (kd I.hok eb) dd fun h' dd' hs=>h _ ?_
  obtain⟨q,es,ep,hq,h2,h3,h4,_,h5⟩:=dd'
  refine vh I (by rw [e];exact True.intro) hs ⟨q,hq⟩ ⟨hl,hd,_,(rel.put k eb rv).keeps fun c ys ec=>?_,q,es,ep,hq,h2,h3,h4,h5⟩
  rw [ar (cv ec e (fun z=>nomatch z))]
  exact ec
end
section
variable {X:Cx}{pins:List (Addr × Obj)}{σ:St}{H:Hp}{s:Shared}{a:Addr}{kvs:List (Key × V)}{k:Key}{u:Value}{A:Around}{E:Value→Shared→Prop}
end
def Dr(i:Expr):Prop:=∀ ov iv,subscripted i false ov iv=operate [ov,iv] (getItem ov iv)
theorem Ae{prog:Program}{w:World}{A:Around}{E:Value→Shared→Prop}{s:Shared}{env:Env}{value slice:Expr}{pos:Pos}{T id:String}{Q:Value→Shared→Prop}
  (hl:typeLookup (.type T) "__getitem__"=pure (some (.builtin id))) (hs:Dr slice)
  (h:wpAny (model prog w) A (eval value env) (fun o s₁=>wpAny (model prog w) A (eval slice env) (fun i s₂=>s₂.TypeIs o T∧wpAny (model prog w) A (getItem o i) Q E s₂) E s₁) E s) :
  wpAny (model prog w) A (eval (.Subscript value slice pos) env) Q E s:=by
 refine Subscript_ (wpAny_mono h (fun o s₁ h₁=>wpAny_mono h₁ (fun i s₂ h₂=>?_) fun _ _ x=>x) fun _ _ x=>x)
 obtain⟨hT,h₂⟩:=h₂
 unfold subscriptTail
 refine wpAny_bind ?_
 rw [getitemInPython_of_ne hT.not_modules]
 refine wpAny_bind (wpAny_specialOf hT hl ?_)
 have fin:wpAny (model prog w) A (subscripted slice false o i) (fun r s₃=>wpAny (model prog w) A (letTemporaryGo value o r >>= fun _=>pure r) Q E s₃) E s₂:=by
  rw [hs o i]
  exact wpAny_operating (wpAny_mono h₂ (fun r s₃ h₃=>wpAny_bind (wpAny_letTemporaryGo (wpAny_pure h₃))) fun _ _ x=>x)
 first
  | exact wpAny_pure (wpAny_bind fin)
  | exact wpAny_bind (wpAny_pure (wpAny_bind fin))
  | exact wpAny_bind fin
theorem rB{X:Cx}{pins:List (Addr × Obj)}{σ:St}{H:Hp}{s:Shared}{a:Addr}{y:V}{o:Option V}(I:Inv X pins σ H s)(g:gW H a y o):s.TypeIs (.ref a) "dict":=by
 rcases g with⟨kvs,k,e,_,_⟩ | ⟨kvs,k,b,e,_,_,_⟩
 ·obtain⟨_,_,vs,_,dd⟩:=ku I.hok e
  exact dd.typeIs
 ·obtain⟨_,_,xs,_,dd⟩:=my I.hok e
  exact dd.typeIs
def Dk(td ty:TE):TE:=fun σ H Q=>td σ H fun x H1=>ty σ H1 fun y H2=>∃ a v,x=.ref a∧gW H2 a y (some v)∧Q v H2
def Fx(ty td:TE):TE:=fun σ H Q=>ty σ H fun y H1=>td σ H1 fun x H2=>∃ a o,x=.ref a∧gW H2 a y o∧Q (.bl o.isSome) H2
def zm(ty td:TE):TE:=fun σ H Q=>ty σ H fun y H1=>td σ H1 fun x H2=>∃ a o,x=.ref a∧gW H2 a y o∧Q (.bl (!o.isSome)) H2
def Dq(td ty tv:TE):TS:=fun D σ H=>tv σ H fun v H1=>td σ H1 fun x H2=>ty σ H2 fun y H3=>∃ a H4,x=.ref a∧nA H3 a y v H4∧D.nx σ H4
section
variable {X:Cx}{o i e value:Expr}{pos pos' tpos:Pos}{td ty tv:TE}
theorem dS(hu:X.A.units+1<cLine)(ho:PE X o td)(hi:PE X i ty)(hs:Dr i):PE X (.Subscript o i pos) (Dk td ty):=by
 intro pins s σ H Q I h
 refine Ae PySem.F.slot_dict_getitem.lookup hs (cc (ho pins s σ H _ I h) fun u s1 ⟨x,H1,I1,rx,q1⟩=>cc (hi pins s1 σ H1 _ I1 q1) fun iv s2 ⟨y,H2,I2,ry,a,v,ex,g,q2⟩=>?_)
 subst ex
 obtain rfl:u=Value.ref a:=rx
 exact⟨rB I2 g,vS hu I2 g ry fun w' s3 I3 rw'=>⟨v,H2,I3,rw',q2⟩⟩
theorem mW(hu:X.A.units+1<cLine)(hi:PE X i ty)(ho:PE X o td):PC X .In i o (Fx ty td):=by
 intro pins s σ H Q I h
 refine cc (hi pins s σ H _ I h) fun iv s1 ⟨y,H1,I1,ry,q1⟩=>cc (ho pins s1 σ H1 _ I1 q1) fun u s2 ⟨x,H2,I2,rx,a,ov,ex,g,q2⟩=>?_
 subst ex
 obtain rfl:u=Value.ref a:=rx
 exact EC hu I2 g ry fun s3 I3=>⟨.bl ov.isSome,H2,I3,rfl,q2⟩
theorem oG(hu:X.A.units+1<cLine)(hi:PE X i ty)(ho:PE X o td):PC X .NotIn i o (zm ty td):=by
 intro pins s σ H Q I h
 refine cc (hi pins s σ H _ I h) fun iv s1 ⟨y,H1,I1,ry,q1⟩=>cc (ho pins s1 σ H1 _ I1 q1) fun u s2 ⟨x,H2,I2,rx,a,ov,ex,g,q2⟩=>?_
 subst ex
 obtain rfl:u=Value.ref a:=rx
 exact Az hu I2 g ry fun s3 I3=>⟨.bl (!ov.isSome),H2,I3,rfl,q2⟩
theorem iG(hu:X.A.units+1<cLine)(ho:PE X o td)(hi:PE X i ty)(hv:PE X value tv)(hs:swapsWith value (some (.Subscript o i pos')) pos.line X.env=pure false) :
  PS X (.Assign [.Subscript o i pos'] value pos) (Dq td ty tv):=by
 intro pins s σ H D I h
 refine wpAny_Assign_Subscript (cc (hv pins s σ H _ I h) fun r s1 ⟨v,H1,I1,rv,q1⟩=>cc (ho pins s1 σ H1 _ I1 q1) fun u s2 ⟨x,H2,I2,rx,q2⟩=>cc (hi pins s2 σ H2 _ I2 q2) fun iv s3 ⟨y,H3,I3,ry,a,H4,ex,g,q3⟩=>?_) hs
 subst ex
 obtain rfl:u=Value.ref a:=rx
 exact we hu I3 g ry rv fun s4 I4=>⟨σ,H4,I4,q3⟩
end
theorem yO{P:Program}{w:World}{H:Hp}(h:Heap)(hb:sysModules<h.objs.size):bO P w H (h.push { cls:=.type "dict",data:=.dict #[] }) h.objs.size (.dK []) :=
 ⟨Nat.zero_le _,beq_eq_false_iff_ne.mpr (Ne.symm (Nat.ne_of_lt hb)),[],.nil,Heap.DictOf.new h⟩
def CA:TE:=fun _ H Q=>∀ p,H p=none→Q (.ref p) (upd H p (.dK []))
section
variable {X:Cx}{pos:Pos}
theorem ix:PE X (.Dict [] [] pos) CA:=fun pins s σ H Q I h =>
 wpAny_Dict_empty ⟨.ref s.heap.objs.size,_,I.laid (a:=s.heap.objs.size) (o:=.dK []) (t':=s.toks) (fun _ _ q=>Heap.get?_push_of_some _ q) (Nat.le_refl _) (yO s.heap I.big),rfl,h _ (I.hok.fresh (Nat.le_refl _))⟩
end
structure M1(X:Cx)(o:Expr)(m:Str)(apos:Pos)(e:Expr)(cpos:Pos):Prop where
 base:attributeBase o m X.env (eval o X.env)=eval o X.env
 Bl:((backTo cpos (starEach [e] X.env)).all (fun x=>!x.1)&&(backToKw cpos (keywordEach [] X.env)).all (fun x=>x.1.isSome)
  && decide (([e]:List Expr).length+([]:List Keyword).length+(if ([]:List Keyword).isEmpty then 0 else 1)<30))=true
 line:(apos.endLine==cpos.line)=true
 trees:backTo cpos (starEach [e] X.env)=[(false,eval e X.env)]
structure M2(X:Cx)(o:Expr)(m:Str)(apos:Pos)(e f:Expr)(cpos:Pos):Prop where
 base:attributeBase o m X.env (eval o X.env)=eval o X.env
 Bl:((backTo cpos (starEach [e,f] X.env)).all (fun x=>!x.1)&&(backToKw cpos (keywordEach [] X.env)).all (fun x=>x.1.isSome)
  && decide (([e,f]:List Expr).length+([]:List Keyword).length+(if ([]:List Keyword).isEmpty then 0 else 1)<30))=true
 line:(apos.endLine==cpos.line)=true
 trees:backTo cpos (starEach [e,f] X.env)=[(false,eval e X.env),(false,eval f X.env)]
def IsD(H:Hp)(a:Addr):Prop:=(∃ kvs,Rd H a (.dK kvs))∨∃ kvs,Rd H a (.dT kvs)
theorem BC{X:Cx}{pins:List (Addr × Obj)}{σ:St}{H:Hp}{s:Shared}{a:Addr}(I:Inv X pins σ H s)(d:IsD H a) :
  s.TypeIs (.ref a) "dict"∧(∀ b,Value.ref a=.ref b→∃ ob,s.heap.get? b=some ob∧ob.dict=none)∧(a==sysModules)=false:=by
 rcases d with⟨kvs,e⟩ | ⟨kvs,e⟩
 ·obtain⟨_,hd,vs,_,dd⟩:=ku I.hok e
  refine⟨dd.typeIs,fun b q=>?_,hd⟩
  cases q
  obtain⟨ob,_,_,h1,h2,_⟩:=dd
  exact⟨ob,h1,h2.2.1⟩
 ·obtain⟨_,hd,xs,_,dd⟩:=my I.hok e
  refine⟨dd.typeIs,fun b q=>?_,hd⟩
  cases q
  obtain⟨ob,_,_,h1,h2,_⟩:=dd
  exact⟨ob,h1,h2.2.1⟩
section
variable {X:Cx}{pins:List (Addr × Obj)}{σ:St}{H:Hp}{s:Shared}{a:Addr}{y d:V}{u r:Value}{o:Option V}{A:Around}{E:Value→Shared→Prop}
theorem BM{Q:Value→Shared→Prop}(hu:A.units+1<cLine)(I:Inv X pins σ H s)(g:gW H a y o)(ry:RelV y u)(rd:RelV d r)(h:∀ w' s',Inv X pins σ H s'→RelV (o.getD d) w'→Q w' s') :
  wpAny (model X.prog X.w) A (call (.builtin "dict.get") [.ref a,u,r]) Q E s:=by
 rcases g with⟨kvs,k,e,ey,l⟩ | ⟨kvs,k,b,e,ey,eb,l⟩
 ·subst ey
  obtain⟨z,hd,vs,rel,dd⟩:=ku I.hok e
  refine call_meetsIn PySem.F.slot_dict_get dd.typeIs PySem.F.entry_dict_get (PySem.F.args_dict_get_3 _ _ _) (meets_dict_get_default (bU X.prog X.w) a (oH ry) hd r) ⟨_,dd.mapOf,h _ _ (I.tok _) ?_⟩
  rw [l]
  exact(rel.val k).getD rd
 ·subst ey
  cases (show u=Value.ref b from ry)
  obtain⟨z,hd,xs,rel,dd⟩:=my I.hok e
  refine call_meetsIn PySem.F.slot_dict_get dd.typeIs PySem.F.entry_dict_get (PySem.F.args_dict_get_3 _ _ _) (meetsH_dict_get_default (tupleKind (bU X.prog X.w)) a b hd r) ⟨tupleKind_room_in1 hu,k,xs,kd I.hok eb,dd,h _ _ (I.tok _) ?_⟩
  rw [l]
  exact(rel.val k).getD rd
end
def BB(td ty tx:TE):TE:=fun σ H Q=>td σ H fun x H1=>∃ a,x=.ref a∧IsD H1 a∧ty σ H1 fun y H2=>tx σ H2 fun z H3=>∃ o,gW H3 a y o∧Q (o.getD z) H3
section
variable {X:Cx}{o e f:Expr}{apos cpos:Pos}{td ty tx:TE}
theorem xr(hu:X.A.units+1<cLine)(ho:PE X o td)(he:PE X e ty)(hf:PE X f tx)(m:M2 X o "get" apos e f cpos):PE X (.Call (.Attribute o "get" apos) [e,f] [] cpos) (BB td ty tx):=by
 intro pins s σ H Q I h
 refine wpAny_Call_method m.base m.Bl m.line PySem.F.plainAttrs_dict PySem.F.slot_dict_get PySem.F.type_dict_get (cc (ho pins s σ H _ I h) fun u s1 ⟨x,H1,I1,rx,a,ex,d,q1⟩=>?_)
 subst ex
 obtain rfl:u=Value.ref a:=rx
 obtain⟨t1,t2,_⟩:=BC I1 d
 refine⟨t1,t2,?_⟩
 rw [m.trees]
 refine Calls.callWith_builtin rfl (Calls.evalArgs_plain (Calls.spliced_cons (cc (he pins s1 σ H1 _ I1 q1) fun iv s2 ⟨y,H2,I2,ry,q2⟩ =>
  Calls.spliced_cons (cc (hf pins s2 σ H2 _ I2 q2) fun fv s3 ⟨z,H3,I3,rz,ov,g,q3⟩=>Calls.spliced_nil ?_))))
 exact BM hu I3 g ry rz fun w' s4 I4 rw'=>⟨_,H3,I4,rw',q3⟩
end
section
variable {X:Cx}{pins:List (Addr × Obj)}{σ:St}{H:Hp}{s:Shared}{a:Addr}{kvs:List (Key × V)}{A:Around}{E:Value→Shared→Prop}
end
section
variable {X:Cx}{pins:List (Addr × Obj)}{σ:St}{H:Hp}{s:Shared}{a:Addr}{y:V}{u:Value}{A:Around}{E:Value→Shared→Prop}
end
end L2
namespace Att
open PySem PySem.W PySem.Calls PyProof.Rows
theorem kN{P:Params}{h:Heap}:∀ (ns:List Int) (vs:List Value),WellAll P h vs (ns.map WData.int)→IntsAre vs ns:=by
 intro ns
 induction ns with
 | nil =>
  intro vs w
  rw [List.map_nil] at w
  cases w
  exact .nil
 | cons n ns ih =>
  intro vs w
  rw [List.map_cons] at w
  cases w with
  | cons a b =>
   cases a
   exact .cons _ _ (ih _ b)
theorem vG{l:OpenLaw}{n:Nat}(hn:l.most=some n){P:Params}{h:Heap}{args:List WData}{vals:List Value}
  (hpre:l.row.toRowW.claim.pre args=true) (hwl:WellAll P h vals args) :
  ∃ a vs ns,vals=[Value.ref a]∧args=[WData.list (ns.map WData.int)]∧h.get? a=some { cls:=.type "list",data:=.seq vs.toArray }∧IntsAre vs ns∧ns.length≤n:=by
 have hsh:WShape.hasAll [] args [.list .int]=true:=(pre_splitW hpre).1
 have hc:l.pre.holds [] { args:=args }=true:=(pre_splitW hpre).2
 obtain⟨d,r,rfl,h1,h2⟩:=hasAllW_cons hsh
 obtain rfl:=hasAllW_nil h2
 obtain⟨xs,rfl,h3⟩:=hasW_list h1
 obtain⟨ns,rfl⟩:=items_int h3
 have hlen:ns.length≤n:=by
  unfold OpenLaw.pre at hc
  have h4:(WTm.not (.lt (.lit (.int (n:Int))) (.len (.arg 0)))).holds [] { args:=[.list (ns.map .int)] }=true:=by
   have h4:=(holds_andW hc).1
   rw [hn] at h4
   exact h4
  have h5:=condW_of h4 (w_not (w_lt w_lit (w_len_list (w_arg rfl))))
  rw [List.length_map] at h5
  refine Nat.le_of_not_lt fun q=>?_
  have q':(n:Int)<((ns.length:Nat):Int):=by lia
  first
   | (rw [decide_eq_true q'] at h5;exact absurd h5 (by decide))
   | (simp at h5;lia)
 cases hwl with
 | cons w1 w2 =>
  cases w2
  cases w1 with
  | list ho hall=>exact⟨_,_,ns,rfl,rfl,ho,kN ns _ hall,hlen⟩
theorem wC(l:OpenLaw)(args:List WData):l.row.toRowW.claim.post args (.bool true) args=true :=
 postW_of (r:=l.row.toRowW) (X:=(true==true))
  (show WShape.has [] (.bool true) .bool=true by first | rfl | decide | simp [WShape.has,WShape.arms,WShape.armsAll])
  (show(WTm.eq .res (.lit (.bool true))).value [] { args:=args,res:=some (.bool true),after:=args }=some (.bool (true==true)) from w_eq_bool (w_res rfl) w_lit) rfl
theorem rn{l:OpenLaw}{n:Nat}{q:Program}{loose:List Str}{XP:(Str→Option Value)→Heap→Prop}{YP:World→Heap→Prop}{d:DefRec}
  (hn:l.most=some n) (hdf:d.params.defaults=[])
  (call:∀ (w:World) (s₀ s₁:Shared) (mg mb:Str→Option Value) (fa:Addr) (o:Obj) (pm cd doc:Value) (a:Addr) (vs:List Value) (ns:List Int),
   Ground q loose [] XP w s₀ mg mb s₁.heap→YP w s₁.heap →
   s₁.heap.get? fa=some o→o.data=.func (docDef d.name d.params d.body d.scope pm cd doc)→s₁.heap.CodeRec cd d.name→mg d.name=some (.ref fa) →
   s₁.heap.get? a=some { cls:=.type "list",data:=.seq vs.toArray }→IntsAre vs ns→ns.length≤n→s₁.gens = #[] →
   codeAny (model l.prog w) callerA (.call (.ref fa) ⟨[.ref a],[]⟩) (fun r s'=>r=.ok (.ret (.bool true))∧OldK s₁.heap s'.heap∧s'.os=s₁.os∧AllBare s'.gens) s₁) :
  WalkO q loose XP YP l.row.toRowW d [] (fun f vs=>PySem.call f vs):=by
 intro w s₀ s₁ mg mb G Y fa o pm cd doc dV kV ho hd hcd hD hmg hg args vals as hpre hlay hrd hwl hlo
 obtain rfl:dV=.none:=Dflts.none hD hdf
 obtain rfl:kV=.none:=Dflts.noKw hD
 obtain⟨a,vs,ns,rfl,rfl,hobj,hints,hlen⟩:=vG hn hpre hwl
 refine enter_call (codeAny_mono (call w s₀ s₁ mg mb fa o pm cd doc a vs ns G Y ho (fd_plain hd) hcd hmg hobj hints hlen hg) fun r s' hq=>?_)
 obtain⟨rfl,h2,h3,h4⟩:=hq
 exact⟨.inl ⟨.bool true,.bool true,[],rfl,fun _=>rfl,.bool true,wC l _,fun _=>⟨List.Pairwise.nil,fun _ hm=>(nomatch hm)⟩⟩,h2,h3,h4⟩
section
variable {prog:Program}{w:World}{A:Around}{E:Value→Shared→Prop}{s:Shared}{K:Frag}
end
end Att
namespace L2
open PySem PySem.Spec PyProof.Rows
theorem nU:∀ {vs:List Value} {ns:List Int},IntsAre vs ns→Vals (ns.map V.int) vs
 | _,_,.nil=>.nil
 | _,_,.cons n t h=>.cons ⟨t,rfl⟩ (nU h)
def Cz(H:Hp):Prop:=∀ b,H b=none∨∃ o xs,H b=some (.frz o (.lst xs))
theorem yM{P:Program}{w:World}{K:PySem.W.Frag}{mg mb:Str→Option Value}{CX:rD}{k:Nat}{fa a:Addr}{fd:FuncData}{x:Str}{sp:Sp}{s₁:Shared}{vs:List Value}{ns:List Int}
  (KX:K.In s₁.heap) (hns:s₁.heap.Ns mainGlobals mg) (hb:s₁.heap.Ns builtinsNs mb) (hbb:∀ x:Str,x≠"__name__"→mb x=bootBuiltins x) (hlim:s₁.heap.NoLimit) (hg:s₁.gens = #[])
  (ha:s₁.heap.get? a=some { cls:=.type "list",data:=.seq vs.toArray }) (hi:IntsAre vs ns) (hl:ns.length≤sizeLine) (hr:bR k callerA)
  (F:∀ base:Heap,K.In base→base.Ns mainGlobals mg→aH P w K mg base CX k fa fd [x] sp) (hbind:∀ (s:Shared) (u:Value),BindsTo s fd ⟨[u],[]⟩ [(x,u)])
  (hsp:∀ H:Hp,Cz H→aI K H a (ns.map V.int)→sp [.ref a] H (fun v _=>v=.bl true) fun _ _ _=>False)
  (hCX:∀ H e s',CX [] H s₁ (fun _ _ _=>False) e s'→False) :
  codeAny (model P w) callerA (.call (.ref fa) ⟨[.ref a],[]⟩) (fun r s'=>r=.ok (.ret (.bool true))∧OldK s₁.heap s'.heap∧s'.os=s₁.os∧AllBare s'.gens) s₁:=by
 have rv:=nU hi
 have lenV:=hi.length
 have core:∀ H:Hp,Cz H→aI K H a (ns.map V.int)→iU P w H s₁.heap→(∀ b,H b≠none→b=a)→(H a≠none→K.lookup a=none) →
   codeAny (model P w) callerA (.call (.ref fa) ⟨[.ref a],[]⟩) (fun r s'=>r=.ok (.ret (.bool true))∧OldK s₁.heap s'.heap∧s'.os=s₁.os∧AllBare s'.gens) s₁:=by
  intro H hO hS hok hA hK
  have base_of:∀ {b:Addr} {o:Obj},s₁.heap.get? b=some o→H b=none→(qi s₁.heap H).get? b=some o:=fun e n=>yW e n
  have noA:∀ {b:Addr} {o:Obj} {es:Array DictEntry} {ep:Nat},s₁.heap.get? b=some o→o.data=.dict es ep→H b=none:=fun {b o es ep} e d=>by
   cases q:H b with
   | none=>rfl
   | some u =>
    have e':b=a:=hA b (by rw [q];simp)
    subst e'
    rw [ha] at e;cases e
    have d':Data.seq vs.toArray _=Data.dict es ep:=d
    cases d'
  have nsK:∀ {b:Addr} {m:Str→Option Value},s₁.heap.Ns b m→(qi s₁.heap H).Ns b m:=fun {b m} ⟨o,es,ep,e,d,r⟩=>⟨o,es,ep,base_of e (noA e d),d,r⟩
  have hKb:K.In (qi s₁.heap H):=fun b o e=>base_of (KX b o e) (by
   cases q:H b with
   | none=>rfl
   | some u =>
    have e':b=a:=hA b (by rw [q];simp)
    subst e'
    rw [hK (by rw [q];simp)] at e;cases e)
  have hM:Mod K mg (qi s₁.heap H):=⟨hKb,nsK hns,⟨mb,nsK hb,hbb⟩,let ⟨mc,h1,h2⟩:=hlim;⟨mc,nsK h1,h2⟩⟩
  have e0:sg P w K mg (qi s₁.heap H) callerA [] s₁ H:=⟨rfl,hM,fun b o e=>Ac e,Nat.le_of_eq (vH _ _),trivial,fun b hb=>absurd (show b∈([]:List Addr) from hb) (by simp),hok,.of_eq hg⟩
  refine codeAny_mono ((F _ hKb (nsK hns)).run callerA [] s₁ H ⟨[.ref a],[]⟩ [.ref a] [.ref a] _ _ hr e0 (hbind s₁ (.ref a)) (.cons rfl .nil) (hsp H hO hS)) fun r s' h=>?_
  cases r with
  | error e=>exact(hCX H e s' h).elim
  | ok fl =>
   cases fl with
   | next=>exact False.elim h
   | brk=>exact False.elim h
   | cont=>exact False.elim h
   | ret u =>
    obtain⟨v,H',os,bare,un,hok',r',q⟩:=h
    have q':v=.bl true:=q
    subst q'
    obtain rfl:u=Value.bool true:=r'
    refine⟨rfl,OldK.of_keep fun b o e=>?_,os,bare⟩
    cases q:H b with
    | none=>exact un.keep b o e q (by intro z;exact absurd (show b∈([]:List Addr) from z) (by simp)) (by simp)
    | some u =>
     rcases hO b with z | ⟨ob,xs,z⟩
     ·rw [q] at z;cases z
     ·have z2:=un.frzs b ob _ z
      obtain⟨e1,_⟩:=hok b _ z
      obtain⟨e2,_⟩:=hok' b _ z2
      rw [e] at e1;cases e1
      exact e2
 cases hk:K.lookup a with
 | some o =>
  have e:=KX a o hk
  rw [ha] at e
  cases e
  refine core (fun _=>none) (fun _=>.inl rfl) (.inr ⟨_,vs.toArray,_,hk,rfl,rfl,rfl,by rw [List.size_toArray,lenV];exact hl,by simpa using rv⟩) (fun b u z=>by have z':(none:Option HO)=some u:=z;cases z') (fun b z=>absurd rfl z) fun z=>absurd rfl z
 | none =>
  refine core (fun b=>if b=a then some (.frz { cls:=.type "list",data:=.seq vs.toArray } (.lst (ns.map V.int))) else none) (fun b=>?_) (.inl (.inr ⟨{ cls:=.type "list",data:=.seq vs.toArray },if_pos rfl⟩)) (fun b u z=>?_) (fun b z=>?_) fun _=>hk
  ·by_cases hb:b=a
   ·exact .inr ⟨_,_,if_pos hb⟩
   ·exact .inl (if_neg hb)
  ·by_cases hb:b=a
   ·have z':=(if_pos hb).symm.trans z
    cases z'
    subst hb
    exact⟨ha,by rw [List.length_map];exact hl,vs,_,rv,ha⟩
   ·have z':=(if_neg hb).symm.trans z
    cases z'
  ·by_cases hb:b=a
   ·exact hb
   ·exact absurd (if_neg hb) z
end L2
namespace L2
open PySem PySem.Spec PyProof.Rows
theorem zJ{l:PySem.W.OpenLaw}{n k:Nat}{q:Program}{loose:List Str}{XP:(Str→Option Value)→Heap→Prop}{YP:World→Heap→Prop}{d:DefRec}{K:Params→PySem.W.Frag}{CX:World→rD}{sp:World→Sp}{x:Str}
  (hn:l.most=some n) (hn2:n≤sizeLine) (hdf:d.params.defaults=[]) (hr:bR k callerA)
  (hY:∀ (w:World) (h:Heap),YP w h→(K w.params).In h)
  (F:∀ (w:World) (mg:Str→Option Value) (fa:Addr) (h:Heap),(K w.params).In h→h.Ns mainGlobals mg→mg d.name = some (.ref fa) →
   ∃ fd:FuncData,(∀ (s:Shared) (u:Value),BindsTo s fd ⟨[u],[]⟩ [(x,u)]) ∧
    ∀ base:Heap,(K w.params).In base→base.Ns mainGlobals mg→aH l.prog w (K w.params) mg base (CX w) k fa fd [x] (sp w))
  (hsp:∀ (w:World) (H:Hp) (a:Addr) (ns:List Int),ns.length≤n→Cz H→aI (K w.params) H a (ns.map V.int)→sp w [.ref a] H (fun v _=>v=.bl true) fun _ _ _=>False)
  (hCX:∀ (w:World) (H:Hp) (s:Shared) (e:Value) (s':Shared),CX w [] H s (fun _ _ _=>False) e s'→False) :
  PySem.W.WalkO q loose XP YP l.row.toRowW d [] (fun f vs=>PySem.call f vs):=by
 refine Att.rn hn hdf fun w s₀ s₁ mg mb fa o pm cd doc a vs ns G Y ho hd hcd hmg hobj hints hlen hg=>?_
 have KX:=hY w _ Y
 obtain⟨fd,hb,hF⟩:=F w mg fa _ KX G.T.g hmg
 exact yM KX G.T.g G.T.b G.T.builtins G.T.nolimit hg hobj hints (Nat.le_trans hlen hn2) hr hF hb (fun H hO hS=>hsp w H a ns hlen hO hS) fun H e s'=>hCX w H s₁ e s'
end L2
namespace L2
open PySem PySem.Spec PyProof.Rows
def inClass(s:Stmt)(j:Nat):Stmt:=match s with
 | .ClassDef _ _ _ body _ _ _ _ _ _ _=>body.getD j (.Pass ⟨0,0,0,0⟩)
 | _=>.Pass ⟨0,0,0,0⟩
def aR(s:Stmt):Arguments:=match s with
 | .FunctionDef _ a _ _ _ _ _ _ _ _=>a
 | _=>{ posonlyargs:=[],args:=[],vararg:=none,kwonlyargs:=[],kw_defaults:=[],kwarg:=none,defaults:=[] }
def aM(s:Stmt):List Stmt:=match s with
 | .FunctionDef _ _ b _ _ _ _ _ _ _=>b
 | _=>[]
def ai(s:Stmt):Scope:=match s with
 | .FunctionDef _ _ _ _ _ _ sc _ _ _=>sc
 | _=>{ kind:=.function,names:=[],isGenerator:=false,isCoroutine:=false }
abbrev bX:rD:=fun _ _ _ _ _ _=>False
abbrev E0:XK:=fun _ _ _=>False
theorem aJ{X:Cx}:Passes bX X E0:=fun _ _ _ _ _ _ _ h=>h.elim
structure dW(K:PySem.W.Frag)(x qual:Str)(st:Stmt)(f:Addr)(fd:FuncData):Prop where
 ex:∃ (oc:Value) (od:Option Addr) (kV doc pm:Value) (an:Option Addr) (cdv ct:Value) (osl:Array (Option Value)),
  fd=PySem.W.fnOf x qual (aR st) (aM st) (ai st) .none kV doc pm an cdv ct∧K.lookup f=some ⟨oc,od,.func fd,osl⟩∧PySem.W.codeIn K cdv qual=true
 kp:PySem.W.keepIn K (.ref f)=true
section
variable {P:Program}{w:World}{K:PySem.W.Frag}{mg:Str→Option Value}{base:Heap}
theorem dW.ok{x qual:Str}{st:Stmt}{f:Addr}{fd:FuncData}{N ps:List Str}{k:Nat}{sp:Sp}(F:dW K x qual st f fd)(S:aU N ps (ai st))(len:∀ vs H Q E,sp vs H Q E→vs.length=ps.length)
  (hbody:∀ (cdv:Value) (A:Around) (outer:List Env) (s:Shared) (H:Hp) (vs:List V) (Q:VK) (E:XK),bR k (A.deeper (envOfC qual (ai st) s.heap.objs.size f cdv))→sp vs H Q E →
   ∃ t,qV (iL bX P w K mg base N qual (ai st) f cdv A outer s H E).zK (aM st) t∧t { nx:=fun _ H'=>Q .non H',rt:=Q } (start N vs) H):aH P w K mg base bX (k+1) f fd ps sp:=by
 obtain⟨oc,od,kV,doc,pm,an,cdv,ct,osl,rfl,lk,hcd⟩:=F.ex
 refine A5 lk hcd S len fun A outer s H vs Q E hr hsp=>?_
 obtain⟨t,h,q⟩:=hbody cdv A outer s H vs Q E hr hsp
 exact⟨t,h.zK,q⟩
theorem dW.binds{x qual:Str}{st:Stmt}{f:Addr}{fd:FuncData}{ps:List Str}(F:dW K x qual st f fd)
  (h:∀ (kV doc pm:Value) (an:Option Addr) (cdv ct:Value) (us:List Value),us.length=ps.length→bindArgs (PySem.W.fnOf x qual (aR st) (aM st) (ai st) .none kV doc pm an cdv ct) ⟨us,[]⟩=pure (ps.zip us)):Binds K fd ps []:=by
 obtain⟨oc,od,kV,doc,pm,an,cdv,ct,osl,rfl,lk,hcd⟩:=F.ex
 exact .all (h kV doc pm an cdv ct)
theorem aY{x qual:Str}{st:Stmt}{f:Addr}{oc:Value}{od an:Option Addr}{osl:Array (Option Value)}{kV doc pm cdv ct:Value}(l:K.lookup f=some ⟨oc,od,.func (PySem.W.fnOf x qual (aR st) (aM st) (ai st) .none kV doc pm an cdv ct),osl⟩)
  (c:PySem.W.codeIn K cdv qual=true) (k:PySem.W.keepIn K (.ref f)=true):dW K x qual st f (PySem.W.fnOf x qual (aR st) (aM st) (ai st) .none kV doc pm an cdv ct):=⟨⟨oc,od,kV,doc,pm,an,cdv,ct,osl,rfl,l,c⟩,k⟩
end
theorem eI{A:Around}{k:Nat}(hr:bR k A):A.units+1<cLine:=Nat.lt_of_le_of_lt (Nat.add_le_add_left (by decide:1≤64) _) hr.units
theorem oM{n:Nat}(h:n≤1000):n<sizeLine:=Nat.lt_of_le_of_lt h (by decide)
section
variable {X:Cx}
theorem pv(i:Nat){x:Str}{pos:Pos}(hN:X.N[i]?=some x:=by rfl)(hv:En X.env.scope x:=by first | exact Or.inl rfl | exact Or.inr (Or.inl rfl) | exact Or.inr (Or.inr rfl))(hd:(x==("__debug__":Str))=false:=by decide)
  (hcd:(x==("__classdict__":Str))=false:=by decide):PE X (.Name x pos) (C3 i):=Bw hN hv hd hcd
end
theorem bS{A B:Prop}(h:B):if false=true then A else B:=by
 rw [if_neg Bool.false_ne_true]
 exact h
theorem cG{A B:Prop}(h:A):if true=true then A else B:=by
 rw [if_pos rfl]
 exact h
theorem jb{c A B:Prop}[Decidable c](h1:c→A)(h2:¬ c→B):if c then A else B:=by
 by_cases h:c
 ·rw [if_pos h]
  exact h1 h
 ·rw [if_neg h]
  exact h2 h
def ao(H H':Hp):Prop:=∀ b o,H b=some o→H' b=some o
theorem ao.refl(H:Hp):ao H H:=fun _ _ h=>h
theorem ao.trans{H H1 H2:Hp}(a:ao H H1)(b:ao H1 H2):ao H H2:=fun c o h=>b c o (a c o h)
theorem ao.free{H H':Hp}(e:ao H H'){l:Addr}(h:H' l=Option.none):H l=Option.none:=by
 cases q:H l with
 | none=>rfl
 | some o =>
  rw [e l o q] at h
  cases h
theorem ao.seq{K:PySem.W.Frag}{H H':Hp}{a:Addr}{xs:List V}(e:ao H H')(h:aI K H a xs):aI K H' a xs:=by
 rcases h with(h | ⟨o,h⟩) | h
 ·exact .inl (.inl (e _ _ h))
 ·exact .inl (.inr ⟨o,e _ _ h⟩)
 ·exact .inr h
end L2
namespace L2
open PySem PySem.Spec PyProof.Rows
section
variable {X:Cx}
end
section
variable {κ:Type}[DecidableEq κ]
theorem uT{kvs:List (κ × V)}{k:κ}{v:V}(h:fh kvs k=some v):k∈kvs.map (·.1):=by
 have q:(kvs.any fun kv=>decide (kv.1=k))=true:=by
  rw [gg,h]
  all_goals rfl
 obtain⟨p,hp,e⟩:=List.any_eq_true.mp q
 exact List.mem_map.mpr ⟨p,hp,of_decide_eq_true e⟩
end
end L2
end
section
namespace UfX
open PySem
theorem ib(o:Obj)(f):(o.mapFields f).dict=o.dict:=by
 obtain⟨c,d,dt,sl⟩:=o;cases dt <;> rfl
inductive Exc(h:Heap)(e:Addr)(cls a0:Value)(dx:Option Addr)(hd:Option Addr):Prop
 | mk (oe:Obj) (vs:Array Value) (at_:h.get? e=some oe) (cl:oe.cls=cls) (dc:oe.dict=dx) (dt:oe.data=.fields vs) (first:vs[0]?=some a0) (none_:hd=none→vs[1]?=some .none)
   (some_:∀ T,hd=some T→vs[1]?=some (.ref T)∧T≠e∧∃ oT ts,h.get? T=some oT∧oT.data=.fields ts∧ts[3]?=some Value.none)
structure Step(fr:List Addr)(e:Addr)(hd:Option Addr)(h h':Heap):Prop where
 keep:∀ b o,h.get? b=some o→b∉fr→b≠e→hd≠some b→h'.get? b=some o
 slot:∀ b o,h.get? b=some o→b∈fr→∃ sl,h'.get? b=some { o with slots:=sl }
 size:h.objs.size≤h'.objs.size
section
variable {M:Model}{A:Around}{E:Value→Shared→Prop}{s:Shared}{base:Heap}{env:Env}{outer:List Env}{L e:Addr}{Q:Unit→Shared→Prop}
theorem entry{oe:Obj}{vs:Array Value}{a0 head:Value}{b:Bool}(hfr:A.frames=some (env::outer))(hl:s.heap.FunFrames base (env::outer))(hf:env.frame=some L)(he:s.heap.get? e=some oe)(hdt:oe.data=.fields vs)(hsz:1<vs.size)(h0:vs[0]?=some a0)
  (k:∀ h' T,Exc h' e oe.cls a0 oe.dict (some T)→s.heap.objs.size≤T→Step ((env::outer).filterMap (·.frame)) e none s.heap h'→Q () { s with heap:=h' }) :
  wpAny M A (do
   let fo ← frameOf env
   let pl ← entryPlaceOf L b
   let nw ← EntryCells.newEntry head fo .none (rawInt L) .none pl
   setField (.ref e) 1 nw) (fun _ s'=>wpAny M A (setFlight (.ref e) none) Q E s') E s:=by
 have nof:∀ b o us,s.heap.get? b=some o→o.data=.fields us→b∉(env::outer).filterMap (·.frame):=fun b o us h1 h2 hm=>by
  obtain⟨_,o',ho',hn⟩:=hl.mem hm
  rw [h1] at ho'
  cases ho'
  exact hn us h2
 have nef:=nof e oe vs he hdt
 refine wpAny_bind (wpAny_frameOf_fun hfr hl hf fun h1 sl1=>?_)
 refine wpAny_bind (wpAny_entryPlaceOf fun pl ip=>?_)
 unfold EntryCells.newEntry
 unfold newFields
 refine wpAny_bind (wpAny_newObj_type ?_ (ip.sizeOk5 _ _ _ _ _))
 have he1:h1.get? e=some oe:=(sl1.2.1 e nef).trans he
 generalize hob:({ cls:=.type "traceback",dict:=none,data:=.fields ([head,.ref L,.none,rawInt L,.none]++(if pl.isEmpty then List.replicate 6 Value.none else pl)).toArray }:Obj)=ob
 have hobd:ob.data=.fields ([head,.ref L,.none,rawInt L,.none]++(if pl.isEmpty then List.replicate 6 Value.none else pl)).toArray:=by rw [← hob]
 have hobf:ob.isFreed=false:=Obj.isFreed_of_fields hobd
 have he2:(h1.push ob).get? e=some oe:=Heap.get?_push_of_some ob he1
 have hT2:(h1.push ob).get? h1.objs.size=some ob:=Heap.get?_push_size h1 hobf
 have hTe:h1.objs.size≠e:=Nat.ne_of_gt (Heap.lt_size he1)
 refine wpAny_setField he2 hdt hsz ?_
 show wpAny M A (setFlight (.ref e) none) Q E { s with heap:=(h1.push ob).update e (Obj.mapFields (·.setIfInBounds 1 (.ref h1.objs.size))) }
 have hd3:=Obj.data_mapFields hdt (·.setIfInBounds 1 (Value.ref h1.objs.size))
 have he3:=Heap.get?_update_self (Obj.mapFields (·.setIfInBounds 1 (Value.ref h1.objs.size))) he2 (Obj.isFreed_of_fields hd3)
 have hT3:=(Heap.get?_update_other (h1.push ob) (Obj.mapFields (·.setIfInBounds 1 (Value.ref h1.objs.size))) (Ne.symm hTe)).trans hT2
 unfold setFlight
 refine wpAny_bind (wpAny_field he3 hd3 (x:=.ref h1.objs.size) (by simp [hsz]) ?_)
 rw [if_pos (show(Value.ref h1.objs.size != Value.none)=true from by simp)]
 refine wpAny_setField hT3 hobd (by simp only [List.size_toArray,List.length_append,List.length_cons,List.length_nil];lia) (k _ h1.objs.size ?_ ?_ ?_)
 ·refine⟨_,_,(Heap.get?_update_other _ _ hTe).trans he3,Obj.cls_mapFields _ _,ib _ _,hd3,?_,(fun z=>nomatch z),fun T hT=>?_⟩
  ·rw [Array.getElem?_setIfInBounds_ne (by decide)];exact h0
  ·cases hT
   refine⟨by simp [hsz],hTe,_,_,Heap.get?_update_self _ hT3 (Obj.isFreed_of_fields (Obj.data_mapFields hobd _)),Obj.data_mapFields hobd _,?_⟩
   simp
 ·exact Nat.le_of_eq sl1.1.symm
 ·have other:∀ b o,b≠e→h1.get? b=some o→(((h1.push ob).update e (Obj.mapFields (·.setIfInBounds 1 (.ref h1.objs.size)))).update h1.objs.size (Obj.mapFields (·.setIfInBounds 3 ((none:Option Addr).elim Value.none fun f=>rawInt f)))).get? b=some o:=fun b o hbe hb=>by
   have hbT:h1.objs.size≠b:=Nat.ne_of_gt (Heap.lt_size hb)
   rw [Heap.get?_update_other _ _ hbT,Heap.get?_update_other _ _ (Ne.symm hbe)]
   exact Heap.get?_push_of_some _ hb
  refine⟨fun b o hb hnf hbe _=>other b o hbe ((sl1.2.1 b hnf).trans hb),fun b o hb hm=>?_,?_⟩
  ·obtain⟨sl,h2⟩:=sl1.2.2 b o hb
   exact⟨sl,other b _ (fun z=>nef (z ▸ hm)) h2⟩
  ·rw [Heap.size_after_update,Heap.size_after_update,Heap.size_push,sl1.1]
   exact Nat.le_succ _
theorem leave{cls a0:Value}{dx hd:Option Addr}(hfr:A.frames=some (env::outer))(hl:s.heap.FunFrames base (env::outer))(hf:env.frame=some L)(x:Exc s.heap e cls a0 dx hd)
  (k:∀ h' T,Exc h' e cls a0 dx (some T)→s.heap.objs.size≤T→Step ((env::outer).filterMap (·.frame)) e hd s.heap h'→Q () { s with heap:=h' }):wpAny M A («leaving» env (.ref e)) Q E s:=by
 obtain⟨oe,vs,he,rfl,rfl,hdt,h0,hn,hs⟩:=x
 unfold «leaving» noteFrame
 simp only [hf]
 cases hd with
 | none =>
  have h1:=hn rfl
  refine wpAny_bind (wpAny_bind (wpAny_field he hdt h1 ?_))
  rw [if_neg (by decide)]
  exact entry hfr hl hf he hdt (Array.getElem?_eq_some_iff.mp h1).1 h0 k
 | some T =>
  obtain⟨h1,hTe,oT,ts,hT,hTd,h3⟩:=hs T rfl
  refine wpAny_bind (wpAny_bind (wpAny_field he hdt h1 ?_))
  rw [if_pos (by simp:(Value.ref T != Value.none)=true)]
  refine wpAny_bind (wpAny_field hT hTd h3 ?_)
  rw [if_neg (by simp [rawInt]:¬((Value.none==rawInt L)=true))]
  refine wpAny_bind (wpAny_setField hT hTd (Array.getElem?_eq_some_iff.mp h3).1 ?_)
  have other:∀ c,c≠T→(s.heap.update T (Obj.mapFields (·.setIfInBounds 3 Value.none))).get? c=s.heap.get? c:=fun _ hc=>Heap.get?_update_other _ _ (Ne.symm hc)
  have nT:∀ b o,s.heap.get? b=some o→(∀ us,o.data≠.fields us)→b≠T:=fun b o hb hnf z=>by
   subst z
   rw [hT] at hb
   cases hb
   exact hnf ts hTd
  refine entry hfr (hl.of_keeps fun b o hb hnf=>⟨o,(other b (nT b o hb hnf)).trans hb,rfl⟩) hf ((other e (Ne.symm hTe)).trans he) hdt (Array.getElem?_eq_some_iff.mp h1).1 h0 fun h' T' x1 x2 x3=>k h' T' x1 ?_ ?_
  ·rwa [Heap.size_after_update] at x2
  ·refine⟨fun b o hb h1 h2 h3=>x3.keep b o ((other b fun z=>h3 (by rw [z])).trans hb) h1 h2 (fun z=>nomatch z),fun b o hb hm=>?_,?_⟩
   ·obtain⟨_,o',ho',hn'⟩:=hl.mem hm
    have e':o'=o:=Option.some.inj (ho'.symm.trans hb)
    subst e'
    exact x3.slot b o' ((other b (nT b o' hb hn')).trans hb) hm
   ·have:=x3.size
    rwa [Heap.size_after_update] at this
end
end UfX
end
section
namespace L2
open PySem PySem.Spec PyProof.Rows UfX
inductive Fly(P:Program)(w:World)(outer:List Env)(H:Hp)(s:Shared)(E:XK)(e:Value)(s':Shared):Prop
 | mk (a T:Addr) (cls a0:Value) (dx:Option Addr) (H':Hp) (he:e=.ref a) (os:s'.os=s.os) (bare:AllBare s'.gens) (un:Un (hU outer) [] H H' s.heap s'.heap) (hok:iU P w H' s'.heap)
   (x:Exc s'.heap a cls a0 dx (some T)) (na:s.heap.get? a=none) (nT:s.heap.get? T=none) (ha:H' a=none) (hT:H' T=none) (q:E cls dx H')
abbrev jT(P:Program)(w:World):rD:=fun outer H s E e s'=>Fly P w outer H s E e s'
theorem aH.lift{P:Program}{w:World}{K:PySem.W.Frag}{mg:Str→Option Value}{base:Heap}{CX:rD}{k:Nat}{f:Addr}{fd:FuncData}{ps:List Str}{sp:Sp}(F:aH P w K mg base (fun _ _ _ _ _ _=>False) k f fd ps sp) :
  aH P w K mg base CX k f fd ps sp :=
 ⟨F.len,fun A outer s H args us vs Q E hr he hb hv hs=>codeAny_mono (F.run A outer s H args us vs Q E hr he hb hv hs) fun r s' h=>by
  cases r with
  | error e=>exact False.elim h
  | ok fl=>cases fl <;> exact h⟩
section
variable {P:Program}{w:World}{K:PySem.W.Frag}{mg:Str→Option Value}{base:Heap}{N:List Str}{qual:Str}{scope:Scope}{f:Addr}{cd:Value}{A:Around}{outer:List Env}{s:Shared}{H:Hp}{E:XK}
theorem AJ{pins:List (Addr × Obj)}{σ:St}{H':Hp}{s':Shared}{a:Addr}{cls a0:Value}{dx hd:Option Addr}(I:Inv (iL (jT P w) P w K mg base N qual scope f cd A outer s H E) pins σ H' s')
  (x:Exc s'.heap a cls a0 dx hd) (ha:H' a=none) (na:s.heap.get? a=none) (hh:∀ T,hd=some T→H' T=none∧s.heap.get? T=none) (q:E cls dx H') :
  (iL (jT P w) P w K mg base N qual scope f cd A outer s H E).xe (.ref a) s':=by
 refine UfX.leave (base:=base) I.ok.frames I.stack rfl x fun h' T x1 lT st=>?_
 have b0:Un (hU outer) [] H H' s.heap s'.heap:=I.base
 have fr:∀ b o,H' b=some o→b∉hU (envOfC qual scope s.heap.objs.size f cd::outer):=fun b o e hm=>by
  rw [I.lj b hm] at e
  cases e
 have kt:∀ b o u,H' b=some o→s'.heap.get? b=some u→h'.get? b=some u:=fun b o u e hu =>
  st.keep b u hu (fr b o e) (fun z=>by rw [z,ha] at e;cases e) fun z=>by rw [(hh b z).1] at e;cases e
 have old:∀ b o,s.heap.get? b=some o→b≠a∧hd≠some b:=fun b o e=>⟨fun z=>(by rw [z,na] at e;cases e),fun z=>(by rw [(hh b z).2] at e;cases e)⟩
 have nL:∀ b o,s.heap.get? b=some o→b≠s.heap.objs.size:=fun b o e z=>by
  have:=Heap.lt_size e
  rw [z] at this
  exact Nat.lt_irrefl _ this
 have mem:∀ b,b∈hU (envOfC qual scope s.heap.objs.size f cd::outer)→b=s.heap.objs.size∨b∈hU outer:=fun b hb=>by
  unfold hU at hb
  rw [List.filterMap_cons] at hb
  exact List.mem_cons.mp hb
 have sub:∀ b,b∈hU outer→b∈hU (envOfC qual scope s.heap.objs.size f cd::outer):=fun b hb=>by
  unfold hU
  rw [List.filterMap_cons]
  exact List.mem_cons_of_mem _ hb
 refine⟨a,T,cls,a0,dx,H',rfl,I.os,I.bare,⟨fun b o e n h1 h2=>?_,fun b o e n h1 h2=>?_,b0.free,fun b o e h2=>?_,b0.iK,b0.frzs,b0.tbls⟩,fun b o e=>(I.hok b o e).iy (fun c u hc hu=>?_) (fun _ z=>z) fun _ _ z=>z,x1,na,
  Heap.get?_none_of_le (Nat.le_trans I.sz lT),ha,I.hok.fresh lT,q⟩
 ·refine st.keep b o (b0.keep b o e n h1 h2) (fun hm=>?_) (old b o e).1 (old b o e).2
  rcases mem b hm with z | z
  ·exact nL b o e z
  ·exact h1 z
 ·obtain⟨sl,h3⟩:=b0.slot b o e n h1 h2
  obtain⟨sl2,h4⟩:=st.slot b _ h3 (sub b h1)
  exact⟨sl2,h4⟩
 ·obtain⟨o',h3⟩:=b0.there b o e h2
  by_cases hm:b∈hU (envOfC qual scope s.heap.objs.size f cd::outer)
  ·obtain⟨sl,h4⟩:=st.slot b o' h3 hm
   exact⟨_,h4⟩
  ·exact⟨_,st.keep b o' h3 hm (old b o e).1 (old b o e).2⟩
 ·rcases hc with rfl | hc
  ·exact kt _ _ _ e hu
  ·exact kt _ _ _ hc hu
theorem gY:Passes (jT P w) (iL (jT P w) P w K mg base N qual scope f cd A outer s H E) E:=fun pins σ H1 s1 e s' I h=>by
 obtain⟨a,T,cls,a0,dx,H',rfl,os,bare,un,hok,x,na,nT,ha,hT,q⟩:=h
 have J:=I.xm os un hok bare fun b z=>absurd z (by simp)
 have b0:Un (hU outer) [] H H1 s.heap s1.heap:=I.base
 have old:∀ b,s1.heap.get? b=none→s.heap.get? b=none:=fun b n=>by
  cases z:s.heap.get? b with
  | none=>rfl
  | some o =>
   obtain⟨o',h3⟩:=b0.there b o z (by simp)
   rw [n] at h3
   cases h3
 exact AJ J x ha (old a na) (fun T' z=>by cases z;exact⟨hT,old T nT⟩) q
end
end L2
end
section
namespace UfX
open PySem
section
variable {P:Program}{w:World}{A:Around}{X:Value→Shared→Prop}{h:Heap}{gs:Array GenState}{dr:Drawn}{tk:Nat}{o:OsState}
variable {cn cq:Str}{C N:Addr}{bases tl root:List Value}{hasD:Bool}{sn:List Str}{subs:List Value}{ab:Bool}{col:Option Bool}{cdd:Option Addr}{l0 l1 l2 l3 l5:Option Value}{B nw ini:String}
theorem nM(F:ExcBaseFacts B nw ini root)(T:OwnTail h root tl){mN:Str→Option Value}{vs:List Value}{fI:Addr}{oI:Obj}{Q:Fin→Shared→Prop}
  (hC:h.get? C=some (excClassObj cn cq C N bases tl hasD sn subs ab col cdd l0 l1 l2 l3 l5 nw)) (hN:h.Ns N mN) (hi:mN "__init__"=some (.ref fI)) (hf:h.get? fI=some oI) (hfc:oI.cls=.type "function")
  (k:∀ h' e,Heap.MadeExcOf h h' e (.ref C) vs→h.objs.size≤e→wpAny (model P w) A (call (.ref fI) (.ref e::vs)) (fun r s'=>r=.none∧Q (.done (.ret (.ref e))) s') X ⟨h',gs,dr,tk,o⟩) (hz:vs.length≤sizeLine) :
  wpAny (model P w) A (Builtin.«type.__call__» ⟨.ref C::vs,[]⟩) Q X ⟨h,gs,dr,tk,o⟩:=by
 repeat (first | (with_reducible refine wpAny_loadPart_at hC ?_) | (with_reducible refine wpAny_madeBy_exc hC ?_) | wp_step)
 refine codeAny_call_builtin_code (Code.quiet_builtin _ F.quiet) (wpAny_check_new_subT F T hC (codeAny_exc_new_subT F T hC ?_ hz))
 show wpAny _ _ _ _ _ _
 generalize hob:({ cls:=.ref C,data:=.fields #[.ref h.objs.size,.none,.none,.none,.bool false,.none] }:Obj)=ob
 generalize htb:({ cls:=.type "tuple",data:=.seq vs.toArray }:Obj)=tb
 have kp:∀ b u,h.get? b=some u→((h.push tb).push ob).get? b=some u:=fun b u e=>Heap.get?_push_of_some ob (Heap.get?_push_of_some tb e)
 have C1:=kp _ _ hC
 have f1:=kp _ _ hf
 have N1:((h.push tb).push ob).Ns N mN:=by
  obtain⟨on,es,ep,e,r⟩:=hN
  exact⟨on,es,ep,kp _ _ e,r⟩
 have T1:=T.keeps kp
 have at_:((h.push tb).push ob).get? (h.objs.size+1)=some ob:=by
  rw [← hob]
  exact Heap.get?_push_at (by rw [Heap.size_push]) rfl
 have tat:((h.push tb).push ob).get? h.objs.size=some tb:=by
  rw [← htb]
  exact Heap.get?_push_of_some _ (Heap.get?_push_at rfl rfl)
 have hself:(Value.ref C::tl).contains (.ref C)=true:=by simp
 have ocls:ob.cls=.ref C:=by rw [← hob]
 unfold isInstance
 repeat (first | (with_reducible refine wpAny_loadPart_at at_ ?_;rw [ocls]) | (with_reducible refine wpAny_isSubtype_exc C1 ?_;rw [hself]) | wp_step)
 show wpAny _ _ (typeLookup (.ref C) _) _ _ _
 refine wpAny_typeLookup_tail C1 N1 T1 F.mroIs F.init.lookup ?_
 rw [hi]
 refine wpAny_holding (wpAny_bind ?_)
 unfold bindSpecial
 refine wpAny_bind (wpAny_typeOf (T:="function") ⟨_,f1,hfc⟩ ?_)
 rw [if_pos (by decide)]
 have made:Heap.MadeExcOf h ((h.push tb).push ob) (h.objs.size+1) (.ref C) vs :=
  ⟨kp,Heap.get?_none_of_le (Nat.le_succ _),h.objs.size,by rw [at_,hob],Heap.get?_none_of_le (Nat.le_refl _),by rw [tat,htb]⟩
 refine wpAny_pure (wpAny_bind (wpAny_mono (k _ _ made (Nat.le_succ _)) (fun r s' hr=>?_) fun _ _ z=>z))
 obtain⟨rfl,hq⟩:=hr
 wp_walk
 exact hq
theorem x5(F:ExcBaseFacts B nw ini root)(T:OwnTail h root tl){mN:Str→Option Value}{vs:List Value}{fI:Addr}{oI:Obj}{Q:Value→Shared→Prop}
  (hC:h.get? C=some (excClassObj cn cq C N bases tl hasD sn subs ab col cdd l0 l1 l2 l3 l5 nw)) (hN:h.Ns N mN) (hi:mN "__init__"=some (.ref fI)) (hf:h.get? fI=some oI) (hfc:oI.cls=.type "function")
  (k:∀ h' e,Heap.MadeExcOf h h' e (.ref C) vs→h.objs.size≤e→wpAny (model P w) (A.under (.builtin "type.__call__" ⟨.ref C::vs,[]⟩)) (call (.ref fI) (.ref e::vs)) (fun r s'=>r=.none∧Q (.ref e) s') X ⟨h',gs,dr,tk,o⟩) (hz:vs.length≤sizeLine) :
  wpAny (model P w) A (call (.ref C) vs) Q X ⟨h,gs,dr,tk,o⟩:=by
 have q1:=tc_lookup
 have q2:=tc_bind (.ref C)
 have hT:(⟨h,gs,dr,tk,o⟩:Shared).TypeIs (.ref C) "type":=⟨_,hC,rfl⟩
 refine wpAny_call (codeAny_of_tree ?_)
 show wpAny _ _ (callAny (.ref C) _) _ _ _
 repeat (any_goals (first | assumption | (with_reducible refine wpAny_loadPart_at hC ?_) | wp_step))
 exact⟨rfl,codeAny_call_builtin_at (Code.quiet_builtin _ (by decide +kernel)) entry_typeCall (wpAny_check_type_call_sub hC (nM F T hC hN hi hf hfc k hz))⟩
end
end UfX
end
section
namespace L2
open PySem PySem.Spec PyProof.Rows UfX
def ic(a:Addr)(cls:Value)(dx:Option Addr)(h:Heap):Prop:=∃ oe vs t0,h.get? a=some oe∧oe.cls=cls∧oe.dict=dx∧oe.data=.fields vs∧vs[0]?=some (.ref t0)∧vs[1]?=some Value.none
def gO(a:Addr)(cls:Value)(dx:Option Addr):HO:=.ext (ic a cls dx)
theorem ic.ok{P:Program}{w:World}{H:Hp}{h:Heap}{a:Addr}{cls:Value}{dx:Option Addr}(x:ic a cls dx h):bO P w H h a (gO a cls dx):=by
 refine⟨x,?_,fun h1 h2 y k=>?_⟩
 ·obtain⟨oe,_,_,e,_⟩:=x
  exact⟨oe,e⟩
 ·obtain⟨oe,vs,t0,e,r⟩:=y
  exact⟨oe,vs,t0,k _ e,r⟩
theorem ic.exc{h:Heap}{a:Addr}{cls:Value}{dx:Option Addr}(x:ic a cls dx h):∃ a0,Exc h a cls a0 dx none:=by
 obtain⟨oe,vs,t0,e,c,d,f,g,i⟩:=x
 exact⟨_,oe,vs,e,c,d,f,g,(fun _=>i),fun T z=>nomatch z⟩
def del(H:Hp)(a:Addr):Hp:=fun b=>if b=a then none else H b
theorem yo{H:Hp}{a:Addr}:del H a a=none:=by unfold del;rw [if_pos rfl]
theorem gL{H:Hp}{a b:Addr}(h:b≠a):del H a b=H b:=by unfold del;rw [if_neg h]
theorem xG{H:Hp}{a b:Addr}{o:HO}(h:del H a b=some o):b≠a∧H b=some o:=by
 unfold del at h
 split at h
 ·cases h
 ·rename_i n
  exact⟨n,h⟩
theorem jv{H:Hp}{a b:Addr}(h:H b=none):del H a b=none:=by
 unfold del
 split
 ·rfl
 ·exact h
section
variable {X:Cx}{pins:List (Addr × Obj)}{σ:St}{H:Hp}{s:Shared}
theorem Inv.Eb{a:Addr}{φ:Heap→Prop}(I:Inv X pins σ H s)(e:H a=some (.ext φ))(n0:X.H₀ a=none):Inv X pins σ (del H a) s:=by
 have ne:∀ {b o},H b=some o→o≠.ext φ→b≠a:=fun {b o} h1 h2 z=>h2 (by rw [z,e] at h1;exact(Option.some.inj h1).symm)
 have b0:=I.base
 refine⟨I.ok,I.os,I.bare,⟨b0.keep,b0.slot,fun b o h1 h2 h3=>jv (b0.free b o h1 h2 h3),b0.there,fun b xs h=>?_,fun b o u h=>?_,fun b ps h=>?_⟩,I.loc,I.cell,jv I.free,fun x c h=>jv (I.freeC x c h),fun p hp=>?_,fun b o h=>?_,I.len⟩
 ·have h2:=b0.iK b xs h
  rw [gL (ne h2 (fun z=>nomatch z))]
  exact h2
 ·have h2:=b0.frzs b o u h
  rw [gL (ne h2 (fun z=>nomatch z))]
  exact h2
 ·obtain⟨more,h2⟩:=b0.tbls b ps h
  refine⟨more,?_⟩
  rw [gL (ne h2 (fun z=>nomatch z))]
  exact h2
 ·obtain⟨h1,h2,h3⟩:=I.pin p hp
  exact⟨h1,jv h2,h3⟩
 ·obtain⟨h1,h2⟩:=xG h
  refine(I.hok b o h2).iy (fun _ _ _ z=>z) (fun c hc=>?_) fun c xs hc=>?_
  ·rw [gL (ne hc (fun z=>nomatch z))]
   exact hc
  ·rw [gL (ne hc (fun z=>nomatch z))]
   exact hc
structure pN(K:PySem.W.Frag)(C:Addr):Prop where
 ob:∃ cn cq N bases tl hasD sn subs ab col cdd l0 l1 l2 l3 l5 nw,K.lookup C=some (excClassObj cn cq C N bases tl hasD sn subs ab col cdd l0 l1 l2 l3 l5 nw)∧tl.contains (.type "BaseException")=true
def uD(X:Cx)(E:XK):Prop:=∀ (pins:List (Addr × Obj)) (σ:St) (H:Hp) (s':Shared) (a:Addr) (cls a0:Value) (dx:Option Addr),Inv X pins σ H s'→Exc s'.heap a cls a0 dx none→H a=none→X.s₀.heap.get? a=none→E cls dx H→X.xe (.ref a) s'
def Ci(X:Cx)(E:XK)(te:TE):TS:=fun _ σ H=>te σ H fun v H1=>∃ a C dx,v=.ref a∧H1 a=some (gO a (.ref C) dx)∧pN X.K C∧X.H₀ a=none∧E (.ref C) dx (del H1 a)
theorem hJ{E:XK}{e:Expr}{te:TE}{pos:Pos}(hx:uD X E)(hc:X.calm=true)(hex:X.ex=[])(he:PE X e te):PS X (.Raise (some e) none pos) (Ci X E te):=by
 intro pins s σ H D I h
 rw [arm_exec_Raise]
 refine wpAny_bind (wpAny_standAt ?_)
 unfold raiseStmt
 simp only [evalOpt,Option.map]
 refine wpAny_bind (wpAny_bind (wpAny_mono (he pins s σ H _ I h) (fun u s1 hu=>wpAny_bind (wpAny_standAt (wpAny_pure ?_))) fun _ _ z=>z))
 obtain⟨v,H1,I1,rv,a,C,dx,rfl,ha,⟨cn,cq,N,bases,tl,hasD,sn,subs,ab,col,cdd,l0,l1,l2,l3,l5,nw,hC,hB⟩,n0,q⟩:=hu
 obtain rfl:u=Value.ref a:=rv
 have x:ic a (.ref C) dx s1.heap:=(I1.hok a _ ha).1
 have C1:=I1.fi _ _ hC
 have hcB:(Value.ref C::tl).contains (.type "BaseException")=true:=by rw [List.contains_cons,hB,Bool.or_true]
 have fly:X.xe (.ref a) s1:=by
  obtain⟨a0,ex⟩:=x.exc
  refine hx pins σ (del H1 a) s1 a (.ref C) a0 dx (I1.Eb ha n0) ex yo ?_ q
  cases z:X.s₀.heap.get? a with
  | none=>rfl
  | some o =>
   have:=I1.base.free a o z n0 (by rw [hex];simp)
   rw [ha] at this
   cases this
 obtain⟨oe,vs,t0,he1,hcl,_,hdt,_,hv1⟩:=x
 obtain⟨hp,g,d,tk,os⟩:=s1
 repeat (first | (with_reducible refine wpAny_loadPart_at he1 ?_;rw [hcl]) | (with_reducible refine wpAny_loadPart_at C1 ?_) | (with_reducible refine wpAny_isSubtype_exc C1 ?_;rw [hcB]) | wp_step)
 rw [hdt]
 refine wpAny_pure ?_
 rw [hv1]
 refine wpAny_pure ?_
 rw [if_neg (by decide)]
 exact wpAny_pure (wpAny_raiseNew_none (I.ok.hd hc) fly)
end
section
variable {P:Program}{w:World}{K:PySem.W.Frag}{mg:Str→Option Value}{base:Heap}{N:List Str}{qual:Str}{scope:Scope}{f:Addr}{cd:Value}{A:Around}{outer:List Env}{s:Shared}{H:Hp}{E:XK}
theorem ik:uD (iL (jT P w) P w K mg base N qual scope f cd A outer s H E) E:=fun pins σ H' s' a cls a0 dx I x ha na q=>AJ I x ha na (fun T z=>nomatch z) q
end
end L2
end
section
namespace L2
open PySem PySem.Spec PyProof.Rows UfX
abbrev jy:List Value:=[.type "ValueError",.type "Exception",.type "BaseException",.type "object"]
structure mP(K:PySem.W.Frag)(C N:Addr):Prop where
 ob:∃ cn cq bases tl hasD sn subs ab col cdd l0 l1 l2 l3 l5,K.lookup C=some (excClassObj cn cq C N bases tl hasD sn subs ab col cdd l0 l1 l2 l3 l5 "ValueError.__new__")∧PySem.W.tailIn K jy tl=true
theorem B3{H:Hp}{a:Addr}{o:HO}(h:H a=some o):upd H a o=H:=by
 funext b
 unfold upd
 split
 ·rename_i e
  rw [e,h]
 ·rfl
section
variable {X:Cx}{pins:List (Addr × Obj)}{σ:St}{H:Hp}{s:Shared}
theorem tL{A:Around}{E:Value→Shared→Prop}{a C N:Addr}{dx:Option Addr}{us:List Value}{Q:Value→Shared→Prop}(I:Inv X pins σ H s)(ha:H a=some (gO a (.ref C) dx))(T:mP X.K C N)(hz:us.length≤sizeLine)
  (h:∀ s',Inv X pins σ H s'→Q .none s'):wpAny (model X.prog X.w) A (call (.builtin "ValueError.__init__") (.ref a::us)) Q E s:=by
 have F:=@PySem.F.excBase_ValueError
 obtain⟨cn,cq,bases,tl,hasD,sn,subs,ab,col,cdd,l0,l1,l2,l3,l5,h1,h2⟩:=T.ob
 have T1:=PySem.W.tail_of_in I.fi h2
 have C1:=I.fi _ _ h1
 obtain⟨oe,vs,t0,he,hcl,hdx,hdt,hv0,hv1⟩:ic a (.ref C) dx s.heap:=(I.hok a _ ha).1
 refine wpAny_call (codeAny_call_builtin F.init.plain F.initEntry (wpAny_check_init_subT (E:=fun e s'=>E e s') F T1 C1 he hcl ?_))
 unfold Builtin.«BaseException.__init__»
 dsimp only
 rw [if_neg (by simp)]
 unfold newTuple Builtin.BaseException.bexcPut
 have hsz:0<vs.size:=(Array.getElem?_eq_some_iff.mp hv0).1
 have he1:(s.heap.push { cls:=.type "tuple",data:=.seq us.toArray }).get? a=some oe:=Heap.get?_push_of_some _ he
 have fin:Q .none { s with heap:=(s.heap.push { cls:=.type "tuple",data:=.seq us.toArray }).update a (Obj.mapFields (·.setIfInBounds 0 (.ref s.heap.objs.size))) }:=by
  have hd1:=Obj.data_mapFields hdt (·.setIfInBounds 0 (Value.ref s.heap.objs.size))
  have he2:=Heap.get?_update_self (Obj.mapFields (·.setIfInBounds 0 (Value.ref s.heap.objs.size))) he1 (Obj.isFreed_of_fields hd1)
  have J:=I.write (x:=a) (e:=a) (o:=gO a (.ref C) dx) (t':=s.toks) (h':=(s.heap.push { cls:=.type "tuple",data:=.seq us.toArray }).update a (Obj.mapFields (·.setIfInBounds 0 (.ref s.heap.objs.size)))) (by rw [ha];exact True.intro) (.inl rfl)
   (fun b u hb z=>(Heap.get?_update_other _ _ (Ne.symm hb)).trans (Heap.get?_push_of_some _ z)) ⟨_,he2⟩
   (ic.ok ⟨_,_,s.heap.objs.size,he2,(Obj.cls_mapFields _ _).trans hcl,(ib _ _).trans hdx,hd1,by simp [hsz],by rw [Array.getElem?_setIfInBounds_ne (by decide)];exact hv1⟩)
  rw [B3 ha] at J
  exact h _ J
 refine wpAny_bind (wpAny_newObj_type (wpAny_bind (wpAny_bind (wpAny_field he1 hdt hv0 (wpAny_bind (wpAny_setField he1 hdt hsz ?_))))) (by show us.toArray.size≤sizeLine;rw [List.size_toArray];exact hz))
 exact wpAny_letGo (wpAny_pure fin)
end
end L2
end
section
namespace L2
open PySem PySem.Spec PyProof.Rows UfX
section
variable {X:Cx}
def yh(K:PySem.W.Frag)(t:TA):TE:=fun σ H Q=>t σ H fun vs H1=>∃ a C N dx r,vs=.ref a::r∧r.length≤100∧H1 a=some (gO a (.ref C) dx)∧mP K C N∧Q .non H1
structure oO(K:PySem.W.Frag)(B:Addr):Prop where
 sp:PySem.W.specialIn K (.ref B) "__getattribute__"=some (some (.builtin "type.__getattribute__"))
 rd:PySem.W.readsIn K B (.type "type")=true
 fc:PySem.W.findCls K (.ref B) (.type "type") "__init__"=some (.val (.builtin "ValueError.__init__"))
theorem gI{pl:Sem Bool}{x:Str}{B:Addr}{p apos pos:Pos}{e:Expr}{es:List Expr}{t:TA}(hg:Gl X x)(hm:X.mg x=some (.ref B))(hb:oO X.K B)(ha:PA X (e::es) t)(hd:(x==("__debug__":Str))=false:=by decide)
  (hst:starEach (e::es) X.env=(false,eval e X.env)::starEach es X.env:=by rfl) (hpl:(backTo pos (starEach es X.env)).any (·.1)=false:=by rfl)
  (ht:eval (.Call (.Attribute (.Name x p) "__init__" apos) (e :: es) [] pos) X.env = (do
   let ov ← eval (.Name x p) X.env
   standAt apos.atName
   let (f,first) ← holding [ov] (getMethod ov "__init__" pl)
   callWith pos f first (backTo pos (starEach (e::es) X.env)) (backToKw pos (keywordEach [] X.env))):=by rfl) :
  PE X (.Call (.Attribute (.Name x p) "__init__" apos) (e::es) [] pos) (yh X.K t):=by
 intro pins s σ H Q I h
 refine PySem.W.methodCall_KW (pl:=pl) (iF I hg hm ?_ hd) ht
 refine PySem.W.method_cls I.fi hb.sp (PySem.W.cls_value I.fi hb.rd hb.fc rfl ?_)
 have I1:=I.tok (s.toks+1)
 have hA:=ha pos pins _ σ H _ I1 h
 dsimp only
 rw [hst] at hA ⊢
 refine Calls.callWith_builtin (by show(false || (backTo pos (starEach es X.env)).any (·.1))=false;rw [hpl] <;> rfl) (Calls.evalArgs_plain ?_)
 refine cc hA fun us s2 ⟨vs,H2,I2,r2,a,C,N,dx,r,ev,hr,h2,T,q⟩=>?_
 subst ev
 cases r2 with
 | cons r0 rr =>
  obtain rfl:=r0
  have hl:_=_:=Vals.length rr
  refine tL I2 h2 T (by rw [← hl,sizeLine_eq];lia) fun s' I'=>⟨.non,H2,I',rfl,q⟩
end
end L2
end
section
namespace L2
open PySem PySem.Spec PyProof.Rows UfX Builtin Builtin.ObjectAttr
def bT:List Value→Bool
 | .ref _::r=>bT r
 | l=>l==jy
theorem qS(self:Value):refuseLoop self "__setattr__" jy=pure ():=by kernel_rfl
theorem lO(self:Value):∀ {l:List Value},bT l=true→refuseLoop self "__setattr__" l=pure ()
 | [],e=>by simp [bT] at e
 | .ref c::r,e=>by rw [refuseLoop_ref];exact lO self e
 | .type n::r,e=>by rw [beq_iff_eq.mp (show((.type n::r:List Value)==jy)=true from e)];exact qS self
 | .none::r,e=>by simp [bT] at e
 | .ellipsis::r,e=>by simp [bT] at e
 | .notImplemented::r,e=>by simp [bT] at e
 | .bool _::r,e=>by simp [bT] at e
 | .int _ _::r,e=>by simp [bT] at e
 | .float _ _::r,e=>by simp [bT] at e
 | .str _ _::r,e=>by simp [bT] at e
 | .bytes _ _::r,e=>by simp [bT] at e
 | .builtin _::r,e=>by simp [bT] at e
theorem uZ:∀ {l:List Value},bT l=true→l.contains (.type "object")=true
 | [],e=>by simp [bT] at e
 | .ref c::r,e=>by rw [List.contains_cons,uZ (l:=r) e,Bool.or_true]
 | .type n::r,e=>by rw [beq_iff_eq.mp (show((.type n::r:List Value)==jy)=true from e)];decide
 | .none::r,e=>by simp [bT] at e
 | .ellipsis::r,e=>by simp [bT] at e
 | .notImplemented::r,e=>by simp [bT] at e
 | .bool _::r,e=>by simp [bT] at e
 | .int _ _::r,e=>by simp [bT] at e
 | .float _ _::r,e=>by simp [bT] at e
 | .str _ _::r,e=>by simp [bT] at e
 | .bytes _ _::r,e=>by simp [bT] at e
 | .builtin _::r,e=>by simp [bT] at e
structure pJ(K:PySem.W.Frag)(C:Addr)(f:Str):Prop where
 sa:PySem.W.findIn K (.ref C) "__setattr__"=some (some (.builtin "object.__setattr__"))
 mr:((PySem.W.clsIn K C).any fun cd=>bT cd.mro)=true
 tk:PySem.W.takerIn K C f=some none
 hd:PySem.W.hasDictIn K C=true
section
variable {P:Program}{w:World}{A:Around}{K:PySem.W.Frag}{s:Shared}{R:Result→Shared→Prop}{x C:Addr}
theorem zW{ox:Obj}{od:Option Obj}{name:Str}{tk:Tok}{v:Value}(X:K.In s.heap)(J:PySem.W.InstAt s.heap x ox C od)(S:pJ K C name)
  (h:∀ b,wpAny (model P w) A.in1 (storeInOwnDict (.ref x) (.ref C) (.str name tk) name v b)
   (fun fin s'=>match fin with | .done f=>R (.ok f) s' | .again c'=>c'.quiet=true∧codeAny (model P w) A c' R s') (fun e s'=>R (.error e) s') s) :
  codeAny (model P w) A (.call (.builtin "object.__setattr__") ⟨[.ref x,.str name tk,v],[]⟩) R s:=by
 have G:=PySem.F.store_object
 obtain⟨cd,hc,hm⟩:=PySem.W.any_some S.mr
 have ne:cd.mro.isEmpty=false:=by
  cases q:cd.mro with
  | nil=>rw [q] at hm;simp [bT] at hm
  | cons _ _=>rfl
 have isO:PySem.W.Looks (model P w) s.heap (isInstance (.ref x) (.type "object")) true:=J.type.andThen (PySem.W.looks_mroIn X (by
  unfold PySem.W.mroIn
  rw [hc,Option.bind_some,if_neg (by rw [ne];decide),uZ hm]))
 refine codeAny_call_builtin G.slot.plain G.entry (@PySem.W.check_slot (model P w) _ _ s "object.__setattr__" "object" "__setattr__" (.ref x) [.str name tk,v] [] _ G.kind G.split isO (G.args (.ref x) (.str name tk) v) ?_)
 obtain⟨attr,ha,hr⟩:=Option.bind_eq_some_iff.mp S.tk
 have lm:PySem.W.Looks (model P w) s.heap (mroOf (.ref C)) cd.mro:=(PySem.W.looks_clsIn X hc).andThen .now
 have lt:PySem.W.Looks (model P w) s.heap (storeTaker? attr) none:=by
  cases attr with
  | none=>exact .now
  | some a =>
   obtain⟨b,hb,hbn⟩:=Option.map_eq_some_iff.mp hr
   refine(PySem.W.looks_takesIn X hb).andThen ?_
   cases b with
   | true=>cases hbn
   | false=>exact .now
 rw [PySem.W.osa_eq,refuse_eq]
 refine wpAny_bind (wpAny_bind (J.type.here (wpAny_bind (lm.here ?_))))
 rw [lO _ hm]
 exact wpAny_pure (wpAny_bind (J.type.here (wpAny_bind ((PySem.W.looks_findIn X ha).here (wpAny_bind (lt.here (h _)))))))
end
end L2
end
section
namespace L2
open PySem PySem.Spec PyProof.Rows UfX Builtin Builtin.ObjectAttr
section
variable {X:Cx}{pins:List (Addr × Obj)}{σ:St}{H:Hp}{s:Shared}{A:Around}{E:Value→Shared→Prop}
theorem vR{a C:Addr}{f:Str}{y:V}{u:Value}{Q:Unit→Shared→Prop}(I:Inv X pins σ H s)(ha:H a=some (gO a (.ref C) none))(S:pJ X.K C f)(ry:RelV y u)
  (h:∀ dx s',H dx=none→dx≠a→Inv X pins σ (upd (upd H dx (.xd [(f,y)])) a (gO a (.ref C) (some dx))) s'→Q () s'):wpAny (model X.prog X.w) A (setAttr (.ref a) f u) Q E s:=by
 obtain⟨oe,vs,t0,he,hcl,hdx,hdt,hv0,hv1⟩:ic a (.ref C) none s.heap:=(I.hok a _ ha).1
 obtain⟨oc,odi,oda,osl⟩:=oe
 dsimp only at hcl hdx hdt
 subst hcl hdx hdt
 have J:PySem.W.InstAt s.heap a ⟨.ref C,none,.fields vs,osl⟩ C none:=⟨he,rfl,rfl,True.intro⟩
 obtain⟨cd,hc,hd⟩:=PySem.W.any_some S.hd
 refine PySem.W.set_plain I.fi J S.sa (zW (s:={ s with toks:=s.toks+1 }) I.fi J S fun b=>?_)
 refine wpAny_bind (wpAny_pure (wpAny_bind (wpAny_bind (wpAny_loadPart he (wpAny_bind (PySem.W.Looks.here (s:={ s with toks:=s.toks+1 }) (PySem.W.looks_clsIn I.fi hc) ?_))))))
 rw [hd]
 refine wpAny_bind (wpAny_alloc ?_)
 have e1:(s.heap.push PySem.W.emptyDict).get? a=some ⟨.ref C,none,.fields vs,osl⟩:=Heap.get?_push_of_some _ he
 refine wpAny_bind (wpAny_update e1 ?_)
 have na:s.heap.objs.size≠a:=Nat.ne_of_gt (Heap.lt_size he)
 have e2:(s.heap.push PySem.W.emptyDict).get? s.heap.objs.size=some PySem.W.emptyDict:=Heap.get?_push_size s.heap rfl
 have e3:((s.heap.push PySem.W.emptyDict).update a fun o=>{ o with dict:=some s.heap.objs.size }).get? s.heap.objs.size=some PySem.W.emptyDict:=(Heap.get?_update_other _ _ (Ne.symm na)).trans e2
 have e4:((s.heap.push PySem.W.emptyDict).update a fun o=>{ o with dict:=some s.heap.objs.size }).Ns s.heap.objs.size (fun _=>none):=⟨PySem.W.emptyDict,#[],_,e3,rfl,(fun e he=>absurd he (by simp)),fun _=>rfl⟩
 have e5:((s.heap.push PySem.W.emptyDict).update a fun o=>{ o with dict:=some s.heap.objs.size }).get? a=some ⟨.ref C,some s.heap.objs.size,.fields vs,osl⟩:=Heap.get?_update_self _ e1 rfl
 refine wpAny_pure (a:=some s.heap.objs.size) (wpAny_bind (wpAny_pure (wpAny_bind ?_)))
 refine wpAny_nsSet1 (s:=⟨(s.heap.push PySem.W.emptyDict).update a fun o=>{ o with dict:=some s.heap.objs.size },s.gens,s.drawn,s.toks+1,s.os⟩) (Heap.Ns1.of_empty e4) fun h' hn2 hs2=>?_
 have hw:PySem.Within (fun _:Str=>(none:Option Value)) []:=fun y hy=>absurd rfl hy
 obtain⟨oD,esD,epD,hoD,hdD,hcD⟩:=hn2.count (PySem.Within.cons f u hw)
 refine wpAny_bind (wpAny_lookBehind hoD (by rw [hdD];exact pastItsLine_dict (Nat.le_trans hcD (by rw [List.length_cons,sizeLine_eq];simp))) ?_)
 have nf:oD.isFreed=false:=(Heap.get?_some_iff.mp hoD).2
 have I1:=I.laid (a:=s.heap.objs.size) (o:=.xd [(f,y)]) (h':=s.heap.push oD) (t':=s.toks) (fun b q z=>Heap.get?_push_of_some _ z) (Nat.le_refl _) ⟨_,hn2.at fun o z=>by
  rw [hoD] at z
  cases z
  exact Heap.get?_push_size s.heap nf,fun g=>by
   show fZ (List.lookup g [(f,y)]) (if g=f then some u else none)
   rw [List.lookup_cons]
   by_cases q:g=f
   ·rw [if_pos q,q,beq_self_eq_true]
    exact ry
   ·rw [if_neg q,show(g==f)=false from by simpa using q]
    exact True.intro⟩
 have h5:h'.get? a=some ⟨.ref C,some s.heap.objs.size,.fields vs,osl⟩:=(hs2.2 a (Ne.symm na)).trans e5
 have I2:=I1.write (x:=a) (e:=a) (o:=gO a (.ref C) (some s.heap.objs.size)) (h':=h') (t':=s.toks+1+1) (by rw [ar (Ne.symm na),ha];exact True.intro) (.inl rfl) (fun b q hb z=>by
  have z:(s.heap.push oD).get? b=some q:=z
  by_cases hbd:b=s.heap.objs.size
  ·subst hbd
   rw [Heap.get?_push_size s.heap nf] at z
   cases z
   exact hoD
  ·rw [hs2.2 b hbd,Heap.get?_update_other _ _ (Ne.symm hb)]
   have z2:s.heap.get? b=some q:=by rwa [Heap.get?_push_ne _ _ _ hbd] at z
   exact Heap.get?_push_of_some _ z2) ⟨_,h5⟩ (ic.ok ⟨_,vs,t0,h5,rfl,rfl,rfl,hv0,hv1⟩)
 exact wpAny_pure (h _ _ (I.hok.fresh (Nat.le_refl _)) na I2)
def zI(K:PySem.W.Frag)(te ta:TE)(f:Str):TS:=fun D σ H=>te σ H fun y H1=>ta σ H1 fun x H2=>∃ a C,x=.ref a∧H2 a=some (gO a (.ref C) none)∧pJ K C f∧∀ dx,H2 dx=none→dx≠a→D.nx σ (upd (upd H2 dx (.xd [(f,y)])) a (gO a (.ref C) (some dx)))
theorem j6{o value:Expr}{f:Str}{ta tv:TE}{pos pos':Pos}(ha:PE X o ta)(hv:PE X value tv)(hs:swapsWith value (some (.Attribute o f pos')) pos.line X.env=pure false):PS X (.Assign [.Attribute o f pos'] value pos) (zI X.K tv ta f):=by
 intro pins s σ H D I h
 refine plainObj_wpAny_Assign_Attribute (cc (hv pins s σ H _ I h) fun u s1 hu=>?_) hs
 obtain⟨y,H1,I1,ry,q⟩:=hu
 refine cc (ha pins s1 σ H1 _ I1 q) fun ov s2 ho=>?_
 obtain⟨x,H2,I2,rx,a,C,ex,ea,S,q2⟩:=ho
 subst ex
 obtain rfl:ov=Value.ref a:=rx
 exact vR I2 ea S ry fun dx s3 h1 h2 I3=>⟨σ,_,I3,q2 dx h1 h2⟩
end
end L2
end
section
namespace L2
open PySem PySem.Spec PyProof.Rows UfX
section
variable {X:Cx}
def Dc(te:TE):TE:=fun σ H Q=>te σ H fun v H1=>∃ n:Int,v=.int n∧n.natAbs.log2<1920∧∀ x,Q (.str x) H1
theorem pB{c1 c2:Str}{j1 j2 p1 p2 p3 pos}{e:Expr}{te:TE}(he:PE X e te)(h1:c1.length≤100:=by decide)(h2:c2.length≤100:=by decide) :
  PE X (.JoinedStr [.Constant (.str c1) j1 p1,.FormattedValue e (-1) none p2,.Constant (.str c2) j2 p3] pos) (Dc te):=by
 intro pins s σ H Q I h
 refine wpAny_JoinedStr ?_
 refine Calls.Constant_str ⟨c1,_,rfl,by rw [strLen_append,sizeLine_eq];show 0+c1.length≤_;lia,?_⟩
 refine wpAny_FormattedValue_plain (cc (he pins _ σ H _ (I.tok _) h) fun u s1 hu=>?_)
 obtain⟨v,H1,I1,rv,n,rfl,hn,q⟩:=hu
 obtain⟨t,rfl⟩:=(show ∃ t,u=Value.int n t from rv)
 have hl:(Str.ofString (toString n)).length≤5000:=by
  have e:=int_text_length_le (k:=1920) (by decide) hn
  rw [PySem.ofString_length]
  lia
 refine wpAny_formatField_int hn ⟨_,_,rfl,by rw [strLen_append,strLen_append,sizeLine_eq];show 0+c1.length+_≤_;lia,?_⟩
 refine Calls.Constant_str ⟨c2,_,rfl,?_,?_,?_⟩
 ·rw [strLen_append,strLen_append,strLen_append,sizeLine_eq]
  show 0+c1.length+_+_≤_
  lia
 ·rw [strLen_append,strLen_append,strLen_append,sizeLine_eq]
  show 0+c1.length+_+_≤_
  lia
 ·exact⟨.str _,H1,(I1.tok _),⟨_,rfl⟩,q _⟩
end
end L2
end
section
namespace L2
open PySem PySem.Spec PyProof.Rows UfX
theorem t9{K:PySem.W.Frag}{h:Heap}{N:Addr}{m:Str→Option Value}{n:Str}{v:Value}(X:K.In h)(G:h.Ns N m)(e:PySem.W.nsIn K N n=some (some v)):m n=some v:=by
 obtain⟨o,es,ep,ho,hd,_,hf⟩:=G
 unfold PySem.W.nsIn at e
 split at e
 ·rename_i c d es' n' sl q
  have z:=X _ _ q
  rw [ho] at z
  cases z
  cases hd
  split at e
  ·rename_i en he
   cases e
   rw [← hf]
   unfold nsFind findBy
   rw [← Array.find?_toList,he]
   rfl
  ·split at e <;> cases e
 ·cases e
structure zD(K:PySem.W.Frag)(C N f:Addr):Prop where
 exc:mP K C N
 ns:PySem.W.nsOkIn K N=true
 ini:PySem.W.nsIn K N "__init__"=some (some (.ref f))
 fn:∃ o,K.lookup f=some o∧o.cls=.type "function"
 kp:PySem.W.keepIn K (.ref C)=true
def yY(C:Addr)(sp:Sp)(dvs:List V)(E:XK)(t:TA):TE:=fun σ H Q=>t σ H fun vs H1=>vs.length≤100∧∀ x,H1 x=none→sp (.ref x::(vs++dvs)) (upd H1 x (gO x (.ref C) none)) (fun v H2=>v=.non∧Q (.ref x) H2) E
section
variable {X:Cx}{CX:rD}{k:Nat}{f C N:Addr}{fd:FuncData}{ps:List Str}{sp:Sp}{dvs:List V}{ds:List Value}{E:XK}{x:Str}{p pos:Pos}{e:Expr}{es:List Expr}{t:TA}
theorem oY{pins:List (Addr × Obj)}{σ:St}{H:Hp}{s:Shared}{Q:VK}{us:List Value}{vs:List V}(M:zD X.K C N f)(F:aH X.prog X.w X.K X.mg X.base CX k f fd ps sp)(hr:bR (k+1) X.A)(hb:Binds X.K fd ps ds)(hd:Vals dvs ds)
  (hx:Passes CX X E) (I:Inv X pins σ H s) (r:Vals vs us) (hz:vs.length≤100)
  (h:∀ x,H x=none→sp (.ref x::(vs++dvs)) (upd H x (gO x (.ref C) none)) (fun v H2=>v=.non∧Q (.ref x) H2) E) :
  wpAny (model X.prog X.w) X.A (call (.ref C) us) (EP X pins σ Q) X.xe s:=by
 obtain⟨cn,cq,bases,tl,hasD,sn,subs,ab,col,cdd,l0,l1,l2,l3,l5,h1,h2⟩:=M.exc.ob
 obtain⟨oI,hf,hfc⟩:=M.fn
 have KX:=I.fi
 have G:=Heap.Ns.of_isNs (PySem.W.isNs_of_in KX M.ns)
 have hl0:_=_:=Vals.length r
 obtain⟨hp,gs,dr,tk,os⟩:=id s
 refine x5 (h:=s.heap) (gs:=s.gens) (dr:=s.drawn) (tk:=s.toks) (o:=s.os) PySem.F.excBase_ValueError (PySem.W.tail_of_in KX h2) (KX _ _ h1) G (t9 KX G M.ini) (KX _ _ hf) hfc (fun h' a made le=>?_) (by rw [← hl0,sizeLine_eq];lia)
 obtain⟨t0,he,ht0,htup⟩:=made.there
 have is:ic a (.ref C) none h':=⟨_,_,t0,he,rfl,rfl,rfl,rfl,rfl⟩
 have I2:=I.laid (a:=a) (o:=gO a (.ref C) none) (h':=h') (t':=s.toks) made.keeps le is.ok
 have hq:=h a (I.hok.fresh le)
 have r2:Vals (V.ref a::(vs++dvs)) (Value.ref a::(us++ds)):=.cons rfl (r.append hd)
 have hl:(Value.ref a::us++ds).length=ps.length:=by
  have e:=r2.length
  rw [F.len _ _ _ _ hq] at e
  exact e.symm
 refine wpAny_call (codeAny_mono (F.run _ X.stack _ _ ⟨Value.ref a::us,[]⟩ (Value.ref a::(us++ds)) _ _ E (hr.make C us []) (I2.Ck.make C us []) (hb _ (Value.ref a::us) I2.fi hl) r2 hq) fun r s' hq'=>?_)
 cases r with
 | error e=>exact hx pins σ _ _ e s' I2 hq'
 | ok fl =>
  cases fl with
  | ret u =>
   obtain⟨v,H',I3,rv,ev,q3⟩:=I2.after hq'
   subst ev
   exact⟨rv,⟨V.ref a,H',I3,rfl,q3⟩⟩
  | next=>exact False.elim hq'
  | brk=>exact False.elim hq'
  | cont=>exact False.elim hq'
theorem mI(M:zD X.K C N f)(F:aH X.prog X.w X.K X.mg X.base CX k f fd ps sp)(hr:bR (k+1) X.A)(hg:Gl X x)(hm:X.mg x=some (.ref C))(hb:Binds X.K fd ps ds)(hd:Vals dvs ds)(hx:Passes CX X E)
  (ha:PA X (e::es) t) (hdb:(x==("__debug__":Str))=false:=by decide) (he:starEach (e::es) X.env=(false,eval e X.env)::starEach es X.env:=by rfl) (hpl:(backTo pos (starEach es X.env)).any (·.1)=false:=by rfl) :
  PE X (.Call (.Name x p) (e::es) [] pos) (yY C sp dvs E t):=by
 intro pins s σ H Q I h
 refine wpAny_Call_Name_kw (iF I hg hm ?_ hdb)
 refine PySem.W.callWith_K (h₀:=X.base) I.ok.mod.kin M.kp (cc (ha pos pins s σ H _ I h) fun us s1 hu=>?_) he hpl
 obtain⟨vs,H1,I1,r,hz,q⟩:=hu
 exact⟨I1.fi,oY M F hr hb hd hx I1 r hz q⟩
theorem nO(M:zD X.K C N f)(F:aH X.prog X.w X.K X.mg X.base CX k f fd ps sp)(hr:bR (k+1) X.A)(hg:Gl X x)(hm:X.mg x=some (.ref C))(hb:Binds X.K fd ps ds)(hd:Vals dvs ds)(hx:Passes CX X E)
  (hdb:(x==("__debug__":Str))=false:=by decide):PE X (.Call (.Name x p) [] [] pos) (yY C sp dvs E Bk):=by
 intro pins s σ H Q I h
 refine wpAny_Call_Name_kw (iF I hg hm ?_ hdb)
 exact PySem.W.callWith_K0 I.fi M.kp (oY (us:=[]) M F hr hb hd hx I .nil h.1 h.2)
end
end L2
end
section
namespace L2
open PySem PySem.Spec PyProof.Rows UfX
section
variable {X:Cx}{pins:List (Addr × Obj)}{σ:St}{H:Hp}{s:Shared}
theorem Inv.flew{a:Addr}{hd:Option Addr}{oa:Obj}{va:Array Value}{h':Heap}(I:Inv X pins σ H s)(st:UfX.Step (hU X.stack) a hd s.heap h')(ea:s.heap.get? a=some oa)(da:oa.data=.fields va)(ha:H a=none)(na:X.s₀.heap.get? a=none)
  (hh:∀ T,hd=some T→H T=none∧X.s₀.heap.get? T=none∧∃ oT vT,s.heap.get? T=some oT∧oT.data=.fields vT)
  (pa:∀ p∈X.pn++pins,p.1≠a∧hd≠some p.1) (hex:X.ex=[]):Inv X pins σ H { s with heap:=h' }:=by
 have b0:=I.base
 have fr:∀ b o,H b=some o→b∉hU X.stack:=fun b o e hm=>by
  rw [I.lj b hm] at e
  cases e
 have kt:∀ b o u,H b=some o→s.heap.get? b=some u→h'.get? b=some u:=fun b o u e hu =>
  st.keep b u hu (fr b o e) (fun z=>by rw [z,ha] at e;cases e) fun z=>by rw [(hh b z).1] at e;cases e
 have old:∀ b o,X.s₀.heap.get? b=some o→b≠a∧hd≠some b:=fun b o e=>⟨fun z=>(by rw [z,na] at e;cases e),fun z=>(by rw [(hh b z).2.1] at e;cases e)⟩
 have sub:∀ b,b∈X.fs→b∈hU X.stack:=fun b hb=>by
  rcases I.ok.stk with e | ⟨e,hf⟩
  ·rw [e];exact hb
  ·rw [e]
   unfold hU
   rw [List.filterMap_cons,hf]
   exact List.mem_cons_of_mem _ hb
 have nf:∀ b o,s.heap.get? b=some o→(∀ vs,o.data≠.fields vs)→b≠a∧hd≠some b:=fun b o e hn=>⟨fun z=>(by
  rw [z,ea] at e
  cases e
  exact hn _ da),fun z=>(by
  obtain⟨oT,vT,h1,h2⟩:=(hh b z).2.2
  rw [h1] at e
  cases e
  exact hn _ h2)⟩
 have upto:∀ b o,s.heap.get? b=some o→(∀ vs,o.data≠.fields vs)→∃ sl,h'.get? b=some { o with slots:=sl }:=fun b o e hn=>by
  by_cases hm:b∈hU X.stack
  ·exact st.slot b o e hm
  ·exact⟨o.slots,st.keep b o e hm (nf b o e hn).1 (nf b o e hn).2⟩
 have nL:∀ b o,X.s₀.heap.get? b=some o→b≠X.env.locals:=fun b o e z=>by
  have h1:=Heap.lt_size e
  have h2:=I.ok.above
  rw [z] at h1
  exact absurd (Nat.lt_of_lt_of_le h1 h2) (Nat.lt_irrefl _)
 have cellK:∀ c v,s.heap.IsCell c v→h'.IsCell c v:=fun c v hc=>by
  obtain⟨o,ho,hd'⟩:=hc
  obtain⟨sl,h1⟩:=upto c o ho (fun vs z=>by rw [hd'] at z;cases z)
  exact⟨_,h1,hd'⟩
 refine⟨I.ok,I.os,I.bare,⟨fun b o e n h1 h2=>?_,fun b o e n h1 h2=>?_,b0.free,fun b o e h2=>?_,b0.iK,b0.frzs,b0.tbls⟩,?_,fun x c e=>?_,I.free,I.freeC,fun p hp=>?_,fun b o e=>(I.hok b o e).iy (fun c u hc hu=>?_) (fun _ z=>z) fun _ _ z=>z,I.len⟩
 ·refine st.keep b o (b0.keep b o e n h1 h2) (fun hm=>?_) (old b o e).1 (old b o e).2
  rcases List.mem_cons.mp (I.lV b hm) with z | z
  ·exact nL b o e z
  ·exact h1 z
 ·obtain⟨sl,h3⟩:=b0.slot b o e n h1 h2
  obtain⟨sl2,h4⟩:=st.slot b _ h3 (sub b h1)
  exact⟨sl2,h4⟩
 ·obtain⟨o',h3⟩:=b0.there b o e h2
  by_cases hm:b∈hU X.stack
  ·obtain⟨sl,h4⟩:=st.slot b o' h3 hm
   exact⟨_,h4⟩
  ·exact⟨_,st.keep b o' h3 hm (old b o e).1 (old b o e).2⟩
 ·obtain⟨m,⟨o,es,ep,ho,hd',r⟩,hl⟩:=I.loc
  obtain⟨sl,h1⟩:=upto _ o ho (fun vs z=>by rw [hd'] at z;cases z)
  refine⟨m,⟨_,es,ep,h1,hd',r⟩,fun i x v e1 e2 e3=>?_⟩
  obtain⟨u,ru,hk⟩:=hl i x v e1 e2 e3
  refine⟨u,ru,?_⟩
  rcases hk with hk | ⟨hk,c,hc1,hc2⟩
  ·exact .inl hk
  ·exact .inr ⟨hk,c,hc1,cellK c _ hc2⟩
 ·obtain⟨v,hv⟩:=I.cell x c e
  exact⟨v,cellK c v hv⟩
 ·obtain⟨h1,h2,h3,h4,h5⟩:=I.pin p hp
  refine⟨st.keep _ _ h1 (fun hm=>?_) (pa p hp).1 (pa p hp).2,h2,h3,h4,h5⟩
  rcases List.mem_cons.mp (I.lV _ hm) with z | z
  ·exact h3 z
  ·exact h4 z
 ·rcases hc with rfl | hc
  ·exact kt _ _ _ e hu
  ·exact kt _ _ _ hc hu
end
end L2
end
section
namespace UfX
open PySem
section
variable {M:Model}{A:Around}{E:Value→Shared→Prop}{s:Shared}{base:Heap}{env:Env}{outer:List Env}{L e:Addr}{Q:Unit→Shared→Prop}
theorem land{cls a0:Value}{dx hd:Option Addr}(hfr:A.frames=some (env::outer))(hl:s.heap.FunFrames base (env::outer))(hf:env.frame=some L)(x:Exc s.heap e cls a0 dx hd)
  (k:∀ h' T,Exc h' e cls a0 dx (some T)→s.heap.objs.size≤T→Step ((env::outer).filterMap (·.frame)) e hd s.heap h'→Q () { s with heap:=h' }):wpAny M A (noteFrame (.ref e) env) (fun _ s'=>wpAny M A (setFlight (.ref e) none) Q E s') E s:=by
 obtain⟨oe,vs,he,rfl,rfl,hdt,h0,hn,hs⟩:=x
 unfold noteFrame
 simp only [hf]
 cases hd with
 | none =>
  have h1:=hn rfl
  refine wpAny_bind (wpAny_field he hdt h1 ?_)
  rw [if_neg (by decide)]
  exact entry hfr hl hf he hdt (Array.getElem?_eq_some_iff.mp h1).1 h0 k
 | some T =>
  obtain⟨h1,hTe,oT,ts,hT,hTd,h3⟩:=hs T rfl
  refine wpAny_bind (wpAny_field he hdt h1 ?_)
  rw [if_pos (by simp:(Value.ref T != Value.none)=true)]
  refine wpAny_bind (wpAny_field hT hTd h3 ?_)
  rw [if_neg (by simp [rawInt]:¬((Value.none==rawInt L)=true))]
  refine wpAny_bind (wpAny_setField hT hTd (Array.getElem?_eq_some_iff.mp h3).1 ?_)
  have other:∀ c,c≠T→(s.heap.update T (Obj.mapFields (·.setIfInBounds 3 Value.none))).get? c=s.heap.get? c:=fun _ hc=>Heap.get?_update_other _ _ (Ne.symm hc)
  have nT:∀ b o,s.heap.get? b=some o→(∀ us,o.data≠.fields us)→b≠T:=fun b o hb hnf z=>by
   subst z
   rw [hT] at hb
   cases hb
   exact hnf ts hTd
  refine entry hfr (hl.of_keeps fun b o hb hnf=>⟨o,(other b (nT b o hb hnf)).trans hb,rfl⟩) hf ((other e (Ne.symm hTe)).trans he) hdt (Array.getElem?_eq_some_iff.mp h1).1 h0 fun h' T' x1 x2 x3=>k h' T' x1 ?_ ?_
  ·rwa [Heap.size_after_update] at x2
  ·refine⟨fun b o hb h1 h2 h3=>x3.keep b o ((other b fun z=>h3 (by rw [z])).trans hb) h1 h2 (fun z=>nomatch z),fun b o hb hm=>?_,?_⟩
   ·obtain⟨_,o',ho',hn'⟩:=hl.mem hm
    have e':o'=o:=Option.some.inj (ho'.symm.trans hb)
    subst e'
    exact x3.slot b o' ((other b (nT b o' hb hn')).trans hb) hm
   ·have:=x3.size
    rwa [Heap.size_after_update] at this
theorem again{cls a0:Value}{dx:Option Addr}{T:Addr}{fr:List Addr}(x:Exc s.heap e cls a0 dx (some T))(hfr:T∉fr)(k:∀ h',Exc h' e cls a0 dx (some T)→Step fr e (some T) s.heap h'→Q () { s with heap:=h' }):wpAny M A (setFlight (.ref e) none) Q E s:=by
 obtain⟨oe,vs,he,rfl,rfl,hdt,h0,hn,hs⟩:=x
 obtain⟨h1,hTe,oT,ts,hT,hTd,h3⟩:=hs T rfl
 unfold setFlight
 refine wpAny_bind (wpAny_field he hdt h1 ?_)
 rw [if_pos (by simp:(Value.ref T != Value.none)=true)]
 have i3:3<ts.size:=(Array.getElem?_eq_some_iff.mp h3).1
 refine wpAny_setField hT hTd i3 (k _ ?_ ?_)
 ·refine⟨oe,vs,(Heap.get?_update_other _ _ hTe).trans he,rfl,rfl,hdt,h0,(fun z=>nomatch z),fun T' z=>?_⟩
  cases z
  exact⟨h1,hTe,_,_,Heap.get?_update_self _ hT (Obj.isFreed_of_fields (Obj.data_mapFields hTd _)),Obj.data_mapFields hTd _,by simp [i3]⟩
 ·refine⟨fun b o hb _ _ hb'=>(Heap.get?_update_other _ _ fun z=>hb' (by rw [z])).trans hb,fun b o hb hm=>?_,?_⟩
  ·have ne:T≠b:=fun z=>hfr (by rw [z];exact hm)
   exact⟨o.slots,(Heap.get?_update_other _ _ ne).trans hb⟩
  ·rw [Heap.size_after_update]
   exact Nat.le_refl _
theorem vL{h:Heap}{gs:Array GenState}{dr:Drawn}{tk:Nat}{o:OsState}{C B N NB:Addr}{oe:Obj}{cn cq bn bq:Str}{bases tl bases' tl':List Value}{hasD hasD':Bool}{sn sn':List Str}{subs subs':List Value}{ab ab':Bool}{col col':Option Bool}
  {cdd cdd':Option Addr} {l0 l1 l2 l3 l5 m0 m1 m2 m3 m5:Option Value} {nw nw':String} {R:Bool→Shared→Prop} (hC:h.get? C=some (excClassObj cn cq C N bases tl hasD sn subs ab col cdd l0 l1 l2 l3 l5 nw)) (hB:h.get? B=some (excClassObj bn bq B NB bases' tl' hasD' sn' subs' ab' col' cdd' m0 m1 m2 m3 m5 nw'))
  (he:h.get? e=some oe) (hcl:oe.cls=.ref C) (hbb:tl'.contains (.type "BaseException")=true) (hsub:(Value.ref C::tl).contains (.ref B)=true) (hq:R true ⟨h,gs,dr,tk,o⟩):wpAny M A (excMatches (.ref e) (.ref B)) R E ⟨h,gs,dr,tk,o⟩:=by
 have hcB:(Value.ref B::tl').contains (.type "BaseException")=true:=by rw [List.contains_cons,hbb,Bool.or_true]
 have q:=tc_notTuple
 unfold excMatches
 repeat (first | (with_reducible refine wpAny_loadPart_at he ?_;rw [hcl]) | (with_reducible refine wpAny_loadPart_at hB ?_) | (with_reducible refine wpAny_isSubtype_exc hB ?_;rw [hcB]) | (with_reducible refine wpAny_isSubtype_exc hC ?_;rw [hsub]) | wp_step)
 exact hq
end
end UfX
end
section
namespace L2
open PySem PySem.Spec PyProof.Rows UfX
def d9(a:Addr)(cls:Value)(dx:Option Addr)(h:Heap):Prop:=∃ oe vs,h.get? a=some oe∧oe.cls=cls∧oe.dict=dx∧oe.data=.fields vs
def cm(a:Addr)(cls:Value)(dx:Option Addr):HO:=.ext (d9 a cls dx)
theorem d9.ok{P:Program}{w:World}{H:Hp}{h:Heap}{a:Addr}{cls:Value}{dx:Option Addr}(x:d9 a cls dx h):bO P w H h a (cm a cls dx):=by
 refine⟨x,?_,fun h1 h2 y k=>?_⟩
 ·obtain⟨oe,_,e,_⟩:=x
  exact⟨oe,e⟩
 ·obtain⟨oe,vs,e,r⟩:=y
  exact⟨oe,vs,k _ e,r⟩
section
variable {X:Cx}{pins:List (Addr × Obj)}{σ:St}{H:Hp}{s:Shared}
theorem Inv.Dp{a:Addr}{φ:Heap→Prop}(I:Inv X pins σ H s)(ha:H a=none)(na:X.s₀.heap.get? a=none)(aL:a≠X.env.locals)(aC:∀ x c,X.env.cells.lookup x=some c→c≠a)(aP:∀ p∈X.pn++pins,p.1≠a)
  (ok:bO X.prog X.w (upd H a (.ext φ)) s.heap a (.ext φ)):Inv X pins σ (upd H a (.ext φ)) s:=by
 have b0:=I.base
 have up:∀ b o,H b=some o→upd H a (.ext φ) b=some o:=fun b o e=>by
  rw [ar (fun z=>by rw [z,ha] at e;cases e)]
  exact e
 refine⟨I.ok,I.os,I.bare,⟨b0.keep,b0.slot,fun b o h1 h2 h3=>?_,b0.there,fun b xs h=>up _ _ (b0.iK b xs h),fun b o u h=>up _ _ (b0.frzs b o u h),fun b ps h=>?_⟩,I.loc,I.cell,?_,fun x c h=>?_,fun p hp=>?_,fun b o h=>?_,I.len⟩
 ·rw [ar (fun z=>by rw [z,na] at h1;cases h1)]
  exact b0.free b o h1 h2 h3
 ·obtain⟨more,h2⟩:=b0.tbls b ps h
  exact⟨more,up _ _ h2⟩
 ·rw [ar (Ne.symm aL)]
  exact I.free
 ·rw [ar (aC x c h)]
  exact I.freeC x c h
 ·obtain⟨h1,h2,h3⟩:=I.pin p hp
  refine⟨h1,?_,h3⟩
  rw [ar (aP p hp)]
  exact h2
 ·by_cases z:b=a
  ·subst z
   rw [ae] at h
   cases h
   exact ok
  ·rw [ar z] at h
   exact(I.hok b o h).iy (fun _ _ _ q=>q) (fun c hc=>up _ _ hc) fun c xs hc=>up _ _ hc
theorem wN{M:Model}{A:Around}{E:Value→Shared→Prop}{i:Nat}{x:Str}{v:V}{Q:Unit→Shared→Prop}(I:Inv X pins (σ.set i (some v)) H s)(hN:X.N.Nodup)(hi:X.N[i]?=some x)(hk:X.env.scope.names.lookup x=some .local)(hz:i<σ.length)
  (h:∀ s',Inv X pins (σ.set i none) H s'→Q () s'):wpAny M A (unbindName X.env x) Q E s:=by
 obtain⟨m,hn,hl⟩:=id I.loc
 have yx:=I.yx
 obtain⟨u,_,hu⟩:=hl i x v hi (by rw [List.getElem?_set_self hz]) (.inl hk)
 have hm:m x=some u:=by
  rcases hu with⟨_,e⟩ | ⟨k,_⟩
  ·exact e
  ·have k':X.env.scope.names.lookup x=some .cell∨X.env.scope.names.lookup x=some .free:=k
   rw [hk] at k'
   rcases k' with k' | k' <;> cases k'
 refine wpAny_unbindName_local hk hn hm (by rw [I.ok.kind];rfl) fun h' uu hn' hs=>h _ ?_
 have low:∀ b o,X.s₀.heap.get? b=some o→b≠X.env.locals:=fun b o e=>Nat.ne_of_lt (Nat.lt_of_lt_of_le (Heap.lt_size e) I.ok.above)
 obtain⟨oL,_,_,hoL,_⟩:=id hn
 refine⟨I.ok,I.os,I.bare,⟨fun b o e n hb hx=>?_,fun b o e n hb hx=>?_,I.base.free,fun b o e hx=>?_,I.base.iK,I.base.frzs,I.base.tbls⟩,⟨_,hn',fun j y v' e1 e2 e3=>?_⟩,fun y c e=>?_,I.free,I.freeC,fun p hp=>?_,fun b ob e=>(I.hok b ob e).iy (fun c w' hc q=>(hs.2 c ?_).trans q) (fun _ q=>q) fun _ _ q=>q,?_⟩
 ·exact(hs.2 b (low b o e)).trans (I.base.keep b o e n hb hx)
 ·obtain⟨sl,e1⟩:=I.base.slot b o e n hb hx
  exact⟨sl,(hs.2 b (low b o e)).trans e1⟩
 ·obtain⟨o',e1⟩:=I.base.there b o e hx
  exact⟨o',(hs.2 b (low b o e)).trans e1⟩
 ·by_cases hj:j=i
  ·subst hj
   rw [List.getElem?_set_self hz] at e2
   cases e2
  ·rw [List.getElem?_set_ne (Ne.symm hj)] at e2
   obtain⟨u',r',q⟩:=hl j y v' e1 (by rw [List.getElem?_set_ne (Ne.symm hj)];exact e2) e3
   refine⟨u',r',?_⟩
   rcases q with⟨k,e⟩ | ⟨k,c,e,z⟩
   ·refine .inl ⟨k,?_⟩
    have:y≠x:=fun e=>hj (lQ hN e1 (e ▸ hi))
    simp [this,e]
   ·exact .inr ⟨k,c,e,z.sameBut hs (yx y c e)⟩
 ·obtain⟨w',z⟩:=I.cell y c e
  exact⟨w',z.sameBut hs (yx y c e)⟩
 ·obtain⟨h1,h2,h3,h4⟩:=I.pin p hp
  exact⟨(hs.2 _ h3).trans h1,h2,h3,h4⟩
 ·rintro rfl
  rcases hc with z | hc
  ·rw [← z,I.free] at e;cases e
  ·rw [I.free] at hc;cases hc
 ·have:=I.len
  rw [List.length_set] at this ⊢
  exact this
end
end L2
end
section
namespace L2
open PySem PySem.Spec PyProof.Rows UfX
abbrev Cx.held(X:Cx)(a:Addr):Cx:={ X with A:=X.A.mark (some (.ref a)),calm:=false,xe:=fun _ _=>False }
theorem Cx.Ok.held{X:Cx}(ok:X.Ok)(a:Addr):(X.held a).Ok :=
 ⟨ok.mod,ok.kind,ok.glob,ok.blt,ok.above,ok.inj,ok.has,ok.cab,(fun z=>nomatch z),ok.frames,ok.stk,ok.exf,ok.bs,ok.bsz,ok.noex,ok.exfs,ok.hV,ok.frf⟩
def Ao(X:Cx)(pins:List (Addr × Obj))(D:Ends)(hs:List ExceptHandler):Value→Shared→Prop:=fun e s1=>wpAny (model X.prog X.w) X.A (noteFrame e X.env) (fun _ s2=>wpAny (model X.prog X.w) X.A (setFlight e none) (fun _ s3 =>
 wpAny (model X.prog X.w) X.A (handleBy e X.env hs) (SP X pins D) X.xe s3) X.xe s2) X.xe s1
abbrev Cx.iW(X:Cx)(pins:List (Addr × Obj))(D:Ends)(hs:List ExceptHandler):Cx:={ X with pn:=X.pn++pins,xe:=Ao X pins D hs }
section
variable {X:Cx}{pins pins':List (Addr × Obj)}{σ:St}{H:Hp}{s:Shared}{a:Addr}{D:Ends}{hs:List ExceptHandler}
theorem Inv.held(I:Inv X pins σ H s)(a:Addr):Inv (X.held a) pins σ H s:=⟨I.ok.held a,I.os,I.bare,I.base,I.loc,I.cell,I.free,I.freeC,I.pin,I.hok,I.len⟩
theorem Inv.pM(I:Inv (X.held a) pins σ H s)(ok:X.Ok):Inv X pins σ H s:=⟨ok,I.os,I.bare,I.base,I.loc,I.cell,I.free,I.freeC,I.pin,I.hok,I.len⟩
theorem Cx.Ok.iW(ok:X.Ok):(X.iW pins D hs).Ok:=⟨ok.mod,ok.kind,ok.glob,ok.blt,ok.above,ok.inj,ok.has,ok.cab,ok.hd,ok.frames,ok.stk,ok.exf,ok.bs,ok.bsz,ok.noex,ok.exfs,ok.hV,ok.frf⟩
theorem Cx.Ok.gT(ok:(X.iW pins D hs).Ok):X.Ok:=⟨ok.mod,ok.kind,ok.glob,ok.blt,ok.above,ok.inj,ok.has,ok.cab,ok.hd,ok.frames,ok.stk,ok.exf,ok.bs,ok.bsz,ok.noex,ok.exfs,ok.hV,ok.frf⟩
theorem Inv.iW(I:Inv X pins σ H s):Inv (X.iW pins D hs) [] σ H s:=⟨I.ok.iW,I.os,I.bare,I.base,I.loc,I.cell,I.free,I.freeC,(fun p hp=>I.pin p (by rwa [List.append_nil] at hp)),I.hok,I.len⟩
theorem Inv.gT(I:Inv (X.iW pins D hs) pins' σ H s):Inv X pins σ H s:=⟨I.ok.gT,I.os,I.bare,I.base,I.loc,I.cell,I.free,I.freeC,(fun p hp=>I.pin p (List.mem_append_left _ hp)),I.hok,I.len⟩
structure jc(K:PySem.W.Frag)(C B:Addr):Prop where
 c:∃ cn cq N bases tl hasD sn subs ab col cdd l0 l1 l2 l3 l5 nw,K.lookup C=some (excClassObj cn cq C N bases tl hasD sn subs ab col cdd l0 l1 l2 l3 l5 nw)∧(Value.ref C::tl).contains (.ref B)=true
 b:pN K B
abbrev og(i:Nat)(D:Ends):Ends:={ nx:=fun σ H=>D.nx (σ.set i none) H,rt:=D.rt,bk:=fun σ H=>D.bk (σ.set i none) H,ct:=fun σ H=>D.ct (σ.set i none) H }
def B0(X:Cx)(B:Addr)(i:Nat)(th:Addr→TS)(D:Ends):XK:=fun cls dx H=>∃ C,cls=.ref C∧jc X.K C B∧∀ a,H a=none→th a (og i D) ((List.replicate X.N.length none).set i (some (.ref a))) (upd H a (cm a (.ref C) dx))
end
end L2
end
section
namespace L2
open PySem PySem.Spec PyProof.Rows UfX
section
variable {X:Cx}{pins:List (Addr × Obj)}{D:Ends}{B:Addr}{i:Nat}{n cn:Str}{np hpos:Pos}{b0:Stmt}{suite:List Stmt}{th:Addr→TS}
theorem Ds(hst:X.stack=X.env::X.outer)(hfr:X.env.frame=some X.env.locals)(hex:X.ex=[])(hN:X.N.Nodup)(hi:X.N[i]?=some n)(hk:X.env.scope.names.lookup n=some .local)(hg:Gl X cn)(hm:X.mg cn=some (.ref B))(hd:(cn==("__debug__":Str))=false)
  (hsu:∀ a,qV (X.held a) (b0::suite) (th a)) :
  Passes (jT X.prog X.w) (X.iW pins D [.ExceptHandler (some (.Name cn np)) (some n) (b0::suite) hpos]) (B0 X B i th D):=fun pins' σ H1 s1 e s' I h=>by
 obtain⟨a,T,cls,a0,dx,H',rfl,os,bare,un,hok,x,na,nT,ha,hT,C,rfl,U,q⟩:=h
 have J:=(I.xm os un hok bare fun b z=>absurd z (by simp)).gT
 have up:∀ b,s1.heap.get? b=none→X.s₀.heap.get? b=none:=fun b hb=>by
  cases z:X.s₀.heap.get? b with
  | none=>rfl
  | some o =>
   obtain⟨o',h3⟩:=I.base.there b o z (by show b∉X.ex;rw [hex];simp)
   rw [hb] at h3
   cases h3
 have pa:∀ b,s1.heap.get? b=none→∀ p∈X.pn++pins,p.1≠b:=fun b hb p hp z=>by
  have:=(I.pin p (List.mem_append_left _ hp)).1
  rw [z,hb] at this
  cases this
 obtain⟨oa,va,hoa,_,_,hda,_,_,hsT⟩:=id x
 obtain⟨_,_,oT,vT,hoT,hdT,_⟩:=hsT T rfl
 have hst':X.A.frames=some (X.env::X.outer):=by rw [← hst];exact J.ok.frames
 have hff:s'.heap.FunFrames X.base (X.env::X.outer):=by rw [← hst];exact J.stack
 refine UfX.land (base:=X.base) hst' hff hfr x fun h2 T2 x2 lT st=>?_
 have st1:UfX.Step (hU X.stack) a (some T) s'.heap h2:=by rw [hst];exact st
 have J1:=J.flew st1 hoa hda ha (up a na) (fun T' z=>by cases z;exact⟨hT,up T nT,oT,vT,hoT,hdT⟩) (fun p hp=>⟨pa a na p hp,fun z=>pa T nT p hp (Option.some.inj z).symm⟩) hex
 have hT2:H' T2=none:=J.hok.fresh lT
 have uT2:X.s₀.heap.get? T2=none:=Heap.get?_none_of_le (Nat.le_trans J.sz lT)
 obtain⟨⟨cn1,cq,N,bases,tl,hasD,sn,subs,ab,col,cdd,l0,l1,l2,l3,l5,nw,hC,hsub⟩,⟨bn,bq,NB,bases',tl',hasD',sn',subs',ab',col',cdd',m0,m1,m2,m3,m5,nw',hB,hbb⟩⟩:=U
 obtain⟨oa2,va2,hoa2,hcl2,hdx2,hda2,h02,hn2,hs2⟩:=id x2
 refine wpAny_handleBy_cons (codeAny_handlers_test (Calls.Name_function_global J1.ok.kind hg (Calls.loadGlobal_global (by rw [J1.ok.glob];exact J1.mod.glob.keeps J1.bk) hm ?_) hd)) (fun z=>nomatch z)
 refine UfX.vL (J1.fi _ _ hC) (J1.fi _ _ hB) hoa2 hcl2 hbb hsub (codeAny_handlers_suite_as ?_)
 have nTf:T2∉hU X.stack:=fun hm2=>by
  obtain⟨_,o,ho,hnf⟩:=J1.stack.mem hm2
  obtain⟨_,_,oT2,vT2,hoT2,hdT2,_⟩:=hs2 T2 rfl
  rw [hoT2] at ho
  cases ho
  exact hnf _ hdT2
 refine UfX.again (fr:=hU X.stack) x2 nTf fun h3 x3 st3=>?_
 obtain⟨_,_,oT2,vT2,hoT2,hdT2,_⟩:=hs2 T2 rfl
 have J2:=J1.flew st3 hoa2 hda2 ha (up a na) (fun T' z=>by cases z;exact⟨hT2,uT2,oT2,vT2,hoT2,hdT2⟩) (fun p hp=>⟨pa a na p hp,fun z=>by
  have e1:=(J.pin p hp).1
  rw [← Option.some.inj z] at e1
  exact absurd (Nat.lt_of_lt_of_le (Heap.lt_size e1) lT) (Nat.lt_irrefl _)⟩) hex
 obtain⟨oa3,va3,hoa3,hcl3,hdx3,hda3,_,_,_⟩:=id x3
 have aL:a≠X.env.locals:=fun z=>by
  obtain⟨m,⟨o,es,ep,ho,hd',_⟩,_⟩:=J2.loc
  rw [← z] at ho
  have ho:h3.get? a=some o:=ho
  rw [hoa3] at ho
  cases ho
  rw [hda3] at hd'
  cases hd'
 have aC:∀ y c,X.env.cells.lookup y=some c→c≠a:=fun y c hy z=>by
  obtain⟨v,o,ho,hd'⟩:=J2.cell y c hy
  rw [z] at ho
  have ho:h3.get? a=some o:=ho
  rw [hoa3] at ho
  cases ho
  rw [hda3] at hd'
  cases hd'
 have J3:=J2.Dp (a:=a) (φ:=d9 a (.ref C) dx) ha (up a na) aL aC (pa a na) (d9.ok ⟨oa3,va3,hoa3,hcl3,hdx3,hda3⟩)
 have J4:Inv X pins (List.replicate X.N.length none) (upd H' a (cm a (.ref C) dx)) _:=J3.weak (by rw [List.length_replicate];exact J3.len.symm) (fun j v e=>by
  rw [List.getElem?_replicate] at e
  split at e <;> cases e)
 refine jS J4 hN hi (Or.inl hk) (v:=.ref a) rfl (fun s5 I5=>?_) (.inr hk)
 have run:=hsu a pins s5 _ _ (og i D) (I5.held a) (q a ha)
 have behind:∀ {σ':St} {H5:Hp} {s6:Shared} {R:Shared→Prop},Inv X pins σ' H5 s6→(∀ s7,Inv X pins (σ'.set i none) H5 s7→R s7) →
   wpAny (model X.prog X.w) X.A (do bindName X.env n .none;unbindBehindTheSuite X.env n hpos) (fun _ s7=>R s7) X.xe s6:=fun {σ' H5 s6 R} K1 k1=>by
  have lt:i<σ'.length:=by rw [K1.len];exact(List.getElem?_eq_some_iff.mp hi).1
  refine wpAny_bind (wpAny_bindName (jS K1 hN hi (Or.inl hk) (v:=.non) rfl (fun s7 K2=>?_) (.inr hk)))
  exact wpAny_onRaise (wN K2 hN hi hk lt fun s8 K3=>k1 s8 K3)
 refine wpAny_mono run (fun f s6 hf=>?_) fun _ _ z=>False.elim z
 have ok:=J4.ok
 cases f with
 | next=>obtain⟨σ',H5,K1,z⟩:=hf;exact behind (K1.pM ok) fun s7 K2=>⟨_,_,K2,z⟩
 | brk=>obtain⟨σ',H5,K1,z⟩:=hf;exact behind (K1.pM ok) fun s7 K2=>⟨_,_,K2,z⟩
 | cont=>obtain⟨σ',H5,K1,z⟩:=hf;exact behind (K1.pM ok) fun s7 K2=>⟨_,_,K2,z⟩
 | ret u=>obtain⟨v,σ',H5,K1,rv,z⟩:=hf;exact behind (K1.pM ok) fun s7 K2=>⟨v,_,_,K2,rv,z⟩
theorem Bn{body:List Stmt}{tb:Ends→TS}{pos:Pos}(hb:∀ (D:Ends) (pins:List (Addr × Obj)),qV (X.iW pins D [.ExceptHandler (some (.Name cn np)) (some n) (b0::suite) hpos]) body (tb D)) :
  PS X (.Try body [.ExceptHandler (some (.Name cn np)) (some n) (b0::suite) hpos] [] [] pos) (fun D σ H=>tb D D σ H):=by
 intro pins s σ H D I h
 rw [arm_exec_Try]
 refine wpAny_bind (wpAny_standAt (wpAny_tryStmt_except ?_))
 refine wpAny_mono (hb D pins [] s σ H D I.iW h) (fun f s1 hf=>?_) fun _ _ z=>z
 cases f with
 | next=>obtain⟨σ',H5,K1,z⟩:=hf;exact wpAny_pure ⟨σ',H5,K1.gT,z⟩
 | brk=>obtain⟨σ',H5,K1,z⟩:=hf;exact⟨σ',H5,K1.gT,z⟩
 | cont=>obtain⟨σ',H5,K1,z⟩:=hf;exact⟨σ',H5,K1.gT,z⟩
 | ret u=>obtain⟨v,σ',H5,K1,rv,z⟩:=hf;exact⟨v,σ',H5,K1.gT,rv,z⟩
end
end L2
end
section
namespace L2
open PySem PySem.Spec PyProof.Rows UfX
section
variable {P:Program}{w:World}{A:Around}{E:Value→Shared→Prop}{h:Heap}{gs:Array GenState}{dr:Drawn}{tk:Nat}{o:OsState}{K:PySem.W.Frag}{x C:Addr}{ox:Obj}{od:Option Obj}{name:Str}{expr fill:Bool}{Q:Value→Shared→Prop}
theorem vZ{t:Tok}{v:Value}(X:K.In h)(J:PySem.W.InstAt h x ox C od)(hga:PySem.W.findIn K (.ref C) "__getattribute__"=some (some (.builtin "BaseException.__getattribute__")))(hgn:PySem.W.findIn K (.ref C) "__getattr__"=some none)
  (k:codeAny (model P w) A (.call (.builtin "BaseException.__getattribute__") ⟨[.ref x,.str name t],[]⟩) (fun r s'=>∃ u,r=.ok (.ret u)∧PySem.W.handedIn u=true∧Q u s') ⟨h,gs,dr,tk,o⟩) :
  wpAny (model P w) A (getAttrBy (.ref x) (.str name t) fill expr) Q E ⟨h,gs,dr,tk,o⟩:=by
 have L0:=J.type (M:=model P w)
 have L1:=PySem.W.looks_findIn (M:=model P w) X hga
 have L2:=PySem.W.looks_findIn (M:=model P w) X hgn
 have f3:=PySem.F.attrBase_ValueError.ga.bind (.ref x)
 have g0:(expr&&onTheHeap (Value.builtin "BaseException.__getattribute__"))=false:=by cases expr <;> rfl
 have g2:(Value.builtin "BaseException.__getattribute__" == Value.builtin "object.__getattribute__")=false:=by decide +kernel
 have g1:(onTheHeap (Value.ref C)&&Value.builtin "BaseException.__getattribute__" == Value.builtin "object.__getattribute__")=false:=by rw [g2];rfl
 repeat (any_goals (first | assumption | (with_reducible refine L0.at ?_) | (with_reducible refine L1.at ?_) | (with_reducible refine L2.at ?_) | wp_step))
 refine codeAny_mono k fun r s' hr=>?_
 obtain⟨u,rfl,hu,q⟩:=hr
 show wpAny _ _ (handedOut u) _ _ _
 rw [PySem.W.handedOut_of hu]
 exact wpAny_pure q
theorem xP{t:Tok}{v:Value}{R:Result→Shared→Prop}(X:K.In h)(J:PySem.W.InstAt h x ox C od)(hm:PySem.W.mroIn K C (.type "BaseException")=some true)(hf:PySem.W.findObj K C od name=some (.value v))(q:R (.ok (.ret v)) ⟨h,gs,dr,tk,o⟩) :
  codeAny (model P w) A (.call (.builtin "BaseException.__getattribute__") ⟨[.ref x,.str name t],[]⟩) R ⟨h,gs,dr,tk,o⟩:=by
 have L0:=J.type (M:=model P w)
 have L1:=PySem.W.looks_find (M:=model P w) X J hf
 have isB:PySem.W.Looks (model P w) h (isInstance (.ref x) (.type "BaseException")) true:=J.type.andThen (PySem.W.looks_mroIn X hm)
 refine codeAny_call_builtin PySem.F.attrBase_ValueError.ga.plain PySem.F.entry_bexc_ga (@PySem.W.check_slot (model P w) _ _ ⟨h,gs,dr,tk,o⟩ "BaseException.__getattribute__" "BaseException" "__getattribute__" (.ref x) [.str name t] [] _ (by decide +kernel) (by decide +kernel) isB (PySem.F.args_bexc_ga (.ref x) (.str name t)) ?_)
 unfold Builtin.«object.__getattribute__»
 repeat (any_goals (first | assumption | (with_reducible refine L0.at ?_) | (with_reducible refine L1.at ?_) | wp_step))
end
end L2
end
section
namespace L2
open PySem PySem.Spec PyProof.Rows UfX
structure B6(K:PySem.W.Frag)(C:Addr)(f:Str):Prop where
 ga:PySem.W.findIn K (.ref C) "__getattribute__"=some (some (.builtin "BaseException.__getattribute__"))
 gn:PySem.W.findIn K (.ref C) "__getattr__"=some none
 hm:PySem.W.mroIn K C (.type "BaseException")=some true
 hd:PySem.W.hasDictIn K C=true
 no:PySem.W.findIn K (.ref C) f=some none
section
variable {X:Cx}{pins:List (Addr × Obj)}{σ:St}{H:Hp}{s:Shared}{A:Around}{E:Value→Shared→Prop}
theorem uq{a C dx:Addr}{f:Str}{fs:List (Str × V)}{n:Int}{expr:Bool}{Q:Value→Shared→Prop}(I:Inv X pins σ H s)(ha:H a=some (cm a (.ref C) (some dx)))(hx:H dx=some (.xd fs))(G:B6 X.K C f)(hl:fs.lookup f=some (.int n))
  (h:∀ t s',Inv X pins σ H s'→Q (.int n t) s'):wpAny (model X.prog X.w) A (getAttr (.ref a) f expr) Q E s:=by
 obtain⟨oe,vs,he,hcl,hdx,hdt⟩:d9 a (.ref C) (some dx) s.heap:=(I.hok a _ ha).1
 obtain⟨mA,hn,hr⟩:∃ mA,s.heap.Ns1 dx mA∧∀ f,fZ (fs.lookup f) (mA f):=I.hok dx _ hx
 have r:=hr f
 rw [hl] at r
 obtain⟨t,hm⟩:∃ t,mA f=some (.int n t):=by
  cases q:mA f with
  | none=>rw [q] at r;exact False.elim r
  | some u =>
   rw [q] at r
   obtain⟨t,e⟩:=(show ∃ t,u=Value.int n t from r)
   exact⟨t,by rw [e]⟩
 obtain⟨od,ho,hlk⟩:=kg hn
 obtain⟨oc,odi,oda,osl⟩:=oe
 dsimp only at hcl hdx hdt
 subst hcl hdx hdt
 have J:PySem.W.InstAt s.heap a ⟨.ref C,some dx,.fields vs,osl⟩ C (some od):=⟨he,rfl,rfl,ho⟩
 have hf:=PySem.W.findObj_own (K:=X.K) (C:=C) (name:=f) (od:=od) (v:=.int n t) G.hd G.no rfl (by rw [hlk,hm])
 obtain⟨hh,g,d,tk,os⟩:=s
 unfold getAttr
 refine wpAny_bind (wpAny_mkText ?_)
 exact vZ (v:=.int n t) I.fi J G.ga G.gn (xP I.fi J G.hm hf ⟨_,rfl,rfl,h t _ (I.tok _)⟩)
end
section
variable {X:Cx}
def Av(K:PySem.W.Frag)(ta:TE)(f:Str):TE:=fun σ H Q=>ta σ H fun x H1=>∃ a C dx fs n,x=.ref a∧H1 a=some (cm a (.ref C) (some dx))∧H1 dx=some (.xd fs)∧B6 K C f∧fs.lookup f=some (.int n)∧Q (.int n) H1
theorem wg{e:Expr}{f:Str}{ta:TE}{pos:Pos}(he:PE X e ta)(hb:attributeBase e f X.env (eval e X.env)=eval e X.env):PE X (.Attribute e f pos) (Av X.K ta f):=by
 intro pins s σ H Q I h
 refine uz hb (cc (he pins s σ H _ I h) fun u s1 hu=>?_)
 obtain⟨x,H1,I1,rx,a,C,dx,fs,n,ex,ea,ed,G,hl,q⟩:=hu
 subst ex
 obtain rfl:u=Value.ref a:=rx
 exact uq I1 ea ed G hl fun t s2 I2=>⟨.int n,H1,I2,⟨t,rfl⟩,q⟩
end
end L2
end
section
namespace L2
open PySem PySem.Spec PyProof.Rows UfX
section
variable {P:Program}{w:World}{A:Around}{E:Value→Shared→Prop}{h:Heap}{gs:Array GenState}{dr:Drawn}{tk:Nat}{o:OsState}{K:PySem.W.Frag}{x C:Addr}{ox:Obj}{od:Option Obj}
theorem oX{t:Tok}{R:Result→Shared→Prop}(X:K.In h)(J:PySem.W.InstAt h x ox C od)(hm:PySem.W.mroIn K C (.type "BaseException")=some true)(ho:PySem.W.mroIn K C (.type "object")=some true)
  (hf:PySem.W.findObj K C od "__class__"=some (.bind (.builtin "getset_descriptor.__get__") (.builtin "object.__class__"))) (q:R (.ok (.ret (.ref C))) ⟨h,gs,dr,tk,o⟩) :
  codeAny (model P w) A (.call (.builtin "BaseException.__getattribute__") ⟨[.ref x,.str "__class__" t],[]⟩) R ⟨h,gs,dr,tk,o⟩:=by
 have L0:=J.type (M:=model P w)
 have L1:=PySem.W.looks_find (M:=model P w) X J hf
 have isB:PySem.W.Looks (model P w) h (isInstance (.ref x) (.type "BaseException")) true:=J.type.andThen (PySem.W.looks_mroIn X hm)
 refine codeAny_call_builtin PySem.F.attrBase_ValueError.ga.plain PySem.F.entry_bexc_ga (@PySem.W.check_slot (model P w) _ _ ⟨h,gs,dr,tk,o⟩ "BaseException.__getattribute__" "BaseException" "__getattribute__" (.ref x) [.str "__class__" t] [] _ (by decide +kernel) (by decide +kernel) isB (PySem.F.args_bexc_ga (.ref x) (.str "__class__" t)) ?_)
 unfold Builtin.«object.__getattribute__»
 repeat (any_goals (first | assumption | (with_reducible refine L0.at ?_) | (with_reducible refine L1.at ?_) | wp_step))
 exact PySem.W.class_get (s:=⟨h,gs,dr,tk,o⟩) (ox:=ox) (od:=od) X J ho (wpAny_pure q)
theorem mC{t:Tok}{Q:Option Value→Shared→Prop}{name:Str}(X:K.In h)(J:PySem.W.InstAt h x ox C od)(hga:PySem.W.findIn K (.ref C) "__getattribute__"=some (some (.builtin "BaseException.__getattribute__")))(hgn:PySem.W.findIn K (.ref C) "__getattr__"=some none)
  (k:codeAny (model P w) A (.call (.builtin "BaseException.__getattribute__") ⟨[.ref x,.str name t],[]⟩) (fun r s'=>∃ u,r=.ok (.ret u)∧PySem.W.handedIn u=true∧Q (some u) s') ⟨h,gs,dr,tk,o⟩) :
  wpAny (model P w) A (getAttrBy? (.ref x) (.str name t)) Q E ⟨h,gs,dr,tk,o⟩:=by
 have L0:=J.type (M:=model P w)
 have L1:=PySem.W.looks_findIn (M:=model P w) X hga
 have L2:=PySem.W.looks_findIn (M:=model P w) X hgn
 have f3:=PySem.F.attrBase_ValueError.ga.bind (.ref x)
 have g2:(Value.builtin "BaseException.__getattribute__" == Value.builtin "object.__getattribute__")=false:=by decide +kernel
 have g1:(onTheHeap (Value.ref C)&&Value.builtin "BaseException.__getattribute__" == Value.builtin "object.__getattribute__")=false:=by rw [g2];rfl
 unfold getAttrBy?
 repeat (any_goals (first | assumption | (with_reducible refine L0.at ?_) | (with_reducible refine L1.at ?_) | (with_reducible refine L2.at ?_) | wp_step))
 refine codeAny_mono k fun r s' hr=>?_
 obtain⟨u,rfl,hu,q⟩:=hr
 show wpAny _ _ (handedOut u) _ _ _
 rw [PySem.W.handedOut_of hu]
 exact wpAny_pure (wpAny_pure q)
end
structure kM(K:PySem.W.Frag)(C:Addr):Prop where
 ga:PySem.W.findIn K (.ref C) "__getattribute__"=some (some (.builtin "BaseException.__getattribute__"))
 gn:PySem.W.findIn K (.ref C) "__getattr__"=some none
 hm:PySem.W.mroIn K C (.type "BaseException")=some true
 ho:PySem.W.mroIn K C (.type "object")=some true
 hd:PySem.W.hasDictIn K C=true
 cl:PySem.W.findIn K (.ref C) "__class__"=some (some (.builtin "object.__class__"))
 gt:PySem.W.specialIn K (.builtin "object.__class__") "__get__"=some (some (.builtin "getset_descriptor.__get__"))
 tk:PySem.W.takesIn K (.builtin "object.__class__")=some true
theorem rh{K:PySem.W.Frag}{x C:Addr}{ox od:Obj}(G:kM K C):PySem.W.KitX K (.ref x) (.ref C) (fun h=>PySem.W.InstAt h x ox C (some od)) where
 ty:=fun _ _ _ J=>J.type
 it:=fun _ _ X _=>by
  obtain⟨cd,hc,_⟩:=PySem.W.any_some G.hd
  unfold PySem.W.clsIn at hc
  split at hc
  ·rename_i c' d' cd' sl' lo
   intro A' Q' E' s' k q
   unfold isType loadHead
   exact wpAny_bind (wpAny_loadPart (k _ _ (X _ _ lo)) (wpAny_pure q))
  ·cases hc
 ne:=fun h tp dd its n sl X htp=>by
  obtain⟨cd,hc,_⟩:=PySem.W.any_some G.hd
  refine Bool.eq_false_iff.mpr fun q=>?_
  have e:C=tp:=Value.ref.inj (beq_iff_eq.mp q)
  subst e
  unfold PySem.W.clsIn at hc
  split at hc
  ·rename_i c' d' cd' sl' lo
   have z:=(X _ _ lo).symm.trans htp
   cases z
  ·cases hc
 ca:=fun {prog w A E Q s} X J k=>by
  have hf:PySem.W.findObj K C (some od) "__class__"=some (.bind (.builtin "getset_descriptor.__get__") (.builtin "object.__class__")):=PySem.W.findObj_data (by obtain⟨cd,hc,_⟩:=PySem.W.any_some G.hd;rw [hc];rfl) G.cl G.gt G.tk
  obtain⟨h,gs,dr,tk,o⟩:=s
  unfold getAttr?
  exact wpAny_bind (wpAny_mkText (mC X J G.ga G.gn (oX X J G.hm G.ho hf ⟨_,rfl,rfl,k⟩)))
section
variable {X:Cx}{pins:List (Addr × Obj)}{σ:St}{H:Hp}{s:Shared}{A:Around}{E:Value→Shared→Prop}
theorem oJ{a C dx:Addr}{fs:List (Str × V)}(I:Inv X pins σ H s)(ha:H a=some (cm a (.ref C) (some dx)))(hx:H dx=some (.xd fs)):∃ ox od,PySem.W.InstAt s.heap a ox C (some od):=by
 obtain⟨oe,vs,he,hcl,hdx,hdt⟩:d9 a (.ref C) (some dx) s.heap:=(I.hok a _ ha).1
 obtain⟨mA,hn,_⟩:∃ mA,s.heap.Ns1 dx mA∧∀ f,fZ (fs.lookup f) (mA f):=I.hok dx _ hx
 obtain⟨od,ho,_⟩:=kg hn
 obtain⟨oc,odi,oda,osl⟩:=oe
 dsimp only at hcl hdx hdt
 subst hcl hdx hdt
 exact⟨_,od,he,rfl,rfl,ho⟩
theorem vM{a C dx:Addr}{fs:List (Str × V)}{c:Value}{b:Bool}{Q:Value→Shared→Prop}(I:Inv X pins σ H s)(ha:H a=some (cm a (.ref C) (some dx)))(hx:H dx=some (.xd fs))(G:kM X.K C)(e:PySem.W.kitOne X.K (.ref C) c=some b)
  (h:∀ s',Inv X pins σ H s'→Q (.bool b) s'):wpAny (model X.prog X.w) A (call (.builtin "isinstance") [.ref a,c]) Q E s:=by
 obtain⟨ox,od,J⟩:=oJ I ha hx
 exact PySem.W.kia_one (rh G) I.fi J e (fun z=>nomatch z) fun tk=>h _ (I.tok tk)
theorem sE{a C dx tp:Addr}{fs:List (Str × V)}{dd:Option Addr}{its:List Value}{n:Nat}{sl:Array (Option Value)}{b:Bool}{Q:Value→Shared→Prop}(I:Inv X pins σ H s)(ha:H a=some (cm a (.ref C) (some dx)))(hx:H dx=some (.xd fs))(G:kM X.K C)
  (ht:s.heap.get? tp=some ⟨.type "tuple",dd,.seq its.toArray n,sl⟩) (e:PySem.W.kitAny X.K (.ref C) its=some b) (h:∀ s',Inv X pins σ H s'→Q (.bool b) s'):wpAny (model X.prog X.w) A (call (.builtin "isinstance") [.ref a,.ref tp]) Q E s:=by
 obtain⟨ox,od,J⟩:=oJ I ha hx
 exact PySem.W.kia_tup (rh G) I.fi J ht e (fun z=>nomatch z) fun tk=>h _ (I.tok tk)
end
end L2
end
section
namespace L2
open PySem PySem.Spec PyProof.Rows UfX
def kQ:V→Value
 | .ref a=>.ref a
 | .ty n=>.type n
 | _=>.none
theorem pz{c:V}{u:Value}(r:RelV c u)(h:kQ c≠.none):u=kQ c:=by
 cases c <;> first | exact absurd rfl h | exact r
theorem mK:∀ {cs:List V} {us:List Value},Vals cs us→(∀ c∈cs,kQ c≠.none)→us=cs.map kQ
 | _,_,.nil,_=>rfl
 | _,_,.cons r t,h=>by
  rw [List.map_cons,← pz r (h _ List.mem_cons_self),← mK t fun c hc=>h c (List.mem_cons_of_mem _ hc)]
def B8(K:PySem.W.Frag):List V→Hp→VK→Prop:=fun xs H Q=>∃ a C dx fs c b,xs=[.ref a,c]∧H a=some (cm a (.ref C) (some dx))∧H dx=some (.xd fs)∧kM K C∧Q (.bl b) H ∧
 ((kQ c≠.none∧PySem.W.kitOne K (.ref C) (kQ c)=some b)∨∃ tp cs,c=.ref tp∧H tp=some (.tup cs)∧(∀ d∈cs,kQ d≠.none)∧PySem.W.kitAny K (.ref C) (cs.map kQ)=some b)
section
variable {X:Cx}
theorem ff:dC X (.builtin "isinstance") (B8 X.K):=by
 intro pins s σ H xs us Q I r h
 obtain⟨a,C,dx,fs,c,b,rfl,ha,hx,G,q,hc⟩:=h
 cases r with
 | cons r0 r1 =>
  cases r1 with
  | cons r2 r3 =>
   cases r3
   obtain rfl:=r0
   rcases hc with⟨hn,e⟩ | ⟨tp,cs,rfl,ht,hn,e⟩
   ·rw [pz r2 hn]
    exact vM I ha hx G e fun s' I'=>⟨.bl b,H,I',rfl,q⟩
   ·obtain rfl:=r2
    obtain⟨_,its,rv,ob,h1,h2,n,h3⟩:=(show bO X.prog X.w H s.heap tp (.tup cs) from I.hok tp _ ht)
    obtain⟨oc,odi,oda,osl⟩:=ob
    dsimp only at h2 h3
    subst h2 h3
    refine sE I ha hx G h1 ?_ fun s' I'=>⟨.bl b,H,I',rfl,q⟩
    rw [mK rv hn]
    exact e
end
end L2
end
section
namespace L2
open PySem PySem.Spec PyProof.Rows
def iM(env:Env):List (Str × NameKind)→List (Str × Addr)→List (Str × Addr)
 | [],cs=>cs
 | (n,k)::r,cs=>iM env r (if k==.free then(n,(env.cells.lookup n).getD 0)::cs else cs)
theorem mF{env:Env}:∀ (names:List (Str × NameKind)) (cs:List (Str × Addr)),(∀ x∈names,x.2=.free→∃ c,env.cells.lookup x.1=some c) →
  (forIn (m:=Sem) names cs fun x r=>if (x.2==NameKind.free)=true then do let a ← cellOf env x.1;pure (ForInStep.yield ((x.1,a)::r)) else pure (ForInStep.yield r))=pure (iM env names cs)
 | [],cs,_=>rfl
 | (n,k)::r,cs,h=>by
  have hr:=fun cs'=>mF (env:=env) r cs' fun x hx=>h x (List.mem_cons_of_mem _ hx)
  rw [List.forIn_cons]
  by_cases hk:k=.free
  ·subst hk
   obtain⟨c,hc⟩:=h (n,.free) List.mem_cons_self rfl
   have e1:cellOf env n=pure c:=by unfold cellOf;rw [hc]
   simp only [beq_self_eq_true,if_true,e1,pure_bind,hr,iM,hc,Option.getD_some]
  ·have hb:(k==NameKind.free)=false:=by simpa using hk
   simp only [hb,Bool.false_eq_true,if_false,pure_bind,hr,iM]
theorem lK{env:Env}{sc:Scope}(h:∀ x∈sc.names,x.2=.free→∃ c,env.cells.lookup x.1=some c):closureFor sc env=pure (iM env sc.names []):=by
 unfold closureFor
 have e:=mF (env:=env) sc.names [] h
 simp only [bind_pure]
 exact e
theorem cQ{env:Env}:∀ (names:List (Str × NameKind)) (cs:List (Str × Addr)),(∀ x∈names,x.2=.free→∃ c,env.cells.lookup x.1=some c) →
  (∀ x c,cs.lookup x=some c→env.cells.lookup x=some c)→∀ x c,(iM env names cs).lookup x=some c→env.cells.lookup x=some c
 | [],cs,_,h=>h
 | (n,k)::r,cs,hf,h=>by
  intro x c e
  unfold iM at e
  refine cQ r _ (fun y hy=>hf y (List.mem_cons_of_mem _ hy)) ?_ x c e
  intro y d q
  by_cases hk:(k==NameKind.free)=true
  ·rw [if_pos hk] at q
   obtain⟨c',hc'⟩:=hf (n,k) List.mem_cons_self (by simpa using hk)
   have hc':env.cells.lookup n=some c':=hc'
   rw [List.lookup_cons] at q
   by_cases hy:y=n
   ·subst hy
    simp only [beq_self_eq_true] at q
    rw [hc'] at q ⊢
    exact q
   ·have:(y==n)=false:=by simpa using hy
    rw [this] at q
    exact h y d q
  ·rw [if_neg hk] at q
   exact h y d q
theorem lW{env:Env}{x:Str}:∀ (names:List (Str × NameKind)) (cs:List (Str × Addr)),(∃ c,cs.lookup x=some c)→∃ c,(iM env names cs).lookup x=some c
 | [],cs,h=>h
 | (n,k)::r,cs,h=>by
  unfold iM
  refine lW r _ ?_
  by_cases hk:(k==NameKind.free)=true
  ·rw [if_pos hk,List.lookup_cons]
   cases hy:x==n with
   | true=>exact⟨_,rfl⟩
   | false=>exact h
  ·rw [if_neg hk];exact h
theorem me{env:Env}{x:Str}:∀ (names:List (Str × NameKind)) (cs:List (Str × Addr)),(x,NameKind.free)∈names→∃ c,(iM env names cs).lookup x=some c
 | [],cs,h=>by simp at h
 | (n,k)::r,cs,h=>by
  unfold iM
  rcases List.mem_cons.mp h with e | h
  ·cases e
   refine lW r _ ?_
   rw [if_pos (by rfl),List.lookup_cons]
   simp
  ·exact me r _ h
theorem fe{env:Env}:∀ {names:List (Str × NameKind)} {x:Str} {k:NameKind},
  (names.map fun (n,k)=>if (k == NameKind.free && env.scope.kind == .function && env.kindOf n == some .cell) then (n,NameKind.cell) else (n,k)).lookup x = some k →
   ∃ k',(x,k')∈names∧(k=k'∨(k=.cell∧k'=.free))
 | [],_,_,h=>by simp at h
 | (n,k₀)::r,x,k,h=>by
  rw [List.map_cons] at h
  by_cases hc:(k₀==NameKind.free&&env.scope.kind==.function&&env.kindOf n==some .cell)=true
  ·simp only [hc,if_true,List.lookup_cons] at h
   cases hx:x==n with
   | true =>
    rw [hx] at h
    have:x=n:=by simpa using hx
    subst this
    have hf:k₀=.free:=by
     have h1:=(Bool.and_eq_true_iff.mp (Bool.and_eq_true_iff.mp hc).1).1
     simpa using h1
    subst hf
    cases h
    exact⟨_,List.mem_cons_self,.inr ⟨rfl,rfl⟩⟩
   | false =>
    rw [hx] at h
    obtain⟨k',m,q⟩:=fe (env:=env) h
    exact⟨k',List.mem_cons_of_mem _ m,q⟩
  ·simp only [if_neg hc,List.lookup_cons] at h
   cases hx:x==n with
   | true =>
    rw [hx] at h
    have:x=n:=by simpa using hx
    subst this
    cases h
    exact⟨_,List.mem_cons_self,.inl rfl⟩
   | false =>
    rw [hx] at h
    obtain⟨k',m,q⟩:=fe (env:=env) h
    exact⟨k',List.mem_cons_of_mem _ m,q⟩
theorem dz{env:Env}:∀ {names:List (Str × NameKind)} {x:Str},names.lookup x=some .free →
  (names.map fun(n,k)=>if (k==NameKind.free&&env.scope.kind==.function&&env.kindOf n==some .cell) then(n,NameKind.cell) else(n,k)).lookup x=some .cell ∨
  (names.map fun(n,k)=>if (k==NameKind.free&&env.scope.kind==.function&&env.kindOf n==some .cell) then(n,NameKind.cell) else(n,k)).lookup x=some .free
 | [],_,h=>by simp at h
 | (n,k₀)::r,x,h=>by
  rw [List.map_cons]
  rw [List.lookup_cons] at h
  by_cases hc:(k₀==NameKind.free&&env.scope.kind==.function&&env.kindOf n==some .cell)=true
  ·simp only [hc,if_true,List.lookup_cons]
   cases hx:x==n with
   | true=>exact .inl rfl
   | false=>rw [hx] at h;exact dz (env:=env) h
  ·simp only [if_neg hc,List.lookup_cons]
   cases hx:x==n with
   | true=>rw [hx] at h;exact .inr h
   | false=>rw [hx] at h;exact dz (env:=env) h
structure BX where
 C:Addr
 s:Shared
 H:Hp
 fp:List Addr
abbrev jF(X:Cx)(sc:Scope)(N:List Str)(z:BX):Cx :=
  { prog:=X.prog,w:=X.w,K:=X.K,mg:=X.mg,base:=X.base,A:=X.A,N:=N,s₀:=z.s,H₀:=z.H,env:=compEnvC sc (iM X.env sc.names []) z.C X.env,outer:=X.stack,stack:=X.stack,ex:=z.fp,fn:=fun _=>false,
    calm:=X.calm,pn:=[],xe:=fun _ _=>False }
structure dj(X:Cx)(N:List Str)(n:Nat)(ci:List Nat)(sc:Scope):Prop where
 kind:sc.kind=.function
 nocell:∀ y∈sc.names,y.2≠.cell
 loc:∀ y∈sc.names,y.2=.local→sc.names.lookup y.1=some .local
 fr:∀ y∈sc.names,y.2=.free→X.env.scope.names.lookup y.1=some .cell∨X.env.scope.names.lookup y.1=some .free
 len:N.length=n+ci.length
 caps:∀ (j i:Nat),ci[j]?=some i→∃ x,N[n+j]?=some x∧X.N[i]?=some x∧sc.names.lookup x=some NameKind.free
def rF(n:Nat)(ci:List Nat)(σ:St):St:=List.replicate n none++ci.map fun i=>(σ[i]?).getD none
theorem uP(n:Nat)(ci:List Nat)(σ:St):(rF n ci σ).length=n+ci.length:=by simp [rF]
section
variable {X:Cx}{N:List Str}{n:Nat}{ci:List Nat}{sc:Scope}{pins:List (Addr × Obj)}{σ:St}{H:Hp}{s:Shared}{fp:List Addr}
theorem dj.nJ(S:dj X N n ci sc)(ok:X.Ok):∀ x∈sc.names,x.2=.free→∃ c,X.env.cells.lookup x.1=some c:=fun x hx hf=>ok.has x.1 (S.fr x hx hf)
theorem tj(S:dj X N n ci sc)(I:Inv X pins σ H s)(hf:∀ b∈fp,gP X pins H b)(ho:∀ b∈fp,∃ o,s.heap.get? b=some o):(jF X sc N ⟨s.heap.objs.size,s,H,fp⟩).Ok where
 mod:=I.ok.mod
 kind:=S.kind
 glob:=I.ok.glob
 blt:=I.ok.blt
 above:=Nat.le_refl _
 inj:=fun x y c h1 h2=>I.ok.inj x y c (cQ _ _ (S.nJ I.ok) (by simp) x c h1) (cQ _ _ (S.nJ I.ok) (by simp) y c h2)
 has:=fun x hx=>by
  have key:∀ k,(relabel sc X.env).names.lookup x=some k→(k=.cell∨k=.free)→∃ c,(iM X.env sc.names []).lookup x=some c:=fun k hk hkk=>by
   obtain⟨k',m,q⟩:=fe hk
   have hfree:k'=.free:=by
    rcases q with rfl | ⟨_,q⟩
    ·rcases hkk with e | e
     ·exact absurd e (S.nocell _ m)
     ·exact e
    ·exact q
   subst hfree
   exact me _ _ m
  rcases hx with hx | hx
  ·exact key _ hx (.inl rfl)
  ·exact key _ hx (.inr rfl)
 cab:=fun x c h=>by cases h
 hd:=fun h=>I.ok.hd h
 frames:=I.ok.frames
 stk:=.inl rfl
 exf:=fun b hb=>by
  obtain⟨o,e⟩:=ho b hb
  refine⟨Nat.ne_of_lt (Heap.lt_size e),fun x c h=>?_⟩
  exact(hf b hb).2.2.2.2.1 x c (cQ _ _ (S.nJ I.ok) (by simp) x c h)
 bs:=I.bs
 bsz:=Nat.le_trans I.ok.bsz I.sz
 noex:=fun b o e hb=>by
  rcases(hf b hb).2.2.2.1 with z | z
  ·exact I.ok.noex b o e z
  ·exact absurd (Nat.lt_of_lt_of_le (Heap.lt_size e) (Nat.le_trans I.ok.bsz z)) (Nat.lt_irrefl _)
 exfs:=fun b hb z=>by
  obtain⟨_,f1,f2,_⟩:=hf b hb
  rcases List.mem_cons.mp (I.lV b z) with e | e
  ·exact f1 e
  ·exact f2 e
 hV:=I.stack
 frf:=I.lj
theorem qN{h':Heap}{m:Str→Option Value}{C:Addr}(S:dj X N n ci sc)(I:Inv X pins σ H s)(hk:∀ x c v,X.env.cells.lookup x=some c→s.heap.IsCell c v→h'.IsCell c v)
  (i:Nat) (x:Str) (v:V) (e1:N[i]?=some x) (e2:(rF n ci σ)[i]?=some (some v)):∃ u,RelV v u∧Look (compEnvC sc (iM X.env sc.names []) C X.env) h' m x u:=by
 have hi:n≤i:=by
  by_cases hi:i<n
  ·unfold rF at e2
   rw [List.getElem?_append_left (by simpa using hi),List.getElem?_replicate,if_pos hi] at e2
   cases e2
  ·lia
 obtain⟨j,rfl⟩:=Nat.exists_eq_add_of_le hi
 have e2':(ci.map fun i=>(σ[i]?).getD none)[j]?=some (some v):=by
  unfold rF at e2
  rw [List.getElem?_append_right (by simp)] at e2
  simpa using e2
 rw [List.getElem?_map] at e2'
 cases ej:ci[j]? with
 | none=>rw [ej] at e2';cases e2'
 | some k =>
  rw [ej] at e2'
  obtain⟨y,c1,c2,c3⟩:=S.caps j k ej
  rw [c1] at e1
  cases e1
  have ev:σ[k]?=some (some v):=by
   cases q:σ[k]? with
   | none=>simp [q] at e2'
   | some w=>simp [q] at e2';rw [e2']
  obtain⟨m0,_,hl⟩:=I.loc
  have c4:(x,NameKind.free)∈sc.names:=PySem.mem_of_lookup c3
  have kf:=S.fr _ c4 rfl
  have vis:En X.env.scope x:=.inr kf
  obtain⟨u,ru,lk⟩:=hl k x v c2 ev vis
  refine⟨u,ru,.inr ⟨dz (env:=X.env) c3,?_⟩⟩
  rcases lk with⟨l1,_⟩ | ⟨_,c,hc,hcell⟩
  ·rcases kf with kf | kf <;> (rw [show X.env.kindOf x=_ from kf] at l1;cases l1)
  ·obtain⟨c',hc'⟩:=me (env:=X.env) sc.names [] c4
   have:=cQ _ _ (S.nJ I.ok) (by simp) x c' hc'
   rw [hc] at this
   cases this
   exact⟨c,hc',hk x c _ hc hcell⟩
theorem oP{h':Heap}{t':Nat}{m:Str→Option Value}(S:dj X N n ci sc)(I:Inv X pins σ H s)(hf:∀ b∈fp,gP X pins H b)(ho:∀ b∈fp,∃ o,s.heap.get? b=some o)
  (hk:∀ b o,s.heap.get? b=some o→h'.get? b=some o) (hn:h'.Ns s.heap.objs.size m):Inv (jF X sc N ⟨s.heap.objs.size,s,H,fp⟩) [] (rF n ci σ) H { s with heap:=h',toks:=t' } where
 ok:=tj S I hf ho
 os:=rfl
 bare:=I.bare
 base:=Un.kept hk
 loc:=⟨m,hn,fun i x v e1 e2 _=>qN S I (fun x c v _ ⟨o,e,d⟩=>⟨o,hk _ _ e,d⟩) i x v e1 e2⟩
 cell:=fun x c e=>by
  obtain⟨v,o,e1,d⟩:=I.cell x c (cQ _ _ (S.nJ I.ok) (by simp) x c e)
  exact⟨v,o,hk _ _ e1,d⟩
 free:=I.hok.fresh (Nat.le_refl _)
 freeC:=fun x c e=>I.freeC x c (cQ _ _ (S.nJ I.ok) (by simp) x c e)
 pin:=fun p hp=>absurd hp (by simp)
 hok:=I.hok.kept hk
 len:=by rw [uP];exact S.len.symm
theorem qR{H':Hp}{s':Shared}{σ':St}{pins':List (Addr × Obj)}(S:dj X N n ci sc)(I:Inv X pins σ H s)(hf:∀ b∈fp,gP X pins H b)
  (J:Inv (jF X sc N ⟨s.heap.objs.size,s,H,fp⟩) pins' σ' H' s'):Inv (jF X sc N ⟨s.heap.objs.size,s,H,fp⟩) pins' (rF n ci σ) H' s' where
 ok:=J.ok
 os:=J.os
 bare:=J.bare
 base:=J.base
 loc:=by
  obtain⟨m,hn,_⟩:=J.loc
  refine⟨m,hn,fun i x v e1 e2 _=>qN S I (fun x c v e ⟨o,ho,d⟩=>?_) i x v e1 e2⟩
  have nf:c∉fp:=fun z=>(hf c z).2.2.2.2.1 x c e rfl
  obtain⟨sl,q⟩:=J.base.any ho (I.freeC x c e) nf
  exact⟨_,q,d⟩
 cell:=J.cell
 free:=J.free
 freeC:=J.freeC
 pin:=J.pin
 hok:=J.hok
 len:=by rw [uP];exact S.len.symm
end
section
variable {prog:Program}{w:World}{A:Around}{R:Result→Shared→Prop}{s:Shared}
theorem ni{elt target iter:Expr}{ifs:List Expr}{scope:Scope}{pos:Pos}{it acc:Value}{env:Env}(I:Nat→Shared→Prop)
  (turn:∀ n s,I n s→wpAny (model prog w) A (pyNext it) (fun r s₁=>match r with
   | none=>R (.ok .next) s₁
   | some v=>wpAny (model prog w) A (letOwnedTupleGo target it v) (fun _ s₀=>wpAny (model prog w) A (assign target env v) (fun _ s₂ =>
     wpAny (model prog w) A (forIn ifs true fun c r=>if r=true then do let ok ← isTrue c env (eval c env);pure (ForInStep.yield ok) else pure (ForInStep.yield r)) (fun ok s₃ =>
      if ok=true then wpAny (model prog w) A (eval elt env) (fun x s₄ =>
       wpAny (model prog w) A (call (.builtin "list.append") [acc,x]) (fun _ s₅=>∃ m,m<n∧I m s₅) (fun _ _=>False) s₄) (fun _ _=>False) s₃
      else ∃ m,m<n∧I m s₃) (fun _ _=>False) s₂) (fun _ _=>False) s₀) (fun _ _=>False) s₁) (fun _ _=>False) s)
  (n:Nat) (h:I n s) :
  codeAny (model prog w) A (.compLoop (.ListComp elt [⟨target,iter,ifs,0⟩] scope pos) 0 it acc env) R s:=by
 refine codeAny_loop rfl I (fun n s hI=>?_) n h
 show wpAny _ A ((compTurn (.ListComp elt [⟨target,iter,ifs,0⟩] scope pos) 0 it acc env).onRaise (fun x=>do noteFrame x env;theTreesLotGoes x)) _ _ s
 refine wpAny_noted ?_
 rw [compTurn_list]
 refine wpAny_bind (wpAny_standAt (wpAny_bind (wpAny_mono (turn n s hI) (fun r s₁ h₁=>?_) fun _ _ h'=>h'.elim)))
 cases r with
 | none=>exact wpAny_pure h₁
 | some v =>
  refine wpAny_bind (wpAny_mono h₁ (fun _ s₀ h₀=>?_) fun _ _ h'=>h'.elim)
  refine wpAny_bind (wpAny_mono h₀ (fun _ s₂ h₂=>wpAny_bind (wpAny_mono h₂ (fun ok s₃ h₃=>?_) fun _ _ h'=>h'.elim)) fun _ _ h'=>h'.elim)
  cases ok with
  | false=>exact wpAny_pure ⟨rfl,h₃⟩
  | true =>
   exact wpAny_bind (wpAny_bind (wpAny_mono h₃ (fun x s₄ h₄=>wpAny_bind (wpAny_mono h₄ (fun _ s₅ h₅=>wpAny_pure (wpAny_pure ⟨rfl,h₅⟩)) fun _ _ h'=>h'.elim)) fun _ _ h'=>h'.elim))
end
def Ee(X:Cx)(ifs:List Expr)(t:TT):Prop :=
 ∀ (pins:List (Addr × Obj)) (s:Shared) (σ:St) (H:Hp) (Q:Bool→Hp→Prop),Inv X pins σ H s→t σ H Q →
  wpAny (model X.prog X.w) X.A (forIn ifs true fun c r=>if r=true then do let ok ← isTrue c X.env (eval c X.env);pure (ForInStep.yield ok) else pure (ForInStep.yield r)) (TP X pins σ Q) X.xe s
def Er:TT:=fun _ H Q=>Q true H
theorem bP{X:Cx}:Ee X [] Er:=fun pins s σ H Q I h=>wpAny_tests_nil ⟨H,I,h⟩
theorem dH{X:Cx}{c:Expr}{t:TT}(h:PT X c t):Ee X [c] t:=fun pins s σ H Q I hq=>wpAny_tests_one (h pins s σ H Q I hq)
def iC(n:Nat)(ci:List Nat)(J:It)(g:TG)(tt:TT)(te:TE)(σ:St)(H1:Hp)(D:Addr)(Q:VK):Prop :=
 ∃ (M:Nat) (W:Nat→List V→Hp→Prop),W 0 [] (upd H1 D (.lst []))∧∀ i ys H,i≤M→W i ys H →
  (J.stop i H∧Q (.ref D) H)∨(i < M∧J.go i H∧∀ x H',J.yld i H x H'→g x (rF n ci σ) H' fun σ2 H2=>tt σ2 H2 fun b H3 =>
   if b=true then te σ2 H3 fun y H4=>H4 D=some (.lst ys)∧ys.length<sizeLine∧W (i+1) (ys++[y]) (upd H4 D (.lst (ys++[y])))
   else W (i+1) ys H3)
def AX(n:Nat)(ci:List Nat)(wi:TI)(g:BX→TG)(tt:BX→TT)(te:BX→TE):TE:=fun σ H Q=>wi σ H fun J H1=>∀ (z:BX) (D:Addr),H1 D=none→iC n ci J (g z) (tt z) (te z) σ H1 D Q
section
variable {X:Cx}{N:List Str}{n:Nat}{ci:List Nat}{sc:Scope}
theorem lA{pins:List (Addr × Obj)}{σ σ':St}{H H':Hp}{s s':Shared}{fp:List Addr}{h':Heap}(I:Inv X pins σ H s)(hf:∀ b∈fp,gP X pins H b)
  (J:Inv (jF X sc N ⟨s.heap.objs.size,s,H,fp⟩) [] σ' H' s') (hs:Heap.SameBut s.heap.objs.size s'.heap h'):Inv X pins σ H' { s' with heap:=h' }:=by
 have up:∀ b o,b≠s.heap.objs.size→s'.heap.get? b=some o→h'.get? b=some o:=fun b o hb e=>(hs.2 b hb).trans e
 have lt:∀ b o,s.heap.get? b=some o→b≠s.heap.objs.size:=fun b o e=>Nat.ne_of_lt (Heap.lt_size e)
 have u0:=J.base
 have un:Un (hU X.stack) fp H H' s.heap h':=by
  refine⟨fun b o e n hb hx=>up b o (lt b o e) (u0.keep b o e n hb hx),fun b o e n hb hx=>?_,fun b o e n hx=>u0.free b o e n hx,fun b o e hx=>?_,u0.iK,u0.frzs,u0.tbls⟩
  ·obtain⟨sl,q⟩:=u0.slot b o e n hb hx
   exact⟨sl,up b _ (lt b o e) q⟩
  ·obtain⟨o',q⟩:=u0.there b o e hx
   exact⟨o',up b _ (lt b o e) q⟩
 have fr:H' s.heap.objs.size=none:=J.free
 have hok:iU X.prog X.w H' h':=fun b u e=>by
  refine(J.hok b u e).iy (fun c v hc q=>up c v ?_ q) (fun _ q=>q) fun _ _ q=>q
  rintro rfl
  rcases hc with hc | hc
  ·rw [← hc,fr] at e;cases e
  ·rw [fr] at hc;cases hc
 refine I.xm (s':={ s' with heap:=h' }) (ch:=fp) J.os un hok J.bare fun b hb=>?_
 obtain⟨_,f1,_,f3,f4,f5⟩:=hf b hb
 exact⟨f3,f1,f4,f5⟩
theorem qF{elt tg iter:Expr}{ifs:List Expr}{pos:Pos}{g:BX→TG}{tt:BX→TT}{te:BX→TE}{z:BX}{it D:Addr}{fp:List Addr}{tn:Nat→Heap→Prop}{J:It}{σ0:St}{H4:Hp}{s4:Shared}{Q:VK}{R:Result→Shared→Prop}{W:Nat→List V→Hp→Prop}{M:Nat}
  (hc:X.calm=true) (T:Turn X.prog X.w X.K tg J fp it tn) (bg:PG (jF X sc N z) tg (g z)) (bt:Ee (jF X sc N z) ifs (tt z)) (be:PE (jF X sc N z) elt (te z))
  (keep:∀ {pins:List (Addr × Obj)} {σ':St} {H':Hp} {s':Shared},Inv (jF X sc N z) pins σ' H' s'→Inv (jF X sc N z) pins σ0 H' s')
  (stat:∀ {H':Hp},(∀ b∈fp,H' b=none)→∀ b∈fp,gP (jF X sc N z) [] H' b)
  (I4:Inv (jF X sc N z) [] σ0 H4 s4) (st4:tn 0 s4.heap) (fr4:∀ b∈fp,H4 b=none) (w0:W 0 [] H4)
  (turn:∀ i ys H,i≤M→W i ys H→(J.stop i H∧Q (.ref D) H)∨(i < M∧J.go i H∧∀ x H',J.yld i H x H'→g z x σ0 H' fun σ2 H2=>tt z σ2 H2 fun b H3 =>
   if b=true then te z σ2 H3 fun y H4=>H4 D=some (.lst ys)∧ys.length<sizeLine∧W (i+1) (ys++[y]) (upd H4 D (.lst (ys++[y])))
   else W (i+1) ys H3))
  (hR:∀ σ' H' s',Inv (jF X sc N z) [] σ' H' s'→Q (.ref D) H'→R (.ok .next) s') :
  codeAny (model X.prog X.w) X.A (.compLoop (.ListComp elt [⟨tg,iter,ifs,0⟩] sc pos) 0 (.ref it) (.ref D) (jF X sc N z).env) R s4:=by
 refine ni (fun n s'=>∃ i ys H',n=M-i∧i≤M∧Inv (jF X sc N z) [] σ0 H' s'∧tn i s'.heap∧(∀ b∈fp,H' b=none)∧W i ys H') ?_ M ⟨0,[],H4,rfl,Nat.zero_le _,I4,st4,fr4,w0⟩
 rintro n s3 ⟨i,ys,H3,rfl,hiM,I3,st3,fr3,w3⟩
 rcases turn i ys H3 hiM w3 with⟨stop,qn⟩ | ⟨hlt,go,step⟩
 ·refine cc (T.done (jF X sc N z) rfl rfl rfl hc i [] s3 σ0 H3 (fun _ _=>False) I3 (stat fr3) st3 stop) fun r s4 ⟨hr,I4⟩=>?_
  subst hr
  exact hR σ0 H3 s4 I4 qn
 ·refine cc (T.item (jF X sc N z) rfl rfl rfl hc i [] s3 σ0 H3 (fun _ _=>False) I3 (stat fr3) st3 go) fun r s4 ⟨u,hr,h4⟩=>?_
  subst hr
  refine cc h4 fun _ s5 ⟨x,H5,I5,r5,y5,st5,fr5⟩=>?_
  have I5':=I5.pinned (stat fr5) (T.obj _ _ st5)
  refine cc (bg _ s5 σ0 H5 x u _ I5' r5 (step x H5 y5)) fun _ s6 ⟨σ6,H6,I6,q6⟩=>?_
  refine cc (bt _ s6 σ6 H6 _ I6 q6) fun b s7 ⟨H7,I7,q7⟩=>?_
  have again:∀ {ys':List V} {H8:Hp} {s8:Shared},Inv (jF X sc N z) ([]++mq fp s5.heap) σ6 H8 s8→W (i+1) ys' H8→∃ m,m<M-i∧∃ i ys H',m=M-i∧i≤M∧Inv (jF X sc N z) [] σ0 H' s8∧tn i s8.heap∧(∀ b∈fp,H' b=none)∧W i ys H':=fun {ys' H8 s8} I8 w8=>by
   refine⟨M-(i+1),by lia,i+1,ys',H8,rfl,hlt,keep I8.jD,T.keep _ _ _ st5 fun b hb o e=>(I8.pin (b,o) (List.mem_append_right _ (List.mem_append_right _ (gR hb e)))).1,fun b hb=>?_,w8⟩
   obtain⟨o,e,d⟩:=T.obj _ _ st5 b hb
   exact(I8.pin (b,o) (List.mem_append_right _ (List.mem_append_right _ (gR hb e)))).2.1
  cases b with
  | false =>
   rw [if_neg (by decide)]
   rw [if_neg (by decide)] at q7
   exact again I7 q7
  | true =>
   rw [if_pos rfl]
   rw [if_pos rfl] at q7
   refine cc (be _ s7 σ6 H7 _ I7 q7) fun yu s8 ⟨y,H8,I8,r8,hD,hz,q8⟩=>?_
   exact cc (dk _ s8 σ6 H8 (.ref D) [y] (.ref D) [yu] (fun _ H9=>H9=upd H8 D (.lst (ys++[y]))) I8 rfl (.cons r8 .nil) ⟨D,ys,y,rfl,rfl,hD,hz,rfl⟩) fun _ s9 ⟨_,H9,I9,_,e9⟩=>by
    subst e9
    exact again I9 q8
theorem bJ{elt tg iter:Expr}{ifs:List Expr}{pos:Pos}{wi:TI}{g:BX→TG}{tt:BX→TT}{te:BX→TE}(hc:X.calm=true)(hi:PI X tg iter wi)(S:dj X N n ci sc)
  (hb:∀ z:BX,PG (jF X sc N z) tg (g z)∧Ee (jF X sc N z) ifs (tt z)∧PE (jF X sc N z) elt (te z))
  (hs:∀ x,foldedSetIterable iter X.env x=pure x:=by intro _;rfl):PE X (.ListComp elt [⟨tg,iter,ifs,0⟩] sc pos) (AX n ci wi g tt te):=by
 intro pins s σ H Q I h
 rw [eval_ListComp]
 refine wpAny_comprehension_free (use:=none) rfl hs (lK (S.nJ I.ok)) S.kind S.loc (cc (hi pins s σ H _ I h) fun v s1 h1=>cc h1 fun itv s2 h2=>?_)
 obtain⟨it,fp,tn,J,H2,e,I2,T,st2,f2,rd⟩:=h2
 subst e
 refine wpAny_newObj_type (wpAny_newFunctionEnv S.nocell (by intro y hy;simp at hy) (fun h₁ hns₁ hsb₁=>?_) S.kind)
 dsimp only at hns₁ hsb₁ ⊢
 have hD:H2 s2.heap.objs.size=none:=I2.hok.fresh (Nat.le_refl _)
 have I3:Inv X pins σ (upd H2 s2.heap.objs.size (.lst [])) { s2 with heap:=s2.heap.push { cls:=.type "list",data:=.seq ([]:List Value).toArray } }:=I2.BR (t':=s2.toks) (ys:=[]) (its:=[]) .nil (Nat.zero_le _)
 have ob2:∀ b∈fp,∃ o,s2.heap.get? b=some o:=fun b hb=>let ⟨o,e,_⟩:=T.obj _ _ st2 b hb;⟨o,e⟩
 have neD:∀ b∈fp,b≠s2.heap.objs.size:=fun b hb=>let ⟨o,e⟩:=ob2 b hb;Nat.ne_of_lt (Heap.lt_size e)
 have f3:∀ b∈fp,gP X pins (upd H2 s2.heap.objs.size (.lst [])) b:=fun b hb=>⟨by rw [ar (neD b hb)];exact(f2 b hb).1,(f2 b hb).2⟩
 have ob3:∀ b∈fp,∃ o,(s2.heap.push { cls:=.type "list",data:=.seq ([]:List Value).toArray }).get? b=some o:=fun b hb=>let ⟨o,e⟩:=ob2 b hb;⟨o,Heap.get?_push_of_some _ e⟩
 have k3:∀ b o,(s2.heap.push { cls:=.type "list",data:=.seq ([]:List Value).toArray }).get? b=some o→h₁.get? b=some o:=fun b o e =>
  hsb₁.extBut b o (Nat.ne_of_lt (Heap.lt_size e)) (Heap.get?_push_of_some _ e)
 have I4:Inv (jF X sc N ⟨_,{ s2 with heap:=s2.heap.push { cls:=.type "list",data:=.seq ([]:List Value).toArray } },upd H2 s2.heap.objs.size (.lst []),fp⟩) [] (rF n ci σ) (upd H2 s2.heap.objs.size (.lst []))
   { s2 with heap:=h₁,toks:=s2.toks+([]:List (Str × Value)).length }:=oP (s:={ s2 with heap:=s2.heap.push { cls:=.type "list",data:=.seq ([]:List Value).toArray } }) S I3 f3 ob3 k3 hns₁
 have st4:tn 0 h₁:=T.keep _ _ _ st2 fun b hb o e=>k3 b o (Heap.get?_push_of_some _ e)
 obtain⟨M,W,w0,turn⟩:=rd ⟨_,{ s2 with heap:=s2.heap.push { cls:=.type "list",data:=.seq ([]:List Value).toArray } },upd H2 s2.heap.objs.size (.lst []),fp⟩ s2.heap.objs.size hD
 obtain⟨bg,bt,be⟩:=hb ⟨_,{ s2 with heap:=s2.heap.push { cls:=.type "list",data:=.seq ([]:List Value).toArray } },upd H2 s2.heap.objs.size (.lst []),fp⟩
 have ok3:=tj S I3 f3 ob3
 have stat:∀ {H':Hp},(∀ b∈fp,H' b=none)→∀ b∈fp,gP (jF X sc N ⟨_,{ s2 with heap:=s2.heap.push { cls:=.type "list",data:=.seq ([]:List Value).toArray } },upd H2 s2.heap.objs.size (.lst []),fp⟩) [] H' b:=fun hn b hb=>by
  obtain⟨_,f1,f2',_,f4,_⟩:=f3 b hb
  refine⟨hn b hb,?_,ok3.exfs b hb,.inl hb,fun x c e=>?_,fun p hp=>absurd hp (by simp)⟩
  ·exact Nat.ne_of_lt (let ⟨o,e⟩:=ob3 b hb;Heap.lt_size e)
  ·exact f4 x c (cQ _ _ (S.nJ I3.ok) (by simp) x c e)
 have loop:codeAny (model X.prog X.w) X.A (.compLoop (.ListComp elt [⟨tg,iter,ifs,0⟩] sc pos) 0 (.ref it) (.ref s2.heap.objs.size) (compEnvC sc (iM X.env sc.names []) (s2.heap.push { cls:=.type "list",data:=.seq ([]:List Value).toArray }).objs.size X.env))
   (compPost (model X.prog X.w) X.A X.xe none (EP X pins σ Q) (.ref s2.heap.objs.size) (s2.heap.push { cls:=.type "list",data:=.seq ([]:List Value).toArray }).objs.size) { s2 with heap:=h₁,toks:=s2.toks+([]:List (Str × Value)).length }:=by
  refine qF (W:=W) (M:=M) (σ0:=rF n ci σ) (Q:=Q) hc T bg bt be (fun {pins' σ' H' s'} J'=>?_) stat I4 st4 (fun b hb=>(f3 b hb).1) w0 turn fun σ' H' s' J' q=>?_
  ·exact qR S I3 f3 J'
  ·obtain⟨m',hn',_⟩:=J'.loc
   refine⟨m',hn',fun h' hs'=>?_⟩
   exact⟨.ref s2.heap.objs.size,H',lA (s:={ s2 with heap:=s2.heap.push { cls:=.type "list",data:=.seq ([]:List Value).toArray } }) I3 f3 J' hs',rfl,q⟩
 exact codeAny_compStart_list loop (T.self _ 0 _ _ _ st4 loop)
end
structure g9(so:Scope)(N0 N:List Str)(n:Nat)(ci:List Nat)(sc:Scope):Prop where
 kind:sc.kind=.function
 nocell:∀ y∈sc.names,y.2≠.cell
 loc:∀ y∈sc.names,y.2=.local→sc.names.lookup y.1=some .local
 fr:∀ y∈sc.names,y.2=.free→so.names.lookup y.1=some .cell∨so.names.lookup y.1=some .free
 len:N.length=n+ci.length
 caps:N.drop n=ci.map fun i=>N0.getD i ⟨#[]⟩
 ins:∀ i∈ci,i<N0.length
 hU:∀ x∈N.drop n,sc.names.lookup x=some .free
theorem g9.of{X:Cx}{so sc:Scope}{N0 N:List Str}{n:Nat}{ci:List Nat}(h:g9 so N0 N n ci sc)(e1:X.env.scope=so:=by rfl)(e2:X.N=N0:=by rfl):dj X N n ci sc where
 kind:=h.kind
 nocell:=h.nocell
 loc:=h.loc
 fr:=fun y hy hf=>by rw [e1];exact h.fr y hy hf
 len:=h.len
 caps:=fun j i e=>by
  have hm:i∈ci:=List.mem_of_getElem? e
  have hi:=h.ins i hm
  have q:(N.drop n)[j]?=some (N0.getD i ⟨#[]⟩):=by rw [h.caps,List.getElem?_map,e];rfl
  refine⟨N0.getD i ⟨#[]⟩,?_,?_,?_⟩
  ·rw [List.getElem?_drop] at q;exact q
  ·rw [e2,List.getD_eq_getElem?_getD,List.getElem?_eq_getElem hi];rfl
  ·exact h.hU _ (List.mem_of_getElem? q)
end L2
end
section
namespace UfSet
open PySem
def dR(w:World):Bool:=w.params.followText "set-order"
abbrev eC(w:World):List Str→List (Int × Value)→Prop:=Paired fun k e=>e.1=hashStr w k∧∃ tk,e.2=.str k tk
def du(w:World)(h:Heap)(a:Addr)(ks:List Str):Prop :=
 ∃ o es ep t ks',h.get? a=some o∧o.ExactSet∧o.data=.set es ep t∧eC w ks' es.toList∧ks'.Perm ks∧ks.Nodup ∧
  es.size<scanBound∧t.fits es.size=true∧(t.plain=true→es.size=0)∧t.led = !dR w
theorem eC.elems{prog:Program}{w:World}:∀ {ks:List Str} {es:List (Int × Value)},eC w ks es→ElemsOf (strKind prog w) es
 | _,_,.nil=>fun e he=>by simp at he
 | _,_,.cons (a:=k) (b:=e) h t=>fun x hx=>by
  rcases List.mem_cons.mp hx with rfl | hx
  ·obtain⟨h1,tk,h2⟩:=h
   refine⟨⟨k,?_,h1⟩,?_⟩
   ·show Value.isStrOf k x.2=true
    rw [h2];simp [Value.isStrOf]
   ·rw [h2];rfl
  ·exact eC.elems (prog:=prog) t x hx
theorem eC.mem{w:World}{k:Str}:∀ {ks:List Str} {es:List (Int × Value)},eC w ks es→(k∈ks↔∃ e∈es,Value.isStrOf k e.2=true)
 | _,_,.nil=>by simp
 | _,_,.cons (a:=j) (b:=e) h t=>by
  obtain⟨h1,tk,h2⟩:=h
  have ih:=eC.mem (k:=k) t
  have hd:Value.isStrOf k e.2=true↔k=j:=by
   rw [h2]
   constructor
   ·intro q
    obtain⟨u,hu⟩:=Value.isStrOf_shape q
    injection hu with hx _
    exact hx.symm
   ·rintro rfl;simp [Value.isStrOf]
  rw [List.mem_cons,ih]
  constructor
  ·rintro(q | ⟨x,hx,q⟩)
   ·exact⟨e,List.mem_cons_self,hd.mpr q⟩
   ·exact⟨x,List.mem_cons_of_mem _ hx,q⟩
  ·rintro⟨x,hx,q⟩
   rcases List.mem_cons.mp hx with rfl | hx
   ·exact .inl (hd.mp q)
   ·exact .inr ⟨x,hx,q⟩
theorem eC.perm{w:World}{es es':List (Int × Value)}(p:List.Perm es' es):∀ {ks:List Str},eC w ks es→∃ ks',eC w ks' es'∧ks'.Perm ks:=by
 have back:∀ {es es':List (Int × Value)},List.Perm es es'→∀ {ks:List Str},eC w ks es→∃ ks',eC w ks' es'∧ks'.Perm ks:=by
  intro es es' p
  induction p with
  | nil=>intro ks h;exact⟨ks,h,.refl _⟩
  | cons x _ ih =>
   intro ks h
   cases h with
   | cons h t =>
    obtain⟨ks',h',q⟩:=ih t
    exact⟨_::ks',.cons h h',q.cons _⟩
  | swap x y l =>
   intro ks h
   cases h with
   | cons h t =>
    cases t with
    | cons h2 t=>exact⟨_,.cons h2 (.cons h t),.swap _ _ _⟩
  | trans _ _ ih1 ih2 =>
   intro ks h
   obtain⟨k1,h1,q1⟩:=ih1 h
   obtain⟨k2,h2,q2⟩:=ih2 h1
   exact⟨k2,h2,q2.trans q1⟩
 intro ks h
 exact back p.symm h
theorem eC.snoc{w:World}{k:Str}{tk:Tok}:∀ {ks:List Str} {es:List (Int × Value)},eC w ks es→eC w (ks++[k]) (es++[(hashStr w k,Value.str k tk)])
 | _,_,.nil=>.cons ⟨rfl,tk,rfl⟩ .nil
 | _,_,.cons h t=>.cons h (eC.snoc t)
theorem eC.len{w:World}{ks:List Str}{es:List (Int × Value)}(h:eC w ks es):ks.length=es.length:=Paired.length h
theorem tU(t:SetTable)(es:Array (Int × Value))(h:Int)(x:Value):(layNew t es h x).2.1.led=t.led:=by
 unfold layNew
 split
 ·show(SetTable.orStandIn _ _).led=_
  unfold SetTable.orStandIn
  split <;> rfl
 ·rfl
theorem pH(t:SetTable)(es:Array (Int × Value))(h:Int)(x:Value):(layNew t es h x).2.1.plain=true→t.plain=true:=by
 unfold layNew
 split
 ·show(SetTable.orStandIn _ _).plain=true→_
  unfold SetTable.orStandIn
  split
  ·exact id
  ·intro q;cases q
 ·intro q;cases q
theorem p7(t:SetTable)(es:Array (Int × Value))(n:Nat):(relayAll t es n).2.1.led=t.led:=by
 unfold relayAll
 split
 ·rename_i t' order hr
  dsimp only
  split
  ·unfold SetTable.relaid SetTable.laid at hr
   simp only [Option.bind_eq_bind,Option.bind_eq_some_iff] at hr
   obtain⟨ow,_,hr⟩:=hr
   cases hr
   rfl
  ·rfl
 ·rfl
theorem mf(t:SetTable)(es:Array (Int × Value))(n:Nat):(relayAll t es n).2.1.plain=true→t.plain=true:=by
 unfold relayAll
 split
 ·rename_i t' order hr
  dsimp only
  split
  ·unfold SetTable.relaid SetTable.laid at hr
   simp only [Option.bind_eq_bind,Option.bind_eq_some_iff] at hr
   obtain⟨ow,_,hr⟩:=hr
   cases hr
   exact id
  ·intro q;cases q
 ·intro q;cases q
section
variable {prog:Program}{w:World}{A:Around}{E:Value→Shared→Prop}{s:Shared}
theorem zj{h:Heap}{a:Addr}{o:Obj}{es es':Array (Int × Value)}{ep:Nat}{t t':SetTable}(ho:h.get? a=some o)(hd:o.data=.set es ep t) :
  (h.update a (Obj.putSet es' t')).get? a=some { o with data:=.set es' (ep+1) t' }:=by
 have q:=Heap.get?_update_self (Obj.putSet es' t') ho (by rw [putSet_of es' t' hd];rfl)
 rw [putSet_of es' t' hd] at q
 exact q
theorem uA{g:Bool→Sem Unit}(hg:∀ (b:Bool) (s₁:Shared) (Q':Unit→Shared→Prop),Q' () s₁→wpAny (model prog w) A (g b) Q' E s₁){a:Addr}{o:Obj}{es es1:Array (Int × Value)}{ep:Nat}{t t2:SetTable}
  {ks ks1:List Str} {dm:Bool} {R:Option Bool→Shared→Prop} (ho:s.heap.get? a=some o) (hex:o.ExactSet) (hd:o.data=.set es ep t) (he:eC w ks1 es1.toList) (hp:ks1.Perm ks) (hn:ks.Nodup)
  (hb:es1.size<scanBound) (hf:t2.fits es1.size=true) (hpl:t2.plain=false) (hle:t2.led = !dR w)
  (h:∀ h',Heap.SameBut a s.heap h'→du w h' a ks→R (some true) { s with heap:=h' }) :
  wpAny (model prog w) A (do
    storeSet a es1 t2
    if (!dm&&t2.tooFull)=true then do
      g (relayAll t2 es1 (SetTable.grown es1.size)).2.2
      storeSet a (relayAll t2 es1 (SetTable.grown es1.size)).1 (relayAll t2 es1 (SetTable.grown es1.size)).2.1
      pure (some true)
     else pure (some true)) R E s:=by
 refine wpAny_bind (wpAny_storeSet_of ho hd ?_ (fits_of_scanBound hb))
 have ho1:=zj (es':=es1) (t':=t2) ho hd
 have sb1:=Heap.SameBut.update s.heap a (Obj.putSet es1 t2)
 by_cases hc:(!dm&&t2.tooFull)=true
 ·rw [if_pos hc]
  have q1:=relayAll_perm t2 es1 (SetTable.grown es1.size)
  have q2:=relayAll_fits t2 es1 (SetTable.grown es1.size)
  have q3:=p7 t2 es1 (SetTable.grown es1.size)
  have q4:=mf t2 es1 (SetTable.grown es1.size)
  generalize relayAll t2 es1 (SetTable.grown es1.size)=L at q1 q2 q3 q4 ⊢
  obtain⟨es2,t3,gave⟩:=L
  dsimp only at q1 q2 q3 q4 ⊢
  have zs:es2.size=es1.size:=by rw [← Array.length_toList,q1.length_eq,Array.length_toList]
  refine wpAny_bind (hg _ _ _ ?_)
  refine wpAny_bind (wpAny_storeSet_of ho1 rfl ?_ (fits_of_scanBound (by rw [zs];exact hb)))
  have ho2:=zj (es':=es2) (t':=t3) ho1 rfl
  obtain⟨ks2,e2,p2⟩:=he.perm q1
  refine wpAny_pure (h _ (sb1.trans (Heap.SameBut.update _ a _)) ⟨_,es2,ep+1+1,t3,ks2,ho2,hex,rfl,e2,p2.trans hp,hn,by rw [zs];exact hb,q2,fun z=>?_,q3.trans hle⟩)
  rw [hpl] at q4
  exact absurd (q4 z) Bool.false_ne_true
 ·rw [if_neg hc]
  exact wpAny_pure (h _ sb1 ⟨_,es1,ep+1,t2,ks1,ho1,hex,rfl,he,hp,hn,hb,hf,fun z=>(by rw [hpl] at z;cases z),hle⟩)
def dY(ks:List Str)(k:Str):List Str:=if k∈ks then ks else ks++[k]
theorem gQ{ks:List Str}{k:Str}(h:ks.Nodup):(dY ks k).Nodup:=by
 unfold dY
 split
 ·exact h
 ·rename_i q
  refine List.nodup_append.mpr ⟨h,by simp,fun a ha b hb=>?_⟩
  have:b=k:=by simpa using hb
  subst this
  rintro rfl
  exact q ha
theorem kH(ks:List Str)(k:Str):(dY ks k).length≤ks.length+1:=by
 unfold dY
 split
 ·lia
 ·simp
theorem um{a:Addr}{ks:List Str}{k:Str}{tk:Tok}{Q:Bool→Shared→Prop}(hS:du w s.heap a ks)(hroom:ks.length+1<scanBound)
  (h:∀ (h':Heap) (b:Bool),Heap.SameBut a s.heap h'→du w h' a (dY ks k)→Q b { s with heap:=h' }):wpAny (model prog w) A (setAddHashed a (.str k tk) (hashStr w k)) Q E s:=by
 obtain⟨o,es,ep,t,ks',ho,hex,hd,he,hp,hn,hb,hf,hpl,hle⟩:=hS
 have hel:ElemsOf (strKind prog w) es.toList:=he.elems
 have hkey:(strKind prog w).is k (.str k tk)=true:=by simp [strKind,Value.isStrOf]
 have hsc:(Value.str k tk).scannable=true:=rfl
 have szl:es.size=ks.length:=by rw [← hp.length_eq,he.len,Array.length_toList]
 unfold setAddHashed setAddHashedIn
 refine wpAny_holding (wpAny_bind (wpAny_setState_of ho hd hf ?_))
 dsimp only
 rw [byScan_of hsc hb hel]
 simp only [↓reduceIte]
 unfold setAddByScan
 refine wpAny_bind ?_
 refine wpAny_bind (wpAny_rule ?_)
 refine wpAny_bind (wpAny_setScan_of (knd:=strKind prog w) hkey ho hd hf hel ?_)
 cases hr:List.findIdx? (fun e=>(strKind prog w).is k e.2) es.toList with
 | some j =>
  dsimp only
  obtain⟨hj,hpj,_⟩:=List.findIdx?_eq_some_iff_getElem.mp hr
  have hin:k∈ks:=hp.mem_iff.mp (he.mem.mpr ⟨es.toList[j],List.getElem_mem hj,hpj⟩)
  refine wpAny_pure (wpAny_pure ?_)
  have e:s={ s with heap:=s.heap }:=by cases s;rfl
  rw [e]
  refine h s.heap _ (Heap.SameBut.refl a s.heap) ?_
  unfold dY
  rw [if_pos hin]
  exact⟨o,es,ep,t,ks',ho,hex,hd,he,hp,hn,hb,hf,hpl,hle⟩
 | none =>
  dsimp only
  have hout:¬ k∈ks:=fun z=>by
   obtain⟨e,he',q⟩:=he.mem.mp (hp.mem_iff.mpr z)
   have:=List.findIdx?_eq_none_iff.mp hr e he'
   rw [show(strKind prog w).is k e.2=Value.isStrOf k e.2 from rfl,q] at this
   cases this
  have gw:∀ (b:Bool) {s₁:Shared} {Q':Unit→Shared→Prop},Q' () s₁→wpAny (model prog w) A (match b with | true=>rule "set.scan.the-table-gave-way" | false=>pure ()) Q' E s₁:=fun b s₁ Q' hq=>by
   cases b with
   | true=>exact wpAny_rule hq
   | false=>exact wpAny_pure hq
  have q1:=layNew_perm t es (hashStr w k) (.str k tk)
  have q2:=layNew_fits t es (hashStr w k) (.str k tk)
  have q3:=tU t es (hashStr w k) (.str k tk)
  have q4:=pH t es (hashStr w k) (.str k tk)
  have hsame:(strKind prog w).hash k=hashStr w k:=rfl
  generalize layNew t es (hashStr w k) (.str k tk)=L at q1 q2 q3 q4 ⊢
  obtain⟨es1,t1,dm,gave⟩:=L
  dsimp only at q1 q2 q3 q4 ⊢
  rw [Array.toList_push] at q1
  obtain⟨ks1,e1,p1⟩:=(he.snoc (k:=k) (tk:=tk)).perm q1
  have p2:ks1.Perm (dY ks k):=by
   unfold dY
   rw [if_neg hout]
   exact p1.trans (hp.append_right _)
  have z1:es1.size=ks.length+1:=by rw [← Array.length_toList,← e1.len,p1.length_eq,List.length_append,hp.length_eq];rfl
  have b1:es1.size<scanBound:=by rw [z1];exact hroom
  refine wpAny_bind (gw _ ?_)
  by_cases hpt:t1.plain=true
  ·rw [if_pos hpt]
   refine wpAny_bind ?_
   rw [hashByValue_scannable 8 hsc]
   refine wpAny_pure ?_
   refine uA (o:=o) (ks:=dY ks k) ?_ ho hex hd e1 p2 (gQ hn) b1 ?_ ?_ ?_ ?_
   ·intro b s₁ Q' hq;exact gw b hq
   ·exact SetTable.fits_plain_off q2
   ·rfl
   ·exact q3.trans hle
   ·intro h' sb hS';dsimp only;exact wpAny_pure (h h' _ sb hS')
  ·rw [if_neg hpt]
   refine wpAny_bind (wpAny_pure ?_)
   simp only [↓reduceIte]
   refine uA (o:=o) (ks:=dY ks k) ?_ ho hex hd e1 p2 (gQ hn) b1 q2 (by simpa using hpt) (q3.trans hle) ?_
   ·intro b s₁ Q' hq;exact gw b hq
   ·intro h' sb hS';dsimp only;exact wpAny_pure (h h' _ sb hS')
end
end UfSet
end
section
namespace UfSet
open PySem
theorem cT:Slot "set_iterator" "__next__" "set_iterator.__next__" :=
 .of (owner:="set_iterator") (n:="__next__") (by rw [typeLookup_type,builtinLookup_eq_fast];kernel_rfl) (by decide +kernel) (by decide +kernel) (by decide +kernel)
  (by first | exact .inl (by decide +kernel) | exact .inr (by decide +kernel)) (by rw [isSubtype_type];kernel_rfl)
theorem jt:Slot "set_iterator" "__iter__" "set_iterator.__iter__" :=
 .of (owner:="set_iterator") (n:="__iter__") (by rw [typeLookup_type,builtinLookup_eq_fast];kernel_rfl) (by decide +kernel) (by decide +kernel) (by decide +kernel)
  (by first | exact .inl (by decide +kernel) | exact .inr (by decide +kernel)) (by rw [isSubtype_type];kernel_rfl)
theorem iY:entryFor table "set_iterator.__next__"=some Builtin.«set_iterator.__next__»:=entryFor_of_fast (by kernel_rfl)
theorem nH:entryFor table "set_iterator.__iter__"=some Builtin.«dict_keyiterator.__iter__» :=
 entryFor_alias (id' := "dict_keyiterator.__iter__") (by kernel_rfl) rfl (by decide +kernel) (by kernel_rfl)
theorem jr(a:Value):argsOk "set_iterator.__next__" ⟨[a],[]⟩:=by unfold argsOk;kernel_rfl
theorem qA(a:Value):argsOk "set_iterator.__iter__" ⟨[a],[]⟩:=by unfold argsOk;kernel_rfl
theorem pZ:entryFor table "set.__iter__"=some Builtin.«frozenset.__iter__» :=
 entryFor_alias (id' := "frozenset.__iter__") (by kernel_rfl) rfl (by decide +kernel) (by kernel_rfl)
end UfSet
end
section
namespace UfSet
open PySem
theorem i9{α:Type}:∀ (xs:List α) (i:Nat) (h:i<xs.length),(xs[i]::xs.eraseIdx i).Perm xs
 | [],i,h=>absurd h (by simp)
 | x::xs,0,h=>.refl _
 | x::xs,i+1,h=>by
  have ih:=i9 xs i (by simpa using h)
  show((xs[i]'(by simpa using h))::x::xs.eraseIdx i).Perm (x::xs)
  exact(List.Perm.swap _ _ _).trans (ih.cons x)
def dO(a:Addr)(n ep:Nat)(first:Value)(i:Nat):Obj:={ cls:=.type "set_iterator",data:=.fields #[first,.int i 0,.ref a,.int n 0,.int ep 0] }
section
variable {prog:Program}{w:World}{A:Around}{E:Value→Shared→Prop}{s:Shared}
theorem tK{src:Source}{n:Nat}{Q:Nat→Shared→Prop}(hn:n≠0)(h:∀ x d,x<n→Q x { s with drawn:=d }):wpAny (model prog w) A (choose src n) Q E s:=by
 intro Γ p _
 show Sem.wp _ Γ (.choose src n .pure) _ _ p s
 rw [Sem.wp_choose]
 refine⟨hn,?_⟩
 simp only [Sem.wp_pure]
 exact h _ _ (Nat.mod_lt _ (Nat.pos_of_ne_zero hn))
theorem rP{α:Type}:∀ (n:Nat) (xs:List α) (s:Shared) {Q:List α→Shared→Prop},xs.length=n→(∀ ys d,ys.Perm xs→Q ys { s with drawn:=d })→wpAny (model prog w) A (drawOrder n xs) Q E s
 | 0,xs,s,Q,hl,h=>by
  have:xs=[]:=List.eq_nil_of_length_eq_zero hl
  subst this
  exact wpAny_pure (h [] s.drawn (.refl _))
 | n+1,[],s,Q,hl,h=>by simp at hl
 | n+1,x::xs,s,Q,hl,h=>by
  show wpAny _ _ (choose .order (x::xs).length >>= fun i=>match (x::xs)[i]? with | some y=>(do return y::(← drawOrder n ((x::xs).eraseIdx i))) | none=>unsupported "internal:drawOrder") _ _ s
  refine wpAny_bind (tK (by simp) fun i d hi=>?_)
  have e:(x::xs)[i]?=some (x::xs)[i]:=List.getElem?_eq_getElem hi
  rw [e]
  dsimp only
  refine wpAny_bind (rP n _ _ (by rw [List.length_eraseIdx,if_pos hi];lia) fun ys d' p=>wpAny_pure ?_)
  exact h _ d' ((p.cons _).trans (i9 _ _ hi))
theorem mX{it a:Addr}{n ep i:Nat}{first:Value}{x:Value}{Q:Option Value→Shared→Prop}(ho:s.heap.get? it=some (dO a n ep first i))
  (h:wpAny (model prog w) A.in1 (Builtin.«set_iterator.__next__» ⟨[.ref it],[]⟩) (fun fin s'=>fin=.done (.ret x)∧Q (some x) s') (fun _ _=>False) s):wpAny (model prog w) A (pyNext (.ref it)) Q E s:=by
 have hT:s.TypeIs (.ref it) "set_iterator":=⟨_,ho,rfl⟩
 unfold pyNext
 refine wpAny_bind (wpAny_attempt (wpAny_callSpecial?_slot (name:=Str.ofString "__next__") hT cT (wpAny_call_entry cT hT iY ?_ (jr _))))
 refine wpAny_mono h (fun fin s' hq=>?_) fun _ _ z=>z.elim
 obtain⟨rfl,hq⟩:=hq
 exact⟨x,rfl,wpAny_pure hq⟩
theorem eS{h:Heap}{it a:Addr}{n ep i:Nat}{first:Value}{k:Nat}{x:Value}(ho:h.get? it=some (dO a n ep first i)) :
  (h.update it (Obj.mapFields (·.setIfInBounds k x))).get? it=some { dO a n ep first i with data:=.fields ((#[first,.int i 0,.ref a,.int n 0,.int ep 0]:Array Value).setIfInBounds k x) } :=
 Heap.get?_update_self _ ho rfl
theorem pR{it a:Addr}{n ep i:Nat}{first:Value}{Q:Option Value→Shared→Prop}(hh:A.handled=none)(ho:s.heap.get? it=some (dO a n ep first i))
  (h:∀ {Q' : Fin→Shared→Prop} {E' : Value→Shared→Prop},(∀ h',Heap.SameBut it s.heap h'→wpAny (model prog w) A.in1 (do raiseNew (← newExc (.type "StopIteration") [])) Q' E' { s with heap:=h' }) →
   wpAny (model prog w) A.in1 (Builtin.«set_iterator.__next__» ⟨[.ref it],[]⟩) Q' E' s)
  (hQ:∀ h',Heap.ExtBut it s.heap h'→Q none { s with heap:=h' }):wpAny (model prog w) A (pyNext (.ref it)) Q E s:=by
 have hT:s.TypeIs (.ref it) "set_iterator":=⟨_,ho,rfl⟩
 unfold pyNext
 refine wpAny_bind (wpAny_attempt (wpAny_callSpecial?_slot (name:=Str.ofString "__next__") hT cT (wpAny_call_entry cT hT iY ?_ (jr _))))
 refine h fun h1 sb=>?_
 refine wpAny_bind ?_
 simp only [newExc,newTuple]
 refine wpAny_bind (wpAny_newObj_type ?_ (by size_fits))
 refine wpAny_bind (m:=firstArgMember _ _) (wpAny_of_eq (a:=Value.none) (by first | rfl | (simp only [firstArgMember];rfl)) ?_)
 refine wpAny_newObj_type ?_ (by size_fits)
 simp only [raiseNew]
 refine wpAny_bind (wpAny_handled ?_)
 have hh1:A.in1.handled=none:=hh
 rw [hh1]
 refine wpAny_bind (wpAny_pure (wpAny_throw ?_))
 refine wpAny_bind (wpAny_isInstance (T:="StopIteration") (b:=true) ⟨_,Heap.get?_push_size _ rfl,rfl⟩ isSubtype_stop ?_)
 exact wpAny_pure (hQ _ ((sb.extBut.push _).push _))
section
variable {it a T:Addr}{o oT:Obj}{es:Array (Int × Value)}{ep i:Nat}{t:SetTable}{pl:List Nat}{c:Nat}
theorem tO{p:Nat}{hx:Int}{x:Value}{Q:Option Value→Shared→Prop}(ho:s.heap.get? it=some (dO a es.size ep (.ref T) i))(ha:s.heap.get? a=some o)(hd:o.data=.set es ep t)(hf:t.fits es.size=true)
  (hT:s.heap.get? T=some oT) (hTd:oT.data=.seq (pl.map fun(j:Nat)=>Value.int j 0).toArray c) (hp:pl[i]?=some p) (hx:es[p]?=some (hx,x))
  (h:∀ h',h'.get? it=some (dO a es.size ep (.ref T) (i+1))→Heap.SameBut it s.heap h'→Q (some x) { s with heap:=h' }):wpAny (model prog w) A (pyNext (.ref it)) Q E s:=by
 refine mX (x:=x) ho ?_
 unfold Builtin.«set_iterator.__next__»
 show wpAny _ _ (fieldsOf (.ref it) >>= _) _ _ s
 refine wpAny_bind (wpAny_fieldsOf ho rfl ?_)
 dsimp only
 refine wpAny_bind (wpAny_setEntries_of ha hd hf ?_)
 rw [if_neg (by simp)]
 show wpAny _ _ (seqItems? (.ref T) >>= _) _ _ s
 refine wpAny_bind (wpAny_seqItems hT hTd ?_)
 dsimp only
 have e1:((pl.map fun(j:Nat)=>Value.int j 0).toArray)[i]?=some (.int p 0):=by simp [hp]
 simp only [Int.toNat_natCast,e1]
 unfold setNextDrawn
 refine wpAny_bind (wpAny_bind (wpAny_setState_of ha hd hf ?_))
 dsimp only
 rw [if_neg (by simp)]
 simp only [hx]
 refine wpAny_pure ?_
 refine wpAny_bind (wpAny_setField ho rfl (by simp) (wpAny_pure ⟨rfl,h _ ?_ (Heap.SameBut.update ..)⟩))
 rw [eS ho]
 simp [dO,rawInt]
theorem wZ{Q:Option Value→Shared→Prop}(hh:A.handled=none)(ho:s.heap.get? it=some (dO a es.size ep (.ref T) i))(ha:s.heap.get? a=some o)(hd:o.data=.set es ep t)(hf:t.fits es.size=true)
  (hT:s.heap.get? T=some oT) (hTd:oT.data=.seq (pl.map fun(j:Nat)=>Value.int j 0).toArray c) (hp:pl[i]?=none)
  (h:∀ h',Heap.ExtBut it s.heap h'→Q none { s with heap:=h' }):wpAny (model prog w) A (pyNext (.ref it)) Q E s:=by
 refine pR hh ho (fun {Q' E'} hq=>?_) h
 unfold Builtin.«set_iterator.__next__»
 show wpAny _ _ (fieldsOf (.ref it) >>= _) _ _ s
 refine wpAny_bind (wpAny_fieldsOf ho rfl ?_)
 dsimp only
 refine wpAny_bind (wpAny_setEntries_of ha hd hf ?_)
 rw [if_neg (by simp)]
 show wpAny _ _ (seqItems? (.ref T) >>= _) _ _ s
 refine wpAny_bind (wpAny_seqItems hT hTd ?_)
 dsimp only
 have e1:((pl.map fun(j:Nat)=>Value.int j 0).toArray)[i]?=none:=by simpa using hp
 simp only [Int.toNat_natCast,e1]
 refine wpAny_bind (wpAny_setField ho rfl (by simp) ?_)
 refine wpAny_bind (wpAny_setField (eS ho) rfl (by simp) ?_)
 exact hq _ ((Heap.SameBut.update ..).trans (Heap.SameBut.update ..))
end
theorem vc{α:Type}{next:Nat→Nat}:∀ (n k:Nat) (left:List α) (out:Array α),left.length=n→∃ ys:List α,ys.Perm left∧(pickOrder.go next n k left out).toList=out.toList++ys
 | 0,k,left,out,hl=>by
  have:left=[]:=List.eq_nil_of_length_eq_zero hl
  subst this
  exact⟨[],.refl _,by simp [pickOrder.go]⟩
 | n+1,k,left,out,hl=>by
  have hlt:next k % left.length<left.length:=Nat.mod_lt _ (by lia)
  obtain⟨ys,q1,q2⟩:=vc (next:=next) n (k+1) (left.eraseIdx (next k % left.length)) (out.push left[next k % left.length]) (by rw [List.length_eraseIdx,if_pos hlt];lia)
  refine⟨left[next k % left.length]::ys,(q1.cons _).trans (i9 _ _ hlt),?_⟩
  unfold pickOrder.go
  rw [List.getElem?_eq_getElem hlt]
  dsimp only
  rw [q2,Array.toList_push,List.append_assoc]
  rfl
theorem wM{α:Type}(next:Nat→Nat)(xs:Array α):(pickOrder next xs).toList.Perm xs.toList:=by
 obtain⟨ys,q1,q2⟩:=vc (next:=next) xs.size 0 xs.toList #[] (by simp)
 unfold pickOrder
 rw [q2]
 simpa using q1
section
variable {it a:Addr}{o:Obj}{es:Array (Int × Value)}{ep i:Nat}{t:SetTable}
theorem i4{Q:Option (Value × Nat)→Shared→Prop}{sl g:Nat}(hb:dR w=true)(ha:s.heap.get? a=some o)(hd:o.data=.set es ep t)(hf:t.fits es.size=true)
  (h:Q (((pickOrder (w.params.setOrder a ep) es)[g]?).map fun e=>(e.2,sl)) s):wpAny (model prog w) A (setNext a sl g ep) Q E s:=by
 unfold setNext
 refine wpAny_bind (wpAny_setState_of ha hd hf ?_)
 dsimp only
 refine wpAny_bind ?_
 unfold setsByText
 refine wpAny_bind (wpAny_askSetting (wpAny_pure ?_))
 have key:∀ {α:Type} (x y:Sem α),(if (⟨(model prog w).prog,(model prog w).w.params⟩:Setting).params.followText "set-order"=true then x else y)=x:=fun x y=>if_pos hb
 rw [key,if_neg (by simp)]
 refine wpAny_bind ?_
 unfold setWalk
 refine wpAny_bind (wpAny_setState_of ha hd hf ?_)
 dsimp only
 refine wpAny_bind ?_
 unfold setsByText
 refine wpAny_bind (wpAny_askSetting (wpAny_pure ?_))
 rw [key]
 refine wpAny_bind (wpAny_askSetting (wpAny_pure ?_))
 exact wpAny_pure h
theorem vW{hx:Int}{x:Value}{Q:Option Value→Shared→Prop}(hb:dR w=true)(ho:s.heap.get? it=some (dO a es.size ep (.int 0 0) i))(ha:s.heap.get? a=some o)(hd:o.data=.set es ep t)(hf:t.fits es.size=true)
  (hp:(pickOrder (w.params.setOrder a ep) es)[i]?=some (hx,x))
  (h:∀ h',h'.get? it=some (dO a es.size ep (.int 0 0) (i+1))→Heap.SameBut it s.heap h'→Q (some x) { s with heap:=h' }):wpAny (model prog w) A (pyNext (.ref it)) Q E s:=by
 refine mX (x:=x) ho ?_
 unfold Builtin.«set_iterator.__next__»
 show wpAny _ _ (fieldsOf (.ref it) >>= _) _ _ s
 refine wpAny_bind (wpAny_fieldsOf ho rfl ?_)
 dsimp only
 refine wpAny_bind (wpAny_setEntries_of ha hd hf ?_)
 rw [if_neg (by simp)]
 refine wpAny_bind (i4 (sl:=0) (g:=i) hb ha hd hf ?_)
 rw [Int.toNat_natCast,hp]
 dsimp only [Option.map]
 refine wpAny_bind (wpAny_setField ho rfl (by simp) ?_)
 refine wpAny_bind (wpAny_setField (eS ho) rfl (by simp) (wpAny_pure ⟨rfl,h _ ?_ ((Heap.SameBut.update ..).trans (Heap.SameBut.update ..))⟩))
 rw [Heap.get?_update_self _ (eS ho) rfl]
 simp [dO,rawInt,Obj.mapFields]
theorem xA{Q:Option Value→Shared→Prop}(hh:A.handled=none)(hb:dR w=true)(ho:s.heap.get? it=some (dO a es.size ep (.int 0 0) i))(ha:s.heap.get? a=some o)(hd:o.data=.set es ep t)(hf:t.fits es.size=true)
  (hp:(pickOrder (w.params.setOrder a ep) es)[i]?=none)
  (h:∀ h',Heap.ExtBut it s.heap h'→Q none { s with heap:=h' }):wpAny (model prog w) A (pyNext (.ref it)) Q E s:=by
 refine pR hh ho (fun {Q' E'} hq=>?_) h
 unfold Builtin.«set_iterator.__next__»
 show wpAny _ _ (fieldsOf (.ref it) >>= _) _ _ s
 refine wpAny_bind (wpAny_fieldsOf ho rfl ?_)
 dsimp only
 refine wpAny_bind (wpAny_setEntries_of ha hd hf ?_)
 rw [if_neg (by simp)]
 refine wpAny_bind (i4 (sl:=0) (g:=i) hb ha hd hf ?_)
 rw [Int.toNat_natCast,hp]
 dsimp only [Option.map]
 refine wpAny_bind (wpAny_setField ho rfl (by simp) ?_)
 exact hq _ (Heap.SameBut.update ..)
end
section
variable {it a:Addr}{o:Obj}{es:Array (Int × Value)}{ep i sl:Nat}{t:SetTable}
theorem jo{Q:Option (Value × Nat)→Shared→Prop}{g:Nat}(hb:dR w=false)(hl:t.led=true)(h1:es.size≤1)(ha:s.heap.get? a=some o)(hd:o.data=.set es ep t)(hf:t.fits es.size=true)
  (h:Q (match es[SetTable.below t.place sl]?,t.place[SetTable.below t.place sl]? with | some (_,x),some j=>some (x,j+1) | _,_=>none) s):wpAny (model prog w) A (setNext a sl g ep) Q E s:=by
 unfold setNext
 refine wpAny_bind (wpAny_setState_of ha hd hf ?_)
 dsimp only
 refine wpAny_bind ?_
 unfold setsByText
 refine wpAny_bind (wpAny_askSetting (wpAny_pure ?_))
 have hb':w.params.followText "set-order"=false:=hb
 have h2:¬ es.size > 1:=by lia
 simp only [model,hb',Bool.false_eq_true,if_false]
 rw [if_neg (by show ¬((!t.plain&&decide (es.size > 1))=true);simp [h2])]
 refine wpAny_bind ?_
 show wpAny _ _ (if (!t.led && !es.isEmpty)=true then unsupported "set:maker-not-led" else pure ()) _ _ s
 rw [hl]
 exact wpAny_pure (wpAny_pure h)
theorem vI(hf:t.fits es.size=true)(h1:es.size=1):∃ j,t.place = #[j]:=by
 have q:t.place.size=1:=by
  have:=(Bool.and_eq_true_iff.mp (show(t.place.size==es.size&&decide (t.fill≤t.mask))=true from hf)).1
  rw [h1] at this
  simpa using this
 generalize t.place=pl at q
 obtain⟨l⟩:=pl
 have q':l.length=1:=q
 match l,q' with
 | [j],_=>exact⟨j,rfl⟩
theorem qW(j:Nat):SetTable.below #[j] 0=0:=by
 unfold SetTable.below
 simp [SetTable.below.go]
theorem sO(j:Nat):SetTable.below #[j] (j+1)=1:=by
 unfold SetTable.below
 simp [SetTable.below.go]
def xg(t:SetTable)(n i sl:Nat):Prop:=(i=0∧sl=0)∨(i=1∧n=1∧∃ j,t.place = #[j]∧sl=j+1)
theorem zd{hx:Int}{x:Value}{Q:Option Value→Shared→Prop}(hb:dR w=false)(hl:t.led=true)(h1:es.size=1)(ho:s.heap.get? it=some (dO a es.size ep (.int 0 0) 0))(ha:s.heap.get? a=some o)(hd:o.data=.set es ep t)(hf:t.fits es.size=true)
  (hp:es[0]?=some (hx,x))
  (h:∀ h' sl,xg t es.size 1 sl→h'.get? it=some (dO a es.size ep (.int sl 0) 1)→Heap.SameBut it s.heap h'→Q (some x) { s with heap:=h' }):wpAny (model prog w) A (pyNext (.ref it)) Q E s:=by
 obtain⟨j,hj⟩:=vI hf h1
 refine mX (x:=x) ho ?_
 unfold Builtin.«set_iterator.__next__»
 show wpAny _ _ (fieldsOf (.ref it) >>= _) _ _ s
 refine wpAny_bind (wpAny_fieldsOf ho rfl ?_)
 dsimp only
 refine wpAny_bind (wpAny_setEntries_of ha hd hf ?_)
 rw [if_neg (by simp)]
 refine wpAny_bind (jo (sl:=0) (g:=0) hb hl (by lia) ha hd hf ?_)
 rw [hj,qW,hp]
 show wpAny _ _ (setField (.ref it) 0 (rawInt ((j+1:Nat):Int)) >>= fun _=>setField (.ref it) 1 (rawInt (((0:Nat):Int)+1)) >>= fun _=>ret x) _ _ s
 refine wpAny_bind (wpAny_setField ho rfl (by simp) ?_)
 refine wpAny_bind (wpAny_setField (eS ho) rfl (by simp) (wpAny_pure ⟨rfl,h _ (j+1) (.inr ⟨rfl,h1,j,hj,rfl⟩) ?_ ((Heap.SameBut.update ..).trans (Heap.SameBut.update ..))⟩))
 rw [Heap.get?_update_self _ (eS ho) rfl]
 simp [dO,rawInt,Obj.mapFields]
theorem zx{Q:Option Value→Shared→Prop}(hh:A.handled=none)(hb:dR w=false)(hl:t.led=true)(h1:es.size≤1)(hat:xg t es.size i sl)(hi:es.size≤i)(ho:s.heap.get? it=some (dO a es.size ep (.int sl 0) i))(ha:s.heap.get? a=some o)(hd:o.data=.set es ep t)
  (hf:t.fits es.size=true) (h:∀ h',Heap.ExtBut it s.heap h'→Q none { s with heap:=h' }):wpAny (model prog w) A (pyNext (.ref it)) Q E s:=by
 refine pR hh ho (fun {Q' E'} hq=>?_) h
 unfold Builtin.«set_iterator.__next__»
 show wpAny _ _ (fieldsOf (.ref it) >>= _) _ _ s
 refine wpAny_bind (wpAny_fieldsOf ho rfl ?_)
 dsimp only
 refine wpAny_bind (wpAny_setEntries_of ha hd hf ?_)
 rw [if_neg (by simp)]
 refine wpAny_bind (jo (sl:=sl) (g:=i) hb hl h1 ha hd hf ?_)
 have key:(match es[SetTable.below t.place sl]?,t.place[SetTable.below t.place sl]? with | some (_,x),some j=>some (x,j+1) | _,_=>none)=(none:Option (Value × Nat)):=by
  rcases hat with⟨rfl,rfl⟩ | ⟨rfl,hn,j,hj,rfl⟩
  ·have e0:es = #[]:=by
    have:es.size=0:=by lia
    exact Array.eq_empty_of_size_eq_zero this
   subst e0
   simp
  ·rw [hj,sO]
   simp
 rw [key]
 dsimp only
 refine wpAny_bind (wpAny_setField ho rfl (by simp) ?_)
 exact hq _ (Heap.SameBut.update ..)
end
end
end UfSet
end
section
namespace UfSet
open PySem
theorem eC.get{w:World}:∀ {ks:List Str} {es:List (Int × Value)} {i:Nat},eC w ks es→i<es.length→∃ hx k tk,es[i]?=some (hx,Value.str k tk)∧ks[i]?=some k
 | _,_,_,.nil,h=>absurd h (by simp)
 | _,_,0,.cons (a:=k) (b:=e) h t,_=>by
  obtain⟨h1,tk,h2⟩:=h
  obtain⟨e1,e2⟩:=e
  have h2:e2=Value.str k tk:=h2
  subst h2
  exact⟨e1,k,tk,rfl,rfl⟩
 | _,_,i+1,.cons h t,hl=>by
  obtain⟨hx,k,tk,q1,q2⟩:=eC.get (i:=i) t (by simpa using hl)
  exact⟨hx,k,tk,by simpa using q1,by simpa using q2⟩
def At(ord:List Str)(i:Nat)(v:Value):Prop:=∃ k tk,ord[i]?=some k∧v=Value.str k tk
section
variable {prog:Program}{w:World}{A:Around}{E:Value→Shared→Prop}{s:Shared}
theorem qu{it a:Addr}{n ep i:Nat}{first:Value}{Q:Value→Shared→Prop}(ho:s.heap.get? it=some (dO a n ep first i))(h:Q (.ref it) s):wpAny (model prog w) A (pyIter (.ref it)) Q E s:=by
 have hT:s.TypeIs (.ref it) "set_iterator":=⟨_,ho,rfl⟩
 refine wpAny_pyIter_slot hT jt (wpAny_call_entry jt hT nH ?_ (qA _))
 show wpAny _ _ (ret (.ref it)) _ _ s
 exact wpAny_pure ⟨_,rfl, "set_iterator",_,hT,cT.lookup,h⟩
theorem r6{it a T:Addr}{o oT:Obj}{es:Array (Int × Value)}{ep c:Nat}{t:SetTable}{pl:List Nat}{ks ord:List Str}(hh:A.handled=none)(ha:a≠it)(hTi:T≠it)(hd:o.data=.set es ep t)(hf:t.fits es.size=true)(he:eC w ks es.toList)
  (hTd:oT.data=.seq (pl.map fun(j:Nat)=>Value.int j 0).toArray c) (hpl:∀ (i p:Nat),pl[i]?=some p→p<es.size∧ord[i]?=ks[p]?) (hlen:pl.length=ord.length) :
  Walks prog w A it [it,a,T] [it] ord.length (At ord) (fun i h=>h.get? it=some (dO a es.size ep (.ref T) i)∧h.get? a=some o∧h.get? T=some oT) where
 sub:=fun b hb=>by simp at hb;simp [hb]
 frame:=fun i h h' st k=>⟨k it (by simp) _ st.1,k a (by simp) _ st.2.1,k T (by simp) _ st.2.2⟩
 item:=fun i s Q E hi st hQ=>by
  obtain⟨s1,s2,s3⟩:=st
  have hip:i<pl.length:=by lia
  have hp:pl[i]?=some pl[i]:=List.getElem?_eq_getElem hip
  obtain⟨hlt,hord⟩:=hpl i _ hp
  obtain⟨hx,k,tk,q1,q2⟩:=he.get (i:=pl[i]) (by simpa using hlt)
  refine tO s1 s2 hd hf s3 hTd hp (by rw [← Array.getElem?_toList];exact q1) fun h' st' sb=>?_
  exact hQ _ h' s.toks ⟨k,tk,hord.trans q2,rfl⟩ ⟨st',sb.extBut _ _ ha s2,sb.extBut _ _ hTi s3⟩ fun b o hb e=>sb.extBut b o (fun z=>hb (by simp [z])) e
 done:=fun s Q E st hQ=>by
  obtain⟨s1,s2,s3⟩:=st
  exact wZ hh s1 s2 hd hf s3 hTd (List.getElem?_eq_none (by lia)) fun h' eb=>hQ h' s.toks fun b o hb e=>eb b o (fun z=>hb (by simp [z])) e
 self:=fun _ _ _ _ st hQ=>qu st.1 hQ
theorem tu{it a:Addr}{o:Obj}{es:Array (Int × Value)}{ep:Nat}{t:SetTable}{ord:List Str}(hh:A.handled=none)(hb:dR w=true)(ha:a≠it)(hd:o.data=.set es ep t)(hf:t.fits es.size=true)
  (he:eC w ord (pickOrder (w.params.setOrder a ep) es).toList) :
  Walks prog w A it [it,a] [it] ord.length (At ord) (fun i h=>h.get? it=some (dO a es.size ep (.int 0 0) i)∧h.get? a=some o) where
 sub:=fun b hb=>by simp at hb;simp [hb]
 frame:=fun i h h' st k=>⟨k it (by simp) _ st.1,k a (by simp) _ st.2⟩
 item:=fun i s Q E hi st hQ=>by
  obtain⟨s1,s2⟩:=st
  obtain⟨hx,k,tk,q1,q2⟩:=he.get (i:=i) (by rw [← he.len];exact hi)
  refine vW hb s1 s2 hd hf (by rw [← Array.getElem?_toList];exact q1) fun h' st' sb=>?_
  exact hQ _ h' s.toks ⟨k,tk,q2,rfl⟩ ⟨st',sb.extBut _ _ ha s2⟩ fun b o hb e=>sb.extBut b o (fun z=>hb (by simp [z])) e
 done:=fun s Q E st hQ=>by
  obtain⟨s1,s2⟩:=st
  refine xA hh hb s1 s2 hd hf ?_ fun h' eb=>hQ h' s.toks fun b o hb e=>eb b o (fun z=>hb (by simp [z])) e
  rw [← Array.getElem?_toList]
  exact List.getElem?_eq_none (by rw [← he.len];exact Nat.le_refl _)
 self:=fun _ _ _ _ st hQ=>qu st.1 hQ
theorem vQ{it a:Addr}{o:Obj}{es:Array (Int × Value)}{ep:Nat}{t:SetTable}{ord:List Str}(hh:A.handled=none)(hb:dR w=false)(hl:t.led=true)(h1:es.size≤1)(ha:a≠it)(hd:o.data=.set es ep t)(hf:t.fits es.size=true)
  (he:eC w ord es.toList) :
  Walks prog w A it [it,a] [it] ord.length (At ord) (fun i h=>(∃ sl,xg t es.size i sl∧h.get? it=some (dO a es.size ep (.int sl 0) i))∧h.get? a=some o) where
 sub:=fun b hb=>by simp at hb;simp [hb]
 frame:=fun i h h' st k=>by
  obtain⟨⟨sl,q1,q2⟩,q3⟩:=st
  exact⟨⟨sl,q1,k it (by simp) _ q2⟩,k a (by simp) _ q3⟩
 item:=fun i s Q E hi st hQ=>by
  obtain⟨⟨sl,q1,q2⟩,q3⟩:=st
  have hlen:ord.length=es.size:=by(have:=he.len);(have el:es.toList.length=es.size:=by simp);lia
  have h0:es.size=1:=by lia
  rcases q1 with⟨rfl,rfl⟩ | ⟨rfl,_⟩
  ·obtain⟨hx,k,tk,e1,e2⟩:=he.get (i:=0) (by simp;lia)
   refine zd hb hl h0 q2 q3 hd hf (by rw [← Array.getElem?_toList];exact e1) fun h' sl' oa st' sb=>?_
   exact hQ _ h' s.toks ⟨k,tk,e2,rfl⟩ ⟨⟨sl',oa,st'⟩,sb.extBut _ _ ha q3⟩ fun b o hb e=>sb.extBut b o (fun z=>hb (by simp [z])) e
  ·lia
 done:=fun s Q E st hQ=>by
  obtain⟨⟨sl,q1,q2⟩,q3⟩:=st
  have hlen:ord.length=es.size:=by(have:=he.len);(have el:es.toList.length=es.size:=by simp);lia
  exact zx hh hb hl h1 q1 (by lia) q2 q3 hd hf fun h' eb=>hQ h' s.toks fun b o hb e=>eb b o (fun z=>hb (by simp [z])) e
 self:=fun _ _ _ _ st hQ=>by
  obtain⟨⟨sl,q1,q2⟩,q3⟩:=st
  exact qu q2 hQ
theorem yJ{a:Addr}{ks:List Str}{Q:Value→Shared→Prop}(hS:du w s.heap a ks)
  (h:∀ (I:Addr) (h' : Heap) (d:Drawn) (ord:List Str) (fp:List Addr) (St:Nat→Heap→Prop),ord.Perm ks→(∀ A' : Around,A'.handled = none→Walks prog w A' I fp [I] ord.length (At ord) St)→St 0 h'→I ∈ fp→s.heap.objs.size≤I →
   (∀ b o,s.heap.get? b=some o→h'.get? b=some o)→(∀ b∈fp,b<h'.objs.size∧(b=a∨s.heap.objs.size≤b))→Q (.ref I) { s with heap:=h',drawn:=d }) :
  wpAny (model prog w) A (pyIter (.ref a)) Q E s:=by
 obtain⟨o,es,ep,t,ks',ho,hex,hd,he,hp,hn,hb,hf,hpl,hle⟩:=hS
 have hT:s.TypeIs (.ref a) "set":=⟨_,ho,hex.1⟩
 have alt:a<s.heap.objs.size:=Heap.lt_size ho
 refine wpAny_pyIter_slot hT PySem.F.slot_set_iter (wpAny_call_entry PySem.F.slot_set_iter hT pZ ?_ (PySem.F.args_set_iter_1 _))
 show wpAny _ _ (Builtin.Frozenset.sizeOf a >>= _) _ _ s
 refine wpAny_bind ?_
 unfold Builtin.Frozenset.sizeOf
 refine wpAny_bind (wpAny_setEntries_of ho hd hf (wpAny_pure ?_))
 refine wpAny_bind ?_
 unfold setDrawn
 refine wpAny_bind (wpAny_setState_of ho hd hf ?_)
 dsimp only
 refine wpAny_bind ?_
 unfold setsByText
 refine wpAny_bind (wpAny_askSetting (wpAny_pure (wpAny_pure ?_)))
 have key:(!(⟨(model prog w).prog,(model prog w).w.params⟩:Setting).params.followText "set-order" && (!t.plain&&decide (es.size > 1)))=(!dR w&&(!t.plain&&decide (es.size > 1))):=rfl
 show wpAny _ _ (do
  let first ← if (!(⟨(model prog w).prog,(model prog w).w.params⟩:Setting).params.followText "set-order" && (!t.plain&&decide (es.size > 1)))=true then newTuple ((← drawOrder es.size (List.range es.size)).map fun(i:Nat)=>rawInt i) else pure (rawInt 0)
  ret (← newFields "set_iterator" [first,rawInt 0,.ref a,rawInt es.size,rawInt (← setEpoch a)])) _ _ s
 rw [key]
 by_cases hdr:(!dR w&&(!t.plain&&decide (es.size > 1)))=true
 ·rw [if_pos hdr]
  have zs:es.size≤sizeLine:=fits_of_scanBound hb
  refine wpAny_bind (rP es.size (List.range es.size) s (by simp) fun pl d hpp=>?_)
  have hl:pl.length=es.size:=by rw [hpp.length_eq];simp
  refine wpAny_bind (wpAny_newObj_type ?_ (by show(pl.map fun(i:Nat)=>rawInt i).toArray.size≤sizeLine;simp;lia))
  refine wpAny_bind (wpAny_setEpoch_of (o:=o) (es:=es) (t:=t) (ep:=ep) (Heap.get?_push_of_some _ ho) hd hf ?_)
  refine wpAny_bind (wpAny_newObj_type (wpAny_pure ⟨_,rfl, "set_iterator",_,⟨_,Heap.get?_push_size _ rfl,rfl⟩,cT.lookup,?_⟩) (by size_fits))
  dsimp only
  have e1:(s.heap.push { cls:=.type "tuple",data:=.seq (pl.map fun(i:Nat)=>rawInt i).toArray }).objs.size=s.heap.objs.size+1:=by rw [Heap.size_push]
  have f:∀ p,p<es.size→∃ k,ks'[p]?=some k:=fun p hp'=>by
   obtain⟨_,k,_,_,q⟩:=he.get (i:=p) (by simpa using hp')
   exact⟨k,q⟩
  refine h _ _ d (pl.map fun p=>ks'.getD p ⟨#[]⟩) [_,a,s.heap.objs.size] _ ?_ (fun A' hh'=>r6 (T:=s.heap.objs.size) (oT:={ cls:=.type "tuple",data:=.seq (pl.map fun(i:Nat)=>rawInt i).toArray }) (pl:=pl) hh' ?_ ?_ hd hf he rfl (fun i p hip=>?_) (by simp)) ⟨Heap.get?_push_size _ rfl,Heap.get?_push_of_some _ (Heap.get?_push_of_some _ ho),Heap.get?_push_of_some _ (Heap.get?_push_size _ rfl)⟩ (by simp) (by rw [e1];lia) (fun b ob e=>Heap.get?_push_of_some _ (Heap.get?_push_of_some _ e)) fun b hb'=>?_
  ·have q:=hpp.map (fun p=>ks'.getD p ⟨#[]⟩)
   have e2:(List.range es.size).map (fun p=>ks'.getD p ⟨#[]⟩)=ks':=by
    have hk:ks'.length=es.size:=by rw [he.len];simp
    rw [← hk]
    refine List.ext_getElem (by simp) fun i h1 h2=>?_
    simp [List.getD_eq_getElem?_getD,List.getElem?_eq_getElem h2]
   rw [e2] at q
   exact q.trans hp
  ·rw [e1];exact Nat.ne_of_lt (Nat.lt_succ_of_lt alt)
  ·rw [e1];exact Nat.ne_of_lt (Nat.lt_succ_self _)
  ·have hm:p∈List.range es.size:=hpp.mem_iff.mp (List.mem_of_getElem? hip)
   have hlt:p<es.size:=by simpa using hm
   refine⟨hlt,?_⟩
   obtain⟨k,hk⟩:=f p hlt
   rw [List.getElem?_map,hip,hk]
   simp [List.getD_eq_getElem?_getD,hk]
  ·simp only [List.mem_cons,List.not_mem_nil,or_false] at hb'
   rw [Heap.size_push]
   rcases hb' with rfl | rfl | rfl
   ·exact⟨Nat.lt_succ_self _,.inr (by rw [e1];exact Nat.le_succ _)⟩
   ·exact⟨by rw [e1];exact Nat.lt_succ_of_lt (Nat.lt_succ_of_lt alt),.inl rfl⟩
   ·exact⟨by rw [e1];exact Nat.lt_succ_of_lt (Nat.lt_succ_self _),.inr (Nat.le_refl _)⟩
 ·rw [if_neg hdr]
  refine wpAny_bind (wpAny_pure ?_)
  refine wpAny_bind (wpAny_setEpoch_of (o:=o) (es:=es) (t:=t) (ep:=ep) ho hd hf ?_)
  refine wpAny_bind (wpAny_newObj_type (wpAny_pure ⟨_,rfl, "set_iterator",_,⟨_,Heap.get?_push_size _ rfl,rfl⟩,cT.lookup,?_⟩) (by size_fits))
  have old:∀ b ob,s.heap.get? b=some ob→(s.heap.push { cls:=.type "set_iterator",data:=.fields [rawInt 0,rawInt 0,Value.ref a,rawInt (es.size:Int),rawInt (ep:Int)].toArray }).get? b=some ob:=fun b ob e=>Heap.get?_push_of_some _ e
  have own:∀ b∈[s.heap.objs.size,a],b<(s.heap.push { cls:=.type "set_iterator",data:=.fields [rawInt 0,rawInt 0,Value.ref a,rawInt (es.size:Int),rawInt (ep:Int)].toArray }).objs.size∧(b=a∨s.heap.objs.size≤b):=fun b hb'=>by
   simp only [List.mem_cons,List.not_mem_nil,or_false] at hb'
   rw [Heap.size_push]
   rcases hb' with rfl | rfl
   ·exact⟨Nat.lt_succ_self _,.inr (Nat.le_refl _)⟩
   ·exact⟨Nat.lt_succ_of_lt alt,.inl rfl⟩
  cases hbt:dR w with
  | true =>
   obtain⟨ord,q1,q2⟩:=he.perm (wM (w.params.setOrder a ep) es)
   exact h _ _ s.drawn ord [s.heap.objs.size,a] _ (q2.trans hp) (fun A' hh'=>tu hh' hbt (Nat.ne_of_lt alt) hd hf q1) ⟨Heap.get?_push_size _ rfl,Heap.get?_push_of_some _ ho⟩ (by simp) (Nat.le_refl _) old own
  | false =>
   have h1:es.size≤1:=by
    rw [hbt] at hdr
    cases hpt:t.plain with
    | true=>have:=hpl hpt;lia
    | false =>
     rw [hpt] at hdr
     by_cases hz:es.size > 1
     ·exact absurd (by simp [hz]) hdr
     ·lia
   rw [hbt] at hle
   exact h _ _ s.drawn ks' [s.heap.objs.size,a] _ hp (fun A' hh'=>vQ hh' hbt hle h1 (Nat.ne_of_lt alt) hd hf he) ⟨⟨0,.inl ⟨rfl,rfl⟩,Heap.get?_push_size _ rfl⟩,Heap.get?_push_of_some _ ho⟩ (by simp) (Nat.le_refl _) old own
end
end UfSet
end
section
namespace UfSet
open PySem
theorem yL:typeLookup (.type "set") "__len__"=pure (some (.builtin "set.__len__")):=by rw [typeLookup_type,builtinLookup_eq_fast];kernel_rfl
theorem zZ:isSubtype (.type "set") (.type "set")=pure true:=by rw [isSubtype_type];kernel_rfl
theorem vP:splitId "set.__len__"=some ("set", "__len__"):=by decide +kernel
theorem qI{wr:List Addr}:∀ {s s':Shared},Moved wr (fun a b=>b=a) s s'→s'={ s with heap:=s'.heap,toks:=s'.toks }
 | ⟨h,g,d,t,o⟩,⟨h',g',d',t',o'⟩,hm=>by
  have e1:g'=g:=hm.gens
  have e2:d'=d:=hm.drawn
  have e3:o'=o:=hm.os
  subst e1 e2 e3
  rfl
section
variable {prog:Program}{w:World}{A:Around}{E:Value→Shared→Prop}{s:Shared}
theorem yP{r:Addr}{Q:Bool→Shared→Prop}(hT:s.TypeIs (.ref r) "set")(h:Q false s):wpAny (model prog w) A (Builtin.List.listLengthHint (.ref r)) Q E s:=by
 unfold Builtin.List.listLengthHint
 refine wpAny_bind (wpAny_specialOf hT yL ?_)
 dsimp only
 rw [vP]
 dsimp only
 refine wpAny_bind (wpAny_isInstance (T:="set") (b:=true) hT zZ ?_)
 refine wpAny_ite_split (fun z=>absurd z (by decide)) (fun _=>?_)
 refine wpAny_ite_split (fun _=>?_) (fun z=>absurd (by decide +kernel) z)
 refine wpAny_bind (wpAny_typeOf hT ?_)
 exact wpAny_pure h
theorem kx{r:Addr}{T:String}{OK:Heap→Prop}{R:Nat→(Nat→Value→Prop)→Prop}{Q:List Value→Shared→Prop}(hh:A.handled=none)(hok:OK s.heap)
  (keep:∀ h h':Heap,OK h→(∀ b o,h.get? b=some o→h'.get? b=some o)→OK h') (hty:∀ s':Shared,OK s'.heap→s'.TypeIs (.ref r) T) (hlt:∀ h,OK h→r<h.objs.size)
  (nl:(Value.type T==Value.type "list")=false) (nt:(Value.type T==Value.type "tuple")=false)
  (hint:∀ (A':Around) (E':Value→Shared→Prop) (s':Shared) (Q':Bool→Shared→Prop),OK s'.heap→Q' false s'→wpAny (model prog w) A' (Builtin.List.listLengthHint (.ref r)) Q' E' s')
  (iter:∀ (A' : Around) (E' : Value→Shared→Prop) (s' : Shared) (Q' : Value→Shared→Prop),OK s'.heap→(∀ (I:Addr) (h' : Heap) (d:Drawn) (n:Nat) (P:Nat→Value→Prop) (fp:List Addr) (St:Nat→Heap→Prop),R n P→n≤sizeLine →
   (∀ A2:Around,A2.handled=none→Walks prog w A2 I fp [I] n P St)→St 0 h'→s'.heap.objs.size≤I→(∀ b o,s'.heap.get? b=some o→h'.get? b=some o)→(∀ b∈fp,b=r∨s'.heap.objs.size≤b)→Q' (.ref I) { s' with heap:=h',drawn:=d }) →
   wpAny (model prog w) A' (pyIter (.ref r)) Q' E' s')
  (h:∀ (h':Heap) (tk:Nat) (d:Drawn) (n:Nat) (P:Nat→Value→Prop) (vs:List Value),R n P→vs.length=n→(∀ (j:Nat) v,vs[j]?=some v→P j v)→(∀ b o,s.heap.get? b=some o→h'.get? b=some o)→s.heap.objs.size≤h'.objs.size→Q vs { s with heap:=h',toks:=tk,drawn:=d }) :
  wpAny (model prog w) A (collect (.ref r)) Q E s:=by
 unfold collect
 refine wpAny_bind (wpAny_runValue (codeAny_builtin PySem.F.entry_proto_collect ?_))
 rw [Around.under_plainId PySem.F.plain_proto_collect _]
 show wpAny _ A.in1 (newList [] >>= fun l=>again (.builtin "list.__iadd__" ⟨[l,.ref r],[]⟩)) _ _ s
 refine wpAny_bind (wpAny_newObj_type ?_)
 refine wpAny_pure ⟨plainId_quiet PySem.F.plain_list_iadd _,codeAny_builtin PySem.F.entry_list_iadd ?_⟩
 rw [Around.under_plainId PySem.F.plain_list_iadd _]
 generalize hs1:(s.heap.push { cls:=.type "list",data:=.seq ([]:List Value).toArray })=h1
 have S1:h1.get? s.heap.objs.size=some { cls:=.type "list",data:=.seq #[] }:=by rw [← hs1];exact Heap.get?_push_size _ rfl
 have k1:∀ b ob,s.heap.get? b=some ob→h1.get? b=some ob:=fun b ob e=>by rw [← hs1];exact Heap.get?_push_of_some _ e
 have z1:h1.objs.size=s.heap.objs.size+1:=by rw [← hs1,Heap.size_push]
 have alt:r<s.heap.objs.size:=hlt _ hok
 have ok1:OK h1:=keep _ _ hok k1
 show wpAny _ A.in1 (Builtin.List.listExtendWith (.ref s.heap.objs.size) (.ref r) (.ref s.heap.objs.size)) _ _ { s with heap:=h1 }
 unfold Builtin.List.listExtendWith
 refine wpAny_bind (wpAny_typeOf (T:=T) (hty { s with heap:=h1 } ok1) ?_)
 have e1:Builtin.List.listSameRef (.ref s.heap.objs.size) (.ref r)=false:=by simp [Builtin.List.listSameRef,Nat.ne_of_gt alt]
 simp only [e1,nl,nt,Bool.or_false,Bool.false_eq_true,if_false]
 refine wpAny_bind (iter _ _ { s with heap:=h1 } _ ok1 fun I h2 d n P fp St hR zo W st hIz k2 hfp=>?_)
 have S2:=k2 _ _ S1
 refine wpAny_bind (wpAny_holding (hint _ _ _ _ (keep _ _ ok1 k2) ?_))
 have nfp:s.heap.objs.size∉fp:=fun hm=>by
  rcases hfp _ hm with z | z
  ·exact absurd z (Nat.ne_of_gt alt)
  ·have z':h1.objs.size≤s.heap.objs.size:=z
   rw [z1] at z'
   exact absurd z' (Nat.not_succ_le_self _)
 have key:∀ (h3:Heap) (c tk:Nat),St 0 h3→(∀ b ob,b≠s.heap.objs.size→h2.get? b=some ob→h3.get? b=some ob)→h3.get? s.heap.objs.size=some { cls:=.type "list",data:=.seq #[] c } →
   codeAny (model prog w) A (.builtin "list.extend.loop" ⟨[.ref s.heap.objs.size,.ref I,.ref s.heap.objs.size],[]⟩)
    (fun r s'=>match r with | .ok (.ret v)=>wpAny (model prog w) A (match v with | .ref b=>(load b >>= fun ob=>(match ob.data with | .seq xs _=>pure xs.toList | _=>unsupported "internal:collect")) | _=>unsupported "internal:collect") Q E s' | .ok _=>False | .error e=>E e s') { s with heap:=h3,toks:=tk,drawn:=d }:=by
  intro h3 c tk st3 k3 S3
  refine codeAny_extend_loopS (W A.in1 hh).toS zo s.heap.objs.size nfp _ n 0 _ #[] c rfl (Nat.zero_le _) st3 S3 (ItemsOf.nil _) fun s' acc c' hm S' hacc=>?_
  dsimp only
  refine wpAny_bind (wpAny_load S' (wpAny_pure ?_))
  rw [qI hm]
  refine h s'.heap s'.toks d n P acc.toList hR (by rw [← hacc.1];simp) (fun j v e=>hacc.2 j v (by rw [← Array.getElem?_toList];exact e)) (fun b ob e=>?_) (Nat.le_of_lt (Heap.lt_size S'))
  have nb:b≠s.heap.objs.size:=Nat.ne_of_lt (Heap.lt_size e)
  refine hm.heap b ob (fun hmem=>?_) (k3 b ob nb (k2 b ob (k1 b ob e)))
  rcases List.mem_cons.mp hmem with z | z
  ·exact nb z
  ·have z':b=I:=by simpa using z
   subst z'
   have z2:h1.objs.size≤b:=hIz
   rw [z1] at z2
   exact absurd (Nat.lt_of_lt_of_le (Heap.lt_size e) (Nat.le_of_succ_le z2)) (Nat.lt_irrefl _)
 refine wpAny_ite_split (fun _=>?_) (fun _=>wpAny_pure ⟨plainId_quiet PySem.F.plain_extend_loop _,key _ 0 _ st (fun b ob _ e=>e) S2⟩)
 refine wpAny_bind (wpAny_rule ?_)
 refine wpAny_bind ?_
 show wpAny _ _ (updateSeq s.heap.objs.size (·.push .none) >>= fun _=>updateSeq s.heap.objs.size (·.pop)) _ _ _
 refine wpAny_bind (wpAny_updateSeq S2 rfl ?_)
 have S3:=Heap.get?_update_self (Obj.mapSeq (·.push Value.none)) S2 rfl
 refine wpAny_updateSeq (hz:=by seq_fits) S3 rfl ?_
 have S4:=Heap.get?_update_self (Obj.mapSeq (·.pop)) S3 rfl
 have oth:∀ b ob,b≠s.heap.objs.size→h2.get? b=some ob→((h2.update s.heap.objs.size (Obj.mapSeq (·.push Value.none))).update s.heap.objs.size (Obj.mapSeq (·.pop))).get? b=some ob:=fun b ob nb e =>
  (Heap.get?_update_other _ _ (Ne.symm nb)).trans ((Heap.get?_update_other _ _ (Ne.symm nb)).trans e)
 exact wpAny_pure ⟨plainId_quiet PySem.F.plain_extend_loop _,key _ _ _ ((W A.in1 hh).frame 0 _ _ st fun b hb' ob e=>oth b ob (fun z=>nfp (z ▸ hb')) e) oth S4⟩
theorem qT{a:Addr}{ks:List Str}{Q:List Value→Shared→Prop}(hh:A.handled=none)(hS:du w s.heap a ks)
  (h:∀ (h':Heap) (tk:Nat) (d:Drawn) (ord:List Str) (vs:List Value),ord.Perm ks→vs.length=ord.length→(∀ (j:Nat) v,vs[j]?=some v→At ord j v)→(∀ b o,s.heap.get? b=some o→h'.get? b=some o)→s.heap.objs.size≤h'.objs.size→Q vs { s with heap:=h',toks:=tk,drawn:=d }) :
  wpAny (model prog w) A (collect (.ref a)) Q E s:=by
 have kp:∀ h h':Heap,du w h a ks→(∀ b o,h.get? b=some o→h'.get? b=some o)→du w h' a ks:=fun h1 h2 x k=>by
  obtain⟨o,es,ep,t,ks',ho,r⟩:=x
  exact⟨o,es,ep,t,ks',k _ _ ho,r⟩
 have ty:∀ s':Shared,du w s'.heap a ks→s'.TypeIs (.ref a) "set":=fun s' x=>by
  obtain⟨o,es,ep,t,ks',ho,hex,_⟩:=x
  exact⟨o,ho,hex.1⟩
 have zs:ks.length≤sizeLine:=by
  obtain⟨o,es,ep,t,ks',ho,hex,hd,he,hp,hn,hb,_⟩:=hS
  rw [← hp.length_eq,he.len]
  have el:es.toList.length=es.size:=by simp
  rw [el]
  exact fits_of_scanBound hb
 refine kx (T:="set") (OK:=fun h=>du w h a ks) (R:=fun n P=>∃ ord:List Str,ord.Perm ks∧n=ord.length∧P=At ord) hh hS kp ty (fun h1 x=>?_) (by decide) (by decide) (fun A' E' s' Q' x q=>yP (ty s' x) q) (fun A' E' s' Q' x q=>?_) ?_
 ·obtain⟨o,_,_,_,_,ho,_⟩:=x
  exact Heap.lt_size ho
 ·exact yJ x fun I h' d ord fp St hp W st hI hIz k2 hfp=>q I h' d ord.length (At ord) fp St ⟨ord,hp,rfl,rfl⟩ (by rw [hp.length_eq];exact zs) W st hIz k2 fun b hb=>(hfp b hb).2
 ·rintro h' tk d n P vs ⟨ord,hp,rfl,rfl⟩ hl hat hk hz
  exact h h' tk d ord vs hp hl hat hk hz
end
end UfSet
end
section
namespace UfSrt
open PySem PySem.Spec PyProof.Rows
def le(a b:Str):Prop:=a.cps.toList≤b.cps.toList
def leB(a b:Str):Bool:=decide (a.cps.toList≤b.cps.toList)
theorem leB_iff{a b:Str}:leB a b=true↔le a b:=by simp [leB,le]
theorem Aq{a b:Str}(h:a.cps.toList=b.cps.toList):a=b:=by
 obtain⟨x⟩:=a
 obtain⟨y⟩:=b
 have:x=y:=Array.toList_inj.mp h
 rw [this]
theorem Ak{a b:Str}(h1:le a b)(h2:le b a):a=b:=Aq (List.le_antisymm h1 h2)
theorem AH{a b c:Str}(h1:le a b)(h2:le b c):le a c:=List.le_trans h1 h2
theorem Bv(a b:Str):le a b∨le b a:=List.le_total _ _
def aw(xs:List Str):List Str:=xs.mergeSort leB
theorem bp(xs:List Str):(aw xs).Perm xs:=List.mergeSort_perm _ _
theorem tM(xs:List Str):(aw xs).Pairwise le:=by
 have h:=List.pairwise_mergeSort (le:=leB) (fun a b c h1 h2=>leB_iff.mpr (AH (leB_iff.mp h1) (leB_iff.mp h2))) (fun a b=>by
  rcases Bv a b with h | h
  ·rw [leB_iff.mpr h];rfl
  ·rw [leB_iff.mpr h,Bool.or_true]) xs
 exact h.imp fun h=>leB_iff.mp h
theorem pw_unique{xs ys:List Str}(h1:xs.Pairwise le)(h2:ys.Pairwise le)(p:xs.Perm ys):xs=ys :=
 List.Perm.eq_of_pairwise (fun a b _ _=>Ak) h1 h2 p
theorem yv{xs ys:List Str}(h:xs.Pairwise le)(p:xs.Perm ys):xs=aw ys:=pw_unique h (tM ys) (p.trans (bp ys).symm)
theorem gC{xs ys:List Str}(p:xs.Perm ys):aw xs=aw ys:=yv (tM xs) ((bp xs).trans p)
theorem bz{xs:List Str}{x:Str}:x∈aw xs↔x∈xs:=(bp xs).mem_iff
theorem aW(xs:List Str):(aw xs).length=xs.length:=(bp xs).length_eq
theorem vt{xs:List Str}:(aw xs).Nodup↔xs.Nodup:=(bp xs).nodup_iff
theorem nV:∀ {p:Str} {l:List Str},risingS p l=true→(p::l).Pairwise le
 | p,[],_=>by simp
 | p,x::r,h=>by
  have h':(!ltCps x.cps.toList p.cps.toList&&risingS x r)=true:=h
  obtain⟨h1,h2⟩:=Bool.and_eq_true_iff.mp h'
  have ih:=nV h2
  have hpx:le p x:=by
   rw [ltCps_eq] at h1
   exact List.not_lt.mp (by simpa using h1)
  refine List.pairwise_cons.mpr ⟨fun b hb=>?_,ih⟩
  rcases List.mem_cons.mp hb with rfl | hb
  ·exact hpx
  ·exact AH hpx ((List.pairwise_cons.mp ih).1 b hb)
theorem wm:∀ {l:List Str},sortedS l=true→l.Pairwise le
 | [],_=>.nil
 | x::r,h=>nV h
end UfSrt
end
section
namespace UfSort
open PySem PySem.Spec PyProof.Rows UfSrt
theorem gq:∀ {vs:List Value} {ss:List Str},StrsAre vs ss→vs.length=ss.length
 | _,_,.nil=>rfl
 | _,_,.cons _ _ h=>by rw [List.length_cons,List.length_cons,gq h]
structure Left(h h':Heap)(D:Addr)(ss:List Str):Prop where
 keep:∀ b o,h.get? b=some o→h'.get? b=some o
 new:h.objs.size≤D
 at':∃ vs n,h'.get? D=some { cls:=.type "list",data:=.seq (List.toArray vs) n }∧StrsAre vs (aw ss)
section
variable {prog:Program}{w:World}{A:Around}{E:Value→Shared→Prop}{s:Shared}
theorem j4{r:Value}{ss:List Str}{Q:Value→Shared→Prop}
  (hc:∀ {Q':List Value→Shared→Prop},(∀ h' tk d vs ss',(∀ b o,s.heap.get? b=some o→h'.get? b=some o)→s.heap.objs.size≤h'.objs.size→StrsAre vs ss'→ss'.Perm ss→Q' vs { s with heap:=h',toks:=tk,drawn:=d })→wpAny (model prog w) A.in1 (collect r) Q' E s)
  (h64:ss.length<64) (h:∀ h' tk d D,Left s.heap h' D ss→Q (.ref D) { s with heap:=h',toks:=tk,drawn:=d }):wpAny (model prog w) A (call (.builtin "sorted") [r]) Q E s:=by
 refine Calls.call_function_entry kind_sorted plain_sorted entry_sorted (args_sorted1 _) ?_
 unfold Builtin.«sorted»
 refine wpAny_bind (m:=checkCount "sorted" 1 1 _) (wpAny_pure ?_)
 refine wpAny_bind (hc fun h1 tk d vs ss1 k1 z1 hS hp=>?_)
 have hl:vs.length=ss.length:=by rw [gq hS,hp.length_eq]
 refine wpAny_bind (wpAny_newList ?_ (by rw [sizeLine_eq];lia))
 have hoL:(h1.push (seqObj "list" vs.toArray 0)).get? h1.objs.size=some (seqObj "list" vs.toArray 0):=Heap.get?_push_size _ rfl
 refine wpAny_bind (wpAny_holding (wpAny_call_entry slot_list_sort ⟨_,hoL,rfl⟩ entry_list_sort (list_sort_treeK strKind_oneLt hoL hS.keysOf (fun v₁ v₂ rest e=>keyKind_strs (by rw [← e];exact hS)) (by lia) fun st' a1 a2=>⟨_,rfl,?_⟩) (args_list_sort _)))
 obtain⟨ss',q1,q2,q3⟩:=sorted_out_str hS a1 a2
 obtain⟨e,he⟩:=sortedHeap_at (h:=h1.push (seqObj "list" vs.toArray 0)) (a:=h1.objs.size) (vs:=vs) (n:=0) (out:=(arrOf st').map (·.2)) hoL
 refine wpAny_pure ⟨_,rfl,h _ tk d _ ⟨fun b o hb=>?_,?_,((arrOf st').map (·.2)).toList,e,by rw [Array.toArray_toList];exact he,?_⟩⟩
 ·have hb1:=k1 b o hb
  rw [sortedHeap_old (Nat.ne_of_lt (Heap.lt_size hb1)) (by rw [size_push'];exact Nat.lt_succ_of_lt (Heap.lt_size hb1))]
  exact Heap.get?_push_of_some _ hb1
 ·exact z1
 ·have:ss'=aw ss:=yv (wm q3) (q2.trans hp)
  rw [← this]
  exact q1
theorem u6{ord:List Str}:∀ {vs:List Value} {j:Nat},vs.length+j=ord.length→(∀ (i:Nat) v,vs[i]?=some v→UfSet.At ord (j+i) v)→StrsAre vs (ord.drop j)
 | [],j,hl,_=>by
  rw [List.drop_of_length_le (by simp at hl;lia)]
  exact .nil
 | v::vs,j,hl,h=>by
  obtain⟨k,tk,e,hv⟩:=h 0 v rfl
  subst hv
  have hj:j<ord.length:=by simp at hl;lia
  have ej:ord[j]=k:=by
   rw [Nat.add_zero,List.getElem?_eq_getElem hj] at e
   exact Option.some.inj e
  rw [List.drop_eq_getElem_cons hj,ej]
  exact .cons k tk (u6 (j:=j+1) (by simp at hl;lia) fun i v e=>by
   have:=h (i+1) v (by simpa using e)
   rw [show j+1+i=j+(i+1) by lia]
   exact this)
theorem tV{a:Addr}{ks:List Str}{Q:Value→Shared→Prop}(hh:A.handled=none)(hS:UfSet.du w s.heap a ks)(h64:ks.length<64)
  (h:∀ h' tk d D,Left s.heap h' D ks→Q (.ref D) { s with heap:=h',toks:=tk,drawn:=d }):wpAny (model prog w) A (call (.builtin "sorted") [.ref a]) Q E s :=
 j4 (fun {Q'} hq=>UfSet.qT (A:=A.in1) hh hS fun h' tk d ord vs hp hl hat hk hz=>hq h' tk d vs ord hk hz (by
  have:=u6 (ord:=ord) (vs:=vs) (j:=0) (by lia) (fun i v e=>by rw [Nat.zero_add];exact hat i v e)
  simpa using this) hp) h64 h
theorem sC{l:Addr}{vs:List Value}{ss:List Str}{Q:Value→Shared→Prop}(hl:s.heap.IsList l vs.toArray)(hS:StrsAre vs ss)(h64:ss.length<64)
  (h:∀ h' tk d D,Left s.heap h' D ss→Q (.ref D) { s with heap:=h',toks:=tk,drawn:=d }):wpAny (model prog w) A (call (.builtin "sorted") [.ref l]) Q E s :=
 j4 (fun {Q'} hq=>collect_list (A:=A.in1) hl (hq _ s.toks s.drawn vs ss (fun b o e=>by
  rw [Heap.get?_update_other _ _ (Nat.ne_of_gt (Heap.lt_size e))]
  exact Heap.get?_push_of_some _ e) (by rw [Heap.size_update,size_push'];exact Nat.le_succ _) hS (.refl _)) (by rw [sizeLine_eq,gq hS];lia)) h64 h
end
end UfSort
end
section
namespace UfSet
open PySem PyProof.Rows
def dd(xs:List Str):List Str:=xs.foldl dY []
theorem yQ{ks:List Str}{k x:Str}:x∈dY ks k↔x∈ks∨x=k:=by
 unfold dY
 split
 ·rename_i h
  constructor
  ·exact .inl
  ·rintro(q | rfl)
   ·exact q
   ·exact h
 ·simp
theorem sj{x:Str}:∀ {xs acc:List Str},x∈xs.foldl dY acc↔x∈acc∨x∈xs
 | [],acc=>by simp
 | y::xs,acc=>by
  rw [List.foldl_cons,sj,yQ,List.mem_cons,or_assoc]
theorem mj:∀ {xs acc:List Str},acc.Nodup→(xs.foldl dY acc).Nodup
 | [],_,h=>h
 | y::xs,acc,h=>mj (xs:=xs) (gQ h)
theorem fb:∀ {xs acc:List Str},(xs.foldl dY acc).length≤acc.length+xs.length
 | [],acc=>by simp
 | y::xs,acc=>by
  have h1:=fb (xs:=xs) (acc:=dY acc y)
  have h2:=kH acc y
  rw [List.foldl_cons,List.length_cons]
  lia
theorem jd{xs:List Str}{x:Str}:x∈dd xs↔x∈xs:=by unfold dd;rw [sj];simp
theorem gr(xs:List Str):(dd xs).Nodup:=mj .nil
theorem iP:∀ {xs acc:List Str},(acc++xs).Nodup→xs.foldl dY acc=acc++xs
 | [],acc,_=>by simp
 | y::xs,acc,h=>by
  have hy:¬ y∈acc:=fun z=>by
   rw [List.nodup_append] at h
   exact h.2.2 y z y List.mem_cons_self rfl
  rw [List.foldl_cons,show dY acc y=acc++[y] by unfold dY;rw [if_neg hy],iP (by rw [List.append_assoc];exact h),List.append_assoc]
  rfl
theorem sf{xs:List Str}(h:xs.Nodup):dd xs=xs:=by unfold dd;rw [iP (by simpa using h)];rfl
theorem oA:∀ {xs acc:List Str},acc.Nodup→(xs.foldl dY acc).length=acc.length+xs.length→(acc++xs).Nodup
 | [],acc,h,_=>by simpa using h
 | y::xs,acc,h,hl=>by
  rw [List.foldl_cons,List.length_cons] at hl
  by_cases hy:y∈acc
  ·rw [show dY acc y=acc by unfold dY;rw [if_pos hy]] at hl
   have:=fb (xs:=xs) (acc:=acc)
   lia
  ·have e:dY acc y=acc++[y]:=by unfold dY;rw [if_neg hy]
   rw [e] at hl
   have q:=oA (xs:=xs) (acc:=acc++[y]) (by rw [← e];exact gQ h) (by rw [List.length_append,List.length_singleton];lia)
   rw [List.append_assoc] at q
   exact q
theorem sV{xs:List Str}:(dd xs).length=xs.length↔xs.Nodup:=by
 constructor
 ·intro h
  have:=oA (xs:=xs) (acc:=[]) .nil (by rw [List.length_nil,Nat.zero_add];exact h)
  simpa using this
 ·intro h
  rw [sf h]
section
variable {prog:Program}{w:World}{A:Around}{R:Result→Shared→Prop}{I:Addr}{fp wr:List Addr}{G:Array GenState→Array GenState→Prop}{St:Nat→Shared→Prop}
theorem du.keeps{w:World}{h h':Heap}{a:Addr}{ks:List Str}(x:du w h a ks)(k:∀ o,h.get? a=some o→h'.get? a=some o):du w h' a ks:=by
 obtain⟨o,es,ep,t,ks',ho,r⟩:=x
 exact⟨o,es,ep,t,ks',k _ ho,r⟩
theorem xN{xs:List Str}(W:WalksS prog w A.in1 I fp wr G xs.length (At xs) St)(S:Addr)(hSf:S∉fp)(hb:xs.length+1<scanBound):∀ (k i:Nat) (s:Shared) (acc:List Str),xs.length-i=k→i≤xs.length→St i s→du w s.heap S acc→acc.length≤i →
  (∀ s',Moved (S::wr) G s s'→du w s'.heap S ((xs.drop i).foldl dY acc)→R (.ok (.ret .none)) s')→codeAny (model prog w) A (.builtin "set.update.loop" ⟨[.ref S,.ref I],[]⟩) R s:=by
 have nSw:S∉wr:=fun z=>hSf (W.sub _ z)
 have sub:∀ b∈wr,b∈S::wr:=fun b z=>List.mem_cons_of_mem _ z
 intro k
 induction k with
 | zero =>
  intro i s acc hk hi st hS ha hR
  have e:i=xs.length:=by lia
  subst e
  refine codeAny_builtin PyProof.Rows.F.entry_set_update_loop ?_
  rw [Around.under_plainId PyProof.Rows.F.plain_set_update_loop _]
  show wpAny _ A.in1 (pyNext (.ref I) >>= _) _ _ s
  refine wpAny_bind (W.done s _ _ st fun s' hm=>?_)
  show wpAny _ A.in1 (ret Value.none) _ _ s'
  refine wpAny_pure (hR s' (hm.mono sub) ?_)
  rw [List.drop_of_length_le (Nat.le_refl _)]
  exact hS.keeps fun o ho=>hm.heap S _ nSw ho
 | succ k ih =>
  intro i s acc hk hi st hS ha hR
  have hlt:i<xs.length:=by lia
  refine codeAny_builtin PyProof.Rows.F.entry_set_update_loop ?_
  rw [Around.under_plainId PyProof.Rows.F.plain_set_update_loop _]
  show wpAny _ A.in1 (pyNext (.ref I) >>= _) _ _ s
  refine wpAny_bind (W.item i s _ _ hlt st fun v s' hP st' hm=>?_)
  obtain⟨x,tk,ex,rfl⟩:=hP
  have hS':du w s'.heap S acc:=hS.keeps fun o ho=>hm.heap S _ nSw ho
  show wpAny _ A.in1 (holding [Value.str x tk] (setAdd S (.str x tk)) >>= _) _ _ s'
  refine wpAny_bind (wpAny_holding ?_)
  unfold setAdd
  refine wpAny_holding ?_
  refine wpAny_bind ((strKind prog w).pyHash (k:=x) (by simp [PySem.strKind,Value.isStrOf]) ?_)
  refine um (s:={ s' with toks:=s'.toks+1 }) hS' (by lia) fun h' b sb hS2=>?_
  have hd:xs.drop i=x::xs.drop (i+1):=by
   rw [List.drop_eq_getElem_cons hlt]
   rw [List.getElem?_eq_getElem hlt] at ex
   rw [Option.some.inj ex]
  refine wpAny_pure ⟨plainId_quiet PyProof.Rows.F.plain_set_update_loop _,ih (i+1) _ (dY acc x) (by lia) hlt (W.frame _ s' _ _ st' (Nat.le_succ _) fun b hb' o e=>?_) hS2 (by have:=kH acc x;lia) fun s'' hm2 hS3=>?_⟩
  ·rw [sb.2 b (fun z:b=S=>hSf (by rw [← z];exact hb'))];exact e
  ·refine hR s'' (Moved.trans W.gtrans ((hm.mono sub).then_heap (Nat.le_succ _) fun b o hb' e=>?_) hm2) ?_
   ·rw [sb.2 b (fun z:b=S=>hb' (by rw [z];exact List.mem_cons_self))];exact e
   ·rw [hd,List.foldl_cons]
    exact hS3
end
end UfSet
end
section
namespace UfSet
open PySem PyProof.Rows
abbrev df(w:World):Obj:={ cls:=.type "set",dict:=none,data:=.set #[] 0 (.fresh 0 0 (!dR w)) }
theorem w4{w:World}{h:Heap}{a:Addr}(ho:h.get? a=some (df w)):du w h a [] :=
 ⟨_,#[],0,_,[],ho,⟨rfl,rfl,rfl⟩,rfl,.nil,.refl _,.nil,by show 0<scanBound;unfold scanBound;lia,by rfl,fun _=>rfl,rfl⟩
theorem gq:∀ {vs:List Value} {ss:List Str},StrsAre vs ss→vs.length=ss.length
 | _,_,.nil=>rfl
 | _,_,.cons _ _ h=>by rw [List.length_cons,List.length_cons,gq h]
theorem qK:∀ {vs:List Value} {ss:List Str} {i:Nat} {v:Value},StrsAre vs ss→vs[i]?=some v→At ss i v
 | _,_,_,_,.nil,e=>by simp at e
 | _,_,0,v,.cons x t h,e=>by
  have:Value.str x t=v:=by simpa using e
  exact⟨x,t,rfl,this.symm⟩
 | _,_,i+1,_,.cons x t h,e=>by
  obtain⟨k,tk,q1,q2⟩:=qK (i:=i) h (by simpa using e)
  exact⟨k,tk,by simpa using q1,q2⟩
theorem _root_.PySem.Walks.imp{prog:Program}{w:World}{A:Around}{I:Addr}{fp wr:List Addr}{n:Nat}{P P':Nat→Value→Prop}{St:Nat→Heap→Prop}(W:Walks prog w A I fp wr n P St)(h:∀ i v,P i v→P' i v):Walks prog w A I fp wr n P' St where
 sub:=W.sub
 frame:=W.frame
 item:=fun i s Q E hi st hQ=>W.item i s Q E hi st fun v h' tk hP=>hQ v h' tk (h i v hP)
 done:=W.done
 self:=W.self
section
variable {prog:Program}{w:World}{A:Around}{E:Value→Shared→Prop}{s:Shared}
theorem xJ(x:Value){Q:Value→Shared→Prop}(hq:Q (.ref s.heap.objs.size) { s with heap:=s.heap.push (df w) }) :
  codeAny (model prog w) A (.call (.builtin "set.__new__") ⟨[.type "set",x],[]⟩) (wants Q E) s:=by
 refine codeAny_of_tree ?_
 show wpAny _ A.in1 (checkBuiltinCall "set.__new__" ⟨[.type "set",x],[]⟩ >>= fun _=>again (.builtin "set.__new__" ⟨[.type "set",x],[]⟩)) _ _ s
 refine wpAny_bind (wpAny_of_eq (PySem.F.newCall_set_1 x) (wpAny_pure ⟨plainId_quiet PySem.F.plain_set_new _,codeAny_builtin PySem.F.entry_set_new ?_⟩))
 rw [Around.under_plainId PySem.F.plain_set_new _]
 unfold Builtin.«set.__new__» Builtin.Frozenset.newClass
 have f1:=sub_set_self
 obtain⟨hp,g,d,tk,os⟩:=s
 dsimp only
 wp_walk
 refine wpAny_askSetting (wpAny_pure ?_)
 dsimp only
 simp only [newObj]
 refine wpAny_bind (wpAny_alloc (wpAny_pure ?_))
 exact wpAny_pure hq
theorem rE{l:Addr}{its:List Value}{xs:List Str}{Q:Value→Shared→Prop}(hh:A.handled=none)(hl:s.heap.IsList l its.toArray)(hx:StrsAre its xs)(hb:xs.length+1<scanBound)
  (h:∀ (h':Heap) (tk:Nat),du w h' s.heap.objs.size (dd xs)→(∀ b o,s.heap.get? b=some o→h'.get? b=some o)→Q (.ref s.heap.objs.size) { s with heap:=h',toks:=tk }) :
  wpAny (model prog w) A (call (.type "set") [.ref l]) Q E s:=by
 obtain⟨c,tl,g1⟩:=PySem.F.called_set.mro
 have g2:=PySem.F.called_set.made
 have g3:=PySem.F.called_set.sub
 refine wpAny_call (codeAny_of_tree ?_)
 show wpAny _ _ (callAny (.type "set") _) _ _ _
 refine wpAny_pure ⟨Code.quiet_builtin _ (by decide +kernel),codeAny_builtin PySem.F.entry_type_call ?_⟩
 rw [Around.under_plain (weight_type_call_type "set" [.ref l] []) rfl]
 have g4:=PySem.F.called_set.notType
 have g5:=PySem.F.called_set.canCreate
 have g6:=PySem.F.typeCall_set_1 (.ref l)
 repeat (any_goals (first | assumption | wp_step))
 refine codeAny_mono (xJ (.ref l) (E:=E) (Q:=fun obj s₁=>obj=.ref s.heap.objs.size∧s₁={ s with heap:=s.heap.push (df w) }) ⟨rfl,rfl⟩) fun r s₁ hr=>?_
 cases r with
 | error e=>exact hr
 | ok fl =>
  cases fl with
  | ret obj =>
   obtain⟨rfl,rfl⟩:=hr
   have o1:(s.heap.push (df w)).get? s.heap.objs.size=some (df w):=Heap.get?_push_size _ rfl
   have T1:Shared.TypeIs { s with heap:=s.heap.push (df w) } (.ref s.heap.objs.size) "set":=⟨_,o1,rfl⟩
   have g7:=PySem.F.called_set.init.lookup
   have g8:=PySem.F.called_set.init.bind (.ref s.heap.objs.size)
   repeat (any_goals (first | assumption | wp_step))
   refine codeAny_mono (codeAny_call_builtin (R:=wants (fun r s₂=>r=.none∧∃ h' tk,s₂={ s with heap:=h',toks:=tk }∧du w h' s.heap.objs.size (dd xs)∧(∀ b o,s.heap.get? b=some o→h'.get? b=some o)) E) PySem.F.called_set.init.plain PySem.F.entry_set_init (check_set_init_1 T1 ?_)) fun r₂ s₂ hr₂=>?_
   ·obtain⟨ol,hol,hcl,nl,hdl⟩:=hl
    obtain⟨ocls,odict,odata,oslots⟩:=ol
    simp only at hcl hdl
    subst hcl;subst hdl
    have hol':(s.heap.push (df w)).get? l=some { cls:=.type "list",dict:=odict,data:=.seq its.toArray nl,slots:=oslots }:=Heap.get?_push_of_some _ hol
    have n1:=PySem.F.sub_list_set
    have n2:=PySem.F.sub_list_frozenset
    have n3:(Value.type "list" == Value.type "dict")=false:=by decide
    have l1:(s.heap.push (df w)).IsList l its.toArray:=⟨_,hol',rfl,nl,rfl⟩
    unfold Builtin.«set.__init__» noKeywords Builtin.Frozenset.updateFrom
    generalize hPI:pyIter=PI
    wp_walk
    subst hPI
    refine wpAny_pyIter_list l1 ?_
    refine wpAny_bind (wpAny_runValue ?_)
    have lt:l<s.heap.objs.size:=Heap.lt_size hol
    have h3:A.in1.in1.in1.handled=none:=by simp [hh]
    have neI:l≠(s.heap.push (df w)).objs.size:=by rw [Heap.size_push];exact Nat.ne_of_lt (Nat.lt_succ_of_lt lt)
    have nf:s.heap.objs.size∉[(s.heap.push (df w)).objs.size,l]:=by
     rw [Heap.size_push]
     simp only [List.mem_cons,List.not_mem_nil,or_false,not_or]
     exact⟨Nat.ne_of_lt (Nat.lt_succ_self _),Nat.ne_of_gt lt⟩
    have hat:∀ (i:Nat) (v:Value),its.toArray[i]?=some v→At xs i v:=fun i v e=>by
     have e':its[i]?=some v:=by simpa using e
     exact qK hx e'
    have hsz:its.toArray.size=xs.length:=by rw [List.size_toArray];exact gq hx
    have W0:=(Walks.list (prog:=prog) (w:=w) h3 (s.heap.push (df w)).objs.size l neI its.toArray).imp hat
    rw [hsz] at W0
    refine xN W0.toS s.heap.objs.size nf hb xs.length 0 _ [] (by lia) (Nat.zero_le _) ⟨⟨_,Heap.get?_push_size _ rfl,rfl,rfl⟩,(l1.push _)⟩ (w4 (Heap.get?_push_of_some _ o1)) (Nat.le_refl _) ?_
    intro s' hm hS'
    rw [List.drop_zero] at hS'
    rw [qI hm]
    show wpAny _ _ _ _ _ _
    refine wpAny_pure ?_
    show wpAny _ _ (ret Value.none) _ _ _
    refine wpAny_pure ⟨rfl,s'.heap,s'.toks,rfl,hS',fun b o e=>?_⟩
    have lb:=Heap.lt_size e
    refine hm.heap b o (fun z=>?_) (Heap.get?_push_of_some _ (Heap.get?_push_of_some _ e))
    simp only [List.mem_cons,List.not_mem_nil,or_false] at z
    rcases z with z | z
    ·exact absurd z (Nat.ne_of_lt lb)
    ·rw [Heap.size_push] at z
     exact absurd z (Nat.ne_of_lt (Nat.lt_succ_of_lt lb))
   ·cases r₂ with
    | error e=>exact hr₂
    | ok fl₂ =>
     cases fl₂ with
     | ret r =>
      obtain⟨rfl,h',tk,rfl,q1,q2⟩:=hr₂
      repeat (any_goals (first | assumption | wp_step))
      exact h _ _ q1 q2
     | _=>exact hr₂.elim
  | _=>exact hr.elim
end
end UfSet
end
section
namespace L2
open PySem PySem.Spec PyProof.Rows UfSrt
section
variable {X:Cx}{pins:List (Addr × Obj)}{σ:St}{H:Hp}{s:Shared}
theorem Inv.draw(I:Inv X pins σ H s)(d:Drawn):Inv X pins σ H { s with drawn:=d } :=
 ⟨I.ok,I.os,I.bare,I.base,I.loc,I.cell,I.free,I.freeC,I.pin,I.hok,I.len⟩
def aq(ss:List Str):List V:=ss.map V.str
theorem qj:∀ {ss:List Str} {us:List Value},Vals (aq ss) us→StrsAre us ss
 | [],_,.nil=>.nil
 | x::ss,_,.cons r t=>by
  obtain⟨tk,rfl⟩:=r
  exact .cons x tk (qj t)
theorem uO:∀ {ss:List Str} {us:List Value},StrsAre us ss→Vals (aq ss) us
 | _,_,.nil=>.nil
 | _,_,.cons x tk h=>.cons ⟨tk,rfl⟩ (uO h)
theorem ah(ss:List Str):(aq ss).length=ss.length:=List.length_map _
def jC(w:World)(a:Addr)(ks:List Str):HO:=.ext fun h=>UfSet.du w h a ks
theorem Bp{P:Program}{w:World}{H':Hp}{h:Heap}{a:Addr}{ks:List Str}(x:UfSet.du w h a ks):bO P w H' h a (jC w a ks):=by
 refine⟨x,?_,fun h1 h2 p k=>p.keeps k⟩
 obtain⟨o,_,_,_,_,e,_⟩:=x
 exact⟨o,e⟩
theorem zh{a:Addr}{ks:List Str}(I:Inv X pins σ H s)(e:H a=some (jC X.w a ks)):UfSet.du X.w s.heap a ks:=(I.hok a _ e).1
def BP(K:PySem.W.Frag)(w:World):List V→Hp→VK→Prop:=fun xs H Q=>∃ l ss,xs=[.ref l]∧aI K H l (aq ss)∧ss.length≤1000∧∀ p,H p=none→Q (.ref p) (upd H p (jC w p (UfSet.dd ss)))
theorem jI(hc:X.calm=true):dC X (.type "set") (BP X.K X.w):=by
 intro pins s σ H xs us Q I r h
 obtain⟨l,ss,rfl,hl,hz,q⟩:=h
 obtain⟨u,rfl,ru⟩:=vals1 r
 cases ru
 obtain⟨its,rv,pl,_⟩:=I.list hl
 have hS:=qj rv
 have hf:H s.heap.objs.size=none:=I.hok.fresh (Nat.le_refl _)
 refine UfSet.rE (I.ok.hd hc) pl.isList hS (by show ss.length+1<4096;lia) fun h' tk hset hk=>?_
 exact⟨.ref s.heap.objs.size,_,I.laid (t':=tk) hk (Nat.le_refl _) (Bp hset),rfl,q _ hf⟩
theorem w6:dC X (.builtin "len") (fun xs H Q=>∃ a ks,xs=[V.ref a]∧H a=some (jC X.w a ks)∧Q (.int ks.length) H):=by
 intro pins s σ H xs us Q I r h
 obtain⟨a,ks,rfl,ha,q⟩:=h
 obtain⟨u,rfl,ru⟩:=vals1 r
 cases ru
 obtain⟨o,es,ep,t,ks',ho,hex,hd,he,hp,hn,hb,hf,_⟩:=zh I ha
 have el:es.size=ks.length:=by rw [← hp.length_eq,he.len];simp
 have hb':es.size<4096:=hb
 refine call_len_set ho hex hd hf (by lia) ⟨.int ks.length,H,I.tok _,⟨_,by rw [el]⟩,q⟩
theorem lx{h':Heap}{tk:Nat}{d:Drawn}{D:Addr}{ss:List Str}(I:Inv X pins σ H s)(L:UfSort.Left s.heap h' D ss)(hz:ss.length≤1000):Inv X pins σ (upd H D (.lst (aq (aw ss)))) { s with heap:=h',toks:=tk,drawn:=d }:=by
 obtain⟨vs,n,e,hS⟩:=L.at'
 have hl:(aq (aw ss)).length≤sizeLine:=by
  rw [ah,aW,sizeLine_eq]
  lia
 exact(I.laid (o:=.lst (aq (aw ss))) (t':=tk) L.keep L.new (show bO X.prog X.w _ h' D (.lst (aq (aw ss))) from⟨hl,vs,n,uO hS,e⟩)).draw d
def BK(K:PySem.W.Frag):List V→Hp→VK→Prop:=fun xs H Q=>∃ l ss,xs=[.ref l]∧aI K H l (aq ss)∧ss.length<64∧∀ p,H p=none→Q (.ref p) (upd H p (.lst (aq (aw ss))))
theorem c0:dC X (.builtin "sorted") (BK X.K):=by
 intro pins s σ H xs us Q I r h
 obtain⟨l,ss,rfl,hl,hz,q⟩:=h
 obtain⟨u,rfl,ru⟩:=vals1 r
 cases ru
 obtain⟨its,rv,pl,_⟩:=I.list hl
 refine UfSort.sC pl.isList (qj rv) hz fun h' tk d D L=>?_
 exact⟨.ref D,_,lx I L (by lia),rfl,q _ (I.hok.fresh L.new)⟩
def BL(w:World):List V→Hp→VK→Prop:=fun xs H Q=>∃ a ks,xs=[.ref a]∧H a=some (jC w a ks)∧ks.length<64∧∀ p,H p=none→Q (.ref p) (upd H p (.lst (aq (aw ks))))
theorem i7(hc:X.calm=true):dC X (.builtin "sorted") (BL X.w):=by
 intro pins s σ H xs us Q I r h
 obtain⟨a,ks,rfl,ha,hz,q⟩:=h
 obtain⟨u,rfl,ru⟩:=vals1 r
 cases ru
 refine UfSort.tV (I.ok.hd hc) (zh I ha) hz fun h' tk d D L=>?_
 exact⟨.ref D,_,lx I L (by lia),rfl,q _ (I.hok.fresh L.new)⟩
theorem xy:∀ {bs:List Bool} {us:List Value} {i:Nat} {v:Value},Vals (bs.map V.bl) us→us[i]?=some v→v=.bool (bs.getD i true)∧i<bs.length
 | [],_,_,_,.nil,e=>by simp at e
 | b::bs,_,0,v,.cons r t,e=>by
  simp at e
  subst e
  exact⟨r,by simp⟩
 | b::bs,_,i+1,v,.cons r t,e=>by
  obtain⟨h1,h2⟩:=xy (i:=i) t (by simpa using e)
  exact⟨by simpa using h1,by simpa using h2⟩
theorem all_range(bs:List Bool):(List.range bs.length).all (fun i=>bs.getD i true)=bs.all id:=by
 induction bs with
 | nil=>rfl
 | cons b bs ih =>
  rw [List.length_cons,List.range_succ_eq_map,List.all_cons,List.all_map,List.all_cons]
  have e:(List.range bs.length).all ((fun i=>(b::bs).getD i true) ∘ Nat.succ)=(List.range bs.length).all (fun i=>bs.getD i true):=by
   congr 1
  rw [e,ih]
  rfl
theorem any_range(bs:List Bool):(List.range bs.length).any (fun i=>bs.getD i true)=bs.any id:=by
 induction bs with
 | nil=>rfl
 | cons b bs ih =>
  rw [List.length_cons,List.range_succ_eq_map,List.any_cons,List.any_map,List.any_cons]
  have e:(List.range bs.length).any ((fun i=>(b::bs).getD i true) ∘ Nat.succ)=(List.range bs.length).any (fun i=>bs.getD i true):=by
   congr 1
  rw [e,ih]
  rfl
theorem mE{A:Around}{l:Addr}{bs:List Bool}{its:List Value}(hh:A.handled=none)(rv:Vals (bs.map V.bl) its)(I:Addr)(hne:l≠I) :
  Walks X.prog X.w A I [I,l] [I] bs.length (fun i v=>v=.bool (bs.getD i true)) (fun i h=>h.IsListIter I l i∧h.IsList l its.toArray):=by
 have el:its.toArray.size=bs.length:=by
  have:=rv.length
  rw [List.length_map] at this
  simp [this]
 have W:=(Walks.list (prog:=X.prog) (w:=X.w) hh I l hne its.toArray).imp (P':=fun i v=>v=.bool (bs.getD i true)) fun i v e=>(xy rv (by simpa using e)).1
 rw [el] at W
 exact W
def Fj(K:PySem.W.Frag):List V→Hp→VK→Prop:=fun xs H Q=>∃ (l:Addr) (bs:List Bool),xs=[.ref l]∧aI K H l (bs.map V.bl)∧Q (.bl (bs.all id)) H
def E2(K:PySem.W.Frag):List V→Hp→VK→Prop:=fun xs H Q=>∃ (l:Addr) (bs:List Bool),xs=[.ref l]∧aI K H l (bs.map V.bl)∧Q (.bl (bs.any id)) H
theorem hW(hc:X.calm=true):dC X (.builtin "all") (Fj X.K):=by
 intro pins s σ H xs us Q I r h
 obtain⟨l,bs,rfl,hl,q⟩:=h
 obtain⟨u,rfl,ru⟩:=vals1 r
 cases ru
 obtain⟨its,rv,pl,_⟩:=I.list hl
 have hh:X.A.in1.handled=none:=I.ok.hd hc
 have lt:l<s.heap.objs.size:=let ⟨o,_,e,_⟩:=pl;Heap.lt_size e
 refine call_all_walk (wpAny_pyIter_list pl.isList ⟨_,_,_,_,_,_,fun i=>bs.getD i true,rfl,mE hh rv _ (Nat.ne_of_lt lt),⟨⟨_,Heap.get?_push_size _ rfl,rfl,rfl⟩,pl.isList.push _⟩,fun i v s Q E hv hQ=>?_,fun h' tk hk=>?_⟩)
 ·subst hv
  exact wpAny_truthy_bool hQ
 ·rw [all_range]
  refine⟨.bl (bs.all id),H,I.kept (t':=tk) fun b o e=>hk b o (fun z=>?_) (Heap.get?_push_of_some _ e),rfl,q⟩
  have z':b=s.heap.objs.size:=by simpa using z
  exact absurd (Heap.lt_size e) (by rw [z'];exact Nat.lt_irrefl _)
theorem iq(hc:X.calm=true):dC X (.builtin "any") (E2 X.K):=by
 intro pins s σ H xs us Q I r h
 obtain⟨l,bs,rfl,hl,q⟩:=h
 obtain⟨u,rfl,ru⟩:=vals1 r
 cases ru
 obtain⟨its,rv,pl,_⟩:=I.list hl
 have hh:X.A.in1.handled=none:=I.ok.hd hc
 have lt:l<s.heap.objs.size:=let ⟨o,_,e,_⟩:=pl;Heap.lt_size e
 refine call_any_walk (wpAny_pyIter_list pl.isList ⟨_,_,_,_,_,_,fun i=>bs.getD i true,rfl,mE hh rv _ (Nat.ne_of_lt lt),⟨⟨_,Heap.get?_push_size _ rfl,rfl,rfl⟩,pl.isList.push _⟩,fun i v s Q E hv hQ=>?_,fun h' tk hk=>?_⟩)
 ·subst hv
  exact wpAny_truthy_bool hQ
 ·rw [any_range]
  refine⟨.bl (bs.any id),H,I.kept (t':=tk) fun b o e=>hk b o (fun z=>?_) (Heap.get?_push_of_some _ e),rfl,q⟩
  have z':b=s.heap.objs.size:=by simpa using z
  exact absurd (Heap.lt_size e) (by rw [z'];exact Nat.lt_irrefl _)
def sign(c:Nat):V:=.str ⟨#[c]⟩
def DV(x:Str):It:=⟨fun i _=>i<x.cps.size,fun i H v H'=>H'=H∧∃ c,x.cps[i]?=some c∧v=sign c,fun i _=>i=x.cps.size⟩
end
theorem rA{P:Program}{w:World}{K:PySem.W.Frag}{tg:Expr}{x:Str}{it:Addr}{St:Nat→Heap→Prop}(W:∀ A':Around,A'.handled=none→Walks P w A' it [it] [it] x.cps.size (SignAt x) St)
  (ho:∀ i h,St i h→∃ o nm vs,h.get? it=some o∧o.cls=.type nm∧o.data=.fields vs∧["enumerate", "zip", "dict_itemiterator", "dict_reverseitemiterator", "odict_iterator", "itertools.zip_longest", "itertools.pairwise"].contains nm=false)
  (hs:∀ (A:Around) (i:Nat) (s:Shared) (Q:Value→Shared→Prop) (E:Value→Shared→Prop),St i s.heap→Q (.ref it) s→wpAny (model P w) A (pyIter (.ref it)) Q E s):Turn P w K tg (DV x) [it] it St where
 mem:=by simp
 obj:=fun i h st b hb=>by
  have e:b=it:=by simpa using hb
  subst e
  obtain⟨o,nm,vs,e,_,d,_⟩:=ho i h st
  exact⟨o,e,fun v z=>by rw [d] at z;cases z⟩
 keep:=fun i h h' st k=>(W ⟨none,0,none,none,1⟩ rfl).frame i h h' st fun b hb o e=>k b hb o e
 item:=by
  intro X hP hw hK hc i pins s σ H E I hf st hg
  subst hP hw hK
  obtain⟨f0,f1,f2,f3,f4,f5⟩:=hf it (by simp)
  refine(W X.A (I.ok.hd hc)).item i s _ _ hg st fun v h' tk hP st' kk=>?_
  obtain⟨c,u,hx,rfl⟩:=hP
  have I1:Inv X pins σ H { s with heap:=h',toks:=tk }:=I.turned (fun b o hb e=>kk b o (by simpa using hb) e) f0 f1 f3 f4 f5
  obtain⟨o,nm,vs,e,c1,d,hn⟩:=ho _ _ st'
  exact⟨_,rfl,qL (s:={ s with heap:=h',toks:=tk }) e c1 d hn ⟨sign c,H,I1,⟨u,rfl⟩,⟨rfl,c,hx,rfl⟩,st',fun b hb=>(hf b hb).1⟩⟩
 done:=by
  intro X hP hw hK hc i pins s σ H E I hf st hg
  subst hP hw hK
  obtain⟨f0,f1,f2,f3,f4,f5⟩:=hf it (by simp)
  have e:i=x.cps.size:=hg
  subst e
  exact(W X.A (I.ok.hd hc)).done s _ _ st fun h' tk kk=>⟨rfl,I.turned (fun b o hb e=>kk b o (by simpa using hb) e) f0 f1 f3 f4 f5⟩
 self:=hs
section
variable {X:Cx}{tg:Expr}
def Fq(tl:TE):TI:=fun σ H R=>tl σ H fun v H1=>∃ x,v=.str x∧R (DV x) H1
theorem Bf{l:Expr}{tl:TE}(hl:PE X l tl):PI X tg l (Fq tl):=by
 intro pins s σ H R I h
 refine cc (hl pins s σ H _ I h) fun v s1 ⟨y,H1,I1,r1,q1⟩=>?_
 obtain⟨x,e,q⟩:=q1
 subst e
 obtain⟨t,rfl⟩:=r1
 have fp:∀ b∈[s1.heap.objs.size],gP X pins H1 b:=fun b hb=>by
  have e:b=s1.heap.objs.size:=by simpa using hb
  subst e
  exact I1.tD (Nat.le_refl _) (I1.hok.fresh (Nat.le_refl _))
 cases ha:x.cps.all (· < 128) with
 | false =>
  refine wpAny_pyIter_wide ha ?_
  refine⟨s1.heap.objs.size,[s1.heap.objs.size],fun i h=>h.IsStrIter s1.heap.objs.size "str_iterator" x t i,DV x,H1,rfl,I1.kept (t':=s1.toks) fun b o e=>Heap.get?_push_of_some _ e,rA (fun A' hA=>Walks.strWide hA _ x t) (fun i h st=>?_) (fun A i s Q E st hq=>wpAny_pyIter_striter_wide st hq),⟨_,Heap.get?_push_size _ rfl,rfl,rfl⟩,fp,q⟩
  obtain⟨o,e1,e2,e3⟩:=st
  exact⟨o,_,_,e1,e2,e3,by decide⟩
 | true =>
  refine wpAny_pyIter_ascii ha ?_
  refine⟨s1.heap.objs.size,[s1.heap.objs.size],fun i h=>h.IsStrIter s1.heap.objs.size "str_ascii_iterator" x t i,DV x,H1,rfl,I1.kept (t':=s1.toks) fun b o e=>Heap.get?_push_of_some _ e,rA (fun A' hA=>Walks.strAscii hA _ x t) (fun i h st=>?_) (fun A i s Q E st hq=>wpAny_pyIter_striter_ascii st hq),⟨_,Heap.get?_push_size _ rfl,rfl,rfl⟩,fp,q⟩
  obtain⟨o,e1,e2,e3⟩:=st
  exact⟨o,_,_,e1,e2,e3,by decide⟩
end
section
variable {K:PySem.W.Frag}{n:Nat}{ci:List Nat}{g:TG}{tt:TT}{te:TE}{σ:St}{H:Hp}{D:Addr}{Q:VK}
theorem br{a:Addr}{xs:List V}(Pv:Nat→List V→Hp→Prop)(h0:Pv 0 [] (upd H D (.lst [])))(hl:∀ i ys H,i≤xs.length→Pv i ys H→aI K H a xs)
  (hs:∀ i x ys H,xs[i]?=some x→Pv i ys H→g x (rF n ci σ) H fun σ2 H2=>tt σ2 H2 fun b H3=>if b=true then te σ2 H3 fun y H4=>H4 D=some (.lst ys)∧ys.length<sizeLine∧Pv (i+1) (ys++[y]) (upd H4 D (.lst (ys++[y]))) else Pv (i+1) ys H3)
  (hd:∀ ys H,Pv xs.length ys H→Q (.ref D) H) :
  iC n ci (CK K a) g tt te σ H D Q:=by
 unfold iC
 refine⟨xs.length,Pv,h0,fun i ys H hi p=>?_⟩
 have q:=hl i ys H hi p
 by_cases hlt:i<xs.length
 ·refine .inr ⟨hlt,⟨xs,xs[i],q,by simp [hlt]⟩,fun x H' y=>?_⟩
  obtain⟨e,y⟩:=y
  subst e
  exact hs i x ys _ (y xs q) p
 ·have e:i=xs.length:=by lia
  subst e
  exact .inl ⟨⟨xs,q,Nat.le_refl _⟩,hd ys H p⟩
theorem sD{a:Addr}{xs:List V}(Pv:Nat→List V→Hp→Prop)(h0:Pv 0 [] (upd H D (.lst [])))(hl:∀ i ys H,i≤xs.length→Pv i ys H→cg K H a xs)
  (hs:∀ i x ys H,xs[i]?=some x→Pv i ys H→g x (rF n ci σ) H fun σ2 H2=>tt σ2 H2 fun b H3=>if b=true then te σ2 H3 fun y H4=>H4 D=some (.lst ys)∧ys.length<sizeLine∧Pv (i+1) (ys++[y]) (upd H4 D (.lst (ys++[y]))) else Pv (i+1) ys H3)
  (hd:∀ ys H,Pv xs.length ys H→Q (.ref D) H) :
  iC n ci (EV K a) g tt te σ H D Q:=by
 unfold iC
 refine⟨xs.length,Pv,h0,fun i ys H hi p=>?_⟩
 have q:=hl i ys H hi p
 by_cases hlt:i<xs.length
 ·refine .inr ⟨hlt,⟨xs,xs[i],q,by simp [hlt]⟩,fun x H' y=>?_⟩
  obtain⟨e,y⟩:=y
  subst e
  exact hs i x ys _ (y xs q) p
 ·have e:i=xs.length:=by lia
  subst e
  exact .inl ⟨⟨xs,q,Nat.le_refl _⟩,hd ys H p⟩
theorem xK{x:Str}(Pv:Nat→List V→Hp→Prop)(h0:Pv 0 [] (upd H D (.lst [])))
  (hs:∀ i c ys H,x.cps[i]?=some c→Pv i ys H→g (sign c) (rF n ci σ) H fun σ2 H2=>tt σ2 H2 fun b H3=>if b=true then te σ2 H3 fun y H4=>H4 D=some (.lst ys)∧ys.length<sizeLine∧Pv (i+1) (ys++[y]) (upd H4 D (.lst (ys++[y]))) else Pv (i+1) ys H3)
  (hd:∀ ys H,Pv x.cps.size ys H→Q (.ref D) H) :
  iC n ci (DV x) g tt te σ H D Q:=by
 unfold iC
 refine⟨x.cps.size,Pv,h0,fun i ys H hi p=>?_⟩
 by_cases hlt:i<x.cps.size
 ·refine .inr ⟨hlt,hlt,fun v H' y=>?_⟩
  obtain⟨e,c,hc,rfl⟩:=y
  subst e
  exact hs i c ys _ hc p
 ·have e:i=x.cps.size:=by lia
  subst e
  exact .inl ⟨rfl,hd ys H p⟩
end
end L2
end
section
namespace Uf
open PySem L2 UfSrt
def top (i:Nat):Stmt:=PySem.Challenge.pw_unfoldnet_k92_whole_poured.main.body.getD i (.Pass ⟨0,0,0,0⟩)
abbrev cK:Stmt:=top 9
abbrev dF:Stmt:=top 16
abbrev d7:Stmt:=top 17
abbrev d6:Stmt:=top 18
abbrev eZ:Stmt:=top 19
theorem qZ:bootBuiltins "all"=some (.builtin "all"):=by decide +kernel
theorem qE:bootBuiltins "any"=some (.builtin "any"):=by decide +kernel
theorem dB:bootBuiltins "len"=some (.builtin "len"):=by decide +kernel
theorem uE:bootBuiltins "set"=some (.type "set"):=by decide +kernel
theorem cY:bootBuiltins "list"=some (.type "list"):=by decide +kernel
theorem fE:bootBuiltins "tuple"=some (.type "tuple"):=by decide +kernel
theorem Dw:bootBuiltins "str"=some (.type "str"):=by decide +kernel
theorem cN:bootBuiltins "sorted"=some (.builtin "sorted"):=by decide +kernel
theorem lZ:bootBuiltins "isinstance"=some (.builtin "isinstance"):=by decide +kernel
def zl:Str:="abcdefghijklmnopqrstuvwxyz"
def isNm(x:Str):Bool:=decide (1≤x.length)&&(decide (x.length≤8)&&x.cps.toList.all fun c=>decide (c∈zl.cps.toList))
structure Txt(K:PySem.W.Frag)(mg:Str→Option Value):Prop where
 all:mg "all"=none
 len:mg "len"=none
 set:mg "set"=none
 lst:mg "list"=none
 tup:mg "tuple"=none
 str:mg "str"=none
 aw:mg "sorted"=none
 isi:mg "isinstance"=none
 letters:∃ tk,mg "LETTERS"=some (.str zl tk)
 longest:∃ tk,mg "LONGEST_NAME"=some (.int 8 tk)
 mostP:∃ tk,mg "MOST_PLACES"=some (.int 12 tk)
 mostM:∃ tk,mg "MOST_MOVES"=some (.int 12 tk)
 leastT:∃ tk,mg "LEAST_TAKEN"=some (.int 1 tk)
 mostT:∃ tk,mg "MOST_TAKEN"=some (.int 4 tk)
 mostG:∃ tk,mg "MOST_GIVEN"=some (.int 4 tk)
theorem af{H:Hp}{D:Addr}{o:HO}(h:H D=none):ao H (upd H D o):=fun b u e=>by
 rw [ar (ay e h)]
 exact e
theorem aD{H H2:Hp}{D:Addr}{o:HO}(s:ao H H2)(h:H D=none):ao H (upd H2 D o):=fun b u e=>by
 rw [ar (ay e h)]
 exact s b u e
theorem av{α:Type}{l:List α}{i:Nat}{a:α}(h:l[i]?=some a):l.take (i+1)=l.take i++[a]:=by
 rw [List.take_add_one,h]
 rfl
theorem bV{X:Cx}{N:List Str}(h:N.Nodup)(e:X.N=N:=by rfl):X.N.Nodup:=by rw [e];exact h
section
variable {X:Cx}
theorem rH:dC X (.builtin "isinstance") (fun xs H Q=>∃ x c t b,xs=[x,.ty c]∧i8 X.K H x t∧PySem.W.kitOne X.K t (.type c)=some b∧Q (.bl b) H):=by
 intro pins s σ H xs us Q I r h
 obtain⟨x,c,t,b,rfl,ty,e,q⟩:=h
 obtain⟨u,v,rfl,ru,rv⟩:=vals2 r
 cases rv
 exact vO I ru ty e fun tk=>⟨.bl b,H,I.tok tk,rfl,q⟩
end
section
variable {P:Program}{w:World}{K:PySem.W.Frag}{mg:Str→Option Value}{base:Heap}
def lE:Sp:=fun vs H Q _=>∃ x:Str,vs=[.str x]∧x.length≤1000∧∀ H',ao H H'→Q (.bl (isNm x)) H'
theorem xj:aU ["thing"] ["thing"] (ai cK):=⟨rfl,rfl,rfl,by decide +kernel,rfl,by decide +kernel,by decide +kernel⟩
theorem oS{f:Addr}{fd:FuncData}(F:dW K "is_name" "is_name" cK f fd)(T:Txt K mg):aH P w K mg base bX 1 f fd ["thing"] lE:=by
 refine F.ok xj (fun vs H Q E h=>?_) (fun cdv A outer s H vs Q E hr h=>?_)
 ·obtain⟨x,rfl,_⟩:=h
  rfl
 ·obtain⟨x,rfl,hz,k⟩:=h
  obtain⟨tl,hl⟩:=T.letters
  obtain⟨tn,hn⟩:=T.longest
  refine⟨_,aj (bB (PW.pt (pw_or (cR (cu (aF rH rfl T.isi lZ (aa (pv 0) (aa (pj (v:=.ty "str") rfl T.str Dw rfl) ag)))))
    (pw_or1 (cR (xq nZ nZ ak (aF bG rfl T.len dB (aa (pv 0) ag)) (dQ (v:=.int 8) rfl hn ⟨tn,rfl⟩))))))
    (au (aK fg)) aX)
   (au (aK (aF (hW rfl) rfl T.all qZ (aa (bJ (N:=["sign"]) (n:=1) (ci:=[]) rfl (Bf (pv 0)) (g9.of (so:=ai cK) (N0:=["thing"]) ⟨rfl,by decide +kernel,by decide +kernel,by decide +kernel,rfl,rfl,by decide +kernel,by decide +kernel⟩)
    (fun z=>⟨aA (i:=0) (bV (N:=["sign"]) (by decide +kernel)) rfl (Or.inl rfl),bP,cI wK (pv 0) (dQ (v:=.str zl) rfl hl ⟨tl,rfl⟩) (by with_unfolding_all rfl)⟩)) ag)))),?_⟩
  refine⟨_,rfl,_, "str",_,true,rfl,i8.str x,(by rfl),true,rfl,?_⟩
  refine bS ?_
  have hs:x.length≤sizeLine:=by rw [sizeLine_eq];lia
  refine⟨_,rfl,_,x.length,rfl,⟨hs,rfl⟩,1,_,rfl,rfl,_,rfl,?_⟩
  by_cases h1:1≤x.length
  ·rw [decide_eq_true (show(1:Int)≤(x.length:Int) by lia)]
   refine cG ?_
   refine⟨_,_,rfl,rfl,_,rfl,?_⟩
   by_cases h8:x.length≤8
   ·rw [decide_eq_true (show(x.length:Int)≤8 by lia)]
    refine bS ?_
    refine⟨_,rfl,x,rfl,fun z D hD=>xK (fun i ys H2=>ys=(x.cps.toList.take i).map (fun c=>V.bl (decide (c∈zl.cps.toList)))∧H2 D=some (.lst ys)∧ao H H2) ⟨rfl,ae,af hD⟩ ?_ ?_⟩
    ·rintro i c ys H2 hc ⟨rfl,hys,sm⟩
     refine⟨_,rfl,⟨#[c]⟩,zl,rfl,rfl,hys,?_,?_,ae,aD sm hD⟩
     ·rw [List.length_map,List.length_take,Array.length_toList]
      have:x.cps.size≤8:=h8
      rw [sizeLine_eq]
      lia
     ·rw [av (by rw [Array.getElem?_toList];exact hc),List.map_append,PySem.StrLaws.found_one]
      rfl
    ·rintro ys H2 ⟨rfl,hys,sm⟩
     refine⟨D,x.cps.toList.map fun c=>decide (c∈zl.cps.toList),rfl,aI.of ?_,?_⟩
     ·rw [hys]
      rw [List.take_of_length_le (by simp),List.map_map]
      rfl
     ·have e:isNm x=(x.cps.toList.map fun c=>decide (c∈zl.cps.toList)).all id:=by
       unfold isNm
       rw [decide_eq_true h1,decide_eq_true h8,List.all_map]
       rfl
      rw [← e]
      exact k H2 sm
   ·rw [decide_eq_false (show ¬(x.length:Int)≤8 by lia)]
    refine cG ?_
    have e:isNm x=false:=by unfold isNm;rw [decide_eq_false h8];simp
    rw [← e]
    exact k H (ao.refl H)
  ·rw [decide_eq_false (show ¬(1:Int)≤(x.length:Int) by lia)]
   refine bS ⟨_,rfl,?_⟩
   refine cG ?_
   have e:isNm x=false:=by unfold isNm;rw [decide_eq_false h1];simp
   rw [← e]
   exact k H (ao.refl H)
end
end Uf
end
section
namespace Uf
open PySem L2 UfSrt
structure Def(K:PySem.W.Frag)(mg:Str→Option Value)(x:Str)(st:Stmt)(ps:List Str)(f:Addr)(fd:FuncData):Prop where
 fn:dW K x x st f fd
 mg:mg x=some (.ref f)
 bd:Binds K fd ps []
def unlike(xs:List Str):Bool:=xs.all isNm&&decide xs.Nodup
def Short(xs:List Str):Prop:=xs.length≤200∧∀ x∈xs,x.length≤1000
theorem bQ{xs:List Str}{i:Nat}{v:V}(h:(aq xs)[i]?=some v):∃ x,xs[i]?=some x∧v=.str x:=by
 unfold aq at h
 rw [List.getElem?_map] at h
 cases e:xs[i]? with
 | none=>rw [e] at h;cases h
 | some x=>rw [e] at h;exact⟨x,rfl,(Option.some.inj h).symm⟩
section
variable {P:Program}{w:World}{K:PySem.W.Frag}{mg:Str→Option Value}{base:Heap}
def mV(K:PySem.W.Frag):Sp:=fun vs H Q _=>∃ (a:Addr) (xs:List Str),vs=[.ref a]∧aI K H a (aq xs)∧Short xs∧∀ H',ao H H'→Q (.bl (unlike xs)) H'
theorem yF:aU ["things"] ["things"] (ai dF):=⟨rfl,rfl,rfl,by decide +kernel,rfl,by decide +kernel,by decide +kernel⟩
theorem o6{f fN:Addr}{fd fdN:FuncData}(F:dW K "are_unlike_names" "are_unlike_names" dF f fd)(T:Txt K mg)(DN:Def K mg "is_name" cK ["thing"] fN fdN):aH P w K mg base bX 2 f fd ["things"] (mV K):=by
 have GN:aH P w K mg base bX 1 fN fdN ["thing"] lE:=oS DN.fn T
 refine F.ok yF (fun vs H Q E h=>?_) (fun cdv A outer s H vs Q E hr h=>?_)
 ·obtain⟨a,xs,rfl,_⟩:=h
  rfl
 ·obtain⟨a,xs,rfl,ha,hz,k⟩:=h
  refine⟨_,au (aK (mz (aF (hW rfl) rfl T.all qZ (aa (bJ (N:=["thing"]) (n:=1) (ci:=[]) rfl (bx (pv 0)) (g9.of (so:=ai dF) (N0:=["things"]) ⟨rfl,by decide +kernel,by decide +kernel,by decide +kernel,rfl,rfl,by decide +kernel,by decide +kernel⟩)
    (fun z=>⟨aA (i:=0) (bV (N:=["thing"]) (by decide +kernel)) rfl (Or.inl rfl),bP,az GN hr rfl DN.mg DN.fn.kp DN.bd .nil aJ (aa (pv 0) ag)⟩)) ag))
   (kl (cI jA (aF w6 rfl T.len dB (aa (ba (jI rfl) rfl T.set uE (aa (pv 0) ag)) ag)) (aF bG rfl T.len dB (aa (pv 0) ag)) (bw _))))),?_⟩
  refine⟨_,rfl,a,rfl,⟨_,ha⟩,fun z D hD=>br (a:=a) (xs:=aq xs) (fun i ys H2=>ys=(xs.take i).map (fun x=>V.bl (isNm x))∧H2 D=some (.lst ys)∧ao H H2) ⟨rfl,ae,af hD⟩ (fun i ys H2 _ p=>p.2.2.seq ha) ?_ ?_⟩
  ·rintro i v ys H2 hi ⟨rfl,hys,sm⟩
   obtain⟨x,hx,rfl⟩:=bQ hi
   refine⟨_,rfl,x,rfl,hz.2 x (List.mem_of_getElem? hx),fun H3 s3=>⟨s3 _ _ hys,?_,?_,ae,aD (sm.trans s3) hD⟩⟩
   ·rw [List.length_map,List.length_take,sizeLine_eq]
    have:=hz.1
    lia
   ·rw [av hx,List.map_append]
    rfl
  ·rintro ys H2 ⟨rfl,hys,sm⟩
   have hl:(aq xs).length=xs.length:=ah xs
   rw [hl,List.take_length] at hys
   refine⟨D,xs.map isNm,rfl,aI.of (by rw [hys,List.map_map];rfl),_,rfl,?_⟩
   have ea:(xs.map isNm).all id=xs.all isNm:=by rw [List.all_map];rfl
   rw [ea]
   cases hn:xs.all isNm with
   | false =>
    refine bS ?_
    have e:unlike xs=false:=by unfold unlike;rw [hn];rfl
    rw [← e]
    exact k H2 sm
   | true =>
    refine cG ?_
    refine⟨_,rfl,a,xs,rfl,sm.seq ha,by have:=hz.1;lia,fun p hp=>⟨p,_,rfl,ae,?_⟩⟩
    have sm2:ao H (upd H2 p (jC w p (UfSet.dd xs))):=aD sm (sm.free hp)
    refine⟨_,rfl,_,xs.length,rfl,.inl ⟨_,sm2.seq ha,hl.symm⟩,rfl,?_⟩
    have e:unlike xs=decide (V.int (((UfSet.dd xs).length:Nat):Int)=V.int ((xs.length:Nat):Int)):=by
     unfold unlike
     rw [hn,Bool.true_and]
     refine decide_eq_decide.mpr ?_
     rw [← UfSet.sV]
     constructor
     ·intro h;rw [h]
     ·intro h;injection h with h;lia
    rw [← e]
    exact k _ sm2
def eA(tk gv:List Str):Bool:=unlike tk&&(unlike gv&&(decide (1≤tk.length)&&(decide (tk.length≤4)&&decide (gv.length≤4))))
def rf(K:PySem.W.Frag):Sp:=fun vs H Q _=>∃ (a b:Addr) (tk gv:List Str),vs=[.ref a,.ref b]∧aI K H a (aq tk)∧aI K H b (aq gv)∧Short tk∧Short gv∧∀ H',ao H H'→Q (.bl (eA tk gv)) H'
theorem xo:aU ["taken", "given"] ["taken", "given"] (ai d7):=⟨rfl,rfl,rfl,by decide +kernel,rfl,by decide +kernel,by decide +kernel⟩
theorem vJ{f fN fU:Addr}{fd fdN fdU:FuncData}(F:dW K "is_move" "is_move" d7 f fd)(T:Txt K mg)(DN:Def K mg "is_name" cK ["thing"] fN fdN)(DU:Def K mg "are_unlike_names" dF ["things"] fU fdU):aH P w K mg base bX 3 f fd ["taken", "given"] (rf K):=by
 have GU:aH P w K mg base bX 2 fU fdU ["things"] (mV K):=o6 DU.fn T DN
 refine F.ok xo (fun vs H Q E h=>?_) (fun cdv A outer s H vs Q E hr h=>?_)
 ·obtain⟨a,b,tk,gv,rfl,_⟩:=h
  rfl
 ·obtain⟨a,b,tk,gv,rfl,ha,hb,za,zb,k⟩:=h
  obtain⟨t1,h1⟩:=T.leastT
  obtain⟨t2,h2⟩:=T.mostT
  obtain⟨t3,h3⟩:=T.mostG
  refine⟨_,aj (bB (PW.pt (pw_or (cR (cu (az GU hr rfl DU.mg DU.fn.kp DU.bd .nil aJ (aa (pv 0) ag)))) (pw_or1 (cR (cu (az GU hr rfl DU.mg DU.fn.kp DU.bd .nil aJ (aa (pv 1) ag))))))) (au (aK fg)) aX)
   (au (aK (mz (xn nZ nZ (dQ (v:=.int 1) rfl h1 ⟨t1,rfl⟩) (aF bG rfl T.len dB (aa (pv 0) ag)) (dQ (v:=.int 4) rfl h2 ⟨t2,rfl⟩))
    (kl (cI nZ (aF bG rfl T.len dB (aa (pv 1) ag)) (dQ (v:=.int 4) rfl h3 ⟨t3,rfl⟩) (bw _)))))),?_⟩
  have no:∀ H',ao H H'→eA tk gv=false→Q (.bl false) H':=fun H' sm e=>by rw [← e];exact k H' sm
  refine⟨_,rfl,a,tk,rfl,ha,za,fun H1 s1=>⟨_,rfl,?_⟩⟩
  cases u1:unlike tk with
  | false =>
   refine cG ?_
   refine cG ?_
   exact no H1 s1 (by unfold eA;rw [u1];rfl)
  | true =>
   refine bS ?_
   refine⟨_,rfl,b,gv,rfl,s1.seq hb,zb,fun H2 s2=>⟨_,rfl,?_⟩⟩
   have sm:ao H H2:=s1.trans s2
   cases u2:unlike gv with
   | false =>
    refine cG ?_
    exact no H2 sm (by unfold eA;rw [u1,u2];rfl)
   | true =>
    refine bS ?_
    refine⟨_,rfl,_,tk.length,rfl,.inl ⟨_,sm.seq ha,(ah tk).symm⟩,1,_,rfl,rfl,_,rfl,?_⟩
    by_cases c1:1≤tk.length
    ·rw [decide_eq_true (show(1:Int)≤(tk.length:Int) by lia)]
     refine cG ?_
     refine⟨_,_,rfl,rfl,_,rfl,?_⟩
     by_cases c2:tk.length≤4
     ·rw [decide_eq_true (show(tk.length:Int)≤4 by lia)]
      refine cG ?_
      refine⟨_,rfl,_,gv.length,rfl,.inl ⟨_,sm.seq hb,(ah gv).symm⟩,_,_,rfl,rfl,?_⟩
      have e:eA tk gv=decide ((gv.length:Int)≤4):=by
       unfold eA
       rw [u1,u2,decide_eq_true c1,decide_eq_true c2]
       simp only [Bool.true_and]
       exact decide_eq_decide.mpr (by lia)
      show Q (V.bl (decide ((gv.length:Int)≤4))) H2
      rw [← e]
      exact k H2 sm
     ·rw [decide_eq_false (show ¬(tk.length:Int)≤4 by lia)]
      refine bS ?_
      exact no H2 sm (by unfold eA;rw [u1,u2,decide_eq_false c2];simp)
    ·rw [decide_eq_false (show ¬(1:Int)≤(tk.length:Int) by lia)]
     refine bS ⟨_,rfl,?_⟩
     refine bS ?_
     exact no H2 sm (by unfold eA;rw [u1,u2,decide_eq_false c1];simp)
end
end Uf
end
section
namespace Uf
open PySem L2 UfSrt
abbrev Mv:=Str × List Str × List Str
def o9(H:Hp)(m:Mv)(q:Addr):Prop:=∃ l g,H q=some (.tup [.str m.1,.ref l,.ref g])∧H l=some (.lst (aq m.2.1))∧H g=some (.lst (aq m.2.2))
theorem o9.same{H H':Hp}{m:Mv}{q:Addr}(s:ao H H')(h:o9 H m q):o9 H' m q:=by
 obtain⟨l,g,h1,h2,h3⟩:=h
 exact⟨l,g,s _ _ h1,s _ _ h2,s _ _ h3⟩
def jh(K:PySem.W.Frag)(H:Hp)(a:Addr)(ms:List Mv):Prop:=∃ qs:List Addr,aI K H a (qs.map V.ref)∧Paired (o9 H) ms qs
theorem jh.same{K:PySem.W.Frag}{H H':Hp}{a:Addr}{ms:List Mv}(s:ao H H')(h:jh K H a ms):jh K H' a ms:=by
 obtain⟨qs,h1,h2⟩:=h
 exact⟨qs,s.seq h1,Paired.il h2 fun _ _=>o9.same s⟩
theorem cA{α β:Type}{F:α→β→Prop}:∀ {l:List α} {m:List β} {i:Nat} {b:β},Paired F l m→m[i]?=some b→∃ a,l[i]?=some a∧F a b
 | _,_,_,_,.nil,e=>by simp at e
 | _,_,0,_,.cons r _,e=>by
  simp at e
  subst e
  exact⟨_,rfl,r⟩
 | _,_,i+1,_,.cons _ t,e=>by
  obtain⟨a,h1,h2⟩:=cA (i:=i) t (by simpa using e)
  exact⟨a,by simpa using h1,h2⟩
theorem gA{qs:List Addr}{i:Nat}{v:V}(h:(qs.map V.ref)[i]?=some v):∃ q,qs[i]?=some q∧v=.ref q:=by
 rw [List.getElem?_map] at h
 cases e:qs[i]? with
 | none=>rw [e] at h;cases h
 | some x=>rw [e] at h;exact⟨x,rfl,(Option.some.inj h).symm⟩
def jE(ms:List Mv):List Str:=ms.flatMap fun m=>m.2.1++m.2.2
def bL(ms:List Mv)(st:List Str):List Str:=aw (UfSet.dd (st++jE ms))
section
variable {P:Program}{w:World}{K:PySem.W.Frag}{mg:Str→Option Value}{base:Heap}
def lJ(K:PySem.W.Frag):Sp:=fun vs H Q _=>∃ (a b:Addr) (ms:List Mv) (st:List Str),vs=[.ref a,.ref b]∧jh K H a ms∧aI K H b (aq st)∧(st++jE ms).length≤1000∧(UfSet.dd (st++jE ms)).length<64 ∧
 ∀ H' p,ao H H'→H p=none→H' p=some (.lst (aq (bL ms st)))→Q (.ref p) H'
theorem gh:aU ["moves", "start", "places", "name", "taken", "given"] ["moves", "start"] (ai d6):=⟨rfl,rfl,rfl,by decide +kernel,rfl,by decide +kernel,by decide +kernel⟩
theorem oQ{f:Addr}{fd:FuncData}(F:dW K "places_of" "places_of" d6 f fd)(T:Txt K mg):aH P w K mg base bX 1 f fd ["moves", "start"] (lJ K):=by
 refine F.ok gh (fun vs H Q E h=>?_) (fun cdv A outer s H vs Q E hr h=>?_)
 ·obtain⟨a,b,ms,st,rfl,_⟩:=h
  rfl
 ·obtain⟨a,b,ms,st,rfl,ha,hb,hz,h64,k⟩:=h
  obtain⟨qs,hq,hp⟩:=id ha
  refine⟨_,aj (aN (i:=2) gh.nd rfl (Or.inl rfl) (ba bu rfl T.lst cY (aa (pv 1) ag)))
   (aj (dA PassesOwn.never rfl (bx (pv 0)) (eB rfl (bh (aA (i:=3) gh.nd rfl (Or.inl rfl)) (bh (aA (i:=4) gh.nd rfl (Or.inl rfl)) (bh (aA (i:=5) gh.nd rfl (Or.inl rfl)) dE))))
    (au (aN (i:=2) gh.nd rfl (Or.inl rfl) (aB dJ (aB dJ (pv 2) (ba bu rfl T.lst cY (aa (pv 4) ag))) (ba bu rfl T.lst cY (aa (pv 5) ag))))))
   (au (aK (aF (i7 rfl) rfl T.aw cN (aa (ba (jI rfl) rfl T.set uE (aa (pv 2) ag)) ag))))),?_⟩
  refine⟨_,rfl,b,aq st,rfl,.inl hb,fun p0 n0=>?_⟩
  have s0:ao H (upd H p0 (.lst (aq st))):=af n0
  refine⟨_,rfl,a,rfl,⟨_,s0.seq hq⟩,e7 (K:=K) (a:=a) (xs:=qs.map V.ref) (fun i σ H2=>∃ (p:Addr) (v3 v4 v5:Option V),σ=[some (.ref a),some (.ref b),some (.ref p),v3,v4,v5]∧ao H H2∧H p=none∧H2 p=some (.lst (aq (st++jE (ms.take i)))))
   ⟨p0,none,none,none,rfl,s0,n0,by rw [ae];simp [jE]⟩ (fun i σ H2 _ ⟨_,_,_,_,_,sm,_⟩=>sm.seq hq) ?_ ?_⟩
  ·rintro i v σ H2 hi ⟨p,v3,v4,v5,rfl,sm,np,hp2⟩
   obtain⟨q,hqi,rfl⟩:=gA hi
   obtain⟨m,hm,hmv⟩:=cA hp hqi
   obtain⟨l,g,e1,e2,e3⟩:=hmv.same sm
   have etk:jE (ms.take (i+1))=jE (ms.take i)++(m.2.1++m.2.2):=by
    unfold jE
    rw [av hm,List.flatMap_append]
    simp
   have hle:(st++jE (ms.take (i+1))).length≤1000:=by
    refine Nat.le_trans ?_ hz
    have e:jE ms=jE (ms.take (i+1))++jE (ms.drop (i+1)):=by
     unfold jE
     rw [← List.flatMap_append,List.take_append_drop]
    rw [e,List.length_append,List.length_append,List.length_append]
    lia
   rw [etk] at hle
   simp only [List.length_append] at hle
   have hsl:=PySem.sizeLine_eq
   refine⟨q,_,rfl,cg.of e1,rfl,_,_,rfl,_,_,rfl,_,_,rfl,rfl,?_⟩
   refine⟨_,rfl,_,rfl,l,aq m.2.1,rfl,.inl (aI.of e2),fun l1 n1=>⟨p,l1,_,_,rfl,rfl,(by rw [ar (ay hp2 n1)];exact hp2),ae,?_,fun p1 m1=>?_⟩⟩
   ·rw [ah,ah,List.length_append]
    lia
   have s1:ao H2 (upd (upd H2 l1 (.lst (aq m.2.1))) p1 (.lst (aq (st++jE (ms.take i))++aq m.2.1))):=(af n1).trans (af m1)
   refine⟨_,rfl,g,aq m.2.2,rfl,.inl (aI.of (s1 _ _ e3)),fun l2 n2=>⟨p1,l2,_,_,rfl,rfl,(by rw [ar (ay ae n2)];exact ae),ae,?_,fun p2 m2=>?_⟩⟩
   ·rw [List.length_append,ah,ah,ah,List.length_append]
    lia
   have s2:=s1.trans ((af (o:=.lst (aq m.2.2)) n2).trans (af (o:=.lst ((aq (st++jE (ms.take i))++aq m.2.1)++aq m.2.2)) m2))
   refine⟨p2,_,_,_,rfl,sm.trans s2,?_,?_⟩
   ·exact(sm.trans (s1.trans (af (o:=.lst (aq m.2.2)) n2))).free m2
   ·rw [ae,etk]
    unfold aq
    simp [List.map_append]
  ·rintro σ H2 ⟨p,v3,v4,v5,rfl,sm,np,hp2⟩
   have el:(qs.map V.ref).length=ms.length:=by rw [List.length_map,← Paired.length hp]
   rw [el,List.take_length] at hp2
   refine⟨_,rfl,p,st++jE ms,rfl,aI.of hp2,hz,fun p1 n1=>⟨p1,_,rfl,ae,h64,fun p2 n2=>?_⟩⟩
   have s1:=(af (o:=jC w p1 (UfSet.dd (st++jE ms))) n1).trans (af (o:=.lst (aq (aw (UfSet.dd (st++jE ms))))) n2)
   exact k _ p2 (sm.trans s1) ((sm.trans (af (o:=jC w p1 (UfSet.dd (st++jE ms))) n1)).free n2) ae
end
end Uf
end
section
namespace Uf
open PySem L2 UfSrt
def names(ms:List Mv):List Str:=ms.map (·.1)
def dw(ms:List Mv)(st:List Str):Bool:=decide (ms.length≤12)&&(unlike (names ms)&&((ms.all fun m=>eA m.2.1 m.2.2)&&(unlike st&&decide ((bL ms st).length≤12))))
structure Fits(ms:List Mv)(st:List Str):Prop where
 nm:Short (names ms)
 tk:∀ m∈ms,Short m.2.1
 gv:∀ m∈ms,Short m.2.2
 so:Short st
 sum:(st++jE ms).length≤1000
 Bl:(UfSet.dd (st++jE ms)).length<64
section
variable {P:Program}{w:World}{K:PySem.W.Frag}{mg:Str→Option Value}{base:Heap}
def pb(K:PySem.W.Frag):Sp:=fun vs H Q _=>∃ (a b:Addr) (ms:List Mv) (st:List Str),vs=[.ref a,.ref b]∧jh K H a ms∧aI K H b (aq st)∧Fits ms st∧∀ H',ao H H'→Q (.bl (dw ms st)) H'
theorem zH:aU ["moves", "start"] ["moves", "start"] (ai eZ):=⟨rfl,rfl,rfl,by decide +kernel,rfl,by decide +kernel,by decide +kernel⟩
theorem rQ{f fN fU fM fP:Addr}{fd fdN fdU fdM fdP:FuncData}(F:dW K "makes_net" "makes_net" eZ f fd)(T:Txt K mg)(DN:Def K mg "is_name" cK ["thing"] fN fdN)(DU:Def K mg "are_unlike_names" dF ["things"] fU fdU)
  (DM:Def K mg "is_move" d7 ["taken", "given"] fM fdM) (DP:Def K mg "places_of" d6 ["moves", "start"] fP fdP):aH P w K mg base bX 4 f fd ["moves", "start"] (pb K):=by
 have GU:aH P w K mg base bX 2 fU fdU ["things"] (mV K):=o6 DU.fn T DN
 have GM:aH P w K mg base bX 3 fM fdM ["taken", "given"] (rf K):=vJ DM.fn T DN DU
 have GP:aH P w K mg base bX 1 fP fdP ["moves", "start"] (lJ K):=oQ DP.fn T
 refine F.ok zH (fun vs H Q E h=>?_) (fun cdv A outer s H vs Q E hr h=>?_)
 ·obtain⟨a,b,ms,st,rfl,_⟩:=h
  rfl
 ·obtain⟨a,b,ms,st,rfl,ha,hb,hf,k⟩:=h
  obtain⟨qs,hq,hp⟩:=id ha
  obtain⟨t1,h1⟩:=T.mostM
  obtain⟨t2,h2⟩:=T.mostP
  refine⟨_,aj (bB (PW.pt (pw_or (bb vd (aF bG rfl T.len dB (aa (pv 0) ag)) (dQ (v:=.int 12) rfl h1 ⟨t1,rfl⟩) (bw _))
    (pw_or1 (cR (cu (az GU (hr.mono (by decide)) rfl DU.mg DU.fn.kp DU.bd .nil aJ (aa (bJ (N:=["move"]) (n:=1) (ci:=[]) rfl (bx (pv 0)) (g9.of (so:=ai eZ) (N0:=["moves", "start"]) ⟨rfl,by decide +kernel,by decide +kernel,by decide +kernel,rfl,rfl,by decide +kernel,by decide +kernel⟩)
     (fun z=>⟨aA (i:=0) (bV (N:=["move"]) (by decide +kernel)) rfl (Or.inl rfl),bP,aO bo (pv 0) ak (fun _ _=>rfl)⟩)) ag)))))))
    (au (aK fg)) aX)
   (aj (bB (PW.pt (pw_or (cR (cu (aF (hW rfl) rfl T.all qZ (aa (bJ (N:=["name", "taken", "given"]) (n:=3) (ci:=[]) rfl (bx (pv 0)) (g9.of (so:=ai eZ) (N0:=["moves", "start"]) ⟨rfl,by decide +kernel,by decide +kernel,by decide +kernel,rfl,rfl,by decide +kernel,by decide +kernel⟩)
     (fun z=>⟨eB rfl (bh (aA (i:=0) (bV (N:=["name", "taken", "given"]) (by decide +kernel)) rfl (Or.inl rfl)) (bh (aA (i:=1) (bV (N:=["name", "taken", "given"]) (by decide +kernel)) rfl (Or.inl rfl)) (bh (aA (i:=2) (bV (N:=["name", "taken", "given"]) (by decide +kernel)) rfl (Or.inl rfl)) dE))),
      bP,az GM hr rfl DM.mg DM.fn.kp DM.bd .nil aJ (aa (pv 1) (aa (pv 2) ag))⟩)) ag))))
     (pw_or1 (cR (cu (az GU (hr.mono (by decide)) rfl DU.mg DU.fn.kp DU.bd .nil aJ (aa (pv 1) ag)))))))
    (au (aK fg)) aX)
   (au (aK (cI nZ (aF bG rfl T.len dB (aa (az GP (hr.mono (by decide)) rfl DP.mg DP.fn.kp DP.bd .nil aJ (aa (pv 0) (aa (pv 1) ag))) ag)) (dQ (v:=.int 12) rfl h2 ⟨t2,rfl⟩) (bw _))))),?_⟩
  have no:∀ H',ao H H'→dw ms st=false→Q (.bl false) H':=fun H' sm e=>by rw [← e];exact k H' sm
  have lq:qs.length=ms.length:=(Paired.length hp).symm
  refine⟨_,rfl,_,ms.length,rfl,.inl ⟨_,hq,by rw [List.length_map,lq]⟩,_,_,rfl,rfl,_,rfl,?_⟩
  by_cases c1:ms.length≤12
  ·rw [show decide (((ms.length:Nat):Int) > 12)=false from decide_eq_false (by lia)]
   refine bS ?_
   refine⟨_,rfl,a,rfl,⟨_,hq⟩,fun z D hD=>br (a:=a) (xs:=qs.map V.ref) (fun i ys H2=>ys=aq (names (ms.take i))∧H2 D=some (.lst ys)∧ao H H2) ⟨rfl,ae,af hD⟩ (fun i ys H2 _ p=>p.2.2.seq hq) ?_ ?_⟩
   ·rintro i v ys H2 hi ⟨rfl,hys,sm⟩
    obtain⟨q,hqi,rfl⟩:=gA hi
    obtain⟨m,hm,hmv⟩:=cA hp hqi
    obtain⟨l,g,e1,e2,e3⟩:=hmv.same sm
    refine⟨_,rfl,q,_,0,_,rfl,rfl,cg.of e1,aE (j:=0) rfl,hys,?_,?_,ae,aD sm hD⟩
    ·rw [ah,names,List.length_map,List.length_take,sizeLine_eq]
     lia
    ·rw [av hm]
     unfold names aq
     simp
   ·rintro ys H2 ⟨rfl,hys,sm⟩
    rw [List.length_map,lq,List.take_length] at hys
    refine⟨D,names ms,rfl,aI.of hys,hf.nm,fun H3 s3=>⟨_,rfl,?_⟩⟩
    have sm3:ao H H3:=sm.trans s3
    cases u1:unlike (names ms) with
    | false =>
     refine cG ?_
     exact no H3 sm3 (by unfold dw;rw [u1];simp)
    | true =>
     refine bS ?_
     refine⟨_,rfl,a,rfl,⟨_,sm3.seq hq⟩,fun z2 D2 hD2=>br (a:=a) (xs:=qs.map V.ref) (fun i ys H4=>ys=(ms.take i).map (fun m=>V.bl (eA m.2.1 m.2.2))∧H4 D2=some (.lst ys)∧ao H3 H4) ⟨rfl,ae,af hD2⟩ (fun i ys H4 _ p=>(sm3.trans p.2.2).seq hq) ?_ ?_⟩
     ·rintro i v ys H4 hi ⟨rfl,hys4,sm4⟩
      obtain⟨q,hqi,rfl⟩:=gA hi
      obtain⟨m,hm,hmv⟩:=cA hp hqi
      obtain⟨l,g,e1,e2,e3⟩:=hmv.same (sm3.trans sm4)
      have hmem:m∈ms:=List.mem_of_getElem? hm
      refine⟨q,_,rfl,cg.of e1,rfl,_,_,rfl,_,_,rfl,_,_,rfl,rfl,?_⟩
      refine⟨_,rfl,_,rfl,l,g,m.2.1,m.2.2,rfl,aI.of e2,aI.of e3,hf.tk m hmem,hf.gv m hmem,fun H5 s5=>⟨s5 _ _ hys4,?_,?_,ae,aD (sm4.trans s5) hD2⟩⟩
      ·rw [List.length_map,List.length_take,sizeLine_eq]
       lia
      ·rw [av hm,List.map_append]
       rfl
     ·rintro ys H4 ⟨rfl,hys4,sm4⟩
      rw [List.length_map,lq,List.take_length] at hys4
      have sm5:ao H H4:=sm3.trans sm4
      refine⟨D2,ms.map (fun m=>eA m.2.1 m.2.2),rfl,aI.of (by rw [hys4,List.map_map];rfl),_,rfl,?_⟩
      have ea:(ms.map (fun m=>eA m.2.1 m.2.2)).all id=ms.all fun m=>eA m.2.1 m.2.2:=by rw [List.all_map];rfl
      rw [ea]
      cases u2:ms.all fun m=>eA m.2.1 m.2.2 with
      | false =>
       refine cG ?_
       refine cG ?_
       exact no H4 sm5 (by unfold dw;rw [u2];simp)
      | true =>
       refine bS ?_
       refine⟨_,rfl,b,st,rfl,sm5.seq hb,hf.so,fun H6 s6=>⟨_,rfl,?_⟩⟩
       have sm6:ao H H6:=sm5.trans s6
       cases u3:unlike st with
       | false =>
        refine cG ?_
        exact no H6 sm6 (by unfold dw;rw [u3];simp)
       | true =>
        refine bS ?_
        refine⟨_,rfl,_,rfl,a,b,ms,st,rfl,ha.same sm6,sm6.seq hb,hf.sum,hf.Bl,fun H7 p s7 np hp7=>?_⟩
        refine⟨_,(bL ms st).length,rfl,.inl ⟨_,aI.of hp7,(ah _).symm⟩,_,_,rfl,rfl,?_⟩
        have e:dw ms st=decide (((bL ms st).length:Int)≤12):=by
         unfold dw
         rw [decide_eq_true c1,u1,u2,u3]
         simp only [Bool.true_and]
         exact decide_eq_decide.mpr (by lia)
        show Q (V.bl (decide (((bL ms st).length:Int)≤12))) H7
        rw [← e]
        exact k H7 (sm6.trans s7)
  ·rw [show decide (((ms.length:Nat):Int) > 12)=true from decide_eq_true (by lia)]
   refine cG ?_
   refine cG ?_
   exact no H (ao.refl H) (by unfold dw;rw [decide_eq_false c1];rfl)
end
end Uf
end
section
namespace L2
open PySem PySem.Spec PyProof.Rows PySem.W UfSrt
section
variable {prog:Program}{w:World}{A:Around}{E:Value→Shared→Prop}{s:Shared}
theorem p6{κ:Type}[DecidableEq κ]{knd:KeyKind prog w κ}{d:Addr}{kvs:List (κ × Value)}{ep:Nat}{Q:List Value→Shared→Prop}(hh:A.handled=none)(lo:(d==sysModules)=false)(hd:s.heap.DictAt knd d kvs ep)(hz:kvs.length≤sizeLine)
  (h:∀ (h':Heap) (tk:Nat) (dr:Drawn) (vs:List Value),vs.length=kvs.length→(∀ (j:Nat) v,vs[j]?=some v→∃ k x,kvs[j]?=some (k,x)∧knd.is k v=true)→(∀ b o,s.heap.get? b=some o→h'.get? b=some o)→s.heap.objs.size≤h'.objs.size→Q vs { s with heap:=h',toks:=tk,drawn:=dr }) :
  wpAny (model prog w) A (collect (.ref d)) Q E s:=by
 refine UfSet.kx (T:="dict") (OK:=fun h=>h.DictAt knd d kvs ep) (R:=fun n P=>n=kvs.length∧P=fun i v=>∃ k x,kvs[i]?=some (k,x)∧knd.is k v=true) hh hd (fun h1 h2 x k=>x.at' fun o e=>k _ _ e) (fun s' x=>x.dictOf.typeIs) (fun h1 x=>x.lt_size) (by decide) (by decide)
  (fun A' E' s' Q' x q=>kdl_hint_dict x.dictOf.typeIs q) (fun A' E' s' Q' x q=>?_) ?_
 ·refine wpAny_pyIter_dict lo x ?_
  exact q s'.heap.objs.size _ s'.drawn kvs.length _ [s'.heap.objs.size,d] _ ⟨rfl,rfl⟩ hz (fun A2 h2=>Walks.dictKeys h2 _ d (Nat.ne_of_lt x.lt_size) kvs ep) ⟨⟨_,Heap.get?_push_size _ rfl,rfl,rfl⟩,x.push _⟩ (Nat.le_refl _) (fun b o e=>Heap.get?_push_of_some _ e) fun b hb=>by
   simp only [List.mem_cons,List.not_mem_nil,or_false] at hb
   rcases hb with rfl | rfl
   ·exact .inr (Nat.le_refl _)
   ·exact .inl rfl
 ·rintro h' tk dr n P vs ⟨rfl,rfl⟩ hl hat hk hz'
  exact h h' tk dr vs hl hat hk hz'
theorem ux:∀ {ks:List Str} {vs:List Value},vs.length=ks.length→(∀ (j:Nat) v,vs[j]?=some v→∃ k tk,ks[j]?=some k∧v=Value.str k tk)→StrsAre vs ks
 | [],[],_,_=>.nil
 | k::ks,v::vs,hl,h=>by
  obtain⟨k',tk,e,rfl⟩:=h 0 v rfl
  have:k'=k:=by simpa using e.symm
  subst this
  exact .cons k' tk (ux (by simpa using hl) fun j u hu=>by
   obtain⟨q,t,e1,e2⟩:=h (j+1) u (by simpa using hu)
   exact⟨q,t,by simpa using e1,e2⟩)
end
section
variable {X:Cx}
def BV:List V→Hp→VK→Prop:=fun xs H Q=>∃ (a:Addr) (kvs:List (Key × V)) (ks:List Str),xs=[.ref a]∧Rd H a (.dK kvs)∧kvs.map (·.1)=ks.map Sum.inr∧ks.length<64∧∀ p,H p=none→Q (.ref p) (upd H p (.lst (aq (aw ks))))
theorem sZ{P:Program}{w:World}{kvs:List (Key × V)}{vs:List (Key × Value)}{ks:List Str}{us:List Value}(r:KV kvs vs)(hk:kvs.map (·.1)=ks.map Sum.inr)(hl:us.length=vs.length)
  (hat:∀ (j:Nat) v,us[j]?=some v→∃ k x,vs[j]?=some (k,x)∧(bU P w).is k v=true):StrsAre us ks:=by
 have e1:vs.map (·.1)=ks.map Sum.inr:=by rw [← r.keys];exact hk
 have l1:vs.length=ks.length:=by have:=congrArg List.length e1;simpa using this
 refine ux (by lia) fun j v e=>?_
 obtain⟨k,x,e2,hi⟩:=hat j v e
 have e3:(vs.map (·.1))[j]?=some k:=by rw [List.getElem?_map,e2];rfl
 rw [e1,List.getElem?_map] at e3
 cases e4:ks[j]? with
 | none=>rw [e4] at e3;cases e3
 | some y =>
  rw [e4] at e3
  cases e3
  rw [lP] at hi
  rcases cb hi with⟨i,t,z,_⟩ | ⟨y',t,z,z2⟩
  ·cases z
  ·cases z
   exact⟨y,t,rfl,z2⟩
theorem lH(hc:X.calm=true):dC X (.builtin "sorted") BV:=by
 intro pins s σ H xs us Q I r h
 obtain⟨a,kvs,ks,rfl,ha,hk,hz,q⟩:=h
 obtain⟨u,rfl,ru⟩:=vals1 r
 cases ru
 obtain⟨zk,lo,vs,rel,hd⟩:=ku I.hok ha
 obtain⟨ep,hat⟩:=hd.dictAt
 have hlen:vs.length≤sizeLine:=by rw [← rel.length];exact zk
 refine UfSort.j4 (ss:=ks) (fun {Q'} hq=>p6 (A:=X.A.in1) (knd:=bU X.prog X.w) (I.ok.hd hc) lo hat hlen fun h' tk dr us' hl hat' hk' hz'=>hq h' tk dr us' ks hk' hz' (sZ rel hk hl hat') (.refl _)) hz fun h' tk d D L=>?_
 exact⟨.ref D,_,lx I L (by lia),rfl,q _ (I.hok.fresh L.new)⟩
end
end L2
end
section
namespace UfFin
open PySem UfSrt
theorem eX{α:Type}[DecidableEq α]:∀ {l m:List α},l.Nodup→(∀ x∈l,x∈m)→l.length≤m.length
 | [],m,_,_=>Nat.zero_le _
 | a::l,m,h,hs=>by
  obtain⟨h1,h2⟩:=List.nodup_cons.mp h
  have ha:a∈m:=hs a List.mem_cons_self
  have ih:=eX (l:=l) (m:=m.erase a) h2 fun x hx=>by
   have hne:x≠a:=fun e=>h1 (e ▸ hx)
   exact(List.mem_erase_of_ne hne).mpr (hs x (List.mem_cons_of_mem _ hx))
  rw [List.length_erase_of_mem ha] at ih
  have:=List.length_pos_of_mem ha
  rw [List.length_cons]
  lia
structure lL(l:List Str):Prop where
 pw:l.Pairwise le
 nd:l.Nodup
theorem lL.aw{l:List Str}(h:l.Nodup):lL (aw l):=⟨tM l,vt.mpr h⟩
end UfFin
end
section
namespace Uf
open PySem L2 UfSrt
abbrev tI:Stmt:=top 20
abbrev kJ:Stmt:=inClass tI 0
abbrev iR:Stmt:=inClass tI 1
abbrev gz:Stmt:=inClass tI 2
abbrev eV:Stmt:=inClass tI 3
abbrev gc:Stmt:=inClass tI 4
abbrev fV:Stmt:=inClass tI 5
abbrev jQ:Stmt:=inClass tI 6
def iB(aP aS aT aG:Addr):List (Str × V):=[("place_names",V.ref aP),("start_state",V.ref aS),("taken_by",V.ref aT),("given_by",V.ref aG)]
theorem EZ:(("start_state":Str) == "place_names")=false:=by decide +kernel
theorem Ff:(("taken_by":Str) == "place_names")=false:=by decide +kernel
theorem E6:(("given_by":Str) == "place_names")=false:=by decide +kernel
theorem Fs:(("taken_by":Str) == "start_state")=false:=by decide +kernel
theorem Ft:(("given_by":Str) == "start_state")=false:=by decide +kernel
theorem ES:(("given_by":Str) == "taken_by")=false:=by decide +kernel
theorem Eh(a b c d:Addr):(iB a b c d).lookup ("place_names":Str)=some (V.ref a):=by simp [iB,List.lookup]
theorem CS(a b c d:Addr):(iB a b c d).lookup ("start_state":Str)=some (V.ref b):=by simp [iB,List.lookup,EZ]
theorem vg(a b c d:Addr):(iB a b c d).lookup ("taken_by":Str)=some (V.ref c):=by simp [iB,List.lookup,Ff,Fs]
theorem AO(a b c d:Addr):(iB a b c d).lookup ("given_by":Str)=some (V.ref d):=by simp [iB,List.lookup,E6,Ft,ES]
theorem bY(a b c d:Addr){x:Str}(h1:(x == "place_names")=false)(h2:(x == "start_state")=false)(h3:(x == "taken_by")=false)(h4:(x == "given_by")=false):(iB a b c d).lookup x=none:=by
 simp [iB,List.lookup,h1,h2,h3,h4]
theorem B7:¬(("place_names":Str)="start_state"):=by decide +kernel
theorem De:¬(("place_names":Str)="taken_by"):=by decide +kernel
theorem Dx:¬(("start_state":Str)="taken_by"):=by decide +kernel
theorem Fv:¬(("place_names":Str)="given_by"):=by decide +kernel
theorem EW:¬(("start_state":Str)="given_by"):=by decide +kernel
theorem EO:¬(("taken_by":Str)="given_by"):=by decide +kernel
theorem wA(a b c d:Addr):cE "given_by" (V.ref d) (cE "taken_by" (V.ref c) (cE "start_state" (V.ref b) (cE "place_names" (V.ref a) [])))=iB a b c d:=by
 simp [cE,iB,B7,De,Dx,Fv,EW,EO]
structure gG(K:PySem.W.Frag)(C:Addr):Prop where
 cl:yp K C
 nP:fW K C "place_names"
 nS:fW K C "start_state"
 nT:fW K C "taken_by"
 nG:fW K C "given_by"
def gf(H:Hp)(sel:Mv→List Str)(ms:List Mv)(kvs:List (Key × V)):Prop:=Paired (fun(m:Mv) (kv:Key × V)=>kv.1=Sum.inr m.1∧∃ t,kv.2=.ref t∧H t=some (.tup (aq (aw (sel m))))) ms kvs
theorem gf.same{H H':Hp}{sel:Mv→List Str}{ms:List Mv}{kvs:List (Key × V)}(s:∀ b xs,H b=some (.tup xs)→H' b=some (.tup xs))(h:gf H sel ms kvs):gf H' sel ms kvs :=
 Paired.il h fun m kv ⟨e,t,h1,h2⟩=>⟨e,t,h1,s _ _ h2⟩
theorem gf.keys{H:Hp}{sel:Mv→List Str}:∀ {ms:List Mv} {kvs:List (Key × V)},gf H sel ms kvs→kvs.map (·.1)=(names ms).map Sum.inr
 | _,_,.nil=>rfl
 | _,_,.cons h t=>by
  rw [List.map_cons,h.1,gf.keys t]
  rfl
theorem gf.snoc{H:Hp}{sel:Mv→List Str}{ms:List Mv}{kvs:List (Key × V)}{m:Mv}{t:Addr}(h:gf H sel ms kvs)(ht:H t=some (.tup (aq (aw (sel m))))):gf H sel (ms++[m]) (kvs++[(Sum.inr m.1,.ref t)]) :=
 Paired.snoc h ⟨rfl,t,rfl,ht⟩
theorem gf.none{H:Hp}{sel:Mv→List Str}{ms:List Mv}{kvs:List (Key × V)}{x:Str}(h:gf H sel ms kvs)(hx:x∉names ms):fh kvs (Sum.inr x:Key)=.none:=by
 cases e:fh kvs (Sum.inr x:Key) with
 | none=>rfl
 | some v =>
  have:=uT e
  rw [h.keys] at this
  obtain⟨y,hy,e2⟩:=List.mem_map.mp this
  cases e2
  exact absurd hy hx
theorem gf.get{H:Hp}{sel:Mv→List Str}{m:Mv}:∀ {ms:List Mv} {kvs:List (Key × V)},gf H sel ms kvs→(names ms).Nodup→m∈ms→∃ t,fh kvs (Sum.inr m.1:Key)=some (.ref t)∧H t=some (.tup (aq (aw (sel m))))
 | _,_,.nil,_,h=>by simp at h
 | m'::ms,_,.cons (b:=kv) h t,hn,hm=>by
  obtain⟨e,u,e1,e2⟩:=h
  obtain⟨n1,n2⟩:=List.nodup_cons.mp (show(m'.1::names ms).Nodup from hn)
  rcases List.mem_cons.mp hm with rfl | hm
  ·exact⟨u,by rw [ij e,e1],e2⟩
  ·have ne:¬ kv.1=(Sum.inr m.1:Key):=fun z=>by
    rw [e] at z
    have z2:m'.1=m.1:=by injection z
    exact n1 (by rw [z2];exact List.mem_map.mpr ⟨m,hm,rfl⟩)
   rw [ie ne]
   exact gf.get t n2 hm
structure rJ(C:Addr)(H:Hp)(p:Addr)(ms:List Mv)(st:List Str):Prop where
 ob:∃ dx aP aS aT aG kT kG,H p=some (.ins C dx (iB aP aS aT aG))∧H aP=some (.tup (aq (bL ms st)))∧H aS=some (.tup (aq (aw st)))∧H aT=some (.dK kT)∧H aG=some (.dK kG)∧gf H (·.2.1) ms kT∧gf H (·.2.2) ms kG
theorem rJ.same{C:Addr}{H H':Hp}{p:Addr}{ms:List Mv}{st:List Str}(s:ao H H')(h:rJ C H p ms st):rJ C H' p ms st:=by
 obtain⟨dx,aP,aS,aT,aG,kT,kG,h1,h2,h3,h4,h5,h6,h7⟩:=h
 exact⟨dx,aP,aS,aT,aG,kT,kG,s _ _ h1,s _ _ h2,s _ _ h3,s _ _ h4,s _ _ h5,h6.same fun b xs e=>s _ _ e,h7.same fun b xs e=>s _ _ e⟩
def kS(p:Addr)(H H':Hp):Prop:=∀ c o,H c=some o→c≠p→H' c=some o
theorem kS.refl(p:Addr)(H:Hp):kS p H H:=fun _ _ e _=>e
theorem kS.then{p:Addr}{H H1 H2:Hp}(b:kS p H H1)(s:ao H1 H2):kS p H H2:=fun c o e n=>s c o (b c o e n)
theorem kS.put{p:Addr}{H H1:Hp}{o:HO}(b:kS p H H1):kS p H (upd H1 p o):=fun c u e n=>by rw [ar n];exact b c u e n
theorem kS.new{p a:Addr}{H H1:Hp}{o:HO}(b:kS p H H1)(n:H a=none):kS p H (upd H1 a o):=fun c u e nc=>by rw [ar (ay e n)];exact b c u e nc
theorem kS.free{p a:Addr}{H H1:Hp}(b:kS p H H1)(n:H1 a=none)(hp:a≠p):H a=none:=by
 cases e:H a with
 | none=>rfl
 | some o=>rw [b a o e hp] at n;cases n
theorem kS.seq{K:PySem.W.Frag}{p C dx a:Addr}{H H1:Hp}{fs:List (Str × V)}{xs:List V}(b:kS p H H1)(hp:H p=some (.ins C dx fs))(h:aI K H a xs):aI K H1 a xs:=by
 rcases h with(h | ⟨o,h⟩) | h
 ·exact .inl (.inl (b _ _ h (cv h hp (by intro z;cases z))))
 ·exact .inl (.inr ⟨o,b _ _ h (cv h hp (by intro z;cases z))⟩)
 ·exact .inr h
theorem kS.mv{p C dx q:Addr}{H H1:Hp}{fs:List (Str × V)}{m:Mv}(b:kS p H H1)(hp:H p=some (.ins C dx fs))(h:o9 H m q):o9 H1 m q:=by
 obtain⟨l,g,h1,h2,h3⟩:=h
 exact⟨l,g,b _ _ h1 (cv h1 hp (by intro z;cases z)),b _ _ h2 (cv h2 hp (by intro z;cases z)),b _ _ h3 (cv h3 hp (by intro z;cases z))⟩
structure Sound(ms:List Mv)(st:List Str):Prop where
 ml:ms.length≤12
 nn:(names ms).all isNm=true
 nd:(names ms).Nodup
 mv:∀ m∈ms,eA m.2.1 m.2.2=true
 su:unlike st=true
 pl:(bL ms st).length≤12
theorem mw{ms:List Mv}{st:List Str}(h:dw ms st=true):Sound ms st:=by
 unfold dw at h
 obtain⟨h1,h⟩:=Bool.and_eq_true_iff.mp h
 obtain⟨h2,h⟩:=Bool.and_eq_true_iff.mp h
 obtain⟨h3,h⟩:=Bool.and_eq_true_iff.mp h
 obtain⟨h4,h5⟩:=Bool.and_eq_true_iff.mp h
 obtain⟨h6,h7⟩:=Bool.and_eq_true_iff.mp (show((names ms).all isNm&&decide (names ms).Nodup)=true from h2)
 exact⟨of_decide_eq_true h1,h6,of_decide_eq_true h7,fun m hm=>List.all_eq_true.mp h3 m hm,h4,of_decide_eq_true h5⟩
theorem aZ{xs:List Str}(h:unlike xs=true):xs.Nodup:=of_decide_eq_true (Bool.and_eq_true_iff.mp h).2
theorem Sound.xb{ms:List Mv}{st:List Str}(h:Sound ms st):st.length≤12:=by
 refine Nat.le_trans (UfFin.eX (aZ h.su) fun x hx=>?_) h.pl
 unfold bL
 exact bz.mpr (UfSet.jd.mpr (List.mem_append_left _ hx))
theorem dq{tk gv:List Str}(h:eA tk gv=true):unlike tk=true∧unlike gv=true∧1≤tk.length∧tk.length≤4∧gv.length≤4:=by
 unfold eA at h
 obtain⟨h1,h⟩:=Bool.and_eq_true_iff.mp h
 obtain⟨h2,h⟩:=Bool.and_eq_true_iff.mp h
 obtain⟨h3,h⟩:=Bool.and_eq_true_iff.mp h
 obtain⟨h4,h5⟩:=Bool.and_eq_true_iff.mp h
 exact⟨h1,h2,of_decide_eq_true h3,of_decide_eq_true h4,of_decide_eq_true h5⟩
section
variable {P:Program}{w:World}{K:PySem.W.Frag}{mg:Str→Option Value}{base:Heap}
def tN(K:PySem.W.Frag)(C:Addr):Sp:=fun vs H Q _=>∃ (p dx a b:Addr) (ms:List Mv) (st:List Str),vs=[.ref p,.ref a,.ref b]∧H p=some (.ins C dx [])∧jh K H a ms∧aI K H b (aq st)∧Fits ms st∧dw ms st=true ∧
 ∀ H',rJ C H' p ms st→(∀ c o,H c=some o→c≠p→H' c=some o)→Q .non H'
theorem mm:aU ["self", "moves", "start", "name", "taken", "given"] ["self", "moves", "start"] (ai kJ):=⟨rfl,rfl,rfl,by decide +kernel,rfl,by decide +kernel,by decide +kernel⟩
inductive EB(C:Addr)(H:Hp)(p a b dx aP aS aT aG:Addr)(ms:List Mv)(st:List Str)(i:Nat)(σ:St)(H6:Hp):Prop
 | mk (kT kG:List (Key × V)) (v3 v4 v5:Option V) (q0:σ=[some (.ref p),some (.ref a),some (.ref b),v3,v4,v5]) (q1:H6 p=some (.ins C dx (iB aP aS aT aG))) (q2:H6 aP=some (.tup (aq (bL ms st)))) (q3:H6 aS=some (.tup (aq (aw st)))) (q4:H6 aT=some (.dK kT)) (q5:H6 aG=some (.dK kG)) (q6:gf H6 (·.2.1) (ms.take i) kT) (q7:gf H6 (·.2.2) (ms.take i) kG) (q8:kS p H H6)
theorem EB.but{C:Addr}{H:Hp}{p a b dx aP aS aT aG:Addr}{ms:List Mv}{st:List Str}{i:Nat}{σ:St}{H6:Hp}(h:EB C H p a b dx aP aS aT aG ms st i σ H6):kS p H H6:=by
 cases h
 assumption
theorem Ad{f C fN fU fM fP fK:Addr}{fd fdN fdU fdM fdP fdK:FuncData}(F:dW K "__init__" "Net.__init__" kJ f fd)(T:Txt K mg)(CT:gG K C)(DN:Def K mg "is_name" cK ["thing"] fN fdN)(DU:Def K mg "are_unlike_names" dF ["things"] fU fdU)
  (DM:Def K mg "is_move" d7 ["taken", "given"] fM fdM) (DP:Def K mg "places_of" d6 ["moves", "start"] fP fdP) (DK:Def K mg "makes_net" eZ ["moves", "start"] fK fdK):aH P w K mg base bX 5 f fd ["self", "moves", "start"] (tN K C):=by
 have GP:aH P w K mg base bX 1 fP fdP ["moves", "start"] (lJ K):=oQ DP.fn T
 have GK:aH P w K mg base bX 4 fK fdK ["moves", "start"] (pb K):=rQ DK.fn T DN DU DM DP
 refine F.ok mm (fun vs H Q E h=>?_) (fun cdv A outer s H vs Q E hr h=>?_)
 ·obtain⟨p,dx,a,b,ms,st,rfl,_⟩:=h
  rfl
 ·obtain⟨p,dx,a,b,ms,st,rfl,hp,ha,hb,hf,hmk,k⟩:=h
  have hu:=eI hr
  refine⟨_,aj (bB (cR (cu (az GK hr rfl DK.mg DK.fn.kp DK.bd .nil aJ (aa (pv 1) (aa (pv 2) ag))))) iD aX)
   (aj (pV (pv 0) (ba cw rfl T.tup fE (aa (az GP (hr.mono (by decide)) rfl DP.mg DP.fn.kp DP.bd .nil aJ (aa (pv 1) (aa (pv 2) ag))) ag)) rfl)
   (aj (pV (pv 0) (ba cw rfl T.tup fE (aa (aF c0 rfl T.aw cN (aa (pv 2) ag)) ag)) rfl)
   (aj (pV (pv 0) ix rfl)
   (aj (pV (pv 0) ix rfl)
   (au (dA PassesOwn.never rfl (bx (pv 1)) (eB rfl (bh (aA (i:=3) mm.nd rfl (Or.inl rfl)) (bh (aA (i:=4) mm.nd rfl (Or.inl rfl)) (bh (aA (i:=5) mm.nd rfl (Or.inl rfl)) dE))))
    (aj (iG hu (iA (pv 0) rfl) (pv 3) (ba cw rfl T.tup fE (aa (aF c0 rfl T.aw cN (aa (pv 4) ag)) ag)) rfl)
    (au (iG hu (iA (pv 0) rfl) (pv 3) (ba cw rfl T.tup fE (aa (aF c0 rfl T.aw cN (aa (pv 5) ag)) ag)) rfl))))))))),?_⟩
  clear hu
  dsimp only [iL,Cx.zK]
  have so:=mw hmk
  obtain⟨qs,hq,hqp⟩:=id ha
  refine⟨_,rfl,_,rfl,a,b,ms,st,rfl,ha,hb,hf,fun H1 s1=>⟨_,rfl,?_⟩⟩
  rw [hmk]
  refine bS ?_
  refine⟨_,rfl,_,rfl,a,b,ms,st,rfl,ha.same s1,s1.seq hb,hf.sum,hf.Bl,fun H2 q1 s2 nq1 hq1=>⟨q1,_,rfl,.inl ⟨aI.of hq1,fun aP nP=>?_⟩⟩⟩
  have sm2:ao H H2:=s1.trans s2
  have hp2:=sm2 _ _ hp
  have pP:p≠aP:=ay hp2 nP
  refine⟨_,rfl,p,C,dx,_,rfl,(by rw [ar pP];exact hp2),CT.cl,CT.nP,(by show 0<1000;decide),?_⟩
  have b3:kS p H (upd (upd H2 aP (.tup (aq (bL ms st)))) p (.ins C dx (cE "place_names" (V.ref aP) []))):=(((kS.refl p H).then sm2).new (sm2.free nP)).put
  have e3P:(upd (upd H2 aP (.tup (aq (bL ms st)))) p (.ins C dx (cE "place_names" (V.ref aP) []))) aP=some (.tup (aq (bL ms st))):=by rw [ar pP.symm,ae]
  have e3p:(upd (upd H2 aP (.tup (aq (bL ms st)))) p (.ins C dx (cE "place_names" (V.ref aP) []))) p=some (.ins C dx (cE "place_names" (V.ref aP) [])):=ae
  generalize upd (upd H2 aP (.tup (aq (bL ms st)))) p (.ins C dx (cE "place_names" (V.ref aP) []))=H3 at b3 e3P e3p ⊢
  refine⟨_,rfl,b,st,rfl,b3.seq hp hb,by have:=so.xb;lia,fun q2 nq2=>⟨q2,_,rfl,.inl ⟨aI.of ae,fun aS nS=>?_⟩⟩⟩
  have p2:p≠q2:=ay e3p nq2
  have pS:p≠aS:=ay (by rw [ar p2];exact e3p) nS
  have n2S:aS≠q2:=fun z=>by rw [z,ae] at nS;cases nS
  have nS3:H3 aS=none:=by rw [ar n2S] at nS;exact nS
  refine⟨_,rfl,p,C,dx,_,rfl,(by rw [ar pS,ar p2];exact e3p),CT.cl,CT.nS,(by show 1<1000;decide),?_⟩
  have b4:=(((b3.new (o:=.lst (aq (aw st))) (b3.free nq2 p2.symm)).new (o:=.tup (aq (aw st))) (b3.free nS3 pS.symm)).put (o:=.ins C dx (cE "start_state" (V.ref aS) (cE "place_names" (V.ref aP) []))))
  have PS:aP≠aS:=ay e3P nS3
  have P2:aP≠q2:=ay e3P nq2
  have e4P:(upd (upd (upd H3 q2 (.lst (aq (aw st)))) aS (.tup (aq (aw st)))) p (.ins C dx (cE "start_state" (V.ref aS) (cE "place_names" (V.ref aP) [])))) aP=some (.tup (aq (bL ms st))):=by rw [ar pP.symm,ar PS,ar P2];exact e3P
  have e4S:(upd (upd (upd H3 q2 (.lst (aq (aw st)))) aS (.tup (aq (aw st)))) p (.ins C dx (cE "start_state" (V.ref aS) (cE "place_names" (V.ref aP) [])))) aS=some (.tup (aq (aw st))):=by rw [ar pS.symm,ae]
  have e4p:(upd (upd (upd H3 q2 (.lst (aq (aw st)))) aS (.tup (aq (aw st)))) p (.ins C dx (cE "start_state" (V.ref aS) (cE "place_names" (V.ref aP) [])))) p=some (.ins C dx (cE "start_state" (V.ref aS) (cE "place_names" (V.ref aP) []))):=ae
  generalize upd (upd (upd H3 q2 (.lst (aq (aw st)))) aS (.tup (aq (aw st)))) p (.ins C dx (cE "start_state" (V.ref aS) (cE "place_names" (V.ref aP) [])))=H4 at b4 e4P e4S e4p ⊢
  intro aT nT
  have pT:p≠aT:=ay e4p nT
  refine⟨_,rfl,p,C,dx,_,rfl,(by rw [ar pT];exact e4p),CT.cl,CT.nT,(by simp [cE,B7]),?_⟩
  intro aG nG
  have pG:p≠aG:=fun z=>by rw [← z,ae] at nG;cases nG
  have GT:aG≠aT:=fun z=>by rw [z,ar pT.symm,ae] at nG;cases nG
  have nG4:H4 aG=none:=by rw [ar pG.symm,ar GT] at nG;exact nG
  refine⟨_,rfl,p,C,dx,_,rfl,(by rw [ar pG];exact ae),CT.cl,CT.nG,(by simp [cE,B7,De,Dx]),?_⟩
  rw [wA]
  have nT0:H aT=none:=b4.free nT pT.symm
  have nG0:H aG=none:=b4.free nG4 pG.symm
  have b5:=(((b4.new (o:=.dK []) nT0).put (o:=.ins C dx (cE "taken_by" (V.ref aT) (cE "start_state" (V.ref aS) (cE "place_names" (V.ref aP) []))))).new (o:=.dK []) nG0).put (o:=.ins C dx (iB aP aS aT aG))
  have PT:aP≠aT:=ay e4P nT
  have PG:aP≠aG:=ay e4P nG4
  have ST:aS≠aT:=ay e4S nT
  have SG:aS≠aG:=ay e4S nG4
  generalize hH5:upd (upd (upd (upd H4 aT (.dK [])) p (.ins C dx (cE "taken_by" (V.ref aT) (cE "start_state" (V.ref aS) (cE "place_names" (V.ref aP) []))))) aG (.dK [])) p (.ins C dx (iB aP aS aT aG))=H5 at b5 ⊢
  have e5p:H5 p=some (.ins C dx (iB aP aS aT aG)):=by rw [← hH5,ae]
  have e5P:H5 aP=some (.tup (aq (bL ms st))):=by rw [← hH5,ar pP.symm,ar PG,ar pP.symm,ar PT];exact e4P
  have e5S:H5 aS=some (.tup (aq (aw st))):=by rw [← hH5,ar pS.symm,ar SG,ar pS.symm,ar ST];exact e4S
  have e5T:H5 aT=some (.dK []):=by rw [← hH5,ar pT.symm,ar GT.symm,ar pT.symm,ae]
  have e5G:H5 aG=some (.dK []):=by rw [← hH5,ar pG.symm,ae]
  clear hH5
  have lq:qs.length=ms.length:=(Paired.length hqp).symm
  refine⟨_,rfl,a,rfl,⟨_,b5.seq hp hq⟩,e7 (K:=K) (a:=a) (xs:=qs.map V.ref) (EB C H p a b dx aP aS aT aG ms st)
   ⟨[],[],none,none,none,rfl,e5p,e5P,e5S,e5T,e5G,.nil,.nil,b5⟩ (fun i σ H6 _ h=>h.but.seq hp hq) ?_ ?_⟩
  ·rintro i v σ H6 hi ⟨kT,kG,v3,v4,v5,rfl,e6p,e6P,e6S,e6T,e6G,dT,dG,b6⟩
   obtain⟨q,hqi,rfl⟩:=gA hi
   obtain⟨m,hm,hmv⟩:=cA hqp hqi
   obtain⟨l,g,h1,h2,h3⟩:=b6.mv hp hmv
   have hmem:m∈ms:=List.mem_of_getElem? hm
   obtain⟨_,_,_,tk4,gv4⟩:=dq (so.mv m hmem)
   have hnew:m.1∉names (ms.take i):=fun z=>by
    have nd:=so.nd
    have e:names ms=names (ms.take i)++names (ms.drop i):=by
     unfold names
     rw [← List.map_append,List.take_append_drop]
    rw [e] at nd
    have hlt:i<ms.length:=(List.getElem?_eq_some_iff.mp hm).1
    have hin:m.1∈names (ms.drop i):=by
     refine List.mem_map.mpr ⟨m,?_,rfl⟩
     refine List.mem_of_getElem? (i:=0) ?_
     rw [List.getElem?_drop]
     exact hm
    exact(List.nodup_append.mp nd).2.2 _ z _ hin rfl
   have lT:kT.length=(ms.take i).length:=(Paired.length dT).symm
   have lG:kG.length=(ms.take i).length:=(Paired.length dG).symm
   have l12:(ms.take i).length≤12:=by rw [List.length_take];have:=so.ml;lia
   refine⟨q,_,rfl,cg.of h1,rfl,_,_,rfl,_,_,rfl,_,_,rfl,rfl,?_⟩
   refine⟨_,rfl,l,m.2.1,rfl,aI.of h2,by lia,fun q3 n3=>⟨q3,_,rfl,.inl ⟨aI.of ae,fun t3 m3=>?_⟩⟩⟩
   have s7:ao H6 (upd (upd H6 q3 (.lst (aq (aw m.2.1)))) t3 (.tup (aq (aw m.2.1)))):=(af n3).trans (af m3)
   have e7t:(upd (upd H6 q3 (.lst (aq (aw m.2.1)))) t3 (.tup (aq (aw m.2.1)))) t3=some (.tup (aq (aw m.2.1))):=ae
   have nt6:H6 t3=none:=(af (o:=.lst (aq (aw m.2.1))) n3).free m3
   have b7:kS p H (upd (upd H6 q3 (.lst (aq (aw m.2.1)))) t3 (.tup (aq (aw m.2.1)))):=b6.then s7
   generalize upd (upd H6 q3 (.lst (aq (aw m.2.1)))) t3 (.tup (aq (aw m.2.1)))=H7 at s7 e7t b7 ⊢
   refine⟨_,rfl,p,C,dx,_,_,rfl,s7 _ _ e6p,CT.cl,CT.nT,vg _ _ _ _,_,rfl,aT,_,rfl,nA.k (k:=Sum.inr m.1) (s7 _ _ e6T) (oM (by lia)),?_⟩
   have pk:putK kT (Sum.inr m.1:Key) (V.ref t3)=kT++[(Sum.inr m.1,V.ref t3)]:=jf _ (dT.none hnew)
   rw [pk]
   have tT:∀ {b:Addr} {xs:List V},H7 b=some (.tup xs)→b≠aT:=fun e=>cv e (s7 _ _ e6T) (by intro z;cases z)
   have e8T:(upd H7 aT (.dK (kT++[(Sum.inr m.1,V.ref t3)]))) aT=some (.dK (kT++[(Sum.inr m.1,V.ref t3)])):=ae
   have up8:∀ {b:Addr} {o:HO},b≠aT→H7 b=some o→(upd H7 aT (.dK (kT++[(Sum.inr m.1,V.ref t3)]))) b=some o:=fun n e=>by rw [ar n];exact e
   have e8p:=up8 pT (s7 _ _ e6p)
   have e8P:=up8 PT (s7 _ _ e6P)
   have e8S:=up8 ST (s7 _ _ e6S)
   have e8G:=up8 GT (s7 _ _ e6G)
   have e8t:=up8 (tT e7t) e7t
   have dT8:gf (upd H7 aT (.dK (kT++[(Sum.inr m.1,V.ref t3)]))) (·.2.1) (ms.take i++[m]) (kT++[(Sum.inr m.1,V.ref t3)]):=(dT.same fun b xs e=>up8 (tT (s7 _ _ e)) (s7 _ _ e)).snoc e8t
   have dG8:gf (upd H7 aT (.dK (kT++[(Sum.inr m.1,V.ref t3)]))) (·.2.2) (ms.take i) kG:=dG.same fun b xs e=>up8 (tT (s7 _ _ e)) (s7 _ _ e)
   have e8g:=up8 (cv (s7 _ _ h3) (s7 _ _ e6T) (by intro z;cases z)) (s7 _ _ h3)
   have b8:kS p H (upd H7 aT (.dK (kT++[(Sum.inr m.1,V.ref t3)]))):=b7.new nT0
   generalize upd H7 aT (.dK (kT++[(Sum.inr m.1,V.ref t3)]))=H8 at e8T e8p e8P e8S e8G dT8 dG8 e8g b8 ⊢
   refine⟨_,rfl,g,m.2.2,rfl,aI.of e8g,by lia,fun q4 n4=>⟨q4,_,rfl,.inl ⟨aI.of ae,fun t4 m4=>?_⟩⟩⟩
   have s9:ao H8 (upd (upd H8 q4 (.lst (aq (aw m.2.2)))) t4 (.tup (aq (aw m.2.2)))):=(af n4).trans (af m4)
   have e9t:(upd (upd H8 q4 (.lst (aq (aw m.2.2)))) t4 (.tup (aq (aw m.2.2)))) t4=some (.tup (aq (aw m.2.2))):=ae
   have b9:kS p H (upd (upd H8 q4 (.lst (aq (aw m.2.2)))) t4 (.tup (aq (aw m.2.2)))):=b8.then s9
   generalize upd (upd H8 q4 (.lst (aq (aw m.2.2)))) t4 (.tup (aq (aw m.2.2)))=H9 at s9 e9t b9 ⊢
   refine⟨_,rfl,p,C,dx,_,_,rfl,s9 _ _ e8p,CT.cl,CT.nG,AO _ _ _ _,_,rfl,aG,_,rfl,nA.k (k:=Sum.inr m.1) (s9 _ _ e8G) (oM (by lia)),?_⟩
   have pk2:putK kG (Sum.inr m.1:Key) (V.ref t4)=kG++[(Sum.inr m.1,V.ref t4)]:=jf _ (dG.none hnew)
   rw [pk2]
   have tG:∀ {b:Addr} {xs:List V},H9 b=some (.tup xs)→b≠aG:=fun e=>cv e (s9 _ _ e8G) (by intro z;cases z)
   have up9:∀ {b:Addr} {o:HO},b≠aG→H9 b=some o→(upd H9 aG (.dK (kG++[(Sum.inr m.1,V.ref t4)]))) b=some o:=fun n e=>by rw [ar n];exact e
   have tki:ms.take (i+1)=ms.take i++[m]:=av hm
   refine⟨kT++[(Sum.inr m.1,V.ref t3)],kG++[(Sum.inr m.1,V.ref t4)],_,_,_,rfl,up9 pG (s9 _ _ e8p),up9 PG (s9 _ _ e8P),up9 SG (s9 _ _ e8S),up9 GT.symm (s9 _ _ e8T),ae,?_,?_,b9.new nG0⟩
   ·rw [tki]
    exact dT8.same fun b xs e=>up9 (tG (s9 _ _ e)) (s9 _ _ e)
   ·rw [tki]
    exact(dG8.same fun b xs e=>up9 (tG (s9 _ _ e)) (s9 _ _ e)).snoc (up9 (tG e9t) e9t)
  ·rintro σ H6 ⟨kT,kG,v3,v4,v5,rfl,e6p,e6P,e6S,e6T,e6G,dT,dG,b6⟩
   rw [List.length_map,lq,List.take_length] at dT dG
   exact k H6 ⟨dx,aP,aS,aT,aG,kT,kG,e6p,e6P,e6S,e6T,e6G,dT,dG⟩ b6
end
end Uf
end
section
namespace Uf
open PySem L2 UfSrt
structure dX(K:PySem.W.Frag)(C:Addr)(x q:Str)(st:Stmt)(ps:List Str)(f:Addr)(fd:FuncData):Prop where
 fn:dW K x q st f fd
 mt:Meth K C x f
 bd:Binds K fd ps []
structure cj(C:Addr)(H:Hp)(p:Addr)(ms:List Mv)(st:List Str):Prop where
 at':rJ C H p ms st
 so:Sound ms st
theorem cj.same{C:Addr}{H H':Hp}{p:Addr}{ms:List Mv}{st:List Str}(s:ao H H')(h:cj C H p ms st):cj C H' p ms st:=⟨h.at'.same s,h.so⟩
theorem Sound.isNm{ms:List Mv}{st:List Str}(h:Sound ms st){m:Mv}(hm:m∈ms):Uf.isNm m.1=true:=List.all_eq_true.mp h.nn _ (List.mem_map.mpr ⟨m,hm,rfl⟩)
theorem ma{x:Str}(h:isNm x=true):x.length≤8:=by
 unfold isNm at h
 have:=(Bool.and_eq_true_iff.mp (Bool.and_eq_true_iff.mp h).2).1
 exact of_decide_eq_true this
section
variable {P:Program}{w:World}{K:PySem.W.Frag}{mg:Str→Option Value}{base:Heap}
def i5(C:Addr):Sp:=fun vs H Q _=>∃ (p:Addr) (ms:List Mv) (st:List Str),vs=[.ref p]∧cj C H p ms st∧∀ H' q,ao H H'→H q=none→H' q=some (.lst (aq (aw (names ms))))→Q (.ref q) H'
theorem Cg:aU ["self"] ["self"] (ai gz):=⟨rfl,rfl,rfl,by decide +kernel,rfl,by decide +kernel,by decide +kernel⟩
theorem Al{f C:Addr}{fd:FuncData}(F:dW K "moves" "Net.moves" gz f fd)(T:Txt K mg)(CT:gG K C):aH P w K mg base bX 1 f fd ["self"] (i5 C):=by
 refine F.ok Cg (fun vs H Q E h=>?_) (fun cdv A outer s H vs Q E hr h=>?_)
 ·obtain⟨p,ms,st,rfl,_⟩:=h
  rfl
 ·obtain⟨p,ms,st,rfl,N,k⟩:=h
  obtain⟨dx,aP,aS,aT,aG,kT,kG,h1,h2,h3,h4,h5,h6,h7⟩:=N.at'.ob
  refine⟨_,au (aK (aF (lH rfl) rfl T.aw cN (aa (iA (pv 0) rfl) ag))),?_⟩
  refine⟨_,rfl,p,C,dx,_,_,rfl,h1,CT.cl,CT.nT,vg _ _ _ _,aT,kT,names ms,rfl,.inl h4,h6.keys,?_,fun q nq=>k _ q (af nq) nq ae⟩
  have:=N.so.ml
  unfold names
  rw [List.length_map]
  lia
def kR(C:Addr):Sp:=fun vs H Q _=>∃ (p:Addr) (ms:List Mv) (st:List Str),vs=[.ref p]∧cj C H p ms st∧∀ q,H q=some (.tup (aq (aw st)))→Q (.ref q) H
theorem AB:aU ["self"] ["self"] (ai fV):=⟨rfl,rfl,rfl,by decide +kernel,rfl,by decide +kernel,by decide +kernel⟩
theorem xD{f C:Addr}{fd:FuncData}(F:dW K "start" "Net.start" fV f fd)(CT:gG K C):aH P w K mg base bX 1 f fd ["self"] (kR C):=by
 refine F.ok AB (fun vs H Q E h=>?_) (fun cdv A outer s H vs Q E hr h=>?_)
 ·obtain⟨p,ms,st,rfl,_⟩:=h
  rfl
 ·obtain⟨p,ms,st,rfl,N,k⟩:=h
  obtain⟨dx,aP,aS,aT,aG,kT,kG,h1,h2,h3,h4,h5,h6,h7⟩:=N.at'.ob
  refine⟨_,au (aK (iA (pv 0) rfl)),?_⟩
  exact⟨_,rfl,p,C,dx,_,_,rfl,h1,CT.cl,CT.nS,CS _ _ _ _,k aS h3⟩
def ug(C:Addr):Sp:=fun vs H Q _=>∃ (p:Addr) (ms:List Mv) (st:List Str) (m:Mv),vs=[.ref p,.str m.1]∧cj C H p ms st∧m∈ms∧∀ H',ao H H'→Q .non H'
theorem Bs:aU ["self", "move"] ["self", "move"] (ai jQ):=⟨rfl,rfl,rfl,by decide +kernel,rfl,by decide +kernel,by decide +kernel⟩
theorem vi{f C fN:Addr}{fd fdN:FuncData}(F:dW K "must_have" "Net.must_have" jQ f fd)(T:Txt K mg)(CT:gG K C)(DN:Def K mg "is_name" cK ["thing"] fN fdN):aH P w K mg base bX 2 f fd ["self", "move"] (ug C):=by
 have GN:aH P w K mg base bX 1 fN fdN ["thing"] lE:=oS DN.fn T
 refine F.ok Bs (fun vs H Q E h=>?_) (fun cdv A outer s H vs Q E hr h=>?_)
 ·obtain⟨p,ms,st,m,rfl,_⟩:=h
  rfl
 ·obtain⟨p,ms,st,m,rfl,N,hm,k⟩:=h
  have hu:=eI hr
  refine⟨_,au (bB (PW.pt (pw_or (cR (cu (az GN hr rfl DN.mg DN.fn.kp DN.bd .nil aJ (aa (pv 1) ag)))) (pw_or1 (lX (oG hu (pv 1) (iA (pv 0) rfl)))))) iD aX),?_⟩
  clear hu
  dsimp only [iL,Cx.zK]
  have hnm:=N.so.isNm hm
  refine⟨_,rfl,m.1,rfl,by have:=ma hnm;lia,fun H1 s1=>⟨_,rfl,?_⟩⟩
  obtain⟨dx,aP,aS,aT,aG,kT,kG,h1,h2,h3,h4,h5,h6,h7⟩:=(N.at'.same s1).ob
  rw [hnm]
  refine bS ?_
  obtain⟨t,e,_⟩:=h6.get N.so.nd hm
  refine⟨_,rfl,_,rfl,p,C,dx,_,_,rfl,h1,CT.cl,CT.nT,vg _ _ _ _,aT,_,rfl,gW.k (k:=Sum.inr m.1) h4,_,rfl,?_⟩
  rw [e]
  refine bS ?_
  exact k H1 s1
def js(C:Addr)(sel:Mv→List Str):Sp:=fun vs H Q _=>∃ (p:Addr) (ms:List Mv) (st:List Str) (m:Mv),vs=[.ref p,.str m.1]∧cj C H p ms st∧m∈ms∧∀ H' q,ao H H'→H q=none→H' q=some (.lst (aq (aw (sel m))))→Q (.ref q) H'
theorem Ap:aU ["self", "move"] ["self", "move"] (ai eV):=⟨rfl,rfl,rfl,by decide +kernel,rfl,by decide +kernel,by decide +kernel⟩
theorem Af:aU ["self", "move"] ["self", "move"] (ai gc):=⟨rfl,rfl,rfl,by decide +kernel,rfl,by decide +kernel,by decide +kernel⟩
theorem AF:(("must_have":Str) == "place_names")=false:=by decide +kernel
theorem AU:(("must_have":Str) == "start_state")=false:=by decide +kernel
theorem AG:(("must_have":Str) == "taken_by")=false:=by decide +kernel
theorem AK:(("must_have":Str) == "given_by")=false:=by decide +kernel
theorem yb{f C fN fH:Addr}{fd fdN fdH:FuncData}(F:dW K "takes" "Net.takes" eV f fd)(T:Txt K mg)(CT:gG K C)(DN:Def K mg "is_name" cK ["thing"] fN fdN)(DH:dX K C "must_have" "Net.must_have" jQ ["self", "move"] fH fdH) :
  aH P w K mg base bX 3 f fd ["self", "move"] (js C (·.2.1)):=by
 have GH:aH P w K mg base bX 2 fH fdH ["self", "move"] (ug C):=vi DH.fn T CT DN
 refine F.ok Ap (fun vs H Q E h=>?_) (fun cdv A outer s H vs Q E hr h=>?_)
 ·obtain⟨p,ms,st,m,rfl,_⟩:=h
  rfl
 ·obtain⟨p,ms,st,m,rfl,N,hm,k⟩:=h
  have hu:=eI hr
  refine⟨_,aj (cD (eQ (pv 0) CT.cl DH.mt GH hr DH.bd .nil aJ (aa (pv 1) ag))) (au (aK (ba bu rfl T.lst cY (aa (dS hu (iA (pv 0) rfl) (pv 1) (fun _ _=>rfl)) ag)))),?_⟩
  clear hu
  dsimp only [iL,Cx.zK]
  obtain⟨dx,aP,aS,aT,aG,kT,kG,h1,h2,h3,h4,h5,h6,h7⟩:=N.at'.ob
  refine⟨_,rfl,p,dx,_,rfl,h1,bY _ _ _ _ AF AU AG AK,_,rfl,p,ms,st,m,rfl,N,hm,fun H1 s1=>?_⟩
  obtain⟨t,e,ht⟩:=(h6.same fun b xs e=>s1 _ _ e).get N.so.nd hm
  refine⟨_,rfl,p,C,dx,_,_,rfl,s1 _ _ h1,CT.cl,CT.nT,vg _ _ _ _,_,rfl,aT,_,rfl,(by rw [← e];exact gW.k (k:=Sum.inr m.1) (s1 _ _ h4)),t,_,rfl,.inr (cg.of ht),fun q nq=>?_⟩
  exact k _ q (s1.trans (af nq)) (s1.free nq) ae
theorem yD{f C fN fH:Addr}{fd fdN fdH:FuncData}(F:dW K "gives" "Net.gives" gc f fd)(T:Txt K mg)(CT:gG K C)(DN:Def K mg "is_name" cK ["thing"] fN fdN)(DH:dX K C "must_have" "Net.must_have" jQ ["self", "move"] fH fdH) :
  aH P w K mg base bX 3 f fd ["self", "move"] (js C (·.2.2)):=by
 have GH:aH P w K mg base bX 2 fH fdH ["self", "move"] (ug C):=vi DH.fn T CT DN
 refine F.ok Af (fun vs H Q E h=>?_) (fun cdv A outer s H vs Q E hr h=>?_)
 ·obtain⟨p,ms,st,m,rfl,_⟩:=h
  rfl
 ·obtain⟨p,ms,st,m,rfl,N,hm,k⟩:=h
  have hu:=eI hr
  refine⟨_,aj (cD (eQ (pv 0) CT.cl DH.mt GH hr DH.bd .nil aJ (aa (pv 1) ag))) (au (aK (ba bu rfl T.lst cY (aa (dS hu (iA (pv 0) rfl) (pv 1) (fun _ _=>rfl)) ag)))),?_⟩
  clear hu
  dsimp only [iL,Cx.zK]
  obtain⟨dx,aP,aS,aT,aG,kT,kG,h1,h2,h3,h4,h5,h6,h7⟩:=N.at'.ob
  refine⟨_,rfl,p,dx,_,rfl,h1,bY _ _ _ _ AF AU AG AK,_,rfl,p,ms,st,m,rfl,N,hm,fun H1 s1=>?_⟩
  obtain⟨t,e,ht⟩:=(h7.same fun b xs e=>s1 _ _ e).get N.so.nd hm
  refine⟨_,rfl,p,C,dx,_,_,rfl,s1 _ _ h1,CT.cl,CT.nG,AO _ _ _ _,_,rfl,aG,_,rfl,(by rw [← e];exact gW.k (k:=Sum.inr m.1) (s1 _ _ h5)),t,_,rfl,.inr (cg.of ht),fun q nq=>?_⟩
  exact k _ q (s1.trans (af nq)) (s1.free nq) ae
end
end Uf
end
section
namespace L2
open PySem PySem.Spec PyProof.Rows
section
variable {X:Cx}{N:List Str}{n:Nat}{ci:List Nat}{sc:Scope}
theorem dP{elt tg iter:Expr}{ifs:List Expr}{pos cpos py:Pos}{y:Str}{j:Nat}{wi:TI}{g:BX→TG}{tt:BX→TT}{te:BX→TE}(hc:X.calm=true)(hN:X.N.Nodup)(hj:X.N[j]?=some y)(hy:X.env.scope.names.lookup y=some .local)(hi:PI X tg iter wi)(S:dj X N n ci sc)
  (hb:∀ z:BX,PG (jF X sc N z) tg (g z)∧Ee (jF X sc N z) ifs (tt z)∧PE (jF X sc N z) elt (te z)) (hsw:swapsWith (.ListComp elt [⟨tg,iter,ifs,0⟩] sc cpos) (some (.Name y py)) pos.line X.env=pure true:=by rfl)
  (hs:∀ x,foldedSetIterable iter X.env x=pure x:=by intro _;rfl):PS X (.Assign [.Name y py] (.ListComp elt [⟨tg,iter,ifs,0⟩] sc cpos) pos) (Bc (AX n ci wi g tt te) (dU j)):=by
 intro pins s σ H D0 I h
 rw [exec_Assign_Name_used _ _ _ _ hsw]
 refine wpAny_bind (wpAny_standAt (wpAny_bind ?_))
 show wpAny _ X.A (do let _ ← comprehension (.ListComp elt [⟨tg,iter,ifs,0⟩] sc cpos) sc X.env _ (newList []) false (eval iter X.env) (some (assign (.Name y py) X.env))) _ _ s
 refine wpAny_bind (wpAny_mono (wpAny_comprehension_free (use:=some (assign (.Name y py) X.env)) (Q:=fun _ s'=>SP X pins D0 .next s') (E:=X.xe) rfl hs (lK (S.nJ I.ok)) S.kind S.loc (cc (hi pins s σ H _ I h) fun v s1 h1=>cc h1 fun itv s2 h2=>?_)) (fun _ s' hq=>wpAny_pure (wpAny_pure hq)) fun _ _ e=>e)
 obtain⟨it,fp,tn,J,H2,e,I2,T,st2,f2,rd⟩:=h2
 subst e
 refine wpAny_newObj_type (wpAny_newFunctionEnv S.nocell (by intro y hy;simp at hy) (fun h₁ hns₁ hsb₁=>?_) S.kind)
 dsimp only at hns₁ hsb₁ ⊢
 have hD:H2 s2.heap.objs.size=none:=I2.hok.fresh (Nat.le_refl _)
 have I3:Inv X pins σ (upd H2 s2.heap.objs.size (.lst [])) { s2 with heap:=s2.heap.push { cls:=.type "list",data:=.seq ([]:List Value).toArray } }:=I2.BR (t':=s2.toks) (ys:=[]) (its:=[]) .nil (Nat.zero_le _)
 have ob2:∀ b∈fp,∃ o,s2.heap.get? b=some o:=fun b hb=>let ⟨o,e,_⟩:=T.obj _ _ st2 b hb;⟨o,e⟩
 have neD:∀ b∈fp,b≠s2.heap.objs.size:=fun b hb=>let ⟨o,e⟩:=ob2 b hb;Nat.ne_of_lt (Heap.lt_size e)
 have f3:∀ b∈fp,gP X pins (upd H2 s2.heap.objs.size (.lst [])) b:=fun b hb=>⟨by rw [ar (neD b hb)];exact(f2 b hb).1,(f2 b hb).2⟩
 have ob3:∀ b∈fp,∃ o,(s2.heap.push { cls:=.type "list",data:=.seq ([]:List Value).toArray }).get? b=some o:=fun b hb=>let ⟨o,e⟩:=ob2 b hb;⟨o,Heap.get?_push_of_some _ e⟩
 have k3:∀ b o,(s2.heap.push { cls:=.type "list",data:=.seq ([]:List Value).toArray }).get? b=some o→h₁.get? b=some o:=fun b o e =>
  hsb₁.extBut b o (Nat.ne_of_lt (Heap.lt_size e)) (Heap.get?_push_of_some _ e)
 have I4:Inv (jF X sc N ⟨_,{ s2 with heap:=s2.heap.push { cls:=.type "list",data:=.seq ([]:List Value).toArray } },upd H2 s2.heap.objs.size (.lst []),fp⟩) [] (rF n ci σ) (upd H2 s2.heap.objs.size (.lst []))
   { s2 with heap:=h₁,toks:=s2.toks+([]:List (Str × Value)).length }:=oP (s:={ s2 with heap:=s2.heap.push { cls:=.type "list",data:=.seq ([]:List Value).toArray } }) S I3 f3 ob3 k3 hns₁
 have st4:tn 0 h₁:=T.keep _ _ _ st2 fun b hb o e=>k3 b o (Heap.get?_push_of_some _ e)
 obtain⟨M,W,w0,turn⟩:=rd ⟨_,{ s2 with heap:=s2.heap.push { cls:=.type "list",data:=.seq ([]:List Value).toArray } },upd H2 s2.heap.objs.size (.lst []),fp⟩ s2.heap.objs.size hD
 obtain⟨bg,bt,be⟩:=hb ⟨_,{ s2 with heap:=s2.heap.push { cls:=.type "list",data:=.seq ([]:List Value).toArray } },upd H2 s2.heap.objs.size (.lst []),fp⟩
 have ok3:=tj S I3 f3 ob3
 have stat:∀ {H':Hp},(∀ b∈fp,H' b=none)→∀ b∈fp,gP (jF X sc N ⟨_,{ s2 with heap:=s2.heap.push { cls:=.type "list",data:=.seq ([]:List Value).toArray } },upd H2 s2.heap.objs.size (.lst []),fp⟩) [] H' b:=fun hn b hb=>by
  obtain⟨_,f1,f2',_,f4,_⟩:=f3 b hb
  refine⟨hn b hb,?_,ok3.exfs b hb,.inl hb,fun x c e=>?_,fun p hp=>absurd hp (by simp)⟩
  ·exact Nat.ne_of_lt (let ⟨o,e⟩:=ob3 b hb;Heap.lt_size e)
  ·exact f4 x c (cQ _ _ (S.nJ I3.ok) (by simp) x c e)
 have loop:codeAny (model X.prog X.w) X.A (.compLoop (.ListComp elt [⟨tg,iter,ifs,0⟩] sc cpos) 0 (.ref it) (.ref s2.heap.objs.size) (compEnvC sc (iM X.env sc.names []) (s2.heap.push { cls:=.type "list",data:=.seq ([]:List Value).toArray }).objs.size X.env))
   (compPost (model X.prog X.w) X.A X.xe (some (assign (.Name y py) X.env)) (fun _ s'=>SP X pins D0 .next s') (.ref s2.heap.objs.size) (s2.heap.push { cls:=.type "list",data:=.seq ([]:List Value).toArray }).objs.size) { s2 with heap:=h₁,toks:=s2.toks+([]:List (Str × Value)).length }:=by
  refine qF (W:=W) (M:=M) (σ0:=rF n ci σ) (Q:=fun v H'=>D0.nx (σ.set j (some v)) H') hc T bg bt be (fun {pins' σ' H' s'} J'=>?_) stat I4 st4 (fun b hb=>(f3 b hb).1) w0 turn fun σ' H' s' J' q=>?_
  ·exact qR S I3 f3 J'
  ·obtain⟨m',hn',_⟩:=id J'.loc
   have J2:Inv X pins σ H' s':=lA (s:={ s2 with heap:=s2.heap.push { cls:=.type "list",data:=.seq ([]:List Value).toArray } }) I3 f3 J' (Heap.SameBut.refl _ _)
   show wpAny _ _ (assign (.Name y py) X.env (.ref s2.heap.objs.size)) _ _ s'
   refine wpAny_assign_Name (oK (v:=.ref s2.heap.objs.size) J2 hN hj (.inl hy) rfl (fun s3 J3 ⟨a,sb,ha⟩=>?_) (.inr hy))
   have cC:∀ x c,X.env.cells.lookup x=some c→c≠(s2.heap.push { cls:=.type "list",data:=.seq ([]:List Value).toArray }).objs.size:=fun x c e z=>by
    obtain⟨v,q1⟩:=I3.cell x c e
    have:=q1.lt
    rw [z] at this
    exact absurd this (Nat.lt_irrefl _)
   have lC:X.env.locals≠(s2.heap.push { cls:=.type "list",data:=.seq ([]:List Value).toArray }).objs.size:=fun z=>by
    have q1:=I3.lt
    rw [z] at q1
    exact absurd q1 (Nat.lt_irrefl _)
   have aC:a≠(s2.heap.push { cls:=.type "list",data:=.seq ([]:List Value).toArray }).objs.size:=by
    rcases ha with rfl | ha
    ·exact lC
    ·exact cC _ _ ha
   refine⟨m',hn'.sameBut sb (Ne.symm aC),fun h' hs'=>⟨_,H',J3.turned (t':=s3.toks) (fun b o hb e=>(hs'.2 b hb).trans e) J'.free lC.symm (.inr (Nat.le_trans I3.sz (Nat.le_refl _))) cC (fun p hp z=>?_),q⟩⟩
   have q1:=(I3.pin p hp).1
   rw [z] at q1
   exact absurd (Heap.lt_size q1) (Nat.lt_irrefl _)
 exact codeAny_compStart_list loop (T.self _ 0 _ _ _ st4 loop)
end
end L2
end
section
namespace Uf
open PySem L2 UfSrt
abbrev gH:Stmt:=top 22
abbrev eK:Stmt:=top 23
abbrev eO:Stmt:=top 24
def cU(tk s:List Str):Bool:=tk.any fun x=>!decide (x∈s)
def second(tk gv s:List Str):Bool:=gv.any fun x=>decide (x∈s) && !decide (x∈tk)
def behind(tk gv s:List Str):List Str:=aw ((s.filter fun x=>!decide (x∈tk))++gv)
theorem rZ{xs ys:List Str}(p:xs.Perm ys)(f:Str→Bool):xs.any f=ys.any f:=by
 rw [Bool.eq_iff_iff,List.any_eq_true,List.any_eq_true]
 exact⟨fun⟨x,h,e⟩=>⟨x,p.mem_iff.mp h,e⟩,fun⟨x,h,e⟩=>⟨x,p.mem_iff.mpr h,e⟩⟩
theorem wH(tk s:List Str):cU (aw tk) s=cU tk s:=rZ (bp tk) _
theorem uc(tk gv s:List Str):second (aw tk) (aw gv) s=second tk gv s:=by
 unfold second
 rw [rZ (bp gv)]
 congr 1
 funext x
 rw [decide_eq_decide.mpr (bz (xs:=tk) (x:=x))]
theorem tY(tk gv s:List Str):behind (aw tk) (aw gv) s=behind tk gv s:=by
 unfold behind
 refine gC ?_
 have e:(s.filter fun x=>!decide (x∈aw tk))=s.filter fun x=>!decide (x∈tk):=by
  congr 1
  funext x
  rw [decide_eq_decide.mpr (bz (xs:=tk) (x:=x))]
 rw [e]
 exact(bp gv).append_left _
theorem bN(xs:List Str):(aq xs).all dy=true:=by
 unfold aq
 rw [List.all_map,List.all_eq_true]
 intro x _
 rfl
theorem cW(x:Str)(xs:List Str):w9 (.str x) (aq xs)=decide (x∈xs):=by
 unfold w9 aq
 rw [List.any_map,Bool.eq_iff_iff,List.any_eq_true,decide_eq_true_eq]
 constructor
 ·rintro⟨y,hy,e⟩
  have e':kO (.str y) (.str x)=true:=e
  have:y=x:=by simpa [kO] using e'
  rw [← this]
  exact hy
 ·intro h
  exact⟨x,h,by show kO (.str x) (.str x)=true;simp [kO]⟩
section
variable {P:Program}{w:World}{K:PySem.W.Frag}{mg:Str→Option Value}{base:Heap}
def qD(K:PySem.W.Frag)(C:Addr)(g:Mv→List Str→Bool):Sp:=fun vs H Q _=>∃ (p a:Addr) (ms:List Mv) (st s:List Str) (m:Mv),vs=[.ref p,.ref a,.str m.1]∧cj C H p ms st∧m∈ms∧cg K H a (aq s)∧s.length≤200∧∀ H',ao H H'→Q (.bl (g m s)) H'
theorem eY{K:PySem.W.Frag}{H H':Hp}{a:Addr}{xs:List V}(e:ao H H')(h:cg K H a xs):cg K H' a xs:=by
 rcases h with(h | ⟨o,h⟩) | h
 ·exact .inl (.inl (e _ _ h))
 ·exact .inl (.inr ⟨o,e _ _ h⟩)
 ·exact .inr h
theorem u4:(("takes":Str) == "place_names")=false:=by decide +kernel
theorem vn:(("takes":Str) == "start_state")=false:=by decide +kernel
theorem vf:(("takes":Str) == "taken_by")=false:=by decide +kernel
theorem uy:(("takes":Str) == "given_by")=false:=by decide +kernel
theorem xi:(("gives":Str) == "place_names")=false:=by decide +kernel
theorem xC:(("gives":Str) == "start_state")=false:=by decide +kernel
theorem yy:(("gives":Str) == "taken_by")=false:=by decide +kernel
theorem xk:(("gives":Str) == "given_by")=false:=by decide +kernel
theorem Am:aU ["net", "state", "move"] ["net", "state", "move"] (ai gH):=⟨rfl,rfl,rfl,by decide +kernel,rfl,by decide +kernel,by decide +kernel⟩
theorem ye{f C fT:Addr}{fd fdT:FuncData}(F:dW K "lacks_bead" "lacks_bead" gH f fd)(T:Txt K mg)(hany:mg "any"=none)(CT:gG K C)(DT:dX K C "takes" "Net.takes" eV ["self", "move"] fT fdT)(GT:aH P w K mg base bX 3 fT fdT ["self", "move"] (js C (·.2.1))) :
  aH P w K mg base bX 4 f fd ["net", "state", "move"] (qD K C fun m s=>cU m.2.1 s):=by
 refine F.ok Am (fun vs H Q E h=>?_) (fun cdv A outer s H vs Q E hr h=>?_)
 ·obtain⟨p,a,ms,st,s,m,rfl,_⟩:=h
  rfl
 ·obtain⟨p,a,ms,st,s',m,rfl,N,hm,ha,hz,k⟩:=h
  refine⟨_,au (aK (aF (iq rfl) rfl hany qE (aa (bJ (N:=["place", "state"]) (n:=1) (ci:=[1]) rfl (bx (eQ (pv 0) CT.cl DT.mt GT hr DT.bd .nil aJ (aa (pv 2) ag)))
    (g9.of (so:=ai gH) (N0:=["net", "state", "move"]) ⟨rfl,by decide +kernel,by decide +kernel,by decide +kernel,rfl,rfl,by decide +kernel,by decide +kernel⟩)
    (fun z=>⟨aA (i:=0) (bV (N:=["place", "state"]) (by decide +kernel)) rfl (Or.inl rfl),bP,cI cS (pv 0) (pv 1) (by with_unfolding_all rfl)⟩)) ag))),?_⟩
  obtain⟨dx,aP,aS,aT,aG,kT,kG,h1,_⟩:=N.at'.ob
  obtain⟨_,_,_,tk4,gv4⟩:=dq (N.so.mv m hm)
  refine⟨_,rfl,p,dx,_,rfl,h1,bY _ _ _ _ u4 vn vf uy,_,rfl,p,ms,st,m,rfl,N,hm,fun H1 q s1 nq hq=>?_⟩
  refine⟨q,rfl,⟨_,aI.of hq⟩,fun z D hD=>br (a:=q) (xs:=aq (aw m.2.1)) (fun i ys H2=>ys=((aw m.2.1).take i).map (fun x=>V.bl (!decide (x∈s')))∧H2 D=some (.lst ys)∧ao H1 H2) ⟨rfl,ae,af hD⟩ (fun i ys H2 _ p=>aI.of (p.2.2 _ _ hq)) ?_ ?_⟩
  ·rintro i v ys H2 hi ⟨rfl,hys,sm⟩
   obtain⟨x,hx,rfl⟩:=bQ hi
   refine⟨_,rfl,_,rfl,a,aq s',rfl,.inr (eY (s1.trans sm) ha),rfl,bN s',hys,?_,?_,ae,aD sm hD⟩
   ·rw [List.length_map,List.length_take,aW,sizeLine_eq]
    lia
   ·rw [av hx,List.map_append,cW]
    rfl
  ·rintro ys H2 ⟨rfl,hys,sm⟩
   rw [ah,List.take_length] at hys
   refine⟨D,(aw m.2.1).map fun x=>!decide (x∈s'),rfl,aI.of (by rw [hys,List.map_map];rfl),?_⟩
   have e:cU m.2.1 s'=((aw m.2.1).map fun x=>!decide (x∈s')).any id:=by
    rw [← wH,List.any_map]
    rfl
   rw [← e]
   exact k H2 (s1.trans sm)
theorem qO:aU ["net", "state", "move", "taken"] ["net", "state", "move"] (ai eK):=⟨rfl,rfl,rfl,by decide +kernel,rfl,by decide +kernel,by decide +kernel⟩
theorem w5{f C fT fG:Addr}{fd fdT fdG:FuncData}(F:dW K "gives_second" "gives_second" eK f fd)(T:Txt K mg)(hany:mg "any"=none)(CT:gG K C)(DT:dX K C "takes" "Net.takes" eV ["self", "move"] fT fdT)(GT:aH P w K mg base bX 3 fT fdT ["self", "move"] (js C (·.2.1)))
  (DG:dX K C "gives" "Net.gives" gc ["self", "move"] fG fdG) (GG:aH P w K mg base bX 3 fG fdG ["self", "move"] (js C (·.2.2))) :
  aH P w K mg base bX 4 f fd ["net", "state", "move"] (qD K C fun m s=>second m.2.1 m.2.2 s):=by
 refine F.ok qO (fun vs H Q E h=>?_) (fun cdv A outer s H vs Q E hr h=>?_)
 ·obtain⟨p,a,ms,st,s,m,rfl,_⟩:=h
  rfl
 ·obtain⟨p,a,ms,st,s',m,rfl,N,hm,ha,hz,k⟩:=h
  refine⟨_,aj (aN (i:=3) qO.nd rfl (Or.inr rfl) (eQ (pv 0) CT.cl DT.mt GT hr DT.bd .nil aJ (aa (pv 2) ag)))
   (au (aK (aF (iq rfl) rfl hany qE (aa (bJ (N:=["place", "state", "taken"]) (n:=1) (ci:=[1,3]) rfl (bx (eQ (pv 0) CT.cl DG.mt GG hr DG.bd .nil aJ (aa (pv 2) ag)))
    (g9.of (so:=ai eK) (N0:=["net", "state", "move", "taken"]) ⟨rfl,by decide +kernel,by decide +kernel,by decide +kernel,rfl,rfl,by decide +kernel,by decide +kernel⟩)
    (fun z=>⟨aA (i:=0) (bV (N:=["place", "state", "taken"]) (by decide +kernel)) rfl (Or.inl rfl),bP,mz (cI cV (pv 0) (pv 1) (by with_unfolding_all rfl)) (kl (cI cS (pv 0) (pv 2) (by with_unfolding_all rfl)))⟩)) ag)))),?_⟩
  obtain⟨dx,aP,aS,aT,aG,kT,kG,h1,_⟩:=N.at'.ob
  obtain⟨_,_,_,tk4,gv4⟩:=dq (N.so.mv m hm)
  refine⟨_,rfl,p,dx,_,rfl,h1,bY _ _ _ _ u4 vn vf uy,_,rfl,p,ms,st,m,rfl,N,hm,fun H1 q s1 nq hq=>?_⟩
  refine⟨_,rfl,p,dx,_,rfl,s1 _ _ h1,bY _ _ _ _ xi xC yy xk,_,rfl,p,ms,st,m,rfl,N.same s1,hm,fun H2 q2 s2 nq2 hq2=>?_⟩
  refine⟨q2,rfl,⟨_,aI.of hq2⟩,fun z D hD=>br (a:=q2) (xs:=aq (aw m.2.2)) (fun i ys H3=>ys=((aw m.2.2).take i).map (fun x=>V.bl (decide (x∈s') && !decide (x∈aw m.2.1)))∧H3 D=some (.lst ys)∧ao H2 H3) ⟨rfl,ae,af hD⟩ (fun i ys H3 _ p=>aI.of (p.2.2 _ _ hq2)) ?_ ?_⟩
  ·rintro i v ys H3 hi ⟨rfl,hys,sm⟩
   obtain⟨x,hx,rfl⟩:=bQ hi
   have hlen:(((aw m.2.2).take i).map (fun x=>V.bl (decide (x∈s') && !decide (x∈aw m.2.1)))).length<sizeLine:=by
    rw [List.length_map,List.length_take,aW,sizeLine_eq]
    lia
   refine⟨_,rfl,_,rfl,a,aq s',rfl,.inr (eY (s1.trans (s2.trans sm)) ha),rfl,bN s',_,rfl,?_⟩
   show if w9 (V.str x) (aq s')=true then _ else _
   rw [cW]
   cases c1:decide (x∈s') with
   | false =>
    refine bS ⟨hys,hlen,?_,ae,aD sm hD⟩
    rw [av hx,List.map_append]
    simp [c1]
   | true =>
    refine cG ⟨_,rfl,_,rfl,q,aq (aw m.2.1),rfl,.inl (aI.of (sm _ _ (s2 _ _ hq))),rfl,bN _,hys,hlen,?_,ae,aD sm hD⟩
    rw [av hx,List.map_append,cW]
    simp [c1]
  ·rintro ys H3 ⟨rfl,hys,sm⟩
   rw [ah,List.take_length] at hys
   refine⟨D,(aw m.2.2).map fun x=>decide (x∈s') && !decide (x∈aw m.2.1),rfl,aI.of (by rw [hys,List.map_map];rfl),?_⟩
   have e:second m.2.1 m.2.2 s'=((aw m.2.2).map fun x=>decide (x∈s') && !decide (x∈aw m.2.1)).any id:=by
    rw [← uc,List.any_map]
    rfl
   rw [← e]
   exact k H3 (s1.trans (s2.trans sm))
end
end Uf
end
section
namespace Uf
open PySem L2 UfSrt
def bA(ms:List Mv)(x:Str):List Str:=((ms.find? fun m=>decide (m.1=x)).map (·.2.1)).getD []
def bC(ms:List Mv)(x:Str):List Str:=((ms.find? fun m=>decide (m.1=x)).map (·.2.2)).getD []
theorem find_name:∀ {ms:List Mv} {m:Mv},(names ms).Nodup→m∈ms→(ms.find? fun n=>decide (n.1=m.1))=some m
 | [],_,_,h=>by simp at h
 | n::ms,m,hn,h=>by
  obtain⟨n1,n2⟩:=List.nodup_cons.mp (show(n.1::names ms).Nodup from hn)
  rcases List.mem_cons.mp h with rfl | h
  ·simp
  ·have ne:¬ n.1=m.1:=fun z=>n1 (by rw [z];exact List.mem_map.mpr ⟨m,h,rfl⟩)
   rw [List.find?_cons]
   simp only [ne,decide_false]
   exact find_name n2 h
theorem eP{ms:List Mv}{m:Mv}(hn:(names ms).Nodup)(h:m∈ms):bA ms m.1=m.2.1:=by unfold bA;rw [find_name hn h];rfl
theorem eN{ms:List Mv}{m:Mv}(hn:(names ms).Nodup)(h:m∈ms):bC ms m.1=m.2.2:=by unfold bC;rw [find_name hn h];rfl
def ud(ms:List Mv)(s:List Str)(x:Str):List Str:=behind (bA ms x) (bC ms x) s
theorem iQ{ms:List Mv}{x:Str}(h:x∈aw (names ms)):∃ m∈ms,m.1=x:=by
 obtain⟨m,hm,e⟩:=List.mem_map.mp (bz.mp h)
 exact⟨m,hm,e⟩
section
variable {P:Program}{w:World}{K:PySem.W.Frag}{mg:Str→Option Value}{base:Heap}
def rj(K:PySem.W.Frag)(C:Addr):Sp:=fun vs H Q _=>∃ (p a:Addr) (ms:List Mv) (st s:List Str) (m:Mv),vs=[.ref p,.ref a,.str m.1]∧cj C H p ms st∧m∈ms∧cg K H a (aq s)∧s.length≤50 ∧
 ∀ H' q,ao H H'→H q=none→H' q=some (.tup (aq (behind m.2.1 m.2.2 s)))→Q (.ref q) H'
theorem m6:aU ["net", "state", "move", "taken", "left"] ["net", "state", "move"] (ai eO):=⟨rfl,rfl,rfl,by decide +kernel,rfl,by decide +kernel,by decide +kernel⟩
theorem vA{f C fT fG:Addr}{fd fdT fdG:FuncData}(F:dW K "state_behind" "state_behind" eO f fd)(T:Txt K mg)(CT:gG K C)(DT:dX K C "takes" "Net.takes" eV ["self", "move"] fT fdT)(GT:aH P w K mg base bX 3 fT fdT ["self", "move"] (js C (·.2.1)))
  (DG:dX K C "gives" "Net.gives" gc ["self", "move"] fG fdG) (GG:aH P w K mg base bX 3 fG fdG ["self", "move"] (js C (·.2.2))) :
  aH P w K mg base bX 4 f fd ["net", "state", "move"] (rj K C):=by
 refine F.ok m6 (fun vs H Q E h=>?_) (fun cdv A outer s H vs Q E hr h=>?_)
 ·obtain⟨p,a,ms,st,s,m,rfl,_⟩:=h
  rfl
 ·obtain⟨p,a,ms,st,s',m,rfl,N,hm,ha,hz,k⟩:=h
  refine⟨_,aj (aN (i:=3) m6.nd rfl (Or.inr rfl) (eQ (pv 0) CT.cl DT.mt GT hr DT.bd .nil aJ (aa (pv 2) ag)))
   (aj (dP (j:=4) (N:=["place", "taken"]) (n:=1) (ci:=[3]) rfl m6.nd rfl rfl (xB (pv 1))
    (g9.of (so:=ai eO) (N0:=["net", "state", "move", "taken", "left"]) ⟨rfl,by decide +kernel,by decide +kernel,by decide +kernel,rfl,rfl,by decide +kernel,by decide +kernel⟩)
    (fun z=>⟨aA (i:=0) (bV (N:=["place", "taken"]) (by decide +kernel)) rfl (Or.inl rfl),dH (bb cS (pv 0) (pv 1) (by with_unfolding_all rfl)),pv 0⟩))
   (au (aK (ba cw rfl T.tup fE (aa (aF c0 rfl T.aw cN (aa (aB dJ (pv 4) (eQ (pv 0) CT.cl DG.mt GG hr DG.bd .nil aJ (aa (pv 2) ag))) ag)) ag))))),?_⟩
  obtain⟨dx,aP,aS,aT,aG,kT,kG,h1,_⟩:=N.at'.ob
  obtain⟨_,_,_,tk4,gv4⟩:=dq (N.so.mv m hm)
  refine⟨_,rfl,p,dx,_,rfl,h1,bY _ _ _ _ u4 vn vf uy,_,rfl,p,ms,st,m,rfl,N,hm,fun H1 q s1 nq hq=>?_⟩
  refine⟨_,rfl,a,rfl,⟨_,eY s1 ha⟩,fun z D hD=>sD (a:=a) (xs:=aq s') (fun i ys H2=>ys=aq ((s'.take i).filter fun x=>!decide (x∈aw m.2.1))∧H2 D=some (.lst ys)∧ao H1 H2) ⟨rfl,ae,af hD⟩ (fun i ys H2 _ p=>eY (s1.trans p.2.2) ha) ?_ ?_⟩
  ·rintro i v ys H2 hi ⟨rfl,hys,sm⟩
   obtain⟨x,hx,rfl⟩:=bQ hi
   have hlen:(aq ((s'.take i).filter fun x=>!decide (x∈aw m.2.1))).length<sizeLine:=by
    rw [ah,sizeLine_eq]
    have:=List.length_filter_le (fun x=>!decide (x∈aw m.2.1)) (s'.take i)
    rw [List.length_take] at this
    lia
   refine⟨_,rfl,_,rfl,q,aq (aw m.2.1),rfl,.inl (aI.of (sm _ _ hq)),rfl,bN _,_,rfl,?_⟩
   show if (!w9 (V.str x) (aq (aw m.2.1)))=true then _ else _
   rw [cW]
   cases c1:decide (x∈aw m.2.1) with
   | true =>
    refine bS ⟨?_,hys,sm⟩
    rw [av hx,List.filter_append]
    simp [c1]
   | false =>
    refine cG ⟨_,rfl,hys,hlen,?_,ae,aD sm hD⟩
    rw [av hx,List.filter_append]
    unfold aq
    simp [c1]
  ·rintro ys H2 ⟨rfl,hys,sm⟩
   rw [ah,List.take_length] at hys
   refine⟨_,rfl,_,rfl,p,dx,_,rfl,(s1.trans sm) _ _ h1,bY _ _ _ _ xi xC yy xk,_,rfl,p,ms,st,m,rfl,N.same (s1.trans sm),hm,fun H3 q2 s3 nq2 hq2=>?_⟩
   have lf:(s'.filter fun x=>!decide (x∈aw m.2.1)).length≤50:=Nat.le_trans (List.length_filter_le _ _) hz
   have hsl:=PySem.sizeLine_eq
   refine⟨D,q2,_,_,rfl,rfl,s3 _ _ hys,hq2,?_,fun q3 nq3=>?_⟩
   ·rw [ah,ah,aW]
    dsimp only
    lia
   have e1:aq (s'.filter fun x=>!decide (x∈aw m.2.1))++aq (aw m.2.2)=aq ((s'.filter fun x=>!decide (x∈aw m.2.1))++aw m.2.2):=by unfold aq;rw [List.map_append]
   rw [e1]
   refine⟨q3,_,rfl,aI.of ae,?_,fun q4 nq4=>⟨q4,_,rfl,.inl ⟨aI.of ae,fun q5 nq5=>?_⟩⟩⟩
   ·rw [List.length_append,aW]
    lia
   have s5:=(af (o:=.lst (aq ((s'.filter fun x=>!decide (x∈aw m.2.1))++aw m.2.2))) nq3).trans (af (o:=.lst (aq (aw ((s'.filter fun x=>!decide (x∈aw m.2.1))++aw m.2.2)))) nq4)
   have sA:ao H H3:=s1.trans (sm.trans s3)
   refine k _ q5 ((sA.trans s5).trans (af nq5)) ((sA.trans s5).free nq5) ?_
   rw [ae,← tY]
   rfl
theorem kA:(("moves":Str) == "place_names")=false:=by decide +kernel
theorem kI:(("moves":Str) == "start_state")=false:=by decide +kernel
theorem kK:(("moves":Str) == "taken_by")=false:=by decide +kernel
theorem kC:(("moves":Str) == "given_by")=false:=by decide +kernel
end
end Uf
end
section
namespace L2
open PySem
theorem dW.zC{P:PySem.Program}{w:PySem.World}{K:PySem.W.Frag}{mg:PySem.Str→Option PySem.Value}{base:PySem.Heap}{x qual:PySem.Str}{st:PySem.Stmt}{f:PySem.Addr}{fd:PySem.FuncData}{N ps:List PySem.Str}{k:Nat}{sp:Sp}(F:dW K x qual st f fd)(S:aU N ps (ai st))(len:∀ vs H Q E,sp vs H Q E→vs.length=ps.length)
  (hbody:∀ (cdv:PySem.Value) (A:PySem.Around) (outer:List PySem.Env) (s:PySem.Shared) (H:Hp) (vs:List V) (Q:VK) (E:XK),bR k (A.deeper (PyProof.Rows.envOfC qual (ai st) s.heap.objs.size f cdv))→sp vs H Q E →
   ∃ t,qV (iL (jT P w) P w K mg base N qual (ai st) f cdv A outer s H E) (aM st) t∧t { nx:=fun _ H'=>Q .non H',rt:=Q } (start N vs) H):aH P w K mg base (jT P w) (k+1) f fd ps sp:=by
 obtain⟨oc,od,kV,doc,pm,an,cdv,ct,osl,rfl,lk,hcd⟩:=F.ex
 exact A5 lk hcd S len fun A outer s H vs Q E hr hsp=>hbody cdv A outer s H vs Q E hr hsp
end L2
namespace Uf
open PySem L2 UfSrt
abbrev ft:Stmt:=top 25
def pE(C:Addr):Sp:=fun vs H Q _=>∃ a n,vs=[.ref a,.int n]∧n.natAbs.log2<1920∧H a=some (gO a (.ref C) none)∧∀ dx,H dx=none→dx≠a→Q .non (upd (upd H dx (.xd [("at",.int n)])) a (gO a (.ref C) (some dx)))
def eJ(H:Hp)(E:XK)(C:Addr)(n:Int):Prop:=∀ H' dx,ao H H'→H' dx=some (.xd [("at",.int n)])→E (.ref C) (some dx) H'
def sk(K:PySem.W.Frag)(C CN CH CF:Addr):Sp:=fun vs H Q E=>∃ (p a:Addr) (ms:List Mv) (st s:List Str) (x:Str) (n:Int),vs=[.ref p,.ref a,.str x,.int n]∧cj C H p ms st∧cg K H a (aq s)∧s.length≤50∧n.natAbs.log2<1920 ∧
 (x∉names ms→eJ H E CN n)∧(∀ m∈ms,m.1=x→cU m.2.1 s=true→eJ H E CH n)∧(∀ m∈ms,m.1=x→cU m.2.1 s=false→second m.2.1 m.2.2 s=true→eJ H E CF n) ∧
 (∀ m∈ms,m.1=x→cU m.2.1 s=false→second m.2.1 m.2.2 s=false→∀ H' q,ao H H'→H q=none→H' q=some (.tup (aq (behind m.2.1 m.2.2 s)))→Q (.ref q) H')
structure wX(P:Program)(w:World)(K:PySem.W.Frag)(mg:Str→Option Value)(base:Heap)(x:Str)(C N f:Addr)(fd:FuncData):Prop where
 mx:zD K C N f
 gl:mg x=some (.ref C)
 bd:Binds K fd ["self", "at"] []
 ok:aH P w K mg base bX 1 f fd ["self", "at"] (pE C)
 ec:pN K C
section
variable {P:Program}{w:World}{K:PySem.W.Frag}{mg:Str→Option Value}{base:Heap}
theorem xQ:aU ["net", "state", "move", "at"] ["net", "state", "move", "at"] (ai ft):=⟨rfl,rfl,rfl,by decide +kernel,rfl,by decide +kernel,by decide +kernel⟩
theorem wJ{f C CN CH CF NN NH NF fN fH fF fM fL fS fB:Addr}{fd fdN fdH fdF fdM fdL fdS fdB:FuncData}(F:dW K "done_at" "done_at" ft f fd)(CT:gG K C)(XN:wX P w K mg base "NoMove" CN NN fN fdN)(XH:wX P w K mg base "Held" CH NH fH fdH)(XF:wX P w K mg base "Full" CF NF fF fdF)
  (DM:dX K C "moves" "Net.moves" gz ["self"] fM fdM) (GM:aH P w K mg base bX 1 fM fdM ["self"] (i5 C))
  (DL:Def K mg "lacks_bead" gH ["net", "state", "move"] fL fdL) (GL:aH P w K mg base bX 4 fL fdL ["net", "state", "move"] (qD K C fun m s=>cU m.2.1 s))
  (DS:Def K mg "gives_second" eK ["net", "state", "move"] fS fdS) (GS:aH P w K mg base bX 4 fS fdS ["net", "state", "move"] (qD K C fun m s=>second m.2.1 m.2.2 s))
  (DB:Def K mg "state_behind" eO ["net", "state", "move"] fB fdB) (GB:aH P w K mg base bX 4 fB fdB ["net", "state", "move"] (rj K C)) :
  aH P w K mg base (jT P w) 5 f fd ["net", "state", "move", "at"] (sk K C CN CH CF):=by
 refine F.zC xQ (fun vs H Q E h=>?_) (fun cdv A outer s H vs Q E hr h=>?_)
 ·obtain⟨p,a,ms,st,s,x,n,rfl,_⟩:=h
  rfl
 ·obtain⟨p,a,ms,st,s',x,n,rfl,N,ha,hz,hn,k1,k2,k3,k4⟩:=h
  have hr1:bR 1 _:=hr.mono (by decide)
  have hr2:bR 2 _:=hr.mono (by decide)
  refine⟨_,aj (bB (bb cS (pv 2) (bW (pv 0) CT.cl DM.mt GM hr1 DM.bd .nil aJ) (by with_unfolding_all rfl)) (au (hJ ik rfl rfl (mI XN.mx XN.ok hr2 rfl XN.gl XN.bd .nil aJ (aa (pv 3) ag)))) aX)
   (aj (bB (cu (az GL hr rfl DL.mg DL.fn.kp DL.bd .nil aJ (aa (pv 0) (aa (pv 1) (aa (pv 2) ag))))) (au (hJ ik rfl rfl (mI XH.mx XH.ok hr2 rfl XH.gl XH.bd .nil aJ (aa (pv 3) ag)))) aX)
   (aj (bB (cu (az GS hr rfl DS.mg DS.fn.kp DS.bd .nil aJ (aa (pv 0) (aa (pv 1) (aa (pv 2) ag))))) (au (hJ ik rfl rfl (mI XF.mx XF.ok hr2 rfl XF.gl XF.bd .nil aJ (aa (pv 3) ag)))) aX)
   (au (aK (az GB hr rfl DB.mg DB.fn.kp DB.bd .nil aJ (aa (pv 0) (aa (pv 1) (aa (pv 2) ag)))))))),?_⟩
  obtain⟨dx,aP,aS,aT,aG,kT,kG,h1,_⟩:=N.at'.ob
  have fly:∀ {H1:Hp} {Cx:Addr},ao H H1→eJ H E Cx n→∀ y,H1 y=none→H1 y=none∧H y=none∧∀ d,(upd H1 y (gO y (.ref Cx) none)) d=none→d≠y→E (.ref Cx) (some d) (del (upd (upd (upd H1 y (gO y (.ref Cx) none)) d (.xd [("at",.int n)])) y (gO y (.ref Cx) (some d))) y):=fun {H1 Cx} s1 k y hy=>by
   refine⟨hy,s1.free hy,fun d hd hne=>k _ d (fun b o e=>?_) ?_⟩
   ·have e1:=s1 b o e
    have b1:b≠y:=ay e1 hy
    rw [ar (Ne.symm hne).symm] at hd
    have b2:b≠d:=ay e1 hd
    rw [gL b1,ar b1,ar b2,ar b1]
    exact e1
   ·rw [gL hne,ar hne,ae]
  refine⟨_,rfl,_,rfl,p,dx,_,rfl,h1,bY _ _ _ _ kA kI kK kC,p,ms,st,rfl,N,fun H1 q s1 nq hq=>?_⟩
  refine⟨q,_,rfl,.inl (aI.of hq),rfl,bN _,_,rfl,?_⟩
  refine jb (fun c=>?_) (fun c=>?_)
  ·have hx:x∉names ms:=fun z=>by
    have z2:x∈aw (names ms):=(bp _).mem_iff.mpr z
    simp [cW,z2] at c
   refine⟨_,rfl,by simp,fun y hy=>?_⟩
   obtain⟨e1,e2,e3⟩:=fly s1 (k1 hx) y hy
   exact⟨y,n,rfl,hn,ae,fun d h2 h3=>⟨rfl,y,CN,some d,rfl,ae,XN.ec,e2,e3 d h2 h3⟩⟩
  ·have hx:x∈aw (names ms):=by
    simp [cW] at c
    exact c
   obtain⟨m,hm,rfl⟩:=iQ hx
   refine⟨_,rfl,_,rfl,_,rfl,p,a,ms,st,s',m,rfl,N.same s1,hm,eY s1 ha,by lia,fun H2 s2=>?_⟩
   have s12:=s1.trans s2
   refine⟨_,rfl,?_⟩
   refine jb (fun c1=>?_) (fun c1=>?_)
   ·refine⟨_,rfl,by simp,fun y hy=>?_⟩
    obtain⟨e1,e2,e3⟩:=fly s12 (k2 m hm rfl c1) y hy
    exact⟨y,n,rfl,hn,ae,fun d h2 h3=>⟨rfl,y,CH,some d,rfl,ae,XH.ec,e2,e3 d h2 h3⟩⟩
   ·have c1:cU m.2.1 s'=false:=by simpa using c1
    refine⟨_,rfl,_,rfl,_,rfl,p,a,ms,st,s',m,rfl,N.same s12,hm,eY s12 ha,by lia,fun H3 s3=>?_⟩
    have s13:=s12.trans s3
    refine⟨_,rfl,?_⟩
    refine jb (fun c2=>?_) (fun c2=>?_)
    ·refine⟨_,rfl,by simp,fun y hy=>?_⟩
     obtain⟨e1,e2,e3⟩:=fly s13 (k3 m hm rfl c1 c2) y hy
     exact⟨y,n,rfl,hn,ae,fun d h2 h3=>⟨rfl,y,CF,some d,rfl,ae,XF.ec,e2,e3 d h2 h3⟩⟩
    ·have c2:second m.2.1 m.2.2 s'=false:=by simpa using c2
     exact⟨_,rfl,_,rfl,_,rfl,p,a,ms,st,s',m,rfl,N.same s13,hm,eY s13 ha,hz,fun H4 q4 s4 n4 h4=>k4 m hm rfl c1 c2 H4 q4 (s13.trans s4) (s13.free n4) h4⟩
end
end Uf
end
section
namespace L2
open PySem PySem.Spec PyProof.Rows UfSrt
section
variable {X:Cx}
theorem ne_nil:gZ X (compareOp .NotEq) (fun x y H Q=>∃ a b xs,x=.ref a∧y=.ref b∧X.A.units<cLine∧aI X.K H a xs∧aI X.K H b []∧Q (.bl (!xs.isEmpty)) H):=by
 intro pins s σ H x y v u Q I rx ry h
 obtain⟨a,b,xs,rfl,rfl,hu,ha,hb,q⟩:=h
 cases rx
 cases ry
 obtain⟨its,r1,p1,_⟩:=I.list ha
 obtain⟨its2,r2,p2,_⟩:=I.list hb
 cases r2
 cases r1 with
 | nil=>exact PySem.SeqAt.RcNeAt.lists (e:=fun _=>true) p1.isList p2.isList rfl hu (fun j h1 _=>absurd h1 (by simp)) X.prog X.w X.xe _ ⟨.bl false,H,I,rfl,q⟩
 | cons _ _=>exact PySem.SeqAt.RcNeAt.lists_lengths p1.isList p2.isList (by simp) hu X.prog X.w X.xe _ ⟨.bl true,H,I,rfl,q⟩
theorem eq_nil:gZ X (compareOp .Eq) (fun x y H Q=>∃ a b xs,x=.ref a∧y=.ref b∧X.A.units<cLine∧aI X.K H a xs∧aI X.K H b []∧Q (.bl xs.isEmpty) H):=by
 intro pins s σ H x y v u Q I rx ry h
 obtain⟨a,b,xs,rfl,rfl,hu,ha,hb,q⟩:=h
 cases rx
 cases ry
 obtain⟨its,r1,p1,_⟩:=I.list ha
 obtain⟨its2,r2,p2,_⟩:=I.list hb
 cases r2
 cases r1 with
 | nil=>exact PySem.SeqAt.RcAt.lists (e:=fun _=>true) p1.isList p2.isList rfl hu (fun j h1 _=>absurd h1 (by simp)) X.prog X.w X.xe _ ⟨.bl true,H,I,rfl,q⟩
 | cons _ _=>exact PySem.SeqAt.RcAt.lists_lengths p1.isList p2.isList (by simp) hu X.prog X.w X.xe _ ⟨.bl false,H,I,rfl,q⟩
def rL(x:Str)(n:Nat):Str:=⟨(List.replicate n x.cps).foldl (· ++ ·) #[]⟩
theorem yw(x:Str):rL x 1=x:=by
 unfold rL
 simp [List.replicate,List.foldl]
def E8:V→Option Int→Option Int→Hp→VK→Prop:=fun x lo hi H Q=>∃ z:Str,x=.str z∧z.length≤sizeLine∧Q (.str (Txt.slice z lo hi)) H
theorem Bb:EK X E8:=by
 intro pins s σ H x v vl vu lo hi sl Q I rx hs pl pu h
 obtain⟨z,rfl,hz,q⟩:=h
 obtain⟨t,rfl⟩:=rx
 refine⟨"str",_,PySem.F.slot_str_getitem.lookup,typeIs_str _ _ _,?_⟩
 cases pl with
 | none =>
  cases pu with
  | none=>exact wpAny_getItem_str_slice (l:=none) (u:=none) (st:=none) hs rfl (post_val_or_str ⟨Nat.le_trans (Txt.slice_le z _ _) hz,fun t' k=>⟨.str _,H,I.tok k,⟨_,rfl⟩,q⟩⟩)
  | int j uj=>exact wpAny_getItem_str_slice (l:=none) (u:=some (j,uj)) (st:=none) hs rfl (post_val_or_str ⟨Nat.le_trans (Txt.slice_le z _ _) hz,fun t' k=>⟨.str _,H,I.tok k,⟨_,rfl⟩,q⟩⟩)
 | int i ui =>
  cases pu with
  | none=>exact wpAny_getItem_str_slice (l:=some (i,ui)) (u:=none) (st:=none) hs rfl (post_val_or_str ⟨Nat.le_trans (Txt.slice_le z _ _) hz,fun t' k=>⟨.str _,H,I.tok k,⟨_,rfl⟩,q⟩⟩)
  | int j uj=>exact wpAny_getItem_str_slice (l:=some (i,ui)) (u:=some (j,uj)) (st:=none) hs rfl (post_val_or_str ⟨Nat.le_trans (Txt.slice_le z _ _) hz,fun t' k=>⟨.str _,H,I.tok k,⟨_,rfl⟩,q⟩⟩)
end
end L2
end
section
namespace Uf
open PySem L2 UfSrt UfFin
def AM(H:Hp)(a:Addr)(ts:List (List Str)):Prop:=∃ qs:List Addr,H a=some (.lst (qs.map V.ref))∧Paired (fun t q=>H q=some (.tup (aq t))) ts qs
def Dv(H H':Hp):Prop:=∀ b xs,H b=some (.tup xs)→H' b=some (.tup xs)
theorem _root_.L2.ao.iK{H H':Hp}(s:ao H H'):Dv H H':=fun b xs e=>s b _ e
theorem yg{H:Hp}{a:Addr}{o u:HO}(e:H a=some o)(n:∀ xs,o≠.tup xs):Dv H (upd H a u):=fun b xs q=>by
 rw [ar (cv q e (fun z=>n xs z.symm))]
 exact q
structure pO(ms:List Mv)(st t:List Str):Prop where
 ris:lL t
 sub:∀ x∈t,x∈bL ms st
theorem pO.len{ms:List Mv}{st t:List Str}(so:Sound ms st)(h:pO ms st t):t.length≤12:=Nat.le_trans (eX h.ris.nd h.sub) so.pl
theorem ez{ms:List Mv}{st:List Str}{x:Str}:x∈bL ms st↔x∈st∨∃ m∈ms,x∈m.2.1∨x∈m.2.2:=by
 unfold bL
 rw [bz,UfSet.jd,List.mem_append]
 unfold jE
 rw [List.mem_flatMap]
 simp only [List.mem_append]
theorem mU{ms:List Mv}{st:List Str}(so:Sound ms st):pO ms st (aw st):=⟨lL.aw (aZ so.su),fun x hx=>ez.mpr (.inl (bz.mp hx))⟩
theorem ot{ms:List Mv}{st t:List Str}{m:Mv}(so:Sound ms st)(h:pO ms st t)(hm:m∈ms)(hs:second m.2.1 m.2.2 t=false):pO ms st (behind m.2.1 m.2.2 t):=by
 obtain⟨_,u2,_⟩:=dq (so.mv m hm)
 have gn:m.2.2.Nodup:=aZ u2
 refine⟨lL.aw (List.nodup_append.mpr ⟨h.ris.nd.sublist List.filter_sublist,gn,fun a ha b hb=>?_⟩),fun x hx=>?_⟩
 ·rintro rfl
  obtain⟨h1,h2⟩:=List.mem_filter.mp ha
  have h3:second m.2.1 m.2.2 t=true:=List.any_eq_true.mpr ⟨a,hb,by simp at h2;simp [h1,h2]⟩
  rw [hs] at h3
  cases h3
 ·unfold behind at hx
  rcases List.mem_append.mp (bz.mp hx) with z | z
  ·exact h.sub x (List.mem_filter.mp z).1
  ·exact ez.mpr (.inr ⟨m,hm,.inr z⟩)
def wordOf(m:Mv)(s:List Str):Str:=if cU m.2.1 s=true then "held" else if second m.2.1 m.2.2 s=true then "full" else "may"
def cX(ms:List Mv)(s:List Str)(x:Str):Str:=match ms.find? fun m=>decide (m.1=x) with
 | none=>"no"
 | some m=>wordOf m s
theorem gu{ms:List Mv}{s:List Str}{m:Mv}(hn:(names ms).Nodup)(hm:m∈ms):cX ms s m.1=wordOf m s:=by unfold cX;rw [find_name hn hm]
theorem jn{ms:List Mv}{s:List Str}{x:Str}(hx:x∉names ms):cX ms s x="no":=by
 unfold cX
 rw [List.find?_eq_none.mpr fun m hm z=>hx (List.mem_map.mpr ⟨m,hm,by simpa using z⟩)]
theorem oZ{m:Mv}{t:List Str}(h:cU m.2.1 t=true):wordOf m t="held":=by unfold wordOf;rw [if_pos h]
theorem nN{m:Mv}{t:List Str}(h:cU m.2.1 t=false)(h2:second m.2.1 m.2.2 t=true):wordOf m t="full":=by unfold wordOf;rw [if_neg (by rw [h];simp),if_pos h2]
theorem lF{m:Mv}{t:List Str}(h:cU m.2.1 t=false)(h2:second m.2.1 m.2.2 t=false):wordOf m t="may":=by unfold wordOf;rw [if_neg (by rw [h];simp),if_neg (by rw [h2];simp)]
theorem yj:("held":Str)≠"may":=by decide +kernel
theorem xh:("full":Str)≠"may":=by decide +kernel
theorem wD:("no":Str)≠"may":=by decide +kernel
theorem Df:("no":Str)≠"held":=by decide +kernel
theorem Dl:("no":Str)≠"full":=by decide +kernel
theorem m7{ms:List Mv}{s:List Str}{x:Str}(hn:(names ms).Nodup):(x∉names ms∧cX ms s x="no")∨∃ m∈ms,m.1=x∧((cU m.2.1 s=true∧cX ms s x="held")∨(cU m.2.1 s=false∧second m.2.1 m.2.2 s=true∧cX ms s x="full")∨(cU m.2.1 s=false∧second m.2.1 m.2.2 s=false∧cX ms s x="may")):=by
 by_cases hx:x∈names ms
 ·obtain⟨m,hm,rfl⟩:=List.mem_map.mp hx
  refine .inr ⟨m,hm,rfl,?_⟩
  rw [gu hn hm]
  cases h1:cU m.2.1 s with
  | true=>exact .inl ⟨rfl,oZ h1⟩
  | false =>
   cases h2:second m.2.1 m.2.2 s with
   | true=>exact .inr (.inl ⟨rfl,rfl,nN h1 h2⟩)
   | false=>exact .inr (.inr ⟨rfl,rfl,lF h1 h2⟩)
 ·exact .inl ⟨hx,jn hx⟩
theorem sT{ms:List Mv}{t:List Str}{m:Mv}(hn:(names ms).Nodup)(hm:m∈ms):ud ms t m.1=behind m.2.1 m.2.2 t:=by
 unfold ud
 rw [eP hn hm,eN hn hm]
def cy(ts:List (List Str)):List Str:=ts.getD (ts.length-1) []
theorem ur(ts:List (List Str))(t:List Str):cy (ts++[t])=t:=by
 unfold cy
 rw [List.length_append,List.length_singleton,Nat.add_sub_cancel,List.getD_eq_getElem?_getD,List.getElem?_append_right (Nat.le_refl _),Nat.sub_self]
 rfl
theorem j5{ts:List (List Str)}(h:ts≠[]):cy ts∈ts:=by
 have:=List.length_pos_iff.mpr h
 unfold cy
 rw [List.getD_eq_getElem?_getD,List.getElem?_eq_getElem (by lia)]
 exact List.getElem_mem _
def jR(ms:List Mv)(p:List (List Str) × Str)(x:Str):List (List Str) × Str :=
 if p.2="may" then(if cX ms (cy p.1) x="may" then(p.1++[ud ms (cy p.1) x], "may") else(p.1,cX ms (cy p.1) x)) else p
def bc(ms:List Mv)(s0:List Str)(r:List Str):List (List Str) × Str:=r.foldl (jR ms) ([s0], "may")
theorem gF(ms:List Mv)(s0 r:List Str)(x:Str):bc ms s0 (r++[x])=jR ms (bc ms s0 r) x:=by
 unfold bc
 rw [List.foldl_append]
 rfl
theorem jw{ms:List Mv}{p:List (List Str) × Str}{x:Str}(h:p.2="may")(h2:cX ms (cy p.1) x="may"):jR ms p x=(p.1++[ud ms (cy p.1) x],("may":Str)):=by unfold jR;rw [if_pos h,if_pos h2]
theorem kZ{ms:List Mv}{p:List (List Str) × Str}{x:Str}(h:p.2="may")(h2:cX ms (cy p.1) x≠"may"):jR ms p x=(p.1,cX ms (cy p.1) x):=by unfold jR;rw [if_pos h,if_neg h2]
theorem mT{ms:List Mv}{p:List (List Str) × Str}{x:Str}(h:p.2≠"may"):jR ms p x=p:=by unfold jR;rw [if_neg h]
theorem jZ{ms:List Mv}{s0 r:List Str}(h:(bc ms s0 r).2≠"may")(t:List Str):bc ms s0 (r++t)=bc ms s0 r:=by
 unfold bc at h ⊢
 rw [List.foldl_append]
 generalize r.foldl (jR ms) ([s0], "may")=p at h ⊢
 induction t with
 | nil=>rfl
 | cons x t ih=>rw [List.foldl_cons,mT h,ih]
theorem u5{ms:List Mv}{s0 r:List Str}(h:(bc ms s0 r).2="may")(i:Nat):(bc ms s0 (r.take i)).2="may":=by
 by_cases e:(bc ms s0 (r.take i)).2="may"
 ·exact e
 ·have:=jZ e (r.drop i)
  rw [List.take_append_drop] at this
  rw [this] at h
  exact h
structure Dn(ms:List Mv)(st:List Str)(r:List Str)(p:List (List Str) × Str):Prop where
 le:p.1.length≤r.length+1
 pos:1≤p.1.length
 may:p.2="may"→p.1.length=r.length+1
 fine:∀ t∈p.1,pO ms st t
 back:bc ms (aw st) (r.take (p.1.length-1))=(p.1,("may":Str))
 wd:p.2="may"∨p.2="no"∨p.2="held"∨p.2="full"
theorem Ab{ms:List Mv}{st:List Str}(so:Sound ms st)(n:Nat):∀ r:List Str,r.length=n→Dn ms st r (bc ms (aw st) r):=by
 induction n with
 | zero =>
  intro r hr
  have e:r=[]:=List.eq_nil_of_length_eq_zero hr
  subst e
  exact⟨by simp [bc],by simp [bc],fun _=>by simp [bc],fun t ht=>by
   have e:t=aw st:=by simpa [bc] using ht
   rw [e];exact mU so,rfl,.inl rfl⟩
 | succ n ih =>
  intro r hr
  have hne:r≠[]:=fun z=>by rw [z] at hr;simp at hr
  obtain⟨r',x,rfl⟩:∃ r' x,r=r'++[x]:=⟨r.dropLast,r.getLast hne,(List.dropLast_concat_getLast hne).symm⟩
  have hr':r'.length=n:=by simpa using hr
  have I:=ih r' hr'
  rw [gF]
  generalize hp:bc ms (aw st) r'=p at I ⊢
  have hlen:(r'++[x]).length=r'.length+1:=by simp
  have hpn:p.1≠[]:=fun z=>by have:=I.pos;rw [z] at this;simp at this
  by_cases h1:p.2="may"
  ·by_cases h2:cX ms (cy p.1) x="may"
   ·have hl:=I.may h1
    rw [jw h1 h2]
    rcases m7 (ms:=ms) (s:=cy p.1) (x:=x) so.nd with⟨_,z⟩ | ⟨m,hm,rfl,⟨_,z⟩ | ⟨_,_,z⟩ | ⟨l1,l2,_⟩⟩
    ·rw [h2] at z;exact absurd z.symm wD
    ·rw [h2] at z;exact absurd z.symm yj
    ·rw [h2] at z;exact absurd z.symm xh
    refine⟨by simp;lia,by simp,fun _=>by simp;lia,fun t ht=>?_,?_,.inl rfl⟩
    ·rcases List.mem_append.mp ht with z | z
     ·exact I.fine t z
     ·have e:t=ud ms (cy p.1) m.1:=by simpa using z
      rw [e,sT so.nd hm]
      exact ot so (I.fine _ (j5 hpn)) hm l2
    ·have e:(p.1++[ud ms (cy p.1) m.1]).length-1=(r'++[m.1]).length:=by simp;lia
     show bc ms (aw st) ((r'++[m.1]).take ((p.1++[ud ms (cy p.1) m.1]).length-1))=_
     rw [e,List.take_length,gF,hp,jw h1 h2]
   ·rw [kZ h1 h2]
    have hl:=I.may h1
    refine⟨by show p.1.length≤_;lia,I.pos,fun z=>absurd z h2,I.fine,?_,?_⟩
    ·show bc ms (aw st) ((r'++[x]).take (p.1.length-1))=_
     rw [hl,Nat.add_sub_cancel,List.take_left' rfl,hp,← h1]
    ·rcases m7 (ms:=ms) (s:=cy p.1) (x:=x) so.nd with⟨_,z⟩ | ⟨m,hm,rfl,⟨_,z⟩ | ⟨_,_,z⟩ | ⟨l1,l2,z⟩⟩
     ·exact .inr (.inl z)
     ·exact .inr (.inr (.inl z))
     ·exact .inr (.inr (.inr z))
     ·exact .inl z
  ·rw [mT h1]
   have hle:=I.le
   refine⟨by lia,I.pos,fun z=>absurd z h1,I.fine,?_,I.wd⟩
   rw [List.take_append_of_le_length (by lia)]
   exact I.back
theorem rG{ms:List Mv}{st:List Str}(so:Sound ms st)(r:List Str):Dn ms st r (bc ms (aw st) r):=Ab so _ r rfl
theorem xS{H:Hp}{ts:List (List Str)}{qs:List Addr}(h:Paired (fun t q=>H q=some (.tup (aq t))) ts qs)(hp:1≤ts.length):∃ q,o3 (qs.map V.ref) (-1)=some (V.ref q)∧H q=some (.tup (aq (cy ts))):=by
 have hl:=Paired.length h
 have hi:qs.length-1<qs.length:=by lia
 have e:qs[qs.length-1]?=some qs[qs.length-1]:=List.getElem?_eq_getElem hi
 obtain⟨t,h1,h2⟩:=cA h e
 refine⟨qs[qs.length-1],?_,?_⟩
 ·unfold o3 xf
  rw [if_neg (by decide),if_pos (by rw [List.length_map];lia),List.length_map]
  show(qs.map V.ref)[(-1+((qs.length:Nat):Int)).toNat]?=_
  have e0:(-1+((qs.length:Nat):Int)).toNat=qs.length-1:=by lia
  rw [e0,List.getElem?_map,e]
  rfl
 ·have e3:cy ts=t:=by
   unfold cy
   rw [List.getD_eq_getElem?_getD,hl,h1]
   rfl
  rw [e3]
  exact h2
end Uf
end
section
namespace L2
open PySem PySem.Spec PyProof.Rows UfSrt
section
variable {X:Cx}{pins:List (Addr × Obj)}{σ:St}{H:Hp}{s:Shared}
theorem Inv.oC{h':Heap}{t':Nat}{ch:List Addr}{T:Addr}{u:HO}(I:Inv X pins σ H s)(hch:∀ b∈ch,gP X pins H b)(k:∀ b o,b∉ch→s.heap.get? b=some o→h'.get? b=some o)(hT:s.heap.objs.size≤T)
  (new:bO X.prog X.w (upd H T u) h' T u):Inv X pins σ (upd H T u) { s with heap:=h',toks:=t' }:=by
 have hn:H T=none:=I.hok.fresh hT
 have nch:∀ b v,H b=some v→b∉ch:=fun b v e z=>by rw [(hch b z).1] at e;cases e
 have nT:∀ b o,s.heap.get? b=some o→b≠T:=fun b o e=>Nat.ne_of_lt (Nat.lt_of_lt_of_le (Heap.lt_size e) hT)
 refine I.step (g':=s.gens) (d':=s.drawn) (ch:=ch) (fun b hb=>⟨(hch b hb).2.2.2.1,(hch b hb).2.1,(hch b hb).2.2.2.2.1,(hch b hb).2.2.2.2.2⟩) (fun b o _ _ hc e _=>k b o hc e) (fun b o _ _ hc e _=>⟨o.slots,k b o hc e⟩) (fun b o _ e n=>by rw [ar (nT b o e)];exact n)
  (fun b o hc e=>⟨o,k b o hc e⟩) (fun b xs e=>by rw [ar (ay e hn)];exact e) (fun b o v e=>by rw [ar (ay e hn)];exact e) (fun b ps e=>⟨#[],by rw [ar (ay e hn),e];simp⟩) (fun m hm=>?_) (fun b v e=>?_) I.bare
 ·obtain⟨o,es,ep,ho,r⟩:=hm
  exact⟨o,es,ep,k _ o (fun z=>(hch _ z).2.1 rfl) ho,r⟩
 ·by_cases hb:b=T
  ·subst hb
   rw [ae] at e
   cases e
   exact new
  ·rw [ar hb] at e
   refine(I.hok b v e).iy (fun c w hc q=>k c w ?_ q) (fun c q=>by rw [ar (ay q hn)];exact q) fun c xs q=>by rw [ar (ay q hn)];exact q
   rcases hc with z | z
   ·rw [z];exact nch b v e
   ·exact nch c _ z
end
def CP(K:PySem.W.Frag)(l:Addr):It :=
 ⟨fun i H=>∃ xs x,aI K H l xs∧xs[i]?=some x,fun i H x H'=>∃ p v,x=.ref p∧H p=none∧H'=upd H p (.tup [.int (i:Int),v])∧∀ xs,aI K H l xs→xs[i]?=some v,fun i H=>∃ xs,aI K H l xs∧xs.length≤i⟩
theorem wx{P:Program}{w:World}{K:PySem.W.Frag}{elts:List Expr}{x1}{pos:Pos}{l e it:Addr}(hne:e≠it) :
  Turn P w K (.Tuple elts x1 pos) (CP K l) [e,it] e (fun i h=>(∃ old,IsEnum h e it i old)∧h.IsListIter it l i) where
 mem:=by simp
 obj:=fun i h st b hb=>by
  obtain⟨⟨old,he⟩,o,e2,c,d⟩:=st
  rcases List.mem_cons.mp hb with z | hb
  ·subst z
   exact⟨_,he,fun v z=>by
    have z':Data.fields _=Data.cell v:=z
    cases z'⟩
  ·have z:b=it:=by simpa using hb
   subst z
   exact⟨o,e2,fun v z=>by rw [d] at z;cases z⟩
 keep:=fun i h h' st k=>⟨let ⟨old,he⟩:=st.1;⟨old,k e (by simp) _ he⟩,st.2.at fun o q=>k it (by simp) o q⟩
 item:=by
  intro X hP hw hK hc i pins s σ H E I hf st hg
  subst hP hw hK
  obtain⟨xs,x,hq,hx⟩:=hg
  obtain⟨its,rv,p,hz⟩:=I.list hq
  obtain⟨u,hu,ru⟩:=rv.get hx
  obtain⟨⟨old,he⟩,hit⟩:=st
  refine wpAny_pyNext_enum_item he hit p.isList (x:=u) (by simpa using hu) hne fun h1 ho hit1 hT hsz hk=>?_
  refine⟨.ref s.heap.objs.size,rfl,wpAny_letOwnedTupleGo_enum ho fun h2 he2 hs2=>?_⟩
  have elt:e<s.heap.objs.size:=Heap.lt_size he
  have ilt:it<s.heap.objs.size:=by obtain⟨_,y,_⟩:=hit;exact Heap.lt_size y
  have kk:∀ b o,b∉[e,it]→s.heap.get? b=some o→h2.get? b=some o:=fun b o hb q=>by
   have n1:b≠e:=fun z=>hb (by simp [z])
   have n2:b≠it:=fun z=>hb (by simp [z])
   exact(hs2.2 b n1).trans (hk b o n1 n2 q)
  have hT2:h2.get? s.heap.objs.size=some { cls:=.type "tuple",data:=.seq #[.int i s.toks,u] }:=(hs2.2 _ (Nat.ne_of_gt elt)).trans hT
  have hn:=I.hok.fresh (Nat.le_refl s.heap.objs.size)
  refine⟨.ref s.heap.objs.size,upd H s.heap.objs.size (.tup [.int (i:Int),x]),I.oC (t':=s.toks+1) hf kk (Nat.le_refl _) ⟨by show 2≤sizeLine;rw [sizeLine_eq];decide,[.int i s.toks,u],.cons ⟨_,rfl⟩ (.cons ru .nil),_,hT2,rfl,_,rfl⟩,rfl,⟨_,x,rfl,hn,rfl,fun ys hy=>by rw [I.jg hy hq];exact hx⟩,⟨⟨_,by simpa using he2⟩,hit1.at fun o q=>(hs2.2 it (Ne.symm hne)).trans q⟩,fun b hb=>?_⟩
  have nb:b≠s.heap.objs.size:=by
   rcases List.mem_cons.mp hb with z | hb
   ·rw [z];exact Nat.ne_of_lt elt
   ·have z:b=it:=by simpa using hb
    rw [z];exact Nat.ne_of_lt ilt
  rw [ar nb]
  exact(hf b hb).1
 done:=by
  intro X hP hw hK hc i pins s σ H E I hf st hg
  subst hP hw hK
  obtain⟨xs,hq,hx⟩:=hg
  obtain⟨its,rv,p,hz⟩:=I.list hq
  obtain⟨⟨old,he⟩,hit⟩:=st
  obtain⟨f0,f1,f2,f3,f4,f5⟩:=hf it (by simp)
  have hl:=rv.length
  exact wpAny_pyNext_enum_end (I.ok.hd hc) he hit p.isList (by simp;lia) fun h' eb=>⟨rfl,I.turned (t':=s.toks) (fun b o hb e=>eb b o hb e) f0 f1 f3 f4 f5⟩
 self:=fun _ _ _ _ _ st h=>let ⟨⟨_,he⟩,_⟩:=st;wpAny_pyIter_enum he h
section
variable {X:Cx}{elts:List Expr}{x1:Nat}{tpos:Pos}
theorem boot_enumerate:bootBuiltins "enumerate"=some (.type "enumerate"):=by decide +kernel
def CY(K:PySem.W.Frag)(ta:TA):TI:=fun σ H R=>ta σ H fun vs H1=>∃ l,vs=[.ref l]∧(∃ xs,aI K H1 l xs)∧R (CP K l) H1
theorem kW{a:Expr}{ta:TA}{p pos:Pos}(hg:Gl X "enumerate")(hm:X.mg "enumerate"=none)(ha:PA X [a] ta)(hs:starEach [a] X.env=[(false,eval a X.env)]:=by rfl):PI X (.Tuple elts x1 tpos) (.Call (.Name "enumerate" p) [a] [] pos) (CY X.K ta):=by
 intro pins s σ H R I h
 refine Call_ (eE I hg hm boot_enumerate (PyProof.Rows.callWith_type1 (cc (ha pos pins s σ H _ I h) fun us s1 ⟨vs,H1,I1,r1,q1⟩=>?_) hs rfl))
 obtain⟨l,e,⟨xs,hq⟩,q⟩:=q1
 subst e
 cases r1 with
 | cons r rr =>
  cases rr
  cases r
  obtain⟨its,rv,pl,hz⟩:=I1.list hq
  refine call_enumerate_list pl.isList fun h' he hit hsz hk=>?_
  refine wpAny_pyIter_enum he ?_
  have hne:s1.heap.objs.size+1≠s1.heap.objs.size:=Nat.succ_ne_self _
  have I2:Inv X pins σ H1 { s1 with heap:=h' }:=I1.kept (t':=s1.toks) hk
  refine⟨s1.heap.objs.size+1,[s1.heap.objs.size+1,s1.heap.objs.size],_,_,H1,rfl,I2,wx hne,⟨⟨_,he⟩,hit⟩,fun b hb=>?_,q⟩
  have hb2:s1.heap.objs.size≤b:=by
   rcases List.mem_cons.mp hb with z | hb
   ·rw [z];exact Nat.le_succ _
   ·have z:b=s1.heap.objs.size:=by simpa using hb
    rw [z];exact Nat.le_refl _
  exact I1.tD hb2 (I1.hok.fresh hb2)
end
theorem jm{K:PySem.W.Frag}{a:Addr}{xs:List V}{g:TG}{tb:TS}{D:Ends}{σ:St}{H:Hp}(Pv:Nat→St→Hp→Prop)(h0:Pv 0 σ H)(hl:∀ i σ H,i≤xs.length→Pv i σ H→aI K H a xs)
  (hs:∀ i x p σ H,xs[i]?=some x→Pv i σ H→H p=none→g (.ref p) σ (upd H p (.tup [.int (i:Int),x])) fun σ2 H2=>tb { D with nx:=Pv (i+1),ct:=Pv (i+1),bk:=D.nx } σ2 H2) (hd:∀ σ H,Pv xs.length σ H→D.nx σ H) :
  ∃ W:Nat→Nat→St→Hp→Prop,(∃ m,W 0 m σ H)∧∀ i m σ H,W i m σ H →
   ((CP K a).stop i H∧D.nx σ H)∨((CP K a).go i H∧∃ N:St→Hp→Prop,(∀ σ' H',N σ' H'→∃ m',m'<m∧W (i+1) m' σ' H')∧∀ x H',(CP K a).yld i H x H'→g x σ H' fun σ2 H2=>tb { D with nx:=N,ct:=N,bk:=D.nx } σ2 H2):=by
 refine⟨fun i m σ H=>m=xs.length-i∧i≤xs.length∧Pv i σ H,⟨xs.length,by simp,Nat.zero_le _,h0⟩,?_⟩
 rintro i m σ H ⟨rfl,hi,p⟩
 have q:=hl i σ H hi p
 by_cases hlt:i<xs.length
 ·refine .inr ⟨⟨xs,xs[i],q,by simp [hlt]⟩,Pv (i+1),fun σ' H' p'=>⟨xs.length-(i+1),by lia,rfl,hlt,p'⟩,fun x H' y=>?_⟩
  obtain⟨pp,v,rfl,hn,rfl,hv⟩:=y
  exact hs i v pp σ _ (hv xs q) p hn
 ·have e:i=xs.length:=by lia
  subst e
  exact .inl ⟨⟨xs,q,Nat.le_refl _⟩,hd σ H p⟩
end L2
end
section
namespace Uf
open PySem L2 UfSrt UfFin
theorem wj(x:Str):x.length=x.cps.toList.length:=by simp [Str.length]
theorem vE:zl.cps.toList=(List.range 26).map (· + 97):=by decide +kernel
theorem zV{c:Nat}(h1:97≤c)(h2:c≤122):c∈zl.cps.toList:=by
 rw [vE]
 exact List.mem_map.mpr ⟨c-97,List.mem_range.mpr (by lia),by lia⟩
def zy(l:List Nat):Prop:=∀ c∈l,97≤c∧c≤122
theorem Du{x:Str}(h1:1≤x.cps.toList.length)(h2:x.cps.toList.length≤8)(h:zy x.cps.toList):isNm x=true:=by
 unfold isNm
 rw [wj,decide_eq_true h1,decide_eq_true h2,Bool.true_and,Bool.true_and,List.all_eq_true]
 intro c hc
 exact decide_eq_true (zV (h c hc).1 (h c hc).2)
theorem oq{xs:List Str}(h1:∀ x∈xs,isNm x=true)(h2:xs.Nodup):unlike xs=true:=by
 unfold unlike
 rw [List.all_eq_true.mpr h1,decide_eq_true h2]
 rfl
theorem cM{xs:List Str}(h:unlike xs=true){x:Str}(hx:x∈xs):isNm x=true:=List.all_eq_true.mp (Bool.and_eq_true_iff.mp h).1 x hx
theorem bM{xs ys:List Str}(h:unlike xs=true)(hn:ys.Nodup)(hs:∀ y∈ys,y∈xs):unlike ys=true:=oq (fun y hy=>cM h (hs y hy)) hn
theorem ia{xs:List Str}(h:unlike xs=true)(n:Nat):unlike (xs.take n)=true:=bM h ((aZ h).sublist (List.take_sublist n xs)) fun y hy=>List.mem_of_mem_take hy
end Uf
end
section
namespace L2
open PySem PySem.Spec PyProof.Rows UfSrt
theorem fm{α β:Type}{F:α→β→Prop}:∀ {l:List α} {m:List β} {i:Nat} {b:β},Paired F l m→m[i]?=some b→∃ a,l[i]?=some a∧F a b
 | _,_,_,_,.nil,e=>by simp at e
 | _,_,0,_,.cons r _,e=>by
  simp at e
  subst e
  exact⟨_,rfl,r⟩
 | _,_,i+1,_,.cons _ t,e=>by
  obtain⟨a,h1,h2⟩:=fm (i:=i) t (by simpa using e)
  exact⟨a,by simpa using h1,h2⟩
theorem E5{P:Program}{w:World}{k:Key}{v:Value}(h:(bU P w).is k v=true):RelV (kV k) v:=by
 rw [lP] at h
 rcases cb h with⟨i,t,z,z2⟩ | ⟨y,t,z,z2⟩
 ·subst z z2
  exact⟨t,rfl⟩
 ·subst z z2
  exact⟨t,rfl⟩
section
variable {X:Cx}{pins:List (Addr × Obj)}{σ:St}{H:Hp}{s:Shared}
theorem Inv.EF{a:Addr}{kvs:List (Key × V)}(I:Inv X pins σ H s)(e:H a=some (.dK kvs)):∃ o,Inv X pins σ (upd H a (.frz o (.dK kvs))) s:=by
 obtain⟨z,y,vs,rel,o,es,ep,ho,r⟩:=A4 I.hok e
 refine⟨o,?_⟩
 have u:Un X.fs [] H (upd H a (.frz o (.dK kvs))) s.heap s.heap:=by
  refine⟨fun b ob q _ _ _=>q,fun b ob q _ _ _=>⟨ob.slots,q⟩,fun b ob q n _=>?_,fun b ob q _=>⟨ob,q⟩,fun b xs q=>?_,fun b ob v q=>?_,fun b ps q=>⟨#[],?_⟩⟩
  ·rw [ar (fun z=>by rw [z,e] at n;cases n)];exact n
  ·rw [ar (cv q e (fun z=>nomatch z))];exact q
  ·rw [ar (cv q e (fun z=>nomatch z))];exact q
  ·rw [ar (cv q e (fun z=>nomatch z)),q];simp
 refine I.un (h':=s.heap) (t':=s.toks) u fun b v e'=>?_
 by_cases hb:b=a
 ·subst hb
  rw [ae] at e'
  cases e'
  exact⟨ho,show bO X.prog X.w H s.heap b (.dK kvs) from I.hok b _ e⟩
 ·rw [ar hb] at e'
  exact(I.hok b v e').iy (fun c v _ q=>q) (fun c q=>by rw [ar (cv q e (fun z=>nomatch z))];exact q) fun c xs q=>by rw [ar (cv q e (fun z=>nomatch z))];exact q
def E4(te:TE):TE:=fun σ H Q=>te σ H fun v H1=>∃ a kvs,v=.ref a∧H1 a=some (.dK kvs)∧∀ o,Q (.ref a) (upd H1 a (.frz o (.dK kvs)))
theorem tS{e:Expr}{te:TE}(he:PE X e te):PE X e (E4 te):=by
 intro pins s σ H Q I h
 refine cc (he pins s σ H _ I h) fun u s1 ⟨v,H1,I1,r1,a,kvs,ev,ea,q⟩=>?_
 subst ev
 obtain⟨o,I2⟩:=I1.EF ea
 exact⟨.ref a,_,I2,r1,q o⟩
theorem y8{a:Addr}{o:Obj}{kvs:List (Key × V)}{es:Array DictEntry}{ep:Nat}(I:Inv X pins σ H s)(e:H a=some (.frz o (.dK kvs)))(hd:o.data=.dict es ep) :
  ∃ vs,KV kvs vs∧s.heap.DictAt (bU X.prog X.w) a vs ep∧(a==sysModules)=false∧kvs.length≤sizeLine:=by
 obtain⟨ho,z,y,vs,rel,dd⟩:=(show bO X.prog X.w H s.heap a (.frz o (.dK kvs)) from I.hok a _ e)
 obtain⟨ep',hat⟩:=dd.dictAt
 obtain⟨o',es',ho',hc',hd',hr⟩:=id hat
 rw [ho] at ho'
 cases ho'
 rw [hd] at hd'
 cases hd'
 exact⟨vs,rel,hat,y,z⟩
end
def CJ(a:Addr)(o:Obj)(kvs:List (Key × V)):It :=
 ⟨fun i H=>H a=some (.frz o (.dK kvs))∧i<kvs.length,fun i H x H'=>H'=H∧∃ k v,kvs[i]?=some (k,v)∧x=kV k,fun i H=>H a=some (.frz o (.dK kvs))∧i=kvs.length⟩
theorem wB{P:Program}{w:World}{K:PySem.W.Frag}{tg:Expr}{a it:Addr}{o:Obj}{kvs:List (Key × V)}{es:Array DictEntry}{ep:Nat}(hd:o.data=.dict es ep) :
  Turn P w K tg (CJ a o kvs) [it] it (fun i h=>h.IsKeyIter it a i kvs.length ep) where
 mem:=by simp
 obj:=fun i h st b hb=>by
  have e:b=it:=by simpa using hb
  subst e
  obtain⟨o,e,c,d⟩:=st
  exact⟨o,e,fun v z=>by rw [d] at z;cases z⟩
 keep:=fun i h h' st k=>st.at fun o e=>k it (by simp) o e
 item:=by
  intro X hP hw hK hc i pins s σ H E I hf st hg
  subst hP hw hK
  obtain⟨he,hi⟩:=hg
  obtain⟨vs,rel,hat,lo,hz⟩:=y8 I he hd
  obtain⟨f0,f1,f2,f3,f4,f5⟩:=hf it (by simp)
  have hne:a≠it:=fun z=>by rw [z,f0] at he;cases he
  have hl:kvs.length=vs.length:=rel.length
  have W:=Walks.dictKeys (prog:=X.prog) (w:=X.w) (knd:=bU X.prog X.w) (I.ok.hd hc) it a hne vs ep
  refine W.item i s _ _ (by lia) ⟨(by rw [← hl];exact st),hat⟩ fun v h' tk hP st' kk=>?_
  obtain⟨k,x,hx,hk⟩:=hP
  obtain⟨⟨k',v'⟩,hkv,hrel⟩:=fm rel hx
  have hkk:k'=k:=hrel.1
  subst hkk
  have I1:Inv X pins σ H { s with heap:=h',toks:=tk }:=I.turned (fun b o hb e=>kk b o (by simpa using hb) e) f0 f1 f3 f4 f5
  obtain⟨oi,e1,c1,d1⟩:=id st'.1
  exact⟨v,rfl,qL (s:={ s with heap:=h',toks:=tk }) e1 c1 d1 (by decide) ⟨kV k',H,I1,E5 hk,⟨rfl,k',v',hkv,rfl⟩,(by rw [hl];exact st'.1),fun b hb=>(hf b hb).1⟩⟩
 done:=by
  intro X hP hw hK hc i pins s σ H E I hf st hg
  subst hP hw hK
  obtain⟨he,hi⟩:=hg
  obtain⟨vs,rel,hat,lo,hz⟩:=y8 I he hd
  obtain⟨f0,f1,f2,f3,f4,f5⟩:=hf it (by simp)
  have hne:a≠it:=fun z=>by rw [z,f0] at he;cases he
  have hl:kvs.length=vs.length:=rel.length
  have W:=Walks.dictKeys (prog:=X.prog) (w:=X.w) (knd:=bU X.prog X.w) (I.ok.hd hc) it a hne vs ep
  subst hi
  rw [hl] at st
  exact W.done s _ _ ⟨st,hat⟩ fun h' tk kk=>⟨rfl,I.turned (fun b o hb e=>kk b o (by simpa using hb) e) f0 f1 f3 f4 f5⟩
 self:=fun _ _ _ _ _ st h=>wpAny_pyIter_keyiter st h
section
variable {X:Cx}{tg:Expr}
def CU(tl:TE):TI:=fun σ H R=>tl σ H fun x H1=>∃ a o kvs,x=.ref a∧H1 a=some (.frz o (.dK kvs))∧R (CJ a o kvs) H1
theorem k0{l:Expr}{tl:TE}(hl:PE X l tl):PI X tg l (CU tl):=by
 intro pins s σ H R I h
 refine cc (hl pins s σ H _ I h) fun v s1 ⟨x,H1,I1,r1,a,o,kvs,e,ea,q⟩=>?_
 subst e
 cases r1
 obtain⟨ho,z,y,vs,rel,dd⟩:=(show bO X.prog X.w H1 s1.heap a (.frz o (.dK kvs)) from I1.hok a _ ea)
 obtain⟨ep,hat⟩:=dd.dictAt
 obtain⟨o',es,ho',hc',hd',_⟩:=id hat
 rw [ho] at ho'
 cases ho'
 have hl:kvs.length=vs.length:=rel.length
 refine wpAny_pyIter_dict y hat ?_
 refine⟨s1.heap.objs.size,[s1.heap.objs.size],_,_,H1,rfl,I1.kept (t':=s1.toks) fun b o e=>Heap.get?_push_of_some _ e,wB (kvs:=kvs) hd',(by rw [hl];exact⟨_,Heap.get?_push_size _ rfl,rfl,rfl⟩),fun b hb=>?_,q⟩
 have e:b=s1.heap.objs.size:=by simpa using hb
 subst e
 exact I1.tD (Nat.le_refl _) (I1.hok.fresh (Nat.le_refl _))
end
theorem yz{a:Addr}{o:Obj}{kvs:List (Key × V)}{g:TG}{tb:TS}{D:Ends}{σ:St}{H:Hp}(Pv:Nat→St→Hp→Prop)(h0:Pv 0 σ H)(hl:∀ i σ H,i≤kvs.length→Pv i σ H→H a=some (.frz o (.dK kvs)))
  (hs:∀ i k v σ H,kvs[i]?=some (k,v)→Pv i σ H→g (kV k) σ H fun σ2 H2=>tb { D with nx:=Pv (i+1),ct:=Pv (i+1),bk:=D.nx } σ2 H2) (hd:∀ σ H,Pv kvs.length σ H→D.nx σ H) :
  ∃ W:Nat→Nat→St→Hp→Prop,(∃ m,W 0 m σ H)∧∀ i m σ H,W i m σ H →
   ((CJ a o kvs).stop i H∧D.nx σ H)∨((CJ a o kvs).go i H∧∃ N:St→Hp→Prop,(∀ σ' H',N σ' H'→∃ m',m'<m∧W (i+1) m' σ' H')∧∀ x H',(CJ a o kvs).yld i H x H'→g x σ H' fun σ2 H2=>tb { D with nx:=N,ct:=N,bk:=D.nx } σ2 H2):=by
 refine⟨fun i m σ H=>m=kvs.length-i∧i≤kvs.length∧Pv i σ H,⟨kvs.length,by simp,Nat.zero_le _,h0⟩,?_⟩
 rintro i m σ H ⟨rfl,hi,p⟩
 have q:=hl i σ H hi p
 by_cases hlt:i<kvs.length
 ·refine .inr ⟨⟨q,hlt⟩,Pv (i+1),fun σ' H' p'=>⟨kvs.length-(i+1),by lia,rfl,hlt,p'⟩,fun x H' y=>?_⟩
  obtain⟨e,k,v,hkv,rfl⟩:=y
  subst e
  exact hs i k v σ _ hkv p
 ·have e:i=kvs.length:=by lia
  subst e
  exact .inl ⟨⟨q,rfl⟩,hd σ H p⟩
section
variable {n:Nat}{ci:List Nat}{g:TG}{tt:TT}{te:TE}{σ:St}{H:Hp}{D:Addr}{Q:VK}
theorem ki{a:Addr}{o:Obj}{kvs:List (Key × V)}(Pv:Nat→List V→Hp→Prop)(h0:Pv 0 [] (upd H D (.lst [])))(hl:∀ i ys H,i≤kvs.length→Pv i ys H→H a=some (.frz o (.dK kvs)))
  (hs:∀ i k v ys H,kvs[i]?=some (k,v)→Pv i ys H→g (kV k) (rF n ci σ) H fun σ2 H2=>tt σ2 H2 fun b H3=>if b=true then te σ2 H3 fun y H4=>H4 D=some (.lst ys)∧ys.length<sizeLine∧Pv (i+1) (ys++[y]) (upd H4 D (.lst (ys++[y]))) else Pv (i+1) ys H3)
  (hd:∀ ys H,Pv kvs.length ys H→Q (.ref D) H) :
  iC n ci (CJ a o kvs) g tt te σ H D Q:=by
 unfold iC
 refine⟨kvs.length,Pv,h0,fun i ys H hi p=>?_⟩
 have q:=hl i ys H hi p
 by_cases hlt:i<kvs.length
 ·refine .inr ⟨hlt,⟨q,hlt⟩,fun x H' y=>?_⟩
  obtain⟨e,k,v,hkv,rfl⟩:=y
  subst e
  exact hs i k v ys _ hkv p
 ·have e:i=kvs.length:=by lia
  subst e
  exact .inl ⟨⟨q,rfl⟩,hd ys H p⟩
end
end L2
end
section
namespace Uf
open PySem L2 UfSrt UfFin
abbrev iN:Stmt:=top 34
abbrev jX:Stmt:=top 54
structure Txt2(mg:Str→Option Value):Prop where
 rng:mg "range"=none
 enm:mg "enumerate"=none
 any:mg "any"=none
 rev:mg "reversed"=none
 int:mg "int"=none
theorem lh{α:Type}{xs:List α}{i:Int}(d:α)(h0:0≤i)(h1:i<xs.length):o3 xs i=some (xs.getD i.toNat d):=by
 unfold o3 xf
 rw [if_pos h0,if_pos h1]
 show xs[i.toNat]?=_
 have h2:i.toNat<xs.length:=by lia
 rw [List.getElem?_eq_getElem h2,List.getD_eq_getElem?_getD,List.getElem?_eq_getElem h2]
 rfl
theorem getD_map{α β:Type}(f:α→β)(xs:List α)(i:Nat)(d:α):(xs.map f).getD i (f d)=f (xs.getD i d):=by
 rw [List.getD_eq_getElem?_getD,List.getElem?_map,List.getD_eq_getElem?_getD]
 cases xs[i]? <;> rfl
theorem dD{xs:List Str}{i:Int}(h0:0≤i)(h1:i<xs.length):o3 (aq xs) i=some (.str (xs.getD i.toNat "")):=by
 rw [lh (V.str "") h0 (by rw [ah];exact h1)]
 unfold aq
 rw [getD_map V.str]
theorem ef{xs:List Int}{i:Int}(h0:0≤i)(h1:i<xs.length):o3 (xs.map V.int) i=some (.int (xs.getD i.toNat 0)):=by
 rw [lh (V.int 0) h0 (by rw [List.length_map];exact h1),getD_map V.int]
section
variable {P:Program}{w:World}{K:PySem.W.Frag}{mg:Str→Option Value}{base:Heap}
def p4(K:PySem.W.Frag):Sp:=fun vs H Q _=>∃ (a:Addr) (ns:List Int) (k:Nat),vs=[.ref a,.int k]∧aI K H a (ns.map V.int)∧ns.length≤63∧Q (.int (ns.getD k 0)) H
theorem BH:aU ["_law_script", "_law_k"] ["_law_script", "_law_k"] (ai iN):=⟨rfl,rfl,rfl,by decide +kernel,rfl,by decide +kernel,by decide +kernel⟩
theorem z0{f:Addr}{fd:FuncData}(F:dW K "_law_cell_at" "_law_cell_at" iN f fd)(T:Txt K mg):aH P w K mg base bX 1 f fd ["_law_script", "_law_k"] (p4 K):=by
 refine F.ok BH (fun vs H Q E h=>?_) (fun cdv A outer s H vs Q E hr h=>?_)
 ·obtain⟨a,ns,k,rfl,_⟩:=h
  rfl
 ·obtain⟨a,ns,k,rfl,ha,hz,kk⟩:=h
  refine⟨_,aj (bB (bb yI (pv 1) (aF bG rfl T.len dB (aa (pv 0) ag)) (bw _)) (au (aK (aO aV (pv 0) (pv 1) (fun _ _=>rfl)))) aX)
   (au (aK ak)),?_⟩
  refine⟨_,rfl,_,rfl,_,ns.length,rfl,.inl ⟨_,ha,by rw [List.length_map]⟩,_,_,rfl,rfl,_,rfl,?_⟩
  by_cases h:k<ns.length
  ·rw [decide_eq_true (show((k:Nat):Int)<((ns.length:Nat):Int) by lia)]
   refine cG ?_
   refine⟨_,rfl,_,rfl,a,_,_,_,rfl,rfl,ha,ef (by lia) (by lia),?_⟩
   exact kk
  ·rw [decide_eq_false (show ¬((k:Nat):Int)<((ns.length:Nat):Int) by lia)]
   refine bS ?_
   have e:ns.getD k 0=0:=by rw [List.getD_eq_getElem?_getD,List.getElem?_eq_none (by lia)];rfl
   rw [e] at kk
   exact kk
end
end Uf
end
section
namespace Uf
open PySem L2 UfSrt
abbrev gp:Stmt:=inClass (top 3) 0
abbrev ka:Stmt:=inClass (top 4) 0
abbrev jW:Stmt:=inClass (top 5) 0
abbrev fk:Stmt:=top 26
theorem si:(("start":Str) == "place_names")=false:=by decide +kernel
theorem rp:(("start":Str) == "start_state")=false:=by decide +kernel
theorem rM:(("start":Str) == "taken_by")=false:=by decide +kernel
theorem rT:(("start":Str) == "given_by")=false:=by decide +kernel
section
variable {P:Program}{w:World}{K:PySem.W.Frag}{mg:Str→Option Value}{base:Heap}
theorem wY:aU ["self", "at"] ["self", "at"] (ai gp):=⟨rfl,rfl,rfl,by decide +kernel,rfl,by decide +kernel,by decide +kernel⟩
theorem tw{f C N NE:Addr}{fd:FuncData}(F:dW K "__init__" "NoMove.__init__" gp f fd)(mgE:mg "NetError"=some (.ref NE))(hb:oO K NE)(T:mP K C N)(S:pJ K C "at"):aH P w K mg base bX 1 f fd ["self", "at"] (pE C):=by
 refine F.ok wY (fun vs H Q E h=>?_) (fun cdv A outer s H vs Q E hr h=>?_)
 ·obtain⟨a,n,rfl,_⟩:=h
  rfl
 ·obtain⟨a,n,rfl,hn,ha,k⟩:=h
  refine⟨_,aj (cD (gI rfl mgE hb (aa (pv 0) (aa (pB (pv 1)) ag)))) (au (j6 (pv 0) (pv 1) rfl)),?_⟩
  exact⟨_,rfl,_,rfl,n,rfl,hn,fun x=>⟨a,C,N,_,_,rfl,by simp,ha,T,_,rfl,_,rfl,a,C,rfl,ha,S,fun dx h1 h2=>k dx h1 h2⟩⟩
theorem zL:aU ["self", "at"] ["self", "at"] (ai ka):=⟨rfl,rfl,rfl,by decide +kernel,rfl,by decide +kernel,by decide +kernel⟩
theorem xR{f C N NE:Addr}{fd:FuncData}(F:dW K "__init__" "Held.__init__" ka f fd)(mgE:mg "NetError"=some (.ref NE))(hb:oO K NE)(T:mP K C N)(S:pJ K C "at"):aH P w K mg base bX 1 f fd ["self", "at"] (pE C):=by
 refine F.ok zL (fun vs H Q E h=>?_) (fun cdv A outer s H vs Q E hr h=>?_)
 ·obtain⟨a,n,rfl,_⟩:=h
  rfl
 ·obtain⟨a,n,rfl,hn,ha,k⟩:=h
  refine⟨_,aj (cD (gI rfl mgE hb (aa (pv 0) (aa (pB (pv 1)) ag)))) (au (j6 (pv 0) (pv 1) rfl)),?_⟩
  exact⟨_,rfl,_,rfl,n,rfl,hn,fun x=>⟨a,C,N,_,_,rfl,by simp,ha,T,_,rfl,_,rfl,a,C,rfl,ha,S,fun dx h1 h2=>k dx h1 h2⟩⟩
theorem zu:aU ["self", "at"] ["self", "at"] (ai jW):=⟨rfl,rfl,rfl,by decide +kernel,rfl,by decide +kernel,by decide +kernel⟩
theorem yH{f C N NE:Addr}{fd:FuncData}(F:dW K "__init__" "Full.__init__" jW f fd)(mgE:mg "NetError"=some (.ref NE))(hb:oO K NE)(T:mP K C N)(S:pJ K C "at"):aH P w K mg base bX 1 f fd ["self", "at"] (pE C):=by
 refine F.ok zu (fun vs H Q E h=>?_) (fun cdv A outer s H vs Q E hr h=>?_)
 ·obtain⟨a,n,rfl,_⟩:=h
  rfl
 ·obtain⟨a,n,rfl,hn,ha,k⟩:=h
  refine⟨_,aj (cD (gI rfl mgE hb (aa (pv 0) (aa (pB (pv 1)) ag)))) (au (j6 (pv 0) (pv 1) rfl)),?_⟩
  exact⟨_,rfl,_,rfl,n,rfl,hn,fun x=>⟨a,C,N,_,_,rfl,by simp,ha,T,_,rfl,_,rfl,a,C,rfl,ha,S,fun dx h1 h2=>k dx h1 h2⟩⟩
theorem eJ.same{H H':Hp}{E:XK}{C:Addr}{n:Int}(s:ao H H')(h:eJ H E C n):eJ H' E C n:=fun H2 dx s2 hd=>h H2 dx (s.trans s2) hd
def rN(K:PySem.W.Frag)(C CN CH CF:Addr):Sp:=fun vs H Q E=>∃ (p a:Addr) (ms:List Mv) (st r:List Str),vs=[.ref p,.ref a]∧cj C H p ms st∧aI K H a (aq r)∧r.length≤60 ∧
 ((bc ms (aw st) r).2="may"→∀ H' q,ao H H'→H q=none→AM H' q (bc ms (aw st) r).1→Q (.ref q) H') ∧
 ((bc ms (aw st) r).2="no"→eJ H E CN (((bc ms (aw st) r).1.length-1:Nat):Int))∧((bc ms (aw st) r).2="held"→eJ H E CH (((bc ms (aw st) r).1.length-1:Nat):Int))∧((bc ms (aw st) r).2="full"→eJ H E CF (((bc ms (aw st) r).1.length-1:Nat):Int))
theorem jL:aU ["net", "row", "states", "at", "move"] ["net", "row"] (ai fk):=⟨rfl,rfl,rfl,by decide +kernel,rfl,by decide +kernel,by decide +kernel⟩
inductive Ez(H:Hp)(p a r:Addr)(ms:List Mv)(st row:List Str)(i:Nat)(σ:St)(H2:Hp):Prop
 | mk (v3 v4:Option V) (q0:σ=[some (.ref p),some (.ref a),some (.ref r),v3,v4]) (q1:ao H H2) (q2:AM H2 r (bc ms (aw st) (row.take i)).1) (q3:(bc ms (aw st) (row.take i)).2="may")
theorem Ez.same{H:Hp}{p a r:Addr}{ms:List Mv}{st row:List Str}{i:Nat}{σ:St}{H2:Hp}(h:Ez H p a r ms st row i σ H2):ao H H2:=by
 cases h
 assumption
theorem wQ{f C CN CH CF fS fD:Addr}{fd fdS fdD:FuncData}(F:dW K "played" "played" fk f fd)(T2:Txt2 mg)(CT:gG K C)(DS:dX K C "start" "Net.start" fV ["self"] fS fdS)(GS:aH P w K mg base bX 1 fS fdS ["self"] (kR C))
  (DD:Def K mg "done_at" ft ["net", "state", "move", "at"] fD fdD) (GD:aH P w K mg base (jT P w) 5 fD fdD ["net", "state", "move", "at"] (sk K C CN CH CF)) :
  aH P w K mg base (jT P w) 6 f fd ["net", "row"] (rN K C CN CH CF):=by
 refine F.zC jL (fun vs H Q E h=>?_) (fun cdv A outer s H vs Q E hr h=>?_)
 ·obtain⟨p,a,ms,st,r,rfl,_⟩:=h
  rfl
 ·obtain⟨p,a,ms,st,row,rfl,N,ha,hz,k1,k2,k3,k4⟩:=h
  have hsl:=PySem.sizeLine_eq
  have hr1:bR 1 _:=hr.mono (by decide)
  refine⟨_,aj (aN (i:=2) jL.nd rfl (Or.inl rfl) (bj (aa (bW (pv 0) CT.cl DS.mt GS hr1 DS.bd .nil aJ) ag)))
   (aj (dA PassesOwn.leaving rfl (kW rfl T2.enm (aa (pv 1) ag)) (eB rfl (bh (aA (i:=3) jL.nd rfl (Or.inl rfl)) (bh (aA (i:=4) jL.nd rfl (Or.inl rfl)) dE)))
    (au (cD (gy PySem.F.plainAttrs_list PySem.F.slot_list_append PySem.F.type_list_append dk (pv 2) (aa (az GD hr rfl DD.mg DD.fn.kp DD.bd .nil gY (aa (pv 0) (aa (aO aV (pv 2) (zc sW ak) (fun _ _=>rfl)) (aa (pv 4) (aa (pv 3) ag))))) ag)))))
   (au (aK (pv 2)))),?_⟩
  obtain⟨dx,aP,aS,aT,aG,kT,kG,h1,_⟩:=N.at'.ob
  have so:=N.so
  refine⟨_,rfl,p,dx,_,rfl,h1,bY _ _ _ _ si rp rM rT,p,ms,st,rfl,N,fun q hq=>⟨by show 1≤sizeLine;lia,fun r nr=>?_⟩⟩
  have sr:ao H (upd H r (.lst [.ref q])):=af nr
  refine⟨_,rfl,a,rfl,⟨_,sr.seq ha⟩,jm (K:=K) (a:=a) (xs:=aq row) (Ez H p a r ms st row)
   ⟨none,none,rfl,sr,⟨[q],ae,.cons (sr _ _ hq) .nil⟩,rfl⟩ (fun i σ H2 _ h=>h.same.seq ha) ?_ ?_⟩
  ·rintro i v pr σ H2 hi ⟨v3,v4,rfl,sm,⟨qs,hqs,hpq⟩,hmay⟩ np
   obtain⟨x,hx,rfl⟩:=bQ hi
   have I:=rG so (row.take i)
   have hil:i<row.length:=(List.getElem?_eq_some_iff.mp hx).1
   have hln:=I.may hmay
   have hli:(row.take i).length=i:=by rw [List.length_take];lia
   rw [hli] at hln
   have s3:ao H2 (upd H2 pr (.tup [.int (i:Int),.str x])):=af np
   refine⟨pr,_,rfl,cg.of ae,rfl,_,_,rfl,_,_,rfl,rfl,?_⟩
   have sm3:=sm.trans s3
   have hqs3:=s3 _ _ hqs
   have hpq3:=Paired.il hpq fun t q (e:H2 q=some (.tup (aq t)))=>s3 _ _ e
   generalize upd H2 pr (.tup [.int (i:Int),.str x])=H3 at s3 sm3 hqs3 hpq3 ⊢
   obtain⟨ql,hat,hql⟩:=xS hpq3 (by lia)
   have hfl:pO ms st (cy (bc ms (aw st) (row.take i)).1):=I.fine _ (j5 fun z=>by rw [z] at hln;simp at hln)
   have l12:=hfl.len so
   have etk:row.take (i+1)=row.take i++[x]:=av hx
   have estep:=gF ms (aw st) (row.take i) x
   rw [← etk] at estep
   have stop:cX ms (cy (bc ms (aw st) (row.take i)).1) x≠"may"→(bc ms (aw st) row).2=cX ms (cy (bc ms (aw st) (row.take i)).1) x∧(bc ms (aw st) row).1.length-1=i:=fun hn=>by
    rw [kZ hmay hn] at estep
    have e1:=jZ (ms:=ms) (s0:=aw st) (r:=row.take (i+1)) (by rw [estep];exact hn) (row.drop (i+1))
    rw [List.take_append_drop,estep] at e1
    rw [e1]
    exact⟨rfl,by show(bc ms (aw st) (row.take i)).1.length-1=i;lia⟩
   have far:∀ {c:Str} {Cx:Addr},c≠"may"→cX ms (cy (bc ms (aw st) (row.take i)).1) x=c→((bc ms (aw st) row).2=c→eJ H E Cx (((bc ms (aw st) row).1.length-1:Nat):Int))→eJ H3 E Cx (i:Int):=fun {c Cx} hc e k=>by
    obtain⟨z1,z2⟩:=stop (by rw [e];exact hc)
    have:=k (by rw [z1,e])
    rw [z2] at this
    exact this.same sm3
   refine⟨_,rfl,.inl ⟨rfl,_,aI.of hqs3⟩,_,rfl,_,rfl,1,rfl,r,_,-1,_,rfl,rfl,aI.of hqs3,hat,_,rfl,_,rfl,p,ql,ms,st,_,x,(i:Int),rfl,N.same sm3,cg.of hql,by lia,?_,fun hno=>?_,fun m hm e hl=>?_,fun m hm e hl hs=>?_,fun m hm e hl hs H4 q4 s4 n4 h4=>?_⟩
   ·show Nat.log2 i<1920
    exact Nat.lt_of_le_of_lt (Nat.log2_le_self i) (by lia)
   ·exact far wD (jn hno) k2
   ·subst e
    exact far yj (by rw [gu so.nd hm,oZ hl]) k3
   ·subst e
    exact far xh (by rw [gu so.nd hm,nN hl hs]) k4
   ·subst e
    have hw:cX ms (cy (bc ms (aw st) (row.take i)).1) m.1="may":=by rw [gu so.nd hm,lF hl hs]
    rw [jw hmay hw,sT so.nd hm] at estep
    have hqs4:=s4 _ _ hqs3
    have lq:=Paired.length hpq
    refine⟨r,_,_,rfl,rfl,hqs4,(by rw [List.length_map];lia),?_⟩
    have up:=yg (u:=.lst (qs.map V.ref++[V.ref q4])) hqs4 (fun _ z=>nomatch z)
    refine⟨_,_,rfl,aD (sm3.trans s4) nr,?_,by rw [estep]⟩
    rw [estep]
    refine⟨qs++[q4],by rw [ae,List.map_append];rfl,Paired.snoc (Paired.il hpq3 fun t q (e:H3 q=some (.tup (aq t)))=>up _ _ (s4 _ _ e)) (up _ _ h4)⟩
  ·rintro σ H2 ⟨v3,v4,rfl,sm,sts,hmay⟩
   rw [ah,List.take_length] at sts hmay
   exact⟨_,rfl,k1 hmay H2 r sm nr sts⟩
end
end Uf
end
section
namespace L2
open PySem PySem.Spec PyProof.Rows UfSrt
theorem mh{x:V}:∀ {xs:List V} {us:List Value},Vals xs us→xs.all dy=true→us.countP (kP x)=xs.countP fun y=>kO y x
 | _,_,.nil,_=>rfl
 | y::xs,u::us,.cons r t,f=>by
  rw [List.all_cons,Bool.and_eq_true] at f
  rw [List.countP_cons,List.countP_cons,mQ r f.1,mh t f.2]
theorem p5{xs:List V}{p:V→Bool}{i:Nat}{x:V}(h:xs.all p=true)(e:xs[i]?=some x):p x=true:=List.all_eq_true.mp h x (List.mem_of_getElem? e)
theorem d5{xs:List V}{us:List Value}(r:Vals xs us){i:Nat}{u:Value}(e:us[i]?=some u):∃ x,xs[i]?=some x∧RelV x u:=by
 have hl:=r.length
 have hi:=(List.getElem?_eq_some_iff.mp e).1
 have h1:xs[i]?=some xs[i]:=List.getElem?_eq_getElem (by lia)
 obtain⟨w,h2,h3⟩:=r.get h1
 rw [e] at h2
 cases h2
 exact⟨_,h1,h3⟩
section
variable {X:Cx}
def Cf:V→List V→Hp→VK→Prop:=fun x vs H Q=>∃ l xs y,x=.ref l∧vs=[y]∧H l=some (.lst xs)∧dy y=true∧xs.all dy=true∧Q (.int ((xs.countP fun z=>kO z y:Nat):Int)) H
theorem yq:CL X "list.count" Cf:=by
 intro pins s σ H x vs v us Q I rx rv h
 obtain⟨l,xs,y,rfl,rfl,hH,fy,fs,q⟩:=h
 cases rx
 obtain⟨u,rfl,ru⟩:=rv.one
 obtain⟨z,its,n,r,hl,e⟩:=I.pd hH
 refine call_meets F.slot_list_count ⟨_,e,rfl⟩ F.entry_list_count (F.args_list_count_2 _ _) (SeqAt.list_countAt l its.toArray n none _ u (kP y)) ⟨e,fun w hw=>eh ru fy r fs w (by simpa using hw),?_⟩
 refine⟨.int _,H,I.tok _,⟨_,rfl⟩,?_⟩
 rw [show its.toArray.toList=its from rfl,mh r fs]
 exact q
def Cs:V→List V→Hp→VK→Prop:=fun x vs H Q=>∃ l xs y z,∃ j:Nat,x=.ref l∧vs=[y]∧H l=some (.lst xs)∧dy y=true∧xs.all dy=true∧xs[j]?=some z∧kO z y=true∧(∀ m w,m<j→xs[m]?=some w→kO w y=false)∧Q (.int (j:Nat)) H
theorem zi:CL X "list.index" Cs:=by
 intro pins s σ H x vs v us Q I rx rv h
 obtain⟨l,xs,y,zz,j,rfl,rfl,hH,fy,fs,hj,hit,hno,q⟩:=h
 cases rx
 obtain⟨u,rfl,ru⟩:=rv.one
 obtain⟨z,its,n,r,hl,e⟩:=I.pd hH
 have hsl:=PySem.sizeLine_eq
 have jl:=(List.getElem?_eq_some_iff.mp hj).1
 have ji:j<its.length:=by lia
 have at':∀ m (hm:m<its.length),∃ w,xs[m]?=some w∧kP y its[m]=kO w y:=fun m hm=>by
  obtain⟨w,h1,h2⟩:=d5 r (List.getElem?_eq_getElem hm)
  exact⟨w,h1,mQ h2 (p5 fs h1)⟩
 refine call_meets F.slot_list_index ⟨_,e,rfl⟩ F.entry_list_index (F.args_list_index_2 _ _) (SeqAt.list_indexAt l its.toArray n none _ u (kP y) j (by rw [List.size_toArray];exact ji) (by lia) ?_ ?_) ⟨e,fun w hw=>eh ru fy r fs w (by simpa using hw),?_⟩
 ·obtain⟨w,h1,h2⟩:=at' j ji
  rw [hj] at h1
  cases h1
  show kP y its[j]=true
  rw [h2]
  exact hit
 ·intro m hm hmj
  have hm:m<its.length:=by simpa using hm
  obtain⟨w,h1,h2⟩:=at' m hm
  show kP y its[m]=false
  rw [h2]
  exact hno m w hmj h1
 ·exact⟨.int _,H,I.tok _,⟨_,rfl⟩,q⟩
inductive Alike(K:PySem.W.Frag)(H:Hp):V→V→Prop
 | flat {v:V}:dy v=true→Alike K H v v
 | tup {p q:Addr} {ts:List V}:cg K H p ts→cg K H q ts→ts.all dy=true→Alike K H (.ref p) (.ref q)
theorem mJ{v:V}(h:dy v=true):kO v v=true:=by
 cases v <;> first | rfl | exact absurd (show false=true from h) Bool.false_ne_true | (simp [kO])
theorem xE{pins:List (Addr × Obj)}{s:Shared}{σ:St}{H:Hp}{A:Around}{x y:V}{u v:Value}(I:Inv X pins σ H s)(h:Alike X.K H x y)(rx:RelV x u)(ry:RelV y v)(hu:A.units<cLine):SeqAt.EqAt A s u v true:=by
 cases h with
 | flat f =>
  have:=lY (A:=A) (s:=s) rx ry f f
  rwa [mJ f] at this
 | @tup p q ts h1 h2 f =>
  cases rx
  cases ry
  by_cases e:p=q
  ·subst e
   exact SeqAt.EqAt.same _
  ·obtain⟨its,r1,p1,_⟩:=I.tuple h1
   obtain⟨its2,r2,p2,_⟩:=I.tuple h2
   have l1:=r1.length
   have l2:=r2.length
   have:=SeqAt.RcAt.tuples (A:=A) (e:=fun _=>true) p1 p2 hu fun j h1 h2=>by
    have h1':j<its.length:=by simpa using h1
    have h2':j<its2.length:=by simpa using h2
    obtain⟨w,e1,e2⟩:=d5 r1 (List.getElem?_eq_getElem h1')
    obtain⟨w',e3,e4⟩:=d5 r2 (List.getElem?_eq_getElem h2')
    rw [e1] at e3
    cases e3
    have fw:=p5 f e1
    have:=lY (A:=A.in1) (s:=s) e2 e4 fw fw
    rwa [mJ fw] at this
   have e5:((List.range (min its.toArray.size its2.toArray.size)).all (fun _=>true)&&its.toArray.size==its2.toArray.size)=true:=by
    rw [List.size_toArray,List.size_toArray,← l1,← l2]
    simp
   rw [e5] at this
   exact .of_refs e this
theorem kz{pins:List (Addr × Obj)}{s:Shared}{σ:St}{H:Hp}{A:Around}{xs ys:List V}{us vs:List Value}(I:Inv X pins σ H s)(h:Paired (Alike X.K H) xs ys)(rx:Vals xs us)(ry:Vals ys vs)(hu:A.units<cLine) :
  ∀ j (h1:j<us.toArray.size) (h2:j<vs.toArray.size),SeqAt.EqAt A s us.toArray[j] vs.toArray[j] true:=fun j h1 h2=>by
 have h1':j<us.length:=by simpa using h1
 have h2':j<vs.length:=by simpa using h2
 obtain⟨w,e1,e2⟩:=d5 rx (List.getElem?_eq_getElem h1')
 obtain⟨w',e3,e4⟩:=d5 ry (List.getElem?_eq_getElem h2')
 obtain⟨a,e5,e6⟩:=fm h e3
 rw [e1] at e5
 cases e5
 exact xE I e6 e2 e4 hu
def Bz(K:PySem.W.Frag)(b:Bool)(A:Around):R2:=fun x y H Q=>∃ p q xs ys,x=.ref p∧y=.ref q∧A.units+1<cLine∧aI K H p xs∧aI K H q ys∧Paired (Alike K H) xs ys∧Q (.bl b) H
theorem rl:gZ X (compareOp .Eq) (Bz X.K true X.A):=by
 intro pins s σ H x y v u Q I rx ry h
 obtain⟨p,q,xs,ys,rfl,rfl,hu,hp,hq,hal,k⟩:=h
 cases rx
 cases ry
 obtain⟨its,r1,p1,_⟩:=I.list hp
 obtain⟨its2,r2,p2,_⟩:=I.list hq
 have l1:=r1.length
 have l2:=r2.length
 have l3:=Paired.length hal
 refine SeqAt.RcAt.lists (e:=fun _=>true) p1.isList p2.isList (by simp;lia) (by lia) (kz (A:=X.A.in1) I hal r1 r2 hu) X.prog X.w X.xe _ ⟨.bl true,H,I,?_,k⟩
 show Value.bool _=Value.bool true
 simp
theorem gN{K:PySem.W.Frag}{H:Hp}:∀ {xs:List V},xs.all dy=true→Paired (Alike K H) xs xs
 | [],_=>.nil
 | x::xs,h=>by
  rw [List.all_cons,Bool.and_eq_true] at h
  exact .cons (.flat h.1) (gN h.2)
end
theorem aH.calm{P:Program}{w:World}{K:PySem.W.Frag}{mg:Str→Option Value}{base:Heap}{k:Nat}{f:Addr}{fd:FuncData}{ps:List Str}{sp:Sp}(F:aH P w K mg base (jT P w) k f fd ps sp) :
  aH P w K mg base (fun _ _ _ _ _ _=>False) k f fd ps (fun vs H Q _=>sp vs H Q fun _ _ _=>False) :=
 ⟨fun vs H Q E h=>F.len vs H Q _ h,fun A outer s H args us vs Q E hr he hb hv hs=>codeAny_mono (F.run A outer s H args us vs Q (fun _ _ _=>False) hr he hb hv hs) fun r s' h=>by
  cases r with
  | error e =>
   obtain⟨_,_,_,_,_,_,_,_,_,_,_,_,_,_,_,_,q⟩:=h
   exact q
  | ok fl=>cases fl <;> exact h⟩
end L2
end
section
namespace UfRev
open PySem PySem.W PySem.Calls PyProof.Rows PyProof.V PySem.Spec
theorem Ar:typeLookup (.type "list_reverseiterator") "__len__"=pure none:=by rw [typeLookup_type,builtinLookup_eq_fast];kernel_rfl
theorem xY:typeLookup (.type "list_reverseiterator") "__length_hint__"=pure (some (.builtin "list_reverseiterator.__length_hint__")):=by rw [typeLookup_type,builtinLookup_eq_fast];kernel_rfl
theorem AA:isSubtype (.type "list_reverseiterator") (.type "list_reverseiterator")=pure true:=by rw [isSubtype_type];kernel_rfl
theorem wU:splitId "list_reverseiterator.__length_hint__"=some ("list_reverseiterator", "__length_hint__"):=by decide +kernel
section
variable {prog:Program}{w:World}{A:Around}{E:Value→Shared→Prop}{s:Shared}
theorem ya{r:Addr}{Q:Bool→Shared→Prop}(hT:s.TypeIs (.ref r) "list_reverseiterator")(h:Q false s):wpAny (model prog w) A (Builtin.List.listLengthHint (.ref r)) Q E s:=by
 unfold Builtin.List.listLengthHint
 refine wpAny_bind (wpAny_specialOf hT Ar ?_)
 show wpAny _ A (specialOf (Value.ref r) (Str.ofString "__length_hint__") >>= _) _ _ _
 refine wpAny_bind (wpAny_specialOf hT xY ?_)
 dsimp only
 rw [wU]
 dsimp only
 refine wpAny_bind (wpAny_isInstance (T:="list_reverseiterator") (b:=true) hT AA ?_)
 refine wpAny_ite_split (fun z=>absurd z (by decide)) (fun _=>?_)
 refine wpAny_ite_split (fun _=>?_) (fun z=>absurd (by decide +kernel) z)
 refine wpAny_ite_split (fun z=>absurd z (by decide)) (fun _=>?_)
 exact wpAny_pure h
def zG(items:Array Value):Nat→Value→Prop:=fun i v=>items[items.size-1-i]?=some v
theorem Ax{R:Result→Shared→Prop}{r l:Addr}{items:Array Value}(hh:A.handled=none)(hr:s.heap.IsRevIter r l ((items.size:Int)-1))(hl:s.heap.IsList l items)(hne:l≠r)(S:Addr)(hSr:S≠r)(hSl:S≠l)(res:Value)(c₀:Nat)(hS:s.heap.get? S=some { cls:=.type "list",data:=.seq #[] c₀ })
  (hR:∀ h' tk acc' c',(∀ b o,b≠S→b≠r→s.heap.get? b=some o→h'.get? b=some o)→h'.get? S=some { cls:=.type "list",dict:=none,data:=.seq acc' c',slots:=#[] }→ItemsOf (zG items) acc' items.size→R (.ok (.ret res)) { s with heap:=h',toks:=tk }) (hn:items.size≤sizeLine) :
  wpAny (model prog w) A.in1 (Builtin.List.listExtendWith (.ref S) (.ref r) res)
   (fun fin s'=>match fin with | .done f=>R (.ok f) s' | .again c'=>c'.quiet=true∧codeAny (model prog w) A c' R s') (fun e s'=>R (.error e) s') s:=by
 have hSf:S∉[r,l]:=by simp only [List.mem_cons,List.not_mem_nil,or_false,not_or];exact⟨hSr,hSl⟩
 have W:=Walks.listRev (prog:=prog) (w:=w) (A:=A.in1) hh r l hne items
 have st:0≤items.size∧s.heap.IsRevIter r l ((items.size:Int)-1-((0:Nat):Int))∧s.heap.IsList l items:=⟨Nat.zero_le _,by simpa using hr,hl⟩
 have key:∀ (h:Heap) (c₁ tk:Nat),(0≤items.size∧h.IsRevIter r l ((items.size:Int)-1-((0:Nat):Int))∧h.IsList l items)→(∀ b o,b≠S→s.heap.get? b=some o→h.get? b=some o) →
   h.get? S=some { cls:=.type "list",data:=.seq #[] c₁ }→codeAny (model prog w) A (.builtin "list.extend.loop" ⟨[.ref S,.ref r,res],[]⟩) R { s with heap:=h,toks:=tk }:=by
  intro h c₁ tk hst hk hS₁
  refine codeAny_extend_loopS W.toS hn S hSf res items.size 0 _ #[] c₁ rfl (Nat.zero_le _) hst hS₁ (ItemsOf.nil _) fun s' acc' c' hm hS' hacc=>?_
  rw [Moved.eq_with hm]
  refine hR s'.heap s'.toks acc' c' (fun b o hb hbr e=>hm.heap b o (fun hmem=>?_) (hk b o hb e)) hS' hacc
  rcases List.mem_cons.mp hmem with e' | hmem
  ·exact hb e'
  ·exact hbr (List.mem_singleton.mp hmem)
 have hT:s.TypeIs (.ref r) "list_reverseiterator":=hr.typeIs
 unfold Builtin.List.listExtendWith
 refine wpAny_bind (wpAny_typeOf (T:="list_reverseiterator") hT ?_)
 have h1:Builtin.List.listSameRef (.ref S) (.ref r)=false:=by simp [Builtin.List.listSameRef,hSr]
 have h2:(Value.type "list_reverseiterator" == Value.type "list")=false:=by decide
 have h3:(Value.type "list_reverseiterator" == Value.type "tuple")=false:=by decide
 simp only [h1,h2,h3,Bool.or_false,Bool.false_eq_true,if_false]
 refine wpAny_bind (wpAny_pyIter_revIter hr ?_)
 refine wpAny_bind (wpAny_holding (ya hT ?_))
 refine wpAny_ite_split (fun z=>absurd z (by decide)) (fun _=>wpAny_pure ⟨plainId_quiet PySem.F.plain_extend_loop _,key _ c₀ _ st (fun b o _ e=>e) hS⟩)
theorem nK{r l:Addr}{items:Array Value}{Q:Value→Shared→Prop}(hh:A.handled=none)(hr:s.heap.IsRevIter r l ((items.size:Int)-1))(hl:s.heap.IsList l items)(hne:l≠r)(hn:items.size≤sizeLine)
  (hQ:∀ h' tk acc' c',(∀ b o,b≠r→s.heap.get? b=some o→h'.get? b=some o)→h'.get? s.heap.objs.size=some { cls:=.type "list",dict:=none,data:=.seq acc' c',slots:=#[] }→ItemsOf (zG items) acc' items.size→Q (.ref s.heap.objs.size) { s with heap:=h',toks:=tk }) :
  wpAny (model prog w) A (call (.type "list") [.ref r]) Q E s:=by
 refine callType_codes (Q₁:=fun obj s₁=>obj=.ref s.heap.objs.size∧s₁={ s with heap:=s.heap.push { cls:=.type "list",data:=.seq #[] } }) PySem.F.called_list (PySem.F.typeCall_list_1 _) PySem.F.entry_list_init
  (code_list_new _ ⟨rfl,rfl⟩) fun obj s₁ h₁=>?_
 obtain⟨rfl,rfl⟩:=h₁
 have hS:(s.heap.push { cls:=.type "list",data:=.seq #[] }).get? s.heap.objs.size=some { cls:=.type "list",data:=.seq #[] }:=Heap.get?_push_size _ rfl
 have rlt:r<s.heap.objs.size:=let ⟨_,y,_⟩:=hr;Heap.lt_size y
 have llt:l<s.heap.objs.size:=let ⟨_,y,_⟩:=hl;Heap.lt_size y
 refine⟨⟨_,hS,rfl⟩,PySem.F.args_list_init_2 _ _,?_⟩
 show wpAny _ _ (do let old ← Builtin.List.listItems (.ref s.heap.objs.size);Builtin.List.listUpdate (.ref s.heap.objs.size) (fun _=>#[]);letGo old.toList.reverse;Builtin.List.listExtendWith (.ref s.heap.objs.size) (.ref r) .none) _ _ _
 refine wpAny_bind ?_
 unfold Builtin.List.listItems
 refine wpAny_bind (wpAny_seqItems hS rfl (wpAny_pure ?_))
 show wpAny _ _ (updateSeq s.heap.objs.size (fun _=>#[]) >>= fun _=>letGo (#[]:Array Value).toList.reverse >>= fun _=>Builtin.List.listExtendWith (.ref s.heap.objs.size) (.ref r) .none) _ _ _
 refine wpAny_bind (wpAny_updateSeq hS rfl ?_)
 have hS₂:=Heap.get?_update_self (Obj.mapSeq (fun _=>(#[]:Array Value))) hS rfl
 have oth:∀ b o,b≠s.heap.objs.size→(s.heap.push { cls:=.type "list",data:=.seq #[] }).get? b=some o→((s.heap.push { cls:=.type "list",data:=.seq #[] }).update s.heap.objs.size (Obj.mapSeq (fun _=>(#[]:Array Value)))).get? b=some o :=
  fun b o hb e=>(Heap.get?_update_other _ _ (Ne.symm hb)).trans e
 have up:∀ b o,s.heap.get? b=some o→((s.heap.push { cls:=.type "list",data:=.seq #[] }).update s.heap.objs.size (Obj.mapSeq (fun _=>(#[]:Array Value)))).get? b=some o:=fun b o e =>
  oth b o (Nat.ne_of_lt (Heap.lt_size e)) (Heap.get?_push_of_some _ e)
 refine wpAny_bind (wpAny_letGo ?_)
 refine Ax (A:=A.in1) hh (hr.at fun o e=>up _ _ e) (hl.at fun o e=>up _ _ e) hne _ (Nat.ne_of_gt rlt) (Nat.ne_of_gt llt) .none _ hS₂ (fun h' tk acc' c' hk hS' hacc=>?_) hn
 exact⟨rfl,hQ h' tk acc' c' (fun b o hb e=>hk b o (Nat.ne_of_lt (Heap.lt_size e)) hb (up b o e)) hS' hacc⟩
end
end UfRev
namespace L2
open PySem PySem.Spec PyProof.Rows UfSrt
theorem vw{its:List Value}{acc:Array Value}(h:ItemsOf (UfRev.zG its.toArray) acc its.toArray.size):acc.toList=its.reverse:=by
 obtain⟨h1,h2⟩:=h
 have h1:acc.size=its.length:=by rw [h1,List.size_toArray]
 refine List.ext_getElem? fun j=>?_
 rw [Array.getElem?_toList]
 by_cases hj:j<acc.size
 ·have e:acc[j]?=some acc[j]:=Array.getElem?_eq_getElem hj
  have:=h2 j _ e
  unfold UfRev.zG at this
  rw [List.size_toArray] at this
  rw [e,List.getElem?_reverse (by lia),← this]
  simp
 ·rw [Array.getElem?_eq_none (by lia),List.getElem?_eq_none (by rw [List.length_reverse];lia)]
section
variable {X:Cx}
theorem boot_reversed:bootBuiltins "reversed"=some (.type "reversed"):=by decide +kernel
def xU(K:PySem.W.Frag)(t:TA):TE:=fun σ H Q=>t σ H fun vs H1=>∃ l ys,vs=[.ref l]∧aI K H1 l ys∧∀ q,H1 q=none→Q (.ref q) (upd H1 q (.lst ys.reverse))
theorem ue{e:Expr}{t:TA}{p1 p2 pos pos2:Pos}(hc:X.calm=true)(hg:Gl X "list")(hm:X.mg "list"=none)(hb:bootBuiltins "list"=some (.type "list"))(hg2:Gl X "reversed")(hm2:X.mg "reversed"=none)(ha:PA X [e] t)
  (he:starEach [.Call (.Name "reversed" p2) [e] [] pos2] X.env=[(false,eval (.Call (.Name "reversed" p2) [e] [] pos2) X.env)]:=by rfl) (he2:starEach [e] X.env=[(false,eval e X.env)]:=by rfl) :
  PE X (.Call (.Name "list" p1) [.Call (.Name "reversed" p2) [e] [] pos2] [] pos) (xU X.K t):=by
 intro pins s σ H Q I h
 refine wpAny_Call_Name_kw (eE I hg hm hb ?_)
 refine PyProof.Rows.callWith_type1 ?_ he rfl
 rw [he]
 refine Calls.spliced_cons ?_
 refine wpAny_Call_Name_kw (eE I hg2 hm2 boot_reversed ?_)
 refine PyProof.Rows.callWith_type1 (cc (ha pos2 pins s σ H _ I h) fun us s1 ⟨vs,H1,I1,r1,l,ys,ev,hl,q⟩=>?_) he2 rfl
 subst ev
 obtain⟨u,rfl,ru⟩:=vals1 r1
 cases ru
 obtain⟨its,rv,pl,hz⟩:=I1.list hl
 have hlen:=rv.length
 have lt:l<s1.heap.objs.size:=let ⟨_,y,_⟩:=pl.isList;Heap.lt_size y
 refine call_reversed_list pl.isList ?_
 refine Calls.spliced_nil ?_
 refine UfRev.nK (l:=l) (items:=its.toArray) (I.ok.hd hc) ⟨_,Heap.get?_push_size _ rfl,rfl,rfl⟩ (pl.isList.push _) (Nat.ne_of_lt lt) (by rw [List.size_toArray];lia) fun h' tk acc c k hq hit=>?_
 have hn:H1 (s1.heap.push (revObj l ((its.toArray.size:Int)-1))).objs.size=none:=I1.hok.fresh (by rw [Heap.size_push];exact Nat.le_succ _)
 refine⟨.ref _,upd H1 _ (.lst ys.reverse),I1.laid (t':=tk) (fun b o e=>k b o (Nat.ne_of_lt (Heap.lt_size e)) (Heap.get?_push_of_some _ e)) (by rw [Heap.size_push];exact Nat.le_succ _) ⟨by rw [List.length_reverse];exact hz,its.reverse,c,rv.reverse,?_⟩,rfl,q _ hn⟩
 rw [hq,← vw hit]
end
end L2
end
section
namespace UfStr
open PySem PySem.Builtin PySem.Builtin.Str PySem.StrLaws
theorem pF{x y:PySem.Str}(h:x.cps.toList=y.cps.toList):x=y:=by
 cases x with
 | mk a =>
  cases y with
  | mk b =>
   have:a=b:=Array.toList_inj.mp h
   rw [this]
theorem wb(x y:PySem.Str):(x++y).cps.toList=x.cps.toList++y.cps.toList:=by
 show(x.cps++y.cps).toList=_
 simp
end UfStr
namespace L2
open PySem PySem.Spec PyProof.Rows UfSrt
section
variable {X:Cx}
end
end L2
end
section
namespace L2
open PySem
end L2
namespace L2
open PySem PySem.Spec PyProof.Rows UfSrt UfX
section
variable {X:Cx}
end
end L2
end
section
namespace L2
open PySem PySem.Spec PyProof.Rows UfSrt UfX
section
variable {X:Cx}
theorem wF(ts:List Str):(aq ts).all dy=true:=by
 unfold aq
 rw [List.all_map]
 exact List.all_eq_true.mpr fun _ _=>rfl
theorem yU{pins:List (Addr × Obj)}{s:Shared}{σ:St}{H:Hp}{A:Around}{l l':Addr}{ts:List Str}(I:Inv X pins σ H s)(h1:aI X.K H l (aq ts))(h2:aI X.K H l' (aq ts))(hu:A.units+1<cLine):SeqAt.EqAt A s (.ref l) (.ref l') true:=by
 by_cases e:l=l'
 ·subst e
  exact SeqAt.EqAt.same _
 ·obtain⟨its,r1,p1,_⟩:=I.list h1
  obtain⟨its2,r2,p2,_⟩:=I.list h2
  have l1:=r1.length
  have l2:=r2.length
  have:=SeqAt.RcAt.lists (A:=A) (e:=fun _=>true) p1.isList p2.isList (by simp;lia) (by lia) (kz (A:=A.in1) I (gN (wF ts)) r1 r2 hu)
  have e5:((List.range (min its.toArray.size its2.toArray.size)).all (fun _=>true))=true:=by simp
  refine .of_refs e ?_
  have e6:((List.range its.toArray.size).all fun _=>true)=true:=by simp
  rw [e6] at this
  exact this
end
theorem ny{K:PySem.W.Frag}{C:Addr}{od:Option Obj}{name:Str}{a g:Value}(hc:(PySem.W.clsIn K C).isSome=true)(ha:PySem.W.findIn K (.ref C) name=some (some a))(hg:PySem.W.specialIn K a "__get__"=some (some g))(ht:PySem.W.takesIn K a=some true):PySem.W.findObj K C od name=some (.bind g a):=by
 obtain⟨cd,hc⟩:=Option.isSome_iff_exists.mp hc
 unfold PySem.W.findObj
 rw [hc,Option.bind_some,ha,Option.bind_some]
 simp [hg,ht]
theorem oy{K:PySem.W.Frag}{x C:Addr}{ox:Obj}(G:kM K C):PySem.W.KitX K (.ref x) (.ref C) (fun h=>PySem.W.InstAt h x ox C none) where
 ty:=fun _ _ _ J=>J.type
 it:=fun _ _ X _=>by
  obtain⟨cd,hc,_⟩:=PySem.W.any_some G.hd
  unfold PySem.W.clsIn at hc
  split at hc
  ·rename_i c' d' cd' sl' lo
   intro A' Q' E' s' k q
   unfold isType loadHead
   exact wpAny_bind (wpAny_loadPart (k _ _ (X _ _ lo)) (wpAny_pure q))
  ·cases hc
 ne:=fun h tp dd its n sl X htp=>by
  obtain⟨cd,hc,_⟩:=PySem.W.any_some G.hd
  refine Bool.eq_false_iff.mpr fun q=>?_
  have e:C=tp:=Value.ref.inj (beq_iff_eq.mp q)
  subst e
  unfold PySem.W.clsIn at hc
  split at hc
  ·rename_i c' d' cd' sl' lo
   have z:=(X _ _ lo).symm.trans htp
   cases z
  ·cases hc
 ca:=fun {prog w A E Q s} X J k=>by
  have hf:PySem.W.findObj K C none "__class__"=some (.bind (.builtin "getset_descriptor.__get__") (.builtin "object.__class__")):=ny (by obtain⟨cd,hc,_⟩:=PySem.W.any_some G.hd;rw [hc];rfl) G.cl G.gt G.tk
  obtain⟨h,gs,dr,tk,o⟩:=s
  unfold getAttr?
  exact wpAny_bind (wpAny_mkText (mC X J G.ga G.gn (oX X J G.hm G.ho hf ⟨_,rfl,rfl,k⟩)))
section
variable {X:Cx}{pins:List (Addr × Obj)}{σ:St}{H:Hp}{s:Shared}{A:Around}{E:Value→Shared→Prop}
theorem sN{a C:Addr}(I:Inv X pins σ H s)(ha:H a=some (cm a (.ref C) none)):∃ ox,PySem.W.InstAt s.heap a ox C none:=by
 obtain⟨oe,vs,he,hcl,hdx,hdt⟩:d9 a (.ref C) none s.heap:=(I.hok a _ ha).1
 obtain⟨oc,odi,oda,osl⟩:=oe
 dsimp only at hcl hdx hdt
 subst hcl hdx hdt
 exact⟨_,he,rfl,rfl,True.intro⟩
def zE(K:PySem.W.Frag):List V→Hp→VK→Prop:=fun xs H Q=>∃ a C c b,xs=[.ref a,c]∧H a=some (cm a (.ref C) none)∧kM K C∧Q (.bl b) H ∧
 ((kQ c≠.none∧PySem.W.kitOne K (.ref C) (kQ c)=some b)∨∃ tp cs,c=.ref tp∧H tp=some (.tup cs)∧(∀ d∈cs,kQ d≠.none)∧PySem.W.kitAny K (.ref C) (cs.map kQ)=some b)
theorem sy:dC X (.builtin "isinstance") (zE X.K):=by
 intro pins s σ H xs us Q I r h
 obtain⟨a,C,c,b,rfl,ha,G,q,hc⟩:=h
 cases r with
 | cons r0 r1 =>
  cases r1 with
  | cons r2 r3 =>
   cases r3
   obtain rfl:=r0
   obtain⟨ox,J⟩:=sN I ha
   rcases hc with⟨hn,e⟩ | ⟨tp,cs,rfl,ht,hn,e⟩
   ·rw [pz r2 hn]
    exact PySem.W.kia_one (oy G) I.fi J e (fun z=>nomatch z) fun tk=>⟨.bl b,H,I.tok tk,rfl,q⟩
   ·obtain rfl:=r2
    obtain⟨_,its,rv,ob,h1,h2,n,h3⟩:=(show bO X.prog X.w H s.heap tp (.tup cs) from I.hok tp _ ht)
    obtain⟨oc,odi,oda,osl⟩:=ob
    dsimp only at h2 h3
    subst h2 h3
    refine PySem.W.kia_tup (oy G) I.fi J h1 ?_ (fun z=>nomatch z) fun tk=>⟨.bl b,H,I.tok tk,rfl,q⟩
    rw [mK rv hn]
    exact e
end
end L2
end
section
namespace Uf
open PySem L2 UfSrt UfFin
def BZ(H:Hp)(m:Mv)(v:V):Prop:=∃ t l g,v=.ref t∧H t=some (.tup [.ref l,.ref g])∧H l=some (.lst (aq m.2.1))∧H g=some (.lst (aq m.2.2))
theorem BZ.same{H H':Hp}{m:Mv}{v:V}(s:ao H H')(h:BZ H m v):BZ H' m v:=by
 obtain⟨t,l,g,h1,h2,h3,h4⟩:=h
 exact⟨t,l,g,h1,s _ _ h2,s _ _ h3,s _ _ h4⟩
abbrev MP(H:Hp):List Mv→List (Key × V)→Prop:=Paired fun m kv=>kv.1=Sum.inr m.1∧BZ H m kv.2
theorem MP.same{H H':Hp}{ms:List Mv}{kvs:List (Key × V)}(s:ao H H')(h:MP H ms kvs):MP H' ms kvs:=Paired.il h fun _ _ z=>⟨z.1,z.2.same s⟩
theorem MP.put{H:Hp}{d:Addr}{o:HO}{kv0:List (Key × V)}{ms:List Mv}{kvs:List (Key × V)}(hd:H d=some (.dK kv0))(h:MP H ms kvs):MP (upd H d o) ms kvs:=Paired.il h fun _ _ ⟨z,t,l,g,h1,h2,h3,h4⟩ =>
 ⟨z,t,l,g,h1,by rw [ar (cv h2 hd (fun z=>nomatch z))];exact h2,by rw [ar (cv h3 hd (fun z=>nomatch z))];exact h3,by rw [ar (cv h4 hd (fun z=>nomatch z))];exact h4⟩
theorem MP.keys{H:Hp}:∀ {ms:List Mv} {kvs:List (Key × V)},MP H ms kvs→kvs.map (·.1)=(names ms).map Sum.inr
 | _,_,.nil=>rfl
 | _,_,.cons h t=>by
  rw [List.map_cons,h.1,MP.keys t]
  rfl
theorem MP.none{H:Hp}{ms:List Mv}{kvs:List (Key × V)}{x:Str}(h:MP H ms kvs)(hx:x∉names ms):fh kvs (Sum.inr x:Key)=.none:=by
 cases e:fh kvs (Sum.inr x:Key) with
 | none=>rfl
 | some v =>
  have:=uT e
  rw [h.keys] at this
  obtain⟨y,hy,e2⟩:=List.mem_map.mp this
  cases e2
  exact absurd hy hx
theorem MP.get{H:Hp}{m:Mv}:∀ {ms:List Mv} {kvs:List (Key × V)},MP H ms kvs→(names ms).Nodup→m∈ms→∃ v,fh kvs (Sum.inr m.1:Key)=.some v∧BZ H m v
 | _,_,.nil,_,h=>by simp at h
 | m'::ms,_,.cons (b:=kv) h t,hn,hm=>by
  obtain⟨n1,n2⟩:=List.nodup_cons.mp (show(m'.1::names ms).Nodup from hn)
  rcases List.mem_cons.mp hm with rfl | hm
  ·exact⟨kv.2,ij h.1,h.2⟩
  ·have ne:¬ kv.1=(Sum.inr m.1:Key):=fun z=>by
    rw [h.1] at z
    have z2:m'.1=m.1:=by injection z
    exact n1 (by rw [z2];exact List.mem_map.mpr ⟨m,hm,rfl⟩)
   rw [ie ne]
   exact MP.get t n2 hm
def eT(H:Hp)(d:Addr)(ms:List Mv):Prop:=∃ o kvs,H d=some (.frz o (.dK kvs))∧MP H ms kvs
theorem eT.same{H H':Hp}{d:Addr}{ms:List Mv}(s:ao H H')(h:eT H d ms):eT H' d ms:=by
 obtain⟨o,kvs,h1,h2⟩:=h
 exact⟨o,kvs,s _ _ h1,h2.same s⟩
theorem eT.get{H:Hp}{d:Addr}{ms:List Mv}{m:Mv}(h:eT H d ms)(hn:(names ms).Nodup)(hm:m∈ms):∃ v,gW H d (.str m.1) (some v)∧BZ H m v:=by
 obtain⟨o,kvs,h1,h2⟩:=h
 obtain⟨v,h3,h4⟩:=h2.get hn hm
 exact⟨v,.inl ⟨kvs,Sum.inr m.1,.inr ⟨o,h1⟩,rfl,h3.symm⟩,h4⟩
end Uf
end
section
namespace UfX
open PySem
inductive ExcF(h:Heap)(e:Addr)(cls a0:Value)(dx:Option Addr)(T:Addr):Prop
 | mk (oe:Obj) (vs:Array Value) (at_:h.get? e=some oe) (cl:oe.cls=cls) (dc:oe.dict=dx) (dt:oe.data=.fields vs) (first:vs[0]?=some a0) (tr:vs[1]?=some (.ref T)) (ne:T≠e)
   (oT:Obj) (ts:Array Value) (hT:h.get? T=some oT) (hTd:oT.data=.fields ts) (sz:3<ts.size)
section
variable {M:Model}{A:Around}{E:Value→Shared→Prop}{s:Shared}{base:Heap}{env cenv:Env}{outer:List Env}{L e:Addr}{Q:Unit→Shared→Prop}
end
end UfX
end
section
namespace L2
open PySem PySem.Spec PyProof.Rows UfX
section
variable {P:Program}{w:World}{K:PySem.W.Frag}{mg:Str→Option Value}{base:Heap}{N:List Str}{qual:Str}{scope:Scope}{f:Addr}{cd:Value}{A:Around}{outer:List Env}{s:Shared}{H:Hp}{E:XK}
end
end L2
end
section
namespace L2
open PySem PySem.Spec PyProof.Rows UfX
section
variable {P:Program}{w:World}{K:PySem.W.Frag}{mg:Str→Option Value}{base:Heap}{N N2:List Str}{qual:Str}{scope sc:Scope}{f:Addr}{cd:Value}{A:Around}{outer:List Env}{s:Shared}{H:Hp}{E:XK}
end
section
variable {prog:Program}{w:World}{A:Around}{R:Result→Shared→Prop}{s:Shared}
end
section
variable {X:Cx}{N:List Str}{n:Nat}{ci:List Nat}{sc:Scope}
end
end L2
end
section
namespace L2
open PySem PySem.Spec PyProof.Rows UfX
section
variable {X:Cx}{pins:List (Addr × Obj)}{D:Ends}{B:Addr}{i:Nat}{n cn:Str}{np hpos:Pos}{b0:Stmt}{suite:List Stmt}{th:Addr→TS}
end
section
variable {X:Cx}{CX:rD}{k:Nat}{f C:Addr}{fd:FuncData}{ps:List Str}{sp:Sp}{dvs:List V}{ds:List Value}{E:XK}{x m:Str}{p pos apos:Pos}{e o:Expr}{es:List Expr}{ta:TE}{t:TA}
end
end L2
end
section
namespace Uf
open PySem L2 UfSrt UfFin
abbrev iH:Stmt:=inClass (top 2) 0
def vb(C:Addr):Sp:=fun vs H Q _=>∃ a,vs=[.ref a]∧H a=some (gO a (.ref C) none)∧Q .non H
def j7(H:Hp)(E:XK)(C:Addr):Prop:=∀ H',ao H H'→E (.ref C) none H'
theorem j7.same{H H':Hp}{E:XK}{C:Addr}(s:ao H H')(h:j7 H E C):j7 H' E C:=fun H2 s2=>h H2 (s.trans s2)
structure xX(P:Program)(w:World)(K:PySem.W.Frag)(mg:Str→Option Value)(base:Heap)(x:Str)(C N f:Addr)(fd:FuncData):Prop where
 mx:zD K C N f
 gl:mg x=some (.ref C)
 bd:Binds K fd ["self"] []
 ok:aH P w K mg base bX 1 f fd ["self"] (vb C)
 ec:pN K C
section
variable {P:Program}{w:World}{K:PySem.W.Frag}{mg:Str→Option Value}{base:Heap}
theorem xp:aU ["self"] ["self"] (ai iH):=⟨rfl,rfl,rfl,by decide +kernel,rfl,by decide +kernel,by decide +kernel⟩
theorem vD{f C N NE:Addr}{fd:FuncData}(F:dW K "__init__" "NoNet.__init__" iH f fd)(mgE:mg "NetError"=some (.ref NE))(hb:oO K NE)(T:mP K C N):aH P w K mg base bX 1 f fd ["self"] (vb C):=by
 refine F.ok xp (fun vs H Q E h=>?_) (fun cdv A outer s H vs Q E hr h=>?_)
 ·obtain⟨a,rfl,_⟩:=h
  rfl
 ·obtain⟨a,rfl,ha,k⟩:=h
  refine⟨_,au (cD (gI rfl mgE hb (aa (pv 0) (aa cJ ag)))),?_⟩
  exact⟨_,rfl,a,C,N,_,_,rfl,by simp,ha,T,k⟩
def uS(K:PySem.W.Frag)(C CO:Addr):Sp:=fun vs H Q E=>∃ (p dx a b:Addr) (ms:List Mv) (st:List Str),vs=[.ref p,.ref a,.ref b]∧H p=some (.ins C dx [])∧jh K H a ms∧aI K H b (aq st)∧Fits ms st∧dw ms st=false∧j7 H E CO
theorem yd{f C CO NO fO fN fU fM fP fK:Addr}{fd fdO fdN fdU fdM fdP fdK:FuncData}(F:dW K "__init__" "Net.__init__" kJ f fd)(T:Txt K mg)(XO:xX P w K mg base "NoNet" CO NO fO fdO)(DN:Def K mg "is_name" cK ["thing"] fN fdN)(DU:Def K mg "are_unlike_names" dF ["things"] fU fdU)
  (DM:Def K mg "is_move" d7 ["taken", "given"] fM fdM) (DP:Def K mg "places_of" d6 ["moves", "start"] fP fdP) (DK:Def K mg "makes_net" eZ ["moves", "start"] fK fdK):aH P w K mg base (jT P w) 5 f fd ["self", "moves", "start"] (uS K C CO):=by
 have GK:aH P w K mg base bX 4 fK fdK ["moves", "start"] (pb K):=rQ DK.fn T DN DU DM DP
 refine F.zC mm (fun vs H Q E h=>?_) (fun cdv A outer s H vs Q E hr h=>?_)
 ·obtain⟨p,dx,a,b,ms,st,rfl,_⟩:=h
  rfl
 ·obtain⟨p,dx,a,b,ms,st,rfl,hp,ha,hb,hf,hmk,k⟩:=h
  have hr2:bR 2 _:=hr.mono (by decide)
  refine⟨_,aj (bB (cR (cu (az GK hr rfl DK.mg DK.fn.kp DK.bd .nil aJ (aa (pv 1) (aa (pv 2) ag))))) (au (hJ ik rfl rfl (nO XO.mx XO.ok hr2 rfl XO.gl XO.bd .nil aJ))) aX) iD,?_⟩
  refine⟨_,rfl,_,rfl,a,b,ms,st,rfl,ha,hb,hf,fun H1 s1=>⟨_,rfl,?_⟩⟩
  rw [hmk]
  refine cG ?_
  refine⟨by simp,fun y hy=>⟨y,rfl,ae,rfl,y,CO,none,rfl,ae,XO.ec,s1.free hy,k _ fun b o e=>?_⟩⟩
  have e1:=s1 b o e
  have b1:b≠y:=ay e1 hy
  rw [gL b1,ar b1]
  exact e1
end
end Uf
end
section
namespace L2
open PySem PySem.Spec PyProof.Rows
section
variable {X:Cx}
theorem Aj:gZ X (binaryOp .Mult) (fun x y H Q=>∃ (z:Str) (n:Int),x=.str z∧y=.int n∧1≤n∧n≤8∧z.length=1∧Q (.str (rL z n.toNat)) H):=by
 intro pins s σ H x y v u Q I rx ry h
 obtain⟨z,n,rfl,rfl,hn,hn2,hz,q⟩:=h
 obtain⟨t,rfl⟩:=rx
 obtain⟨t',rfl⟩:=ry
 have hsl:=sizeLine_eq
 have h3:n=1∨n=2∨n=3∨n=4∨n=5∨n=6∨n=7∨n=8:=by lia
 have e2:z.cps.size=1:=hz
 refine PySem.P.mul_str (by rw [decide_eq_false (by lia),decide_eq_false (by lia)];rfl) (fun h1 _=>?_) (fun h1 _=>?_) ?_
 ·rw [hz]
  rcases h3 with rfl | rfl | rfl | rfl | rfl | rfl | rfl | rfl <;> decide
 ·rw [hz]
  rcases h3 with rfl | rfl | rfl | rfl | rfl | rfl | rfl | rfl <;> decide
 ·by_cases h1:n=1
  ·subst h1
   rw [if_neg (by decide),if_pos (by rfl)]
   refine⟨.str (rL z 1),H,I,⟨t,?_⟩,q⟩
   rw [yw]
  ·have e:((n:Int)==1 || z.length==0)=false:=by
    rw [hz]
    have:(n==1)=false:=beq_eq_false_iff_ne.mpr h1
    rw [this]
    rfl
   rw [if_neg (by lia),if_neg (by rw [e];exact Bool.false_ne_true)]
   refine⟨?_,.str (rL z n.toNat),H,I.tok _,⟨_,rfl⟩,q⟩
   rcases h3 with rfl | rfl | rfl | rfl | rfl | rfl | rfl | rfl <;>
   ·show((List.replicate _ z.cps).foldl (· ++ ·) #[]).size≤_
    simp [List.replicate,List.foldl,e2]
    lia
end
end L2
namespace Uf
open PySem L2 UfSrt UfStr PySem.Builtin PySem.Builtin.Str PySem.StrLaws
abbrev jG:Stmt:=top 35
theorem wa(x:PySem.Str){a b:Nat}(hab:a≤b)(hb:b≤x.length):Txt.slice x (some (a:Int)) (some (b:Int))=strSub x a b:=by
 refine UfStr.pF ?_
 rw [strSub_toList]
 have:=sliceText_nat x hab hb
 rw [show Txt.slice x (some (a:Int)) (some (b:Int))=sliceText x (some (a:Int)) (some (b:Int)) from rfl,this]
theorem xH(x:PySem.Str){b:Nat}(hb:b≤x.length):(Txt.slice x none (some (b:Int))).cps.toList=x.cps.toList.take b:=by
 have:Txt.slice x none (some (b:Int))=strSub x 0 b:=by
  rw [← wa x (Nat.zero_le b) hb]
  unfold Txt.slice
  rw [sliceIdx_none_lo]
  rfl
 rw [this,strSub_toList,List.drop_zero,Nat.sub_zero]
theorem foldl_rep(c:Nat):∀ (n:Nat) (acc:Array Nat),((List.replicate n #[c]).foldl (· ++ ·) acc).toList=acc.toList++List.replicate n c
 | 0,acc=>by simp
 | n+1,acc=>by
  rw [List.replicate_succ,List.foldl_cons,foldl_rep c n,List.replicate_succ]
  simp
theorem sS(c n:Nat):(rL (⟨#[c]⟩:PySem.Str) n).cps.toList=List.replicate n c:=by
 unfold rL
 rw [foldl_rep]
 rfl
def CI:List Nat:=[113,119,101,114,116,121,117,105,111,112,97,115,100,102,103,104,106,107,108,122,120,99,118]
def nh(c:Int)(k:Nat):Int:=(k*(1+c % 22)+c / 22) % 23
def yZ(c:Int)(k:Nat):List Nat :=
 if c / 506 % 2=0 then List.replicate (1+nh c k % 8).toNat (97+(nh c k / 8).toNat)
 else CI.getD (nh c k).toNat 0::[120,121,122].take (c / 1012 % 4).toNat
def nk(c:Int)(k:Nat):PySem.Str:=⟨(yZ c k).toArray⟩
theorem dI(c:Int)(k:Nat):(nk c k).cps.toList=yZ c k:=by unfold nk;simp
theorem pe(c:Int)(k:Nat):0≤nh c k∧nh c k<23:=by unfold nh;lia
theorem BI:∀ a<23,∀ d<23,a*d % 23=0→a=0∨d=0:=by decide +kernel
theorem DE{c:Int}{k m:Nat}(hk:k<23)(hm:m<23)(e:nh c k=nh c m):k=m:=by
 have key:∀ {a b:Nat},a<23→b≤a→nh c a=nh c b→a=b:=fun {a b} ha hb e=>by
  unfold nh at e
  have h0:0≤c % 22∧c % 22<22:=by lia
  obtain⟨q,hq⟩:∃ q:Nat,(1+c % 22)=q:=⟨(1+c % 22).toNat,by lia⟩
  rw [hq] at e
  have hq1:0<q∧q<23:=by lia
  obtain⟨d,rfl⟩:∃ d,a=b+d:=⟨a-b,by lia⟩
  have e2:(((b+d:Nat):Int)*q+c / 22-((b:Int)*q+c / 22)) % 23=0:=by
   rw [Int.sub_emod,e]
   simp
  have e3:((b+d:Nat):Int)*q+c / 22-((b:Int)*q+c / 22)=((q*d:Nat):Int):=by
   push_cast
   rw [Int.add_mul,Int.mul_comm (q:Int) (d:Int)]
   lia
  rw [e3] at e2
  have e4:q*d % 23=0:=by lia
  rcases BI q hq1.2 d (by lia) e4 with z | z
  ·lia
  ·lia
 rcases Nat.le_total m k with h | h
 ·exact key hk h e
 ·exact(key hm h e.symm).symm
theorem Cb:∀ a<23,∀ b<23,CI.getD a 0=CI.getD b 0→a=b:=by decide +kernel
theorem C0:∀ a<23,97≤CI.getD a 0∧CI.getD a 0≤122:=by decide +kernel
theorem Ag{c:Int}{k m:Nat}(hk:k<23)(hm:m<23)(e:yZ c k=yZ c m):k=m:=by
 obtain⟨a0,a1⟩:=pe c k
 obtain⟨b0,b1⟩:=pe c m
 refine DE (c:=c) hk hm ?_
 unfold yZ at e
 by_cases h:c / 506 % 2=0
 ·rw [if_pos h,if_pos h] at e
  generalize nh c k=a at *
  generalize nh c m=b at *
  have l:=congrArg List.length e
  rw [List.length_replicate,List.length_replicate] at l
  obtain⟨n1,e1⟩:∃ n,(1+a % 8).toNat=n+1:=⟨(a % 8).toNat,by lia⟩
  obtain⟨n2,e2⟩:∃ n,(1+b % 8).toNat=n+1:=⟨(b % 8).toNat,by lia⟩
  have hd:=congrArg List.head? e
  rw [e1,e2,List.replicate_succ,List.replicate_succ] at hd
  simp only [List.head?_cons,Option.some.injEq] at hd
  lia
 ·rw [if_neg h,if_neg h] at e
  have e1:=(List.cons.inj e).1
  have:=Cb (nh c k).toNat (by lia) (nh c m).toNat (by lia) e1
  lia
theorem B9(c:Int)(k:Nat):1≤(yZ c k).length∧(yZ c k).length≤8∧∀ x∈yZ c k,97≤x∧x≤122:=by
 obtain⟨a0,a1⟩:=pe c k
 have hz:∀ x∈[120,121,122],97≤x∧x≤122:=by decide
 unfold yZ
 by_cases h:c / 506 % 2=0
 ·rw [if_pos h,List.length_replicate]
  refine⟨by lia,by lia,fun x hx=>?_⟩
  have:=List.eq_of_mem_replicate hx
  lia
 ·rw [if_neg h,List.length_cons,List.length_take]
  refine⟨by lia,by show min _ 3+1≤8;lia,fun x hx=>?_⟩
  rcases List.mem_cons.mp hx with rfl | hx
  ·exact C0 _ (by lia)
  ·exact hz x (List.mem_of_mem_take hx)
theorem zw(c:Int)(k:Nat):isNm (nk c k)=true:=by
 obtain⟨h1,h2,h3⟩:=B9 c k
 exact Du (by rw [dI];exact h1) (by rw [dI];exact h2) (by rw [dI];exact h3)
theorem yR{c:Int}{k m:Nat}(hk:k<23)(hm:m<23)(e:nk c k=nk c m):k=m:=Ag hk hm (by rw [← dI,← dI,e])
def qC(c:Int)(n:Nat):List PySem.Str:=(List.range n).map (nk c)
theorem fz(c:Int)(n:Nat):(qC c n).length=n:=by unfold qC;rw [List.length_map,List.length_range]
theorem gJ(c:Int){n:Nat}(h:n≤23):unlike (qC c n)=true:=by
 refine oq (fun x hx=>?_) ?_
 ·obtain⟨k,_,rfl⟩:=List.mem_map.mp hx
  exact zw c k
 ·unfold qC
  rw [List.nodup_iff_pairwise_ne,List.pairwise_map]
  refine(List.nodup_range (n:=n)).imp_of_mem fun {a b} ha hb hne e=>hne (yR (by have:=List.mem_range.mp ha;lia) (by have:=List.mem_range.mp hb;lia) e)
theorem ju(c:Int)(n:Nat):qC c (n+1)=qC c n++[nk c n]:=by unfold qC;rw [List.range_succ,List.map_append];rfl
section
variable {P:Program}{w:World}{K:PySem.W.Frag}{mg:PySem.Str→Option Value}{base:Heap}
def sJ:Sp:=fun vs H Q _=>∃ (c:Int) (k:Nat),vs=[.int c,.int k]∧k<23∧Q (.str (nk c k)) H
theorem yN:aU ["_law_cell", "_law_k", "_law_j"] ["_law_cell", "_law_k"] (ai jG):=⟨rfl,rfl,rfl,by decide +kernel,rfl,by decide +kernel,by decide +kernel⟩
theorem m8:("abc":PySem.Str).cps.toList=[97,98,99]:=by decide +kernel
theorem rC:("qwertyuiopasdfghjklzxcv":PySem.Str).cps.toList=CI:=by decide +kernel
theorem vN:("xyz":PySem.Str).cps.toList=[120,121,122]:=by decide +kernel
theorem zQ{f:Addr}{fd:FuncData}(F:dW K "_law_name" "_law_name" jG f fd):aH P w K mg base bX 1 f fd ["_law_cell", "_law_k"] sJ:=by
 refine F.ok yN (fun vs H Q E h=>?_) (fun cdv A outer s H vs Q E hr h=>?_)
 ·obtain⟨c,k,rfl,_⟩:=h
  rfl
 ·obtain⟨c,k,rfl,hk,kk⟩:=h
  have hsl:=PySem.sizeLine_eq
  refine⟨_,aj (aN (i:=2) yN.nd rfl (Or.inl rfl) (aB bF (aB di (aB eW (pv 1) (aB di ak (aB bF (pv 0) ak))) (aB bE (pv 0) ak)) ak))
   (aj (bB (bb jA (aB bF (aB bE (pv 0) ak) ak) ak (bw _)) (au (aK (aB Aj (aO ze cJ (aB bE (pv 2) ak) (fun _ _=>rfl)) (aB di ak (aB bF (pv 2) ak))))) aX)
   (au (aK (aB tQ (aO ze cJ (pv 2) (fun _ _=>rfl)) (bH Bb cJ cL (bK (aB bF (aB bE (pv 0) ak) ak))))))),?_⟩
  obtain⟨a0,a1⟩:=pe c k
  refine⟨_,rfl,_,rfl,_,_,rfl,rfl,(by show(0:Int)<22;decide),_,_,rfl,rfl,_,_,rfl,rfl,.inl ⟨by lia,by lia⟩,_,rfl,_,_,rfl,rfl,⟨by decide,by decide⟩,_,_,rfl,rfl,_,_,rfl,rfl,(by show(0:Int)<23;decide),?_⟩
  have ej:((k:Int)*(1+c % 22)+c / 22) % 23=nh c k:=rfl
  dsimp only [dU]
  rw [ej]
  refine⟨_,rfl,_,_,rfl,rfl,⟨by decide,by decide⟩,_,_,rfl,rfl,(by show(0:Int)<2;decide),rfl,_,rfl,?_⟩
  by_cases h:c / 506 % 2=0
  ·rw [decide_eq_true (show V.int (c / 506 % 2)=V.int 0 by rw [h])]
   refine cG ?_
   refine⟨_,rfl,_,_,rfl,rfl,⟨by decide,by decide⟩,_,_,_,rfl,rfl,(by show(3:Nat)≤sizeLine;lia),lh 0 (by lia) (by rw [m8];show _<((3:Nat):Int);lia),_,rfl,_,_,rfl,rfl,(by show(0:Int)<8;decide),_,_,rfl,rfl,_,_,rfl,rfl,by lia,by lia,rfl,?_⟩
   have e:rL (⟨#[("abc":PySem.Str).cps.toList.getD (nh c k / 8).toNat 0]⟩:PySem.Str) (1+nh c k % 8).toNat=nk c k:=by
    refine UfStr.pF ?_
    rw [sS,dI]
    unfold yZ
    rw [if_pos h,m8]
    congr 1
    have:(nh c k / 8).toNat=0∨(nh c k / 8).toNat=1∨(nh c k / 8).toNat=2:=by lia
    rcases this with z | z | z <;> rw [z] <;> rfl
   rw [← e] at kk
   exact kk
  ·rw [decide_eq_false (show ¬ V.int (c / 506 % 2)=V.int 0 from fun z=>h (by injection z))]
   refine bS ?_
   have h4:0≤c / 1012 % 4∧c / 1012 % 4<4:=by lia
   have e:(⟨#[("qwertyuiopasdfghjklzxcv":PySem.Str).cps.toList.getD (nh c k).toNat 0]⟩:PySem.Str)++Txt.slice "xyz" none (some (c / 1012 % 4))=nk c k:=by
    refine UfStr.pF ?_
    rw [UfStr.wb,dI]
    unfold yZ
    rw [if_neg h,rC]
    have e1:c / 1012 % 4=(((c / 1012 % 4).toNat:Nat):Int):=by lia
    have e2:=xH ("xyz":PySem.Str) (b:=(c / 1012 % 4).toNat) (by show _≤3;lia)
    rw [← e1] at e2
    rw [e2,vN]
    rfl
   have hlen:=Txt.slice_le ("xyz":PySem.Str) none (some (c / 1012 % 4))
   refine⟨_,rfl,_,_,_,rfl,rfl,(by show(23:Nat)≤sizeLine;lia),lh 0 (by lia) (by rw [rC];show _<((23:Nat):Int);lia),_,rfl,_,_,rfl,rfl,⟨by decide,by decide⟩,_,_,rfl,rfl,(by show(0:Int)<4;decide),_,rfl,_,rfl,(by show(3:Nat)≤sizeLine;lia),_,_,rfl,rfl,?_,?_⟩
   ·have:("xyz":PySem.Str).length=3:=by decide +kernel
    show 1+(Txt.slice "xyz" none (some (c / 1012 % 4))).length≤sizeLine
    lia
   rw [← e] at kk
   exact kk
end
end Uf
end
section
namespace UfZip
open PySem PySem.W PySem.Calls PyProof.Rows PyProof.V PySem.Spec
abbrev sY(h:Heap)(z TI TO a:Addr)(f:Bool):Prop :=
 h.get? z=some { cls:=.type "zip",dict:=none,data:=.fields #[rawInt a,.bool f,.bool false,.ref TI,.ref TO],slots:=#[] }
section
variable {prog:Program}{w:World}{A:Around}{E:Value→Shared→Prop}{s:Shared}
theorem uI{z TI TO a:Addr}{f:Bool}{oa:Obj}{Q:Bool→Shared→Prop}(hz:sY s.heap z TI TO a f)(ha:s.heap.get? a=some oa)
  (hQ:∀ h',sY h' z TI TO a true→Heap.SameBut z s.heap h'→Q false { s with heap:=h' }):wpAny (model prog w) A (Builtin.SmallTypes.ownedTupleIsFree (.ref z)) Q E s:=by
 unfold Builtin.SmallTypes.ownedTupleIsFree
 refine wpAny_bind (wpAny_field hz rfl (x:=rawInt a) rfl ?_)
 show wpAny _ _ (loadIfAlive ((a:Int).toNat) >>= _) _ _ _
 rw [Int.toNat_natCast]
 refine wpAny_bind (kdx_alive ha ?_)
 simp only [Option.isNone_some,Bool.false_eq_true,if_false]
 refine wpAny_bind (wpAny_field hz rfl (x:=.bool f) rfl ?_)
 cases f with
 | true =>
  rw [if_neg (show ¬((Value.bool true != Value.bool true)=true) from Bool.false_ne_true)]
  exact wpAny_pure (hQ s.heap hz (Heap.SameBut.refl _ _))
 | false =>
  rw [if_pos (show(Value.bool false != Value.bool true)=true from rfl)]
  refine wpAny_bind (wpAny_setField_rec hz (by simp) fun h₃ he₃ hs₃=>?_)
  exact wpAny_pure (hQ h₃ he₃ hs₃)
theorem yc{z TI TO i1 i2 l1 l2 a:Addr}{f:Bool}{oa:Obj}{k:Nat}{xs ys:Array Value}{x y:Value}{Q:Value→Shared→Prop}(D:ZipApart z TI TO i1 i2 l1 l2)
  (hz:sY s.heap z TI TO a f) (ha:s.heap.get? a=some oa) (hTI:IsPair s.heap TI (.ref i1) (.ref i2))
  (h1:s.heap.IsListIter i1 l1 k) (h2:s.heap.IsListIter i2 l2 k) (hl1:s.heap.IsList l1 xs) (hl2:s.heap.IsList l2 ys) (hx:xs[k]?=some x) (hy:ys[k]?=some y)
  (hQ:∀ h',sY h' z TI TO a true→h'.IsListIter i1 l1 (k + 1)→h'.IsListIter i2 l2 (k + 1)→IsPair h' s.heap.objs.size x y→h'.objs.size = s.heap.objs.size + 1 →
   (∀ c o,c≠z→c≠i1→c≠i2→s.heap.get? c=some o→h'.get? c=some o)→Q (.ref s.heap.objs.size) { s with heap:=h' }) :
  wpAny (model prog w) A (Builtin.«zip.__next__» ⟨[.ref z],[]⟩) (fun fin s'=>∃ v,fin=.done (.ret v)∧Q v s') E s:=by
 show wpAny _ _ (field (.ref z) 2 >>= _) _ _ _
 refine wpAny_bind (wpAny_field hz rfl (x:=.bool false) rfl ?_)
 show wpAny _ _ (field (.ref z) 3 >>= _) _ _ _
 refine wpAny_bind (wpAny_field hz rfl (x:=.ref TI) rfl ?_)
 refine wpAny_bind (wpAny_seqItems hTI rfl ?_)
 show wpAny _ _ (Builtin.SmallTypes.ownedTupleIsFree (.ref z) >>= _) _ _ _
 refine wpAny_bind (uI hz ha fun h₁ hz₁ hs₁=>?_)
 simp only [Bool.false_eq_true,if_false]
 refine wpAny_bind ?_
 rw [← Array.forIn_toList]
 simp only [List.forIn_cons,List.forIn_nil]
 refine wpAny_bind (wpAny_bind (wpAny_holding ?_))
 show wpAny _ _ (Builtin.SmallTypes.nextOf (.ref i1) >>= _) _ _ _
 refine wpAny_bind (wpAny_nextOf_list_item (h1.extBut hs₁.extBut D.i1z) (hl1.extBut hs₁.extBut D.l1z) hx fun h₂ h1₂ hs₂=>wpAny_pure ?_)
 refine wpAny_pure ?_
 refine wpAny_bind (wpAny_bind (wpAny_holding ?_))
 show wpAny _ _ (Builtin.SmallTypes.nextOf (.ref i2) >>= _) _ _ _
 refine wpAny_bind (wpAny_nextOf_list_item ((h2.extBut hs₁.extBut D.i2z).extBut hs₂.extBut D.i12.symm) ((hl2.extBut hs₁.extBut D.l2z).extBut hs₂.extBut D.l2i1) hy fun h₄ h2₄ hs₄=>wpAny_pure ?_)
 refine wpAny_pure (wpAny_pure ?_)
 refine wpAny_bind (wpAny_newTuple ?_ (by show 2≤sizeLine;rw [sizeLine_eq];decide))
 have hsz:h₄.objs.size=s.heap.objs.size:=by rw [hs₄.1,hs₂.1,hs₁.1]
 have up:∀ c o,c≠z→c≠i1→c≠i2→s.heap.get? c=some o→h₄.get? c=some o:=fun c o c1 c3 c4 e=>hs₄.extBut _ _ c4 (hs₂.extBut _ _ c3 (hs₁.extBut _ _ c1 e))
 have hz₄:sY h₄ z TI TO a true:=hs₄.extBut _ _ D.i2z.symm (hs₂.extBut _ _ D.i1z.symm hz₁)
 have h1₄:h₄.IsListIter i1 l1 (k+1):=h1₂.extBut hs₄.extBut D.i12
 refine wpAny_pure ⟨_,rfl,?_⟩
 show Q (.ref h₄.objs.size) _
 rw [hsz]
 refine hQ _ (Heap.get?_push_of_some _ hz₄) (h1₄.at fun o e=>Heap.get?_push_of_some _ e) (h2₄.at fun o e=>Heap.get?_push_of_some _ e) ?_ ?_ fun c o c1 c3 c4 e=>Heap.get?_push_of_some _ (up c o c1 c3 c4 e)
 ·rw [← hsz]
  exact Heap.get?_push_size _ rfl
 ·rw [Heap.size_push,hsz]
theorem Ay{z TI TO i1 i2 l1 l2 a:Addr}{f:Bool}{oa:Obj}{k:Nat}{xs ys:Array Value}{Q:Fin→Shared→Prop}(hh:A.handled=none)(D:ZipApart z TI TO i1 i2 l1 l2)
  (hz:sY s.heap z TI TO a f) (ha:s.heap.get? a=some oa) (hTI:IsPair s.heap TI (.ref i1) (.ref i2))
  (h1:s.heap.IsListIter i1 l1 k) (h2:s.heap.IsListIter i2 l2 k) (hl1:s.heap.IsList l1 xs) (hl2:s.heap.IsList l2 ys) (hend:xs[k]?=none∨ys[k]?=none)
  (hE:∀ h' e,(∀ c o,c≠z→c≠i1→c≠i2→s.heap.get? c=some o→h'.get? c=some o)→(∃ o,h'.get? e=some o∧o.cls=.type "StopIteration")→E (.ref e) { s with heap:=h' }) :
  wpAny (model prog w) A (Builtin.«zip.__next__» ⟨[.ref z],[]⟩) Q E s:=by
 show wpAny _ _ (field (.ref z) 2 >>= _) _ _ _
 refine wpAny_bind (wpAny_field hz rfl (x:=.bool false) rfl ?_)
 show wpAny _ _ (field (.ref z) 3 >>= _) _ _ _
 refine wpAny_bind (wpAny_field hz rfl (x:=.ref TI) rfl ?_)
 refine wpAny_bind (wpAny_seqItems hTI rfl ?_)
 show wpAny _ _ (Builtin.SmallTypes.ownedTupleIsFree (.ref z) >>= _) _ _ _
 refine wpAny_bind (uI hz ha fun h₁ hz₁ hs₁=>?_)
 simp only [Bool.false_eq_true,if_false]
 refine wpAny_bind ?_
 rw [← Array.forIn_toList]
 simp only [List.forIn_cons,List.forIn_nil]
 refine wpAny_bind (wpAny_bind (wpAny_holding ?_))
 show wpAny _ _ (Builtin.SmallTypes.nextOf (.ref i1) >>= _) _ _ _
 cases hx:xs[k]? with
 | none =>
  refine wpAny_bind (wpAny_nextOf_list_end hh (h1.extBut hs₁.extBut D.i1z) (hl1.extBut hs₁.extBut D.l1z) hx fun h₂ e hs₂ he=>?_)
  exact hE h₂ e (fun c o c1 c3 _ x=>hs₂ _ _ c3 (hs₁.extBut _ _ c1 x)) he
 | some x =>
  have hy:ys[k]?=none:=by rcases hend with h | h;rw [hx] at h;cases h;exact h
  refine wpAny_bind (wpAny_nextOf_list_item (h1.extBut hs₁.extBut D.i1z) (hl1.extBut hs₁.extBut D.l1z) hx fun h₂ h1₂ hs₂=>wpAny_pure ?_)
  refine wpAny_pure ?_
  refine wpAny_bind (wpAny_bind (wpAny_holding ?_))
  show wpAny _ _ (Builtin.SmallTypes.nextOf (.ref i2) >>= _) _ _ _
  refine wpAny_bind (wpAny_nextOf_list_end hh ((h2.extBut hs₁.extBut D.i2z).extBut hs₂.extBut D.i12.symm) ((hl2.extBut hs₁.extBut D.l2z).extBut hs₂.extBut D.l2i1) hy fun h₄ e hs₄ he=>?_)
  exact hE h₄ e (fun c o c1 c3 c4 x=>hs₄ _ _ c4 (hs₂.extBut _ _ c3 (hs₁.extBut _ _ c1 x))) he
def EN(h:Heap)(z TI TO S i1 i2:Addr)(i:Nat):Prop :=
 (i=0∧IsZip h z TI TO .none∧∃ a b,IsPair h TO a b)∨∃ a f oa,sY h z TI TO a f∧h.get? a=some oa∧a≠z∧a≠S∧a≠i1∧a≠i2
structure B1(h:Heap)(z TI TO S i1 i2 l1 l2:Addr)(xs ys:Array Value)(i:Nat):Prop where
 zr:EN h z TI TO S i1 i2 i
 ti:IsPair h TI (.ref i1) (.ref i2)
 a1:h.IsListIter i1 l1 i
 a2:h.IsListIter i2 l2 i
 b1:h.IsList l1 xs
 b2:h.IsList l2 ys
theorem B1.keep{h h':Heap}{z TI TO S i1 i2 l1 l2:Addr}{xs ys:Array Value}{i:Nat}(x:B1 h z TI TO S i1 i2 l1 l2 xs ys i)(hk:∀ b o,b≠S→h.get? b=some o→h'.get? b=some o)(n:z≠S∧TI≠S∧TO≠S∧i1≠S∧i2≠S∧l1≠S∧l2≠S):B1 h' z TI TO S i1 i2 l1 l2 xs ys i:=by
 obtain⟨n1,n2,n3,n4,n5,n6,n7⟩:=n
 refine⟨?_,hk _ _ n2 x.ti,x.a1.at fun o e=>hk _ o n4 e,x.a2.at fun o e=>hk _ o n5 e,x.b1.at fun o e=>hk _ o n6 e,x.b2.at fun o e=>hk _ o n7 e⟩
 rcases x.zr with⟨e,hz,a,b,hp⟩ | ⟨a,f,oa,hz,ha,m1,m2,m3,m4⟩
 ·exact .inl ⟨e,hk _ _ n1 hz,a,b,hk _ _ n3 hp⟩
 ·exact .inr ⟨a,f,oa,hk _ _ n1 hz,hk _ _ m2 ha,m1,m2,m3,m4⟩
theorem Cv{z TI TO S i1 i2 l1 l2:Addr}{i:Nat}{xs ys:Array Value}{x y:Value}{Q:Option Value→Shared→Prop}(D:ZipApart z TI TO i1 i2 l1 l2)(st:B1 s.heap z TI TO S i1 i2 l1 l2 xs ys i)(hS:S<s.heap.objs.size)(hx:xs[i]?=some x)(hy:ys[i]?=some y)
  (hQ:∀ h',B1 h' z TI TO S i1 i2 l1 l2 xs ys (i + 1)→IsPair h' s.heap.objs.size x y→h'.objs.size = s.heap.objs.size + 1 →
   (∀ c o,c≠z→c≠TO→c≠i1→c≠i2→s.heap.get? c=some o→h'.get? c=some o)→Q (some (.ref s.heap.objs.size)) { s with heap:=h' }) :
  wpAny (model prog w) A (pyNext (.ref z)) Q E s:=by
 obtain⟨zr,ti,a1,a2,b1,b2⟩:=st
 have lt:∀ {c o},s.heap.get? c=some o→s.heap.objs.size≠c:=fun e=>Nat.ne_of_gt (Heap.lt_size e)
 have li1:s.heap.objs.size≠i1:=by obtain⟨_,e,_⟩:=a1;exact lt e
 have li2:s.heap.objs.size≠i2:=by obtain⟨_,e,_⟩:=a2;exact lt e
 rcases zr with⟨e,hz,a,b,hp⟩ | ⟨a,f,oa,hz,ha,m1,m2,m3,m4⟩
 ·refine wpAny_pyNext_zip_item D hz ti hp a1 a2 b1 b2 hx hy fun h' c1 c2 c3 c4 c5 c6 hk=>?_
  refine hQ h' ⟨.inr ⟨_,false,_,c1,c5,lt hz,Nat.ne_of_gt hS,li1,li2⟩,hk _ _ D.TIz D.TITO D.TIi1 D.TIi2 ti,c3,c4,b1.at fun o e=>hk _ o D.l1z D.l1TO D.l1i1 D.l1i2 e,b2.at fun o e=>hk _ o D.l2z D.l2TO D.l2i1 D.l2i2 e⟩ c5 c6 hk
 ·have hT:s.TypeIs (.ref z) "zip":=⟨_,hz,rfl⟩
  unfold pyNext
  refine wpAny_bind (wpAny_attempt (wpAny_callSpecial?_slot (name:=Str.ofString "__next__") hT F.slot_zip_next
   (wpAny_call_entry F.slot_zip_next hT F.entry_zip_next (yc D hz ha ti a1 a2 b1 b2 hx hy fun h' c1 c3 c4 c5 c6 hk=>wpAny_pure ?_) (F.args_zip_next_1 _))))
  exact hQ h' ⟨.inr ⟨a,true,oa,c1,hk _ _ m1 m3 m4 ha,m1,m2,m3,m4⟩,hk _ _ D.TIz D.TIi1 D.TIi2 ti,c3,c4,b1.at fun o e=>hk _ o D.l1z D.l1i1 D.l1i2 e,b2.at fun o e=>hk _ o D.l2z D.l2i1 D.l2i2 e⟩ c5 c6 fun c o d1 d2 d3 d4 e=>hk c o d1 d3 d4 e
theorem BD{z TI TO S i1 i2 l1 l2:Addr}{i:Nat}{xs ys:Array Value}{Q:Option Value→Shared→Prop}(hh:A.handled=none)(D:ZipApart z TI TO i1 i2 l1 l2)(st:B1 s.heap z TI TO S i1 i2 l1 l2 xs ys i)(hend:xs[i]?=none∨ys[i]?=none)
  (hQ:∀ h',(∀ c o,c≠z→c≠TO→c≠i1→c≠i2→s.heap.get? c=some o→h'.get? c=some o)→Q none { s with heap:=h' }):wpAny (model prog w) A (pyNext (.ref z)) Q E s:=by
 obtain⟨zr,ti,a1,a2,b1,b2⟩:=st
 rcases zr with⟨e,hz,a,b,hp⟩ | ⟨a,f,oa,hz,ha,m1,m2,m3,m4⟩
 ·exact wpAny_pyNext_zip_end hh D hz ti hp a1 a2 b1 b2 hend hQ
 ·have hT:s.TypeIs (.ref z) "zip":=⟨_,hz,rfl⟩
  unfold pyNext
  refine wpAny_bind (wpAny_attempt (wpAny_callSpecial?_slot (name:=Str.ofString "__next__") hT F.slot_zip_next
   (wpAny_call_entry F.slot_zip_next hT F.entry_zip_next (Ay hh D hz ha ti a1 a2 b1 b2 hend fun h' e hk he=>?_) (F.args_zip_next_1 _))))
  obtain⟨o,ho,hc⟩:=he
  refine wpAny_bind (wpAny_isInstance (T:="StopIteration") (b:=true) ⟨o,ho,hc⟩ isSubtype_stop ?_)
  exact wpAny_pure (hQ _ fun c o d1 d2 d3 d4 e=>hk c o d1 d3 d4 e)
end
structure ZG(lo:Addr)(xs ys:Array Value)(h:Heap)(as:List Addr):Prop where
 rise:as.Pairwise (· < ·)
 above:∀ a∈as,lo<a
 pairs:∀ (j:Nat) (a:Addr),as[j]?=some a→∃ x y,xs[j]?=some x∧ys[j]?=some y∧IsPair h a x y
theorem ZG.there{lo:Addr}{xs ys:Array Value}{h:Heap}{as:List Addr}(g:ZG lo xs ys h as){a:Addr}(ha:a∈as):a<h.objs.size:=by
 obtain⟨j,hj⟩:=List.mem_iff_getElem?.mp ha
 obtain⟨_,_,_,_,e⟩:=g.pairs j a hj
 exact Heap.lt_size e
section
variable {prog:Program}{w:World}{A:Around}{s:Shared}{R:Result→Shared→Prop}{xs ys:Array Value}
theorem CB{S z TI TO i1 i2 l1 l2:Addr}(hh:A.handled=none)(D:ZipApart z TI TO i1 i2 l1 l2)(n:z<S∧TI<S∧TO<S∧i1<S∧i2<S∧l1<S∧l2<S)(hn:min xs.size ys.size≤sizeLine)(res:Value){h₁:Heap}
  (hR:∀ h' tk acc c as,(∀ b o,b≠S→b≠z→b≠TO→b≠i1→b≠i2→h₁.get? b = some o→h'.get? b = some o)→h'.get? S = some { cls:=.type "list",dict:=none,data:=.seq acc c,slots:=#[] }→as.length = min xs.size ys.size→ZG S xs ys h' as →
   acc.toList=as.map Value.ref→R (.ok (.ret res)) { s with heap:=h',toks:=tk }) :
  ∀ (k i:Nat) (h:Heap) (tk c:Nat) (acc:Array Value) (as:List Addr),min xs.size ys.size-i=k→i≤min xs.size ys.size→B1 h z TI TO S i1 i2 l1 l2 xs ys i→(∀ b o,b≠S→b≠z→b≠TO→b≠i1→b≠i2→h₁.get? b=some o→h.get? b=some o) →
   h.get? S=some { cls:=.type "list",dict:=none,data:=.seq acc c,slots:=#[] }→acc.toList=as.map Value.ref→as.length=i→ZG S xs ys h as →
   codeAny (model prog w) A (.builtin "list.extend.loop" ⟨[.ref S,.ref z,res],[]⟩) R { s with heap:=h,toks:=tk }:=by
 obtain⟨n1,n2,n3,n4,n5,n6,n7⟩:=n
 intro k
 induction k with
 | zero =>
  intro i h tk c acc as hk hi hst hkeep hS hacc hal hG
  have hin:i=min xs.size ys.size:=by lia
  refine codeAny_builtin PySem.F.entry_extend_loop ?_
  rw [Around.under_plainId PySem.F.plain_extend_loop _]
  show wpAny _ A.in1 (pyNext (.ref z) >>= _) _ _ _
  refine wpAny_bind (BD (s:={ s with heap:=h,toks:=tk }) (A:=A.in1) (S:=S) hh D hst ?_ fun h' he=>?_)
  ·rcases Nat.le_total xs.size ys.size with e | e
   ·exact .inl (Array.getElem?_eq_none (by lia))
   ·exact .inr (Array.getElem?_eq_none (by lia))
  refine wpAny_pure (hR h' tk acc c as (fun b o h1 h2 h3 h4 h5 e=>he b o h2 h3 h4 h5 (hkeep b o h1 h2 h3 h4 h5 e)) (he S _ (Nat.ne_of_gt n1) (Nat.ne_of_gt n3) (Nat.ne_of_gt n4) (Nat.ne_of_gt n5) hS) (by lia) ⟨hG.rise,hG.above,fun j a hj=>?_⟩ hacc)
  obtain⟨x,y,e1,e2,e3⟩:=hG.pairs j a hj
  have hb:=hG.above a (List.mem_of_getElem? hj)
  exact⟨x,y,e1,e2,he a _ (Nat.ne_of_gt (Nat.lt_trans n1 hb)) (Nat.ne_of_gt (Nat.lt_trans n3 hb)) (Nat.ne_of_gt (Nat.lt_trans n4 hb)) (Nat.ne_of_gt (Nat.lt_trans n5 hb)) e3⟩
 | succ k ih =>
  intro i h tk c acc as hk hi hst hkeep hS hacc hal hG
  have hlt:i<min xs.size ys.size:=by lia
  have hx:xs[i]?=some xs[i]:=Array.getElem?_eq_getElem (by lia)
  have hy:ys[i]?=some ys[i]:=Array.getElem?_eq_getElem (by lia)
  have hsz:acc.size=i:=by rw [← Array.length_toList,hacc,List.length_map,hal]
  have hSl:S<h.objs.size:=Heap.lt_size hS
  refine codeAny_builtin PySem.F.entry_extend_loop ?_
  rw [Around.under_plainId PySem.F.plain_extend_loop _]
  show wpAny _ A.in1 (pyNext (.ref z) >>= _) _ _ _
  refine wpAny_bind (Cv (s:={ s with heap:=h,toks:=tk }) (S:=S) D hst hSl hx hy fun h' hst' ht hz hkp=>?_)
  dsimp only at ht hz hkp ⊢
  have hS':=hkp S _ (Nat.ne_of_gt n1) (Nat.ne_of_gt n3) (Nat.ne_of_gt n4) (Nat.ne_of_gt n5) hS
  have up:∀ b o,b≠S→h'.get? b=some o→(h'.update S (Obj.mapSeq (·.push (Value.ref h.objs.size)))).get? b=some o:=fun b o hb e=>(Heap.get?_update_other _ _ (Ne.symm hb)).trans e
  show wpAny _ A.in1 (updateSeq S (·.push (Value.ref h.objs.size)) >>= _) _ _ _
  refine wpAny_bind ?_
  refine wpAny_updateSeq hS' rfl (wpAny_pure ⟨plainId_quiet PySem.F.plain_extend_loop _,ih (i+1) _ tk _ (acc.push (Value.ref h.objs.size)) (as++[h.objs.size]) (by lia) hlt (hst'.keep up ⟨Nat.ne_of_lt n1,Nat.ne_of_lt n2,Nat.ne_of_lt n3,Nat.ne_of_lt n4,Nat.ne_of_lt n5,Nat.ne_of_lt n6,Nat.ne_of_lt n7⟩)
   (fun b o h1 h2 h3 h4 h5 e=>up b o h1 (hkp b o h2 h3 h4 h5 (hkeep b o h1 h2 h3 h4 h5 e))) (Heap.get?_update_self _ hS' rfl) (by rw [Array.toList_push,hacc,List.map_append];rfl) (by rw [List.length_append,hal];rfl) ⟨?_,?_,?_⟩⟩) (by rw [hsz];lia) (by show(acc.push (Value.ref h.objs.size)).size≤sizeLine+1;rw [Array.size_push,hsz];lia)
  ·refine List.pairwise_append.mpr ⟨hG.rise,List.pairwise_singleton _ _,fun a ha b hb=>?_⟩
   rw [List.mem_singleton.mp hb]
   exact hG.there ha
  ·intro a ha
   rcases List.mem_append.mp ha with ha | ha
   ·exact hG.above a ha
   ·rw [List.mem_singleton.mp ha];exact hSl
  ·intro j b hj
   rcases Nat.lt_trichotomy j as.length with h1 | h1 | h1
   ·rw [List.getElem?_append_left h1] at hj
    obtain⟨x',y',e1,e2,e3⟩:=hG.pairs j b hj
    have hb:=hG.above b (List.mem_of_getElem? hj)
    exact⟨x',y',e1,e2,up b _ (Nat.ne_of_gt hb) (hkp b _ (Nat.ne_of_gt (Nat.lt_trans n1 hb)) (Nat.ne_of_gt (Nat.lt_trans n3 hb)) (Nat.ne_of_gt (Nat.lt_trans n4 hb)) (Nat.ne_of_gt (Nat.lt_trans n5 hb)) e3)⟩
   ·subst h1
    have hb:h.objs.size=b:=by simpa using hj
    subst hb
    exact⟨_,_,by rw [hal];exact hx,by rw [hal];exact hy,up _ _ (Nat.ne_of_gt hSl) ht⟩
   ·have hnone:(as++[h.objs.size])[j]?=none:=List.getElem?_eq_none (by rw [List.length_append,List.length_singleton];lia)
    rw [hnone] at hj;cases hj
end
theorem Aa:typeLookup (.type "zip") "__len__"=pure none:=by rw [typeLookup_type,builtinLookup_eq_fast];kernel_rfl
theorem yr:typeLookup (.type "zip") "__length_hint__"=pure none:=by rw [typeLookup_type,builtinLookup_eq_fast];kernel_rfl
section
variable {prog:Program}{w:World}{A:Around}{E:Value→Shared→Prop}{s:Shared}
theorem xl{r:Addr}{Q:Bool→Shared→Prop}(hT:s.TypeIs (.ref r) "zip")(h:Q true s):wpAny (model prog w) A (Builtin.List.listLengthHint (.ref r)) Q E s:=by
 unfold Builtin.List.listLengthHint
 refine wpAny_bind (wpAny_specialOf hT Aa ?_)
 show wpAny _ A (specialOf (Value.ref r) (Str.ofString "__length_hint__") >>= _) _ _ _
 refine wpAny_bind (wpAny_specialOf hT yr ?_)
 exact wpAny_pure h
theorem nI{z TI TO i1 i2 l1 l2:Addr}{xs ys:Array Value}{Q:Value→Shared→Prop}(hh:A.handled=none)(D:ZipApart z TI TO i1 i2 l1 l2)(hz:IsZip s.heap z TI TO .none)(hTI:IsPair s.heap TI (.ref i1) (.ref i2))(hTO:∃ a b,IsPair s.heap TO a b)
  (a1:s.heap.IsListIter i1 l1 0) (a2:s.heap.IsListIter i2 l2 0) (b1:s.heap.IsList l1 xs) (b2:s.heap.IsList l2 ys) (hn:min xs.size ys.size≤sizeLine)
  (hQ:∀ h' tk acc c as,(∀ b o,b≠z→b≠TO→b≠i1→b≠i2→s.heap.get? b = some o→h'.get? b = some o)→h'.get? s.heap.objs.size = some { cls:=.type "list",dict:=none,data:=.seq acc c,slots:=#[] }→as.length = min xs.size ys.size→ZG s.heap.objs.size xs ys h' as →
   acc.toList=as.map Value.ref→Q (.ref s.heap.objs.size) { s with heap:=h',toks:=tk }) :
  wpAny (model prog w) A (call (.type "list") [.ref z]) Q E s:=by
 refine callType_codes (Q₁:=fun obj s₁=>obj=.ref s.heap.objs.size∧s₁={ s with heap:=s.heap.push { cls:=.type "list",data:=.seq #[] } }) PySem.F.called_list (PySem.F.typeCall_list_1 _) PySem.F.entry_list_init
  (code_list_new _ ⟨rfl,rfl⟩) fun obj s₁ h₁=>?_
 obtain⟨rfl,rfl⟩:=h₁
 have hS:(s.heap.push { cls:=.type "list",data:=.seq #[] }).get? s.heap.objs.size=some { cls:=.type "list",data:=.seq #[] }:=Heap.get?_push_size _ rfl
 obtain⟨ta,tb,hTO⟩:=hTO
 have lz:z<s.heap.objs.size:=Heap.lt_size hz
 have lTI:TI<s.heap.objs.size:=Heap.lt_size hTI
 have lTO:TO<s.heap.objs.size:=Heap.lt_size hTO
 have li1:i1<s.heap.objs.size:=let ⟨_,y,_⟩:=a1;Heap.lt_size y
 have li2:i2<s.heap.objs.size:=let ⟨_,y,_⟩:=a2;Heap.lt_size y
 have ll1:l1<s.heap.objs.size:=let ⟨_,y,_⟩:=b1;Heap.lt_size y
 have ll2:l2<s.heap.objs.size:=let ⟨_,y,_⟩:=b2;Heap.lt_size y
 refine⟨⟨_,hS,rfl⟩,PySem.F.args_list_init_2 _ _,?_⟩
 show wpAny _ _ (do let old ← Builtin.List.listItems (.ref s.heap.objs.size);Builtin.List.listUpdate (.ref s.heap.objs.size) (fun _=>#[]);letGo old.toList.reverse;Builtin.List.listExtendWith (.ref s.heap.objs.size) (.ref z) .none) _ _ _
 refine wpAny_bind ?_
 unfold Builtin.List.listItems
 refine wpAny_bind (wpAny_seqItems hS rfl (wpAny_pure ?_))
 show wpAny _ _ (updateSeq s.heap.objs.size (fun _=>#[]) >>= fun _=>letGo (#[]:Array Value).toList.reverse >>= fun _=>Builtin.List.listExtendWith (.ref s.heap.objs.size) (.ref z) .none) _ _ _
 refine wpAny_bind (wpAny_updateSeq hS rfl ?_)
 have hS₂:=Heap.get?_update_self (Obj.mapSeq (fun _=>(#[]:Array Value))) hS rfl
 have up:∀ b o,s.heap.get? b=some o→((s.heap.push { cls:=.type "list",data:=.seq #[] }).update s.heap.objs.size (Obj.mapSeq (fun _=>(#[]:Array Value)))).get? b=some o:=fun b o e =>
  (Heap.get?_update_other _ _ (Nat.ne_of_gt (Heap.lt_size e))).trans (Heap.get?_push_of_some _ e)
 refine wpAny_bind (wpAny_letGo ?_)
 generalize ((s.heap.push { cls:=.type "list",data:=.seq #[] }).update s.heap.objs.size (Obj.mapSeq (fun _=>(#[]:Array Value))))=h₂ at hS₂ up ⊢
 have hz₂:=up _ _ hz
 have hT:Shared.TypeIs { s with heap:=h₂ } (.ref z) "zip":=⟨_,hz₂,rfl⟩
 unfold Builtin.List.listExtendWith
 refine wpAny_bind (wpAny_typeOf (T:="zip") hT ?_)
 have g1:Builtin.List.listSameRef (.ref s.heap.objs.size) (.ref z)=false:=by simp [Builtin.List.listSameRef,Nat.ne_of_gt lz]
 have g2:(Value.type "zip" == Value.type "list")=false:=by decide
 have g3:(Value.type "zip" == Value.type "tuple")=false:=by decide
 simp only [g1,g2,g3,Bool.or_false,Bool.false_eq_true,if_false]
 refine wpAny_bind (wpAny_pyIter_zip hz₂ ?_)
 refine wpAny_bind (wpAny_holding (xl hT ?_))
 refine wpAny_ite_split (fun _=>?_) (fun z=>absurd rfl z)
 refine wpAny_bind (wpAny_rule ?_)
 refine wpAny_bind ?_
 show wpAny _ _ (updateSeq s.heap.objs.size (·.push .none) >>= fun _=>updateSeq s.heap.objs.size (·.pop)) _ _ _
 refine wpAny_bind (wpAny_updateSeq hS₂ rfl ?_)
 have hS₃:=Heap.get?_update_self (Obj.mapSeq (·.push Value.none)) hS₂ rfl
 refine wpAny_updateSeq (hz:=by seq_fits) hS₃ rfl ?_
 have hS₄:=Heap.get?_update_self (Obj.mapSeq (·.pop)) hS₃ rfl
 have up2:∀ b o,b≠s.heap.objs.size→h₂.get? b=some o→((h₂.update s.heap.objs.size (Obj.mapSeq (·.push Value.none))).update s.heap.objs.size (Obj.mapSeq (·.pop))).get? b=some o:=fun b o hb e =>
  (Heap.get?_update_other _ _ (Ne.symm hb)).trans ((Heap.get?_update_other _ _ (Ne.symm hb)).trans e)
 have up3:∀ b o,s.heap.get? b=some o→((h₂.update s.heap.objs.size (Obj.mapSeq (·.push Value.none))).update s.heap.objs.size (Obj.mapSeq (·.pop))).get? b=some o:=fun b o e=>up2 b o (Nat.ne_of_lt (Heap.lt_size e)) (up b o e)
 refine wpAny_pure ⟨plainId_quiet PySem.F.plain_extend_loop _,?_⟩
 refine CB (A:=A.in1) (s:=s) (h₁:=s.heap) (xs:=xs) (ys:=ys) hh D ⟨lz,lTI,lTO,li1,li2,ll1,ll2⟩ hn .none (fun h' tk acc c as hk hS' hl hG hacc=>?_) _ 0 _ _ _ #[] [] (Nat.sub_zero _) (Nat.zero_le _)
  ⟨.inl ⟨rfl,up3 _ _ hz,ta,tb,up3 _ _ hTO⟩,up3 _ _ hTI,a1.at fun o e=>up3 _ o e,a2.at fun o e=>up3 _ o e,b1.at fun o e=>up3 _ o e,b2.at fun o e=>up3 _ o e⟩ (fun b o _ _ _ _ _ e=>up3 b o e) hS₄ rfl rfl ⟨List.Pairwise.nil,(fun _ ha=>nomatch ha),(fun j a hj=>by simp at hj)⟩
 exact⟨rfl,hQ h' tk acc c as (fun b o h1 h2 h3 h4 e=>hk b o (Nat.ne_of_lt (Heap.lt_size e)) h1 h2 h3 h4 e) hS' hl hG hacc⟩
end
end UfZip
end
section
namespace L2
open PySem PySem.Spec PyProof.Rows UfSrt
section
variable {X:Cx}{pins:List (Addr × Obj)}{σ:St}{H:Hp}{s:Shared}
theorem Inv.zg{H':Hp}{h':Heap}{t':Nat}(I:Inv X pins σ H s)(k:∀ b u,s.heap.get? b=some u→h'.get? b=some u)(sm:ao H H')(new:∀ b o,H' b=some o→H b=some o∨(s.heap.objs.size≤b∧bO X.prog X.w H' h' b o)) :
  Inv X pins σ H' { s with heap:=h',toks:=t' }:=by
 have u:Un X.fs [] H H' s.heap h':=by
  refine⟨fun b ob q _ _ _=>k b ob q,fun b ob q _ _ _=>⟨ob.slots,k b ob q⟩,fun b ob q n _=>?_,fun b ob q _=>⟨ob,k b ob q⟩,fun b xs q=>sm _ _ q,fun b ob v q=>sm _ _ q,fun b ps q=>⟨#[],?_⟩⟩
  ·cases e:H' b with
   | none=>rfl
   | some o =>
    rcases new b o e with z | ⟨z,_⟩
    ·rw [n] at z;cases z
    ·exact absurd (Heap.lt_size q) (Nat.not_lt.mpr z)
  ·rw [sm _ _ q];simp
 refine I.un (h':=h') (t':=t') u fun b v e=>?_
 rcases new b v e with z | ⟨_,z⟩
 ·exact(I.hok b v z).iy (fun c v _ q=>k c v q) (fun c q=>sm _ _ q) fun c xs q=>sm _ _ q
 ·exact z
theorem boot_zip:bootBuiltins "zip"=some (.type "zip"):=by decide +kernel
def qG(H:Hp)(l:Addr)(L:HO)(as:List Addr)(ps:List (List V)):Hp:=fun b=>if b=l then some L else match (as.zip ps).lookup b with
 | some p=>some (.tup p)
 | none=>H b
theorem lI:∀ {as:List Addr} {ps:List (List V)} {j:Nat} {a:Addr} {p:List V},as.Nodup→as[j]?=some a→ps[j]?=some p→(as.zip ps).lookup a=some p
 | [],_,_,_,_,_,e,_=>by simp at e
 | _::_,[],_,_,_,_,_,e=>by simp at e
 | b::as,q::ps,0,a,p,_,e1,e2=>by
  have e1:b=a:=by simpa using e1
  have e2:q=p:=by simpa using e2
  subst e1 e2
  simp [List.lookup]
 | b::as,q::ps,j+1,a,p,hn,e1,e2=>by
  have e1:as[j]?=some a:=by simpa using e1
  have e2:ps[j]?=some p:=by simpa using e2
  obtain⟨n1,n2⟩:=List.nodup_cons.mp hn
  have ne:(a==b)=false:=by
   rw [beq_eq_false_iff_ne]
   rintro rfl
   exact n1 (List.mem_of_getElem? e1)
  rw [List.zip_cons_cons,List.lookup_cons,ne]
  exact lI n2 e1 e2
theorem lookup_none:∀ {as:List Addr} {ps:List (List V)} {a:Addr},a∉as→(as.zip ps).lookup a=none
 | [],_,_,_=>rfl
 | _::_,[],_,_=>by simp
 | b::as,q::ps,a,hn=>by
  have ne:(a==b)=false:=by
   rw [beq_eq_false_iff_ne]
   rintro rfl
   exact hn List.mem_cons_self
  rw [List.zip_cons_cons,List.lookup_cons,ne]
  exact lookup_none fun z=>hn (List.mem_cons_of_mem _ z)
def xF(K:PySem.W.Frag)(t:TA):TE:=fun σ H Q=>t σ H fun vs H1=>∃ l m xs ys,vs=[.ref l,.ref m]∧aI K H1 l xs∧aI K H1 m ys ∧
 ∀ H2 q (as:List Addr),ao H1 H2→H1 q=none→H2 q=some (.lst (as.map V.ref))→as.length=min xs.length ys.length→(∀ (j:Nat) a,as[j]?=some a→∃ x y,xs[j]?=some x∧ys[j]?=some y∧H2 a=some (.tup [x,y]))→Q (.ref q) H2
theorem tP{a b:Expr}{t:TA}{p1 p2 pos pos2:Pos}(hc:X.calm=true)(hg:Gl X "list")(hm:X.mg "list"=none)(hb:bootBuiltins "list"=some (.type "list"))(hg2:Gl X "zip")(hm2:X.mg "zip"=none)(ha:PA X [a,b] t)
  (he:starEach [.Call (.Name "zip" p2) [a,b] [] pos2] X.env=[(false,eval (.Call (.Name "zip" p2) [a,b] [] pos2) X.env)]:=by rfl) (hs:starEach [a,b] X.env=[(false,eval a X.env),(false,eval b X.env)]:=by rfl) (hs2:starEach [b] X.env=[(false,eval b X.env)]:=by rfl) :
  PE X (.Call (.Name "list" p1) [.Call (.Name "zip" p2) [a,b] [] pos2] [] pos) (xF X.K t):=by
 intro pins s σ H Q I h
 refine wpAny_Call_Name_kw (eE I hg hm hb ?_)
 refine PyProof.Rows.callWith_type1 ?_ he rfl
 rw [he]
 refine Calls.spliced_cons ?_
 refine wpAny_Call_Name_kw (eE I hg2 hm2 boot_zip ?_)
 refine PyProof.Rows.callWith_type1 (cc (ha pos2 pins s σ H _ I h) fun us s1 ⟨vs,H1,I1,r1,l,m,xs,ys,ev,hl,hy,q⟩=>?_) (by rw [hs,hs2]) (by rw [hs2];rfl)
 subst ev
 cases r1 with
 | cons r rr =>
  cases rr with
  | cons r' rr =>
   cases rr
   cases r
   cases r'
   obtain⟨its,rv,pl,hz⟩:=I1.list hl
   obtain⟨its2,rv2,pl2,hz2⟩:=I1.list hy
   have e1:=rv.length
   have e2:=rv2.length
   have ll:l<s1.heap.objs.size:=let ⟨_,y,_⟩:=pl.isList;Heap.lt_size y
   have lm:m<s1.heap.objs.size:=let ⟨_,y,_⟩:=pl2.isList;Heap.lt_size y
   refine call_zip_2 pl.isList pl2.isList fun h' a1 a2 a3 a4 a5 a6 hk=>?_
   refine Calls.spliced_nil ?_
   refine UfZip.nI (s:={ s1 with heap:=h' }) (I.ok.hd hc) (zipApart_new ll lm) a1 a2 ⟨_,_,a3⟩ a4 a5 (pl.isList.at fun o e=>hk _ _ e) (pl2.isList.at fun o e=>hk _ _ e) (by rw [List.size_toArray,List.size_toArray];lia) fun h2 tk acc c as kp hS hal hG hacc=>?_
   dsimp only at kp hS hG ⊢
   have kk:∀ b o,s1.heap.get? b=some o→h2.get? b=some o:=fun b o e=>by
    have lt:=Heap.lt_size e
    exact kp b o (Nat.ne_of_lt (Nat.lt_of_lt_of_le lt (Nat.le_add_right _ _))) (Nat.ne_of_lt (Nat.lt_of_lt_of_le lt (Nat.le_add_right _ _))) (Nat.ne_of_lt lt) (Nat.ne_of_lt (Nat.lt_of_lt_of_le lt (Nat.le_add_right _ _))) (hk b o e)
   have hsz:s1.heap.objs.size≤h'.objs.size:=by lia
   rw [List.size_toArray,List.size_toArray,← e1,← e2] at hal
   have nd:as.Nodup:=hG.rise.imp fun h=>Nat.ne_of_lt h
   have hfr:∀ a∈as,s1.heap.objs.size≤a:=fun a ha=>Nat.le_of_lt (Nat.lt_of_le_of_lt hsz (hG.above a ha))
   have nal:∀ a∈as,a≠h'.objs.size:=fun a ha=>Nat.ne_of_gt (hG.above a ha)
   let ps:List (List V):=List.zipWith (fun x y=>[x,y]) xs ys
   have lps:ps.length=as.length:=by show(List.zipWith _ xs ys).length=_;rw [List.length_zipWith];lia
   have at':∀ (j:Nat) a,as[j]?=some a→∃ x y,xs[j]?=some x∧ys[j]?=some y∧qG H1 h'.objs.size (.lst (as.map V.ref)) as ps a=some (.tup [x,y]):=fun j a hj=>by
    have jl:=(List.getElem?_eq_some_iff.mp hj).1
    have hx:xs[j]?=some xs[j]:=List.getElem?_eq_getElem (by lia)
    have hy':ys[j]?=some ys[j]:=List.getElem?_eq_getElem (by lia)
    refine⟨_,_,hx,hy',?_⟩
    unfold qG
    rw [if_neg (nal a (List.mem_of_getElem? hj)),lI nd hj (p:=[xs[j],ys[j]]) (by show(List.zipWith _ xs ys)[j]?=_;rw [List.getElem?_zipWith,hx,hy'])]
   have fresh:∀ b,s1.heap.objs.size≤b→H1 b=none:=fun b hb=>I1.hok.fresh hb
   have sm:ao H1 (qG H1 h'.objs.size (.lst (as.map V.ref)) as ps):=fun b o e=>by
    have n1:b≠h'.objs.size:=fun z=>by rw [z,fresh _ hsz] at e;cases e
    have n2:b∉as:=fun z=>by rw [fresh _ (hfr b z)] at e;cases e
    unfold qG
    rw [if_neg n1,lookup_none n2]
    exact e
   have hql:qG H1 h'.objs.size (.lst (as.map V.ref)) as ps h'.objs.size=some (.lst (as.map V.ref)):=by unfold qG;rw [if_pos rfl]
   refine⟨.ref h'.objs.size,qG H1 h'.objs.size (.lst (as.map V.ref)) as ps,I1.zg (h':=h2) (t':=tk) kk sm (fun b o e=>?_),rfl,q _ _ as sm (fresh _ hsz) hql hal at'⟩
   by_cases hb:b=h'.objs.size
   ·subst hb
    rw [hql] at e
    cases e
    refine .inr ⟨hsz,by rw [List.length_map];lia,as.map Value.ref,c,?_,?_⟩
    ·clear q at' hal hG hacc hql sm nd hfr nal lps
     induction as with
     | nil=>exact .nil
     | cons a as ih=>exact .cons rfl ih
    ·rw [hS,← hacc]
   ·by_cases hm':b∈as
    ·obtain⟨j,hj⟩:=List.mem_iff_getElem?.mp hm'
     obtain⟨x,y,hx,hy',e3⟩:=at' j b hj
     rw [e3] at e
     cases e
     obtain⟨u,v,hu,hv,hp⟩:=hG.pairs j b hj
     obtain⟨u',hu',ru⟩:=rv.get hx
     obtain⟨v',hv',rv'⟩:=rv2.get hy'
     have eu:u'=u:=by
      have hu:its[j]?=some u:=by simpa using hu
      rw [hu'] at hu
      exact Option.some.inj hu
     have ev:v'=v:=by
      have hv:its2[j]?=some v:=by simpa using hv
      rw [hv'] at hv
      exact Option.some.inj hv
     subst eu ev
     exact .inr ⟨hfr b hm',by show 2≤sizeLine;rw [sizeLine_eq];decide,[u',v'],.cons ru (.cons rv' .nil),_,hp,rfl,_,rfl⟩
    ·unfold qG at e
     rw [if_neg hb,lookup_none hm'] at e
     exact .inl e
def yk(t:TA):TE:=fun σ H Q=>t σ H fun vs H1=>∃ n:Nat,vs=[.int n]∧n≤1000∧∀ q,H1 q=none→Q (.ref q) (upd H1 q (.lst ((List.range n).map fun i=>V.int (i:Nat))))
theorem oV:∀ {us:List Value} {n k:Nat},us.length=n→(∀ (j:Nat) v,us[j]?=some v→∃ t,v=Value.int ((k+j:Nat):Int) t)→Vals ((List.range' k n).map fun i=>V.int (i:Nat)) us
 | [],n,k,hl,_=>by
  have:n=0:=by simpa using hl.symm
  subst this
  exact .nil
 | u::us,n,k,hl,h=>by
  obtain⟨n,rfl⟩:∃ m,n=m+1:=⟨us.length,by simpa using hl.symm⟩
  obtain⟨t,e⟩:=h 0 u rfl
  rw [List.range'_succ,List.map_cons]
  refine .cons ⟨t,by rw [e];rfl⟩ (oV (by simpa using hl) fun j v hj=>?_)
  obtain⟨t',e'⟩:=h (j+1) v (by simpa using hj)
  exact⟨t',by rw [e'];congr 2;lia⟩
theorem ub{a:Expr}{t:TA}{p1 p2 pos pos2:Pos}(hc:X.calm=true)(hg:Gl X "list")(hm:X.mg "list"=none)(hb:bootBuiltins "list"=some (.type "list"))(hg2:Gl X "range")(hm2:X.mg "range"=none)(ha:PA X [a] t)
  (he:starEach [.Call (.Name "range" p2) [a] [] pos2] X.env=[(false,eval (.Call (.Name "range" p2) [a] [] pos2) X.env)]:=by rfl) (he2:starEach [a] X.env=[(false,eval a X.env)]:=by rfl) :
  PE X (.Call (.Name "list" p1) [.Call (.Name "range" p2) [a] [] pos2] [] pos) (yk t):=by
 intro pins s σ H Q I h
 refine wpAny_Call_Name_kw (eE I hg hm hb ?_)
 refine PyProof.Rows.callWith_type1 ?_ he rfl
 rw [he]
 refine Calls.spliced_cons ?_
 refine wpAny_Call_Name_kw (eE I hg2 hm2 boot_range ?_)
 refine PyProof.Rows.callWith_type1 (cc (ha pos2 pins s σ H _ I h) fun us s1 ⟨vs,H1,I1,r1,n,ev,hn,q⟩=>?_) he2 rfl
 subst ev
 obtain⟨u,rfl,ru⟩:=vals1 r1
 obtain⟨t,rfl⟩:=ru
 refine call_range_1 ?_
 refine Calls.spliced_nil ?_
 refine call_list_range (n:=n) (I.ok.hd hc) (IsRange.new ..) (small_one (by lia) (by lia) (by lia) (by lia)) (by rw [rangeSize_one];split <;> lia) (by lia) fun h' tk acc c kp hS hacc=>?_
 refine⟨.ref _,upd H1 _ (.lst ((List.range n).map fun i=>V.int (i:Nat))),I1.laid (t':=tk) (fun b o e=>kp b o (Heap.get?_push_of_some _ e)) (by rw [Heap.size_push];exact Nat.le_succ _) ⟨by rw [List.length_map,List.length_range,sizeLine_eq];lia,acc.toList,c,?_,?_⟩,rfl,q _ (I1.hok.fresh (by rw [Heap.size_push];exact Nat.le_succ _))⟩
 ·have:=oV (us:=acc.toList) (n:=n) (k:=0) (by rw [Array.length_toList];exact hacc.1) fun j v e=>by
   obtain⟨t,e'⟩:=hacc.2 j v (by rw [← Array.getElem?_toList];exact e)
   exact⟨t,by rw [e'];congr 1;lia⟩
  rwa [← List.range_eq_range'] at this
 ·rw [hS]
end
end L2
end
section
namespace Uf
open PySem L2 UfSrt UfFin
abbrev fJ:Stmt:=top 36
abbrev kr:Stmt:=top 37
abbrev hZ:Stmt:=top 38
abbrev mY:Stmt:=top 39
structure Au(mg:Str→Option Value):Prop where
 zip:mg "zip"=none
 min:mg "min"=none
theorem CV:bootBuiltins "min"=some (.builtin "min"):=by decide +kernel
theorem ints_get{cs:List Int}{i:Nat}{v:V}(h:(cs.map V.int)[i]?=some v):∃ c,cs[i]?=some c∧v=.int c:=by
 rw [List.getElem?_map] at h
 cases e:cs[i]? with
 | none=>rw [e] at h;cases h
 | some x=>rw [e] at h;exact⟨x,rfl,(Option.some.inj h).symm⟩
theorem BQ{n:Nat}{i:Int}(h0:0≤i)(h1:i<n):xf n i=some i.toNat:=by unfold xf;rw [if_pos h0,if_pos h1]
theorem pK{α β:Type}(f:α→β)(xs:List α)(j:Nat)(x:α):(xs.map f).set j (f x)=(xs.set j x).map f:=by rw [List.map_set]
section
variable {P:Program}{w:World}{K:PySem.W.Frag}{mg:Str→Option Value}{base:Heap}
def rW(K:PySem.W.Frag):Sp:=fun vs H Q _=>∃ (a:Addr) (cs:List Int) (n:Nat),vs=[.ref a,.int n]∧aI K H a (cs.map V.int)∧n≤8∧(n=0→cs=[])∧∀ H' q (zs:List Int),ao H H'→H q=none→H' q=some (.lst (zs.map V.int))→zs.length=n→Q (.ref q) H'
theorem jB:aU ["_law_cells", "_law_many", "_law_found", "_law_k", "_law_cell"] ["_law_cells", "_law_many"] (ai fJ):=⟨rfl,rfl,rfl,by decide +kernel,rfl,by decide +kernel,by decide +kernel⟩
inductive Fe(H:Hp)(a r:Addr)(n:Nat)(i:Nat)(σ:St)(H2:Hp):Prop
 | mk (v3 v4:Option V) (zs:List Int) (q0:σ=[some (.ref a),some (.int n),some (.ref r),v3,v4]) (q1:ao H H2) (q2:H2 r=some (.lst (zs.map V.int))) (q3:zs.length=n)
theorem Fe.same{H:Hp}{a r:Addr}{n i:Nat}{σ:St}{H2:Hp}(h:Fe H a r n i σ H2):ao H H2:=by
 cases h
 assumption
theorem wz{f:Addr}{fd:FuncData}(F:dW K "_law_folded" "_law_folded" fJ f fd)(T:Txt K mg)(T2:Txt2 mg):aH P w K mg base bX 1 f fd ["_law_cells", "_law_many"] (rW K):=by
 refine F.ok jB (fun vs H Q E h=>?_) (fun cdv A outer s H vs Q E hr h=>?_)
 ·obtain⟨a,cs,n,rfl,_⟩:=h
  rfl
 ·obtain⟨a,cs,n,rfl,ha,hn,h0,kk⟩:=h
  have hsl:=PySem.sizeLine_eq
  refine⟨_,aj (aN (i:=2) jB.nd rfl (Or.inl rfl) (ub rfl rfl T.lst cY rfl T2.rng (aa (pv 1) ag)))
   (aj (dA PassesOwn.never rfl (kW rfl T2.enm (aa (pv 0) ag)) (eB rfl (bh (aA (i:=3) jB.nd rfl (Or.inl rfl)) (bh (aA (i:=4) jB.nd rfl (Or.inl rfl)) dE)))
    (au (uh (aB bF (aB di (aB eW (aO aV (pv 2) (aB bF (pv 3) (pv 1)) (fun _ _=>rfl)) ak) (pv 4)) ak) (B4 (pv 2) (aB bF (pv 3) (pv 1)) set_list))))
   (au (aK (pv 2)))),?_⟩
  refine⟨_,rfl,n,rfl,by lia,fun r nr=>?_⟩
  have e0:((List.range n).map fun i=>V.int (i:Nat))=((List.range n).map fun i=>((i:Nat):Int)).map V.int:=by rw [List.map_map];rfl
  rw [e0]
  have sr:ao H (upd H r (.lst (((List.range n).map fun i=>((i:Nat):Int)).map V.int))):=af nr
  refine⟨_,rfl,a,rfl,⟨_,sr.seq ha⟩,jm (K:=K) (a:=a) (xs:=cs.map V.int) (Fe H a r n)
   ⟨none,none,_,rfl,sr,ae,by rw [List.length_map,List.length_range]⟩ (fun i σ H2 _ h=>h.same.seq ha) ?_ ?_⟩
  ·rintro i v p σ H2 hi ⟨v3,v4,zs,rfl,sm,hr2,hzl⟩ np
   obtain⟨c,hc,rfl⟩:=ints_get hi
   have n0:0<n:=by
    rcases Nat.eq_zero_or_pos n with z | z
    ·rw [h0 z] at hc;simp at hc
    ·exact z
   have sp:ao H2 (upd H2 p (.tup [.int (i:Int),.int c])):=af np
   refine⟨p,_,rfl,cg.of ae,rfl,_,_,rfl,_,_,rfl,rfl,?_⟩
   have smp:=sm.trans sp
   have hrp:=sp _ _ hr2
   generalize upd H2 p (.tup [.int (i:Int),.int c])=H3 at sp smp hrp ⊢
   have i0:0≤(i:Int) % (n:Int):=Int.emod_nonneg _ (by lia)
   have i1:(i:Int) % (n:Int)<(n:Int):=Int.emod_lt_of_pos _ (by lia)
   refine⟨_,rfl,_,rfl,_,rfl,_,_,rfl,rfl,(by lia),r,_,_,_,rfl,rfl,aI.of hrp,ef i0 (by lia),_,_,rfl,rfl,.inr ⟨by decide,by decide⟩,_,rfl,_,_,rfl,rfl,_,_,rfl,rfl,(by show(0:Int)<2147483647;decide),?_⟩
   refine⟨_,rfl,_,rfl,_,rfl,_,_,rfl,rfl,(by lia),r,_,_,_,rfl,rfl,hrp,BQ i0 (by rw [List.length_map];lia),?_⟩
   rw [pK]
   exact⟨_,_,_,rfl,aD smp nr,ae,by rw [List.length_set];exact hzl⟩
  ·rintro σ H2 ⟨v3,v4,zs,rfl,sm,hr2,hzl⟩
   exact⟨_,rfl,kk H2 r zs sm nr hr2 hzl⟩
def uW:Sp:=fun vs H Q _=>∃ (c:Int) (k:Nat),vs=[.int c,.int k]∧k≤1000∧∀ z,Q (.int z) H
theorem p9:aU ["_law_cell", "_law_k", "_law_number"] ["_law_cell", "_law_k"] (ai hZ):=⟨rfl,rfl,rfl,by decide +kernel,rfl,by decide +kernel,by decide +kernel⟩
theorem y9{f:Addr}{fd:FuncData}(F:dW K "_law_mixed" "_law_mixed" hZ f fd):aH P w K mg base bX 1 f fd ["_law_cell", "_law_k"] uW:=by
 refine F.ok p9 (fun vs H Q E h=>?_) (fun cdv A outer s H vs Q E hr h=>?_)
 ·obtain⟨c,k,rfl,_⟩:=h
  rfl
 ·obtain⟨c,k,rfl,hk,kk⟩:=h
  refine⟨_,aj (aN (i:=2) p9.nd rfl (Or.inl rfl) (aB bF (aB di (aB di (aB eW (pv 0) ak) (aB eW (aB eW (pv 1) (pv 1)) ak)) ak) ak))
   (aj (aN (i:=2) p9.nd rfl (Or.inl rfl) (aB bF (aB eW (pv 2) (pv 2)) ak))
   (au (aK (aB pU (pv 2) (aB bF (aB eW (pv 2) ak) ak))))),?_⟩
  refine⟨_,rfl,_,_,rfl,rfl,.inr ⟨by decide,by decide⟩,_,rfl,_,rfl,_,_,rfl,rfl,.inl ⟨by lia,by lia⟩,_,_,rfl,rfl,.inr ⟨by decide,by decide⟩,_,_,rfl,rfl,_,_,rfl,rfl,_,_,rfl,rfl,(by show(0:Int)<2147483647;decide),?_⟩
  generalize c*48271+(k:Int)*(k:Int)*69621+11=u
  have u0:0≤u % 2147483647∧u % 2147483647<2147483647:=by lia
  generalize u % 2147483647=x at u0
  refine⟨_,rfl,_,rfl,_,_,rfl,rfl,.inl ⟨by lia,by lia⟩,_,_,rfl,rfl,(by show(0:Int)<2147483629;decide),?_⟩
  generalize x*x=y
  have y0:0≤y % 2147483629∧y % 2147483629<2147483629:=by lia
  generalize y % 2147483629=z at y0
  exact⟨_,rfl,_,rfl,_,_,rfl,rfl,.inr ⟨by decide,by decide⟩,_,_,rfl,rfl,(by show(0:Int)<2147483587;decide),_,_,rfl,rfl,kk _⟩
structure CG(L tk gv:List Str):Prop where
 t1:tk.Nodup
 t2:∀ x∈tk,x∈L
 t3:1≤tk.length
 t4:tk.length≤2
 g1:gv.Nodup
 g2:∀ x∈gv,x∈L
 g4:gv.length≤2
def rX(H:Hp)(Q:VK)(L:List Str):Prop:=∀ H' t l g tk gv,ao H H'→H' t=some (.tup [.ref l,.ref g])→H' l=some (.lst (aq tk))→H' g=some (.lst (aq gv))→CG L tk gv→Q (.ref t) H'
def yE(K:PySem.W.Frag):Sp:=fun vs H Q _=>∃ (num:Int) (a b:Addr) (ss:List Int) (L:List Str),vs=[.int num,.ref a,.ref b]∧aI K H a (ss.map V.int)∧aI K H b (aq L)∧(ss.length=1∨ss.length=2)∧(∀ x∈ss,1≤x∧x≤3)∧L.length=6∧L.Nodup∧rX H Q L
theorem ja:aU ["_law_number", "_law_sizes", "_law_names", "_law_takes", "_law_gives", "_law_which", "_law_r"] ["_law_number", "_law_sizes", "_law_names"] (ai kr):=⟨rfl,rfl,rfl,by decide +kernel,rfl,by decide +kernel,by decide +kernel⟩
theorem lu{L:List Str}(hn:L.Nodup){j m:Nat}(h1:m≤j)(h2:j<L.length):L.getD j "" ∉ L.take m:=fun z=>by
 rw [List.getD_eq_getElem?_getD,List.getElem?_eq_getElem h2] at z
 obtain⟨k,hk⟩:=List.mem_iff_getElem?.mp z
 rw [List.getElem?_take] at hk
 split at hk
 ·rename_i hlt
  obtain⟨hkl,e⟩:=List.getElem?_eq_some_iff.mp hk
  have:=(List.getElem_inj hn).mp (show L[k]=L[j] from e)
  lia
 ·cases hk
theorem kb{L:List Str}{j m:Nat}(h1:j<m)(h2:j<L.length):L.getD j "" ∈ L.take m:=by
 rw [List.getD_eq_getElem?_getD,List.getElem?_eq_getElem h2]
 exact List.mem_iff_getElem?.mpr ⟨j,by rw [List.getElem?_take,if_pos h1,List.getElem?_eq_getElem h2];rfl⟩
theorem kB{L:List Str}{m n:Nat}(h:m≤n){x:Str}(hx:x∈L.take m):x∈L.take n:=by
 have e:L.take m=(L.take n).take m:=by rw [List.take_take,Nat.min_eq_left h]
 rw [e] at hx
 exact List.mem_of_mem_take hx
structure Rg(L xs:List Str)(r:Nat):Prop where
 nd:xs.Nodup
 sub:∀ x∈xs,x∈L.take (3*r)
 le:xs.length≤r
theorem Rg.skip{L xs:List Str}{r:Nat}(h:Rg L xs r):Rg L xs (r+1):=⟨h.nd,fun x hx=>kB (by lia) (h.sub x hx),by have:=h.le;lia⟩
theorem Rg.snoc{L xs:List Str}{r j:Nat}(h:Rg L xs r)(hn:L.Nodup)(h1:3*r≤j)(h2:j<3*(r+1))(h3:j<L.length):Rg L (xs++[L.getD j ""]) (r+1):=by
 refine⟨List.nodup_append.mpr ⟨h.nd,by simp,fun a ha b hb=>?_⟩,fun x hx=>?_,by have:=h.le;simp;lia⟩
 ·have:b=L.getD j "":=by simpa using hb
  subst this
  rintro rfl
  exact lu hn h1 h3 (h.sub _ ha)
 ·rcases List.mem_append.mp hx with z | z
  ·exact kB (by lia) (h.sub x z)
  ·have:x=L.getD j "":=by simpa using z
   subst this
   exact kb h2 h3
inductive StI(H:Hp)(a b lt lg:Addr)(L:List Str)(wh:Int)(i:Nat)(σ:St)(H2:Hp):Prop
 | mk (num:Int) (v6:Option V) (tk gv:List Str) (q0:σ=[some (.int num),some (.ref a),some (.ref b),some (.ref lt),some (.ref lg),some (.int wh),v6]) (q1:ao H H2) (q2:H2 lt=some (.lst (aq tk))) (q3:H2 lg=some (.lst (aq gv))) (q4:Rg L tk i) (q5:Rg L gv i) (q6:tk≠[]∨wh % 2 ^ i=0)
theorem cB(xs:List Str)(x:Str):aq xs++[V.str x]=aq (xs++[x]):=by unfold aq;rw [List.map_append];rfl
theorem AN(n:Int):PySem.Builtin.bitAnd n 1=n % 2:=PyProof.Rows.bitAnd_m1 n
theorem zU{f:Addr}{fd:FuncData}(F:dW K "_law_step" "_law_step" kr f fd)(T:Txt K mg)(T2:Txt2 mg):aH P w K mg base bX 1 f fd ["_law_number", "_law_sizes", "_law_names"] (yE K):=by
 refine F.ok ja (fun vs H Q E h=>?_) (fun cdv A outer s H vs Q E hr h=>?_)
 ·obtain⟨num,a,b,ss,L,rfl,_⟩:=h
  rfl
 ·obtain⟨num,a,b,ss,L,rfl,ha,hb,hs2,hss,hL,hnd,kk⟩:=h
  have hsl:=PySem.sizeLine_eq
  refine⟨_,aj (aN (i:=3) ja.nd rfl (Or.inl rfl) (bj ag))
   (aj (aN (i:=4) ja.nd rfl (Or.inl rfl) (bj ag))
   (aj (aN (i:=5) ja.nd rfl (Or.inl rfl) (aB di ak (aB bF (pv 0) (aB BJ (aB BO ak (aF bG rfl T.len dB (aa (pv 1) ag))) ak))))
   (aj (aN (i:=0) ja.nd rfl (Or.inl rfl) (aB bE (pv 0) ak))
   (aj (dA PassesOwn.never rfl (cO rfl T2.rng (aa (aF bG rfl T.len dB (aa (pv 1) ag)) ag)) (aA (i:=6) ja.nd rfl (Or.inl rfl))
    (au (bB (bb jA (aB pU (aB uv (pv 5) (pv 6)) ak) ak (bw _))
     (aj (cD (gy PySem.F.plainAttrs_list PySem.F.slot_list_append PySem.F.type_list_append dk (pv 3) (aa (aO aV (pv 2) (aB di (aB eW ak (pv 6)) (aB bF (pv 0) (aO aV (pv 1) (pv 6) (fun _ _=>rfl)))) (fun _ _=>rfl)) ag)))
     (aj (bB (bb vd (aB bF (aB bE (pv 0) ak) ak) ak (bw _))
      (au (cD (gy PySem.F.plainAttrs_list PySem.F.slot_list_append PySem.F.type_list_append dk (pv 4) (aa (aO aV (pv 2) (aB di (aB eW ak (pv 6)) (aB bF (aB bE (pv 0) ak) (aO aV (pv 1) (pv 6) (fun _ _=>rfl)))) (fun _ _=>rfl)) ag)))) aX)
     (au (aN (i:=0) ja.nd rfl (Or.inl rfl) (aB bE (pv 0) ak))))) aX)))
   (au (aK (cz (aa (pv 3) (aa (pv 4) ag))))))))),?_⟩
  refine⟨Nat.zero_le _,fun lt nlt=>?_⟩
  have s1:ao H (upd H lt (.lst [])):=af nlt
  have h1:(upd H lt (.lst [])) lt=some (.lst (aq [])):=ae
  generalize upd H lt (.lst [])=H1 at s1 h1 ⊢
  refine⟨Nat.zero_le _,fun lg nlg=>?_⟩
  have ntg:lt≠lg:=ay h1 nlg
  have nlg0:H lg=none:=s1.free nlg
  have s2:ao H1 (upd H1 lg (.lst [])):=af nlg
  have h2:(upd H1 lg (.lst [])) lg=some (.lst (aq [])):=ae
  have h12:=s2 _ _ h1
  have s02:=s1.trans s2
  generalize upd H1 lg (.lst [])=H2 at s2 h2 h12 s02 ⊢
  have hlen:∀ {H':Hp},ao H H'→tF K (.ref a) H' ss.length:=fun s=>.inl ⟨_,s.seq ha,by rw [List.length_map]⟩
  have p2:∃ q:Int,(1:Int)*2 ^ ((ss.length:Nat):Int).toNat-1=q∧(q=1∨q=3)∧(ss.length=1→q=1):=by
   rw [Int.toNat_natCast]
   rcases hs2 with e | e <;> rw [e]
   ·exact⟨1,by decide,.inl rfl,fun _=>rfl⟩
   ·exact⟨3,by decide,.inr rfl,fun z=>by lia⟩
  obtain⟨q,eq,q13,q1⟩:=p2
  refine⟨_,rfl,_,rfl,_,_,rfl,hlen s02,_,_,rfl,rfl,⟨by first | lia | decide,by first | lia | decide,by first | lia | decide⟩,_,_,rfl,rfl,_,_,rfl,rfl,(by rw [eq];lia),_,_,rfl,rfl,?_⟩
  dsimp only [dU]
  rw [eq]
  have w0:1≤1+num % q∧1+num % q≤q:=by rcases q13 with rfl | rfl <;> lia
  have w1:ss.length=1→1+num % q=1:=fun z=>by rw [q1 z];lia
  generalize 1+num % q=wh at w0 w1
  refine⟨_,rfl,_,_,rfl,rfl,⟨by decide,by decide⟩,?_⟩
  refine⟨_,rfl,_,_,rfl,hlen s02,_,rfl,by lia,by lia,nR (lo:=0) (n:=((ss.length:Nat):Int).toNat) (StI H a b lt lg L wh)
   ⟨_,none,[],[],rfl,s02,h12,h2,⟨.nil,fun x hx=>by simp at hx,Nat.le_refl _⟩,⟨.nil,fun x hx=>by simp at hx,Nat.le_refl _⟩,.inr (by first | (simp;done) | (simp;lia))⟩ ?_ ?_⟩
  ·rintro i σ H3 hi ⟨num,v6,tk,gv,rfl,sm,ht,hg,rt,rg,hne⟩
   have hi2:i<ss.length:=by lia
   have i2:i<2:=by lia
   have sz:1≤ss.getD i 0∧ss.getD i 0≤3:=hss _ (by rw [List.getD_eq_getElem?_getD,List.getElem?_eq_getElem hi2];exact List.getElem_mem _)
   have ezi:(0+((i:Nat):Int))=((i:Nat):Int):=by lia
   rw [ezi]
   have eat:o3 (ss.map V.int) ((i:Nat):Int)=some (.int (ss.getD i 0)):=by
    have:=ef (xs:=ss) (i:=((i:Nat):Int)) (by lia) (by lia)
    rwa [Int.toNat_natCast] at this
   refine⟨_,rfl,_,rfl,_,_,rfl,rfl,(by lia),_,_,rfl,rfl,rfl,_,rfl,?_⟩
   refine jb (fun c=>?_) (fun c=>?_)
   ·have c1:wh / 2 ^ ((i:Nat):Int).toNat % 2=1:=by
     have c:=of_decide_eq_true c
     have c:PySem.Builtin.bitAnd (wh / 2 ^ ((i:Nat):Int).toNat) 1=1:=by injection c
     rwa [AN] at c
    have j0:0≤num % ss.getD i 0∧num % ss.getD i 0<ss.getD i 0:=⟨Int.emod_nonneg _ (by lia),Int.emod_lt_of_pos _ (by lia)⟩
    have ej:(3*((i:Nat):Int)+num % ss.getD i 0).toNat=3*i+(num % ss.getD i 0).toNat:=by lia
    refine⟨_,rfl,.inl ⟨rfl,_,aI.of ht⟩,_,rfl,_,rfl,_,_,rfl,rfl,.inl ⟨by decide,by decide⟩,_,rfl,_,rfl,_,rfl,a,_,_,_,rfl,rfl,sm.seq ha,eat,_,_,rfl,rfl,(by lia),_,_,rfl,rfl,b,_,_,_,rfl,rfl,sm.seq hb,dD (by lia) (by lia),lt,_,_,rfl,rfl,ht,?_,?_⟩
    ·rw [ah]
     have:=rt.le
     lia
    rw [ej,cB]
    have rt2:=rt.snoc hnd (j:=3*i+(num % ss.getD i 0).toNat) (by lia) (by lia) (by lia)
    generalize L.getD (3*i+(num % ss.getD i 0).toNat) ""=y at rt2 ⊢
    have hlt3:(upd H3 lt (.lst (aq (tk++[y])))) lt=some (.lst (aq (tk++[y]))):=ae
    have hlg3:(upd H3 lt (.lst (aq (tk++[y])))) lg=some (.lst (aq gv)):=by rw [ar ntg.symm];exact hg
    have sm3:ao H (upd H3 lt (.lst (aq (tk++[y])))):=aD sm nlt
    generalize upd H3 lt (.lst (aq (tk++[y])))=H4 at hlt3 hlg3 sm3 ⊢
    refine⟨_,rfl,_,_,rfl,rfl,⟨by decide,by decide⟩,_,_,rfl,rfl,(by show(0:Int)<16;decide),_,_,rfl,rfl,_,rfl,?_⟩
    refine jb (fun _=>?_) (fun _=>?_)
    ·have m0:0≤num / 64 % ss.getD i 0∧num / 64 % ss.getD i 0<ss.getD i 0:=⟨Int.emod_nonneg _ (by lia),Int.emod_lt_of_pos _ (by lia)⟩
     have em:(3*((i:Nat):Int)+num / 64 % ss.getD i 0).toNat=3*i+(num / 64 % ss.getD i 0).toNat:=by lia
     refine⟨_,rfl,.inl ⟨rfl,_,aI.of hlg3⟩,_,rfl,_,rfl,_,_,rfl,rfl,.inl ⟨by decide,by decide⟩,_,rfl,_,_,rfl,rfl,⟨by decide,by decide⟩,_,rfl,_,rfl,a,_,_,_,rfl,rfl,sm3.seq ha,eat,_,_,rfl,rfl,(by lia),_,_,rfl,rfl,b,_,_,_,rfl,rfl,sm3.seq hb,dD (by lia) (by lia),lg,_,_,rfl,rfl,hlg3,?_,?_⟩
     ·rw [ah]
      have:=rg.le
      lia
     rw [em,cB]
     have rg2:=rg.snoc hnd (j:=3*i+(num / 64 % ss.getD i 0).toNat) (by lia) (by lia) (by lia)
     refine⟨_,rfl,_,_,rfl,rfl,⟨by decide,by decide⟩,?_⟩
     exact⟨_,_,_,_,rfl,aD sm3 nlg0,by rw [ar ntg];exact hlt3,ae,rt2,rg2,.inl (by simp)⟩
    ·refine⟨_,rfl,_,_,rfl,rfl,⟨by decide,by decide⟩,?_⟩
     exact⟨_,_,_,_,rfl,sm3,hlt3,hlg3,rt2,rg.skip,.inl (by simp)⟩
   ·have c1:¬ wh / 2 ^ ((i:Nat):Int).toNat % 2=1:=fun z=>c (decide_eq_true (show V.int (PySem.Builtin.bitAnd (wh / 2 ^ ((i:Nat):Int).toNat) 1)=V.int 1 by rw [AN,z]))
    refine⟨_,_,_,_,rfl,sm,ht,hg,rt.skip,rg.skip,?_⟩
    rcases hne with z | z
    ·exact .inl z
    ·rw [Int.toNat_natCast] at c1
     have i01:i=0∨i=1:=by lia
     rcases i01 with rfl | rfl
     ·exact .inr (by simp at c1 ⊢;lia)
     ·exact .inr (by simp at c1 z ⊢;lia)
  ·rintro σ H3 ⟨num,v6,tk,gv,rfl,sm,ht,hg,rt,rg,hne⟩
   rw [Int.toNat_natCast] at rt rg hne
   have l2:ss.length≤2:=by lia
   have hne':tk≠[]:=by
    rcases hne with z | z
    ·exact z
    ·exfalso
     rcases hs2 with e | e
     ·have:=w1 e
      rw [this,e] at z
      simp at z
     ·rw [e] at z
      simp at z
      rcases q13 with rfl | rfl <;> lia
   have hp:=List.length_pos_iff.mpr hne'
   have tle:=rt.le
   have gle:=rg.le
   refine⟨_,rfl,_,rfl,by show 2≤sizeLine;lia,fun t nt=>?_⟩
   have st:ao H3 (upd H3 t (.tup [.ref lt,.ref lg])):=af nt
   exact kk _ t lt lg tk gv (sm.trans st) ae (st _ _ ht) (st _ _ hg) ⟨rt.nd,fun x hx=>List.mem_of_mem_take (rt.sub x hx),by lia,by lia,rg.nd,fun x hx=>List.mem_of_mem_take (rg.sub x hx),by lia⟩
end
end Uf
end
section
namespace L2
open PySem PySem.Spec PyProof.Rows UfSrt
section
variable {n:Nat}{ci:List Nat}{g:TG}{tt:TT}{te:TE}{σ:St}{H:Hp}{D:Addr}{Q:VK}
theorem cP{lo:Int}{m:Nat}(Pv:Nat→List V→Hp→Prop)(h0:Pv 0 [] (upd H D (.lst [])))
  (hs:∀ i ys H,i<m→Pv i ys H→g (.int (lo+i)) (rF n ci σ) H fun σ2 H2=>tt σ2 H2 fun b H3=>if b=true then te σ2 H3 fun y H4=>H4 D=some (.lst ys)∧ys.length<sizeLine∧Pv (i+1) (ys++[y]) (upd H4 D (.lst (ys++[y]))) else Pv (i+1) ys H3)
  (hd:∀ ys H,Pv m ys H→Q (.ref D) H) :
  iC n ci (Bq lo m) g tt te σ H D Q:=by
 unfold iC
 refine⟨m,Pv,h0,fun i ys H hi p=>?_⟩
 by_cases hlt:i<m
 ·refine .inr ⟨hlt,hlt,fun v H' y=>?_⟩
  obtain⟨e,rfl⟩:=y
  subst e
  exact hs i ys _ hlt p
 ·have e:i=m:=by lia
  subst e
  exact .inl ⟨Nat.le_refl _,hd ys H p⟩
end
end L2
namespace Uf
open PySem L2 UfSrt UfFin
theorem jP{t u:TS}{D:Ends}{σ:St}{H:Hp}(F:St→Hp→Prop)(hu:∀ σ H,F σ H→u D σ H)(ht:(∀ σ H,F σ H→u D σ H)→t { D with nx:=u D } σ H):Dh t u D σ H:=ht hu
theorem ke{L:List Str}{i:Nat}(h:i<L.length):L.take (i+1)=L.take i++[L.getD i ""]:=by
 rw [av (List.getElem?_eq_getElem h),List.getD_eq_getElem?_getD,List.getElem?_eq_getElem h]
 rfl
theorem mZ{R L:List Str}{i:Nat}(h:R.Sublist (L.take i))(hi:i<L.length):R.Sublist (L.take (i+1)):=by
 rw [ke hi]
 exact h.trans (List.sublist_append_left _ _)
theorem sub_snoc{R L:List Str}{i:Nat}(h:R.Sublist (L.take i))(hi:i<L.length):(R++[L.getD i ""]).Sublist (L.take (i+1)):=by
 rw [ke hi]
 exact h.append (List.Sublist.refl _)
theorem uQ(R:List Str):∃ R2:List Str,eD (aq R) none (some (2:Int))=aq R2∧R2.Sublist R∧R2.length≤2:=by
 refine⟨R.take 2,?_,List.take_sublist _ _,by rw [List.length_take];lia⟩
 unfold eD
 have e1:HT.je (aq R).length 0 none=0:=HT.mS _ _
 have e2:HT.je (aq R).length (aq R).length (some ((2:Nat):Int))=min 2 (aq R).length:=HT.gU _ _ 2
 have e2:HT.je (aq R).length (aq R).length (some (2:Int))=min 2 (aq R).length:=e2
 rw [e1,e2,List.drop_zero,Nat.sub_zero]
 unfold aq
 rw [List.length_map,← List.map_take]
 congr 1
 rcases Nat.le_total 2 R.length with h | h
 ·rw [Nat.min_eq_left h]
 ·rw [Nat.min_eq_right h,List.take_of_length_le h,List.take_length]
section
variable {P:Program}{w:World}{K:PySem.W.Frag}{mg:Str→Option Value}{base:Heap}
def AE(K:PySem.W.Frag):Sp:=fun vs H Q _=>∃ (num:Int) (b:Addr) (L:List Str),vs=[.int num,.ref b]∧aI K H b (aq L)∧L.length=6∧unlike L=true∧rX H Q L
theorem o5:aU ["_law_number", "_law_names", "_law_ways", "_law_takes", "_law_gives"] ["_law_number", "_law_names"] (ai mY):=⟨rfl,rfl,rfl,by decide +kernel,rfl,by decide +kernel,by decide +kernel⟩
inductive AnN(H:Hp)(b:Addr)(σ:St)(H2:Hp):Prop
 | mk (num:Int) (q0:σ=[some (.int num),some (.ref b),none,none,none]) (q1:ao H H2)
inductive AnT(H:Hp)(b wy lg:Addr)(L gv:List Str)(num:Int)(σ:St)(H2:Hp):Prop
 | mk (lt:Addr) (tk:List Str) (q0:σ=[some (.int num),some (.ref b),some (.ref wy),some (.ref lt),some (.ref lg)]) (q1:ao H H2) (q2:H2 lt=some (.lst (aq tk))) (q3:H2 lg=some (.lst (aq gv))) (q4:tk.Nodup) (q5:∀ x∈tk,x∈L) (q6:1≤tk.length) (q7:tk.length≤2)
theorem Ce{f fM:Addr}{fd fdM:FuncData}(F:dW K "_law_any_step" "_law_any_step" mY f fd)(T:Txt K mg)(T2:Txt2 mg)(DM:Def K mg "_law_mixed" hZ ["_law_cell", "_law_k"] fM fdM)(GM:aH P w K mg base bX 1 fM fdM ["_law_cell", "_law_k"] uW) :
  aH P w K mg base bX 2 f fd ["_law_number", "_law_names"] (AE K):=by
 refine F.ok o5 (fun vs H Q E h=>?_) (fun cdv A outer s H vs Q E hr h=>?_)
 ·obtain⟨num,b,L,rfl,_⟩:=h
  rfl
 ·obtain⟨num,b,L,rfl,hb,hL,hun,kk⟩:=h
  have hsl:=PySem.sizeLine_eq
  have hu0:_<cLine:=hr.mH
  have hnd:=aZ hun
  refine⟨_,aj (bB (bb cV (aB bE (pv 0) ak) (cz (aa ak (aa (zc sW ak) ag))) (by with_unfolding_all rfl))
    (au (aN (i:=0) o5.nd rfl (Or.inr rfl) (az GM hr rfl DM.mg DM.fn.kp DM.bd .nil aJ (aa (pv 0) (aa (aF bG rfl T.len dB (aa (aO aV (pv 1) ak (fun _ _=>rfl)) ag)) ag))))) aX)
   (aj (aN (i:=2) o5.nd rfl (Or.inr rfl) (bJ (N:=["_law_k", "_law_number"]) (n:=1) (ci:=[0]) rfl (cO rfl T2.rng (aa ak ag))
    (g9.of (so:=ai mY) (N0:=["_law_number", "_law_names", "_law_ways", "_law_takes", "_law_gives"]) ⟨rfl,by decide +kernel,by decide +kernel,by decide +kernel,rfl,rfl,by decide +kernel,by decide +kernel⟩)
    (fun z=>⟨aA (i:=0) (bV (N:=["_law_k", "_law_number"]) (by decide +kernel)) rfl (Or.inl rfl),bP,aB pU (aB uv (pv 1) (aB eW ak (pv 0))) ak⟩)))
   (aj (aN (i:=3) o5.nd rfl (Or.inl rfl) (bH ck (bJ (N:=["_law_k", "_law_names", "_law_ways"]) (n:=1) (ci:=[1,2]) rfl (cO rfl T2.rng (aa ak ag))
    (g9.of (so:=ai mY) (N0:=["_law_number", "_law_names", "_law_ways", "_law_takes", "_law_gives"]) ⟨rfl,by decide +kernel,by decide +kernel,by decide +kernel,rfl,rfl,by decide +kernel,by decide +kernel⟩)
    (fun z=>⟨aA (i:=0) (bV (N:=["_law_k", "_law_names", "_law_ways"]) (by decide +kernel)) rfl (Or.inl rfl),dH (bb jA (aB bF (aO aV (pv 2) (pv 0) (fun _ _=>rfl)) ak) ak (bw _)),aO aV (pv 1) (pv 0) (fun _ _=>rfl)⟩)) cL (bK ak)))
   (aj (aN (i:=4) o5.nd rfl (Or.inl rfl) (bH ck (bJ (N:=["_law_k", "_law_names", "_law_ways"]) (n:=1) (ci:=[1,2]) rfl (cO rfl T2.rng (aa ak ag))
    (g9.of (so:=ai mY) (N0:=["_law_number", "_law_names", "_law_ways", "_law_takes", "_law_gives"]) ⟨rfl,by decide +kernel,by decide +kernel,by decide +kernel,rfl,rfl,by decide +kernel,by decide +kernel⟩)
    (fun z=>⟨aA (i:=0) (bV (N:=["_law_k", "_law_names", "_law_ways"]) (by decide +kernel)) rfl (Or.inl rfl),dH (bb vd (aO aV (pv 2) (pv 0) (fun _ _=>rfl)) ak (bw _)),aO aV (pv 1) (pv 0) (fun _ _=>rfl)⟩)) cL (bK ak)))
   (aj (bB (bb eq_nil (pv 3) (bj ag) (bw _)) (au (aN (i:=3) o5.nd rfl (Or.inl rfl) (bj (aa (aO aV (pv 1) (aB bF (pv 0) ak) (fun _ _=>rfl)) ag)))) aX)
   (au (aK (cz (aa (pv 3) (aa (pv 4) ag))))))))),?_⟩
  refine jP (AnN H b) ?_ (fun cont=>?_)
  ·rintro σ H1 ⟨num,rfl,s1⟩
   refine⟨_,rfl,by decide,by decide,fun z D hD=>cP (lo:=0) (m:=6) (fun j ys H2=>∃ ws:List Int,ys=ws.map V.int∧ws.length=j∧H2 D=some (.lst ys)∧ao H1 H2) ⟨[],rfl,rfl,ae,af hD⟩ ?_ ?_⟩
   ·rintro j ys H2 hj ⟨ws,rfl,lw,hys,s2⟩
    refine⟨_,rfl,_,rfl,_,_,rfl,rfl,.inl ⟨by decide,by decide⟩,_,_,rfl,rfl,(by lia),_,_,rfl,rfl,hys,by rw [List.length_map];lia,ws++[PySem.Builtin.bitAnd (num / 2 ^ (2*(0+(j:Int))).toNat) 3],?_,by simp [lw],ae,aD s2 hD⟩
    rw [List.map_append]
    rfl
   rintro ys H2 ⟨ws,rfl,lw,hw,s2⟩
   have lw:ws.length=6:=lw
   have s12:=s1.trans s2
   refine⟨_,rfl,by decide,by decide,fun z D2 hD2=>cP (lo:=0) (m:=6) (fun j ys H3=>∃ R:List Str,ys=aq R∧R.Sublist (L.take j)∧H3 D2=some (.lst ys)∧ao H2 H3) ⟨[],rfl,List.nil_sublist _,ae,af hD2⟩ ?_ ?_⟩
   ·rintro j ys H3 hj ⟨R,rfl,sb,hys,s3⟩
    have ej:(0:Int)+(j:Int)=j:=by lia
    rw [ej]
    have lR:=sb.length_le
    rw [List.length_take] at lR
    refine⟨_,rfl,_,rfl,D,_,_,_,rfl,rfl,aI.of (s3 _ _ hw),ef (by lia) (by lia),_,_,rfl,rfl,(by show(0:Int)<2;decide),rfl,_,rfl,?_⟩
    refine jb (fun _=>?_) (fun _=>⟨R,rfl,mZ sb (by lia),hys,s3⟩)
    refine⟨_,rfl,_,rfl,b,_,_,_,rfl,rfl,(s12.trans s3).seq hb,dD (by lia) (by lia),hys,by rw [ah];lia,R++[L.getD j ""],?_,sub_snoc sb (by lia),ae,aD s3 hD2⟩
    rw [Int.toNat_natCast,cB]
   rintro ys H3 ⟨R,rfl,sb,hys,s3⟩
   have sb:R.Sublist L:=sb.trans (List.take_sublist _ _)
   obtain⟨R2,eR,sR,lR⟩:=uQ R
   have sR:=sR.trans sb
   refine⟨_,rfl,D2,_,rfl,aI.of hys,fun lt nlt=>?_⟩
   rw [eR]
   have s4:ao H3 (upd H3 lt (.lst (aq R2))):=af nlt
   have hlt:(upd H3 lt (.lst (aq R2))) lt=some (.lst (aq R2)):=ae
   have s14:=s12.trans (s3.trans s4)
   have hw4:=s4 _ _ (s3 _ _ hw)
   generalize upd H3 lt (.lst (aq R2))=H4 at s4 hlt s14 hw4 ⊢
   refine⟨_,rfl,by decide,by decide,fun z D3 hD3=>cP (lo:=0) (m:=6) (fun j ys H5=>∃ R:List Str,ys=aq R∧R.Sublist (L.take j)∧H5 D3=some (.lst ys)∧ao H4 H5) ⟨[],rfl,List.nil_sublist _,ae,af hD3⟩ ?_ ?_⟩
   ·rintro j ys H5 hj ⟨R,rfl,sb,hys,s5⟩
    have ej:(0:Int)+(j:Int)=j:=by lia
    rw [ej]
    have lR:=sb.length_le
    rw [List.length_take] at lR
    refine⟨_,rfl,_,rfl,D,_,_,_,rfl,rfl,aI.of (s5 _ _ hw4),ef (by lia) (by lia),_,_,rfl,rfl,_,rfl,?_⟩
    refine jb (fun _=>?_) (fun _=>⟨R,rfl,mZ sb (by lia),hys,s5⟩)
    refine⟨_,rfl,_,rfl,b,_,_,_,rfl,rfl,(s14.trans s5).seq hb,dD (by lia) (by lia),hys,by rw [ah];lia,R++[L.getD j ""],?_,sub_snoc sb (by lia),ae,aD s5 hD3⟩
    rw [Int.toNat_natCast,cB]
   rintro ys H5 ⟨G,rfl,sbG,hysG,s5⟩
   have sbG:G.Sublist L:=sbG.trans (List.take_sublist _ _)
   obtain⟨G2,eG,sG,lG⟩:=uQ G
   have sG:=sG.trans sbG
   refine⟨_,rfl,D3,_,rfl,aI.of hysG,fun lg nlg=>?_⟩
   rw [eG]
   have s6:ao H5 (upd H5 lg (.lst (aq G2))):=af nlg
   have hlg:(upd H5 lg (.lst (aq G2))) lg=some (.lst (aq G2)):=ae
   have s16:=s14.trans (s5.trans s6)
   have hlt6:=s6 _ _ (s5 _ _ hlt)
   generalize upd H5 lg (.lst (aq G2))=H6 at s6 hlg s16 hlt6 ⊢
   dsimp only [dU]
   refine jP (AnT H b D lg L G2 num) ?_ (fun cont=>?_)
   ·rintro σ H7 ⟨lt,tk,rfl,s7,h1,h2,c1,c2,c3,c4⟩
    refine⟨_,rfl,_,rfl,by show 2≤sizeLine;lia,fun t nt=>?_⟩
    have st:ao H7 (upd H7 t (.tup [.ref lt,.ref lg])):=af nt
    exact kk _ t lt lg tk G2 (s7.trans st) ae (st _ _ h1) (st _ _ h2) ⟨c1,c2,c3,c4,hnd.sublist sG,fun x hx=>sG.subset hx,lG⟩
   ·refine⟨_,rfl,Nat.zero_le _,fun e ne=>?_⟩
    have se:ao H6 (upd H6 e (.lst [])):=af ne
    refine⟨lt,e,_,rfl,rfl,hu0,aI.of (se _ _ hlt6),aI.of ae,_,rfl,?_⟩
    have s17:=s16.trans se
    have hlt7:=se _ _ hlt6
    have hlg7:=se _ _ hlg
    generalize upd H6 e (.lst [])=H7 at se s17 hlt7 hlg7 ⊢
    cases R2 with
    | nil =>
     refine cG ?_
     have j0:0≤num % 6∧num % 6<6:=by lia
     refine⟨_,rfl,_,rfl,_,_,rfl,rfl,(by show(0:Int)<6;decide),b,_,_,_,rfl,rfl,s17.seq hb,dD j0.1 (by lia),by show 1≤sizeLine;lia,fun l2 n2=>?_⟩
     have s8:ao H7 (upd H7 l2 (.lst [.str (L.getD (num % 6).toNat "")])):=af n2
     refine cont _ _ ⟨l2,[L.getD (num % 6).toNat ""],rfl,s17.trans s8,ae,s8 _ _ hlg7,by simp,fun x hx=>?_,by simp,by simp⟩
     have:x=L.getD (num % 6).toNat "":=by simpa using hx
     subst this
     exact List.mem_of_mem_take (kb (m:=6) (by lia) (by lia))
    | cons y R2 =>
     refine bS ?_
     exact cont _ _ ⟨lt,y::R2,rfl,s17,hlt7,hlg7,hnd.sublist sR,fun x hx=>sR.subset hx,by simp,lR⟩
  ·refine⟨_,rfl,_,_,rfl,rfl,⟨by decide,by decide⟩,_,rfl,by show 2≤sizeLine;lia,fun t nt=>?_⟩
   have st:ao H (upd H t (.tup [.int 0,.int (-1)])):=af nt
   refine⟨t,_,rfl,.inr (cg.of ae),rfl,rfl,_,rfl,?_⟩
   refine jb (fun _=>?_) (fun _=>cont _ _ ⟨num,rfl,st⟩)
   have n0:=ma (cM hun (x:=L.getD (0:Int).toNat "") (List.mem_of_mem_take (kb (m:=6) (by decide) (by show(0:Nat)<L.length;lia))))
   refine⟨_,rfl,_,rfl,b,_,0,_,rfl,rfl,st.seq hb,dD (by decide) (by lia),_,_,rfl,⟨by lia,rfl⟩,num,_,rfl,by lia,fun z=>?_⟩
   exact cont _ _ ⟨z,rfl,st⟩
end
end Uf
end
section
namespace Uf
open PySem L2 UfSrt UfFin
abbrev fY:Stmt:=top 40
def Ba(K:PySem.W.Frag)(H:Hp)(a:Addr)(ps:List (Int × Int)):Prop:=∃ qs:List Addr,aI K H a (qs.map V.ref)∧Paired (fun(p:Int × Int) q=>H q=some (.tup [.int p.1,.int p.2])) ps qs
def cF(H:Hp)(p:Addr)(ms:List Mv)(st:List Str):Prop:=∃ d l,H p=some (.tup [.ref d,.ref l])∧eT H d ms∧H l=some (.lst (aq st))
theorem cF.same{H H':Hp}{p:Addr}{ms:List Mv}{st:List Str}(s:ao H H')(h:cF H p ms st):cF H' p ms st:=by
 obtain⟨d,l,h1,h2,h3⟩:=h
 exact⟨d,l,s _ _ h1,h2.same s,s _ _ h3⟩
structure t6(L:List Str)(ms:List Mv)(st ns:List Str):Prop where
 nm:names ms=ns
 mv:∀ m∈ms,CG L m.2.1 m.2.2
 sn:st.Nodup
 ss:∀ x∈st,x∈L
theorem vX{kvs:List (Key × V)}{k:Key}{v1 v2:V}(h:fh kvs k=none):putK (kvs++[(k,v1)]) k v2=kvs++[(k,v2)]:=by
 have hn:∀ kv∈kvs,¬ kv.1=k:=fun kv hkv e=>by
  have:(kvs.any fun kv=>decide (kv.1=k))=true:=List.any_eq_true.mpr ⟨kv,hkv,decide_eq_true e⟩
  rw [gg,h] at this
  exact absurd this (by decide)
 unfold putK
 rw [if_pos (by rw [List.any_append];simp),List.map_append]
 congr 1
 ·conv=>rhs;rw [← List.map_id kvs]
  refine List.map_congr_left fun kv hkv=>?_
  rw [if_neg (hn kv hkv)]
  rfl
 ·simp
section
variable {P:Program}{w:World}{K:PySem.W.Frag}{mg:Str→Option Value}{base:Heap}
def vq(K:PySem.W.Frag):Sp:=fun vs H Q _=>∃ (hd bd:Int) (a b c:Addr) (ps:List (Int × Int)) (L M:List Str),vs=[.int hd,.int bd,.ref a,.ref b,.ref c]∧Ba K H a ps∧aI K H b (aq L)∧aI K H c (aq M)∧ps.length≤M.length∧M.length≤12∧unlike M=true∧L.length=6∧unlike L=true ∧
 ∀ H' q ms st,ao H H'→H q=none→cF H' q ms st→t6 L ms st (M.take ps.length)→Q (.ref q) H'
theorem d0:aU ["_law_head", "_law_bead", "_law_numbers", "_law_names", "_law_moves", "_law_sizes", "_law_start", "_law_r", "_law_at", "_law_rules", "_law_k", "_law_mixed_here", "_law_number"] ["_law_head", "_law_bead", "_law_numbers", "_law_names", "_law_moves"] (ai fY):=⟨rfl,rfl,rfl,by decide +kernel,rfl,by decide +kernel,by decide +kernel⟩
inductive PaS(H:Hp)(hd bd:Int)(a b c sz l:Addr)(L:List Str)(i:Nat)(σ:St)(H2:Hp):Prop
 | mk (v7 v8:Option V) (st:List Str) (q0:σ=[some (.int hd),some (.int bd),some (.ref a),some (.ref b),some (.ref c),some (.ref sz),some (.ref l),v7,v8,none,none,none,none]) (q1:ao H H2) (q2:H2 l=some (.lst (aq st))) (q3:Rg L st i)
inductive PaT(H:Hp)(hd bd:Int)(a b c sz:Addr)(L:List Str)(σ:St)(H2:Hp):Prop
 | mk (l:Addr) (v7 v8:Option V) (st:List Str) (q0:σ=[some (.int hd),some (.int bd),some (.ref a),some (.ref b),some (.ref c),some (.ref sz),some (.ref l),v7,v8,none,none,none,none]) (q1:ao H H2) (q2:H2 l=some (.lst (aq st))) (q3:st.Nodup) (q4:∀ x∈st,x∈L)
inductive Ek(H:Hp)(hd bd:Int)(a b c sz l d:Addr)(L M st:List Str)(i:Nat)(σ:St)(H2:Hp):Prop
 | mk (v7 v8 v10 v11 v12:Option V) (kvs:List (Key × V)) (ms:List Mv) (q0:σ=[some (.int hd),some (.int bd),some (.ref a),some (.ref b),some (.ref c),some (.ref sz),some (.ref l),v7,v8,some (.ref d),v10,v11,v12]) (q1:ao H H2) (q2:H2 d=some (.dK kvs)) (q3:MP H2 ms kvs) (q4:names ms=M.take i) (q5:∀ m∈ms,CG L m.2.1 m.2.2)
theorem Ek.same{H:Hp}{hd bd:Int}{a b c sz l d:Addr}{L M st:List Str}{i:Nat}{σ:St}{H2:Hp}(h:Ek H hd bd a b c sz l d L M st i σ H2):ao H H2:=by
 cases h
 assumption
inductive PaN(H:Hp)(hd bd:Int)(a b c sz l d:Addr)(v7 v8:Option V)(L:List Str)(ms:List Mv)(kvs:List (Key × V))(i:Nat)(x:Str)(n1 n2:Int)(σ:St)(H2:Hp):Prop
 | mk (t:Addr) (m:Mv) (e:m.1=x) (q0:σ=[some (.int hd),some (.int bd),some (.ref a),some (.ref b),some (.ref c),some (.ref sz),some (.ref l),v7,v8,some (.ref d),some (.int i),some (.int n1),some (.int n2)]) (q1:ao H H2) (q2:H2 d=some (.dK (kvs++[(Sum.inr x,.ref t)]))) (q3:MP H2 (ms++[m]) (kvs++[(Sum.inr x,.ref t)])) (q4:CG L m.2.1 m.2.2)
theorem x6{f fS fA:Addr}{fd fdS fdA:FuncData}(F:dW K "_law_parts" "_law_parts" fY f fd)(T:Txt K mg)(T2:Txt2 mg)
  (DS:Def K mg "_law_step" kr ["_law_number", "_law_sizes", "_law_names"] fS fdS) (GS:aH P w K mg base bX 1 fS fdS ["_law_number", "_law_sizes", "_law_names"] (yE K))
  (DA:Def K mg "_law_any_step" mY ["_law_number", "_law_names"] fA fdA) (GA:aH P w K mg base bX 2 fA fdA ["_law_number", "_law_names"] (AE K)) :
  aH P w K mg base bX 3 f fd ["_law_head", "_law_bead", "_law_numbers", "_law_names", "_law_moves"] (vq K):=by
 refine F.ok d0 (fun vs H Q E h=>?_) (fun cdv A outer s H vs Q E hr h=>?_)
 ·obtain⟨hd,bd,a,b,c,ps,L,M,rfl,_⟩:=h
  rfl
 ·obtain⟨hd,bd,a,b,c,ps,L,M,rfl,ha,hb,hc,hpM,hM,huM,hL,huL,kk⟩:=h
  have hsl:=PySem.sizeLine_eq
  have hu:=eI hr
  have hr1:bR 1 _:=hr.mono (by decide)
  have hnd:=aZ huL
  refine⟨_,aj (dP (j:=5) (N:=["_law_r", "_law_head"]) (n:=1) (ci:=[0]) rfl d0.nd rfl rfl (cO rfl T2.rng (aa (aB di ak (aB bF (pv 0) ak)) ag))
    (g9.of (so:=ai fY) (N0:=["_law_head", "_law_bead", "_law_numbers", "_law_names", "_law_moves", "_law_sizes", "_law_start", "_law_r", "_law_at", "_law_rules", "_law_k", "_law_mixed_here", "_law_number"]) ⟨rfl,by decide +kernel,by decide +kernel,by decide +kernel,rfl,rfl,by decide +kernel,by decide +kernel⟩)
    (fun z=>⟨aA (i:=0) (bV (N:=["_law_r", "_law_head"]) (by decide +kernel)) rfl (Or.inl rfl),bP,aB di ak (aB bF (aB bE (pv 1) (aO aV (bj (aa ak (aa ak ag))) (pv 0) (fun _ _=>rfl))) ak)⟩))
   (aj (aN (i:=6) d0.nd rfl (Or.inl rfl) (bj ag))
   (aj (dA PassesOwn.never rfl (cO rfl T2.rng (aa (aF bG rfl T.len dB (aa (pv 5) ag)) ag)) (aA (i:=7) d0.nd rfl (Or.inl rfl))
    (aj (aN (i:=8) d0.nd rfl (Or.inl rfl) (aB bE (pv 1) (aO aV (bj (aa ak (aa ak ag))) (pv 7) (fun _ _=>rfl))))
    (au (bB (bb yI (aB bF (aB bE (pv 8) ak) ak) ak (bw _))
     (au (cD (gy PySem.F.plainAttrs_list PySem.F.slot_list_append PySem.F.type_list_append dk (pv 6) (aa (aO aV (pv 3) (aB di (aB eW ak (pv 7)) (aB bF (pv 8) (aO aV (pv 5) (pv 7) (fun _ _=>rfl)))) (fun _ _=>rfl)) ag)))) aX))))
   (aj (bB (bb jA (aB bF (pv 1) ak) ak (bw _))
    (au (dP (j:=6) (N:=["_law_k", "_law_bead", "_law_names"]) (n:=1) (ci:=[1,3]) rfl d0.nd rfl rfl (cO rfl T2.rng (aa ak ag))
     (g9.of (so:=ai fY) (N0:=["_law_head", "_law_bead", "_law_numbers", "_law_names", "_law_moves", "_law_sizes", "_law_start", "_law_r", "_law_at", "_law_rules", "_law_k", "_law_mixed_here", "_law_number"]) ⟨rfl,by decide +kernel,by decide +kernel,by decide +kernel,rfl,rfl,by decide +kernel,by decide +kernel⟩)
     (fun z=>⟨aA (i:=0) (bV (N:=["_law_k", "_law_bead", "_law_names"]) (by decide +kernel)) rfl (Or.inl rfl),dH (bb jA (aB pU (aB uv (aB bE (pv 1) ak) (pv 0)) ak) ak (bw _)),aO aV (pv 2) (pv 0) (fun _ _=>rfl)⟩))) aX)
   (aj (aN (i:=9) d0.nd rfl (Or.inl rfl) ix)
   (aj (dA PassesOwn.never rfl (kW rfl T2.enm (aa (pv 2) ag)) (eB rfl (bh (aA (i:=10) d0.nd rfl (Or.inl rfl)) (bh (eB rfl (bh (aA (i:=11) d0.nd rfl (Or.inl rfl)) (bh (aA (i:=12) d0.nd rfl (Or.inl rfl)) dE))) dE)))
    (aj (iG hu (pv 9) (aO aV (pv 4) (pv 10) (fun _ _=>rfl)) (az GS hr1 rfl DS.mg DS.fn.kp DS.bd .nil aJ (aa (pv 11) (aa (pv 5) (aa (pv 3) ag)))) rfl)
    (au (bB (bb jA (aB bF (pv 1) ak) ak (bw _))
     (au (iG hu (pv 9) (aO aV (pv 4) (pv 10) (fun _ _=>rfl)) (az GA hr rfl DA.mg DA.fn.kp DA.bd .nil aJ (aa (pv 12) (aa (pv 3) ag))) rfl)) aX))))
   (au (aK (cz (aa (tS (pv 9)) (aa (pv 6) ag)))))))))),?_⟩
  clear hu
  have h2:0≤hd % 2∧hd % 2<2:=by lia
  have g26:∀ r:Nat,r<2→([2,6]:List Int).getD r 0=2∨([2,6]:List Int).getD r 0=6:=by decide
  have g264:∀ r:Nat,r<2→([2,64]:List Int).getD r 0=2∨([2,64]:List Int).getD r 0=64:=by decide
  refine⟨_,rfl,_,_,rfl,rfl,(by show(0:Int)<2;decide),_,_,rfl,rfl,_,rfl,by lia,by lia,fun z D hD=>cP (lo:=0) (m:=(1+hd % 2).toNat) (fun j ys H2=>∃ ss:List Int,ys=ss.map V.int∧ss.length=j∧(∀ x∈ss,1≤x∧x≤3)∧H2 D=some (.lst ys)∧ao H H2) ⟨[],rfl,rfl,fun x hx=>by simp at hx,ae,af hD⟩ ?_ ?_⟩
  ·rintro j ys H2 hj ⟨ss,rfl,ls,hss,hys,s2⟩
   have ej:(0:Int)+(j:Int)=j:=by lia
   rw [ej]
   refine⟨_,rfl,by show 2≤sizeLine;lia,fun l nl=>?_⟩
   have sl:ao H2 (upd H2 l (.lst (([2,6]:List Int).map V.int))):=af nl
   have hl:(upd H2 l (.lst (([2,6]:List Int).map V.int))) l=some (.lst (([2,6]:List Int).map V.int)):=ae
   have hat:o3 (([2,6]:List Int).map V.int) ((j:Nat):Int)=some (.int (([2,6]:List Int).getD j 0)):=by
    have:=ef (xs:=([2,6]:List Int)) (i:=((j:Nat):Int)) (by lia) (by show _<((2:Nat):Int);lia)
    rwa [Int.toNat_natCast] at this
   have gj:=g26 j (by lia)
   have hys2:=sl _ _ hys
   have s3:=s2.trans sl
   refine⟨_,rfl,l,_,_,_,rfl,rfl,aI.of hl,hat,_,_,rfl,rfl,⟨by lia,by lia⟩,_,_,rfl,rfl,(by show(0:Int)<3;decide),_,_,rfl,rfl,hys2,by rw [List.length_map];lia,ss++[1+hd / ([2,6]:List Int).getD j 0 % 3],?_,by simp [ls],fun x hx=>?_,ae,aD s3 hD⟩
   ·rw [List.map_append]
    rfl
   ·rcases List.mem_append.mp hx with z | z
    ·exact hss x z
    ·have:x=1+hd / ([2,6]:List Int).getD j 0 % 3:=by simpa using z
     lia
  rintro ys H2 ⟨ss,rfl,ls,hss,hsz,s2⟩
  have ls2:ss.length=1∨ss.length=2:=by lia
  dsimp only [dU]
  refine⟨Nat.zero_le _,fun l nl=>?_⟩
  have nl0:H l=none:=s2.free nl
  have s3:ao H2 (upd H2 l (.lst [])):=af nl
  have hl3:(upd H2 l (.lst [])) l=some (.lst (aq [])):=ae
  generalize upd H2 l (.lst [])=H3 at s3 hl3 ⊢
  have hlen:∀ {H':Hp},ao H2 H'→tF K (.ref D) H' ss.length:=fun s=>.inl ⟨_,aI.of (s _ _ hsz),by rw [List.length_map]⟩
  refine⟨_,rfl,_,_,rfl,hlen s3,_,rfl,by lia,by lia,nR (lo:=0) (n:=((ss.length:Nat):Int).toNat) (PaS H2 hd bd a b c D l L)
   ⟨none,none,[],rfl,s3,hl3,⟨.nil,fun x hx=>by simp at hx,Nat.le_refl _⟩⟩ ?_ ?_⟩
  ·rintro i σ H4 hi ⟨v7,v8,st,rfl,sm,hl4,rg⟩
   have hi2:i<ss.length:=by lia
   have sz:1≤ss.getD i 0∧ss.getD i 0≤3:=hss _ (by rw [List.getD_eq_getElem?_getD,List.getElem?_eq_getElem hi2];exact List.getElem_mem _)
   have ezi:(0+((i:Nat):Int))=((i:Nat):Int):=by lia
   rw [ezi]
   have eat:o3 (ss.map V.int) ((i:Nat):Int)=some (.int (ss.getD i 0)):=by
    have:=ef (xs:=ss) (i:=((i:Nat):Int)) (by lia) (by lia)
    rwa [Int.toNat_natCast] at this
   refine⟨_,rfl,by show 2≤sizeLine;lia,fun l2 nl2=>?_⟩
   have sl:ao H4 (upd H4 l2 (.lst [V.int 2,V.int 64])):=af nl2
   have hl2:(upd H4 l2 (.lst [V.int 2,V.int 64])) l2=some (.lst [V.int 2,V.int 64]):=ae
   have hat:o3 [V.int 2,V.int 64] ((i:Nat):Int)=some (.int (([2,64]:List Int).getD i 0)):=by
    have:=ef (xs:=([2,64]:List Int)) (i:=((i:Nat):Int)) (by lia) (by show _<((2:Nat):Int);lia)
    rw [Int.toNat_natCast] at this
    exact this
   have gi:=g264 i (by lia)
   have hl5:=sl _ _ hl4
   have sm5:=sm.trans sl
   refine⟨_,rfl,l2,_,_,_,rfl,rfl,aI.of hl2,hat,_,_,rfl,rfl,⟨by lia,by lia⟩,?_⟩
   dsimp only [dU]
   generalize upd H4 l2 (.lst [V.int 2,V.int 64])=H5 at hl5 sm5 ⊢
   generalize bd / ([2,64]:List Int).getD i 0=at'
   refine⟨_,rfl,_,_,rfl,rfl,⟨by decide,by decide⟩,_,_,rfl,rfl,(by show(0:Int)<8;decide),_,_,rfl,rfl,_,rfl,?_⟩
   refine jb (fun _=>?_) (fun _=>⟨_,_,st,rfl,sm5,hl5,rg.skip⟩)
   have j0:0≤at' % ss.getD i 0∧at' % ss.getD i 0<ss.getD i 0:=⟨Int.emod_nonneg _ (by lia),Int.emod_lt_of_pos _ (by lia)⟩
   have ej:(3*((i:Nat):Int)+at' % ss.getD i 0).toNat=3*i+(at' % ss.getD i 0).toNat:=by lia
   refine⟨_,rfl,.inl ⟨rfl,_,aI.of hl5⟩,_,rfl,_,rfl,_,_,rfl,rfl,.inl ⟨by decide,by decide⟩,_,rfl,_,rfl,_,rfl,D,_,_,_,rfl,rfl,aI.of (sm5 _ _ hsz),eat,_,_,rfl,rfl,(by lia),_,_,rfl,rfl,b,_,_,_,rfl,rfl,(s2.trans sm5).seq hb,dD (by lia) (by lia),l,_,_,rfl,rfl,hl5,?_,?_⟩
   ·rw [ah]
    have:=rg.le
    lia
   rw [ej,cB]
   exact⟨_,_,_,rfl,aD sm5 nl,ae,rg.snoc hnd (by lia) (by lia) (by lia)⟩
  rintro σ H4 ⟨v7,v8,st,rfl,sm4,hl4,rg⟩
  have s4:=s2.trans sm4
  have hsz4:=sm4 _ _ hsz
  dsimp only
  refine jP (PaT H4 hd bd a b c D L) ?_ (fun cont=>?_)
  ·rintro σ H5 ⟨l,v7,v8,st,rfl,sm5,hl5,sn,ssub⟩
   have s5:=s4.trans sm5
   have hsz5:=sm5 _ _ hsz4
   intro d nd
   have nd0:H d=none:=s5.free nd
   have s6:ao H5 (upd H5 d (.dK [])):=af nd
   have hd6:(upd H5 d (.dK [])) d=some (.dK []):=ae
   have hl6:=s6 _ _ hl5
   generalize upd H5 d (.dK [])=H6 at s6 hd6 hl6 ⊢
   obtain⟨qs,hq,hpq⟩:=id ha
   refine⟨_,rfl,a,rfl,⟨_,(s5.trans s6).seq hq⟩,jm (K:=K) (a:=a) (xs:=qs.map V.ref) (Ek H5 hd bd a b c D l d L M st)
    ⟨v7,v8,none,none,none,[],[],rfl,s6,hd6,.nil,rfl,fun m hm=>by simp at hm⟩ (fun i σ H2 _ h=>(s5.trans h.same).seq hq) ?_ ?_⟩
   ·rintro i v p σ H7 hi ⟨v7,v8,v10,v11,v12,kvs,ms,rfl,sm7,hd7,mp,hnm,hst⟩ np
    obtain⟨q,hqi,rfl⟩:=gA hi
    obtain⟨⟨n1,n2⟩,hpi,hqv⟩:=cA hpq hqi
    have hip:i<ps.length:=(List.getElem?_eq_some_iff.mp hpi).1
    have sp:ao H7 (upd H7 p (.tup [.int (i:Int),.ref q])):=af np
    have hq7:(upd H7 p (.tup [.int (i:Int),.ref q])) q=some (.tup [.int n1,.int n2]):=sp _ _ (sm7 _ _ (s5 _ _ hqv))
    refine⟨p,_,rfl,cg.of ae,rfl,_,_,rfl,_,_,rfl,q,_,rfl,cg.of hq7,rfl,_,_,rfl,_,_,rfl,rfl,rfl,?_⟩
    have sm8:=sm7.trans sp
    have hd8:=sp _ _ hd7
    have mp8:=mp.same sp
    generalize upd H7 p (.tup [.int (i:Int),.ref q])=H8 at sp sm8 hd8 mp8 ⊢
    have s8:=s5.trans sm8
    have hnM:M.getD i "" ∉ names ms:=by
     rw [hnm]
     exact lu (aZ huM) (Nat.le_refl _) (by lia)
    have eM:((i:Nat):Int).toNat=i:=Int.toNat_natCast i
    have hkl:∀ {ms':List Mv} {H':Hp} {kv':List (Key × V)},MP H' ms' kv'→ms'.length≤13→kv'.length<sizeLine:=fun h hl=>by have:=Paired.length h;lia
    have lms:ms.length≤12:=by
     have:=congrArg List.length hnm
     unfold names at this
     rw [List.length_map,List.length_take] at this
     lia
    refine⟨_,rfl,_,rfl,_,rfl,n1,D,b,ss,L,rfl,aI.of (sm8 _ _ hsz5),s8.seq hb,ls2,hss,hL,hnd,fun H9 t lt lg tk gv s9 ht hlt hlg hs9=>?_⟩
    have hd9:=s9 _ _ hd8
    have mp9:=mp8.same s9
    have sm9:=sm8.trans s9
    refine⟨_,rfl,_,rfl,_,rfl,c,_,_,_,rfl,rfl,(s5.trans sm9).seq hc,dD (by lia) (by lia),d,_,rfl,nA.k (k:=Sum.inr (M.getD ((i:Nat):Int).toNat "")) hd9 (hkl mp9 (by lia)),?_⟩
    rw [eM,jf _ (mp9.none hnM)]
    have putMP:∀ {H':Hp} {kv0:List (Key × V)} {ms':List Mv} {kvs':List (Key × V)} {o:HO} {t lt lg:Addr} {m:Mv},H' d=some (.dK kv0)→MP H' ms' kvs'→H' t=some (.tup [.ref lt,.ref lg])→H' lt=some (.lst (aq m.2.1))→H' lg=some (.lst (aq m.2.2))→MP (upd H' d o) (ms'++[m]) (kvs'++[(Sum.inr m.1,.ref t)]):=fun {H' kv0 ms' kvs' o t lt lg m} e0 e1 e2 e3 e4 =>
     Paired.snoc (e1.put e0) ⟨rfl,t,lt,lg,rfl,by rw [ar (cv e2 e0 (fun z=>nomatch z))];exact e2,by rw [ar (cv e3 e0 (fun z=>nomatch z))];exact e3,by rw [ar (cv e4 e0 (fun z=>nomatch z))];exact e4⟩
    have mp10:MP (upd H9 d (.dK (kvs++[(Sum.inr (M.getD i ""),V.ref t)]))) (ms++[(M.getD i "",tk,gv)]) (kvs++[(Sum.inr (M.getD i ""),V.ref t)]):=putMP (m:=(M.getD i "",tk,gv)) hd9 mp9 ht hlt hlg
    have mpB:MP (upd H9 d (.dK (kvs++[(Sum.inr (M.getD i ""),V.ref t)]))) ms kvs:=mp9.put hd9
    have sm10:ao H5 (upd H9 d (.dK (kvs++[(Sum.inr (M.getD i ""),V.ref t)]))):=aD sm9 nd
    have hd10:(upd H9 d (.dK (kvs++[(Sum.inr (M.getD i ""),V.ref t)]))) d=some (.dK (kvs++[(Sum.inr (M.getD i ""),V.ref t)])):=ae
    generalize upd H9 d (.dK (kvs++[(Sum.inr (M.getD i ""),V.ref t)]))=H10 at mp10 mpB sm10 hd10 ⊢
    have fin:∀ {H':Hp} {kv':List (Key × V)} {tk gv:List Str},ao H5 H'→H' d=some (.dK kv')→MP H' (ms++[(M.getD i "",tk,gv)]) kv'→CG L tk gv →
      Ek H5 hd bd a b c D l d L M st (i+1) [some (.int hd),some (.int bd),some (.ref a),some (.ref b),some (.ref c),some (.ref D),some (.ref l),v7,v8,some (.ref d),some (.int i),some (.int n1),some (.int n2)] H':=fun {H' kv' tk gv} e1 e2 e3 e4=>by
     refine⟨_,_,_,_,_,kv',ms++[(M.getD i "",tk,gv)],rfl,e1,e2,e3,?_,fun m hm=>?_⟩
     ·unfold names
      rw [List.map_append]
      show names ms++[M.getD i ""]=_
      rw [hnm,ke (by lia)]
     ·rcases List.mem_append.mp hm with z | z
      ·exact hst m z
      ·have:m=(M.getD i "",tk,gv):=by simpa using z
       subst this
       exact e4
    refine⟨_,rfl,_,_,rfl,rfl,(by show(0:Int)<2;decide),rfl,_,rfl,?_⟩
    refine jb (fun _=>?_) (fun _=>fin sm10 hd10 mp10 hs9)
    refine⟨_,rfl,_,rfl,n2,b,L,rfl,(s5.trans sm10).seq hb,hL,huL,fun H11 t2 lt2 lg2 tk2 gv2 s11 ht2 hlt2 hlg2 hs11=>?_⟩
    have hd11:=s11 _ _ hd10
    have mp11:=mp10.same s11
    have sm11:=sm10.trans s11
    refine⟨_,rfl,_,rfl,_,rfl,c,_,_,_,rfl,rfl,(s5.trans sm11).seq hc,dD (by lia) (by lia),d,_,rfl,nA.k (k:=Sum.inr (M.getD ((i:Nat):Int).toNat "")) hd11 (hkl mp11 (by simp;lia)),?_⟩
    rw [eM,vX (mp9.none hnM)]
    exact fin (aD sm11 nd) ae (putMP (m:=(M.getD i "",tk2,gv2)) hd11 (mpB.same s11) ht2 hlt2 hlg2) hs11
   ·rintro σ H7 ⟨v7,v8,v10,v11,v12,kvs,ms,rfl,sm7,hd7,mp,hnm,hst⟩
    rw [List.length_map,← Paired.length hpq] at hnm
    refine⟨_,rfl,d,kvs,rfl,hd7,fun o=>?_⟩
    have mp8:MP (upd H7 d (.frz o (.dK kvs))) ms kvs:=mp.put hd7
    have sm8:ao H5 (upd H7 d (.frz o (.dK kvs))):=aD sm7 nd
    have hd8:(upd H7 d (.frz o (.dK kvs))) d=some (.frz o (.dK kvs)):=ae
    generalize upd H7 d (.frz o (.dK kvs))=H8 at mp8 sm8 hd8 ⊢
    refine⟨_,rfl,by show 2≤sizeLine;lia,fun q nq=>?_⟩
    have sq:ao H8 (upd H8 q (.tup [.ref d,.ref l])):=af nq
    have s8:=s5.trans sm8
    exact kk _ q ms st (s8.trans sq) (s8.free nq) ⟨d,l,ae,⟨o,kvs,sq _ _ hd8,mp8.same sq⟩,sq _ _ (sm8 _ _ hl5)⟩ ⟨hnm,hst,sn,ssub⟩
  ·refine⟨_,rfl,_,_,rfl,rfl,(by show(0:Int)<2;decide),rfl,_,rfl,?_⟩
   refine jb (fun _=>?_) (fun _=>cont _ _ ⟨l,v7,v8,st,rfl,ao.refl _,hl4,rg.nd,fun x hx=>List.mem_of_mem_take (rg.sub x hx)⟩)
   refine⟨_,rfl,by decide,by decide,fun z D2 hD2=>cP (lo:=0) (m:=6) (fun j ys H5=>∃ R:List Str,ys=aq R∧R.Sublist (L.take j)∧H5 D2=some (.lst ys)∧ao H4 H5) ⟨[],rfl,List.nil_sublist _,ae,af hD2⟩ ?_ ?_⟩
   ·rintro j ys H5 hj ⟨R,rfl,sb,hys,s5⟩
    have ej:(0:Int)+(j:Int)=j:=by lia
    rw [ej]
    have lR:=sb.length_le
    rw [List.length_take] at lR
    refine⟨_,rfl,_,_,rfl,rfl,⟨by decide,by decide⟩,_,rfl,_,_,rfl,rfl,(by lia),_,_,rfl,rfl,rfl,_,rfl,?_⟩
    refine jb (fun _=>?_) (fun _=>⟨R,rfl,mZ sb (by lia),hys,s5⟩)
    refine⟨_,rfl,_,rfl,b,_,_,_,rfl,rfl,(s4.trans s5).seq hb,dD (by lia) (by lia),hys,by rw [ah];lia,R++[L.getD j ""],?_,sub_snoc sb (by lia),ae,aD s5 hD2⟩
    rw [Int.toNat_natCast,cB]
   rintro ys H5 ⟨R,rfl,sb,hys,s5⟩
   have sb:R.Sublist L:=sb.trans (List.take_sublist _ _)
   exact cont _ _ ⟨D2,v7,v8,R,rfl,s5,hys,hnd.sublist sb,fun x hx=>sb.subset hx⟩
end
end Uf
end
section
namespace Uf
open PySem L2 UfSrt UfFin
abbrev nE:Stmt:=top 41
abbrev iS:Stmt:=top 42
theorem hX(xs:List V)(k:Nat):eD xs (some (k:Int)) none=xs.drop k:=by
 unfold eD
 have e1:HT.je xs.length 0 (some (k:Int))=min k xs.length:=HT.gU _ _ k
 have e2:HT.je xs.length xs.length none=xs.length:=HT.mS _ _
 rw [e1,e2]
 rcases Nat.le_total k xs.length with h | h
 ·rw [Nat.min_eq_left h,List.take_of_length_le (by rw [List.length_drop];lia)]
 ·rw [Nat.min_eq_right h,List.drop_of_length_le h,List.drop_length]
  simp
theorem mL(xs:List V)(k:Nat):eD xs none (some (k:Int))=xs.take k:=by
 unfold eD
 have e1:HT.je xs.length 0 none=0:=HT.mS _ _
 have e2:HT.je xs.length xs.length (some (k:Int))=min k xs.length:=HT.gU _ _ k
 rw [e1,e2,List.drop_zero,Nat.sub_zero]
 rcases Nat.le_total k xs.length with h | h
 ·rw [Nat.min_eq_left h]
 ·rw [Nat.min_eq_right h,List.take_length,List.take_of_length_le h]
theorem Paired.take{α β:Type}{F:α→β→Prop}:∀ {l:List α} {m:List β} (n:Nat),Paired F l m→Paired F (l.take n) (m.take n)
 | _,_,0,_=>by simp;exact .nil
 | _,_,_+1,.nil=>.nil
 | _,_,n+1,.cons h t=>.cons h (Paired.take n t)
theorem Paired.drop{α β:Type}{F:α→β→Prop}:∀ {l:List α} {m:List β} (n:Nat),Paired F l m→Paired F (l.drop n) (m.drop n)
 | _,_,0,h=>h
 | _,_,_+1,.nil=>.nil
 | _,_,n+1,.cons h t=>Paired.drop n t
theorem uH{H:Hp}:∀ {zs cs:List Int} {as:List Addr},as.length=min zs.length cs.length→(∀ (j:Nat) a,as[j]?=some a→∃ x y,(zs.map V.int)[j]?=some x∧(cs.map V.int)[j]?=some y∧H a=some (.tup [x,y]))→Paired (fun(p:Int × Int) q=>H q=some (.tup [.int p.1,.int p.2])) (zs.zip cs) as
 | [],_,[],_,_=>.nil
 | _::_,[],[],_,_=>.nil
 | [],_,_::_,h,_=>by simp at h
 | _::_,[],_::_,h,_=>by simp at h
 | _::_,_::_,[],h,_=>by simp at h
 | z::zs,c::cs,a::as,h,k=>by
  obtain⟨x,y,e1,e2,e3⟩:=k 0 a rfl
  have e1:V.int z=x:=by simpa using e1
  have e2:V.int c=y:=by simpa using e2
  subst e1 e2
  rw [List.zip_cons_cons]
  refine .cons e3 (uH (by simp at h ⊢;lia) fun j b hj=>?_)
  obtain⟨x,y,f1,f2,f3⟩:=k (j+1) b (by simpa using hj)
  exact⟨x,y,by simpa using f1,by simpa using f2,f3⟩
structure cZ(L1 L2:List Str)(ms1:List Mv)(st1:List Str)(ms2:List Mv)(st2:List Str):Prop where
 u:unlike (L1++L2)=true
 l1:L1.length=6
 l2:L2.length=6
 a1:t6 L1 ms1 st1 (names ms1)
 a2:t6 L2 ms2 st2 (names ms2)
 n1:unlike (names ms1)=true
 n2:unlike (names ms2)=true
 m1:ms1.length≤4
 m2:ms2.length≤4
section
variable {P:Program}{w:World}{K:PySem.W.Frag}{mg:Str→Option Value}{base:Heap}
def A7(K:PySem.W.Frag):Sp:=fun vs H Q _=>∃ (a:Addr) (ns:List Int),vs=[.ref a]∧aI K H a (ns.map V.int)∧ns.length≤63 ∧
 ∀ H' q p1 p2 L1 L2 ms1 st1 ms2 st2,ao H H'→H q=none→H' q=some (.lst [.ref p1,.ref p2])→cF H' p1 ms1 st1→cF H' p2 ms2 st2→cZ L1 L2 ms1 st1 ms2 st2→Q (.ref q) H'
theorem iz:aU ["_law_script", "_law_naming", "_law_names", "_law_moves", "_law_many", "_law_numbers", "_law_shift", "_law_half_way", "_law_one", "_law_head", "_law_other"] ["_law_script"] (ai nE):=⟨rfl,rfl,rfl,by decide +kernel,rfl,by decide +kernel,by decide +kernel⟩
theorem Bm{f fC fN fF fP:Addr}{fd fdC fdN fdF fdP:FuncData}(F:dW K "_law_two" "_law_two" nE f fd)(T:Txt K mg)(T2:Txt2 mg)(T3:Au mg)
  (DC:Def K mg "_law_cell_at" iN ["_law_script", "_law_k"] fC fdC) (GC:aH P w K mg base bX 1 fC fdC ["_law_script", "_law_k"] (p4 K))
  (DN:Def K mg "_law_name" jG ["_law_cell", "_law_k"] fN fdN) (GN:aH P w K mg base bX 1 fN fdN ["_law_cell", "_law_k"] sJ)
  (DF:Def K mg "_law_folded" fJ ["_law_cells", "_law_many"] fF fdF) (GF:aH P w K mg base bX 1 fF fdF ["_law_cells", "_law_many"] (rW K))
  (DP:Def K mg "_law_parts" fY ["_law_head", "_law_bead", "_law_numbers", "_law_names", "_law_moves"] fP fdP) (GP:aH P w K mg base bX 3 fP fdP ["_law_head", "_law_bead", "_law_numbers", "_law_names", "_law_moves"] (vq K)) :
  aH P w K mg base bX 4 f fd ["_law_script"] (A7 K):=by
 refine F.ok iz (fun vs H Q E h=>?_) (fun cdv A outer s H vs Q E hr h=>?_)
 ·obtain⟨a,ns,rfl,_⟩:=h
  rfl
 ·obtain⟨a,ns,rfl,ha,hz,kk⟩:=h
  have hsl:=PySem.sizeLine_eq
  have hr1:bR 1 _:=hr.mono (by decide)
  refine⟨_,aj (aN (i:=1) iz.nd rfl (Or.inr rfl) (az GC hr1 rfl DC.mg DC.fn.kp DC.bd .nil aJ (aa (pv 0) (aa ak ag))))
   (aj (dP (j:=2) (N:=["_law_k", "_law_naming"]) (n:=1) (ci:=[1]) rfl iz.nd rfl rfl (cO rfl T2.rng (aa ak ag))
    (g9.of (so:=ai nE) (N0:=["_law_script", "_law_naming", "_law_names", "_law_moves", "_law_many", "_law_numbers", "_law_shift", "_law_half_way", "_law_one", "_law_head", "_law_other"]) ⟨rfl,by decide +kernel,by decide +kernel,by decide +kernel,rfl,rfl,by decide +kernel,by decide +kernel⟩)
    (fun z=>⟨aA (i:=0) (bV (N:=["_law_k", "_law_naming"]) (by decide +kernel)) rfl (Or.inl rfl),bP,az GN hr1 rfl DN.mg DN.fn.kp DN.bd .nil aJ (aa (pv 1) (aa (pv 0) ag))⟩))
   (aj (dP (j:=3) (N:=["_law_k", "_law_naming"]) (n:=1) (ci:=[1]) rfl iz.nd rfl rfl (cO rfl T2.rng (aa ak ag))
    (g9.of (so:=ai nE) (N0:=["_law_script", "_law_naming", "_law_names", "_law_moves", "_law_many", "_law_numbers", "_law_shift", "_law_half_way", "_law_one", "_law_head", "_law_other"]) ⟨rfl,by decide +kernel,by decide +kernel,by decide +kernel,rfl,rfl,by decide +kernel,by decide +kernel⟩)
    (fun z=>⟨aA (i:=0) (bV (N:=["_law_k", "_law_naming"]) (by decide +kernel)) rfl (Or.inl rfl),bP,az GN hr1 rfl DN.mg DN.fn.kp DN.bd .nil aJ (aa (aB bE (pv 1) ak) (aa (pv 0) ag))⟩))
   (aj (aN (i:=4) iz.nd rfl (Or.inl rfl) (aF (wL rfl) rfl T3.min CV (aa ak (aa (aF bG rfl T.len dB (aa (bH ck (pv 0) (bK ak) cL) ag)) ag))))
   (aj (aN (i:=5) iz.nd rfl (Or.inl rfl) (tP rfl rfl T.lst cY rfl T3.zip (aa (az GF hr1 rfl DF.mg DF.fn.kp DF.bd .nil aJ (aa (bH ck (pv 0) (bK ak) cL) (aa (pv 4) ag))) (aa (bH ck (pv 0) (bK ak) cL) ag))))
   (aj (aN (i:=6) iz.nd rfl (Or.inl rfl) (aB bF (aB bE (az GC hr1 rfl DC.mg DC.fn.kp DC.bd .nil aJ (aa (pv 0) (aa ak ag))) ak) ak))
   (aj (aN (i:=7) iz.nd rfl (Or.inl rfl) (aB bE (aB di (pv 4) ak) ak))
   (aj (aN (i:=8) iz.nd rfl (Or.inl rfl) (az GP hr rfl DP.mg DP.fn.kp DP.bd .nil aJ (aa (az GC hr1 rfl DC.mg DC.fn.kp DC.bd .nil aJ (aa (pv 0) (aa ak ag))) (aa (az GC hr1 rfl DC.mg DC.fn.kp DC.bd .nil aJ (aa (pv 0) (aa ak ag))) (aa (bH ck (pv 5) cL (bK (pv 7))) (aa (bH ck (pv 2) cL (bK ak)) (aa (pv 3) ag)))))))
   (aj (aN (i:=9) iz.nd rfl (Or.inl rfl) (aB bE (az GC hr1 rfl DC.mg DC.fn.kp DC.bd .nil aJ (aa (pv 0) (aa ak ag))) ak))
   (aj (aN (i:=10) iz.nd rfl (Or.inl rfl) (az GP hr rfl DP.mg DP.fn.kp DP.bd .nil aJ (aa (pv 9) (aa (aB bE (az GC hr1 rfl DC.mg DC.fn.kp DC.bd .nil aJ (aa (pv 0) (aa ak ag))) ak) (aa (bH ck (pv 5) (bK (pv 7)) cL) (aa (bH ck (pv 2) (bK ak) cL) (aa (bH ck (pv 3) (bK (pv 6)) cL) ag)))))))
   (au (aK (bj (aa (pv 8) (aa (pv 10) ag)))))))))))))),?_⟩
  have cell:∀ {H':Hp},ao H H'→aI K H' a (ns.map V.int):=fun s=>s.seq ha
  refine⟨_,rfl,a,ns,1,rfl,ha,hz,?_⟩
  generalize ns.getD 1 0=c
  refine⟨_,rfl,by decide,by decide,fun z D1 hD1=>cP (lo:=0) (m:=12) (fun j ys H2=>ys=aq (qC c j)∧H2 D1=some (.lst ys)∧ao H H2) ⟨rfl,ae,af hD1⟩ ?_ ?_⟩
  ·rintro j ys H2 hj ⟨rfl,hys,s2⟩
   rw [show(0:Int)+(j:Int)=j from Int.zero_add _]
   refine⟨_,rfl,_,rfl,c,j,rfl,by lia,hys,by rw [ah,fz];lia,?_,ae,aD s2 hD1⟩
   rw [ju,cB]
  rintro ys H1 ⟨rfl,hN,s1⟩
  have uN:=gJ c (n:=12) (by decide)
  have lN:=fz c 12
  have hN:H1 D1=some (.lst (aq (qC c 12))):=hN
  generalize qC c 12=Nm at hN uN lN
  dsimp only [dU]
  refine⟨_,rfl,by decide,by decide,fun z D2 hD2=>cP (lo:=0) (m:=9) (fun j ys H2=>ys=aq (qC (c / 4048) j)∧H2 D2=some (.lst ys)∧ao H1 H2) ⟨rfl,ae,af hD2⟩ ?_ ?_⟩
  ·rintro j ys H2 hj ⟨rfl,hys,s2⟩
   rw [show(0:Int)+(j:Int)=j from Int.zero_add _]
   refine⟨_,rfl,_,_,rfl,rfl,⟨by decide,by decide⟩,_,rfl,c / 4048,j,rfl,by lia,hys,by rw [ah,fz];lia,?_,ae,aD s2 hD2⟩
   rw [ju,cB]
  rintro ys H2 ⟨rfl,hM,s2⟩
  have uM:=gJ (c / 4048) (n:=9) (by decide)
  have lM:=fz (c / 4048) 9
  have hM:H2 D2=some (.lst (aq (qC (c / 4048) 9))):=hM
  generalize qC (c / 4048) 9=M at hM uM lM
  dsimp only [dU]
  have s02:=s1.trans s2
  have hN2:=s2 _ _ hN
  have e3:eD (ns.map V.int) (some (3:Int)) none=(ns.drop 3).map V.int:=by
   have:=hX (ns.map V.int) 3
   rw [List.map_drop]
   exact this
  generalize hcs:ns.drop 3=cs at e3
  have lcs:cs.length≤60:=by rw [← hcs,List.length_drop];lia
  refine⟨_,rfl,_,rfl,a,_,rfl,cell s02,fun q3 n3=>?_⟩
  rw [e3]
  have s3:ao H2 (upd H2 q3 (.lst (cs.map V.int))):=af n3
  have hq3:(upd H2 q3 (.lst (cs.map V.int))) q3=some (.lst (cs.map V.int)):=ae
  generalize upd H2 q3 (.lst (cs.map V.int))=H3 at s3 hq3 ⊢
  have s03:=s02.trans s3
  refine⟨_,cs.length,rfl,.inl ⟨_,aI.of hq3,by rw [List.length_map]⟩,_,_,rfl,?_⟩
  have em:(if ((cs.length:Nat):Int)<8 then((cs.length:Nat):Int) else 8)=((min 8 cs.length:Nat):Int):=by
   split
   ·lia
   ·lia
  rw [em]
  generalize hmn:min 8 cs.length=mn
  refine⟨_,rfl,_,rfl,a,_,rfl,cell s03,fun q4 n4=>?_⟩
  rw [e3]
  have s4:ao H3 (upd H3 q4 (.lst (cs.map V.int))):=af n4
  have hq4:(upd H3 q4 (.lst (cs.map V.int))) q4=some (.lst (cs.map V.int)):=ae
  generalize upd H3 q4 (.lst (cs.map V.int))=H4 at s4 hq4 ⊢
  have s04:=s03.trans s4
  refine⟨_,rfl,q4,cs,mn,rfl,aI.of hq4,by lia,fun z=>List.eq_nil_of_length_eq_zero (by lia),fun H5 q5 zs s5 nq5 hq5 hzl=>?_⟩
  have s05:=s04.trans s5
  refine⟨_,rfl,_,rfl,a,_,rfl,cell s05,fun q6 n6=>?_⟩
  rw [e3]
  have s6:ao H5 (upd H5 q6 (.lst (cs.map V.int))):=af n6
  have hq6:(upd H5 q6 (.lst (cs.map V.int))) q6=some (.lst (cs.map V.int)):=ae
  have hq56:=s6 _ _ hq5
  generalize upd H5 q6 (.lst (cs.map V.int))=H6 at s6 hq6 hq56 ⊢
  have s06:=s05.trans s6
  refine⟨q5,q6,_,_,rfl,aI.of hq56,aI.of hq6,fun H7 q7 as s7 nq7 hq7 hal hat=>?_⟩
  rw [List.length_map,List.length_map] at hal
  have s07:=s06.trans s7
  have pa:=uH hal hat
  have lpa:=Paired.length pa
  generalize hps:zs.zip cs=ps at pa lpa
  have lps:ps.length=mn:=by lia
  dsimp only [dU]
  refine⟨_,rfl,a,ns,0,rfl,cell s07,hz,_,_,rfl,rfl,⟨by decide,by decide⟩,_,_,rfl,rfl,(by show(0:Int)<5;decide),?_⟩
  have sh0:0≤ns.getD 0 0 / 400 % 5∧ns.getD 0 0 / 400 % 5<5:=by lia
  obtain⟨sh,esh⟩:=Int.eq_ofNat_of_zero_le sh0.1
  rw [esh] at sh0
  dsimp only [dU]
  rw [esh]
  refine⟨_,rfl,_,_,rfl,rfl,_,_,rfl,rfl,⟨by decide,by decide⟩,?_⟩
  have ehw:(((mn:Nat):Int)+1) / 2=(((mn+1) / 2:Nat):Int):=by lia
  dsimp only [dU]
  rw [ehw]
  generalize hhw:(mn+1) / 2=hw
  have hN7:=(s3.trans (s4.trans (s5.trans (s6.trans s7)))) _ _ hN2
  have hM7:=(s3.trans (s4.trans (s5.trans (s6.trans s7)))) _ _ hM
  refine⟨_,rfl,a,ns,0,rfl,cell s07,hz,_,rfl,a,ns,2,rfl,cell s07,hz,_,rfl,_,rfl,_,rfl,q7,_,rfl,aI.of hq7,fun q8 n8=>?_⟩
  have e8:eD (as.map V.ref) none (some ((hw:Nat):Int))=(as.take hw).map V.ref:=by rw [mL,List.map_take]
  rw [e8]
  have s8:ao H7 (upd H7 q8 (.lst ((as.take hw).map V.ref))):=af n8
  have hq8:(upd H7 q8 (.lst ((as.take hw).map V.ref))) q8=some (.lst ((as.take hw).map V.ref)):=ae
  generalize upd H7 q8 (.lst ((as.take hw).map V.ref))=H8 at s8 hq8 ⊢
  refine⟨_,rfl,_,rfl,D1,_,rfl,aI.of (s8 _ _ hN7),fun q9 n9=>?_⟩
  have e9:eD (aq Nm) none (some (6:Int))=aq (Nm.take 6):=by
   have:=mL (aq Nm) 6
   unfold aq at this ⊢
   rw [List.map_take]
   exact this
  rw [e9]
  have s9:ao H8 (upd H8 q9 (.lst (aq (Nm.take 6)))):=af n9
  have hq9:(upd H8 q9 (.lst (aq (Nm.take 6)))) q9=some (.lst (aq (Nm.take 6))):=ae
  generalize upd H8 q9 (.lst (aq (Nm.take 6)))=H9 at s9 hq9 ⊢
  have s79:=s8.trans s9
  have uN6:=ia uN 6
  have uN62:unlike (Nm.drop 6)=true:=bM uN ((aZ uN).sublist (List.drop_sublist _ _)) fun y hy=>List.mem_of_mem_drop hy
  refine⟨_,rfl,_,_,q8,q9,D2,ps.take hw,Nm.take 6,M,rfl,⟨as.take hw,aI.of (s9 _ _ hq8),Paired.il (Paired.take hw pa) fun _ _ e=>s79 _ _ e⟩,aI.of hq9,aI.of (s79 _ _ hM7),by rw [List.length_take];lia,by lia,uM,by rw [List.length_take];lia,uN6,fun H10 p1 ms1 st1 s10 np1 hp1 hh1=>?_⟩
  have s7A:=s79.trans s10
  have s0A:=s07.trans s7A
  refine⟨_,rfl,a,ns,0,rfl,cell s0A,hz,_,_,rfl,rfl,⟨by decide,by decide⟩,?_⟩
  refine⟨_,rfl,_,rfl,a,ns,2,rfl,cell s0A,hz,_,_,rfl,rfl,⟨by decide,by decide⟩,_,rfl,_,rfl,_,rfl,q7,_,rfl,aI.of (s7A _ _ hq7),fun q11 n11=>?_⟩
  have e11:eD (as.map V.ref) (some ((hw:Nat):Int)) none=(as.drop hw).map V.ref:=by rw [hX,List.map_drop]
  rw [e11]
  have s11:ao H10 (upd H10 q11 (.lst ((as.drop hw).map V.ref))):=af n11
  have hq11:(upd H10 q11 (.lst ((as.drop hw).map V.ref))) q11=some (.lst ((as.drop hw).map V.ref)):=ae
  generalize upd H10 q11 (.lst ((as.drop hw).map V.ref))=H11 at s11 hq11 ⊢
  have s7B:=s7A.trans s11
  refine⟨_,rfl,_,rfl,D1,_,rfl,aI.of (s7B _ _ hN7),fun q12 n12=>?_⟩
  have e12:eD (aq Nm) (some (6:Int)) none=aq (Nm.drop 6):=by
   have:=hX (aq Nm) 6
   unfold aq at this ⊢
   rw [List.map_drop]
   exact this
  rw [e12]
  have s12:ao H11 (upd H11 q12 (.lst (aq (Nm.drop 6)))):=af n12
  have hq12:(upd H11 q12 (.lst (aq (Nm.drop 6)))) q12=some (.lst (aq (Nm.drop 6))):=ae
  generalize upd H11 q12 (.lst (aq (Nm.drop 6)))=H12 at s12 hq12 ⊢
  have s7C:=s7B.trans s12
  refine⟨_,rfl,_,rfl,_,rfl,D2,_,rfl,aI.of (s7C _ _ hM7),fun q13 n13=>?_⟩
  have e13:eD (aq M) (some ((sh:Nat):Int)) none=aq (M.drop sh):=by
   rw [hX]
   unfold aq
   rw [List.map_drop]
  rw [e13]
  have s13:ao H12 (upd H12 q13 (.lst (aq (M.drop sh)))):=af n13
  have hq13:(upd H12 q13 (.lst (aq (M.drop sh)))) q13=some (.lst (aq (M.drop sh))):=ae
  generalize upd H12 q13 (.lst (aq (M.drop sh)))=H13 at s13 hq13 ⊢
  have s7D:=s7C.trans s13
  have uMs:unlike (M.drop sh)=true:=bM uM ((aZ uM).sublist (List.drop_sublist _ _)) fun y hy=>List.mem_of_mem_drop hy
  refine⟨_,_,q11,q12,q13,ps.drop hw,Nm.drop 6,M.drop sh,rfl,⟨as.drop hw,aI.of (s13 _ _ (s12 _ _ hq11)),Paired.il (Paired.drop hw pa) fun _ _ e=>s7D _ _ e⟩,aI.of (s13 _ _ hq12),aI.of hq13,by rw [List.length_drop,List.length_drop];lia,by rw [List.length_drop];lia,uMs,by rw [List.length_drop];lia,uN62,fun H14 p2 ms2 st2 s14 np2 hp2 hh2=>?_⟩
  have s7E:=s7D.trans s14
  have sAE:ao H10 H14:=(s11.trans (s12.trans s13)).trans s14
  refine⟨_,rfl,_,rfl,by show 2≤sizeLine;lia,fun q nq=>?_⟩
  have sq:ao H14 (upd H14 q (.lst [.ref p1,.ref p2])):=af nq
  have sAll:=s07.trans s7E
  have lt1:ms1.length≤4:=by
   have:=congrArg List.length hh1.nm
   unfold names at this
   rw [List.length_map,List.length_take,List.length_take] at this
   lia
  have lt2:ms2.length≤4:=by
   have:=congrArg List.length hh2.nm
   unfold names at this
   rw [List.length_map,List.length_take,List.length_drop,List.length_drop] at this
   lia
  refine kk _ q p1 p2 (Nm.take 6) (Nm.drop 6) ms1 st1 ms2 st2 (sAll.trans sq) (sAll.free nq) ae (hp1.same (sAE.trans sq)) (hp2.same sq) ⟨by rw [List.take_append_drop];exact uN,by rw [List.length_take];lia,by rw [List.length_drop];lia,⟨rfl,hh1.mv,hh1.sn,hh1.ss⟩,⟨rfl,hh2.mv,hh2.sn,hh2.ss⟩,?_,?_,lt1,lt2⟩
  ·rw [hh1.nm]
   exact ia uM _
  ·rw [hh2.nm]
   exact ia uMs _
def sH(K:PySem.W.Frag)(C:Addr):Sp:=fun vs H Q _=>∃ (p:Addr) (ms:List Mv) (st:List Str),vs=[.ref p]∧cF H p ms st∧dw ms st=true∧Fits ms st∧∀ H' q,ao H H'→H q=none→cj C H' q ms st→Q (.ref q) H'
theorem A9:aU ["_law_part"] ["_law_part"] (ai iS):=⟨rfl,rfl,rfl,by decide +kernel,rfl,by decide +kernel,by decide +kernel⟩
theorem eT.wG{H H4:Hp}{d:Addr}{ms:List Mv}{m:Mv}(h:eT H d ms)(hn:(names ms).Nodup)(hm:m∈ms)(s4:ao H H4):∃ t l g,gW H4 d (.str m.1) (some (.ref t))∧H4 t=some (.tup [.ref l,.ref g])∧H4 l=some (.lst (aq m.2.1))∧H4 g=some (.lst (aq m.2.2)):=by
 obtain⟨v,dg,t,l,g,rfl,ht,hl,hg⟩:=(h.same s4).get hn hm
 exact⟨t,l,g,dg,ht,hl,hg⟩
theorem zP{f C fI:Addr}{fd fdI:FuncData}(F:dW K "_law_net" "_law_net" iS f fd)(mgC:mg "Net"=some (.ref C))
  (M:Mk K C fI) (bI:Binds K fdI ["self", "moves", "start"] []) (GI:aH P w K mg base bX 5 fI fdI ["self", "moves", "start"] (tN K C)) :
  aH P w K mg base bX 7 f fd ["_law_part"] (sH K C):=by
 refine F.ok A9 (fun vs H Q E h=>?_) (fun cdv A outer s H vs Q E hr h=>?_)
 ·obtain⟨p,ms,st,rfl,_⟩:=h
  rfl
 ·obtain⟨p,ms,st,rfl,hp,hmk,hfit,kk⟩:=h
  have hsl:=PySem.sizeLine_eq
  have hu:=eI hr
  refine⟨_,au (aK (p8 M GI hr rfl mgC bI .nil aJ (aa (bJ (N:=["_law_move", "_law_part"]) (n:=1) (ci:=[0]) rfl (k0 (aO bo (pv 0) ak (fun _ _=>rfl)))
    (g9.of (so:=ai iS) (N0:=["_law_part"]) ⟨rfl,by decide +kernel,by decide +kernel,by decide +kernel,rfl,rfl,by decide +kernel,by decide +kernel⟩)
    (fun z=>⟨aA (i:=0) (bV (N:=["_law_move", "_law_part"]) (by decide +kernel)) rfl (Or.inl rfl),bP,cz (aa (pv 0) (aa (aO bo (dS hu (aO bo (pv 1) ak (fun _ _=>rfl)) (pv 0) (fun _ _=>rfl)) ak (fun _ _=>rfl)) (aa (aO bo (dS hu (aO bo (pv 1) ak (fun _ _=>rfl)) (pv 0) (fun _ _=>rfl)) ak (fun _ _=>rfl)) ag)))⟩)) (aa (aO bo (pv 0) ak (fun _ _=>rfl)) ag)))),?_⟩
  clear hu
  have so:=mw hmk
  obtain⟨d,l,hpt,md,hl⟩:=hp
  obtain⟨o,kvs,hd,mp⟩:=id md
  have lk:kvs.length=ms.length:=(Paired.length mp).symm
  have lm:=so.ml
  refine⟨_,rfl,p,_,0,_,rfl,rfl,cg.of hpt,aE (j:=0) rfl,d,o,kvs,rfl,hd,fun z D hD=>ki (a:=d) (o:=o) (kvs:=kvs) (fun i ys H4=>∃ qs:List Addr,ys=qs.map V.ref∧H4 D=some (.lst ys)∧ao H H4∧Paired (fun(m:Mv) q=>∃ l g,H4 q=some (.tup [.str m.1,.ref l,.ref g])∧H l=some (.lst (aq m.2.1))∧H g=some (.lst (aq m.2.2))) (ms.take i) qs) ⟨[],rfl,ae,af hD,.nil⟩ (fun i ys H4 _ ⟨_,_,_,s4,_⟩=>s4 _ _ hd) ?_ ?_⟩
  ·rintro i k v ys H4 hk ⟨qs,rfl,hys,s4,pq⟩
   obtain⟨m,hm,ek,hv⟩:=cA mp hk
   have ek:k=Sum.inr m.1:=ek
   subst ek
   have hmem:=List.mem_of_getElem? hm
   obtain⟨v',dg0,t,l',g',rfl,ht,hl',hg'⟩:=md.get so.nd hmem
   have dg3:gW H4 d (.str m.1) (some (.ref t)):=by
    rcases dg0 with⟨kv,k,e1,e2,e3⟩ | ⟨_,_,_,_,e2,_⟩
    ·refine .inl ⟨kv,k,?_,e2,e3⟩
     rcases e1 with e1 | ⟨oo,e1⟩
     ·exact .inl (s4 _ _ e1)
     ·exact .inr ⟨oo,s4 _ _ e1⟩
    ·cases e2
   have hlen:(qs.map V.ref).length<sizeLine:=by
    have:=Paired.length pq
    rw [List.length_take] at this
    rw [List.length_map]
    lia
   refine⟨_,rfl,_,rfl,p,_,0,_,rfl,rfl,cg.of (s4 _ _ hpt),aE (j:=0) rfl,_,rfl,d,_,rfl,dg3,t,_,0,_,rfl,rfl,cg.of (s4 _ _ ht),aE (j:=0) rfl,_,rfl,p,_,0,_,rfl,rfl,cg.of (s4 _ _ hpt),aE (j:=0) rfl,_,rfl,d,_,rfl,dg3,t,_,1,_,rfl,rfl,cg.of (s4 _ _ ht),aE (j:=1) rfl,by show 3≤sizeLine;lia,fun q nq=>?_⟩
   have s5:ao H4 (upd H4 q (.tup [kV (Sum.inr m.1),.ref l',.ref g'])):=af nq
   have hq5:(upd H4 q (.tup [kV (Sum.inr m.1),.ref l',.ref g'])) q=some (.tup [.str m.1,.ref l',.ref g']):=ae
   generalize upd H4 q (.tup [kV (Sum.inr m.1),.ref l',.ref g'])=H5 at s5 hq5 ⊢
   have hys5:=s5 _ _ hys
   refine⟨hys5,hlen,qs++[q],by rw [List.map_append];rfl,ae,aD (s4.trans s5) hD,?_⟩
   rw [av hm]
   refine Paired.snoc (Paired.il pq fun m q ⟨l,g,e1,e2,e3⟩=>⟨l,g,?_,e2,e3⟩) ⟨l',g',?_,hl',hg'⟩
   ·rw [ar (cv (s5 _ _ e1) hys5 (fun z=>nomatch z))]
    exact s5 _ _ e1
   ·rw [ar (cv hq5 hys5 (fun z=>nomatch z))]
    exact hq5
  ·rintro ys H4 ⟨qs,rfl,hys,s4,pq⟩
   rw [lk,List.take_length] at pq
   refine⟨_,rfl,p,_,1,_,rfl,rfl,cg.of (s4 _ _ hpt),aE (j:=1) rfl,?_⟩
   intro x dx nx ndx nex
   have sn:ao H4 (upd (upd H4 dx (.own x)) x (.ins C dx [])):=fun b o e=>by
    rw [ar (ay e nx),ar (ay e ndx)]
    exact e
   refine⟨x,dx,D,l,ms,st,rfl,ae,⟨qs,aI.of (sn _ _ hys),Paired.il pq fun m q ⟨l,g,e1,e2,e3⟩=>⟨l,g,sn _ _ e1,sn _ _ (s4 _ _ e2),sn _ _ (s4 _ _ e3)⟩⟩,aI.of (sn _ _ (s4 _ _ hl)),hfit,hmk,fun H5 NA kp=>⟨rfl,?_⟩⟩
   have s45:ao H4 H5:=fun b o e=>kp b o (sn b o e) (ay e nx)
   exact kk H5 x (s4.trans s45) (s4.free nx) ⟨NA,so⟩
end
end Uf
end
section
namespace Uf
open PySem L2 UfSrt UfFin
abbrev km:Stmt:=top 43
def ir(m a:Mv):Mv:=if a.1=m.1 then(a.1,a.2.1++m.2.1,a.2.2++m.2.2) else a
def bZ(acc:List Mv)(m:Mv):List Mv:=if m.1∈names acc then acc.map (ir m) else acc++[m]
def eU(ms1 ms2:List Mv):List Mv:=ms2.foldl bZ (ms1.foldl bZ [])
theorem sF(m a:Mv):(ir m a).1=a.1:=by unfold ir;split <;> rfl
theorem wI(m:Mv)(acc:List Mv):names (acc.map (ir m))=names acc:=by
 unfold names
 rw [List.map_map]
 exact List.map_congr_left fun a _=>sF m a
theorem o4(acc:List Mv)(m:Mv):names (bZ acc m)=if m.1∈names acc then names acc else names acc++[m.1]:=by
 unfold bZ
 split
 ·exact wI m acc
 ·unfold names
  rw [List.map_append]
  rfl
theorem mi:∀ {ms:List Mv} {acc:List Mv},(names acc++names ms).Nodup→ms.foldl bZ acc=acc++ms
 | [],acc,_=>by simp
 | m::ms,acc,h=>by
  have hm:m.1∉names acc:=fun z=>by
   have h3:=(List.nodup_append.mp h).2.2 _ z m.1 (by show m.1∈m.1::names ms;exact List.mem_cons_self)
   exact h3 rfl
  rw [List.foldl_cons]
  have e:bZ acc m=acc++[m]:=by unfold bZ;rw [if_neg hm]
  rw [e,mi (by
   have e2:names (acc++[m])=names acc++[m.1]:=by unfold names;rw [List.map_append];rfl
   rw [e2,List.append_assoc]
   exact h)]
  simp
structure t8(ms1 ms2 bs:List Mv):Prop where
 nd:(names bs).Nodup
 nm:∀ x,x∈names bs↔x∈names ms1∨x∈names ms2
 tk:∀ m∈bs,m.2.1=bA ms1 m.1++bA ms2 m.1
 gv:∀ m∈bs,m.2.2=bC ms1 m.1++bC ms2 m.1
theorem dM{ms:List Mv}{x:Str}(h:x∉names ms):bA ms x=[]:=by
 unfold bA
 rw [List.find?_eq_none.mpr fun m hm z=>h (List.mem_map.mpr ⟨m,hm,by simpa using z⟩)]
 rfl
theorem dN{ms:List Mv}{x:Str}(h:x∉names ms):bC ms x=[]:=by
 unfold bC
 rw [List.find?_eq_none.mpr fun m hm z=>h (List.mem_map.mpr ⟨m,hm,by simpa using z⟩)]
 rfl
theorem oh(ms:List Mv)(m:Mv)(x:Str)(h:x≠m.1):((ms++[m]).find? fun n=>decide (n.1=x))=ms.find? fun n=>decide (n.1=x):=by
 rw [List.find?_append]
 have:([m].find? fun n=>decide (n.1=x))=none:=by simp [Ne.symm h]
 rw [this]
 simp
theorem oR{ms:List Mv}{m:Mv}{x:Str}(h:x≠m.1):bA (ms++[m]) x=bA ms x:=by unfold bA;rw [oh _ _ _ h]
theorem o7{ms:List Mv}{m:Mv}{x:Str}(h:x≠m.1):bC (ms++[m]) x=bC ms x:=by unfold bC;rw [oh _ _ _ h]
theorem yV{ms1 ms2 bs:List Mv}{m:Mv}(h:t8 ms1 ms2 bs)(hn:(names (ms2++[m])).Nodup):t8 ms1 (ms2++[m]) (bZ bs m):=by
 have e2:names (ms2++[m])=names ms2++[m.1]:=by unfold names;rw [List.map_append];rfl
 rw [e2] at hn
 have hm2:m.1∉names ms2:=fun z=>(List.nodup_append.mp hn).2.2 _ z m.1 (by simp) rfl
 have t0:bA (ms2++[m]) m.1=m.2.1:=eP (by rw [e2];exact hn) (by simp)
 have g0:bC (ms2++[m]) m.1=m.2.2:=eN (by rw [e2];exact hn) (by simp)
 have nn:=o4 bs m
 by_cases hx:m.1∈names bs
 ·rw [if_pos hx] at nn
  have ea:bZ bs m=bs.map (ir m):=by unfold bZ;rw [if_pos hx]
  refine⟨by rw [nn];exact h.nd,fun x=>?_,fun b hb=>?_,fun b hb=>?_⟩
  ·rw [nn,h.nm x,e2,List.mem_append]
   constructor
   ·rintro(z | z)
    ·exact .inl z
    ·exact .inr (.inl z)
   ·rintro(z | z | z)
    ·exact .inl z
    ·exact .inr z
    ·have:x=m.1:=by simpa using z
     subst this
     exact(h.nm _).mp hx
  ·rw [ea] at hb
   obtain⟨a,ha,rfl⟩:=List.mem_map.mp hb
   unfold ir
   by_cases e:a.1=m.1
   ·rw [if_pos e]
    show a.2.1++m.2.1=bA ms1 a.1++bA (ms2++[m]) a.1
    rw [h.tk a ha,e,t0,dM hm2,List.append_nil]
   ·rw [if_neg e,h.tk a ha,oR e]
  ·rw [ea] at hb
   obtain⟨a,ha,rfl⟩:=List.mem_map.mp hb
   unfold ir
   by_cases e:a.1=m.1
   ·rw [if_pos e]
    show a.2.2++m.2.2=bC ms1 a.1++bC (ms2++[m]) a.1
    rw [h.gv a ha,e,g0,dN hm2,List.append_nil]
   ·rw [if_neg e,h.gv a ha,o7 e]
 ·rw [if_neg hx] at nn
  have ea:bZ bs m=bs++[m]:=by unfold bZ;rw [if_neg hx]
  have hm1:m.1∉names ms1:=fun z=>hx ((h.nm _).mpr (.inl z))
  refine⟨?_,fun x=>?_,fun b hb=>?_,fun b hb=>?_⟩
  ·rw [nn]
   refine List.nodup_append.mpr ⟨h.nd,by simp,fun a ha b hb=>?_⟩
   have:b=m.1:=by simpa using hb
   subst this
   rintro rfl
   exact hx ha
  ·rw [nn,List.mem_append,h.nm x,e2,List.mem_append]
   exact or_assoc
  ·rw [ea] at hb
   rcases List.mem_append.mp hb with z | z
   ·have e:b.1≠m.1:=fun e=>hx (by rw [← e];exact List.mem_map.mpr ⟨b,z,rfl⟩)
    rw [h.tk b z,oR e]
   ·have:b=m:=by simpa using z
    subst this
    rw [t0,dM hm1]
    rfl
  ·rw [ea] at hb
   rcases List.mem_append.mp hb with z | z
   ·have e:b.1≠m.1:=fun e=>hx (by rw [← e];exact List.mem_map.mpr ⟨b,z,rfl⟩)
    rw [h.gv b z,o7 e]
   ·have:b=m:=by simpa using z
    subst this
    rw [g0,dN hm1]
    rfl
theorem yX{ms:List Mv}(h:(names ms).Nodup):t8 ms [] ms:=⟨h,fun x=>⟨.inl,fun z=>by
  rcases z with z | z
  ·exact z
  ·simp [names] at z⟩,fun m hm=>by rw [eP h hm];exact(List.append_nil _).symm,fun m hm=>by rw [eN h hm];exact(List.append_nil _).symm⟩
theorem zt{ms1 ms2:List Mv}(h1:(names ms1).Nodup)(h2:(names ms2).Nodup):∀ n,t8 ms1 (ms2.take n) ((ms2.take n).foldl bZ ms1):=fun n=>by
 induction n with
 | zero=>exact yX h1
 | succ n ih =>
  by_cases hn:n<ms2.length
  ·rw [av (List.getElem?_eq_getElem hn),List.foldl_append]
   refine yV ih ?_
   rw [← av (List.getElem?_eq_getElem hn)]
   unfold names at h2 ⊢
   rw [List.map_take]
   exact h2.sublist (List.take_sublist _ _)
  ·rw [List.take_of_length_le (by lia)] at ih ⊢
   exact ih
theorem wo{ms1 ms2:List Mv}(h1:(names ms1).Nodup)(h2:(names ms2).Nodup):t8 ms1 ms2 (eU ms1 ms2):=by
 have:=zt h1 h2 ms2.length
 rw [List.take_length] at this
 unfold eU
 rw [mi (acc:=[]) (by simpa [names] using h1),List.nil_append]
 exact this
theorem Ai(acc:List Mv)(m:Mv):(bZ acc m).length≤acc.length+1:=by
 unfold bZ
 split
 ·rw [List.length_map];lia
 ·simp
theorem fb:∀ (ms acc:List Mv),(ms.foldl bZ acc).length≤acc.length+ms.length
 | [],acc=>by simp
 | m::ms,acc=>by
  rw [List.foldl_cons,List.length_cons]
  have h1:=fb ms (bZ acc m)
  have h2:=Ai acc m
  lia
theorem uK{H:Hp}{ms:List Mv}{kvs:List (Key × V)}{x:Str}(h:MP H ms kvs):(kvs.any fun kv=>decide (kv.1=(Sum.inr x:Key)))=decide (x∈names ms):=by
 rw [Bool.eq_iff_iff,List.any_eq_true,decide_eq_true_eq]
 constructor
 ·rintro⟨kv,hkv,e⟩
  have e:kv.1=Sum.inr x:=of_decide_eq_true e
  have:(Sum.inr x:Key)∈kvs.map (·.1):=by rw [← e];exact List.mem_map.mpr ⟨kv,hkv,rfl⟩
  rw [h.keys] at this
  obtain⟨y,hy,e2⟩:=List.mem_map.mp this
  cases e2
  exact hy
 ·intro hx
  have:(Sum.inr x:Key)∈kvs.map (·.1):=by rw [h.keys];exact List.mem_map.mpr ⟨x,hx,rfl⟩
  obtain⟨kv,hkv,e⟩:=List.mem_map.mp this
  exact⟨kv,hkv,decide_eq_true e⟩
theorem Cc{H:Hp}{acc:List Mv}{kvs:List (Key × V)}{m:Mv}{v:V}(h:MP H acc kvs)(hn:(names acc).Nodup)(hv:∀ a,a=(if m.1∈names acc then(m.1,bA acc m.1++m.2.1,bC acc m.1++m.2.2) else m)→BZ H a v):MP H (bZ acc m) (putK kvs (Sum.inr m.1:Key) v):=by
 unfold bZ putK
 rw [uK h]
 by_cases hx:m.1∈names acc
 ·rw [if_pos hx,decide_eq_true hx,if_pos rfl]
  have hv:=hv _ (by rw [if_pos hx])
  have go:∀ {as:List Mv} {ks:List (Key × V)},MP H as ks→(∀ a∈as,a∈acc)→MP H (as.map (ir m)) (ks.map fun kv=>if kv.1=(Sum.inr m.1:Key) then(kv.1,v) else kv):=by
   intro as ks hp
   induction hp with
   | nil=>exact fun _=>.nil
   | @cons a kv as ks hh tt ih =>
    intro hs
    refine .cons ?_ (ih fun a ha=>hs a (List.mem_cons_of_mem _ ha))
    obtain⟨e1,e2⟩:=hh
    have ha:=hs a List.mem_cons_self
    by_cases e:a.1=m.1
    ·have ek:kv.1=(Sum.inr m.1:Key):=by rw [e1,e]
     dsimp only
     rw [if_pos ek]
     unfold ir
     rw [if_pos e]
     refine⟨by show kv.1=_;rw [e1],?_⟩
     have t1:=eP hn ha
     have g1:=eN hn ha
     rw [e] at t1 g1
     rw [t1,g1,← e] at hv
     exact hv
    ·have ek:¬ kv.1=(Sum.inr m.1:Key):=fun z=>by
      rw [e1] at z
      exact e (by injection z)
     dsimp only
     rw [if_neg ek]
     unfold ir
     rw [if_neg e]
     exact⟨e1,e2⟩
  exact go h fun a ha=>ha
 ·rw [if_neg hx,decide_eq_false hx,if_neg (by decide)]
  have hv:=hv _ (by rw [if_neg hx])
  exact Paired.snoc h ⟨rfl,hv⟩
section
variable {P:Program}{w:World}{K:PySem.W.Frag}{mg:Str→Option Value}{base:Heap}
def xM(K:PySem.W.Frag):Sp:=fun vs H Q _=>∃ (p1 p2:Addr) (ms1 ms2:List Mv) (st1 st2:List Str),vs=[.ref p1,.ref p2]∧cF H p1 ms1 st1∧cF H p2 ms2 st2∧(names ms1).Nodup∧(names ms2).Nodup∧ms1.length≤4∧ms2.length≤4∧(∀ m∈ms1,m.2.1.length≤2∧m.2.2.length≤2)∧(∀ m∈ms2,m.2.1.length≤2∧m.2.2.length≤2)∧st1.length≤50∧st2.length≤50 ∧
 ∀ H' q,ao H H'→H q=none→cF H' q (eU ms1 ms2) (st1++st2)→Q (.ref q) H'
theorem jY:aU ["_law_one", "_law_other", "_law_rules", "_law_part", "_law_move", "_law_takes", "_law_gives"] ["_law_one", "_law_other"] (ai km):=⟨rfl,rfl,rfl,by decide +kernel,rfl,by decide +kernel,by decide +kernel⟩
inductive Fb(H:Hp)(p1 p2 d ql:Addr)(F:Nat→List Mv)(i:Nat)(σ:St)(H2:Hp):Prop
 | mk (v3 v4 v5 v6:Option V) (kvs:List (Key × V)) (q0:σ=[some (.ref p1),some (.ref p2),some (.ref d),v3,v4,v5,v6]) (q1:ao H H2) (q2:H2 d=some (.dK kvs)) (q3:MP H2 (F i) kvs) (q4:H2 ql=some (.lst ([p1,p2].map V.ref)))
theorem Fb.ql{H:Hp}{p1 p2 d ql:Addr}{F:Nat→List Mv}{i:Nat}{σ:St}{H2:Hp}(h:Fb H p1 p2 d ql F i σ H2):H2 ql=some (.lst ([p1,p2].map V.ref)):=by
 cases h
 assumption
inductive Eo(H:Hp)(p1 p2 d ql q:Addr)(F:Nat→List Mv)(i:Nat)(σ:St)(H2:Hp):Prop
 | mk (v4 v5 v6:Option V) (kvs:List (Key × V)) (q0:σ=[some (.ref p1),some (.ref p2),some (.ref d),some (.ref q),v4,v5,v6]) (q1:ao H H2) (q2:H2 d=some (.dK kvs)) (q3:MP H2 (F i) kvs) (q4:H2 ql=some (.lst ([p1,p2].map V.ref)))
theorem Eo.same{H:Hp}{p1 p2 d ql q:Addr}{F:Nat→List Mv}{i:Nat}{σ:St}{H2:Hp}(h:Eo H p1 p2 d ql q F i σ H2):ao H H2:=by
 cases h
 assumption
theorem tf{ms acc:List Mv}(h:(names acc).Nodup):(names (ms.foldl bZ acc)).Nodup:=by
 induction ms generalizing acc with
 | nil=>exact h
 | cons m ms ih =>
  rw [List.foldl_cons]
  refine ih ?_
  rw [o4]
  split
  ·exact h
  ·rename_i hx
   refine List.nodup_append.mpr ⟨h,by simp,fun a ha b hb=>?_⟩
   have:b=m.1:=by simpa using hb
   subst this
   rintro rfl
   exact hx ha
theorem xW{ms acc:List Mv}{a b:Nat}(h1:∀ m∈ms,m.2.1.length≤b∧m.2.2.length≤b):∀ {c:Nat},(∀ m∈acc,m.2.1.length≤c∧m.2.2.length≤c)→∀ m∈ms.foldl bZ acc,m.2.1.length≤c+ms.length*b+b∧m.2.2.length≤c+ms.length*b+b:=by
 induction ms generalizing acc with
 | nil=>intro c hc m hm;have:=hc m hm;simp;lia
 | cons x ms ih =>
  intro c hc m hm
  rw [List.foldl_cons] at hm
  have hx:=h1 x List.mem_cons_self
  have key:∀ m∈bZ acc x,m.2.1.length≤c+b∧m.2.2.length≤c+b:=fun m hm=>by
   unfold bZ at hm
   split at hm
   ·obtain⟨a,ha,rfl⟩:=List.mem_map.mp hm
    have:=hc a ha
    unfold ir
    split
    ·dsimp only
     rw [List.length_append,List.length_append]
     lia
    ·lia
   ·rcases List.mem_append.mp hm with z | z
    ·have:=hc m z;lia
    ·have:m=x:=by simpa using z
     subst this
     lia
  have:=ih (fun m hm=>h1 m (List.mem_cons_of_mem _ hm)) key m hm
  rw [List.length_cons,Nat.succ_mul]
  lia
theorem zT{f:Addr}{fd:FuncData}(F:dW K "_law_both" "_law_both" km f fd):aH P w K mg base bX 1 f fd ["_law_one", "_law_other"] (xM K):=by
 refine F.ok jY (fun vs H Q E h=>?_) (fun cdv A outer s H vs Q E hr h=>?_)
 ·obtain⟨p1,p2,ms1,ms2,st1,st2,rfl,_⟩:=h
  rfl
 ·obtain⟨p1,p2,ms1,ms2,st1,st2,rfl,hp1,hp2,hn1,hn2,l1,l2,b1,b2,ls1,ls2,kk⟩:=h
  have hsl:=PySem.sizeLine_eq
  have hu:=eI hr
  refine⟨_,aj (aN (i:=2) jY.nd rfl (Or.inl rfl) ix)
   (aj (dA PassesOwn.never rfl (bx (bj (aa (pv 0) (aa (pv 1) ag)))) (aA (i:=3) jY.nd rfl (Or.inl rfl))
    (au (dA PassesOwn.never rfl (k0 (aO bo (pv 3) ak (fun _ _=>rfl))) (aA (i:=4) jY.nd rfl (Or.inl rfl))
     (aj (uh (xr hu (pv 2) (pv 4) (cz (aa (bj ag) (aa (bj ag) ag))) ⟨rfl,rfl,rfl,rfl⟩) (eB rfl (bh (aA (i:=5) jY.nd rfl (Or.inl rfl)) (bh (aA (i:=6) jY.nd rfl (Or.inl rfl)) dE))))
     (au (iG hu (pv 2) (pv 4) (cz (aa (aB dJ (pv 5) (aO bo (dS hu (aO bo (pv 3) ak (fun _ _=>rfl)) (pv 4) (fun _ _=>rfl)) ak (fun _ _=>rfl))) (aa (aB dJ (pv 6) (aO bo (dS hu (aO bo (pv 3) ak (fun _ _=>rfl)) (pv 4) (fun _ _=>rfl)) ak (fun _ _=>rfl))) ag))) rfl))))))
   (au (aK (cz (aa (tS (pv 2)) (aa (aB dJ (aO bo (pv 0) ak (fun _ _=>rfl)) (aO bo (pv 1) ak (fun _ _=>rfl))) ag)))))),?_⟩
  clear hu
  intro d nd
  have sd:ao H (upd H d (.dK [])):=af nd
  have hd0:(upd H d (.dK [])) d=some (.dK []):=ae
  generalize upd H d (.dK [])=H1 at sd hd0 ⊢
  refine⟨_,rfl,_,rfl,by show 2≤sizeLine;lia,fun ql nql=>?_⟩
  have sl:ao H1 (upd H1 ql (.lst [.ref p1,.ref p2])):=af nql
  have hql:(upd H1 ql (.lst [.ref p1,.ref p2])) ql=some (.lst ([p1,p2].map V.ref)):=ae
  have hd1:=sl _ _ hd0
  have s01:=sd.trans sl
  generalize upd H1 ql (.lst [.ref p1,.ref p2])=H2 at sl hql hd1 s01 ⊢
  let G:Nat→List Mv:=fun i=>if i=0 then [] else if i=1 then ms1.foldl bZ [] else eU ms1 ms2
  refine⟨ql,rfl,⟨_,aI.of hql⟩,e7 (K:=K) (a:=ql) (xs:=[p1,p2].map V.ref) (Fb H p1 p2 d ql G)
   ⟨none,none,none,none,[],rfl,s01,hd1,.nil,hql⟩ (fun i σ H3 _ h=>aI.of h.ql) ?_ ?_⟩
  ·rintro i v σ H3 hi ⟨v3,v4,v5,v6,kvs,rfl,sm3,hd3,mp3,hql3⟩
   have part:∃ q ms st,v=.ref q∧cF H q ms st∧(names ms).Nodup∧ms.length≤4∧(∀ m∈ms,m.2.1.length≤2∧m.2.2.length≤2)∧G (i+1)=ms.foldl bZ (G i)∧(names (G i)).Nodup∧(G i).length≤4∧∀ m∈G i,m.2.1.length≤20∧m.2.2.length≤20:=by
    obtain⟨q,hq,rfl⟩:=gA hi
    have i2:i<2:=(List.getElem?_eq_some_iff.mp hq).1
    have i01:i=0∨i=1:=by lia
    rcases i01 with rfl | rfl
    ·have:q=p1:=by simpa using hq.symm
     subst this
     exact⟨q,ms1,st1,rfl,hp1,hn1,l1,b1,rfl,by simp [G,names],by simp [G],fun m hm=>by simp [G] at hm⟩
    ·have:q=p2:=by simpa using hq.symm
     subst this
     have e1:G 1=ms1:=by
      show ms1.foldl bZ []=ms1
      rw [mi (acc:=[]) (by simpa [names] using hn1),List.nil_append]
     refine⟨q,ms2,st2,rfl,hp2,hn2,l2,b2,rfl,by rw [e1];exact hn1,by rw [e1];exact l1,fun m hm=>?_⟩
     rw [e1] at hm
     have:=b1 m hm
     lia
   obtain⟨q,ms,st,rfl,hpq,hn,lm,bm,eG,gn,gl,gb⟩:=part
   obtain⟨dd,ll,hqt,md,_⟩:=id hpq
   obtain⟨o,kvm,hdd,mpm⟩:=id md
   have lk:=Paired.length mpm
   refine⟨_,rfl,q,_,0,_,rfl,rfl,cg.of (sm3 _ _ hqt),aE (j:=0) rfl,dd,o,kvm,rfl,sm3 _ _ hdd,yz (a:=dd) (o:=o) (kvs:=kvm) (Eo H p1 p2 d ql q fun j=>(ms.take j).foldl bZ (G i))
    ⟨v4,v5,v6,kvs,rfl,sm3,hd3,mp3,hql3⟩ (fun j σ H4 _ h=>h.same _ _ hdd) ?_ ?_⟩
   ·rintro j k v σ H4 hk ⟨v4,v5,v6,kv4,rfl,sm4,hd4,mp4,hql4⟩
    obtain⟨m,hm,ek,_⟩:=cA mpm hk
    have ek:k=Sum.inr m.1:=ek
    subst ek
    have hmem:=List.mem_of_getElem? hm
    have jl:=(List.getElem?_eq_some_iff.mp hm).1
    have hnacc:(names ((ms.take j).foldl bZ (G i))).Nodup:=tf gn
    have lacc:=fb (ms.take j) (G i)
    rw [List.length_take] at lacc
    have bacc:=xW (ms:=ms.take j) (acc:=G i) (a:=0) (b:=2) (fun m hm=>bm m (List.mem_of_mem_take hm)) gb
    rw [List.length_take] at bacc
    have estep:(ms.take (j+1)).foldl bZ (G i)=bZ ((ms.take j).foldl bZ (G i)) m:=by rw [av hm,List.foldl_append];rfl
    generalize (ms.take j).foldl bZ (G i)=acc at mp4 hnacc lacc bacc estep
    have lkv:=Paired.length mp4
    refine⟨_,rfl,d,rfl,.inl ⟨_,.inl hd4⟩,_,rfl,Nat.zero_le _,fun e1 ne1=>?_⟩
    have s5:ao H4 (upd H4 e1 (.lst [])):=af ne1
    have he1:(upd H4 e1 (.lst [])) e1=some (.lst (aq [])):=ae
    generalize upd H4 e1 (.lst [])=H5 at s5 he1 ⊢
    refine⟨Nat.zero_le _,fun e2 ne2=>?_⟩
    have s6:ao H5 (upd H5 e2 (.lst [])):=af ne2
    have he2:(upd H5 e2 (.lst [])) e2=some (.lst (aq [])):=ae
    generalize upd H5 e2 (.lst [])=H6 at s6 he2 ⊢
    refine⟨by show 2≤sizeLine;lia,fun t0 nt0=>?_⟩
    have s7:ao H6 (upd H6 t0 (.tup [.ref e1,.ref e2])):=af nt0
    have ht0:(upd H6 t0 (.tup [.ref e1,.ref e2])) t0=some (.tup [.ref e1,.ref e2]):=ae
    generalize upd H6 t0 (.tup [.ref e1,.ref e2])=H7 at s7 ht0 ⊢
    have s47:=s5.trans (s6.trans s7)
    have hd7:=s47 _ _ hd4
    have mp7:=mp4.same s47
    have hql7:=s47 _ _ hql4
    have sm7:=sm4.trans s47
    have got:∃ t l g,((fh kv4 (Sum.inr m.1:Key)).getD (V.ref t0))=.ref t∧H7 t=some (.tup [.ref l,.ref g])∧H7 l=some (.lst (aq (bA acc m.1)))∧H7 g=some (.lst (aq (bC acc m.1))):=by
     by_cases hx:m.1∈names acc
     ·obtain⟨a,ha,ea⟩:=List.mem_map.mp hx
      obtain⟨v,e3,t,l,g,rfl,h1,h2,h3⟩:=mp7.get hnacc ha
      have ea:a.1=m.1:=ea
      rw [ea] at e3
      have ta:=eP hnacc ha
      have ga:=eN hnacc ha
      rw [ea] at ta ga
      exact⟨t,l,g,by rw [e3];rfl,h1,by rw [ta];exact h2,by rw [ga];exact h3⟩
     ·exact⟨t0,e1,e2,by rw [mp7.none hx];rfl,ht0,by rw [dM hx];exact(s6.trans s7) _ _ he1,by rw [dN hx];exact s7 _ _ he2⟩
    obtain⟨t,l,g,et,ht,hl,hg⟩:=got
    have la:(bA acc m.1).length≤100∧(bC acc m.1).length≤100:=by
     by_cases hx:m.1∈names acc
     ·obtain⟨a,ha,ea⟩:=List.mem_map.mp hx
      have ea:a.1=m.1:=ea
      have ta:=eP hnacc ha
      have ga:=eN hnacc ha
      rw [ea] at ta ga
      have:=bacc a ha
      rw [ta,ga]
      lia
     ·rw [dM hx,dN hx]
      simp
    have bmm:=bm m hmem
    refine⟨_,gW.k (k:=Sum.inr m.1) hd7,?_⟩
    rw [et]
    refine⟨t,_,rfl,cg.of ht,rfl,_,_,rfl,_,_,rfl,rfl,?_⟩
    obtain⟨tm,lm',gm,dgm,htm,hlm,hgm⟩:=md.wG hn hmem sm7
    refine⟨_,rfl,_,rfl,q,_,0,_,rfl,rfl,cg.of (sm7 _ _ hqt),aE (j:=0) rfl,_,rfl,dd,_,rfl,dgm,tm,_,0,_,rfl,rfl,cg.of htm,aE (j:=0) rfl,l,lm',_,_,rfl,rfl,hl,hlm,by rw [ah,ah];lia,fun qa nqa=>?_⟩
    have ea:aq (bA acc m.1)++aq m.2.1=aq (bA acc m.1++m.2.1):=by unfold aq;rw [List.map_append]
    rw [ea]
    have s8:ao H7 (upd H7 qa (.lst (aq (bA acc m.1++m.2.1)))):=af nqa
    have hqa:(upd H7 qa (.lst (aq (bA acc m.1++m.2.1)))) qa=some (.lst (aq (bA acc m.1++m.2.1))):=ae
    generalize upd H7 qa (.lst (aq (bA acc m.1++m.2.1)))=H8 at s8 hqa ⊢
    have sm8:=sm7.trans s8
    obtain⟨tm2,lm2,gm2,dgm2,htm2,hlm2,hgm2⟩:=md.wG hn hmem sm8
    refine⟨_,rfl,_,rfl,q,_,0,_,rfl,rfl,cg.of (sm8 _ _ hqt),aE (j:=0) rfl,_,rfl,dd,_,rfl,dgm2,tm2,_,1,_,rfl,rfl,cg.of htm2,aE (j:=1) rfl,g,gm2,_,_,rfl,rfl,s8 _ _ hg,hgm2,by rw [ah,ah];lia,fun qb nqb=>?_⟩
    have eb:aq (bC acc m.1)++aq m.2.2=aq (bC acc m.1++m.2.2):=by unfold aq;rw [List.map_append]
    rw [eb]
    have s9:ao H8 (upd H8 qb (.lst (aq (bC acc m.1++m.2.2)))):=af nqb
    have hqb:(upd H8 qb (.lst (aq (bC acc m.1++m.2.2)))) qb=some (.lst (aq (bC acc m.1++m.2.2))):=ae
    generalize upd H8 qb (.lst (aq (bC acc m.1++m.2.2)))=H9 at s9 hqb ⊢
    refine⟨by show 2≤sizeLine;lia,fun tt ntt=>?_⟩
    have s10:ao H9 (upd H9 tt (.tup [.ref qa,.ref qb])):=af ntt
    have htt:(upd H9 tt (.tup [.ref qa,.ref qb])) tt=some (.tup [.ref qa,.ref qb]):=ae
    generalize upd H9 tt (.tup [.ref qa,.ref qb])=H10 at s10 htt ⊢
    have s710:=s8.trans (s9.trans s10)
    have hd10:=s710 _ _ hd7
    have mp10:=mp7.same s710
    have sm10:=sm7.trans s710
    have hql10:=s710 _ _ hql7
    have hqa10:=(s9.trans s10) _ _ hqa
    have hqb10:=s10 _ _ hqb
    refine⟨_,rfl,_,rfl,d,_,rfl,nA.k (k:=Sum.inr m.1) hd10 (by lia),?_⟩
    have mpN:MP H10 (bZ acc m) (putK kv4 (Sum.inr m.1:Key) (V.ref tt)):=Cc mp10 hnacc fun a ea=>by
     refine⟨tt,qa,qb,rfl,htt,?_,?_⟩
     ·rw [hqa10,ea]
      split
      ·rfl
      ·rename_i hx
       rw [dM hx,List.nil_append]
     ·rw [hqb10,ea]
      split
      ·rfl
      ·rename_i hx
       rw [dN hx,List.nil_append]
    refine⟨_,_,_,_,rfl,aD sm10 nd,ae,?_,?_⟩
    ·show MP _ ((ms.take (j+1)).foldl bZ (G i)) _
     rw [estep]
     exact mpN.put hd10
    ·rw [ar (cv hql10 hd10 (fun z=>nomatch z))]
     exact hql10
   ·rintro σ H4 ⟨v4,v5,v6,kv4,rfl,sm4,hd4,mp4,hql4⟩
    have mp4:MP H4 ((ms.take kvm.length).foldl bZ (G i)) kv4:=mp4
    rw [← lk,List.take_length,← eG] at mp4
    exact⟨_,_,_,_,kv4,rfl,sm4,hd4,mp4,hql4⟩
  ·rintro σ H3 ⟨v3,v4,v5,v6,kvs,rfl,sm3,hd3,mp3,hql3⟩
   have mp3:MP H3 (eU ms1 ms2) kvs:=mp3
   obtain⟨d1,l1',hq1,md1,hl1⟩:=hp1
   obtain⟨d2,l2',hq2,md2,hl2⟩:=hp2
   refine⟨_,rfl,d,kvs,rfl,hd3,fun o=>?_⟩
   have mp4:MP (upd H3 d (.frz o (.dK kvs))) (eU ms1 ms2) kvs:=mp3.put hd3
   have s4:ao H (upd H3 d (.frz o (.dK kvs))):=aD sm3 nd
   have hd4:(upd H3 d (.frz o (.dK kvs))) d=some (.frz o (.dK kvs)):=ae
   generalize upd H3 d (.frz o (.dK kvs))=H4 at mp4 s4 hd4 ⊢
   refine⟨_,rfl,p1,_,1,_,rfl,rfl,cg.of (s4 _ _ hq1),aE (j:=1) rfl,_,rfl,p2,_,1,_,rfl,rfl,cg.of (s4 _ _ hq2),aE (j:=1) rfl,l1',l2',_,_,rfl,rfl,s4 _ _ hl1,s4 _ _ hl2,by rw [ah,ah];lia,fun qs nqs=>?_⟩
   have e5:aq st1++aq st2=aq (st1++st2):=by unfold aq;rw [List.map_append]
   rw [e5]
   have s5:ao H4 (upd H4 qs (.lst (aq (st1++st2)))):=af nqs
   have hqs:(upd H4 qs (.lst (aq (st1++st2)))) qs=some (.lst (aq (st1++st2))):=ae
   generalize upd H4 qs (.lst (aq (st1++st2)))=H5 at s5 hqs ⊢
   refine⟨by show 2≤sizeLine;lia,fun t nt=>?_⟩
   have s6:ao H5 (upd H5 t (.tup [.ref d,.ref qs])):=af nt
   have s05:=s4.trans s5
   exact kk _ t (s05.trans s6) (s05.free nt) ⟨d,qs,ae,⟨o,kvs,(s5.trans s6) _ _ hd4,mp4.same (s5.trans s6)⟩,s6 _ _ hqs⟩
end
end Uf
end
section
namespace Uf
open PySem L2 UfSrt UfFin
abbrev dh:Stmt:=top 44
abbrev jk:Stmt:=top 45
abbrev iO:Stmt:=top 46
def iw(tk gv s:List Str):Str:=if cU tk s=true then "held" else if second tk gv s=true then "full" else ""
theorem EJ:("held":Str)≠"":=by decide +kernel
theorem EL:("full":Str)≠"":=by decide +kernel
theorem jq{tk gv s:List Str}:iw tk gv s="" ↔ cU tk s=false∧second tk gv s=false:=by
 unfold iw
 cases h1:cU tk s with
 | true=>rw [if_pos rfl];exact⟨fun z=>absurd z EJ,fun z=>by cases z.1⟩
 | false =>
  rw [if_neg (by decide)]
  cases h2:second tk gv s with
  | true=>rw [if_pos rfl];exact⟨fun z=>absurd z EL,fun z=>by cases z.2⟩
  | false=>rw [if_neg (by decide)];exact⟨fun _=>⟨rfl,rfl⟩,fun _=>rfl⟩
def sX(H:Hp)(t:Addr)(tk gv:List Str):Prop:=∃ l g,H t=some (.tup [.ref l,.ref g])∧H l=some (.lst (aq tk))∧H g=some (.lst (aq gv))
theorem nv(tk s:List Str):(tk.map fun x=>decide (x∈s)).all id = !cU tk s:=by
 unfold cU
 rw [List.all_map,List.not_any_eq_all_not]
 congr 1
 funext x
 simp
section
variable {P:Program}{w:World}{K:PySem.W.Frag}{mg:Str→Option Value}{base:Heap}
def jV:Sp:=fun vs H Q _=>∃ (a t:Addr) (s tk gv:List Str),vs=[.ref a,.ref t]∧H a=some (.tup (aq s))∧sX H t tk gv∧tk.length≤200∧gv.length≤200∧∀ H',ao H H'→Q (.str (iw tk gv s)) H'
theorem vY:aU ["_law_state", "_law_rule"] ["_law_state", "_law_rule"] (ai dh):=⟨rfl,rfl,rfl,by decide +kernel,rfl,by decide +kernel,by decide +kernel⟩
theorem ua{f:Addr}{fd:FuncData}(F:dW K "_law_refusal" "_law_refusal" dh f fd)(T:Txt K mg)(T2:Txt2 mg):aH P w K mg base bX 1 f fd ["_law_state", "_law_rule"] jV:=by
 refine F.ok vY (fun vs H Q E h=>?_) (fun cdv A outer s H vs Q E hr h=>?_)
 ·obtain⟨a,t,s,tk,gv,rfl,_⟩:=h
  rfl
 ·obtain⟨a,t,s',tk,gv,rfl,ha,⟨l,g,ht,hl,hg⟩,lt,lg,kk⟩:=h
  have hsl:=PySem.sizeLine_eq
  refine⟨_,aj (bB (cR (cu (aF (hW rfl) rfl T.all qZ (aa (bJ (N:=["_law_place", "_law_state"]) (n:=1) (ci:=[0]) rfl (bx (aO bo (pv 1) ak (fun _ _=>rfl)))
     (g9.of (so:=ai dh) (N0:=["_law_state", "_law_rule"]) ⟨rfl,by decide +kernel,by decide +kernel,by decide +kernel,rfl,rfl,by decide +kernel,by decide +kernel⟩)
     (fun z=>⟨aA (i:=0) (bV (N:=["_law_place", "_law_state"]) (by decide +kernel)) rfl (Or.inl rfl),bP,cI cV (pv 0) (pv 1) (by with_unfolding_all rfl)⟩)) ag)))) (au (aK cJ)) aX)
   (aj (bB (cu (aF (iq rfl) rfl T2.any qE (aa (bJ (N:=["_law_place", "_law_rule", "_law_state"]) (n:=1) (ci:=[1,0]) rfl (bx (aO bo (pv 1) ak (fun _ _=>rfl)))
     (g9.of (so:=ai dh) (N0:=["_law_state", "_law_rule"]) ⟨rfl,by decide +kernel,by decide +kernel,by decide +kernel,rfl,rfl,by decide +kernel,by decide +kernel⟩)
     (fun z=>⟨aA (i:=0) (bV (N:=["_law_place", "_law_rule", "_law_state"]) (by decide +kernel)) rfl (Or.inl rfl),bP,mz (cI cV (pv 0) (pv 2) (by with_unfolding_all rfl)) (kl (cI cS (pv 0) (aO bo (pv 1) ak (fun _ _=>rfl)) (by with_unfolding_all rfl)))⟩)) ag))) (au (aK cJ)) aX)
   (au (aK cJ))),?_⟩
  refine⟨_,rfl,t,_,0,_,rfl,rfl,cg.of ht,aE (j:=0) rfl,l,rfl,⟨_,aI.of hl⟩,fun z D hD=>br (a:=l) (xs:=aq tk) (fun i ys H2=>ys=(tk.take i).map (fun x=>V.bl (decide (x∈s')))∧H2 D=some (.lst ys)∧ao H H2) ⟨rfl,ae,af hD⟩ (fun i ys H2 _ p=>aI.of (p.2.2 _ _ hl)) ?_ ?_⟩
  ·rintro i v ys H2 hi ⟨rfl,hys,sm⟩
   obtain⟨x,hx,rfl⟩:=bQ hi
   refine⟨_,rfl,_,rfl,a,aq s',rfl,.inr (cg.of (sm _ _ ha)),rfl,bN s',hys,?_,?_,ae,aD sm hD⟩
   ·rw [List.length_map,List.length_take]
    lia
   ·rw [av hx,List.map_append,cW]
    rfl
  rintro ys H2 ⟨rfl,hys,sm⟩
  rw [ah,List.take_length] at hys
  refine⟨D,tk.map fun x=>decide (x∈s'),rfl,aI.of (by rw [hys,List.map_map];rfl),?_⟩
  rw [nv]
  refine⟨_,rfl,?_⟩
  cases c1:cU tk s' with
  | true =>
   refine cG ?_
   have e:iw tk gv s' = "held":=by unfold iw;rw [if_pos c1]
   have q:=kk H2 sm
   rw [e] at q
   exact q
  | false =>
   refine bS ?_
   refine⟨_,rfl,t,_,1,_,rfl,rfl,cg.of (sm _ _ ht),aE (j:=1) rfl,g,rfl,⟨_,aI.of (sm _ _ hg)⟩,fun z D2 hD2=>br (a:=g) (xs:=aq gv) (fun i ys H3=>ys=(gv.take i).map (fun x=>V.bl (decide (x∈s') && !decide (x∈tk)))∧H3 D2=some (.lst ys)∧ao H2 H3) ⟨rfl,ae,af hD2⟩ (fun i ys H3 _ p=>aI.of ((sm.trans p.2.2) _ _ hg)) ?_ ?_⟩
   ·rintro i v ys H3 hi ⟨rfl,hys3,sm3⟩
    obtain⟨x,hx,rfl⟩:=bQ hi
    have sB:=sm.trans sm3
    have hlen:((gv.take i).map (fun x=>V.bl (decide (x∈s') && !decide (x∈tk)))).length<sizeLine:=by
     rw [List.length_map,List.length_take]
     lia
    refine⟨_,rfl,_,rfl,a,aq s',rfl,.inr (cg.of (sB _ _ ha)),rfl,bN s',_,rfl,?_⟩
    show if w9 (V.str x) (aq s')=true then _ else _
    rw [cW]
    cases c2:decide (x∈s') with
    | false =>
     refine bS ⟨hys3,hlen,?_,ae,aD sm3 hD2⟩
     rw [av hx,List.map_append]
     simp [c2]
    | true =>
     refine cG ⟨_,rfl,_,rfl,t,_,0,_,rfl,rfl,cg.of (sB _ _ ht),aE (j:=0) rfl,l,aq tk,rfl,.inl (aI.of (sB _ _ hl)),rfl,bN _,hys3,hlen,?_,ae,aD sm3 hD2⟩
     rw [av hx,List.map_append,cW]
     simp [c2]
   rintro ys H3 ⟨rfl,hys3,sm3⟩
   rw [ah,List.take_length] at hys3
   refine⟨D2,gv.map fun x=>decide (x∈s') && !decide (x∈tk),rfl,aI.of (by rw [hys3,List.map_map];rfl),?_⟩
   have e2:(gv.map fun x=>decide (x∈s') && !decide (x∈tk)).any id=second tk gv s':=by unfold second;rw [List.any_map];rfl
   rw [e2]
   refine⟨_,rfl,?_⟩
   have q:=kk H3 (sm.trans sm3)
   cases c2:second tk gv s' with
   | true =>
    refine cG ?_
    have e:iw tk gv s' = "full":=by unfold iw;rw [if_neg (by rw [c1];decide),if_pos c2]
    rw [e] at q
    exact q
   | false =>
    refine bS ?_
    have e:iw tk gv s' = "":=jq.mpr ⟨c1,c2⟩
    rw [e] at q
    exact q
def jK(s:List Str)(m:Mv):Bool:=decide (iw m.2.1 m.2.2 s="")
def ee(ms:List Mv)(s:List Str):List Str:=aw (names (ms.filter (jK s)))
theorem xI{ms:List Mv}{s:List Str}{x:Str}:x∈ee ms s↔∃ m∈ms,m.1=x∧cU m.2.1 s=false∧second m.2.1 m.2.2 s=false:=by
 unfold ee names
 rw [bz,List.mem_map]
 constructor
 ·rintro⟨m,hm,e⟩
  obtain⟨h1,h2⟩:=List.mem_filter.mp hm
  have:=jq.mp (of_decide_eq_true h2)
  exact⟨m,h1,e,this.1,this.2⟩
 ·rintro⟨m,hm,e,h1,h2⟩
  exact⟨m,List.mem_filter.mpr ⟨hm,decide_eq_true (jq.mpr ⟨h1,h2⟩)⟩,e⟩
def Few(ms:List Mv):Prop:=ms.length≤12∧∀ m∈ms,m.2.1.length≤200∧m.2.2.length≤200
theorem Sound.Bl{ms:List Mv}{st:List Str}(h:Sound ms st):Few ms:=⟨h.ml,fun m hm=>by
 obtain⟨_,_,_,a,b⟩:=dq (h.mv m hm)
 lia⟩
theorem wW(ms:List Mv)(s:List Str):(ee ms s).length≤ms.length:=by
 unfold ee names
 rw [aW,List.length_map]
 exact List.length_filter_le _ _
def xv:Sp:=fun vs H Q _=>∃ (a d:Addr) (s:List Str) (ms:List Mv),vs=[.ref a,.ref d]∧H a=some (.tup (aq s))∧eT H d ms∧(names ms).Nodup∧Few ms∧∀ H' q,ao H H'→H q=none→H' q=some (.lst (aq (ee ms s)))→Q (.ref q) H'
theorem Cr:aU ["_law_state", "_law_rules"] ["_law_state", "_law_rules"] (ai jk):=⟨rfl,rfl,rfl,by decide +kernel,rfl,by decide +kernel,by decide +kernel⟩
theorem zN{f fR:Addr}{fd fdR:FuncData}(F:dW K "_law_open" "_law_open" jk f fd)(T:Txt K mg)(DR:Def K mg "_law_refusal" dh ["_law_state", "_law_rule"] fR fdR)(GR:aH P w K mg base bX 1 fR fdR ["_law_state", "_law_rule"] jV) :
  aH P w K mg base bX 2 f fd ["_law_state", "_law_rules"] xv:=by
 refine F.ok Cr (fun vs H Q E h=>?_) (fun cdv A outer s H vs Q E hr h=>?_)
 ·obtain⟨a,d,s,ms,rfl,_⟩:=h
  rfl
 ·obtain⟨a,d,s',ms,rfl,ha,md,hn,hf,kk⟩:=h
  have hsl:=PySem.sizeLine_eq
  have hu:=eI hr
  refine⟨_,au (aK (aF c0 rfl T.aw cN (aa (bJ (N:=["_law_move", "_law_rules", "_law_state"]) (n:=1) (ci:=[1,0]) rfl (k0 (pv 1))
     (g9.of (so:=ai jk) (N0:=["_law_state", "_law_rules"]) ⟨rfl,by decide +kernel,by decide +kernel,by decide +kernel,rfl,rfl,by decide +kernel,by decide +kernel⟩)
     (fun z=>⟨aA (i:=0) (bV (N:=["_law_move", "_law_rules", "_law_state"]) (by decide +kernel)) rfl (Or.inl rfl),dH (bb jA (az GR hr rfl DR.mg DR.fn.kp DR.bd .nil aJ (aa (pv 2) (aa (dS hu (pv 1) (pv 0) (fun _ _=>rfl)) ag))) cJ (bw _)),pv 0⟩)) ag))),?_⟩
  clear hu
  obtain⟨o,kvs,hd,mp⟩:=id md
  have lk:kvs.length=ms.length:=(Paired.length mp).symm
  have lm:=hf.1
  refine⟨_,rfl,d,o,kvs,rfl,hd,fun z D hD=>ki (a:=d) (o:=o) (kvs:=kvs) (fun i ys H2=>ys=aq (names ((ms.take i).filter (jK s')))∧H2 D=some (.lst ys)∧ao H H2) ⟨rfl,ae,af hD⟩ (fun i ys H2 _ p=>p.2.2 _ _ hd) ?_ ?_⟩
  ·rintro i k v ys H2 hk ⟨rfl,hys,sm⟩
   obtain⟨m,hm,ek,_⟩:=cA mp hk
   have ek:k=Sum.inr m.1:=ek
   subst ek
   have hmem:=List.mem_of_getElem? hm
   obtain⟨t,l,g,dg,ht,hl,hg⟩:=md.wG hn hmem sm
   have hb:=hf.2 m hmem
   refine⟨_,rfl,_,rfl,_,rfl,d,_,rfl,dg,a,t,s',m.2.1,m.2.2,rfl,sm _ _ ha,⟨l,g,ht,hl,hg⟩,hb.1,hb.2,fun H3 s3=>⟨rfl,_,rfl,?_⟩⟩
   have hlen:(aq (names ((ms.take i).filter (jK s')))).length<sizeLine:=by
    rw [ah]
    unfold names
    rw [List.length_map]
    have:=List.length_filter_le (jK s') (ms.take i)
    rw [List.length_take] at this
    lia
   by_cases c1:iw m.2.1 m.2.2 s' = ""
   ·rw [decide_eq_true (by rw [c1])]
    refine cG ⟨_,rfl,s3 _ _ hys,hlen,?_,ae,aD (sm.trans s3) hD⟩
    rw [av hm,List.filter_append]
    have:[m].filter (jK s')=[m]:=by simp [jK,c1]
    rw [this]
    unfold names aq
    rw [List.map_append,List.map_append]
    rfl
   ·rw [decide_eq_false (fun z=>c1 (by injection z))]
    refine bS ⟨?_,s3 _ _ hys,sm.trans s3⟩
    rw [av hm,List.filter_append]
    have:[m].filter (jK s')=[]:=by simp [jK,c1]
    rw [this,List.append_nil]
  ·rintro ys H2 ⟨rfl,hys,sm⟩
   rw [lk,List.take_length] at hys
   refine⟨D,_,rfl,aI.of hys,?_,fun q nq=>?_⟩
   ·unfold names
    rw [List.length_map]
    have:=List.length_filter_le (jK s') ms
    lia
   exact kk _ q (sm.trans (af nq)) (sm.free nq) ae
def tE:Sp:=fun vs H Q _=>∃ (a t:Addr) (s tk gv:List Str),vs=[.ref a,.ref t]∧H a=some (.tup (aq s))∧sX H t tk gv∧s.length≤50∧gv.length≤10∧∀ H' q,ao H H'→H q=none→H' q=some (.tup (aq (behind tk gv s)))→Q (.ref q) H'
theorem Br:aU ["_law_state", "_law_rule"] ["_law_state", "_law_rule"] (ai iO):=⟨rfl,rfl,rfl,by decide +kernel,rfl,by decide +kernel,by decide +kernel⟩
theorem zB{f:Addr}{fd:FuncData}(F:dW K "_law_done" "_law_done" iO f fd)(T:Txt K mg):aH P w K mg base bX 1 f fd ["_law_state", "_law_rule"] tE:=by
 refine F.ok Br (fun vs H Q E h=>?_) (fun cdv A outer s H vs Q E hr h=>?_)
 ·obtain⟨a,t,s,tk,gv,rfl,_⟩:=h
  rfl
 ·obtain⟨a,t,s',tk,gv,rfl,ha,⟨l,g,ht,hl,hg⟩,ls,lg,kk⟩:=h
  have hsl:=PySem.sizeLine_eq
  refine⟨_,au (aK (ba cw rfl T.tup fE (aa (aF c0 rfl T.aw cN (aa (aB dJ (bJ (N:=["_law_place", "_law_rule"]) (n:=1) (ci:=[1]) rfl (xB (pv 0))
     (g9.of (so:=ai iO) (N0:=["_law_state", "_law_rule"]) ⟨rfl,by decide +kernel,by decide +kernel,by decide +kernel,rfl,rfl,by decide +kernel,by decide +kernel⟩)
     (fun z=>⟨aA (i:=0) (bV (N:=["_law_place", "_law_rule"]) (by decide +kernel)) rfl (Or.inl rfl),dH (bb cS (pv 0) (aO bo (pv 1) ak (fun _ _=>rfl)) (by with_unfolding_all rfl)),pv 0⟩)) (ba bu rfl T.lst cY (aa (aO bo (pv 1) ak (fun _ _=>rfl)) ag))) ag)) ag))),?_⟩
  refine⟨_,rfl,a,rfl,⟨_,cg.of ha⟩,fun z D1 hD1=>sD (a:=a) (xs:=aq s') (fun i ys H2=>ys=aq ((s'.take i).filter fun x=>!decide (x∈tk))∧H2 D1=some (.lst ys)∧ao H H2) ⟨rfl,ae,af hD1⟩ (fun i ys H2 _ p=>cg.of (p.2.2 _ _ ha)) ?_ ?_⟩
  ·rintro i v ys H2 hi ⟨rfl,hys,sm⟩
   obtain⟨x,hx,rfl⟩:=bQ hi
   refine⟨_,rfl,_,rfl,t,_,0,_,rfl,rfl,cg.of (sm _ _ ht),aE (j:=0) rfl,l,aq tk,rfl,.inl (aI.of (sm _ _ hl)),rfl,bN _,_,rfl,?_⟩
   show if (!w9 (V.str x) (aq tk))=true then _ else _
   rw [cW]
   have hlen:(aq ((s'.take i).filter fun x=>!decide (x∈tk))).length<sizeLine:=by
    rw [ah]
    have:=List.length_filter_le (fun x=>!decide (x∈tk)) (s'.take i)
    rw [List.length_take] at this
    lia
   cases c1:decide (x∈tk) with
   | true =>
    refine bS ⟨?_,hys,sm⟩
    rw [av hx,List.filter_append]
    simp [c1]
   | false =>
    refine cG ⟨_,rfl,hys,hlen,?_,ae,aD sm hD1⟩
    rw [av hx,List.filter_append]
    unfold aq
    simp [c1]
  ·rintro ys H2 ⟨rfl,hys,sm⟩
   rw [ah,List.take_length] at hys
   have lf:(s'.filter fun x=>!decide (x∈tk)).length≤50:=Nat.le_trans (List.length_filter_le _ _) ls
   refine⟨_,rfl,t,_,1,_,rfl,rfl,cg.of (sm _ _ ht),aE (j:=1) rfl,g,_,rfl,.inl (aI.of (sm _ _ hg)),fun q2 nq2=>?_⟩
   have s2:ao H2 (upd H2 q2 (.lst (aq gv))):=af nq2
   have hq2:(upd H2 q2 (.lst (aq gv))) q2=some (.lst (aq gv)):=ae
   have hys2:=s2 _ _ hys
   have sm2:=sm.trans s2
   generalize upd H2 q2 (.lst (aq gv))=H3 at s2 hq2 hys2 sm2 ⊢
   refine⟨D1,q2,_,_,rfl,rfl,hys2,hq2,?_,fun q3 nq3=>?_⟩
   ·rw [ah,ah]
    lia
   have e1:aq (s'.filter fun x=>!decide (x∈tk))++aq gv=aq ((s'.filter fun x=>!decide (x∈tk))++gv):=by unfold aq;rw [List.map_append]
   rw [e1]
   refine⟨q3,_,rfl,aI.of ae,?_,fun q4 nq4=>⟨q4,_,rfl,.inl ⟨aI.of ae,fun q5 nq5=>?_⟩⟩⟩
   ·rw [List.length_append]
    lia
   have s5:=(af (o:=.lst (aq ((s'.filter fun x=>!decide (x∈tk))++gv))) nq3).trans (af (o:=.lst (aq (aw ((s'.filter fun x=>!decide (x∈tk))++gv)))) nq4)
   refine kk _ q5 ((sm2.trans s5).trans (af nq5)) ((sm2.trans s5).free nq5) ?_
   rw [ae]
   rfl
end
end Uf
end
section
namespace L2
open PySem PySem.Spec PyProof.Rows UfSrt
section
variable {X:Cx}
def DQ(K:PySem.W.Frag):R2:=fun x y H Q=>∃ a b xs ys,x=.ref a∧y=.ref b∧cg K H a xs∧cg K H b ys∧xs.length+ys.length≤1000∧∀ H' r,ao H H'→cg K H' r (xs++ys)→Q (.ref r) H'
theorem uU:gZ X (binaryOp .Add) (DQ X.K):=by
 intro pins s σ H x y v u Q I rx ry h
 obtain⟨a,b,xs,ys,rfl,rfl,ha,hb,hz,q⟩:=h
 have hsl:=sizeLine_eq
 by_cases hx:xs=[]
 ·subst hx
  cases rx
  cases ry
  obtain⟨its,r1,p1,_⟩:=I.tuple ha
  obtain⟨its2,r2,p2,_⟩:=I.tuple hb
  cases r1
  obtain⟨⟨cls,dd,data,sl⟩,ho,hc,n,hd⟩:=id p1
  obtain⟨⟨cls2,dd2,data2,sl2⟩,ho2,hc2,n2,hd2⟩:=id p2
  simp only at hc hd hc2 hd2
  subst hc hd hc2 hd2
  exact concat_meets ⟨_,ho,rfl⟩ ⟨_,ho2,rfl⟩ noFill_tuple_add seq_tuple_add PySem.F.slot_tuple_add PySem.F.entry_tuple_add (PySem.F.args_tuple_add_2 _ _)
   (tuple_addW0 a b #[] its2.toArray n n2 dd dd2 sl sl2 rfl) ⟨ho,ho2,⟨.ref b,H,I,rfl,q H b (ao.refl _) hb⟩⟩
 ·refine Aw pins s σ H _ _ _ _ Q I rx ry ⟨a,b,xs,ys,rfl,rfl,ha,hb,hx,by lia,fun hy=>q H a (ao.refl _) (by rw [hy,List.append_nil];exact ha),fun _ p np=>q _ p (fun c o e=>?_) (cg.of ae)⟩
  rw [ar (ay e np)]
  exact e
end
end L2
end
section
namespace Uf
open PySem L2 UfSrt UfFin
abbrev AW:Stmt:=top 28
abbrev As:Stmt:=top 29
abbrev dn:Stmt:=top 30
abbrev iV:Stmt:=top 31
theorem sv:(("places":Str) == "place_names")=false:=by decide +kernel
theorem rO:(("places":Str) == "start_state")=false:=by decide +kernel
theorem rS:(("places":Str) == "taken_by")=false:=by decide +kernel
theorem qH:(("places":Str) == "given_by")=false:=by decide +kernel
theorem uJ:aw ([]:List Str)=[]:=List.eq_nil_of_length_eq_zero (by rw [aW];rfl)
def mB(ms1 ms2:List Mv)(x:Str):Mv:=(x,aw (bA ms1 x)++aw (bA ms2 x),aw (bC ms1 x)++aw (bC ms2 x))
def nC(ms1 ms2:List Mv):List Str:=aw (UfSet.dd (aw (names ms1)++aw (names ms2)))
def fj(ms1 ms2:List Mv):List Mv:=(nC ms1 ms2).map (mB ms1 ms2)
theorem qk{ms1 ms2:List Mv}{x:Str}:x∈nC ms1 ms2↔x∈names ms1∨x∈names ms2:=by
 unfold nC
 rw [bz,UfSet.jd,List.mem_append,bz,bz]
theorem jM(ms1 ms2:List Mv):names (fj ms1 ms2)=nC ms1 ms2:=by
 unfold fj names
 rw [List.map_map]
 conv=>rhs;rw [← List.map_id (nC ms1 ms2)]
 rfl
theorem j3(ms1 ms2:List Mv):(nC ms1 ms2).Nodup:=by
 unfold nC
 exact(bp _).nodup_iff.mpr (UfSet.gr _)
theorem qw{ms1 ms2:List Mv}:(nC ms1 ms2).length≤ms1.length+ms2.length:=by
 unfold nC
 rw [aW]
 refine Nat.le_trans (eX (UfSet.gr _) fun x hx=>UfSet.jd.mp hx) ?_
 rw [List.length_append,aW,aW]
 unfold names
 rw [List.length_map,List.length_map]
 exact Nat.le_refl _
theorem d8{ms:List Mv}{st:List Str}(so:Sound ms st)(x:Str):(bA ms x).length≤4∧(bC ms x).length≤4∧(∀ y∈bA ms x,y∈bL ms st∧isNm y=true)∧(∀ y∈bC ms x,y∈bL ms st∧isNm y=true)∧(bA ms x).Nodup∧(bC ms x).Nodup:=by
 by_cases hx:x∈names ms
 ·obtain⟨m,hm,rfl⟩:=List.mem_map.mp hx
  rw [eP so.nd hm,eN so.nd hm]
  obtain⟨u1,u2,_,a,b⟩:=dq (so.mv m hm)
  exact⟨a,b,fun y hy=>⟨ez.mpr (.inr ⟨m,hm,.inl hy⟩),cM u1 hy⟩,fun y hy=>⟨ez.mpr (.inr ⟨m,hm,.inr hy⟩),cM u2 hy⟩,aZ u1,aZ u2⟩
 ·rw [dM hx,dN hx]
  exact⟨by simp,by simp,fun y hy=>by simp at hy,fun y hy=>by simp at hy,.nil,.nil⟩
theorem wV{ms1 ms2:List Mv}{st1 st2:List Str}(so1:Sound ms1 st1)(so2:Sound ms2 st2):∀ y∈(aw st1++aw st2)++jE (fj ms1 ms2),y∈bL ms1 st1++bL ms2 st2:=fun y hy=>by
 rcases List.mem_append.mp hy with z | z
 ·rcases List.mem_append.mp z with z | z
  ·exact List.mem_append_left _ (ez.mpr (.inl (bz.mp z)))
  ·exact List.mem_append_right _ (ez.mpr (.inl (bz.mp z)))
 ·unfold jE at z
  obtain⟨m,hm,hym⟩:=List.mem_flatMap.mp z
  obtain⟨x,hx,rfl⟩:=List.mem_map.mp hm
  obtain⟨_,_,t1,g1,_,_⟩:=d8 so1 x
  obtain⟨_,_,t2,g2,_,_⟩:=d8 so2 x
  rcases List.mem_append.mp hym with z | z
  ·rcases List.mem_append.mp (show y∈aw (bA ms1 x)++aw (bA ms2 x) from z) with z | z
   ·exact List.mem_append_left _ (t1 y (bz.mp z)).1
   ·exact List.mem_append_right _ (t2 y (bz.mp z)).1
  ·rcases List.mem_append.mp (show y∈aw (bC ms1 x)++aw (bC ms2 x) from z) with z | z
   ·exact List.mem_append_left _ (g1 y (bz.mp z)).1
   ·exact List.mem_append_right _ (g2 y (bz.mp z)).1
theorem er{xs:List Str}(h:∀ x∈xs,isNm x=true)(hl:xs.length≤200):Short xs:=⟨hl,fun x hx=>by have:=ma (h x hx);lia⟩
theorem uR{ms1 ms2:List Mv}{st1 st2:List Str}(so1:Sound ms1 st1)(so2:Sound ms2 st2):Fits (fj ms1 ms2) (aw st1++aw st2):=by
 have l1:=so1.ml
 have l2:=so2.ml
 have s1:=so1.xb
 have s2:=so2.xb
 have ln:=qw (ms1:=ms1) (ms2:=ms2)
 have lpl:∀ l:List Str,(jE (l.map (mB ms1 ms2))).length≤16*l.length:=fun l=>by
  induction l with
  | nil=>exact Nat.le_refl _
  | cons x r ih =>
   obtain⟨a1,b1,_⟩:=d8 so1 x
   obtain⟨a2,b2,_⟩:=d8 so2 x
   unfold jE at ih ⊢
   rw [List.map_cons,List.flatMap_cons,List.length_append,List.length_cons]
   have:(mB ms1 ms2 x).2.1.length+(mB ms1 ms2 x).2.2.length≤16:=by
    show(aw (bA ms1 x)++aw (bA ms2 x)).length+(aw (bC ms1 x)++aw (bC ms2 x)).length≤16
    rw [List.length_append,List.length_append,aW,aW,aW,aW]
    lia
   rw [List.length_append]
   lia
 refine⟨?_,fun m hm=>?_,fun m hm=>?_,?_,?_,?_⟩
 ·rw [jM]
  refine er (fun x hx=>?_) (by lia)
  rcases qk.mp hx with z | z
  ·exact List.all_eq_true.mp so1.nn x z
  ·exact List.all_eq_true.mp so2.nn x z
 ·obtain⟨x,hx,rfl⟩:=List.mem_map.mp hm
  obtain⟨a1,b1,c1,_⟩:=d8 so1 x
  obtain⟨a2,b2,c2,_⟩:=d8 so2 x
  refine er (fun y hy=>?_) ?_
  ·rcases List.mem_append.mp (show y∈aw (bA ms1 x)++aw (bA ms2 x) from hy) with z | z
   ·exact(c1 y (bz.mp z)).2
   ·exact(c2 y (bz.mp z)).2
  ·show(aw (bA ms1 x)++aw (bA ms2 x)).length≤200
   rw [List.length_append,aW,aW]
   lia
 ·obtain⟨x,hx,rfl⟩:=List.mem_map.mp hm
  obtain⟨a1,b1,_,c1,_⟩:=d8 so1 x
  obtain⟨a2,b2,_,c2,_⟩:=d8 so2 x
  refine er (fun y hy=>?_) ?_
  ·rcases List.mem_append.mp (show y∈aw (bC ms1 x)++aw (bC ms2 x) from hy) with z | z
   ·exact(c1 y (bz.mp z)).2
   ·exact(c2 y (bz.mp z)).2
  ·show(aw (bC ms1 x)++aw (bC ms2 x)).length≤200
   rw [List.length_append,aW,aW]
   lia
 ·refine er (fun y hy=>?_) (by rw [List.length_append,aW,aW];lia)
  rcases List.mem_append.mp hy with z | z
  ·exact cM so1.su (bz.mp z)
  ·exact cM so2.su (bz.mp z)
 ·have:=lpl (nC ms1 ms2)
  rw [List.length_append,List.length_append,aW,aW]
  unfold fj
  lia
 ·refine Nat.lt_of_le_of_lt (eX (UfSet.gr _) fun x hx=>wV so1 so2 x (UfSet.jd.mp hx)) ?_
  have p1:=so1.pl
  have p2:=so2.pl
  rw [List.length_append]
  lia
section
variable {P:Program}{w:World}{K:PySem.W.Frag}{mg:Str→Option Value}{base:Heap}
def pW(C:Addr):Sp:=fun vs H Q _=>∃ (p:Addr) (ms:List Mv) (st:List Str),vs=[.ref p]∧cj C H p ms st∧∀ H' q,ao H H'→H q=none→H' q=some (.lst (aq (bL ms st)))→Q (.ref q) H'
theorem BE:aU ["self"] ["self"] (ai iR):=⟨rfl,rfl,rfl,by decide +kernel,rfl,by decide +kernel,by decide +kernel⟩
theorem zX{f C:Addr}{fd:FuncData}(F:dW K "places" "Net.places" iR f fd)(T:Txt K mg)(CT:gG K C):aH P w K mg base bX 1 f fd ["self"] (pW C):=by
 refine F.ok BE (fun vs H Q E h=>?_) (fun cdv A outer s H vs Q E hr h=>?_)
 ·obtain⟨p,ms,st,rfl,_⟩:=h
  rfl
 ·obtain⟨p,ms,st,rfl,N,k⟩:=h
  obtain⟨dx,aP,aS,aT,aG,kT,kG,h1,h2,h3,h4,h5,h6,h7⟩:=N.at'.ob
  refine⟨_,au (aK (ba bu rfl T.lst cY (aa (iA (pv 0) rfl) ag))),?_⟩
  exact⟨_,rfl,p,C,dx,_,_,rfl,h1,CT.cl,CT.nP,Eh _ _ _ _,aP,_,rfl,.inr (cg.of h2),fun q nq=>k _ q (af nq) nq ae⟩
def DY(C:Addr):Sp:=fun vs H Q _=>∃ (p:Addr) (ms:List Mv) (st:List Str) (x:Str),vs=[.ref p,.str x]∧cj C H p ms st∧∀ H' t,ao H H'→sX H' t (aw (bA ms x)) (aw (bC ms x))→Q (.ref t) H'
theorem E1:aU ["net", "move"] ["net", "move"] (ai AW):=⟨rfl,rfl,rfl,by decide +kernel,rfl,by decide +kernel,by decide +kernel⟩
theorem DW{f C fM fT fG:Addr}{fd fdM fdT fdG:FuncData}(F:dW K "takes_and_gives" "takes_and_gives" AW f fd)(CT:gG K C)
  (DM:dX K C "moves" "Net.moves" gz ["self"] fM fdM) (GM:aH P w K mg base bX 1 fM fdM ["self"] (i5 C))
  (DT:dX K C "takes" "Net.takes" eV ["self", "move"] fT fdT) (GT:aH P w K mg base bX 3 fT fdT ["self", "move"] (js C (·.2.1)))
  (DG:dX K C "gives" "Net.gives" gc ["self", "move"] fG fdG) (GG:aH P w K mg base bX 3 fG fdG ["self", "move"] (js C (·.2.2))) :
  aH P w K mg base bX 4 f fd ["net", "move"] (DY C):=by
 refine F.ok E1 (fun vs H Q E h=>?_) (fun cdv A outer s H vs Q E hr h=>?_)
 ·obtain⟨p,ms,st,x,rfl,_⟩:=h
  rfl
 ·obtain⟨p,ms,st,x,rfl,N,kk⟩:=h
  have hsl:=PySem.sizeLine_eq
  have hr1:bR 1 _:=hr.mono (by decide)
  refine⟨_,aj (bB (bb cS (pv 1) (bW (pv 0) CT.cl DM.mt GM hr1 DM.bd .nil aJ) (by with_unfolding_all rfl)) (au (aK (cz (aa (bj ag) (aa (bj ag) ag))))) aX)
   (au (aK (cz (aa (eQ (pv 0) CT.cl DT.mt GT hr DT.bd .nil aJ (aa (pv 1) ag)) (aa (eQ (pv 0) CT.cl DG.mt GG hr DG.bd .nil aJ (aa (pv 1) ag)) ag))))),?_⟩
  obtain⟨dx,aP,aS,aT,aG,kT,kG,h1,_⟩:=N.at'.ob
  refine⟨_,rfl,_,rfl,p,dx,_,rfl,h1,bY _ _ _ _ kA kI kK kC,p,ms,st,rfl,N,fun H1 q s1 nq hq=>?_⟩
  refine⟨q,_,rfl,.inl (aI.of hq),rfl,bN _,_,rfl,?_⟩
  refine jb (fun c=>?_) (fun c=>?_)
  ·have hx:x∉names ms:=fun z=>by
    have z2:x∈aw (names ms):=(bp _).mem_iff.mpr z
    simp [cW,z2] at c
   refine⟨Nat.zero_le _,fun e1 ne1=>?_⟩
   have s2:ao H1 (upd H1 e1 (.lst [])):=af ne1
   have he1:(upd H1 e1 (.lst [])) e1=some (.lst (aq [])):=ae
   generalize upd H1 e1 (.lst [])=H2 at s2 he1 ⊢
   refine⟨Nat.zero_le _,fun e2 ne2=>?_⟩
   have s3:ao H2 (upd H2 e2 (.lst [])):=af ne2
   have he2:(upd H2 e2 (.lst [])) e2=some (.lst (aq [])):=ae
   generalize upd H2 e2 (.lst [])=H3 at s3 he2 ⊢
   refine⟨by show 2≤sizeLine;lia,fun t nt=>?_⟩
   have s4:ao H3 (upd H3 t (.tup [.ref e1,.ref e2])):=af nt
   refine kk _ t (s1.trans (s2.trans (s3.trans s4))) ⟨e1,e2,ae,?_,?_⟩
   ·rw [dM hx,uJ]
    exact(s3.trans s4) _ _ he1
   ·rw [dN hx,uJ]
    exact s4 _ _ he2
  ·have hx:x∈aw (names ms):=by
    simp [cW] at c
    exact c
   obtain⟨m,hm,rfl⟩:=iQ hx
   refine⟨_,rfl,p,dx,_,rfl,s1 _ _ h1,bY _ _ _ _ u4 vn vf uy,_,rfl,p,ms,st,m,rfl,N.same s1,hm,fun H2 q2 s2 nq2 hq2=>?_⟩
   refine⟨_,rfl,p,dx,_,rfl,(s1.trans s2) _ _ h1,bY _ _ _ _ xi xC yy xk,_,rfl,p,ms,st,m,rfl,N.same (s1.trans s2),hm,fun H3 q3 s3 nq3 hq3=>?_⟩
   refine⟨by show 2≤sizeLine;lia,fun t nt=>?_⟩
   have s4:ao H3 (upd H3 t (.tup [.ref q2,.ref q3])):=af nt
   refine kk _ t (s1.trans (s2.trans (s3.trans s4))) ⟨q2,q3,ae,?_,?_⟩
   ·rw [eP N.so.nd hm]
    exact(s3.trans s4) _ _ hq2
   ·rw [eN N.so.nd hm]
    exact s4 _ _ hq3
def B5(C:Addr):Sp:=fun vs H Q _=>∃ (p q:Addr) (ms1 ms2:List Mv) (st1 st2:List Str) (x:Str),vs=[.ref p,.ref q,.str x]∧cj C H p ms1 st1∧cj C H q ms2 st2∧∀ H' t l g,ao H H'→H' t=some (.tup [.str x,.ref l,.ref g])→H' l=some (.lst (aq (mB ms1 ms2 x).2.1))→H' g=some (.lst (aq (mB ms1 ms2 x).2.2))→H l=none→H g=none→Q (.ref t) H'
theorem BA:aU ["one", "other", "move", "first", "second"] ["one", "other", "move"] (ai As):=⟨rfl,rfl,rfl,by decide +kernel,rfl,by decide +kernel,by decide +kernel⟩
theorem Dd{f C fT:Addr}{fd fdT:FuncData}(F:dW K "move_of_both" "move_of_both" As f fd)(DT:Def K mg "takes_and_gives" AW ["net", "move"] fT fdT)(GT:aH P w K mg base bX 4 fT fdT ["net", "move"] (DY C)) :
  aH P w K mg base bX 5 f fd ["one", "other", "move"] (B5 C):=by
 refine F.ok BA (fun vs H Q E h=>?_) (fun cdv A outer s H vs Q E hr h=>?_)
 ·obtain⟨p,q,ms1,ms2,st1,st2,x,rfl,_⟩:=h
  rfl
 ·obtain⟨p,q,ms1,ms2,st1,st2,x,rfl,N1,N2,kk⟩:=h
  have hsl:=PySem.sizeLine_eq
  refine⟨_,aj (aN (i:=3) BA.nd rfl (Or.inl rfl) (az GT hr rfl DT.mg DT.fn.kp DT.bd .nil aJ (aa (pv 0) (aa (pv 2) ag))))
   (aj (aN (i:=4) BA.nd rfl (Or.inl rfl) (az GT hr rfl DT.mg DT.fn.kp DT.bd .nil aJ (aa (pv 1) (aa (pv 2) ag))))
   (au (aK (cz (aa (pv 2) (aa (aB dJ (aO bo (pv 3) ak (fun _ _=>rfl)) (aO bo (pv 4) ak (fun _ _=>rfl))) (aa (aB dJ (aO bo (pv 3) ak (fun _ _=>rfl)) (aO bo (pv 4) ak (fun _ _=>rfl))) ag))))))),?_⟩
  obtain⟨a1,b1,_⟩:=d8 N1.so x
  obtain⟨a2,b2,_⟩:=d8 N2.so x
  refine⟨_,rfl,_,rfl,p,ms1,st1,x,rfl,N1,fun H1 t1 s1 ⟨l1,g1,ht1,hl1,hg1⟩=>?_⟩
  refine⟨_,rfl,_,rfl,q,ms2,st2,x,rfl,N2.same s1,fun H2 t2 s2 ⟨l2,g2,ht2,hl2,hg2⟩=>?_⟩
  refine⟨_,rfl,_,rfl,t1,_,0,_,rfl,rfl,cg.of (s2 _ _ ht1),aE (j:=0) rfl,_,rfl,t2,_,0,_,rfl,rfl,cg.of ht2,aE (j:=0) rfl,l1,l2,_,_,rfl,rfl,s2 _ _ hl1,hl2,by rw [ah,ah,aW,aW];lia,fun qa nqa=>?_⟩
  have ea:aq (aw (bA ms1 x))++aq (aw (bA ms2 x))=aq (aw (bA ms1 x)++aw (bA ms2 x)):=by unfold aq;rw [List.map_append]
  rw [ea]
  have s3:ao H2 (upd H2 qa (.lst (aq (aw (bA ms1 x)++aw (bA ms2 x))))):=af nqa
  have hqa:(upd H2 qa (.lst (aq (aw (bA ms1 x)++aw (bA ms2 x))))) qa=some (.lst (aq (aw (bA ms1 x)++aw (bA ms2 x)))):=ae
  generalize upd H2 qa (.lst (aq (aw (bA ms1 x)++aw (bA ms2 x))))=H3 at s3 hqa ⊢
  refine⟨_,rfl,t1,_,1,_,rfl,rfl,cg.of ((s2.trans s3) _ _ ht1),aE (j:=1) rfl,_,rfl,t2,_,1,_,rfl,rfl,cg.of (s3 _ _ ht2),aE (j:=1) rfl,g1,g2,_,_,rfl,rfl,(s2.trans s3) _ _ hg1,s3 _ _ hg2,by rw [ah,ah,aW,aW];lia,fun qb nqb=>?_⟩
  have eb:aq (aw (bC ms1 x))++aq (aw (bC ms2 x))=aq (aw (bC ms1 x)++aw (bC ms2 x)):=by unfold aq;rw [List.map_append]
  rw [eb]
  have s4:ao H3 (upd H3 qb (.lst (aq (aw (bC ms1 x)++aw (bC ms2 x))))):=af nqb
  have hqb:(upd H3 qb (.lst (aq (aw (bC ms1 x)++aw (bC ms2 x))))) qb=some (.lst (aq (aw (bC ms1 x)++aw (bC ms2 x)))):=ae
  generalize upd H3 qb (.lst (aq (aw (bC ms1 x)++aw (bC ms2 x))))=H4 at s4 hqb ⊢
  refine⟨by show 3≤sizeLine;lia,fun t nt=>?_⟩
  have s5:ao H4 (upd H4 t (.tup [.str x,.ref qa,.ref qb])):=af nt
  exact kk _ t qa qb (s1.trans (s2.trans (s3.trans (s4.trans s5)))) ae ((s4.trans s5) _ _ hqa) (s5 _ _ hqb) ((s1.trans s2).free nqa) ((s1.trans (s2.trans s3)).free nqb)
def bf(ms:List Mv)(r:List Str):List Str:=r.filter fun x=>decide (x∈names ms)
def sQ(K:PySem.W.Frag)(C:Addr):Sp:=fun vs H Q _=>∃ (p a:Addr) (ms:List Mv) (st r:List Str),vs=[.ref p,.ref a]∧cj C H p ms st∧aI K H a (aq r)∧r.length≤200∧∀ H' q,ao H H'→H q=none→H' q=some (.lst (aq (bf ms r)))→Q (.ref q) H'
theorem x8:aU ["net", "row", "moves"] ["net", "row"] (ai iV):=⟨rfl,rfl,rfl,by decide +kernel,rfl,by decide +kernel,by decide +kernel⟩
theorem zA{f C fM:Addr}{fd fdM:FuncData}(F:dW K "half" "half" iV f fd)(CT:gG K C)(DM:dX K C "moves" "Net.moves" gz ["self"] fM fdM)(GM:aH P w K mg base bX 1 fM fdM ["self"] (i5 C)) :
  aH P w K mg base bX 2 f fd ["net", "row"] (sQ K C):=by
 refine F.ok x8 (fun vs H Q E h=>?_) (fun cdv A outer s H vs Q E hr h=>?_)
 ·obtain⟨p,a,ms,st,r,rfl,_⟩:=h
  rfl
 ·obtain⟨p,a,ms,st,r,rfl,N,ha,hz,kk⟩:=h
  have hsl:=PySem.sizeLine_eq
  refine⟨_,aj (aN (i:=2) x8.nd rfl (Or.inr rfl) (bW (pv 0) CT.cl DM.mt GM hr DM.bd .nil aJ))
   (au (aK (bJ (N:=["move", "moves"]) (n:=1) (ci:=[2]) rfl (bx (pv 1))
    (g9.of (so:=ai iV) (N0:=["net", "row", "moves"]) ⟨rfl,by decide +kernel,by decide +kernel,by decide +kernel,rfl,rfl,by decide +kernel,by decide +kernel⟩)
    (fun z=>⟨aA (i:=0) (bV (N:=["move", "moves"]) (by decide +kernel)) rfl (Or.inl rfl),dH (bb cV (pv 0) (pv 1) (by with_unfolding_all rfl)),pv 0⟩)))),?_⟩
  obtain⟨dx,aP,aS,aT,aG,kT,kG,h1,_⟩:=N.at'.ob
  refine⟨_,rfl,p,dx,_,rfl,h1,bY _ _ _ _ kA kI kK kC,p,ms,st,rfl,N,fun H1 q s1 nq hq=>?_⟩
  refine⟨_,rfl,a,rfl,⟨_,s1.seq ha⟩,fun z D hD=>br (a:=a) (xs:=aq r) (fun i ys H2=>ys=aq (bf ms (r.take i))∧H2 D=some (.lst ys)∧ao H1 H2) ⟨rfl,ae,af hD⟩ (fun i ys H2 _ p=>(s1.trans p.2.2).seq ha) ?_ ?_⟩
  ·rintro i v ys H2 hi ⟨rfl,hys,sm⟩
   obtain⟨x,hx,rfl⟩:=bQ hi
   have hlen:(aq (bf ms (r.take i))).length<sizeLine:=by
    rw [ah]
    have:=List.length_filter_le (fun x=>decide (x∈names ms)) (r.take i)
    rw [List.length_take] at this
    unfold bf
    lia
   refine⟨_,rfl,_,rfl,q,aq (aw (names ms)),rfl,.inl (aI.of (sm _ _ hq)),rfl,bN _,_,rfl,?_⟩
   show if w9 (V.str x) (aq (aw (names ms)))=true then _ else _
   rw [cW,decide_eq_decide.mpr (bz (xs:=names ms) (x:=x))]
   unfold bf at hys hlen ⊢
   cases c1:decide (x∈names ms) with
   | false =>
    refine bS ⟨?_,hys,sm⟩
    rw [av hx,List.filter_append]
    simp [c1]
   | true =>
    refine cG ⟨_,rfl,hys,hlen,?_,ae,aD sm hD⟩
    rw [av hx,List.filter_append]
    unfold aq
    simp [c1]
  ·rintro ys H2 ⟨rfl,hys,sm⟩
   rw [ah,List.take_length] at hys
   exact kk H2 D (s1.trans sm) (s1.free hD) hys
end
end Uf
end
section
namespace Uf
open PySem L2 UfSrt UfFin
def gK(ms1:List Mv)(st1:List Str)(ms2:List Mv)(st2:List Str):Prop:=∀ x∈bL ms1 st1,x∉bL ms2 st2
theorem oN{ms1 ms2:List Mv}{st1 st2:List Str}(h:gK ms1 st1 ms2 st2):((bL ms1 st1).map fun x=>decide (x∈bL ms2 st2)).any id=false:=by
 rw [List.any_map,List.any_eq_false]
 intro x hx
 simpa using h x hx
section
variable {P:Program}{w:World}{K:PySem.W.Frag}{mg:Str→Option Value}{base:Heap}
theorem AY{cx P w K mg base ns nm sc f cdv A outer s H E}:(iL cx P w K mg base ns nm sc f cdv A outer s H E).zK.w=w:=rfl
theorem gk:aU ["one", "other", "places", "moves"] ["one", "other"] (ai dn):=⟨rfl,rfl,rfl,by decide +kernel,rfl,by decide +kernel,by decide +kernel⟩
def r9(C:Addr):Sp:=fun vs H Q _=>∃ (p q:Addr) (ms1 ms2:List Mv) (st1 st2:List Str),vs=[.ref p,.ref q]∧cj C H p ms1 st1∧cj C H q ms2 st2∧gK ms1 st1 ms2 st2∧dw (fj ms1 ms2) (aw st1++aw st2)=true ∧
 ∀ H' r,ao H H'→H r=none→cj C H' r (fj ms1 ms2) (aw st1++aw st2)→Q (.ref r) H'
theorem wO{f C fI fP fM fS fB:Addr}{fd fdI fdP fdM fdS fdB:FuncData}(F:dW K "shaken" "shaken" dn f fd)(T:Txt K mg)(T2:Txt2 mg)(CT:gG K C)(mgC:mg "Net"=some (.ref C))(M:Mk K C fI)(bI:Binds K fdI ["self", "moves", "start"] [])(GI:aH P w K mg base bX 5 fI fdI ["self", "moves", "start"] (tN K C))
  (DP:dX K C "places" "Net.places" iR ["self"] fP fdP) (GP:aH P w K mg base bX 1 fP fdP ["self"] (pW C))
  (DM:dX K C "moves" "Net.moves" gz ["self"] fM fdM) (GM:aH P w K mg base bX 1 fM fdM ["self"] (i5 C))
  (DS:dX K C "start" "Net.start" fV ["self"] fS fdS) (GS:aH P w K mg base bX 1 fS fdS ["self"] (kR C))
  (DB:Def K mg "move_of_both" As ["one", "other", "move"] fB fdB) (GB:aH P w K mg base bX 5 fB fdB ["one", "other", "move"] (B5 C)) :
  aH P w K mg base bX 7 f fd ["one", "other"] (r9 C):=by
 refine F.ok gk (fun vs H Q E h=>?_) (fun cdv A outer s H vs Q E hr h=>?_)
 ·obtain⟨p,q,ms1,ms2,st1,st2,rfl,_⟩:=h
  rfl
 ·obtain⟨p,q,ms1,ms2,st1,st2,rfl,N1,N2,hap,hmk,kk⟩:=h
  have hsl:=PySem.sizeLine_eq
  have hr1:bR 1 _:=hr.mono (by decide)
  have hr5:bR 5 _:=hr.mono (by decide)
  refine⟨_,aj (aN (i:=2) gk.nd rfl (Or.inr rfl) (bW (pv 1) CT.cl DP.mt GP hr1 DP.bd .nil aJ))
   (aj (bB (cu (aF (iq rfl) rfl T2.any qE (aa (bJ (N:=["place", "places"]) (n:=1) (ci:=[2]) rfl (bx (bW (pv 0) CT.cl DP.mt GP hr1 DP.bd .nil aJ))
     (g9.of (so:=ai dn) (N0:=["one", "other", "places", "moves"]) ⟨rfl,by decide +kernel,by decide +kernel,by decide +kernel,rfl,rfl,by decide +kernel,by decide +kernel⟩)
     (fun z=>⟨aA (i:=0) (bV (N:=["place", "places"]) (by decide +kernel)) rfl (Or.inl rfl),bP,cI cV (pv 0) (pv 1) (by with_unfolding_all rfl)⟩)) ag))) iD aX)
   (aj (aN (i:=3) gk.nd rfl (Or.inl rfl) (aF (i7 rfl) rfl T.aw cN (aa (ba (jI rfl) rfl T.set uE (aa (aB dJ (bW (pv 0) CT.cl DM.mt GM hr1 DM.bd .nil aJ) (bW (pv 1) CT.cl DM.mt GM hr1 DM.bd .nil aJ)) ag)) ag)))
   (au (aK (p8 M GI hr rfl mgC bI .nil aJ (aa (bJ (N:=["move", "one", "other"]) (n:=1) (ci:=[0,1]) rfl (bx (pv 3))
     (g9.of (so:=ai dn) (N0:=["one", "other", "places", "moves"]) ⟨rfl,by decide +kernel,by decide +kernel,by decide +kernel,rfl,rfl,by decide +kernel,by decide +kernel⟩)
     (fun z=>⟨aA (i:=0) (bV (N:=["move", "one", "other"]) (by decide +kernel)) rfl (Or.inl rfl),bP,az GB hr5 rfl DB.mg DB.fn.kp DB.bd .nil aJ (aa (pv 1) (aa (pv 2) (aa (pv 0) ag)))⟩))
     (aa (ba bu rfl T.lst cY (aa (aB uU (bW (pv 0) CT.cl DS.mt GS hr1 DS.bd .nil aJ) (bW (pv 1) CT.cl DS.mt GS hr1 DS.bd .nil aJ)) ag)) ag))))))),?_⟩
  obtain⟨dx1,_,_,_,_,_,_,h1,_⟩:=N1.at'.ob
  obtain⟨dx2,_,_,_,_,_,_,h2,_⟩:=N2.at'.ob
  have so1:=N1.so
  have so2:=N2.so
  have l1:=so1.ml
  have l2:=so2.ml
  have p1:=so1.pl
  have p2:=so2.pl
  have t1:=so1.xb
  have t2:=so2.xb
  refine⟨_,rfl,q,dx2,_,rfl,h2,bY _ _ _ _ sv rO rS qH,q,ms2,st2,rfl,N2,fun H1 aP s1 nP hP=>?_⟩
  refine⟨_,rfl,p,dx1,_,rfl,s1 _ _ h1,bY _ _ _ _ sv rO rS qH,p,ms1,st1,rfl,N1.same s1,fun H2 aQ s2 nQ hQ=>?_⟩
  refine⟨aQ,rfl,⟨_,aI.of hQ⟩,fun z D hD=>br (a:=aQ) (xs:=aq (bL ms1 st1)) (fun i ys H3=>ys=((bL ms1 st1).take i).map (fun x=>V.bl (decide (x∈bL ms2 st2)))∧H3 D=some (.lst ys)∧ao H2 H3) ⟨rfl,ae,af hD⟩ (fun i ys H3 _ p=>aI.of (p.2.2 _ _ hQ)) ?_ ?_⟩
  ·rintro i v ys H3 hi ⟨rfl,hys,sm⟩
   obtain⟨x,hx,rfl⟩:=bQ hi
   refine⟨_,rfl,_,rfl,aP,aq (bL ms2 st2),rfl,.inl (aI.of ((s2.trans sm) _ _ hP)),rfl,bN _,hys,?_,?_,ae,aD sm hD⟩
   ·rw [List.length_map,List.length_take]
    lia
   ·rw [av hx,List.map_append,cW]
    rfl
  rintro ys H3 ⟨rfl,hys,sm⟩
  rw [ah,List.take_length] at hys
  have s3:=s1.trans (s2.trans sm)
  refine⟨D,(bL ms1 st1).map fun x=>decide (x∈bL ms2 st2),rfl,aI.of (by rw [hys,List.map_map];rfl),_,rfl,?_⟩
  rw [oN hap]
  refine bS ?_
  refine⟨_,rfl,p,dx1,_,rfl,s3 _ _ h1,bY _ _ _ _ kA kI kK kC,p,ms1,st1,rfl,N1.same s3,fun H4 m1 s4 nm1 hm1=>?_⟩
  have s04:=s3.trans s4
  refine⟨_,rfl,q,dx2,_,rfl,s04 _ _ h2,bY _ _ _ _ kA kI kK kC,q,ms2,st2,rfl,N2.same s04,fun H5 m2 s5 nm2 hm2=>?_⟩
  have s05:=s04.trans s5
  have ln1:(names ms1).length=ms1.length:=by unfold names;rw [List.length_map]
  have ln2:(names ms2).length=ms2.length:=by unfold names;rw [List.length_map]
  refine⟨m1,m2,_,_,rfl,rfl,s5 _ _ hm1,hm2,by rw [ah,ah,aW,aW];lia,fun qc nqc=>?_⟩
  have ec:aq (aw (names ms1))++aq (aw (names ms2))=aq (aw (names ms1)++aw (names ms2)):=by unfold aq;rw [List.map_append]
  rw [ec]
  have s6:ao H5 (upd H5 qc (.lst (aq (aw (names ms1)++aw (names ms2))))):=af nqc
  have hqc:(upd H5 qc (.lst (aq (aw (names ms1)++aw (names ms2))))) qc=some (.lst (aq (aw (names ms1)++aw (names ms2)))):=ae
  generalize upd H5 qc (.lst (aq (aw (names ms1)++aw (names ms2))))=H6 at s6 hqc ⊢
  have lshN:=qw (ms1:=ms1) (ms2:=ms2)
  have ldd:(UfSet.dd (aw (names ms1)++aw (names ms2))).length=(nC ms1 ms2).length:=by unfold nC;rw [aW]
  refine⟨qc,_,rfl,aI.of hqc,by rw [List.length_append,aW,aW];lia,fun ps nps=>⟨ps,_,rfl,ae,by lia,fun qs nqs=>?_⟩⟩
  rw [AY]
  have s7:=(af (o:=jC w ps (UfSet.dd (aw (names ms1)++aw (names ms2)))) nps).trans (af (o:=.lst (aq (aw (UfSet.dd (aw (names ms1)++aw (names ms2)))))) nqs)
  have hqs:(upd (upd H6 ps (jC w ps (UfSet.dd (aw (names ms1)++aw (names ms2))))) qs (.lst (aq (aw (UfSet.dd (aw (names ms1)++aw (names ms2))))))) qs=some (.lst (aq (nC ms1 ms2))):=ae
  generalize upd (upd H6 ps (jC w ps (UfSet.dd (aw (names ms1)++aw (names ms2))))) qs (.lst (aq (aw (UfSet.dd (aw (names ms1)++aw (names ms2))))))=H7 at s7 hqs ⊢
  have s07:=s05.trans (s6.trans s7)
  have N17:=N1.same s07
  have N27:=N2.same s07
  refine⟨_,rfl,qs,rfl,⟨_,aI.of hqs⟩,fun z D2 hD2=>br (a:=qs) (xs:=aq (nC ms1 ms2)) (fun i ys H8=>∃ as:List Addr,ys=as.map V.ref∧H8 D2=some (.lst ys)∧ao H7 H8∧Paired (fun(x:Str) a=>∃ l g,H8 a=some (.tup [.str x,.ref l,.ref g])∧H8 l=some (.lst (aq (mB ms1 ms2 x).2.1))∧H8 g=some (.lst (aq (mB ms1 ms2 x).2.2))∧l≠D2∧g≠D2) ((nC ms1 ms2).take i) as) ⟨[],rfl,ae,af hD2,.nil⟩ (fun i ys H8 _ ⟨_,_,_,s8,_⟩=>aI.of (s8 _ _ hqs)) ?_ ?_⟩
  ·rintro i v ys H8 hi ⟨as,rfl,hys8,s8,pa⟩
   obtain⟨x,hx,rfl⟩:=bQ hi
   have hlen:(as.map V.ref).length<sizeLine:=by
    have:=Paired.length pa
    rw [List.length_take] at this
    rw [List.length_map]
    lia
   refine⟨_,rfl,_,rfl,_,rfl,p,q,ms1,ms2,st1,st2,x,rfl,N17.same s8,N27.same s8,fun H9 t l g s9 ht hl hg nl ng=>?_⟩
   have hys9:=s9 _ _ hys8
   have lD:l≠D2:=fun z=>by rw [z,hys8] at nl;cases nl
   have gD:g≠D2:=fun z=>by rw [z,hys8] at ng;cases ng
   refine⟨hys9,hlen,as++[t],by rw [List.map_append];rfl,ae,aD (s8.trans s9) hD2,?_⟩
   rw [av hx]
   refine Paired.snoc (Paired.il pa fun x a ⟨l,g,e1,e2,e3,n1,n2⟩=>⟨l,g,?_,?_,?_,n1,n2⟩) ⟨l,g,?_,?_,?_,lD,gD⟩
   ·rw [ar (cv (s9 _ _ e1) hys9 (fun z=>nomatch z))]
    exact s9 _ _ e1
   ·rw [ar n1]
    exact s9 _ _ e2
   ·rw [ar n2]
    exact s9 _ _ e3
   ·rw [ar (cv ht hys9 (fun z=>nomatch z))]
    exact ht
   ·rw [ar lD]
    exact hl
   ·rw [ar gD]
    exact hg
  rintro ys H8 ⟨as,rfl,hys8,s8,pa⟩
  rw [ah,List.take_length] at pa
  have pm:∀ {xs:List Str} {as:List Addr},Paired (fun(x:Str) a=>∃ l g,H8 a=some (.tup [.str x,.ref l,.ref g])∧H8 l=some (.lst (aq (mB ms1 ms2 x).2.1))∧H8 g=some (.lst (aq (mB ms1 ms2 x).2.2))∧l≠D2∧g≠D2) xs as→Paired (o9 H8) (xs.map (mB ms1 ms2)) as:=fun h=>by
   induction h with
   | nil=>exact .nil
   | cons h t ih =>
    obtain⟨l,g,e1,e2,e3,_⟩:=h
    exact .cons ⟨l,g,e1,e2,e3⟩ ih
  have pm:=pm pa
  have s08:=s07.trans s8
  refine⟨_,rfl,p,dx1,_,rfl,s08 _ _ h1,bY _ _ _ _ si rp rM rT,p,ms1,st1,rfl,N1.same s08,fun b1 hb1=>?_⟩
  refine⟨_,rfl,q,dx2,_,rfl,s08 _ _ h2,bY _ _ _ _ si rp rM rT,q,ms2,st2,rfl,N2.same s08,fun b2 hb2=>?_⟩
  refine⟨b1,b2,_,_,rfl,rfl,cg.of hb1,cg.of hb2,by rw [ah,ah,aW,aW];lia,fun H9 r s9 hr9=>?_⟩
  have es:aq (aw st1)++aq (aw st2)=aq (aw st1++aw st2):=by unfold aq;rw [List.map_append]
  rw [es] at hr9
  refine⟨r,_,rfl,.inr hr9,fun bl nbl=>?_⟩
  have s10:ao H9 (upd H9 bl (.lst (aq (aw st1++aw st2)))):=af nbl
  have hbl:(upd H9 bl (.lst (aq (aw st1++aw st2)))) bl=some (.lst (aq (aw st1++aw st2))):=ae
  generalize upd H9 bl (.lst (aq (aw st1++aw st2)))=H10 at s10 hbl ⊢
  have s810:=s9.trans s10
  have s010:=s08.trans s810
  intro x dx nx ndx nex
  have sn:ao H10 (upd (upd H10 dx (.own x)) x (.ins C dx [])):=fun b o e=>by
   rw [ar (ay e nx),ar (ay e ndx)]
   exact e
  have mvs:jh K (upd (upd H10 dx (.own x)) x (.ins C dx [])) D2 (fj ms1 ms2):=⟨as,aI.of (sn _ _ (s810 _ _ hys8)),Paired.il pm fun m a h=>h.same (s810.trans sn)⟩
  refine⟨x,dx,D2,bl,fj ms1 ms2,aw st1++aw st2,rfl,ae,mvs,aI.of (sn _ _ hbl),uR so1 so2,hmk,fun H11 NA kp=>⟨rfl,?_⟩⟩
  have s11:ao H10 H11:=fun b o e=>kp b o (sn b o e) (ay e nx)
  exact kk H11 x (s010.trans s11) (s010.free nx) ⟨NA,mw hmk⟩
def nX(C CO:Addr):Sp:=fun vs H Q E=>∃ (p q:Addr) (ms1 ms2:List Mv) (st1 st2:List Str),vs=[.ref p,.ref q]∧cj C H p ms1 st1∧cj C H q ms2 st2∧((∃ x∈bL ms1 st1,x∈bL ms2 st2)∨dw (fj ms1 ms2) (aw st1++aw st2)=false)∧j7 H E CO
theorem sL{f C CO NO fO fI fP fM fS fB:Addr}{fd fdO fdI fdP fdM fdS fdB:FuncData}(F:dW K "shaken" "shaken" dn f fd)(XO:xX P w K mg base "NoNet" CO NO fO fdO)(T:Txt K mg)(T2:Txt2 mg)(CT:gG K C)(mgC:mg "Net"=some (.ref C))(M:Mk K C fI)(bI:Binds K fdI ["self", "moves", "start"] [])(GI:aH P w K mg base (jT P w) 5 fI fdI ["self", "moves", "start"] (uS K C CO))
  (DP:dX K C "places" "Net.places" iR ["self"] fP fdP) (GP:aH P w K mg base bX 1 fP fdP ["self"] (pW C))
  (DM:dX K C "moves" "Net.moves" gz ["self"] fM fdM) (GM:aH P w K mg base bX 1 fM fdM ["self"] (i5 C))
  (DS:dX K C "start" "Net.start" fV ["self"] fS fdS) (GS:aH P w K mg base bX 1 fS fdS ["self"] (kR C))
  (DB:Def K mg "move_of_both" As ["one", "other", "move"] fB fdB) (GB:aH P w K mg base bX 5 fB fdB ["one", "other", "move"] (B5 C)) :
  aH P w K mg base (jT P w) 7 f fd ["one", "other"] (nX C CO):=by
 refine F.zC gk (fun vs H Q E h=>?_) (fun cdv A outer s H vs Q E hr h=>?_)
 ·obtain⟨p,q,ms1,ms2,st1,st2,rfl,_⟩:=h
  rfl
 ·obtain⟨p,q,ms1,ms2,st1,st2,rfl,N1,N2,hno,kk⟩:=h
  have hsl:=PySem.sizeLine_eq
  have hr1:bR 1 _:=hr.mono (by decide)
  have hr5:bR 5 _:=hr.mono (by decide)
  have hr2:bR 2 _:=hr.mono (by decide)
  refine⟨_,aj (aN (i:=2) gk.nd rfl (Or.inr rfl) (bW (pv 1) CT.cl DP.mt GP hr1 DP.bd .nil aJ))
   (aj (bB (cu (aF (iq rfl) rfl T2.any qE (aa (bJ (N:=["place", "places"]) (n:=1) (ci:=[2]) rfl (bx (bW (pv 0) CT.cl DP.mt GP hr1 DP.bd .nil aJ))
     (g9.of (so:=ai dn) (N0:=["one", "other", "places", "moves"]) ⟨rfl,by decide +kernel,by decide +kernel,by decide +kernel,rfl,rfl,by decide +kernel,by decide +kernel⟩)
     (fun z=>⟨aA (i:=0) (bV (N:=["place", "places"]) (by decide +kernel)) rfl (Or.inl rfl),bP,cI cV (pv 0) (pv 1) (by with_unfolding_all rfl)⟩)) ag))) (au (hJ ik rfl rfl (nO XO.mx XO.ok hr2 rfl XO.gl XO.bd .nil aJ))) aX)
   (aj (aN (i:=3) gk.nd rfl (Or.inl rfl) (aF (i7 rfl) rfl T.aw cN (aa (ba (jI rfl) rfl T.set uE (aa (aB dJ (bW (pv 0) CT.cl DM.mt GM hr1 DM.bd .nil aJ) (bW (pv 1) CT.cl DM.mt GM hr1 DM.bd .nil aJ)) ag)) ag)))
   (au (aK (p8 M GI hr rfl mgC bI .nil gY (aa (bJ (N:=["move", "one", "other"]) (n:=1) (ci:=[0,1]) rfl (bx (pv 3))
     (g9.of (so:=ai dn) (N0:=["one", "other", "places", "moves"]) ⟨rfl,by decide +kernel,by decide +kernel,by decide +kernel,rfl,rfl,by decide +kernel,by decide +kernel⟩)
     (fun z=>⟨aA (i:=0) (bV (N:=["move", "one", "other"]) (by decide +kernel)) rfl (Or.inl rfl),bP,az GB hr5 rfl DB.mg DB.fn.kp DB.bd .nil aJ (aa (pv 1) (aa (pv 2) (aa (pv 0) ag)))⟩))
     (aa (ba bu rfl T.lst cY (aa (aB uU (bW (pv 0) CT.cl DS.mt GS hr1 DS.bd .nil aJ) (bW (pv 1) CT.cl DS.mt GS hr1 DS.bd .nil aJ)) ag)) ag))))))),?_⟩
  obtain⟨dx1,_,_,_,_,_,_,h1,_⟩:=N1.at'.ob
  obtain⟨dx2,_,_,_,_,_,_,h2,_⟩:=N2.at'.ob
  have so1:=N1.so
  have so2:=N2.so
  have l1:=so1.ml
  have l2:=so2.ml
  have p1:=so1.pl
  have p2:=so2.pl
  have t1:=so1.xb
  have t2:=so2.xb
  refine⟨_,rfl,q,dx2,_,rfl,h2,bY _ _ _ _ sv rO rS qH,q,ms2,st2,rfl,N2,fun H1 aP s1 nP hP=>?_⟩
  refine⟨_,rfl,p,dx1,_,rfl,s1 _ _ h1,bY _ _ _ _ sv rO rS qH,p,ms1,st1,rfl,N1.same s1,fun H2 aQ s2 nQ hQ=>?_⟩
  refine⟨aQ,rfl,⟨_,aI.of hQ⟩,fun z D hD=>br (a:=aQ) (xs:=aq (bL ms1 st1)) (fun i ys H3=>ys=((bL ms1 st1).take i).map (fun x=>V.bl (decide (x∈bL ms2 st2)))∧H3 D=some (.lst ys)∧ao H2 H3) ⟨rfl,ae,af hD⟩ (fun i ys H3 _ p=>aI.of (p.2.2 _ _ hQ)) ?_ ?_⟩
  ·rintro i v ys H3 hi ⟨rfl,hys,sm⟩
   obtain⟨x,hx,rfl⟩:=bQ hi
   refine⟨_,rfl,_,rfl,aP,aq (bL ms2 st2),rfl,.inl (aI.of ((s2.trans sm) _ _ hP)),rfl,bN _,hys,?_,?_,ae,aD sm hD⟩
   ·rw [List.length_map,List.length_take]
    lia
   ·rw [av hx,List.map_append,cW]
    rfl
  rintro ys H3 ⟨rfl,hys,sm⟩
  rw [ah,List.take_length] at hys
  have s3:=s1.trans (s2.trans sm)
  refine⟨D,(bL ms1 st1).map fun x=>decide (x∈bL ms2 st2),rfl,aI.of (by rw [hys,List.map_map];rfl),_,rfl,?_⟩
  by_cases hc:∃ x∈bL ms1 st1,x∈bL ms2 st2
  ·obtain⟨x0,c1,c2⟩:=hc
   have ea:((bL ms1 st1).map fun x=>decide (x∈bL ms2 st2)).any id=true:=by
    rw [List.any_map,List.any_eq_true]
    exact⟨x0,c1,by simpa using c2⟩
   rw [ea]
   refine cG ?_
   refine⟨by simp,fun y hy=>⟨y,rfl,ae,rfl,y,CO,none,rfl,ae,XO.ec,s3.free hy,kk _ fun b o e=>?_⟩⟩
   have e1:=s3 b o e
   have b1:b≠y:=ay e1 hy
   rw [gL b1,ar b1]
   exact e1
  have hap:gK ms1 st1 ms2 st2:=fun x h1 h2=>hc ⟨x,h1,h2⟩
  have hmk:dw (fj ms1 ms2) (aw st1++aw st2)=false:=by
   rcases hno with z | z
   ·exact absurd z hc
   ·exact z
  rw [oN hap]
  refine bS ?_
  refine⟨_,rfl,p,dx1,_,rfl,s3 _ _ h1,bY _ _ _ _ kA kI kK kC,p,ms1,st1,rfl,N1.same s3,fun H4 m1 s4 nm1 hm1=>?_⟩
  have s04:=s3.trans s4
  refine⟨_,rfl,q,dx2,_,rfl,s04 _ _ h2,bY _ _ _ _ kA kI kK kC,q,ms2,st2,rfl,N2.same s04,fun H5 m2 s5 nm2 hm2=>?_⟩
  have s05:=s04.trans s5
  have ln1:(names ms1).length=ms1.length:=by unfold names;rw [List.length_map]
  have ln2:(names ms2).length=ms2.length:=by unfold names;rw [List.length_map]
  refine⟨m1,m2,_,_,rfl,rfl,s5 _ _ hm1,hm2,by rw [ah,ah,aW,aW];lia,fun qc nqc=>?_⟩
  have ec:aq (aw (names ms1))++aq (aw (names ms2))=aq (aw (names ms1)++aw (names ms2)):=by unfold aq;rw [List.map_append]
  rw [ec]
  have s6:ao H5 (upd H5 qc (.lst (aq (aw (names ms1)++aw (names ms2))))):=af nqc
  have hqc:(upd H5 qc (.lst (aq (aw (names ms1)++aw (names ms2))))) qc=some (.lst (aq (aw (names ms1)++aw (names ms2)))):=ae
  generalize upd H5 qc (.lst (aq (aw (names ms1)++aw (names ms2))))=H6 at s6 hqc ⊢
  have lshN:=qw (ms1:=ms1) (ms2:=ms2)
  have ldd:(UfSet.dd (aw (names ms1)++aw (names ms2))).length=(nC ms1 ms2).length:=by unfold nC;rw [aW]
  refine⟨qc,_,rfl,aI.of hqc,by rw [List.length_append,aW,aW];lia,fun ps nps=>⟨ps,_,rfl,ae,by lia,fun qs nqs=>?_⟩⟩
  rw [AY]
  have s7:=(af (o:=jC w ps (UfSet.dd (aw (names ms1)++aw (names ms2)))) nps).trans (af (o:=.lst (aq (aw (UfSet.dd (aw (names ms1)++aw (names ms2)))))) nqs)
  have hqs:(upd (upd H6 ps (jC w ps (UfSet.dd (aw (names ms1)++aw (names ms2))))) qs (.lst (aq (aw (UfSet.dd (aw (names ms1)++aw (names ms2))))))) qs=some (.lst (aq (nC ms1 ms2))):=ae
  generalize upd (upd H6 ps (jC w ps (UfSet.dd (aw (names ms1)++aw (names ms2))))) qs (.lst (aq (aw (UfSet.dd (aw (names ms1)++aw (names ms2))))))=H7 at s7 hqs ⊢
  have s07:=s05.trans (s6.trans s7)
  have N17:=N1.same s07
  have N27:=N2.same s07
  refine⟨_,rfl,qs,rfl,⟨_,aI.of hqs⟩,fun z D2 hD2=>br (a:=qs) (xs:=aq (nC ms1 ms2)) (fun i ys H8=>∃ as:List Addr,ys=as.map V.ref∧H8 D2=some (.lst ys)∧ao H7 H8∧Paired (fun(x:Str) a=>∃ l g,H8 a=some (.tup [.str x,.ref l,.ref g])∧H8 l=some (.lst (aq (mB ms1 ms2 x).2.1))∧H8 g=some (.lst (aq (mB ms1 ms2 x).2.2))∧l≠D2∧g≠D2) ((nC ms1 ms2).take i) as) ⟨[],rfl,ae,af hD2,.nil⟩ (fun i ys H8 _ ⟨_,_,_,s8,_⟩=>aI.of (s8 _ _ hqs)) ?_ ?_⟩
  ·rintro i v ys H8 hi ⟨as,rfl,hys8,s8,pa⟩
   obtain⟨x,hx,rfl⟩:=bQ hi
   have hlen:(as.map V.ref).length<sizeLine:=by
    have:=Paired.length pa
    rw [List.length_take] at this
    rw [List.length_map]
    lia
   refine⟨_,rfl,_,rfl,_,rfl,p,q,ms1,ms2,st1,st2,x,rfl,N17.same s8,N27.same s8,fun H9 t l g s9 ht hl hg nl ng=>?_⟩
   have hys9:=s9 _ _ hys8
   have lD:l≠D2:=fun z=>by rw [z,hys8] at nl;cases nl
   have gD:g≠D2:=fun z=>by rw [z,hys8] at ng;cases ng
   refine⟨hys9,hlen,as++[t],by rw [List.map_append];rfl,ae,aD (s8.trans s9) hD2,?_⟩
   rw [av hx]
   refine Paired.snoc (Paired.il pa fun x a ⟨l,g,e1,e2,e3,n1,n2⟩=>⟨l,g,?_,?_,?_,n1,n2⟩) ⟨l,g,?_,?_,?_,lD,gD⟩
   ·rw [ar (cv (s9 _ _ e1) hys9 (fun z=>nomatch z))]
    exact s9 _ _ e1
   ·rw [ar n1]
    exact s9 _ _ e2
   ·rw [ar n2]
    exact s9 _ _ e3
   ·rw [ar (cv ht hys9 (fun z=>nomatch z))]
    exact ht
   ·rw [ar lD]
    exact hl
   ·rw [ar gD]
    exact hg
  rintro ys H8 ⟨as,rfl,hys8,s8,pa⟩
  rw [ah,List.take_length] at pa
  have pm:∀ {xs:List Str} {as:List Addr},Paired (fun(x:Str) a=>∃ l g,H8 a=some (.tup [.str x,.ref l,.ref g])∧H8 l=some (.lst (aq (mB ms1 ms2 x).2.1))∧H8 g=some (.lst (aq (mB ms1 ms2 x).2.2))∧l≠D2∧g≠D2) xs as→Paired (o9 H8) (xs.map (mB ms1 ms2)) as:=fun h=>by
   induction h with
   | nil=>exact .nil
   | cons h t ih =>
    obtain⟨l,g,e1,e2,e3,_⟩:=h
    exact .cons ⟨l,g,e1,e2,e3⟩ ih
  have pm:=pm pa
  have s08:=s07.trans s8
  refine⟨_,rfl,p,dx1,_,rfl,s08 _ _ h1,bY _ _ _ _ si rp rM rT,p,ms1,st1,rfl,N1.same s08,fun b1 hb1=>?_⟩
  refine⟨_,rfl,q,dx2,_,rfl,s08 _ _ h2,bY _ _ _ _ si rp rM rT,q,ms2,st2,rfl,N2.same s08,fun b2 hb2=>?_⟩
  refine⟨b1,b2,_,_,rfl,rfl,cg.of hb1,cg.of hb2,by rw [ah,ah,aW,aW];lia,fun H9 r s9 hr9=>?_⟩
  have es:aq (aw st1)++aq (aw st2)=aq (aw st1++aw st2):=by unfold aq;rw [List.map_append]
  rw [es] at hr9
  refine⟨r,_,rfl,.inr hr9,fun bl nbl=>?_⟩
  have s10:ao H9 (upd H9 bl (.lst (aq (aw st1++aw st2)))):=af nbl
  have hbl:(upd H9 bl (.lst (aq (aw st1++aw st2)))) bl=some (.lst (aq (aw st1++aw st2))):=ae
  generalize upd H9 bl (.lst (aq (aw st1++aw st2)))=H10 at s10 hbl ⊢
  have s810:=s9.trans s10
  have s010:=s08.trans s810
  intro x dx nx ndx nex
  have sn:ao H10 (upd (upd H10 dx (.own x)) x (.ins C dx [])):=fun b o e=>by
   rw [ar (ay e nx),ar (ay e ndx)]
   exact e
  have mvs:jh K (upd (upd H10 dx (.own x)) x (.ins C dx [])) D2 (fj ms1 ms2):=⟨as,aI.of (sn _ _ (s810 _ _ hys8)),Paired.il pm fun m a h=>h.same (s810.trans sn)⟩
  exact⟨x,dx,D2,bl,fj ms1 ms2,aw st1++aw st2,rfl,ae,mvs,aI.of (sn _ _ hbl),uR so1 so2,hmk,kk.same (s010.trans sn)⟩
end
end Uf
end
section
namespace L2
open PySem PySem.Spec PyProof.Rows UfSrt
section
variable {X:Cx}{pins:List (Addr × Obj)}{σ:St}{H:Hp}{s:Shared}
theorem Inv.t5{h':Heap}{t':Nat}{ch:List Addr}(I:Inv X pins σ H s)(hch:∀ b∈ch,gP X pins H b)(k:∀ b o,b∉ch→s.heap.get? b=some o→h'.get? b=some o):Inv X pins σ H { s with heap:=h',toks:=t' }:=by
 have nch:∀ b v,H b=some v→b∉ch:=fun b v e z=>by rw [(hch b z).1] at e;cases e
 refine I.step (g':=s.gens) (d':=s.drawn) (ch:=ch) (fun b hb=>⟨(hch b hb).2.2.2.1,(hch b hb).2.1,(hch b hb).2.2.2.2.1,(hch b hb).2.2.2.2.2⟩) (fun b o _ _ hc e _=>k b o hc e) (fun b o _ _ hc e _=>⟨o.slots,k b o hc e⟩) (fun _ _ _ _ n=>n)
  (fun b o hc e=>⟨o,k b o hc e⟩) (fun _ _ e=>e) (fun _ _ _ e=>e) (fun b ps e=>⟨#[],by rw [e];simp⟩) (fun m hm=>?_) (fun b v e=>?_) I.bare
 ·obtain⟨o,es,ep,ho,r⟩:=hm
  exact⟨o,es,ep,k _ o (fun z=>(hch _ z).2.1 rfl) ho,r⟩
 ·refine(I.hok b v e).iy (fun c w hc q=>k c w ?_ q) (fun _ q=>q) fun _ _ q=>q
  rcases hc with z | z
  ·rw [z];exact nch b v e
  ·exact nch c _ z
end
def Ef(K:PySem.W.Frag)(l m:Addr):It :=
 ⟨fun i H=>∃ xs ys x y,aI K H l xs∧aI K H m ys∧xs[i]?=some x∧ys[i]?=some y,fun i H x H'=>∃ p v u,x=.ref p∧H p=none∧H'=upd H p (.tup [v,u])∧(∀ xs,aI K H l xs→xs[i]?=some v)∧∀ ys,aI K H m ys→ys[i]?=some u,fun i H=>∃ xs ys,aI K H l xs∧aI K H m ys∧(xs.length≤i∨ys.length≤i)⟩
def ZTn(z TI TO i1 i2 l1 l2:Addr)(i:Nat)(h:Heap):Prop:=IsZip h z TI TO .none∧IsPair h TI (.ref i1) (.ref i2)∧(∃ a b,IsPair h TO a b)∧h.IsListIter i1 l1 i∧h.IsListIter i2 l2 i
theorem yn{P:Program}{w:World}{K:PySem.W.Frag}{elts:List Expr}{x1}{pos:Pos}{z TI TO i1 i2 l m:Addr}(D:ZipApart z TI TO i1 i2 l m) :
  Turn P w K (.Tuple elts x1 pos) (Ef K l m) [z,TI,TO,i1,i2] z (ZTn z TI TO i1 i2 l m) where
 mem:=by simp
 obj:=fun i h st b hb=>by
  obtain⟨hz,hTI,⟨a,b',hTO⟩,⟨o1,e1,c1,d1⟩,⟨o2,e2,c2,d2⟩⟩:=st
  have:b=z∨b=TI∨b=TO∨b=i1∨b=i2:=by simpa using hb
  rcases this with rfl | rfl | rfl | rfl | rfl
  ·exact⟨_,hz,fun v z=>by
    have z':Data.fields _=Data.cell v:=z
    cases z'⟩
  ·exact⟨_,hTI,fun v z=>by
    have z':Data.seq _ _=Data.cell v:=z
    cases z'⟩
  ·exact⟨_,hTO,fun v z=>by
    have z':Data.seq _ _=Data.cell v:=z
    cases z'⟩
  ·exact⟨o1,e1,fun v z=>by rw [d1] at z;cases z⟩
  ·exact⟨o2,e2,fun v z=>by rw [d2] at z;cases z⟩
 keep:=fun i h h' st k=>by
  obtain⟨hz,hTI,⟨a,b',hTO⟩,h1,h2⟩:=st
  exact⟨k z (by simp) _ hz,k TI (by simp) _ hTI,⟨a,b',k TO (by simp) _ hTO⟩,h1.at fun o q=>k i1 (by simp) o q,h2.at fun o q=>k i2 (by simp) o q⟩
 item:=by
  intro X hP hw hK hc i pins s σ H E I hf st hg
  subst hP hw hK
  obtain⟨xs,ys,x,y,hq,hq2,hx,hy⟩:=hg
  obtain⟨its,rv,p,hz0⟩:=I.list hq
  obtain⟨its2,rv2,p2,hz2⟩:=I.list hq2
  obtain⟨u,hu,ru⟩:=rv.get hx
  obtain⟨v,hv,rv'⟩:=rv2.get hy
  obtain⟨hz,hTI,⟨a,b,hTO⟩,h1,h2⟩:=st
  have lt:∀ {c o},s.heap.get? c=some o→c≠s.heap.objs.size:=fun e=>Nat.ne_of_lt (Heap.lt_size e)
  have lz:=lt hz
  have lTI:=lt hTI
  have lTO:=lt hTO
  have l1:i1≠s.heap.objs.size:=by obtain⟨_,e,_⟩:=h1;exact lt e
  have l2:i2≠s.heap.objs.size:=by obtain⟨_,e,_⟩:=h2;exact lt e
  refine wpAny_pyNext_zip_item D hz hTI hTO h1 h2 p.isList p2.isList (x:=u) (y:=v) (by simpa using hu) (by simpa using hv) fun hh a1 a2 a3 a4 a5 a6 hk=>?_
  refine⟨.ref s.heap.objs.size,rfl,wpAny_letOwnedTupleGo_zip a1 fun hn hz' hs'=>?_⟩
  have kk:∀ b o,b∉[z,TO,i1,i2]→s.heap.get? b=some o→hn.get? b=some o:=fun b o hb q=>by
   have n1:b≠z:=fun e=>hb (by simp [e])
   have n2:b≠TO:=fun e=>hb (by simp [e])
   have n3:b≠i1:=fun e=>hb (by simp [e])
   have n4:b≠i2:=fun e=>hb (by simp [e])
   exact(hs'.2 b n1).trans (hk b o n1 n2 n3 n4 q)
  have hT2:hn.get? s.heap.objs.size=some { cls:=.type "tuple",data:=.seq #[u,v] }:=(hs'.2 _ (Ne.symm lz)).trans a5
  have hnn:=I.hok.fresh (Nat.le_refl s.heap.objs.size)
  refine⟨.ref s.heap.objs.size,upd H s.heap.objs.size (.tup [x,y]),I.oC (t':=s.toks) (ch:=[z,TO,i1,i2]) (fun b hb=>hf b (by
   have:b=z∨b=TO∨b=i1∨b=i2:=by simpa using hb
   rcases this with rfl | rfl | rfl | rfl <;> simp)) kk (Nat.le_refl _) ⟨by show 2≤sizeLine;rw [sizeLine_eq];decide,[u,v],.cons ru (.cons rv' .nil),_,hT2,rfl,_,rfl⟩,rfl,
   ⟨_,x,y,rfl,hnn,rfl,fun zs hy'=>by rw [I.jg hy' hq];exact hx,fun zs hy'=>by rw [I.jg hy' hq2];exact hy⟩,
   ⟨hz',hs'.extBut _ _ D.TIz (hk _ _ D.TIz D.TITO D.TIi1 D.TIi2 hTI),⟨_,_,hs'.extBut _ _ D.TOz a2⟩,a3.extBut hs'.extBut D.i1z,a4.extBut hs'.extBut D.i2z⟩,fun b hb=>?_⟩
  have nb:b≠s.heap.objs.size:=by
   have:b=z∨b=TI∨b=TO∨b=i1∨b=i2:=by simpa using hb
   rcases this with rfl | rfl | rfl | rfl | rfl <;> assumption
  rw [ar nb]
  exact(hf b hb).1
 done:=by
  intro X hP hw hK hc i pins s σ H E I hf st hg
  subst hP hw hK
  obtain⟨xs,ys,hq,hq2,hx⟩:=hg
  obtain⟨its,rv,p,hz0⟩:=I.list hq
  obtain⟨its2,rv2,p2,hz2⟩:=I.list hq2
  obtain⟨hz,hTI,⟨a,b,hTO⟩,h1,h2⟩:=st
  have e1:=rv.length
  have e2:=rv2.length
  refine wpAny_pyNext_zip_end (I.ok.hd hc) D hz hTI hTO h1 h2 p.isList p2.isList (by
   rcases hx with hx | hx
   ·exact .inl (by simp;lia)
   ·exact .inr (by simp;lia)) fun h' hk=>⟨rfl,?_⟩
  have hm:∀ b∈[z,TO,i1,i2],gP X pins H b:=fun b hb=>hf b (by
   have:b=z∨b=TO∨b=i1∨b=i2:=by simpa using hb
   rcases this with rfl | rfl | rfl | rfl <;> simp)
  exact I.t5 (t':=s.toks) hm fun b o hb e=>hk b o (fun e=>hb (by simp [e])) (fun e=>hb (by simp [e])) (fun e=>hb (by simp [e])) (fun e=>hb (by simp [e])) e
 self:=fun _ _ _ _ _ st h=>wpAny_pyIter_zip st.1 h
section
variable {X:Cx}{elts:List Expr}{x1:Nat}{tpos:Pos}
def EG(K:PySem.W.Frag)(ta:TA):TI:=fun σ H R=>ta σ H fun vs H1=>∃ l m,vs=[.ref l,.ref m]∧(∃ xs,aI K H1 l xs)∧(∃ ys,aI K H1 m ys)∧R (Ef K l m) H1
theorem xZ{a b:Expr}{ta:TA}{p pos:Pos}(hg:Gl X "zip")(hm:X.mg "zip"=none)(ha:PA X [a,b] ta)(hs:starEach [a,b] X.env=[(false,eval a X.env),(false,eval b X.env)]:=by rfl)(hs2:starEach [b] X.env=[(false,eval b X.env)]:=by rfl) :
  PI X (.Tuple elts x1 tpos) (.Call (.Name "zip" p) [a,b] [] pos) (EG X.K ta):=by
 intro pins s σ H R I h
 refine Call_ (eE I hg hm boot_zip (PyProof.Rows.callWith_type1 (cc (ha pos pins s σ H _ I h) fun us s1 ⟨vs,H1,I1,r1,q1⟩=>?_) (by rw [hs,hs2]) (by rw [hs2];rfl)))
 obtain⟨l,m,e,⟨xs,hq⟩,⟨ys,hq2⟩,q⟩:=q1
 subst e
 cases r1 with
 | cons r rr =>
  cases rr with
  | cons r' rr =>
   cases rr
   cases r
   cases r'
   obtain⟨its,rv,pl,hz⟩:=I1.list hq
   obtain⟨its2,rv2,pl2,hz2⟩:=I1.list hq2
   have ll:l<s1.heap.objs.size:=let ⟨_,y,_⟩:=pl.isList;Heap.lt_size y
   have lm:m<s1.heap.objs.size:=let ⟨_,y,_⟩:=pl2.isList;Heap.lt_size y
   refine call_zip_2 pl.isList pl2.isList fun h' a1 a2 a3 a4 a5 a6 hk=>?_
   refine wpAny_pyIter_zip a1 ?_
   have I2:Inv X pins σ H1 { s1 with heap:=h' }:=I1.kept (t':=s1.toks) hk
   refine⟨_,_,_,_,H1,rfl,I2,yn (zipApart_new ll lm),⟨a1,a2,⟨_,_,a3⟩,a4,a5⟩,fun b hb=>?_,q⟩
   have hb2:s1.heap.objs.size≤b:=by
    have:b=s1.heap.objs.size+4∨b=s1.heap.objs.size+2∨b=s1.heap.objs.size+3∨b=s1.heap.objs.size∨b=s1.heap.objs.size+1:=by simpa using hb
    rcases this with rfl | rfl | rfl | rfl | rfl <;> first | exact Nat.le_refl _ | exact Nat.le_add_right _ _
   exact I1.tD hb2 (I1.hok.fresh hb2)
end
theorem uL{K:PySem.W.Frag}{a c:Addr}{xs ys:List V}{g:TG}{tb:TS}{D:Ends}{σ:St}{H:Hp}(hlen:xs.length≤ys.length)(Pv:Nat→St→Hp→Prop)(h0:Pv 0 σ H)(hl:∀ i σ H,i≤xs.length→Pv i σ H→aI K H a xs∧aI K H c ys)
  (hs:∀ i x y p σ H,xs[i]?=some x→ys[i]?=some y→Pv i σ H→H p=none→g (.ref p) σ (upd H p (.tup [x,y])) fun σ2 H2=>tb { D with nx:=Pv (i+1),ct:=Pv (i+1),bk:=D.nx } σ2 H2) (hd:∀ σ H,Pv xs.length σ H→D.nx σ H) :
  ∃ W:Nat→Nat→St→Hp→Prop,(∃ m,W 0 m σ H)∧∀ i m σ H,W i m σ H →
   ((Ef K a c).stop i H∧D.nx σ H)∨((Ef K a c).go i H∧∃ N:St→Hp→Prop,(∀ σ' H',N σ' H'→∃ m',m'<m∧W (i+1) m' σ' H')∧∀ x H',(Ef K a c).yld i H x H'→g x σ H' fun σ2 H2=>tb { D with nx:=N,ct:=N,bk:=D.nx } σ2 H2):=by
 refine⟨fun i m σ H=>m=xs.length-i∧i≤xs.length∧Pv i σ H,⟨xs.length,by simp,Nat.zero_le _,h0⟩,?_⟩
 rintro i m σ H ⟨rfl,hi,p⟩
 obtain⟨q,q'⟩:=hl i σ H hi p
 by_cases hlt:i<xs.length
 ·refine .inr ⟨⟨xs,ys,xs[i],ys[i]'(by lia),q,q',by simp [hlt],List.getElem?_eq_getElem _⟩,Pv (i+1),fun σ' H' p'=>⟨xs.length-(i+1),by lia,rfl,hlt,p'⟩,fun x H' y=>?_⟩
  obtain⟨pp,v,u,rfl,hn,rfl,hv,hu⟩:=y
  exact hs i v u pp σ _ (hv xs q) (hu ys q') p hn
 ·have e:i=xs.length:=by lia
  subst e
  exact .inl ⟨⟨xs,ys,q,q',.inl (Nat.le_refl _)⟩,hd σ H p⟩
theorem mD(l:Addr)(items:Array Value)(n:Nat)(dd:Option Addr)(sl:Array (Option Value))(x:Value)(e:Value→Bool)(i j:Nat)(t:Tok)(hij:i≤j)(hj:j<items.size)(hsmall:(j:Int)<2 ^ 63-1)
  (hit:e items[j]=true) (hno:∀ m (hm:m<items.size),i≤m→m<j→e items[m]=false) :
  Meets (Builtin.«list.index» ⟨[.ref l,x,.int i t],[]⟩)
   (fun A R s=>s.heap.get? l=some { cls:=.type "list",dict:=dd,data:=.seq items n,slots:=sl }∧(∀ y,y∈items→SeqAt.EqAt A.in1 s y x (e y))∧R (.ok (.ret (.int j s.toks))) { s with toks:=s.toks+1 }):=by
 intro prog w A R s h
 obtain⟨hp,g,d,tk,os⟩:=s;obtain⟨hl,he,h⟩:=h
 wp_walk using AutoSeq1.wpAny_loadPart' hl
 have a1:((fun i:Int=>if i<0 then max 0 (i+(items.size:Int)) else i) ((some (i:Int)).getD 0))=((i:Nat):Int):=by simp;lia
 have a2:((fun i:Int=>if i<0 then max 0 (i+(items.size:Int)) else i) ((none:Option Int).getD (2 ^ 63-1)))=2 ^ 63-1:=by simp
 rw [a1,a2]
 exact⟨plainId_quiet MeetsSeq.plain_index_loop _,codeAny_builtin MeetsSeq.entry_index_loop (by
  rw [Around.under_plainId MeetsSeq.plain_index_loop _]
  exact SeqAt.index_loopAt l items n dd sl x e (2 ^ 63-1) j hj hsmall hit _ i rfl hij hno prog w A R _ ⟨hl,he,h⟩)⟩
section
variable {X:Cx}
def zS:V→List V→Hp→VK→Prop:=fun x vs H Q=>∃ l xs y z,∃ i j:Nat,x=.ref l∧vs=[y,.int (i:Int)]∧H l=some (.lst xs)∧dy y=true∧xs.all dy=true∧i≤j∧xs[j]?=some z∧kO z y=true∧(∀ m w,i≤m→m<j→xs[m]?=some w→kO w y=false)∧Q (.int (j:Nat)) H
theorem wq:CL X "list.index" zS:=by
 intro pins s σ H x vs v us Q I rx rv h
 obtain⟨l,xs,y,zz,i,j,rfl,rfl,hH,fy,fs,hij,hj,hit,hno,q⟩:=h
 cases rx
 obtain⟨u,u2,rfl,ru,ru2⟩:∃ u u2,us=[u,u2]∧RelV y u∧RelV (.int (i:Int)) u2:=by
  cases rv with
  | cons r rr =>
   cases rr with
   | cons r' rr =>
    cases rr
    exact⟨_,_,rfl,r,r'⟩
 obtain⟨t,rfl⟩:=ru2
 obtain⟨z,its,n,r,hl,e⟩:=I.pd hH
 have hsl:=PySem.sizeLine_eq
 have jl:=(List.getElem?_eq_some_iff.mp hj).1
 have ji:j<its.length:=by lia
 have at':∀ m (hm:m<its.length),∃ w,xs[m]?=some w∧kP y its[m]=kO w y:=fun m hm=>by
  obtain⟨w,h1,h2⟩:=d5 r (List.getElem?_eq_getElem hm)
  exact⟨w,h1,mQ h2 (p5 fs h1)⟩
 refine call_meets F.slot_list_index ⟨_,e,rfl⟩ F.entry_list_index (F.args_list_index_3 _ _ _) (mD l its.toArray n none _ u (kP y) i j t hij (by rw [List.size_toArray];exact ji) (by lia) ?_ ?_) ⟨e,fun w hw=>eh ru fy r fs w (by simpa using hw),?_⟩
 ·obtain⟨w,h1,h2⟩:=at' j ji
  rw [hj] at h1
  cases h1
  show kP y its[j]=true
  rw [h2]
  exact hit
 ·intro m hm him hmj
  have hm:m<its.length:=by simpa using hm
  obtain⟨w,h1,h2⟩:=at' m hm
  show kP y its[m]=false
  rw [h2]
  exact hno m w him hmj h1
 ·exact⟨.int _,H,I.tok _,⟨_,rfl⟩,q⟩
end
end L2
end
section
namespace L2
open PySem PySem.Spec PyProof.Rows UfSrt
section
variable {X:Cx}
end
end L2
end
section
namespace L2
open PySem PySem.Spec PyProof.Rows UfSrt
theorem aH.or{P:Program}{w:World}{K:PySem.W.Frag}{mg:Str→Option Value}{base:Heap}{CX:rD}{k:Nat}{f:Addr}{fd:FuncData}{ps:List Str}{sp sp':Sp}(F:aH P w K mg base CX k f fd ps sp)(G:aH P w K mg base CX k f fd ps sp') :
  aH P w K mg base CX k f fd ps (fun vs H Q E=>sp vs H Q E∨sp' vs H Q E) :=
 ⟨fun vs H Q E h=>h.elim (F.len vs H Q E) (G.len vs H Q E),fun A outer s H args us vs Q E hr he hb hv hs=>hs.elim (F.run A outer s H args us vs Q E hr he hb hv) (G.run A outer s H args us vs Q E hr he hb hv)⟩
section
variable {X:Cx}
theorem nW:∀ {xs:List Str} {us:List Value},Vals (aq xs) us→∀ (j:Nat) x,xs[j]?=some x→∃ u,us[j]?=some u∧RelV (.str x) u:=fun {xs us} r j x e=>r.get (by unfold aq;rw [List.getElem?_map,e];rfl)
def DZ(X:Cx):R2:=fun x y H Q=>∃ p q xs ys,x=.ref p∧y=.ref q∧X.A.units+1<cLine∧aI X.K H p (aq xs)∧aI X.K H q (aq ys)∧Q (.bl (!decide (xs=ys))) H
theorem Fh(a b:Str):kO (.str a) (.str b)=decide (a=b):=by
 show(a==b)=_
 rw [Bool.eq_iff_iff,beq_iff_eq,decide_eq_true_eq]
theorem yf:gZ X (compareOp .NotEq) (DZ X):=by
 intro pins s σ H x y v u Q I rx ry h
 obtain⟨p,q,xs,ys,rfl,rfl,hu,hp,hq,k⟩:=h
 cases rx
 cases ry
 obtain⟨its,r1,p1,_⟩:=I.list hp
 obtain⟨its2,r2,p2,_⟩:=I.list hq
 have l1:=r1.length
 have l2:=r2.length
 unfold aq at l1 l2
 rw [List.length_map] at l1 l2
 by_cases hl:xs.length=ys.length
 ·refine SeqAt.RcNeAt.lists (e:=fun j=>decide (xs[j]?=ys[j]?)) p1.isList p2.isList (by simp;lia) (by lia) (fun j h1 h2=>?_) X.prog X.w X.xe _ ⟨.bl (!decide (xs=ys)),H,I,?_,k⟩
  ·have h1':j<its.length:=by simpa using h1
   have h2':j<its2.length:=by simpa using h2
   have g1:xs[j]?=some xs[j]:=List.getElem?_eq_getElem (by lia)
   have g2:ys[j]?=some ys[j]:=List.getElem?_eq_getElem (by lia)
   obtain⟨w,e1,e2⟩:=nW r1 j _ g1
   obtain⟨w',e3,e4⟩:=nW r2 j _ g2
   rw [List.getElem?_eq_getElem h1'] at e1
   rw [List.getElem?_eq_getElem h2'] at e3
   cases e1
   cases e3
   have:=lY (A:=X.A.in1) (s:=s) e2 e4 rfl rfl
   rw [Fh] at this
   have e5:decide (xs[j]?=ys[j]?)=decide (xs[j]=ys[j]):=by
    rw [g1,g2]
    exact decide_eq_decide.mpr ⟨fun z=>Option.some.inj z,fun z=>by rw [z]⟩
   rw [e5]
   exact this
  ·show Value.bool _=Value.bool _
   congr 2
   rw [Bool.eq_iff_iff,List.all_eq_true,decide_eq_true_eq]
   constructor
   ·intro h
    refine List.ext_getElem? fun j=>?_
    by_cases hj:j<its.length
    ·exact of_decide_eq_true (h j (List.mem_range.mpr (by simpa using hj)))
    ·rw [List.getElem?_eq_none (by lia),List.getElem?_eq_none (by lia)]
   ·rintro rfl j _
    exact decide_eq_true rfl
 ·refine SeqAt.RcNeAt.lists_lengths p1.isList p2.isList (by simp;lia) (by lia) X.prog X.w X.xe _ ⟨.bl (!decide (xs=ys)),H,I,?_,k⟩
  rw [decide_eq_false fun z=>hl (by rw [z])]
  rfl
def Ea(X:Cx):R2:=fun x y H Q=>∃ p q ts,x=.ref p∧y=.ref q∧X.A.units<cLine∧cg X.K H p ts∧cg X.K H q ts∧ts.all dy=true∧Q (.bl true) H
theorem qg:gZ X (compareOp .Eq) (Ea X):=by
 intro pins s σ H x y v u Q I rx ry h
 obtain⟨p,q,ts,rfl,rfl,hu,hp,hq,f,k⟩:=h
 cases rx
 cases ry
 obtain⟨its,r1,p1,_⟩:=I.tuple hp
 obtain⟨its2,r2,p2,_⟩:=I.tuple hq
 have l1:=r1.length
 have l2:=r2.length
 refine SeqAt.RcAt.tuples (e:=fun _=>true) p1 p2 hu (fun j h1 h2=>?_) X.prog X.w X.xe _ ⟨.bl true,H,I,?_,k⟩
 ·have h1':j<its.length:=by simpa using h1
  have h2':j<its2.length:=by simpa using h2
  obtain⟨w,e1,e2⟩:=d5 r1 (List.getElem?_eq_getElem h1')
  obtain⟨w',e3,e4⟩:=d5 r2 (List.getElem?_eq_getElem h2')
  rw [e1] at e3
  cases e3
  have fw:=p5 f e1
  have:=lY (A:=X.A.in1) (s:=s) e2 e4 fw fw
  rwa [mJ fw] at this
 ·show Value.bool _=Value.bool true
  rw [List.size_toArray,List.size_toArray,← l1,← l2]
  simp
def EY(K:PySem.W.Frag)(H:Hp)(x y:V):Prop:=∃ l l' ts,x=.ref l∧y=.ref l'∧aI K H l (aq ts)∧aI K H l' (aq ts)
def Ca(X:Cx):R2:=fun x y H Q=>∃ p q xs ys,x=.ref p∧y=.ref q∧X.A.units+2<cLine∧aI X.K H p xs∧aI X.K H q ys∧Paired (EY X.K H) xs ys∧Q (.bl false) H
theorem BF:gZ X (compareOp .NotEq) (Ca X):=by
 intro pins s σ H x y v u Q I rx ry h
 obtain⟨p,q,xs,ys,rfl,rfl,hu,hp,hq,hal,k⟩:=h
 cases rx
 cases ry
 obtain⟨its,r1,p1,_⟩:=I.list hp
 obtain⟨its2,r2,p2,_⟩:=I.list hq
 have l1:=r1.length
 have l2:=r2.length
 have l3:=Paired.length hal
 refine SeqAt.RcNeAt.lists (e:=fun _=>true) p1.isList p2.isList (by simp;lia) (by lia) (fun j h1 h2=>?_) X.prog X.w X.xe _ ⟨.bl false,H,I,?_,k⟩
 ·have h1':j<its.length:=by simpa using h1
  have h2':j<its2.length:=by simpa using h2
  obtain⟨w,e1,e2⟩:=d5 r1 (List.getElem?_eq_getElem h1')
  obtain⟨w',e3,e4⟩:=d5 r2 (List.getElem?_eq_getElem h2')
  obtain⟨a,e5,e6⟩:=fm hal e3
  rw [e1] at e5
  cases e5
  obtain⟨l,l',ts,rfl,rfl,g1,g2⟩:=e6
  rw [show its.toArray[j]=Value.ref l from e2,show its2.toArray[j]=Value.ref l' from e4]
  exact yU (A:=X.A.in1) I g1 g2 (by show X.A.units+1+1<cLine;lia)
 ·show Value.bool _=Value.bool false
  simp
end
end L2
end
section
namespace Uf
open PySem L2 UfSrt UfFin
abbrev fQ:Stmt:=top 32
theorem iI(ms:List Mv)(r:List Str)(x:Str):bf ms (r++[x])=bf ms r++(if x∈names ms then [x] else []):=by
 unfold bf
 rw [List.filter_append]
 by_cases h:x∈names ms <;> simp [h]
theorem jx(ms:List Mv)(r t:List Str):bf ms (r++t)=bf ms r++bf ms t:=List.filter_append ..
theorem qU{ms:List Mv}{r:List Str}(h:∀ x∈r,x∈names ms):bf ms r=r:=List.filter_eq_self.mpr fun x hx=>decide_eq_true (h x hx)
theorem wk{ms:List Mv}{r:List Str}(h:∀ x∈r,x∉names ms):bf ms r=[]:=List.filter_eq_nil_iff.mpr fun x hx z=>h x hx (of_decide_eq_true z)
structure nF(ms1 ms2:List Mv)(r1 r2:List Str)(i n:Nat)(row:List Str):Prop where
 h1:bf ms1 row=r1.take i
 h2:bf ms2 row=r2.take n
 rest:bf ms2 (r1.drop i)=bf ms1 (r2.drop n)
 len:row.length≤i+n
 le:n≤r2.length
 own:∀ x∈row,x∈names ms1∨x∈names ms2
theorem CZ{ms1 ms2:List Mv}{r1 r2:List Str}(h:bf ms2 r1=bf ms1 r2):nF ms1 ms2 r1 r2 0 0 []:=⟨rfl,rfl,h,Nat.le_refl _,Nat.zero_le _,fun x hx=>nomatch hx⟩
theorem nF.Ex{ms1 ms2:List Mv}{r1 r2 row:List Str}{i n:Nat}{x:Str}(h:nF ms1 ms2 r1 r2 i n row)(a1:∀ x∈r1,x∈names ms1)(hx:r1[i]?=some x)(hn:x∉names ms2):nF ms1 ms2 r1 r2 (i+1) n (row++[x]):=by
 have hx1:=a1 x (List.mem_of_getElem? hx)
 have hd:r1.drop i=x::r1.drop (i+1):=by
  have hi:=(List.getElem?_eq_some_iff.mp hx)
  obtain⟨hi,e⟩:=hi
  rw [List.drop_eq_getElem_cons hi,e]
 refine⟨?_,?_,?_,?_,h.le,fun y hy=>?_⟩
 ·rw [iI,if_pos hx1,h.h1,av hx]
 ·rw [iI,if_neg hn,List.append_nil,h.h2]
 ·rw [← h.rest,hd]
  unfold bf
  rw [List.filter_cons,if_neg (by simpa using hn)]
 ·have:=h.len
  rw [List.length_append,List.length_singleton]
  lia
 ·rcases List.mem_append.mp hy with z | z
  ·exact h.own y z
  ·have:y=x:=by simpa using z
   subst this
   exact .inl hx1
theorem nF.both{ms1 ms2:List Mv}{r1 r2 row:List Str}{i n:Nat}{x:Str}(h:nF ms1 ms2 r1 r2 i n row)(a1:∀ x∈r1,x∈names ms1)(a2:∀ x∈r2,x∈names ms2)(hx:r1[i]?=some x)(hn:x∈names ms2) :
  ∃ j,n≤j∧r2[j]?=some x∧(∀ m y,n≤m→m<j→r2[m]?=some y→y≠x)∧nF ms1 ms2 r1 r2 (i+1) (j+1) (row++(r2.drop n).take (j-n)++[x]):=by
 have hx1:=a1 x (List.mem_of_getElem? hx)
 have hd:r1.drop i=x::r1.drop (i+1):=by
  obtain⟨hi,e⟩:=List.getElem?_eq_some_iff.mp hx
  rw [List.drop_eq_getElem_cons hi,e]
 have hr:=h.rest
 rw [hd] at hr
 have e1:bf ms2 (x::r1.drop (i+1))=x::bf ms2 (r1.drop (i+1)):=by
  unfold bf
  rw [List.filter_cons,if_pos (by simpa using hn)]
 rw [e1] at hr
 obtain⟨A,B,eAB,hA,_,hB⟩:=List.filter_eq_cons_iff.mp hr.symm
 have hA:∀ y∈A,y∉names ms1:=fun y hy z=>hA y hy (decide_eq_true z)
 have hle:=h.le
 have lAB:r2.length-n=A.length+(B.length+1):=by
  have:=congrArg List.length eAB
  rw [List.length_drop,List.length_append,List.length_cons] at this
  exact this
 have get:∀ m,r2[n+m]?=(A++x::B)[m]?:=fun m=>by rw [← eAB,List.getElem?_drop]
 have ej:n+A.length-n=A.length:=by lia
 have etk:(r2.drop n).take (n+A.length-n)=A:=by rw [ej,eAB,List.take_left' rfl]
 have hj:r2[n+A.length]?=some x:=by
  rw [get,List.getElem?_append_right (Nat.le_refl _),Nat.sub_self]
  rfl
 have e2:r2.drop (n+A.length+1)=B:=by
  have:r2.drop (n+A.length+1)=(r2.drop n).drop (A.length+1):=by rw [List.drop_drop];congr 1
  rw [this,eAB,show A++x::B=(A++[x])++B by simp,List.drop_left' (by simp)]
 have etake:r2.take (n+A.length+1)=r2.take n++(A++[x]):=by
  have:r2.take (n+(A.length+1))=r2.take n++(r2.drop n).take (A.length+1):=List.take_add
  rw [show n+A.length+1=n+(A.length+1) by lia,this,eAB,show A++x::B=(A++[x])++B by simp,List.take_left' (by simp)]
 refine⟨n+A.length,Nat.le_add_right _ _,hj,fun m y h1 h2 hy z=>?_,?_⟩
 ·obtain⟨d,rfl⟩:∃ d,m=n+d:=⟨m-n,by lia⟩
  rw [get,List.getElem?_append_left (by lia)] at hy
  subst z
  exact hA y (List.mem_of_getElem? hy) hx1
 ·rw [etk]
  refine⟨?_,?_,?_,?_,?_,fun y hy=>?_⟩
  ·rw [iI,if_pos hx1,jx,wk hA,List.append_nil,h.h1,av hx]
  ·rw [iI,if_pos hn,jx,h.h2,qU (ms:=ms2) fun y hy=>a2 y (List.mem_of_mem_drop (by rw [eAB];exact List.mem_append_left _ hy)),etake,List.append_assoc]
  ·rw [e2]
   exact hB.symm
  ·have:=h.len
   rw [List.length_append,List.length_append,List.length_singleton]
   lia
  ·lia
  ·rcases List.mem_append.mp hy with z | z
   ·rcases List.mem_append.mp z with z | z
    ·exact h.own y z
    ·exact .inr (a2 y (List.mem_of_mem_drop (by rw [eAB];exact List.mem_append_left _ z)))
   ·have:y=x:=by simpa using z
    subst this
    exact .inl hx1
theorem nF.done{ms1 ms2:List Mv}{r1 r2 row:List Str}{n:Nat}(h:nF ms1 ms2 r1 r2 r1.length n row)(a2:∀ x∈r2,x∈names ms2) :
  bf ms1 (row++r2.drop n)=r1∧bf ms2 (row++r2.drop n)=r2∧(row++r2.drop n).length≤r1.length+r2.length∧∀ x∈row++r2.drop n,x∈names ms1∨x∈names ms2:=by
 have hr:=h.rest
 rw [List.drop_length] at hr
 have hle:=h.le
 have hl:=h.len
 refine⟨?_,?_,?_,fun y hy=>?_⟩
 ·rw [jx,← hr,h.h1,List.take_length]
  simp [bf]
 ·rw [jx,h.h2,qU (fun y hy=>a2 y (List.mem_of_mem_drop hy)),List.take_append_drop]
 ·rw [List.length_append,List.length_drop]
  lia
 ·rcases List.mem_append.mp hy with z | z
  ·exact h.own y z
  ·exact .inr (a2 y (List.mem_of_mem_drop z))
theorem iE{ms:List Mv}{st:List Str}(so:Sound ms st){r:List Str}(h:(bc ms (aw st) r).2="may"):∀ x∈r,x∈names ms:=fun x hx=>by
 obtain⟨i,hi⟩:=List.mem_iff_getElem?.mp hx
 have e:=u5 h (i+1)
 rw [av hi,gF] at e
 have e0:=u5 h i
 by_cases hw:cX ms (cy (bc ms (aw st) (r.take i)).1) x="may"
 ·by_cases hn:x∈names ms
  ·exact hn
  ·rw [jn hn] at hw
   exact absurd hw wD
 ·rw [kZ e0 hw] at e
  exact absurd e hw
end Uf
end
section
namespace Uf
open PySem L2 UfSrt UfFin
theorem An(xs:List V)(n j:Nat)(h1:n≤j)(h2:j≤xs.length):eD xs (some (n:Int)) (some (j:Int))=(xs.drop n).take (j-n):=by
 unfold eD
 have e1:HT.je xs.length 0 (some (n:Int))=min n xs.length:=HT.gU _ _ n
 have e2:HT.je xs.length xs.length (some (j:Int))=min j xs.length:=HT.gU _ _ j
 rw [e1,e2,Nat.min_eq_left h2,Nat.min_eq_left (Nat.le_trans h1 h2)]
theorem qJ(r:List Str)(n j:Nat)(h1:n≤j)(h2:j≤r.length):eD (aq r) (some (n:Int)) (some (j:Int))=aq ((r.drop n).take (j-n)):=by
 rw [An _ _ _ h1 (by rw [ah];exact h2)]
 unfold aq
 rw [List.map_take,List.map_drop]
theorem nY(r:List Str)(n:Nat):eD (aq r) (some (n:Int)) none=aq (r.drop n):=by
 rw [hX]
 unfold aq
 rw [List.map_drop]
theorem jH(a b:List Str):aq a++aq b=aq (a++b):=(List.map_append ..).symm
structure AR(H:Hp)(E:XK)(CN CH CF:Addr)(ms:List Mv)(st r:List Str):Prop where
 no:(bc ms (aw st) r).2="no"→eJ H E CN (((bc ms (aw st) r).1.length-1:Nat):Int)
 held:(bc ms (aw st) r).2="held"→eJ H E CH (((bc ms (aw st) r).1.length-1:Nat):Int)
 full:(bc ms (aw st) r).2="full"→eJ H E CF (((bc ms (aw st) r).1.length-1:Nat):Int)
structure tH(ms1 ms2:List Mv)(r1 r2 row:List Str):Prop where
 h1:bf ms1 row=r1
 h2:bf ms2 row=r2
 len:row.length≤r1.length+r2.length
 own:∀ x∈row,x∈names ms1∨x∈names ms2
section
variable {P:Program}{w:World}{K:PySem.W.Frag}{mg:Str→Option Value}{base:Heap}
inductive A8(H:Hp)(Q:VK)(E:XK)(CO CN CH CF:Addr)(ms1 ms2:List Mv)(st1 st2 r1 r2:List Str):Prop
 | com (x:Str) (h1:x∈bL ms1 st1) (h2:x∈bL ms2 st2) (hf:j7 H E CO)
 | apart (ha:gK ms1 st1 ms2 st2) (hm:dw (fj ms1 ms2) (aw st1++aw st2)=true) (s1:AR H E CN CH CF ms1 st1 r1) (s2:(bc ms1 (aw st1) r1).2="may"→AR H E CN CH CF ms2 st2 r2)
   (kn:(bc ms1 (aw st1) r1).2="may"→(bc ms2 (aw st2) r2).2="may"→bf ms2 r1≠bf ms1 r2→∀ H',ao H H'→Q .non H')
   (ky:(bc ms1 (aw st1) r1).2="may"→(bc ms2 (aw st2) r2).2="may"→bf ms2 r1=bf ms1 r2→∀ H' q row,ao H H'→H q=none→H' q=some (.lst (aq row))→tH ms1 ms2 r1 r2 row→Q (.ref q) H')
def rY(C CO CN CH CF:Addr):Sp:=fun vs H Q E=>∃ (p q a b:Addr) (ms1 ms2:List Mv) (st1 st2 r1 r2:List Str),vs=[.ref p,.ref q,.ref a,.ref b]∧cj C H p ms1 st1∧cj C H q ms2 st2∧H a=some (.lst (aq r1))∧H b=some (.lst (aq r2))∧r1.length≤60∧r2.length≤60∧A8 H Q E CO CN CH CF ms1 ms2 st1 st2 r1 r2
theorem gx:aU ["one", "other", "first", "second", "row", "at", "move", "common"] ["one", "other", "first", "second"] (ai fQ):=⟨rfl,rfl,rfl,by decide +kernel,rfl,by decide +kernel,by decide +kernel⟩
inductive Fc(H:Hp)(p q a b rr:Addr)(ms1 ms2:List Mv)(r1 r2:List Str)(i:Nat)(σ:St)(H2:Hp):Prop
 | mk (n:Nat) (row:List Str) (v6 v7:Option V) (q0:σ=[some (.ref p),some (.ref q),some (.ref a),some (.ref b),some (.ref rr),some (.int (n:Int)),v6,v7]) (q1:ao H H2) (q2:H2 rr=some (.lst (aq row))) (q3:nF ms1 ms2 r1 r2 i n row)
theorem Fc.same{H:Hp}{p q a b rr:Addr}{ms1 ms2:List Mv}{r1 r2:List Str}{i:Nat}{σ:St}{H2:Hp}(h:Fc H p q a b rr ms1 ms2 r1 r2 i σ H2):ao H H2:=by
 cases h
 assumption
theorem wt{f C CO CN CH CF fS fP fH fM:Addr}{fd fdS fdP fdH fdM:FuncData}(F:dW K "poured" "poured" fQ f fd)(CT:gG K C)
  (DS:Def K mg "shaken" dn ["one", "other"] fS fdS) (GS:aH P w K mg base (jT P w) 7 fS fdS ["one", "other"] (fun vs H Q E=>r9 C vs H Q E∨nX C CO vs H Q E))
  (DP:Def K mg "played" fk ["net", "row"] fP fdP) (GP:aH P w K mg base (jT P w) 6 fP fdP ["net", "row"] (rN K C CN CH CF))
  (DH:Def K mg "half" iV ["net", "row"] fH fdH) (GH:aH P w K mg base bX 2 fH fdH ["net", "row"] (sQ K C))
  (DM:dX K C "moves" "Net.moves" gz ["self"] fM fdM) (GM:aH P w K mg base bX 1 fM fdM ["self"] (i5 C)) :
  aH P w K mg base (jT P w) 8 f fd ["one", "other", "first", "second"] (rY C CO CN CH CF):=by
 refine F.zC gx (fun vs H Q E h=>?_) (fun cdv A outer s H vs Q E hr h=>?_)
 ·obtain⟨p,q,a,b,ms1,ms2,st1,st2,r1,r2,rfl,_⟩:=h
  rfl
 ·obtain⟨p,q,a,b,ms1,ms2,st1,st2,r1,r2,rfl,N1,N2,ha,hb,lr1,lr2,kk⟩:=h
  have hsl:=PySem.sizeLine_eq
  have hu:=eI hr
  have hr1:bR 1 _:=hr.mono (by decide)
  have hr2:bR 2 _:=hr.mono (by decide)
  have hr6:bR 6 _:=hr.mono (by decide)
  refine⟨_,aj (cD (az GS hr rfl DS.mg DS.fn.kp DS.bd .nil gY (aa (pv 0) (aa (pv 1) ag))))
   (aj (cD (az GP hr6 rfl DP.mg DP.fn.kp DP.bd .nil gY (aa (pv 0) (aa (pv 2) ag))))
   (aj (cD (az GP hr6 rfl DP.mg DP.fn.kp DP.bd .nil gY (aa (pv 1) (aa (pv 3) ag))))
   (aj (bB (bb yf (az GH hr2 rfl DH.mg DH.fn.kp DH.bd .nil aJ (aa (pv 1) (aa (pv 2) ag))) (az GH hr2 rfl DH.mg DH.fn.kp DH.bd .nil aJ (aa (pv 0) (aa (pv 3) ag))) (bw _)) (au (aK pL)) aX)
   (aj (aN (i:=4) gx.nd rfl (Or.inl rfl) (bj ag))
   (aj (aN (i:=5) gx.nd rfl (Or.inl rfl) ak)
   (aj (dA PassesOwn.leaving rfl (bx (pv 2)) (aA (i:=6) gx.nd rfl (Or.inl rfl))
    (aj (bB (bb cV (pv 6) (bW (pv 1) CT.cl DM.mt GM hr1 DM.bd .nil aJ) (by with_unfolding_all rfl))
     (aj (aN (i:=7) gx.nd rfl (Or.inl rfl) (gy PySem.F.plainAttrs_list PySem.F.slot_list_index PySem.F.type_list_index wq (pv 3) (aa (pv 6) (aa (pv 5) ag))))
     (aj (cD (gy PySem.F.plainAttrs_list PySem.F.slot_list_extend PySem.F.type_list_extend wu (pv 4) (aa (bH ck (pv 3) (bK (pv 5)) (bK (pv 7))) ag)))
     (au (aN (i:=5) gx.nd rfl (Or.inl rfl) (aB di (pv 7) ak)))))
     aX)
    (au (cD (gy PySem.F.plainAttrs_list PySem.F.slot_list_append PySem.F.type_list_append dk (pv 4) (aa (pv 6) ag))))))
   (au (aK (aB dJ (pv 4) (bH ck (pv 3) (bK (pv 5)) cL)))))))))),?_⟩
  clear hu
  have hu1:=eI hr
  refine⟨_,rfl,_,rfl,?_⟩
  cases kk with
  | com x h1 h2 hf=>exact .inr ⟨p,q,ms1,ms2,st1,st2,rfl,N1,N2,.inl ⟨x,h1,h2⟩,hf⟩
  | apart hap hm s1 s2 kn ky =>
   refine .inl ⟨p,q,ms1,ms2,st1,st2,rfl,N1,N2,hap,hm,fun Ha r sa nr NR=>?_⟩
   refine⟨_,rfl,_,rfl,p,a,ms1,st1,r1,rfl,N1.same sa,aI.of (sa _ _ ha),lr1,fun m1 Hb qb sb nb hsts=>?_,fun e=>(s1.no e).same sa,fun e=>(s1.held e).same sa,fun e=>(s1.full e).same sa⟩
   have sab:=sa.trans sb
   refine⟨_,rfl,_,rfl,q,b,ms2,st2,r2,rfl,N2.same sab,aI.of (sab _ _ hb),lr2,fun m2 Hc qc sc nc hsts2=>?_,fun e=>((s2 m1).no e).same sab,fun e=>((s2 m1).held e).same sab,fun e=>((s2 m1).full e).same sab⟩
   have sac:=sab.trans sc
   refine⟨_,rfl,_,rfl,q,a,ms2,st2,r1,rfl,N2.same sac,aI.of (sac _ _ ha),by lia,fun Hd qd sd nd hqd=>?_⟩
   have sad:=sac.trans sd
   refine⟨_,rfl,_,rfl,p,b,ms1,st1,r2,rfl,N1.same sad,aI.of (sad _ _ hb),by lia,fun He qe se ne hqe=>?_⟩
   have sae:=sad.trans se
   refine⟨qd,qe,_,_,rfl,rfl,hu1,aI.of (se _ _ hqd),aI.of hqe,_,rfl,?_⟩
   by_cases hh:bf ms2 r1=bf ms1 r2
   ·rw [decide_eq_true hh]
    refine bS ⟨by show 0≤sizeLine;lia,fun rr nrr=>?_⟩
    have s5:ao He (upd He rr (.lst [])):=af nrr
    have a1:=iE N1.so m1
    have a2:=iE N2.so m2
    have s05:=sae.trans s5
    have nr0:H rr=none:=sae.free nrr
    refine⟨_,rfl,a,rfl,⟨_,aI.of (s05 _ _ ha)⟩,e7 (K:=K) (a:=a) (xs:=aq r1) (Fc H p q a b rr ms1 ms2 r1 r2)
     ⟨0,[],none,none,rfl,s05,ae,CZ hh⟩ (fun i σ H2 _ h=>aI.of (h.same _ _ ha)) ?_ ?_⟩
    ·rintro i v σ H2 hi ⟨n,row,v6,v7,rfl,sm,hrr,pr⟩
     obtain⟨x,hx,rfl⟩:=bQ hi
     have hil:i<r1.length:=(List.getElem?_eq_some_iff.mp hx).1
     have hlen:=pr.len
     have hle:=pr.le
     obtain⟨dx,_,_,_,_,_,_,h1,_⟩:=N2.at'.ob
     refine⟨_,rfl,_,rfl,q,dx,_,rfl,sm _ _ h1,bY _ _ _ _ kA kI kK kC,q,ms2,st2,rfl,N2.same sm,fun H3 qm s3 nm hqm=>?_⟩
     refine⟨qm,aq (aw (names ms2)),rfl,.inl (aI.of hqm),rfl,bN _,_,rfl,?_⟩
     show if w9 (V.str x) (aq (aw (names ms2)))=true then _ else _
     rw [cW,decide_eq_decide.mpr (bz (xs:=names ms2) (x:=x))]
     have s03:=sm.trans s3
     have hrr3:=s3 _ _ hrr
     by_cases hc:x∈names ms2
     ·rw [decide_eq_true hc]
      obtain⟨j,nj,hj,hno,pr2⟩:=pr.both a1 a2 hx hc
      have jl:j<r2.length:=(List.getElem?_eq_some_iff.mp hj).1
      refine cG ⟨_,rfl,.inl ⟨rfl,_,aI.of (s03 _ _ hb)⟩,_,rfl,_,rfl,b,aq r2,.str x,.str x,n,j,rfl,rfl,s03 _ _ hb,rfl,bN _,nj,by unfold aq;rw [List.getElem?_map,hj];rfl,by rw [Fh];exact decide_eq_true rfl,fun m w h1 h2 hw=>?_,?_⟩
      ·obtain⟨y,hy,rfl⟩:=bQ hw
       rw [Fh]
       exact decide_eq_false (hno m y h1 h2 hy)
      refine⟨_,rfl,.inl ⟨rfl,_,aI.of hrr3⟩,_,rfl,_,rfl,_,rfl,_,rfl,_,rfl,b,aq r2,rfl,aI.of (s03 _ _ hb),fun qs nqs=>?_⟩
      rw [qJ r2 n j nj (by lia)]
      have s4:ao H3 (upd H3 qs (.lst (aq ((r2.drop n).take (j-n))))):=af nqs
      have hqs:(upd H3 qs (.lst (aq ((r2.drop n).take (j-n))))) qs=some (.lst (aq ((r2.drop n).take (j-n)))):=ae
      have hrr4:=s4 _ _ hrr3
      generalize upd H3 qs (.lst (aq ((r2.drop n).take (j-n))))=H4 at s4 hqs hrr4 ⊢
      have lt:((r2.drop n).take (j-n)).length≤60:=by
       rw [List.length_take,List.length_drop]
       lia
      refine⟨rr,qs,_,_,rfl,rfl,hrr4,hqs,by rw [ah,ah];lia,?_⟩
      rw [jH]
      have s5':ao H (upd H4 rr (.lst (aq (row++(r2.drop n).take (j-n))))):=aD (s03.trans s4) nr0
      refine⟨_,rfl,_,_,rfl,rfl,?_⟩
      refine⟨_,rfl,.inl ⟨rfl,_,aI.of ae⟩,_,rfl,rr,_,_,rfl,rfl,ae,by rw [ah,List.length_append];lia,?_⟩
      refine⟨j+1,row++(r2.drop n).take (j-n)++[x],_,_,rfl,aD s5' nr0,?_,pr2⟩
      rw [ae,cB]
     ·rw [decide_eq_false hc]
      refine bS ?_
      refine⟨_,rfl,.inl ⟨rfl,_,aI.of hrr3⟩,_,rfl,rr,_,_,rfl,rfl,hrr3,by rw [ah];lia,?_⟩
      refine⟨n,row++[x],_,_,rfl,aD s03 nr0,?_,pr.Ex a1 hx hc⟩
      rw [ae,cB]
    ·rintro σ H2 ⟨n,row,v6,v7,rfl,sm,hrr,pr⟩
     rw [ah] at pr
     obtain⟨g1,g2,g3,g4⟩:=pr.done a2
     have hlen:=pr.len
     have hle:=pr.le
     refine⟨_,rfl,_,rfl,_,rfl,_,rfl,b,aq r2,rfl,aI.of (sm _ _ hb),fun qs nqs=>?_⟩
     rw [nY]
     have s4:ao H2 (upd H2 qs (.lst (aq (r2.drop n)))):=af nqs
     have hqs:(upd H2 qs (.lst (aq (r2.drop n)))) qs=some (.lst (aq (r2.drop n))):=ae
     have hrr4:=s4 _ _ hrr
     generalize upd H2 qs (.lst (aq (r2.drop n)))=H4 at s4 hqs hrr4 ⊢
     refine⟨rr,qs,_,_,rfl,rfl,hrr4,hqs,?_,fun qz nqz=>?_⟩
     ·rw [ah,ah,List.length_drop]
      lia
     rw [jH]
     have s04:=sm.trans s4
     exact ky m1 m2 hh _ qz _ (s04.trans (af nqz)) (s04.free nqz) ae ⟨g1,g2,g3,g4⟩
   ·rw [decide_eq_false hh]
    exact cG (kn m1 m2 hh He sae)
end
end Uf
end
section
namespace Uf
open PySem L2 UfSrt UfFin
abbrev qM:Stmt:=top 47
abbrev eo:Stmt:=top 48
abbrev qQ:Stmt:=top 49
section
variable {P:Program}{w:World}{K:PySem.W.Frag}{mg:Str→Option Value}{base:Heap}
def AQ(K:PySem.W.Frag):Sp:=fun vs H Q _=>∃ (p c:Addr) (ms:List Mv) (st:List Str) (cs:List Int),vs=[.ref p,.ref c]∧cF H p ms st∧Sound ms st∧aI K H c (cs.map V.int)∧cs.length≤50 ∧
 ∀ H' q (r:List Str),ao H H'→H q=none→H' q=some (.lst (aq r))→r.length≤cs.length→Q (.ref q) H'
theorem oj:aU ["_law_part", "_law_cells", "_law_state", "_law_row_here", "_law_cell", "_law_some"] ["_law_part", "_law_cells"] (ai qM):=⟨rfl,rfl,rfl,by decide +kernel,rfl,by decide +kernel,by decide +kernel⟩
inductive EA(H:Hp)(p c rr:Addr)(ms:List Mv)(st:List Str)(i:Nat)(σ:St)(H2:Hp):Prop
 | mk (a:Addr) (v4 v5:Option V) (t r:List Str) (q0:σ=[some (.ref p),some (.ref c),some (.ref a),some (.ref rr),v4,v5]) (q1:ao H H2) (q2:H2 a=some (.tup (aq t))) (q3:pO ms st t) (q4:H2 rr=some (.lst (aq r))) (q5:r.length≤i)
theorem EA.same{H:Hp}{p c rr:Addr}{ms:List Mv}{st:List Str}{i:Nat}{σ:St}{H2:Hp}(h:EA H p c rr ms st i σ H2):ao H H2:=by
 cases h
 assumption
theorem xu(r:List Str)(x:Str):o3 (aq (r++[x])) (-1)=some (.str x):=by
 unfold o3 xf
 rw [if_neg (by decide),if_pos (by rw [ah,List.length_append,List.length_singleton];lia),ah]
 have e0:(-1+(((r++[x]).length:Nat):Int)).toNat=r.length:=by rw [List.length_append,List.length_singleton];lia
 show(aq (r++[x]))[(-1+(((r++[x]).length:Nat):Int)).toNat]?=_
 rw [e0]
 unfold aq
 simp
theorem Cw{f fO fD:Addr}{fd fdO fdD:FuncData}(F:dW K "_law_row" "_law_row" qM f fd)(T:Txt K mg)
  (DO:Def K mg "_law_open" jk ["_law_state", "_law_rules"] fO fdO) (GO:aH P w K mg base bX 2 fO fdO ["_law_state", "_law_rules"] xv)
  (DD:Def K mg "_law_done" iO ["_law_state", "_law_rule"] fD fdD) (GD:aH P w K mg base bX 1 fD fdD ["_law_state", "_law_rule"] tE) :
  aH P w K mg base bX 3 f fd ["_law_part", "_law_cells"] (AQ K):=by
 refine F.ok oj (fun vs H Q E h=>?_) (fun cdv A outer s H vs Q E hr h=>?_)
 ·obtain⟨p,c,ms,st,cs,rfl,_⟩:=h
  rfl
 ·obtain⟨p,c,ms,st,cs,rfl,⟨d,l,hp,md,hl⟩,so,hc,hcl,kk⟩:=h
  have hsl:=PySem.sizeLine_eq
  have hu:=eI hr
  have hu0:_<cLine:=hr.mH
  have hr1:bR 1 _:=hr.mono (by decide)
  refine⟨_,aj (aN (i:=2) oj.nd rfl (Or.inl rfl) (ba cw rfl T.tup fE (aa (aF c0 rfl T.aw cN (aa (aO bo (pv 0) ak (fun _ _=>rfl)) ag)) ag)))
   (aj (aN (i:=3) oj.nd rfl (Or.inl rfl) (bj ag))
   (aj (dA PassesOwn.never rfl (bx (pv 1)) (aA (i:=4) oj.nd rfl (Or.inl rfl))
    (aj (aN (i:=5) oj.nd rfl (Or.inl rfl) (az GO hr rfl DO.mg DO.fn.kp DO.bd .nil aJ (aa (pv 2) (aa (aO bo (pv 0) ak (fun _ _=>rfl)) ag))))
    (au (bB (bb ne_nil (pv 5) (bj ag) (bw _))
     (aj (cD (gy PySem.F.plainAttrs_list PySem.F.slot_list_append PySem.F.type_list_append dk (pv 3) (aa (aO aV (pv 5) (aB bF (pv 4) (aF bG rfl T.len dB (aa (pv 5) ag))) (fun _ _=>rfl)) ag)))
     (au (aN (i:=2) oj.nd rfl (Or.inl rfl) (az GD hr1 rfl DD.mg DD.fn.kp DD.bd .nil aJ (aa (pv 2) (aa (dS hu (aO bo (pv 0) ak (fun _ _=>rfl)) (aO aV (pv 3) (zc sW ak) (fun _ _=>rfl)) (fun _ _=>rfl)) ag)))))) aX))))
   (au (aK (pv 3))))),?_⟩
  clear hu
  have lst:=so.xb
  have lms:=so.ml
  refine⟨_,rfl,p,_,1,_,rfl,rfl,cg.of hp,aE (j:=1) rfl,l,st,rfl,aI.of hl,by lia,fun q1 n1=>⟨q1,_,rfl,.inl ⟨aI.of ae,fun a0 na0=>?_⟩⟩⟩
  have s1:=(af (o:=.lst (aq (aw st))) n1).trans (af (o:=.tup (aq (aw st))) na0)
  have ha0:(upd (upd H q1 (.lst (aq (aw st)))) a0 (.tup (aq (aw st)))) a0=some (.tup (aq (aw st))):=ae
  generalize upd (upd H q1 (.lst (aq (aw st)))) a0 (.tup (aq (aw st)))=H1 at s1 ha0 ⊢
  refine⟨Nat.zero_le _,fun rr nrr=>?_⟩
  have nrr0:H rr=none:=s1.free nrr
  have s2:ao H1 (upd H1 rr (.lst [])):=af nrr
  have hrr:(upd H1 rr (.lst [])) rr=some (.lst (aq [])):=ae
  have ha2:=s2 _ _ ha0
  generalize upd H1 rr (.lst [])=H2 at s2 hrr ha2 ⊢
  have s02:=s1.trans s2
  refine⟨_,rfl,c,rfl,⟨_,s02.seq hc⟩,e7 (K:=K) (a:=c) (xs:=cs.map V.int) (EA H p c rr ms st)
   ⟨a0,none,none,aw st,[],rfl,s02,ha2,mU so,hrr,Nat.le_refl _⟩ (fun i σ H2 _ h=>h.same.seq hc) ?_ ?_⟩
  ·rintro i v σ H3 hi ⟨a,v4,v5,t,r,rfl,s3,ha3,hfi,hr3,lr⟩
   obtain⟨ce,hce,rfl⟩:=ints_get hi
   have hil:i<cs.length:=(List.getElem?_eq_some_iff.mp hce).1
   have l12:=hfi.len so
   refine⟨_,rfl,_,rfl,p,_,0,_,rfl,rfl,cg.of (s3 _ _ hp),aE (j:=0) rfl,a,d,t,ms,rfl,ha3,md.same s3,so.nd,so.Bl,fun H4 sq s4 nsq hsq=>?_⟩
   have s04:=s3.trans s4
   have ha4:=s4 _ _ ha3
   have hr4:=s4 _ _ hr3
   have lop:=wW ms t
   refine⟨_,rfl,Nat.zero_le _,fun e ne=>?_⟩
   have se:ao H4 (upd H4 e (.lst [])):=af ne
   refine⟨sq,e,_,rfl,rfl,hu0,aI.of (se _ _ hsq),aI.of ae,_,rfl,?_⟩
   have s05:=s04.trans se
   have ha5:=se _ _ ha4
   have hr5:=se _ _ hr4
   have hsq5:=se _ _ hsq
   generalize upd H4 e (.lst [])=H5 at se s05 ha5 hr5 hsq5 ⊢
   by_cases hS:ee ms t=[]
   ·rw [hS]
    exact bS ⟨a,_,_,t,r,rfl,s05,ha5,hfi,hr5,by lia⟩
   ·have pS:=List.length_pos_iff.mpr hS
    have e1:(!(aq (ee ms t)).isEmpty)=true:=by
     cases h:ee ms t with
     | nil=>exact absurd h hS
     | cons _ _=>rfl
    rw [e1]
    refine cG ?_
    have i0:0≤ce % (((ee ms t).length:Nat):Int):=Int.emod_nonneg _ (by lia)
    have i1:ce % (((ee ms t).length:Nat):Int)<(((ee ms t).length:Nat):Int):=Int.emod_lt_of_pos _ (by lia)
    have hxo:(ee ms t).getD (ce % (((ee ms t).length:Nat):Int)).toNat "" ∈ ee ms t:=by
     rw [List.getD_eq_getElem?_getD,List.getElem?_eq_getElem (by lia)]
     exact List.getElem_mem _
    refine⟨_,rfl,.inl ⟨rfl,_,aI.of hr5⟩,_,rfl,_,rfl,_,rfl,_,(ee ms t).length,rfl,.inl ⟨_,aI.of hsq5,(ah _).symm⟩,_,_,rfl,rfl,(by lia),sq,_,_,_,rfl,rfl,aI.of hsq5,dD i0 i1,?_⟩
    generalize (ee ms t).getD (ce % (((ee ms t).length:Nat):Int)).toNat ""=x at hxo
    obtain⟨m,hm,rfl,c3,c4⟩:=xI.mp hxo
    refine⟨rr,_,_,rfl,rfl,hr5,(by rw [ah];lia),?_⟩
    rw [cB]
    have s7:ao H (upd H5 rr (.lst (aq (r++[m.1])))):=aD s05 nrr0
    have hr7:(upd H5 rr (.lst (aq (r++[m.1])))) rr=some (.lst (aq (r++[m.1]))):=ae
    have ha7:(upd H5 rr (.lst (aq (r++[m.1])))) a=some (.tup (aq t)):=by rw [ar (cv ha5 hr5 (fun z=>nomatch z))];exact ha5
    generalize upd H5 rr (.lst (aq (r++[m.1])))=H7 at s7 hr7 ha7 ⊢
    have lr7:(r++[m.1]).length≤i+1:=by simp;lia
    obtain⟨_,_,_,a1,a2⟩:=dq (so.mv m hm)
    obtain⟨tm,lt,lg,dg,htm,hlt,hlg⟩:=md.wG so.nd hm s7
    refine⟨_,rfl,_,rfl,p,_,0,_,rfl,rfl,cg.of (s7 _ _ hp),aE (j:=0) rfl,_,rfl,1,rfl,rr,_,-1,_,rfl,rfl,aI.of hr7,xu r m.1,d,_,rfl,dg,a,tm,t,m.2.1,m.2.2,rfl,ha7,⟨lt,lg,htm,hlt,hlg⟩,by lia,by lia,fun H9 a9 s9 na9 ha9=>?_⟩
    exact⟨a9,_,_,_,r++[m.1],rfl,s7.trans s9,ha9,ot so hfi hm c4,s9 _ _ hr7,lr7⟩
  ·rintro σ H3 ⟨a,v4,v5,t,r,rfl,s3,ha3,hfi,hr3,lr⟩
   rw [List.length_map] at lr
   exact⟨_,rfl,kk H3 rr r s3 nrr0 hr3 lr⟩
end
end Uf
end
section
namespace Uf
open PySem L2 UfSrt UfFin
def wd(x:Str):Str:=if x="no" then "none" else x
theorem j9(r:List Str)(n:Nat):eD (aq r) none (some (n:Int))=aq (r.take n):=by
 rw [mL]
 unfold aq
 rw [List.map_take]
section
variable {P:Program}{w:World}{K:PySem.W.Frag}{mg:Str→Option Value}{base:Heap}
def oB(K:PySem.W.Frag):Sp:=fun vs H Q _=>∃ (a p:Addr) (ms:List Mv) (st r:List Str) (c:Int),vs=[.ref a,.ref p,.int c]∧H a=some (.lst (aq r))∧cF H p ms st∧ms.length≤12∧r.length≤50 ∧
 ∀ H' q (r':List Str),ao H H'→H q=none→H' q=some (.lst (aq r'))→r'.length≤r.length+1→Q (.ref q) H'
theorem kj:aU ["_law_row_here", "_law_part", "_law_cell", "_law_some", "_law_at"] ["_law_row_here", "_law_part", "_law_cell"] (ai eo):=⟨rfl,rfl,rfl,by decide +kernel,rfl,by decide +kernel,by decide +kernel⟩
theorem uk{f:Addr}{fd:FuncData}(F:dW K "_law_spoiled" "_law_spoiled" eo f fd)(T:Txt K mg) :
  aH P w K mg base bX 1 f fd ["_law_row_here", "_law_part", "_law_cell"] (oB K):=by
 refine F.ok kj (fun vs H Q E h=>?_) (fun cdv A outer s H vs Q E hr h=>?_)
 ·obtain⟨a,p,ms,st,r,c,rfl,_⟩:=h
  rfl
 ·obtain⟨a,p,ms,st,r,c,rfl,ha,⟨d,l,hp,md,hl⟩,lm,lr,kk⟩:=h
  have hsl:=PySem.sizeLine_eq
  refine⟨_,aj (aN (i:=3) kj.nd rfl (Or.inl rfl) (aB dJ (bj (aa cJ ag)) (aF (lH rfl) rfl T.aw cN (aa (aO bo (pv 1) ak (fun _ _=>rfl)) ag))))
   (aj (aN (i:=4) kj.nd rfl (Or.inl rfl) (aB bF (aB bE (pv 2) ak) (aB di (aF bG rfl T.len dB (aa (pv 0) ag)) ak)))
   (aj (bB (bb yI (aB bF (pv 2) ak) ak (bw _)) (au (aK (ba bu rfl T.lst cY (aa (pv 0) ag)))) aX)
   (au (aK (aB dJ (aB dJ (bH ck (pv 0) cL (bK (pv 4))) (bj (aa (aO aV (pv 3) (aB bF (aB bE (pv 2) ak) (aF bG rfl T.len dB (aa (pv 3) ag))) (fun _ _=>rfl)) ag))) (bH ck (pv 0) (bK (pv 4)) cL)))))),?_⟩
  obtain⟨om,kvm,hdm,mpm⟩:=md
  have lnm:(names ms).length=ms.length:=by unfold names;rw [List.length_map]
  refine⟨by show 1≤sizeLine;lia,fun z nz=>?_⟩
  have s1:ao H (upd H z (.lst [V.str "zz"])):=af nz
  have hz:(upd H z (.lst [V.str "zz"])) z=some (.lst (aq [("zz":Str)])):=ae
  generalize upd H z (.lst [V.str "zz"])=H1 at s1 hz ⊢
  refine⟨_,rfl,p,_,0,_,rfl,rfl,cg.of (s1 _ _ hp),aE (j:=0) rfl,d,kvm,names ms,rfl,.inr ⟨om,s1 _ _ hdm⟩,(mpm.same s1).keys,by lia,fun q8 n8=>?_⟩
  have s2:ao H1 (upd H1 q8 (.lst (aq (aw (names ms))))):=af n8
  have hq8:(upd H1 q8 (.lst (aq (aw (names ms))))) q8=some (.lst (aq (aw (names ms)))):=ae
  generalize upd H1 q8 (.lst (aq (aw (names ms))))=H2 at s2 hq8 ⊢
  have s02:=s1.trans s2
  have lsr:(aw (names ms)).length≤12:=by rw [aW];lia
  refine⟨z,q8,_,_,rfl,rfl,s2 _ _ hz,hq8,by rw [ah,ah];show 1+_≤_;lia,fun so nso=>?_⟩
  rw [jH]
  have s3:ao H2 (upd H2 so (.lst (aq ([("zz":Str)]++aw (names ms))))):=af nso
  have hso:(upd H2 so (.lst (aq ([("zz":Str)]++aw (names ms))))) so=some (.lst (aq ([("zz":Str)]++aw (names ms)))):=ae
  generalize upd H2 so (.lst (aq ([("zz":Str)]++aw (names ms))))=H3 at s3 hso ⊢
  have s03:=s02.trans s3
  have lS:1≤([("zz":Str)]++aw (names ms)).length:=by rw [List.length_append];show 1≤1+_;lia
  generalize [("zz":Str)]++aw (names ms)=S at hso lS
  have hlen:tF K (.ref a) H3 r.length:=.inl ⟨_,aI.of (s03 _ _ ha),(ah r).symm⟩
  refine⟨_,rfl,_,_,rfl,rfl,⟨by decide,by decide⟩,_,rfl,_,r.length,rfl,hlen,_,_,rfl,rfl,_,_,rfl,rfl,(by lia),?_⟩
  refine⟨_,rfl,_,_,rfl,rfl,(by show(0:Int)<8;decide),_,_,rfl,rfl,_,rfl,?_⟩
  refine jb (fun _=>?_) (fun _=>?_)
  ·exact⟨_,rfl,a,_,rfl,.inl (aI.of (s03 _ _ ha)),fun q nq=>kk _ q r (s03.trans (af nq)) (s03.free nq) ae (by lia)⟩
  ·have n0:0≤c / 8 % ((r.length:Int)+1):=Int.emod_nonneg _ (by lia)
   have n1:c / 8 % ((r.length:Int)+1)<(r.length:Int)+1:=Int.emod_lt_of_pos _ (by lia)
   obtain⟨n,en⟩:=Int.eq_ofNat_of_zero_le n0
   rw [en] at n1
   have ev:V.int (c / 8 % ((r.length:Int)+1))=V.int (n:Int):=by rw [en]
   refine⟨_,rfl,_,rfl,(n:Int),ev,a,_,rfl,aI.of (s03 _ _ ha),fun qa nqa=>?_⟩
   rw [j9]
   have s4:ao H3 (upd H3 qa (.lst (aq (r.take n)))):=af nqa
   have hqa:(upd H3 qa (.lst (aq (r.take n)))) qa=some (.lst (aq (r.take n))):=ae
   generalize upd H3 qa (.lst (aq (r.take n)))=H4 at s4 hqa ⊢
   have i0:0≤c / 64 % ((S.length:Nat):Int):=Int.emod_nonneg _ (by lia)
   have i1:c / 64 % ((S.length:Nat):Int)<((S.length:Nat):Int):=Int.emod_lt_of_pos _ (by lia)
   have hso4:=s4 _ _ hso
   refine⟨_,rfl,_,rfl,_,_,rfl,rfl,⟨by decide,by decide⟩,_,rfl,_,S.length,rfl,.inl ⟨_,aI.of hso4,(ah S).symm⟩,_,_,rfl,rfl,(by lia),so,_,_,_,rfl,rfl,aI.of hso4,dD i0 i1,?_⟩
   generalize S.getD (c / 64 % ((S.length:Nat):Int)).toNat ""=x
   refine⟨by show 1≤sizeLine;lia,fun qx nqx=>?_⟩
   have s5:ao H4 (upd H4 qx (.lst [V.str x])):=af nqx
   have hqx:(upd H4 qx (.lst [V.str x])) qx=some (.lst (aq [x])):=ae
   generalize upd H4 qx (.lst [V.str x])=H5 at s5 hqx ⊢
   have lt:(r.take n).length≤r.length:=by rw [List.length_take];lia
   refine⟨qa,qx,_,_,rfl,rfl,s5 _ _ hqa,hqx,by rw [ah,ah];show _+1≤_;lia,fun qy nqy=>?_⟩
   rw [jH]
   have s6:ao H5 (upd H5 qy (.lst (aq (r.take n++[x])))):=af nqy
   have hqy:(upd H5 qy (.lst (aq (r.take n++[x])))) qy=some (.lst (aq (r.take n++[x]))):=ae
   generalize upd H5 qy (.lst (aq (r.take n++[x])))=H6 at s6 hqy ⊢
   have s06:=s03.trans (s4.trans (s5.trans s6))
   refine⟨_,rfl,_,rfl,(n:Int),ev,a,_,rfl,aI.of (s06 _ _ ha),fun qd nqd=>?_⟩
   rw [nY]
   have s7:ao H6 (upd H6 qd (.lst (aq (r.drop n)))):=af nqd
   have hqd:(upd H6 qd (.lst (aq (r.drop n)))) qd=some (.lst (aq (r.drop n))):=ae
   generalize upd H6 qd (.lst (aq (r.drop n)))=H7 at s7 hqd ⊢
   have ll:(r.take n++[x]).length+(r.drop n).length=r.length+1:=by
    rw [List.length_append,List.length_take,List.length_drop,List.length_singleton]
    lia
   refine⟨qy,qd,_,_,rfl,rfl,s7 _ _ hqy,hqd,by rw [ah,ah];lia,fun qz nqz=>?_⟩
   rw [jH]
   have s07:=s06.trans s7
   exact kk _ qz _ (s07.trans (af nqz)) (s07.free nqz) ae (by rw [List.length_append];lia)
theorem eT.CD{H:Hp}{d:Addr}{ms:List Mv}(h:eT H d ms)(x:Str):∃ v:Option V,gW H d (.str x) v∧v.isSome=decide (x∈names ms):=by
 obtain⟨o,kvs,h1,h2⟩:=h
 refine⟨fh kvs (Sum.inr x),.inl ⟨kvs,Sum.inr x,.inr ⟨o,h1⟩,rfl,rfl⟩,?_⟩
 rw [← gg,uK h2]
def A0(K:PySem.W.Frag):Sp:=fun vs H Q _=>∃ (p a:Addr) (ms:List Mv) (st r:List Str),vs=[.ref p,.ref a]∧cF H p ms st∧Sound ms st∧aI K H a (aq r)∧r.length≤60 ∧
 ((bc ms (aw st) r).2="may"→∀ H',ao H H'→Q .non H')∧((bc ms (aw st) r).2≠"may"→∀ H' t,ao H H'→H t=none→H' t=some (.tup [.str (wd (bc ms (aw st) r).2),.int (((bc ms (aw st) r).1.length-1:Nat):Int)])→Q (.ref t) H')
theorem qX:aU ["_law_part", "_law_row_here", "_law_state", "_law_at", "_law_move"] ["_law_part", "_law_row_here"] (ai qQ):=⟨rfl,rfl,rfl,by decide +kernel,rfl,by decide +kernel,by decide +kernel⟩
inductive Fm(H:Hp)(p a:Addr)(ms:List Mv)(st row:List Str)(i:Nat)(σ:St)(H2:Hp):Prop
 | mk (q:Addr) (v3 v4:Option V) (q0:σ=[some (.ref p),some (.ref a),some (.ref q),v3,v4]) (q1:ao H H2) (q2:H2 q=some (.tup (aq (cy (bc ms (aw st) (row.take i)).1)))) (q3:(bc ms (aw st) (row.take i)).2="may")
theorem Fm.same{H:Hp}{p a:Addr}{ms:List Mv}{st row:List Str}{i:Nat}{σ:St}{H2:Hp}(h:Fm H p a ms st row i σ H2):ao H H2:=by
 cases h
 assumption
theorem Bg{f fR fD:Addr}{fd fdR fdD:FuncData}(F:dW K "_law_first_bad" "_law_first_bad" qQ f fd)(T:Txt K mg)(T2:Txt2 mg)
  (DR:Def K mg "_law_refusal" dh ["_law_state", "_law_rule"] fR fdR) (GR:aH P w K mg base bX 1 fR fdR ["_law_state", "_law_rule"] jV)
  (DD:Def K mg "_law_done" iO ["_law_state", "_law_rule"] fD fdD) (GD:aH P w K mg base bX 1 fD fdD ["_law_state", "_law_rule"] tE) :
  aH P w K mg base bX 2 f fd ["_law_part", "_law_row_here"] (A0 K):=by
 refine F.ok qX (fun vs H Q E h=>?_) (fun cdv A outer s H vs Q E hr h=>?_)
 ·obtain⟨p,a,ms,st,r,rfl,_⟩:=h
  rfl
 ·obtain⟨p,a,ms,st,row,rfl,⟨d,l,hp,md,hl⟩,so,ha,lr,k1,k2⟩:=h
  have hsl:=PySem.sizeLine_eq
  have hu:=eI hr
  refine⟨_,aj (aN (i:=2) qX.nd rfl (Or.inl rfl) (ba cw rfl T.tup fE (aa (aF c0 rfl T.aw cN (aa (aO bo (pv 0) ak (fun _ _=>rfl)) ag)) ag)))
   (aj (dA PassesOwn.never rfl (kW rfl T2.enm (aa (pv 1) ag)) (eB rfl (bh (aA (i:=3) qX.nd rfl (Or.inl rfl)) (bh (aA (i:=4) qX.nd rfl (Or.inl rfl)) dE)))
    (aj (bB (lX (oG hu (pv 4) (aO bo (pv 0) ak (fun _ _=>rfl)))) (au (aK (cz (aa cJ (aa (pv 3) ag))))) aX)
    (aj (bB (bb zf (az GR hr rfl DR.mg DR.fn.kp DR.bd .nil aJ (aa (pv 2) (aa (dS hu (aO bo (pv 0) ak (fun _ _=>rfl)) (pv 4) (fun _ _=>rfl)) ag))) cJ (bw _))
     (au (aK (cz (aa (az GR hr rfl DR.mg DR.fn.kp DR.bd .nil aJ (aa (pv 2) (aa (dS hu (aO bo (pv 0) ak (fun _ _=>rfl)) (pv 4) (fun _ _=>rfl)) ag))) (aa (pv 3) ag))))) aX)
    (au (aN (i:=2) qX.nd rfl (Or.inl rfl) (az GD hr rfl DD.mg DD.fn.kp DD.bd .nil aJ (aa (pv 2) (aa (dS hu (aO bo (pv 0) ak (fun _ _=>rfl)) (pv 4) (fun _ _=>rfl)) ag))))))))
   (au (aK pL))),?_⟩
  clear hu
  have lst:=so.xb
  refine⟨_,rfl,p,_,1,_,rfl,rfl,cg.of hp,aE (j:=1) rfl,l,st,rfl,aI.of hl,by lia,fun q1 n1=>⟨q1,_,rfl,.inl ⟨aI.of ae,fun a0 na0=>?_⟩⟩⟩
  have s1:=(af (o:=.lst (aq (aw st))) n1).trans (af (o:=.tup (aq (aw st))) na0)
  have ha0:(upd (upd H q1 (.lst (aq (aw st)))) a0 (.tup (aq (aw st)))) a0=some (.tup (aq (aw st))):=ae
  generalize upd (upd H q1 (.lst (aq (aw st)))) a0 (.tup (aq (aw st)))=H1 at s1 ha0 ⊢
  refine⟨_,rfl,a,rfl,⟨_,s1.seq ha⟩,jm (K:=K) (a:=a) (xs:=aq row) (Fm H p a ms st row) ⟨a0,none,none,rfl,s1,ha0,rfl⟩ (fun i σ H2 _ h=>h.same.seq ha) ?_ ?_⟩
  ·rintro i v pr σ H2 hi ⟨q,v3,v4,rfl,sm,hq,hmay⟩ np
   obtain⟨x,hx,rfl⟩:=bQ hi
   have I:=rG so (row.take i)
   have hil:i<row.length:=(List.getElem?_eq_some_iff.mp hx).1
   have hln:=I.may hmay
   have hli:(row.take i).length=i:=by rw [List.length_take];lia
   rw [hli] at hln
   have s3:ao H2 (upd H2 pr (.tup [.int (i:Int),.str x])):=af np
   refine⟨pr,_,rfl,cg.of ae,rfl,_,_,rfl,_,_,rfl,rfl,?_⟩
   have sm3:=sm.trans s3
   have hq3:=s3 _ _ hq
   generalize upd H2 pr (.tup [.int (i:Int),.str x])=H3 at s3 sm3 hq3 ⊢
   have hfl:pO ms st (cy (bc ms (aw st) (row.take i)).1):=I.fine _ (j5 fun z=>by rw [z] at hln;simp at hln)
   have l12:=hfl.len so
   have etk:row.take (i+1)=row.take i++[x]:=av hx
   have estep:=gF ms (aw st) (row.take i) x
   rw [← etk] at estep
   have stop:cX ms (cy (bc ms (aw st) (row.take i)).1) x≠"may"→(bc ms (aw st) row).2=cX ms (cy (bc ms (aw st) (row.take i)).1) x∧(bc ms (aw st) row).1.length-1=i:=fun hn=>by
    rw [kZ hmay hn] at estep
    have e1:=jZ (ms:=ms) (s0:=aw st) (r:=row.take (i+1)) (by rw [estep];exact hn) (row.drop (i+1))
    rw [List.take_append_drop,estep] at e1
    rw [e1]
    exact⟨rfl,by show(bc ms (aw st) (row.take i)).1.length-1=i;lia⟩
   have far:∀ {c:Str},c≠"may"→cX ms (cy (bc ms (aw st) (row.take i)).1) x=c→∀ H' t,ao H H'→H t=none→H' t=some (.tup [.str (wd c),.int (i:Int)])→Q (.ref t) H':=fun {c} hc e H' t s t0 h=>by
    obtain⟨z1,z2⟩:=stop (by rw [e];exact hc)
    refine k2 (by rw [z1,e];exact hc) H' t s t0 ?_
    rw [z1,z2,e]
    exact h
   obtain⟨v,dg,dv⟩:=(md.same sm3).CD x
   refine⟨_,rfl,_,rfl,p,_,0,_,rfl,rfl,cg.of (sm3 _ _ hp),aE (j:=0) rfl,d,v,rfl,dg,_,rfl,?_⟩
   rw [dv]
   by_cases hxn:x∈names ms
   ·rw [decide_eq_true hxn]
    refine bS ?_
    obtain⟨m,hm,rfl⟩:=List.mem_map.mp hxn
    obtain⟨_,_,_,a1,a2⟩:=dq (so.mv m hm)
    obtain⟨tm,lt,lg,dgm,htm,hlt,hlg⟩:=md.wG so.nd hm sm3
    generalize ht:cy (bc ms (aw st) (row.take i)).1=t at hq3 hfl l12 estep stop far
    refine⟨_,rfl,_,rfl,p,_,0,_,rfl,rfl,cg.of (sm3 _ _ hp),aE (j:=0) rfl,_,rfl,d,_,rfl,dgm,q,tm,t,m.2.1,m.2.2,rfl,hq3,⟨lt,lg,htm,hlt,hlg⟩,by lia,by lia,fun H4 s4=>⟨rfl,_,rfl,?_⟩⟩
    have s04:=sm3.trans s4
    have hq4:=s4 _ _ hq3
    obtain⟨tm4,lt4,lg4,dgm4,htm4,hlt4,hlg4⟩:=md.wG so.nd hm s04
    by_cases hw:iw m.2.1 m.2.2 t=""
    ·rw [decide_eq_true (by rw [hw])]
     refine bS ?_
     obtain⟨c3,c4⟩:=jq.mp hw
     have hmy:cX ms t m.1="may":=by rw [gu so.nd hm,lF c3 c4]
     rw [jw hmay (by rw [ht];exact hmy),ht,sT so.nd hm] at estep
     refine⟨_,rfl,_,rfl,p,_,0,_,rfl,rfl,cg.of (s04 _ _ hp),aE (j:=0) rfl,_,rfl,d,_,rfl,dgm4,q,tm4,t,m.2.1,m.2.2,rfl,hq4,⟨lt4,lg4,htm4,hlt4,hlg4⟩,by lia,by lia,fun H5 a5 s5 na5 ha5=>?_⟩
     refine⟨a5,_,_,rfl,s04.trans s5,?_,by rw [estep]⟩
     rw [estep,ur]
     exact ha5
    ·rw [decide_eq_false (fun z=>hw (by injection z))]
     refine cG ?_
     refine⟨_,rfl,_,rfl,p,_,0,_,rfl,rfl,cg.of (s04 _ _ hp),aE (j:=0) rfl,_,rfl,d,_,rfl,dgm4,q,tm4,t,m.2.1,m.2.2,rfl,hq4,⟨lt4,lg4,htm4,hlt4,hlg4⟩,by lia,by lia,fun H5 s5=>?_⟩
     refine⟨_,rfl,by show 2≤sizeLine;lia,fun tq ntq=>?_⟩
     have s05:=s04.trans s5
     have ew:cX ms t m.1=iw m.2.1 m.2.2 t∧iw m.2.1 m.2.2 t≠"may"∧wd (iw m.2.1 m.2.2 t)=iw m.2.1 m.2.2 t:=by
      rw [gu so.nd hm]
      unfold wordOf iw
      by_cases c1:cU m.2.1 t=true
      ·rw [if_pos c1,if_pos c1]
       exact⟨rfl,yj,by unfold wd;rw [if_neg (Ne.symm Df)]⟩
      ·by_cases c2:second m.2.1 m.2.2 t=true
       ·rw [if_neg c1,if_neg c1,if_pos c2,if_pos c2]
        exact⟨rfl,xh,by unfold wd;rw [if_neg (Ne.symm Dl)]⟩
       ·exact absurd (by unfold iw;rw [if_neg c1,if_neg c2]) hw
     refine far ew.2.1 ew.1 _ tq (s05.trans (af ntq)) (s05.free ntq) ?_
     rw [ew.2.2]
     exact ae
   ·rw [decide_eq_false hxn]
    refine cG ?_
    refine⟨_,rfl,by show 2≤sizeLine;lia,fun tq ntq=>?_⟩
    exact far wD (jn hxn) _ tq (sm3.trans (af ntq)) (sm3.free ntq) ae
  ·rintro σ H2 ⟨q,v3,v4,rfl,sm,hq,hmay⟩
   rw [ah,List.take_length] at hmay
   exact k1 hmay H2 sm
end
end Uf
end
section
namespace Uf
open PySem L2 UfSrt UfFin
abbrev jN:Stmt:=top 50
theorem Fp:bootBuiltins "ValueError"=some (.type "ValueError"):=by decide +kernel
theorem rV{X:Cx}{K:PySem.W.Frag}(e:X.K=K):DJ X (CW K):=by
 subst e
 exact aV
structure AS(mg:Str→Option Value)(NE CO CN CH CF:Addr):Prop where
 ne:mg "NetError"=some (.ref NE)
 co:mg "NoNet"=some (.ref CO)
 cn:mg "NoMove"=some (.ref CN)
 ch:mg "Held"=some (.ref CH)
 cf:mg "Full"=some (.ref CF)
 ve:mg "ValueError"=none
structure iX(K:PySem.W.Frag)(NE CO CN CH CF C:Addr)(j:Nat):Prop where
 un:jc K C NE
 ei:kM K C
 eg:B6 K C "at"
 ko:PySem.W.kitOne K (.ref C) (.ref CO)=some false
 kf:PySem.W.kitOne K (.ref C) (.ref CF)=some (j==0)
 kh:PySem.W.kitOne K (.ref C) (.ref CH)=some (j==1)
 kn:PySem.W.kitOne K (.ref C) (.ref CN)=some (j==2)
 kv:PySem.W.kitOne K (.ref C) (.type "ValueError")=some true
structure AV(K:PySem.W.Frag)(NE CO:Addr):Prop where
 un:jc K CO NE
 ei:kM K CO
 ko:PySem.W.kitOne K (.ref CO) (.ref CO)=some true
inductive Told(H:Hp)(ms1 ms2:List Mv)(st1 st2 r1 r2:List Str):Str→V→Prop
 | one (h:(bc ms1 (aw st1) r1).2≠"may"):Told H ms1 ms2 st1 st2 r1 r2 (wd (bc ms1 (aw st1) r1).2) (.int (((bc ms1 (aw st1) r1).1.length-1:Nat):Int))
 | two (h1:(bc ms1 (aw st1) r1).2="may") (h:(bc ms2 (aw st2) r2).2≠"may"):Told H ms1 ms2 st1 st2 r1 r2 (wd (bc ms2 (aw st2) r2).2) (.int (((bc ms2 (aw st2) r2).1.length-1:Nat):Int))
 | non (h1:(bc ms1 (aw st1) r1).2="may") (h2:(bc ms2 (aw st2) r2).2="may") (h:bf ms2 r1≠bf ms1 r2):Told H ms1 ms2 st1 st2 r1 r2 "row" .non
 | row (q:Addr) (row:List Str) (h1:(bc ms1 (aw st1) r1).2="may") (h2:(bc ms2 (aw st2) r2).2="may") (h:bf ms2 r1=bf ms1 r2) (hq:H q=some (.lst (aq row))) (hp:tH ms1 ms2 r1 r2 row):Told H ms1 ms2 st1 st2 r1 r2 "row" (.ref q)
inductive C2(H:Hp)(Q:VK)(ms1 ms2:List Mv)(st1 st2 r1 r2:List Str):Prop
 | com (x:Str) (h1:x∈bL ms1 st1) (h2:x∈bL ms2 st2) (k:∀ H' t,ao H H'→H t=none→H' t=some (.tup [.str "net",.int 0])→Q (.ref t) H')
 | apart (ha:gK ms1 st1 ms2 st2) (hm:dw (fj ms1 ms2) (aw st1++aw st2)=true) (k:∀ H' t w v,ao H H'→H t=none→H' t=some (.tup [.str w,v])→Told H' ms1 ms2 st1 st2 r1 r2 w v→Q (.ref t) H')
section
variable {P:Program}{w:World}{K:PySem.W.Frag}{mg:Str→Option Value}{base:Heap}
def yA(K:PySem.W.Frag)(C:Addr):Sp:=fun vs H Q _=>∃ (n a b p q:Addr) (ms1 ms2:List Mv) (st1 st2 r1 r2:List Str),vs=[.ref n,.ref a,.ref b]∧aI K H n [.ref p,.ref q]∧cj C H p ms1 st1∧cj C H q ms2 st2∧H a=some (.lst (aq r1))∧H b=some (.lst (aq r2))∧r1.length≤60∧r2.length≤60∧C2 H Q ms1 ms2 st1 st2 r1 r2
theorem pY:aU ["_law_nets", "_law_first", "_law_second", "_law_found", "e", "_law_words"] ["_law_nets", "_law_first", "_law_second"] (ai jN):=⟨rfl,rfl,rfl,by decide +kernel,rfl,by decide +kernel,by decide +kernel⟩
theorem vB:∀ j,j<3→([V.bl (j==0),V.bl (j==1),V.bl (j==2)].countP fun z=>kO z (.bl true))=1∧[V.bl (j==0),V.bl (j==1),V.bl (j==2)][j]?=some (V.bl true)∧∀ m w,m<j→[V.bl (j==0),V.bl (j==1),V.bl (j==2)][m]?=some w→kO w (.bl true)=false
 | 0,_=>⟨rfl,rfl,fun m w h=>absurd h (by lia)⟩
 | 1,_=>⟨rfl,rfl,fun m w h e=>by
   have:m=0:=by lia
   subst this
   cases e
   rfl⟩
 | 2,_=>⟨rfl,rfl,fun m w h e=>by
   have:m=0∨m=1:=by lia
   rcases this with rfl | rfl <;> (cases e;rfl)⟩
def wordAt:Nat→Str
 | 0=>"full"
 | 1=>"held"
 | _=>"none"
theorem zv(j:Nat)(hj:j<3):o3 [V.str "full",V.str "held",V.str "none"] (j:Int)=some (V.str (wordAt j)):=aE (by
 match j,hj with
 | 0,_=>rfl
 | 1,_=>rfl
 | 2,_=>rfl)
theorem A1:wd "no" = "none":=by unfold wd;rw [if_pos rfl]
theorem uw:wd "held" = "held":=by unfold wd;rw [if_neg (Ne.symm Df)]
theorem uC:wd "full" = "full":=by unfold wd;rw [if_neg (Ne.symm Dl)]
theorem yS{H:Hp}{Q:VK}{E:XK}{NE CO CN CH CF:Addr}{ms1 ms2:List Mv}{st1 st2 r1 r2:List Str}(hap:gK ms1 st1 ms2 st2)(hm:dw (fj ms1 ms2) (aw st1++aw st2)=true)
  (KF:iX K NE CO CN CH CF CF 0) (KH:iX K NE CO CN CH CF CH 1) (KN:iX K NE CO CN CH CF CN 2)
  (c:∀ (CC:Addr) (j:Nat) (nn:Int),iX K NE CO CN CH CF CC j→j<3→(∀ H',Told H' ms1 ms2 st1 st2 r1 r2 (wordAt j) (.int nn))→eJ H E CC nn)
  (kq:∀ H' v,ao H H'→Told H' ms1 ms2 st1 st2 r1 r2 "row" v→Q v H'):A8 H Q E CO CN CH CF ms1 ms2 st1 st2 r1 r2:=by
 refine .apart hap hm ⟨fun e=>c CN 2 _ KN (by lia) fun H'=>?_,fun e=>c CH 1 _ KH (by lia) fun H'=>?_,fun e=>c CF 0 _ KF (by lia) fun H'=>?_⟩
  (fun m1=>⟨fun e=>c CN 2 _ KN (by lia) fun H'=>?_,fun e=>c CH 1 _ KH (by lia) fun H'=>?_,fun e=>c CF 0 _ KF (by lia) fun H'=>?_⟩)
  (fun m1 m2 hne H' s=>kq H' _ s (.non m1 m2 hne)) (fun m1 m2 he H' q row s _ hq hp=>kq H' _ s (.row q row m1 m2 he hq hp))
 ·have:=Told.one (H:=H') (ms1:=ms1) (ms2:=ms2) (st1:=st1) (st2:=st2) (r1:=r1) (r2:=r2) (by rw [e];exact wD)
  rwa [e,A1] at this
 ·have:=Told.one (H:=H') (ms1:=ms1) (ms2:=ms2) (st1:=st1) (st2:=st2) (r1:=r1) (r2:=r2) (by rw [e];exact yj)
  rwa [e,uw] at this
 ·have:=Told.one (H:=H') (ms1:=ms1) (ms2:=ms2) (st1:=st1) (st2:=st2) (r1:=r1) (r2:=r2) (by rw [e];exact xh)
  rwa [e,uC] at this
 ·have:=Told.two (H:=H') (ms1:=ms1) (ms2:=ms2) (st1:=st1) (st2:=st2) (r1:=r1) (r2:=r2) m1 (by rw [e];exact wD)
  rwa [e,A1] at this
 ·have:=Told.two (H:=H') (ms1:=ms1) (ms2:=ms2) (st1:=st1) (st2:=st2) (r1:=r1) (r2:=r2) m1 (by rw [e];exact yj)
  rwa [e,uw] at this
 ·have:=Told.two (H:=H') (ms1:=ms1) (ms2:=ms2) (st1:=st1) (st2:=st2) (r1:=r1) (r2:=r2) m1 (by rw [e];exact xh)
  rwa [e,uC] at this
theorem Told.same{H H':Hp}{ms1 ms2:List Mv}{st1 st2 r1 r2:List Str}{w:Str}{v:V}(s:ao H H')(h:Told H ms1 ms2 st1 st2 r1 r2 w v):Told H' ms1 ms2 st1 st2 r1 r2 w v:=by
 cases h with
 | one h=>exact .one h
 | two h1 h=>exact .two h1 h
 | non h1 h2 h=>exact .non h1 h2 h
 | row q row h1 h2 h hq hp=>exact .row q row h1 h2 h (s _ _ hq) hp
theorem zO{f C NE CO CN CH CF fP:Addr}{fd fdP:FuncData}(F:dW K "_law_told" "_law_told" jN f fd)(T:Txt K mg)(M:AS mg NE CO CN CH CF)
  (KO:AV K NE CO) (KF:iX K NE CO CN CH CF CF 0) (KH:iX K NE CO CN CH CF CH 1) (KN:iX K NE CO CN CH CF CN 2)
  (DP:Def K mg "poured" fQ ["one", "other", "first", "second"] fP fdP) (GP:aH P w K mg base (jT P w) 8 fP fdP ["one", "other", "first", "second"] (rY C CO CN CH CF)) :
  aH P w K mg base (jT P w) 9 f fd ["_law_nets", "_law_first", "_law_second"] (yA K C):=by
 refine F.zC pY (fun vs H Q E h=>?_) (fun cdv A outer s H vs Q E hr h=>?_)
 ·obtain⟨n,a,b,p,q,ms1,ms2,st1,st2,r1,r2,rfl,_⟩:=h
  rfl
 ·obtain⟨n,a,b,p,q,ms1,ms2,st1,st2,r1,r2,rfl,hn,N1,N2,ha,hb,lr1,lr2,kk⟩:=h
  have hsl:=PySem.sizeLine_eq
  refine⟨_,aj (Bn (fun D pins=>au (aN (i:=3) pY.nd rfl (Or.inl rfl) (az GP hr rfl DP.mg DP.fn.kp DP.bd .nil
   (Ds (i:=4) rfl rfl rfl pY.nd rfl rfl rfl M.ne rfl (fun xa =>
    aj (bB (cu (aF (dC.or ff sy) rfl T.isi lZ (aa (pv 4) (aa (dQ (v:=.ref CO) rfl M.co rfl) ag)))) (au (aK (cz (aa cJ (aa ak ag))))) aX)
    (aj (aN (i:=5) pY.nd rfl (Or.inl rfl) (bj (aa (aF ff rfl T.isi lZ (aa (pv 4) (aa (dQ (v:=.ref CF) rfl M.cf rfl) ag)))
     (aa (aF ff rfl T.isi lZ (aa (pv 4) (aa (dQ (v:=.ref CH) rfl M.ch rfl) ag)))
     (aa (aF ff rfl T.isi lZ (aa (pv 4) (aa (dQ (v:=.ref CN) rfl M.cn rfl) ag))) ag)))))
    (aj (bB (PW.pt (pw_or (bb zf (gy PySem.F.plainAttrs_list PySem.F.slot_list_count PySem.F.type_list_count yq (pv 5) (aa fg ag)) ak (bw _)) (pw_or1 (cR (cu (aF ff rfl T.isi lZ (aa (pv 4) (aa (pj (v:=.ty "ValueError") rfl M.ve Fp rfl) ag))))))))
     (au (aK (cz (aa cJ (aa ak ag))))) aX)
    (au (aK (cz (aa (aO aV (bj (aa cJ (aa cJ (aa cJ ag)))) (gy PySem.F.plainAttrs_list PySem.F.slot_list_index PySem.F.type_list_index zi (pv 5) (aa fg ag)) (fun _ _=>rfl)) (aa (wg (pv 4) rfl) ag)))))))))
   (aa (aO (rV (K:=K) rfl) (pv 0) ak (fun _ _=>rfl)) (aa (aO (rV (K:=K) rfl) (pv 0) ak (fun _ _=>rfl)) (aa (pv 1) (aa (pv 2) ag))))))))
   (au (aK (cz (aa cJ (aa (pv 3) ag))))),?_⟩
  refine⟨_,rfl,n,_,0,_,rfl,rfl,hn,aE (j:=0) rfl,_,rfl,n,_,1,_,rfl,rfl,hn,aE (j:=1) rfl,_,rfl,_,rfl,p,q,a,b,ms1,ms2,st1,st2,r1,r2,rfl,N1,N2,ha,hb,lr1,lr2,?_⟩
  cases kk with
  | com x h1 h2 k =>
   refine .com x h1 h2 fun H1 s1=>?_
   refine⟨CO,rfl,KO.un,fun e ne=>?_⟩
   have s2:ao H1 (upd H1 e (cm e (.ref CO) none)):=af ne
   have he:(upd H1 e (cm e (.ref CO) none)) e=some (cm e (.ref CO) none):=ae
   have s02:=s1.trans s2
   generalize upd H1 e (cm e (.ref CO) none)=H2 at s2 he s02 ⊢
   refine⟨_,rfl,.inr ⟨e,CO,_,true,rfl,he,KO.ei,?_,.inl ⟨(fun z=>nomatch z),KO.ko⟩⟩⟩
   refine⟨_,rfl,cG ?_⟩
   refine⟨by show 2≤sizeLine;lia,fun t nt=>?_⟩
   exact k _ t (s02.trans (af nt)) (s02.free nt) ae
  | apart hap hm k =>
   refine yS hap hm KF KH KN (fun CC j nn KC hj hT H1 dx s1 hdx=>?_) (fun H1 v s1 hT=>?_)
   ·refine⟨CC,rfl,KC.un,fun x nx=>?_⟩
    have sx:ao H1 (upd H1 x (cm x (.ref CC) (some dx))):=af nx
    have hx:(upd H1 x (cm x (.ref CC) (some dx))) x=some (cm x (.ref CC) (some dx)):=ae
    have hd:=sx _ _ hdx
    have s2:=s1.trans sx
    generalize upd H1 x (cm x (.ref CC) (some dx))=H2 at sx hx hd s2 ⊢
    refine⟨_,rfl,.inl ⟨x,CC,dx,_,_,false,rfl,hx,hd,KC.ei,?_,.inl ⟨(fun z=>nomatch z),KC.ko⟩⟩⟩
    refine⟨_,rfl,bS ?_⟩
    refine⟨_,rfl,x,CC,dx,_,_,_,rfl,hx,hd,KC.ei,?_,.inl ⟨(fun z=>nomatch z),KC.kf⟩⟩
    refine⟨_,rfl,x,CC,dx,_,_,_,rfl,hx,hd,KC.ei,?_,.inl ⟨(fun z=>nomatch z),KC.kh⟩⟩
    refine⟨_,rfl,x,CC,dx,_,_,_,rfl,hx,hd,KC.ei,?_,.inl ⟨(fun z=>nomatch z),KC.kn⟩⟩
    refine⟨by show 3≤sizeLine;lia,fun l nl=>?_⟩
    have s3:ao H2 (upd H2 l (.lst [V.bl (j==0),V.bl (j==1),V.bl (j==2)])):=af nl
    have hl:(upd H2 l (.lst [V.bl (j==0),V.bl (j==1),V.bl (j==2)])) l=some (.lst [V.bl (j==0),V.bl (j==1),V.bl (j==2)]):=ae
    generalize upd H2 l (.lst [V.bl (j==0),V.bl (j==1),V.bl (j==2)])=H3 at s3 hl ⊢
    have hx3:=s3 _ _ hx
    have hd3:=s3 _ _ hd
    have s03:=s2.trans s3
    obtain⟨w1,w2,w3⟩:=vB j hj
    refine⟨_,rfl,.inl ⟨rfl,_,aI.of hl⟩,l,_,_,rfl,rfl,hl,rfl,rfl,?_⟩
    rw [w1]
    refine⟨rfl,_,rfl,?_⟩
    refine bS ?_
    refine⟨_,rfl,x,CC,dx,_,_,true,rfl,hx3,hd3,KC.ei,?_,.inl ⟨(fun z=>nomatch z),KC.kv⟩⟩
    refine⟨_,rfl,bS ?_⟩
    refine⟨by show 3≤sizeLine;lia,fun g ng=>?_⟩
    have s4:ao H3 (upd H3 g (.lst [V.str "full",V.str "held",V.str "none"])):=af ng
    have hg:(upd H3 g (.lst [V.str "full",V.str "held",V.str "none"])) g=some (.lst [V.str "full",V.str "held",V.str "none"]):=ae
    generalize upd H3 g (.lst [V.str "full",V.str "held",V.str "none"])=H4 at s4 hg ⊢
    have hat:=zv j hj
    refine⟨_,rfl,.inl ⟨rfl,_,aI.of (s4 _ _ hl)⟩,l,_,_,V.bl true,j,rfl,rfl,s4 _ _ hl,rfl,rfl,w2,rfl,w3,g,_,_,_,rfl,rfl,aI.of hg,hat,?_⟩
    refine⟨_,rfl,x,CC,dx,_,nn,rfl,s4 _ _ hx3,s4 _ _ hd3,KC.eg,rfl,by show 2≤sizeLine;lia,fun t nt=>?_⟩
    have s04:=s03.trans s4
    exact k _ t _ _ (s04.trans (af nt)) (s04.free nt) ae (hT _)
   ·refine⟨_,rfl,by show 2≤sizeLine;lia,fun t nt=>?_⟩
    have st:ao H1 _:=af (o:=.tup [.str "row",v]) nt
    exact k _ t _ _ (s1.trans st) (s1.free nt) ae (hT.same st)
end
end Uf
end
section
namespace Uf
open PySem L2 UfSrt UfFin
structure Alt(ms':List Mv)(st':List Str)(ms:List Mv)(st:List Str):Prop where
 nm:aw (names ms')=aw (names ms)
 pl:bL ms' st'=bL ms st
 st:aw st'=aw st
 mv:∀ m∈ms,∃ m'∈ms',m'.1=m.1∧aw m'.2.1=aw m.2.1∧aw m'.2.2=aw m.2.2
theorem Alt.mem{ms' ms:List Mv}{st' st:List Str}(h:Alt ms' st' ms st){x:Str}:x∈names ms'↔x∈names ms:=by rw [← bz,h.nm,bz]
theorem Cd{L tk gv:List Str}(hL:unlike L=true)(h:CG L tk gv):eA tk gv=true:=by
 have r1:=bM hL h.t1 h.t2
 have r2:=bM hL h.g1 h.g2
 have:=h.t3
 have:=h.t4
 have:=h.g4
 unfold eA
 rw [r1,r2,decide_eq_true (show 1≤tk.length by lia),decide_eq_true (show tk.length≤4 by lia),decide_eq_true (show gv.length≤4 by lia)]
 rfl
theorem jJ{L:List Str}{ms:List Mv}{st ns:List Str}(h:t6 L ms st ns):∀ x∈bL ms st,x∈L:=fun x hx=>by
 rcases ez.mp hx with z | ⟨m,hm,z | z⟩
 ·exact h.ss x z
 ·exact(h.mv m hm).t2 x z
 ·exact(h.mv m hm).g2 x z
theorem mR(ms:List Mv)(st:List Str):(bL ms st).Nodup:=by
 unfold bL
 exact(bp _).nodup_iff.mpr (UfSet.gr _)
theorem mM{L:List Str}{ms:List Mv}{st:List Str}(hL:unlike L=true)(l6:L.length=6)(h:t6 L ms st (names ms))(hn:unlike (names ms)=true)(hm:ms.length≤4):Sound ms st :=
 ⟨by lia,(Bool.and_eq_true_iff.mp hn).1,aZ hn,fun m hm=>Cd hL (h.mv m hm),bM hL h.sn h.ss,by
  have:=eX (mR ms st) (jJ h)
  lia⟩
theorem xw{xs ys:List Str}(h1:xs.Nodup)(h2:ys.Nodup)(h:∀ x,x∈xs↔x∈ys):aw xs=aw ys:=gC ((List.perm_ext_iff_of_nodup h1 h2).mpr h)
section
variable {L1 L2:List Str}{ms1 ms2:List Mv}{st1 st2:List Str}
theorem cZ.u1(h:cZ L1 L2 ms1 st1 ms2 st2):unlike L1=true:=bM h.u (List.nodup_append.mp (aZ h.u)).1 fun y hy=>List.mem_append_left _ hy
theorem cZ.u2(h:cZ L1 L2 ms1 st1 ms2 st2):unlike L2=true:=bM h.u (List.nodup_append.mp (aZ h.u)).2.1 fun y hy=>List.mem_append_right _ hy
theorem cZ.Fo(h:cZ L1 L2 ms1 st1 ms2 st2){x:Str}(h1:x∈L1)(h2:x∈L2):False:=(List.nodup_append.mp (aZ h.u)).2.2 x h1 x h2 rfl
theorem cZ.s1(h:cZ L1 L2 ms1 st1 ms2 st2):Sound ms1 st1:=mM h.u1 h.l1 h.a1 h.n1 h.m1
theorem cZ.s2(h:cZ L1 L2 ms1 st1 ms2 st2):Sound ms2 st2:=mM h.u2 h.l2 h.a2 h.n2 h.m2
theorem cZ.apart(h:cZ L1 L2 ms1 st1 ms2 st2):gK ms1 st1 ms2 st2:=fun x h1 h2=>h.Fo (jJ h.a1 x h1) (jJ h.a2 x h2)
theorem cZ.Cp(h:cZ L1 L2 ms1 st1 ms2 st2):gK ms2 st2 ms1 st1:=fun x h1 h2=>h.Fo (jJ h.a1 x h2) (jJ h.a2 x h1)
theorem vj{L:List Str}{ms:List Mv}{st ns:List Str}(h:t6 L ms st ns)(hn:(names ms).Nodup)(x:Str):(bA ms x).Nodup∧(bC ms x).Nodup∧(∀ y∈bA ms x,y∈L)∧(∀ y∈bC ms x,y∈L)∧(bA ms x).length≤2∧(bC ms x).length≤2∧(x∈names ms→1≤(bA ms x).length):=by
 by_cases hx:x∈names ms
 ·obtain⟨m,hm,rfl⟩:=List.mem_map.mp hx
  rw [eP hn hm,eN hn hm]
  have:=h.mv m hm
  exact⟨this.t1,this.g1,this.t2,this.g2,this.t4,this.g4,fun _=>this.t3⟩
 ·rw [dM hx,dN hx]
  exact⟨.nil,.nil,fun y hy=>by simp at hy,fun y hy=>by simp at hy,by simp,by simp,fun z=>absurd z hx⟩
theorem cZ.both(h:cZ L1 L2 ms1 st1 ms2 st2):t8 ms1 ms2 (eU ms1 ms2):=wo (aZ h.n1) (aZ h.n2)
theorem j8(h:cZ L1 L2 ms1 st1 ms2 st2){xs ys:List Str}(n1:xs.Nodup)(n2:ys.Nodup)(h1:∀ x∈xs,x∈L1)(h2:∀ y∈ys,y∈L2):(xs++ys).Nodup :=
 List.nodup_append.mpr ⟨n1,n2,fun a ha b hb e=>h.Fo (h1 a ha) (by rw [e];exact h2 b hb)⟩
theorem qq{xs ys:List Str}(h1:∀ x∈xs,x∈L1)(h2:∀ y∈ys,y∈L2):∀ z∈xs++ys,z∈L1++L2:=fun z hz=>by
 rcases List.mem_append.mp hz with z' | z'
 ·exact List.mem_append_left _ (h1 z z')
 ·exact List.mem_append_right _ (h2 z z')
theorem cZ.sB(h:cZ L1 L2 ms1 st1 ms2 st2):Sound (eU ms1 ms2) (st1++st2):=by
 have B:=h.both
 have n1:=aZ h.n1
 have n2:=aZ h.n2
 have lB:(eU ms1 ms2).length≤8:=by
  unfold eU
  have e1:=fb ms2 (ms1.foldl bZ [])
  have e2:=fb ms1 []
  have:=h.m1
  have:=h.m2
  simp at e2
  lia
 have mvB:∀ m∈eU ms1 ms2,eA m.2.1 m.2.2=true∧∀ x,x∈m.2.1∨x∈m.2.2→x∈L1++L2:=fun m hm=>by
  obtain⟨a1,a2,a3,a4,a5,a6,a7⟩:=vj h.a1 n1 m.1
  obtain⟨b1,b2,b3,b4,b5,b6,b7⟩:=vj h.a2 n2 m.1
  rw [B.tk m hm,B.gv m hm]
  have t1:=j8 h a1 b1 a3 b3
  have g1:=j8 h a2 b2 a4 b4
  have t2:∀ z∈bA ms1 m.1++bA ms2 m.1,z∈L1++L2:=qq a3 b3
  have g2:∀ z∈bC ms1 m.1++bC ms2 m.1,z∈L1++L2:=qq a4 b4
  have l1:1≤(bA ms1 m.1++bA ms2 m.1).length:=by
   rw [List.length_append]
   rcases(B.nm m.1).mp (List.mem_map.mpr ⟨m,hm,rfl⟩) with z | z
   ·have:=a7 z;lia
   ·have:=b7 z;lia
  have l2:(bA ms1 m.1++bA ms2 m.1).length≤4:=by rw [List.length_append];lia
  have l3:(bC ms1 m.1++bC ms2 m.1).length≤4:=by rw [List.length_append];lia
  refine⟨?_,fun x hx=>hx.elim (t2 x) (g2 x)⟩
  unfold eA
  rw [bM h.u t1 t2,bM h.u g1 g2,decide_eq_true l1,decide_eq_true l2,decide_eq_true l3]
  rfl
 refine⟨by lia,List.all_eq_true.mpr fun x hx=>?_,B.nd,fun m hm=>(mvB m hm).1,?_,?_⟩
 ·rcases(B.nm x).mp hx with z | z
  ·exact cM h.n1 z
  ·exact cM h.n2 z
 ·exact bM h.u (j8 h h.a1.sn h.a2.sn h.a1.ss h.a2.ss) (qq h.a1.ss h.a2.ss)
 ·have l12:(L1++L2).length=12:=by rw [List.length_append,h.l1,h.l2]
  rw [← l12]
  refine eX (mR _ _) fun x hx=>?_
  rcases ez.mp hx with z | ⟨m,hm,z⟩
  ·exact qq h.a1.ss h.a2.ss x z
  ·exact(mvB m hm).2 x z
theorem Cy{B:List Mv}(hB:t8 ms1 ms2 B):Alt (fj ms1 ms2) (aw st1++aw st2) B (st1++st2)∧Alt (fj ms2 ms1) (aw st2++aw st1) B (st1++st2):=by
 have memP:∀ (p:Str→List Str) (q:Str→List Str),(∀ x,(p x).Perm (q x))→∀ y,y∈p y↔y∈q y:=fun p q h y=>(h y).mem_iff
 have t12:∀ x,(aw (bA ms1 x)++aw (bA ms2 x)).Perm (bA ms1 x++bA ms2 x):=fun x=>(bp _).append (bp _)
 have g12:∀ x,(aw (bC ms1 x)++aw (bC ms2 x)).Perm (bC ms1 x++bC ms2 x):=fun x=>(bp _).append (bp _)
 have t21:∀ x,(aw (bA ms2 x)++aw (bA ms1 x)).Perm (bA ms1 x++bA ms2 x):=fun x=>List.perm_append_comm.trans (t12 x)
 have g21:∀ x,(aw (bC ms2 x)++aw (bC ms1 x)).Perm (bC ms1 x++bC ms2 x):=fun x=>List.perm_append_comm.trans (g12 x)
 have s12:(aw st1++aw st2).Perm (st1++st2):=(bp _).append (bp _)
 have s21:(aw st2++aw st1).Perm (st1++st2):=List.perm_append_comm.trans s12
 have one:∀ {N1 N2:List Mv} {ss:List Str},(∀ x,x∈nC N1 N2↔x∈names B)→(∀ x,(mB N1 N2 x).2.1.Perm (bA ms1 x++bA ms2 x))→(∀ x,(mB N1 N2 x).2.2.Perm (bC ms1 x++bC ms2 x))→ss.Perm (st1++st2)→Alt (fj N1 N2) ss B (st1++st2):=fun {N1 N2 ss} e1 e2 e3 e4=>by
  refine⟨by rw [jM];exact xw (j3 _ _) hB.nd e1,?_,gC e4,fun m hm=>?_⟩
  ·unfold bL
   refine xw (UfSet.gr _) (UfSet.gr _) fun x=>?_
   rw [UfSet.jd,UfSet.jd,List.mem_append,List.mem_append,e4.mem_iff]
   refine or_congr Iff.rfl ?_
   unfold jE
   rw [List.mem_flatMap,List.mem_flatMap]
   constructor
   ·rintro⟨m,hm,hx⟩
    obtain⟨y,hy,rfl⟩:=List.mem_map.mp hm
    obtain⟨b,hb,rfl⟩:=List.mem_map.mp ((e1 y).mp hy)
    refine⟨b,hb,?_⟩
    rw [hB.tk b hb,hB.gv b hb]
    rcases List.mem_append.mp hx with z | z
    ·exact List.mem_append_left _ ((e2 b.1).mem_iff.mp z)
    ·exact List.mem_append_right _ ((e3 b.1).mem_iff.mp z)
   ·rintro⟨b,hb,hx⟩
    rw [hB.tk b hb,hB.gv b hb] at hx
    refine⟨mB N1 N2 b.1,List.mem_map.mpr ⟨b.1,(e1 b.1).mpr (List.mem_map.mpr ⟨b,hb,rfl⟩),rfl⟩,?_⟩
    rcases List.mem_append.mp hx with z | z
    ·exact List.mem_append_left _ ((e2 b.1).mem_iff.mpr z)
    ·exact List.mem_append_right _ ((e3 b.1).mem_iff.mpr z)
  ·refine⟨mB N1 N2 m.1,List.mem_map.mpr ⟨m.1,(e1 m.1).mpr (List.mem_map.mpr ⟨m,hm,rfl⟩),rfl⟩,rfl,?_,?_⟩
   ·rw [hB.tk m hm]
    exact gC (e2 m.1)
   ·rw [hB.gv m hm]
    exact gC (e3 m.1)
 exact⟨one (fun x=>by rw [qk,hB.nm]) t12 g12 s12,one (fun x=>by rw [qk,hB.nm];exact or_comm) t21 g21 s21⟩
theorem By{tk tk' gv gv':List Str}(h1:aw tk'=aw tk)(h2:aw gv'=aw gv)(h:eA tk gv=true):eA tk' gv'=true:=by
 have p1:tk'.Perm tk:=(bp tk').symm.trans (h1 ▸ bp tk)
 have p2:gv'.Perm gv:=(bp gv').symm.trans (h2 ▸ bp gv)
 obtain⟨u1,u2,a1,a2,a3⟩:=dq h
 have v1:unlike tk'=true:=bM u1 (p1.nodup_iff.mpr (aZ u1)) fun y hy=>p1.mem_iff.mp hy
 have v2:unlike gv'=true:=bM u2 (p2.nodup_iff.mpr (aZ u2)) fun y hy=>p2.mem_iff.mp hy
 have l1:=p1.length_eq
 have l2:=p2.length_eq
 unfold eA
 rw [v1,v2,decide_eq_true (show 1≤tk'.length by lia),decide_eq_true (show tk'.length≤4 by lia),decide_eq_true (show gv'.length≤4 by lia)]
 rfl
theorem Alt.sound{ms' ms:List Mv}{st' st:List Str}(h:Alt ms' st' ms st)(n':(names ms').Nodup)(so:Sound ms st):Sound ms' st':=by
 have lm:ms'.length=ms.length:=by
  have:=congrArg List.length h.nm
  rw [aW,aW] at this
  unfold names at this
  rwa [List.length_map,List.length_map] at this
 refine⟨by rw [lm];exact so.ml,List.all_eq_true.mpr fun x hx=>List.all_eq_true.mp so.nn x (h.mem.mp hx),n',fun m' hm'=>?_,?_,by rw [h.pl];exact so.pl⟩
 ·obtain⟨m,hm,e⟩:=List.mem_map.mp (h.mem.mp (List.mem_map.mpr ⟨m',hm',rfl⟩))
  obtain⟨m2,hm2,e0,e1,e2⟩:=h.mv m hm
  have e:m.1=m'.1:=e
  have em:m2=m':=by
   have f1:=find_name n' hm2
   have f2:=find_name n' hm'
   rw [e0,e] at f1
   rw [f1] at f2
   exact Option.some.inj f2
  subst em
  exact By e1 e2 (so.mv m hm)
 ·have p:st'.Perm st:=(bp st').symm.trans (h.st ▸ bp st)
  exact bM so.su (p.nodup_iff.mpr (aZ so.su)) fun y hy=>p.mem_iff.mp hy
end
theorem zF{ms:List Mv}(h:∀ m∈ms,eA m.2.1 m.2.2=true):(jE ms).length≤8*ms.length:=by
 induction ms with
 | nil=>exact Nat.le_refl _
 | cons m r ih =>
  have h1:=ih fun m hm=>h m (List.mem_cons_of_mem _ hm)
  obtain⟨_,_,_,a1,a2⟩:=dq (h m List.mem_cons_self)
  unfold jE at h1 ⊢
  rw [List.flatMap_cons,List.length_append,List.length_append,List.length_cons]
  lia
theorem ly{ms:List Mv}{st:List Str}(so:Sound ms st):Fits ms st:=by
 have l1:=so.ml
 have l2:=so.xb
 have l3:=zF so.mv
 have l4:=so.pl
 refine⟨er (fun x hx=>List.all_eq_true.mp so.nn x hx) (by unfold names;rw [List.length_map];lia),fun m hm=>?_,fun m hm=>?_,er (fun x hx=>cM so.su hx) (by lia),by rw [List.length_append];lia,?_⟩
 ·obtain⟨u1,_,_,a1,_⟩:=dq (so.mv m hm)
  exact er (fun x hx=>cM u1 hx) (by lia)
 ·obtain⟨_,u2,_,_,a2⟩:=dq (so.mv m hm)
  exact er (fun x hx=>cM u2 hx) (by lia)
 ·unfold bL at l4
  rw [aW] at l4
  lia
theorem uG{ms:List Mv}{st:List Str}(so:Sound ms st):dw ms st=true:=by
 unfold dw unlike
 rw [decide_eq_true so.ml,so.nn,decide_eq_true so.nd,List.all_eq_true.mpr so.mv,decide_eq_true so.pl]
 have:=so.su
 unfold unlike at this
 rw [this]
 rfl
structure t7(ms1:List Mv)(st1:List Str)(ms2:List Mv)(st2:List Str):Prop where
 s1:Sound ms1 st1
 s2:Sound ms2 st2
 ap:gK ms1 st1 ms2 st2
 ok:dw (fj ms1 ms2) (aw st1++aw st2)=true
theorem cZ.pair{L1 L2:List Str}{ms1 ms2:List Mv}{st1 st2:List Str}(h:cZ L1 L2 ms1 st1 ms2 st2):t7 ms1 st1 ms2 st2∧t7 ms2 st2 ms1 st1:=by
 obtain⟨al,al'⟩:=Cy (st1:=st1) (st2:=st2) h.both
 have SB:=h.sB
 have nd12:(names (fj ms1 ms2)).Nodup:=by rw [jM];exact j3 _ _
 have nd21:(names (fj ms2 ms1)).Nodup:=by rw [jM];exact j3 _ _
 exact⟨⟨h.s1,h.s2,h.apart,uG (al.sound nd12 SB)⟩,⟨h.s2,h.s1,h.Cp,uG (al'.sound nd21 SB)⟩⟩
end Uf
end
section
namespace Uf
open PySem L2 UfSrt UfFin
abbrev dZ:Stmt:=top 51
def lp(ms1 ms2:List Mv):List Str:=(names ms1).filter fun x=>decide (x∈names ms2)
theorem xx{ms1 ms2:List Mv}{x:Str}:x∈lp ms1 ms2↔x∈names ms1∧x∈names ms2:=by
 unfold lp
 rw [List.mem_filter,decide_eq_true_eq]
theorem BN{ms1 ms2:List Mv}{r:List Str}(h:∀ x∈r,x∈names ms1):(r.filter fun x=>decide (x∈lp ms1 ms2))=bf ms2 r:=List.filter_congr fun x hx=>decide_eq_decide.mpr (xx.trans ⟨fun z=>z.2,fun z=>⟨h x hx,z⟩⟩)
theorem BY{ms1 ms2:List Mv}{r:List Str}(h:∀ x∈r,x∈names ms2):(r.filter fun x=>decide (x∈lp ms1 ms2))=bf ms1 r:=List.filter_congr fun x hx=>decide_eq_decide.mpr (xx.trans ⟨fun z=>z.1,fun z=>⟨z,h x hx⟩⟩)
theorem Be{A:Around}{k:Nat}(hr:bR k A):A.units+2<cLine:=Nat.lt_of_le_of_lt (Nat.add_le_add_left (by decide:2≤64) _) hr.units
section
variable {P:Program}{w:World}{K:PySem.W.Frag}{mg:Str→Option Value}{base:Heap}
def pQ(K:PySem.W.Frag)(C:Addr):Sp:=fun vs H Q _=>∃ (n pp a b x1 x2 p1 p2:Addr) (ms1 ms2:List Mv) (st1 st2 r1 r2:List Str),vs=[.ref n,.ref pp,.ref a,.ref b]∧aI K H n [.ref x1,.ref x2]∧cj C H x1 ms1 st1∧cj C H x2 ms2 st2∧aI K H pp [.ref p1,.ref p2]∧cF H p1 ms1 st1∧cF H p2 ms2 st2∧t7 ms1 st1 ms2 st2∧H a=some (.lst (aq r1))∧H b=some (.lst (aq r2))∧r1.length≤60∧r2.length≤60∧∀ H',ao H H'→Q (.bl true) H'
theorem fu:aU ["_law_nets", "_law_parts_here", "_law_first", "_law_second", "_law_handed", "_law_word", "_law_found", "_law_part", "_law_row_here", "_law_bad", "_law_common"] ["_law_nets", "_law_parts_here", "_law_first", "_law_second"] (ai dZ):=⟨rfl,rfl,rfl,by decide +kernel,rfl,by decide +kernel,by decide +kernel⟩
inductive EH(H:Hp)(n pp a b qh:Addr)(w:Str)(v:V)(ms1 ms2:List Mv)(st1 st2 r1 r2:List Str)(i:Nat)(σ:St)(H2:Hp):Prop
 | mk (v7 v8 v9:Option V) (q0:σ=[some (.ref n),some (.ref pp),some (.ref a),some (.ref b),some (.ref qh),some (.str w),some v,v7,v8,v9,none]) (q1:ao H H2) (q2:1≤i→(bc ms1 (aw st1) r1).2="may") (q3:2≤i→(bc ms2 (aw st2) r2).2="may")
theorem EH.same{H:Hp}{n pp a b qh:Addr}{w:Str}{v:V}{ms1 ms2:List Mv}{st1 st2 r1 r2:List Str}{i:Nat}{σ:St}{H2:Hp}(h:EH H n pp a b qh w v ms1 ms2 st1 st2 r1 r2 i σ H2):ao H H2:=by
 cases h
 assumption
theorem xO{f C fT fB fH:Addr}{fd fdT fdB fdH:FuncData}(F:dW K "_law_right" "_law_right" dZ f fd)(T:Txt K mg)(T3:Au mg)
  (DT:Def K mg "_law_told" jN ["_law_nets", "_law_first", "_law_second"] fT fdT) (GT:aH P w K mg base (jT P w) 9 fT fdT ["_law_nets", "_law_first", "_law_second"] (yA K C))
  (DB:Def K mg "_law_first_bad" qQ ["_law_part", "_law_row_here"] fB fdB) (GB:aH P w K mg base bX 2 fB fdB ["_law_part", "_law_row_here"] (A0 K))
  (DH:Def K mg "half" iV ["net", "row"] fH fdH) (GH:aH P w K mg base bX 2 fH fdH ["net", "row"] (sQ K C)) :
  aH P w K mg base (jT P w) 10 f fd ["_law_nets", "_law_parts_here", "_law_first", "_law_second"] (pQ K C):=by
 refine F.zC fu (fun vs H Q E h=>?_) (fun cdv A outer s H vs Q E hr h=>?_)
 ·obtain⟨n,pp,a,b,x1,x2,p1,p2,ms1,ms2,st1,st2,r1,r2,rfl,_⟩:=h
  rfl
 ·obtain⟨n,pp,a,b,x1,x2,p1,p2,ms1,ms2,st1,st2,r1,r2,rfl,hn,N1,N2,hp,P1,P2,PO,ha,hb,lr1,lr2,kk⟩:=h
  have hsl:=PySem.sizeLine_eq
  have hu:=eI hr
  have hr2:bR 2 _:=hr.mono (by decide)
  refine⟨_,aj (aN (i:=4) fu.nd rfl (Or.inl rfl) (bj (aa (ba bu rfl T.lst cY (aa (pv 2) ag)) (aa (ba bu rfl T.lst cY (aa (pv 3) ag)) ag))))
   (aj (uh (az GT hr rfl DT.mg DT.fn.kp DT.bd .nil gY (aa (pv 0) (aa (aO aV (pv 4) ak (fun _ _=>rfl)) (aa (aO aV (pv 4) ak (fun _ _=>rfl)) ag)))) (eB rfl (bh (aA (i:=5) fu.nd rfl (Or.inl rfl)) (bh (aA (i:=6) fu.nd rfl (Or.inl rfl)) dE))))
   (aj (bB (bb BF (pv 4) (bj (aa (pv 2) (aa (pv 3) ag))) (bw _)) (au (aK fg)) aX)
   (aj (dA PassesOwn.leaving rfl (xZ rfl T3.zip (aa (pv 1) (aa (bj (aa (pv 2) (aa (pv 3) ag))) ag))) (eB rfl (bh (aA (i:=7) fu.nd rfl (Or.inl rfl)) (bh (aA (i:=8) fu.nd rfl (Or.inl rfl)) dE)))
    (aj (aN (i:=9) fu.nd rfl (Or.inl rfl) (az GB hr2 rfl DB.mg DB.fn.kp DB.bd .nil aJ (aa (pv 7) (aa (pv 8) ag))))
    (au (bB (bb zR (pv 9) pL (bw _)) (au (aK (cI qg (cz (aa (pv 5) (aa (pv 6) ag))) (pv 9) (bw _)))) aX))))
   (aj (aN (i:=10) fu.nd rfl (Or.inr rfl) (bJ (N:=["_law_move", "_law_parts_here"]) (n:=1) (ci:=[1]) rfl (k0 (aO bo (aO aV (pv 1) ak (fun _ _=>rfl)) ak (fun _ _=>rfl)))
    (g9.of (so:=ai dZ) (N0:=["_law_nets", "_law_parts_here", "_law_first", "_law_second", "_law_handed", "_law_word", "_law_found", "_law_part", "_law_row_here", "_law_bad", "_law_common"]) ⟨rfl,by decide +kernel,by decide +kernel,by decide +kernel,rfl,rfl,by decide +kernel,by decide +kernel⟩)
    (fun z=>⟨aA (i:=0) (bV (N:=["_law_move", "_law_parts_here"]) (by decide +kernel)) rfl (Or.inl rfl),dH (lX (mW hu (pv 0) (aO bo (aO aV (pv 1) ak (fun _ _=>rfl)) ak (fun _ _=>rfl)))),pv 0⟩)))
   (aj (bB (bb yf (bJ (N:=["_law_move", "_law_common"]) (n:=1) (ci:=[10]) rfl (bx (pv 2))
     (g9.of (so:=ai dZ) (N0:=["_law_nets", "_law_parts_here", "_law_first", "_law_second", "_law_handed", "_law_word", "_law_found", "_law_part", "_law_row_here", "_law_bad", "_law_common"]) ⟨rfl,by decide +kernel,by decide +kernel,by decide +kernel,rfl,rfl,by decide +kernel,by decide +kernel⟩)
     (fun z=>⟨aA (i:=0) (bV (N:=["_law_move", "_law_common"]) (by decide +kernel)) rfl (Or.inl rfl),dH (bb cV (pv 0) (pv 1) (by with_unfolding_all rfl)),pv 0⟩))
     (bJ (N:=["_law_move", "_law_common"]) (n:=1) (ci:=[10]) rfl (bx (pv 3))
     (g9.of (so:=ai dZ) (N0:=["_law_nets", "_law_parts_here", "_law_first", "_law_second", "_law_handed", "_law_word", "_law_found", "_law_part", "_law_row_here", "_law_bad", "_law_common"]) ⟨rfl,by decide +kernel,by decide +kernel,by decide +kernel,rfl,rfl,by decide +kernel,by decide +kernel⟩)
     (fun z=>⟨aA (i:=0) (bV (N:=["_law_move", "_law_common"]) (by decide +kernel)) rfl (Or.inl rfl),dH (bb cV (pv 0) (pv 1) (by with_unfolding_all rfl)),pv 0⟩)) (bw _))
    (au (aK (cI qg (cz (aa (pv 5) (aa (pv 6) ag))) (cz (aa cJ (aa pL ag))) (bw _)))) aX)
   (aj (bB (PW.pt (pw_or (bb zf (pv 5) cJ (bw _)) (pw_or (cR (cu (aF rH rfl T.isi lZ (aa (pv 6) (aa (pj (v:=.ty "list") rfl T.lst cY rfl) ag))))) (pw_or1 (bb vd (aF bG rfl T.len dB (aa (pv 6) ag)) (aB di (aF bG rfl T.len dB (aa (pv 2) ag)) (aF bG rfl T.len dB (aa (pv 3) ag))) (bw _)))))) (au (aK fg)) aX)
   (aj (bB (cR (cu (aF (hW rfl) rfl T.all qZ (aa (bJ (N:=["_law_move", "_law_parts_here"]) (n:=1) (ci:=[1]) rfl (bx (pv 6))
     (g9.of (so:=ai dZ) (N0:=["_law_nets", "_law_parts_here", "_law_first", "_law_second", "_law_handed", "_law_word", "_law_found", "_law_part", "_law_row_here", "_law_bad", "_law_common"]) ⟨rfl,by decide +kernel,by decide +kernel,by decide +kernel,rfl,rfl,by decide +kernel,by decide +kernel⟩)
     (fun z=>⟨aA (i:=0) (bV (N:=["_law_move", "_law_parts_here"]) (by decide +kernel)) rfl (Or.inl rfl),bP,Ei (yT (mW hu (pv 0) (aO bo (aO aV (pv 1) ak (fun _ _=>rfl)) ak (fun _ _=>rfl)))) (kl (yT (mW hu (pv 0) (aO bo (aO aV (pv 1) ak (fun _ _=>rfl)) ak (fun _ _=>rfl)))))⟩)) ag)))) (au (aK fg)) aX)
   (au (aK (mz (cI rl (az GH hr2 rfl DH.mg DH.fn.kp DH.bd .nil aJ (aa (aO aV (pv 0) ak (fun _ _=>rfl)) (aa (pv 6) ag))) (pv 2) (bw _)) (kl (cI rl (az GH hr2 rfl DH.mg DH.fn.kp DH.bd .nil aJ (aa (aO aV (pv 0) ak (fun _ _=>rfl)) (aa (pv 6) ag))) (pv 3) (bw _))))))))))))),?_⟩
  clear hu
  have hu1:=eI hr
  have hu2:=Be hr
  have hu0:_<cLine:=hr.mH
  refine⟨_,rfl,a,_,rfl,.inl (aI.of ha),fun qa nqa=>?_⟩
  have sa:ao H (upd H qa (.lst (aq r1))):=af nqa
  have hqa:(upd H qa (.lst (aq r1))) qa=some (.lst (aq r1)):=ae
  generalize upd H qa (.lst (aq r1))=Ha at sa hqa ⊢
  refine⟨_,rfl,b,_,rfl,.inl (aI.of (sa _ _ hb)),fun qb nqb=>?_⟩
  have sb:ao Ha (upd Ha qb (.lst (aq r2))):=af nqb
  have hqb:(upd Ha qb (.lst (aq r2))) qb=some (.lst (aq r2)):=ae
  generalize upd Ha qb (.lst (aq r2))=Hb at sb hqb ⊢
  refine⟨by show 2≤sizeLine;lia,fun qh nqh=>?_⟩
  have sc:ao Hb (upd Hb qh (.lst [.ref qa,.ref qb])):=af nqh
  have hqh:(upd Hb qh (.lst [.ref qa,.ref qb])) qh=some (.lst [.ref qa,.ref qb]):=ae
  have hqa:=sc _ _ (sb _ _ hqa)
  have hqb:=sc _ _ hqb
  have s0:=sa.trans (sb.trans sc)
  generalize upd Hb qh (.lst [.ref qa,.ref qb])=Hc at hqh hqa hqb s0 ⊢
  clear sa sb sc nqa nqb nqh
  refine⟨_,rfl,_,rfl,qh,_,0,_,rfl,rfl,aI.of hqh,aE (j:=0) rfl,_,rfl,qh,_,1,_,rfl,rfl,aI.of hqh,aE (j:=1) rfl,n,qa,qb,x1,x2,ms1,ms2,st1,st2,r1,r2,rfl,s0.seq hn,N1.same s0,N2.same s0,hqa,hqb,lr1,lr2,.apart PO.ap PO.ok fun H1 t w v s1 nt ht hT=>?_⟩
  refine⟨t,_,rfl,cg.of ht,rfl,_,_,rfl,_,_,rfl,rfl,?_⟩
  have s01:=s0.trans s1
  refine⟨_,rfl,_,rfl,_,rfl,by show 2≤sizeLine;lia,fun ql nql=>?_⟩
  have s2:ao H1 (upd H1 ql (.lst [.ref a,.ref b])):=af nql
  have hql:(upd H1 ql (.lst [.ref a,.ref b])) ql=some (.lst [.ref a,.ref b]):=ae
  generalize upd H1 ql (.lst [.ref a,.ref b])=H2 at s2 hql ⊢
  have s02:=s01.trans s2
  have s12:=s1.trans s2
  refine⟨qh,ql,_,_,rfl,rfl,hu2,aI.of (s12 _ _ hqh),aI.of hql,.cons ⟨qa,a,r1,rfl,rfl,aI.of (s12 _ _ hqa),aI.of (s02 _ _ ha)⟩ (.cons ⟨qb,b,r2,rfl,rfl,aI.of (s12 _ _ hqb),aI.of (s02 _ _ hb)⟩ .nil),_,rfl,bS ?_⟩
  have hT:=hT.same s2
  clear s12 hqa hqb
  refine⟨_,rfl,_,rfl,_,rfl,by show 2≤sizeLine;lia,fun qr nqr=>?_⟩
  have s3:ao H2 (upd H2 qr (.lst [.ref a,.ref b])):=af nqr
  have hqr:(upd H2 qr (.lst [.ref a,.ref b])) qr=some (.lst [.ref a,.ref b]):=ae
  have hT:=hT.same s3
  have s03:=s02.trans s3
  generalize upd H2 qr (.lst [.ref a,.ref b])=H3 at s3 hqr hT s03 ⊢
  clear s01 s02 s1 s2 s3 hql nql nqr nt ht
  refine⟨pp,qr,rfl,⟨_,s03.seq hp⟩,⟨_,aI.of hqr⟩,uL (K:=K) (a:=pp) (c:=qr) (xs:=[.ref p1,.ref p2]) (ys:=[.ref a,.ref b]) (Nat.le_refl _) (EH H3 n pp a b qh w v ms1 ms2 st1 st2 r1 r2)
   ⟨none,none,none,rfl,ao.refl _,fun z=>absurd z (by lia),fun z=>absurd z (by lia)⟩ (fun i σ H4 _ h=>⟨(s03.trans h.same).seq hp,aI.of (h.same _ _ hqr)⟩) ?_ ?_⟩
  ·rintro i vx vy pr σ H4 hx hy ⟨v7,v8,v9,rfl,s4,m1,m2⟩ npr
   obtain⟨px,ax,ms,st,r,rfl,rfl,PX,SX,hax,lr,hT',hon⟩:∃ (px ax:Addr) (ms:List Mv) (st r:List Str),vx=.ref px∧vy=.ref ax∧cF H4 px ms st∧Sound ms st∧H4 ax=some (.lst (aq r))∧r.length≤60∧((bc ms (aw st) r).2≠"may"→w=wd (bc ms (aw st) r).2∧v=.int (((bc ms (aw st) r).1.length-1:Nat):Int))∧((bc ms (aw st) r).2="may"→(1≤i+1→(bc ms1 (aw st1) r1).2="may")∧(2≤i+1→(bc ms2 (aw st2) r2).2="may")):=by
    have i01:i=0∨i=1:=by
     have:=(List.getElem?_eq_some_iff.mp hx).1
     have:i<2:=this
     lia
    rcases i01 with rfl | rfl
    ·cases hx
     cases hy
     refine⟨p1,a,ms1,st1,r1,rfl,rfl,P1.same (s03.trans s4),PO.s1,(s03.trans s4) _ _ ha,lr1,fun h=>?_,fun h=>⟨fun _=>h,fun z=>absurd z (by lia)⟩⟩
     cases hT with
     | one _=>exact⟨rfl,rfl⟩
     | two h1 _=>exact absurd h1 h
     | non h1 _ _=>exact absurd h1 h
     | row _ _ h1 _ _ _ _=>exact absurd h1 h
    ·cases hx
     cases hy
     have m1:=m1 (Nat.le_refl _)
     refine⟨p2,b,ms2,st2,r2,rfl,rfl,P2.same (s03.trans s4),PO.s2,(s03.trans s4) _ _ hb,lr2,fun h=>?_,fun h=>⟨fun _=>m1,fun _=>h⟩⟩
     cases hT with
     | one h1=>exact absurd m1 h1
     | two _ _=>exact⟨rfl,rfl⟩
     | non _ h1 _=>exact absurd h1 h
     | row _ _ _ h1 _ _ _=>exact absurd h1 h
   have s5:ao H4 (upd H4 pr (.tup [.ref px,.ref ax])):=af npr
   refine⟨pr,_,rfl,cg.of ae,rfl,_,_,rfl,_,_,rfl,rfl,?_⟩
   generalize upd H4 pr (.tup [.ref px,.ref ax])=H5 at s5 ⊢
   refine⟨_,rfl,_,rfl,px,ax,ms,st,r,rfl,PX.same s5,SX,aI.of (s5 _ _ hax),lr,fun hm H6 s6=>?_,fun hm H6 t s6 nt ht=>?_⟩
   ·refine⟨_,rfl,rfl,_,rfl,bS ?_⟩
    exact⟨_,_,_,rfl,s4.trans (s5.trans s6),(hon hm).1,(hon hm).2⟩
   ·refine⟨_,rfl,rfl,_,rfl,cG ?_⟩
    obtain⟨ew,ev⟩:=hT' hm
    subst ew ev
    refine⟨_,rfl,_,rfl,by show 2≤sizeLine;lia,fun tq ntq=>?_⟩
    have s7:ao H6 _:=af (o:=.tup [.str (wd (bc ms (aw st) r).2),.int (((bc ms (aw st) r).1.length-1:Nat):Int)]) ntq
    exact⟨_,rfl,tq,t,_,rfl,rfl,hu0,cg.of ae,cg.of (s7 _ _ ht),rfl,kk _ (s03.trans (s4.trans (s5.trans (s6.trans s7))))⟩
  ·rintro σ H4 ⟨v7,v8,v9,rfl,s4,m1,m2⟩
   have m1:=m1 (by show 1≤2;lia)
   have m2:=m2 (by show 2≤2;lia)
   have a1:=iE PO.s1 m1
   have a2:=iE PO.s2 m2
   have s04:=s03.trans s4
   have hT:=hT.same s4
   obtain⟨d1,l1,hp1,md1,hl1⟩:=P1
   obtain⟨d2,l2,hp2,md2,hl2⟩:=P2
   obtain⟨o1,kvs,hd1,mp1⟩:=id md1
   have lk:kvs.length=ms1.length:=(Paired.length mp1).symm
   have lm:=PO.s1.ml
   have lc:∀ k,(lp (ms1.take k) ms2).length≤12:=fun k=>by
    have:=List.length_filter_le (fun x=>decide (x∈names ms2)) (names (ms1.take k))
    unfold names at this
    rw [List.length_map,List.length_take] at this
    unfold lp names
    lia
   refine⟨_,rfl,pp,_,0,_,rfl,rfl,s04.seq hp,aE (j:=0) rfl,p1,_,0,_,rfl,rfl,cg.of (s04 _ _ hp1),aE (j:=0) rfl,d1,o1,kvs,rfl,s04 _ _ hd1,fun z D hD=>ki (a:=d1) (o:=o1) (kvs:=kvs) (fun i ys H5=>ys=aq (lp (ms1.take i) ms2)∧H5 D=some (.lst ys)∧ao H4 H5) ⟨rfl,ae,af hD⟩ (fun i ys H5 _ p=>(s04.trans p.2.2) _ _ hd1) ?_ ?_⟩
   ·rintro i k vk ys H5 hk ⟨rfl,hys,s5⟩
    obtain⟨m,hm,ek,_⟩:=cA mp1 hk
    have ek:k=Sum.inr m.1:=ek
    subst ek
    have s05:=s04.trans s5
    obtain⟨vo,dg,hvo⟩:=(md2.same s05).CD m.1
    refine⟨_,rfl,_,rfl,pp,_,1,_,rfl,rfl,s05.seq hp,aE (j:=1) rfl,p2,_,0,_,rfl,rfl,cg.of (s05 _ _ hp2),aE (j:=0) rfl,d2,vo,rfl,dg,_,rfl,?_⟩
    rw [hvo]
    have hlen:(aq (lp (ms1.take i) ms2)).length<sizeLine:=by
     rw [ah]
     have:=lc i
     lia
    have e1:lp (ms1.take (i+1)) ms2=lp (ms1.take i) ms2++(if m.1∈names ms2 then [m.1] else []):=by
     unfold lp names
     rw [av hm,List.map_append,List.filter_append]
     congr 1
     by_cases h:m.1∈ms2.map (·.1) <;> simp [h]
    by_cases hc:m.1∈names ms2
    ·rw [decide_eq_true hc]
     refine cG ⟨_,rfl,hys,hlen,?_,ae,aD s5 hD⟩
     rw [e1,if_pos hc]
     exact cB _ _
    ·rw [decide_eq_false hc]
     refine bS ⟨?_,hys,s5⟩
     rw [e1,if_neg hc,List.append_nil]
   rintro ys H5 ⟨rfl,hcm,s5⟩
   rw [lk,List.take_length] at hcm
   have hcm:H5 D=some (.lst (aq (lp ms1 ms2))):=hcm
   have s05:=s04.trans s5
   have hT:=hT.same s5
   generalize D=qc at hcm
   clear hD lc
   refine⟨_,rfl,a,rfl,⟨_,aI.of (s05 _ _ ha)⟩,fun z D1 hD1=>br (a:=a) (xs:=aq r1) (fun i ys H6=>ys=aq ((r1.take i).filter fun x=>decide (x∈lp ms1 ms2))∧H6 D1=some (.lst ys)∧ao H5 H6) ⟨rfl,ae,af hD1⟩ (fun i ys H6 _ p=>aI.of ((s05.trans p.2.2) _ _ ha)) ?_ ?_⟩
   ·rintro i vv ys H6 hi ⟨rfl,hys,s6⟩
    obtain⟨x,hx,rfl⟩:=bQ hi
    refine⟨_,rfl,_,rfl,qc,aq (lp ms1 ms2),rfl,.inl (aI.of (s6 _ _ hcm)),rfl,bN _,_,rfl,?_⟩
    show if w9 (V.str x) (aq (lp ms1 ms2))=true then _ else _
    rw [cW]
    have hlen:(aq ((r1.take i).filter fun x=>decide (x∈lp ms1 ms2))).length<sizeLine:=by
     rw [ah]
     have:=List.length_filter_le (fun x=>decide (x∈lp ms1 ms2)) (r1.take i)
     rw [List.length_take] at this
     lia
    cases c1:decide (x∈lp ms1 ms2) with
    | false =>
     refine bS ⟨?_,hys,s6⟩
     rw [av hx,List.filter_append]
     simp [c1]
    | true =>
     refine cG ⟨_,rfl,hys,hlen,?_,ae,aD s6 hD1⟩
     rw [av hx,List.filter_append]
     unfold aq
     simp [c1]
   rintro ys H6 ⟨rfl,hq1,s6⟩
   rw [ah,List.take_length,BN a1] at hq1
   have s06:=s05.trans s6
   have hT:=hT.same s6
   generalize D1=qd1 at hq1
   clear hD1
   refine⟨_,rfl,b,rfl,⟨_,aI.of (s06 _ _ hb)⟩,fun z D1 hD1=>br (a:=b) (xs:=aq r2) (fun i ys H7=>ys=aq ((r2.take i).filter fun x=>decide (x∈lp ms1 ms2))∧H7 D1=some (.lst ys)∧ao H6 H7) ⟨rfl,ae,af hD1⟩ (fun i ys H7 _ p=>aI.of ((s06.trans p.2.2) _ _ hb)) ?_ ?_⟩
   ·rintro i vv ys H7 hi ⟨rfl,hys,s7⟩
    obtain⟨x,hx,rfl⟩:=bQ hi
    refine⟨_,rfl,_,rfl,qc,aq (lp ms1 ms2),rfl,.inl (aI.of ((s6.trans s7) _ _ hcm)),rfl,bN _,_,rfl,?_⟩
    show if w9 (V.str x) (aq (lp ms1 ms2))=true then _ else _
    rw [cW]
    have hlen:(aq ((r2.take i).filter fun x=>decide (x∈lp ms1 ms2))).length<sizeLine:=by
     rw [ah]
     have:=List.length_filter_le (fun x=>decide (x∈lp ms1 ms2)) (r2.take i)
     rw [List.length_take] at this
     lia
    cases c1:decide (x∈lp ms1 ms2) with
    | false =>
     refine bS ⟨?_,hys,s7⟩
     rw [av hx,List.filter_append]
     simp [c1]
    | true =>
     refine cG ⟨_,rfl,hys,hlen,?_,ae,aD s7 hD1⟩
     rw [av hx,List.filter_append]
     unfold aq
     simp [c1]
   rintro ys H7 ⟨rfl,hq2,s7⟩
   rw [ah,List.take_length,BY a2] at hq2
   have s07:=s06.trans s7
   have hT:=hT.same s7
   generalize D1=qd2 at hq2
   clear hD1
   refine⟨qd1,qd2,_,_,rfl,rfl,hu1,aI.of (s7 _ _ hq1),aI.of hq2,_,rfl,?_⟩
   by_cases hh:bf ms2 r1=bf ms1 r2
   ·rw [decide_eq_true hh]
    refine bS ?_
    obtain⟨fq,row,rfl,rfl,hfq,PR⟩:∃ fq row,w="row"∧v=.ref fq∧H7 fq=some (.lst (aq row))∧tH ms1 ms2 r1 r2 row:=by
     cases hT with
     | one h1=>exact absurd m1 h1
     | two _ h1=>exact absurd m2 h1
     | non _ _ h1=>exact absurd hh h1
     | row q row _ _ _ hq hp=>exact⟨q,row,rfl,rfl,hq,hp⟩
    have lrow:=PR.len
    refine⟨_,rfl,rfl,_,rfl,bS ?_⟩
    refine⟨_,rfl,_, "list",_,true,rfl,i8.lst hfq,(by rfl),_,rfl,bS ?_⟩
    have hl0:tF K (.ref fq) H7 row.length:=.inl ⟨_,aI.of hfq,(ah row).symm⟩
    have hl1:tF K (.ref a) H7 r1.length:=.inl ⟨_,aI.of (s07 _ _ ha),(ah r1).symm⟩
    have hl2:tF K (.ref b) H7 r2.length:=.inl ⟨_,aI.of (s07 _ _ hb),(ah r2).symm⟩
    refine⟨_,rfl,_,row.length,rfl,hl0,_,rfl,_,r1.length,rfl,hl1,_,rfl,_,r2.length,rfl,hl2,_,_,rfl,rfl,_,_,rfl,rfl,_,rfl,?_⟩
    rw [decide_eq_false (show ¬((r1.length:Int)+(r2.length:Int)<(row.length:Int)) by lia)]
    refine bS ?_
    refine⟨_,rfl,fq,rfl,⟨_,aI.of hfq⟩,fun z D hD=>br (a:=fq) (xs:=aq row) (fun i ys H8=>ys=(row.take i).map (fun x=>V.bl true)∧H8 D=some (.lst ys)∧ao H7 H8) ⟨rfl,ae,af hD⟩ (fun i ys H8 _ p=>aI.of (p.2.2 _ _ hfq)) ?_ ?_⟩
    ·rintro i vv ys H8 hi ⟨rfl,hys,s8⟩
     obtain⟨x,hx,rfl⟩:=bQ hi
     have s08:=s07.trans s8
     obtain⟨vo1,dg1,hvo1⟩:=(md1.same s08).CD x
     obtain⟨vo2,dg2,hvo2⟩:=(md2.same s08).CD x
     have own:=PR.own x (List.mem_of_getElem? hx)
     have hlen:((row.take i).map (fun x=>V.bl true)).length<sizeLine:=by
      rw [List.length_map,List.length_take]
      lia
     have enx:((row.take i).map (fun x=>V.bl true))++[V.bl true]=(row.take (i+1)).map (fun x=>V.bl true):=by
      rw [av hx,List.map_append]
      rfl
     refine⟨_,rfl,_,rfl,pp,_,0,_,rfl,rfl,s08.seq hp,aE (j:=0) rfl,p1,_,0,_,rfl,rfl,cg.of (s08 _ _ hp1),aE (j:=0) rfl,d1,vo1,rfl,dg1,_,rfl,?_⟩
     rw [hvo1]
     by_cases hc:x∈names ms1
     ·rw [decide_eq_true hc]
      exact cG ⟨hys,hlen,enx,ae,aD s8 hD⟩
     ·rw [decide_eq_false hc]
      refine bS ⟨_,rfl,_,rfl,pp,_,1,_,rfl,rfl,s08.seq hp,aE (j:=1) rfl,p2,_,0,_,rfl,rfl,cg.of (s08 _ _ hp2),aE (j:=0) rfl,d2,vo2,rfl,dg2,hys,hlen,?_,ae,aD s8 hD⟩
      rw [hvo2,decide_eq_true (own.resolve_left hc)]
      exact enx
    rintro ys H8 ⟨rfl,hys,s8⟩
    rw [ah,List.take_length] at hys
    have s08:=s07.trans s8
    refine⟨D,row.map fun _=>true,rfl,aI.of (by rw [hys,List.map_map];rfl),_,rfl,?_⟩
    have eall:(row.map fun _=>true).all id=true:=by rw [List.all_map];exact List.all_eq_true.mpr fun _ _=>rfl
    rw [eall]
    refine bS ?_
    have hfq8:=s8 _ _ hfq
    refine⟨_,rfl,n,_,0,_,rfl,rfl,s08.seq hn,aE (j:=0) rfl,_,rfl,x1,fq,ms1,st1,row,rfl,N1.same s08,aI.of hfq8,by lia,fun H9 q9 s9 n9 h9=>?_⟩
    have s09:=s08.trans s9
    rw [PR.h1] at h9
    refine⟨_,rfl,q9,a,_,_,rfl,rfl,hu1,aI.of h9,aI.of (s09 _ _ ha),gN (bN _),_,rfl,cG ?_⟩
    refine⟨_,rfl,n,_,1,_,rfl,rfl,s09.seq hn,aE (j:=1) rfl,_,rfl,x2,fq,ms2,st2,row,rfl,N2.same s09,aI.of (s9 _ _ hfq8),by lia,fun H10 q10 s10 n10 h10=>?_⟩
    have s010:=s09.trans s10
    rw [PR.h2] at h10
    exact⟨_,rfl,q10,b,_,_,rfl,rfl,hu1,aI.of h10,aI.of (s010 _ _ hb),gN (bN _),kk _ s010⟩
   ·rw [decide_eq_false hh]
    refine cG ?_
    obtain⟨rfl,rfl⟩:w="row"∧v=.non:=by
     cases hT with
     | one h1=>exact absurd m1 h1
     | two _ h1=>exact absurd m2 h1
     | non _ _ _=>exact⟨rfl,rfl⟩
     | row _ _ _ _ h1 _ _=>exact absurd h1 hh
    refine⟨_,rfl,_,rfl,by show 2≤sizeLine;lia,fun ta nta=>?_⟩
    have s8:ao H7 (upd H7 ta (.tup [.str "row",.non])):=af nta
    have hta:(upd H7 ta (.tup [.str "row",.non])) ta=some (.tup [.str "row",.non]):=ae
    generalize upd H7 ta (.tup [.str "row",.non])=H8 at s8 hta ⊢
    refine⟨by show 2≤sizeLine;lia,fun tb ntb=>?_⟩
    have s9:ao H8 (upd H8 tb (.tup [.str "row",.non])):=af ntb
    exact⟨ta,tb,_,rfl,rfl,hu0,cg.of (s9 _ _ hta),cg.of ae,rfl,kk _ (s07.trans (s8.trans s9))⟩
end
end Uf
end
section
namespace L2
open PySem PySem.Spec PyProof.Rows UfSrt
def rm(H:Hp)(D:Addr):Hp:=fun b=>if b=D then none else H b
theorem eL{H:Hp}{D:Addr}:rm H D D=none:=if_pos rfl
theorem iT{H:Hp}{D b:Addr}(h:b≠D):rm H D b=H b:=if_neg h
theorem kU{H H':Hp}(D:Addr)(s:ao H H'):ao (rm H D) (rm H' D):=fun b o e=>by
 by_cases h:b=D
 ·subst h
  rw [eL] at e
  cases e
 ·rw [iT h] at e ⊢
  exact s b o e
theorem gE(H:Hp)(D:Addr):ao (rm H D) H:=fun b o e=>by
 by_cases h:b=D
 ·subst h
  rw [eL] at e
  cases e
 ·rwa [iT h] at e
theorem i6{H:Hp}{D:Addr}{o:HO}:rm (upd H D o) D=rm H D:=by
 funext b
 by_cases h:b=D
 ·subst h
  rw [eL,eL]
 ·rw [iT h,iT h,ar h]
theorem gX{H:Hp}{D b:Addr}{o:HO}(e:H b=some o)(h:b≠D):rm H D b=some o:=by rw [iT h];exact e
theorem ph{H:Hp}{D:Addr}(h:H D=none):rm H D=H:=by
 funext b
 by_cases e:b=D
 ·subst e
  rw [eL,h]
 ·rw [iT e]
theorem sM{H:Hp}{D b:Addr}{o:HO}(h:b≠D):rm (upd H b o) D=upd (rm H D) b o:=by
 funext c
 by_cases e:c=D
 ·subst e
  rw [eL,ar (Ne.symm h),eL]
 ·rw [iT e]
  by_cases e2:c=b
  ·subst e2
   rw [ae,ae]
  ·rw [ar e2,ar e2,iT e]
def pf(sp:Sp):Sp:=fun vs H Q E=>∃ D ys,H D=some (.lst ys)∧sp vs (rm H D) (fun v H'=>H' D=none→Q v (upd H' D (.lst ys))) E
theorem aH.frame{P:Program}{w:World}{K:PySem.W.Frag}{mg:Str→Option Value}{base:Heap}{k:Nat}{f:Addr}{fd:FuncData}{ps:List Str}{sp:Sp}(F:aH P w K mg base (fun _ _ _ _ _ _=>False) k f fd ps sp) :
  aH P w K mg base (fun _ _ _ _ _ _=>False) k f fd ps (pf sp):=by
 refine⟨fun vs H Q E ⟨D,ys,hD,h⟩=>F.len vs _ _ E h,fun A outer s H args us vs Q E hr he hb hv ⟨D,ys,hD,h⟩=>?_⟩
 have nD:∀ {b:Addr} {o:HO},H b=some o→(∀ xs,o≠.lst xs)→rm H D b=some o:=fun {b o} e n=>gX e fun z=>by
  subst z
  rw [hD] at e
  cases e
  exact n _ rfl
 have e0:sg P w K mg base A outer s (rm H D):=by
  refine⟨he.frames,he.mod,fun b o e=>⟨(he.bs b o e).1,?_⟩,he.bsz,he.hV,fun b hb=>?_,fun b o e=>?_,he.bare⟩
  ·unfold rm
   split
   ·rfl
   ·exact(he.bs b o e).2
  ·unfold rm
   split
   ·rfl
   ·exact he.frf b hb
  ·exact(he.hok b o (gE H D _ _ e)).iy (fun c u _ q=>q) (fun c q=>nD q (fun _ z=>nomatch z)) fun c xs q=>nD q (fun _ z=>nomatch z)
 refine codeAny_mono (F.run A outer s (rm H D) args us vs _ E hr e0 hb hv h) fun r s' hq=>?_
 cases r with
 | error e=>exact hq
 | ok fl =>
  cases fl with
  | next=>exact hq
  | brk=>exact hq
  | cont=>exact hq
  | ret u =>
   obtain⟨v,H',os,bare,un,hok,rv,q⟩:=hq
   obtain⟨z,its,n,rr,e⟩:=he.hok D _ hD
   have nf:D∉hU outer:=fun z=>by have:=he.frf D z;rw [hD] at this;cases this
   have fD:H' D=none:=un.free D _ e eL (by simp)
   have kD:=un.keep D _ e eL nf (by simp)
   have ne:∀ {b:Addr},H b=none→b≠D:=fun {b} e z=>by rw [z,hD] at e;cases e
   have n0:∀ {b:Addr},H b=none→rm H D b=none:=fun {b} e=>by rw [iT (ne e)];exact e
   have nb:∀ {b:Addr} {o:HO},H' b=some o→b≠D:=fun {b o} e z=>by rw [z,fD] at e;cases e
   refine⟨v,upd H' D (.lst ys),os,bare,⟨fun b o q n=>un.keep b o q (n0 n),fun b o q n=>un.slot b o q (n0 n),fun b o q n x=>?_,un.there,fun b xs q=>?_,fun b o u q=>?_,fun b ps q=>?_⟩,fun b o q=>?_,rv,q fD⟩
   ·rw [ar (ne n)]
    exact un.free b o q (n0 n) x
   ·have:=un.iK b xs (nD q (fun _ z=>nomatch z))
    rw [ar (nb this)]
    exact this
   ·have:=un.frzs b o u (nD q (fun _ z=>nomatch z))
    rw [ar (nb this)]
    exact this
   ·obtain⟨more,this⟩:=un.tbls b ps (nD q (fun _ z=>nomatch z))
    exact⟨more,by rw [ar (nb this)];exact this⟩
   ·by_cases hb:b=D
    ·subst hb
     rw [ae] at q
     cases q
     exact⟨z,its,n,rr,kD⟩
    ·rw [ar hb] at q
     exact(hok b o q).iy (fun c u _ q=>q) (fun c q=>by rw [ar (nb q)];exact q) fun c xs q=>by rw [ar (nb q)];exact q
end L2
namespace Uf
open PySem L2 UfSrt UfFin
abbrev ig:Stmt:=top 52
section
variable {P:Program}{w:World}{K:PySem.W.Frag}{mg:Str→Option Value}{base:Heap}
def uF(K:PySem.W.Frag):Sp:=fun vs H Q _=>∃ (c:Int) (a:Addr) (M:List Str),vs=[.int c,.ref a]∧aI K H a (aq M)∧M.length≤12∧∀ H' q (r:List Str),ao H H'→H q=none→H' q=some (.lst (aq r))→r.length≤12→Q (.ref q) H'
theorem kY:aU ["_law_cell", "_law_moves", "_law_left", "_law_found"] ["_law_cell", "_law_moves"] (ai ig):=⟨rfl,rfl,rfl,by decide +kernel,rfl,by decide +kernel,by decide +kernel⟩
theorem C4{j n:Nat}(h:j<n):seqIndex? (j:Int) n=some j:=by
 have h0:¬((j:Int)<0):=by lia
 have h1:(decide ((0:Int)≤(j:Int))&&decide ((j:Int)<(n:Int)))=true:=by
  rw [decide_eq_true (show(0:Int)≤(j:Int) by lia),decide_eq_true (show(j:Int)<(n:Int) by lia)]
  rfl
 unfold seqIndex?
 simp only [h0,if_false]
 rw [if_pos h1,Int.toNat_natCast]
theorem vU(L:List Str)(j:Nat):(aq L).eraseIdx j=aq (L.eraseIdx j):=by
 unfold aq
 rw [List.eraseIdx_eq_take_drop_succ,List.eraseIdx_eq_take_drop_succ,List.map_append,List.map_take,List.map_drop]
inductive OrI(H:Hp)(a l q:Addr)(k:Nat)(m:Nat)(σ:St)(H2:Hp):Prop
 | mk (c:Int) (L R:List Str) (q0:σ=[some (.int c),some (.ref a),some (.ref l),some (.ref q)]) (q1:ao H H2) (q2:H2 l=some (.lst (aq L))) (q3:H2 q=some (.lst (aq R))) (q4:L.length+R.length≤k) (q5:m=L.length)
theorem yi{f:Addr}{fd:FuncData}(F:dW K "_law_order" "_law_order" ig f fd)(T:Txt K mg):aH P w K mg base bX 1 f fd ["_law_cell", "_law_moves"] (uF K):=by
 refine F.ok kY (fun vs H Q E h=>?_) (fun cdv A outer s H vs Q E hr h=>?_)
 ·obtain⟨c,a,M,rfl,_⟩:=h
  rfl
 ·obtain⟨c,a,M,rfl,ha,lM,kk⟩:=h
  have hsl:=PySem.sizeLine_eq
  have hu0:_<cLine:=hr.mH
  refine⟨_,aj (aN (i:=2) kY.nd rfl (Or.inl rfl) (ba bu rfl T.lst cY (aa (pv 1) ag)))
   (aj (aN (i:=3) kY.nd rfl (Or.inl rfl) (bj ag))
   (aj (yl PassesOwn.never (bb ne_nil (pv 2) (bj ag) (bw _))
    (aj (cD (gy PySem.F.plainAttrs_list PySem.F.slot_list_append PySem.F.type_list_append dk (pv 3) (aa (gy PySem.F.plainAttrs_list PySem.F.slot_list_pop PySem.F.type_list_pop yC (pv 2) (aa (aB bF (pv 0) (aF bG rfl T.len dB (aa (pv 2) ag))) ag)) ag)))
    (au (aN (i:=0) kY.nd rfl (Or.inl rfl) (aB bE (pv 0) ak)))))
   (au (aK (pv 3))))),?_⟩
  refine⟨_,rfl,a,_,rfl,.inl ha,fun l nl=>?_⟩
  have s1:ao H (upd H l (.lst (aq M))):=af nl
  have hl:(upd H l (.lst (aq M))) l=some (.lst (aq M)):=ae
  generalize upd H l (.lst (aq M))=H1 at s1 hl ⊢
  refine⟨Nat.zero_le _,fun q nq=>?_⟩
  have s2:ao H1 (upd H1 q (.lst [])):=af nq
  have hq:(upd H1 q (.lst [])) q=some (.lst (aq [])):=ae
  have nlq:l≠q:=ay hl nq
  have nq0:H q=none:=s1.free nq
  have hl2:=s2 _ _ hl
  have s02:=s1.trans s2
  generalize upd H1 q (.lst [])=H2 at s2 hq hl2 s02 ⊢
  refine⟨OrI H a l q 12,⟨_,c,M,[],rfl,s02,hl2,hq,by simpa using lM,rfl⟩,?_⟩
  rintro m σ H3 ⟨c,L,R,rfl,s3,hl3,hq3,hlen,rfl⟩
  refine⟨_,rfl,Nat.zero_le _,fun e ne=>?_⟩
  have s4:ao H3 (upd H3 e (.lst [])):=af ne
  refine⟨l,e,_,rfl,rfl,hu0,aI.of (s4 _ _ hl3),aI.of ae,_,rfl,?_⟩
  have s04:=s3.trans s4
  have hl4:=s4 _ _ hl3
  have hq4:=s4 _ _ hq3
  generalize upd H3 e (.lst [])=H4 at s4 s04 hl4 hq4 ⊢
  by_cases hS:L=[]
  ·subst hS
   exact bS ⟨_,rfl,kk _ q R s04 nq0 hq4 (by simpa using hlen)⟩
  ·have pS:=List.length_pos_iff.mpr hS
   have e1:(!(aq L).isEmpty)=true:=by
    cases L with
    | nil=>exact absurd rfl hS
    | cons _ _=>rfl
   rw [e1]
   refine cG ⟨fun σ' H'=>∃ m',m'<L.length∧OrI H a l q 12 m' σ' H',fun σ' H' h=>h,?_⟩
   have i0:0≤c % ((L.length:Nat):Int):=Int.emod_nonneg _ (by lia)
   have i1:c % ((L.length:Nat):Int)<((L.length:Nat):Int):=Int.emod_lt_of_pos _ (by lia)
   obtain⟨j,ej⟩:=Int.eq_ofNat_of_zero_le i0
   have jl:j<L.length:=by lia
   have hsi:seqIndex? (c % ((L.length:Nat):Int)) (aq L).length=some j:=by
    rw [ah,ej]
    exact C4 jl
   have hx:L[j]?=some L[j]:=List.getElem?_eq_getElem jl
   generalize L[j]=x at hx
   have le:(L.eraseIdx j).length=L.length-1:=List.length_eraseIdx_of_lt jl
   refine⟨_,rfl,.inl ⟨rfl,_,aI.of hq4⟩,_,rfl,.inl ⟨rfl,_,aI.of hl4⟩,_,rfl,_,rfl,_,L.length,rfl,.inl ⟨_,aI.of hl4,(ah L).symm⟩,_,_,rfl,rfl,(by lia),l,_,_,j,.str x,rfl,rfl,hl4,(by lia),(by lia),hsi,by unfold aq;rw [List.getElem?_map,hx];rfl,?_⟩
   rw [vU]
   have s5:ao H (upd H4 l (.lst (aq (L.eraseIdx j)))):=aD s04 nl
   have hl5:(upd H4 l (.lst (aq (L.eraseIdx j)))) l=some (.lst (aq (L.eraseIdx j))):=ae
   have hq5:(upd H4 l (.lst (aq (L.eraseIdx j)))) q=some (.lst (aq R)):=by rw [ar (Ne.symm nlq)];exact hq4
   generalize upd H4 l (.lst (aq (L.eraseIdx j)))=H5 at s5 hl5 hq5 ⊢
   refine⟨q,_,_,rfl,rfl,hq5,by rw [ah];lia,?_⟩
   rw [cB]
   refine⟨_,rfl,_,_,rfl,rfl,⟨by decide,by decide⟩,(L.eraseIdx j).length,by lia,_,L.eraseIdx j,R++[x],rfl,aD s5 nq0,by rw [ar nlq];exact hl5,ae,by rw [List.length_append,List.length_singleton];lia,rfl⟩
end
end Uf
end
section
namespace Uf
open PySem L2 UfSrt UfFin
abbrev de:Stmt:=top 53
def mO(M S:List Str):List Mv:=List.zipWith (fun m s=>(m,[s],[])) M S
theorem pI{M S:List Str}(h:M.length≤S.length):(mO M S).length=M.length:=by
 unfold mO
 rw [List.length_zipWith]
 lia
theorem iJ:∀ {M S:List Str},M.length≤S.length→names (mO M S)=M
 | [],_,_=>rfl
 | m::M,[],h=>by simp at h
 | m::M,s::S,h=>by
  show m::names (mO M S)=m::M
  rw [iJ (by simpa using h)]
theorem uY:∀ {M S:List Str} {m:Mv},m∈mO M S→∃ s∈S,m.2.1=[s]∧m.2.2=[]
 | [],_,_,h=>by simp [mO] at h
 | _::_,[],_,h=>by simp [mO] at h
 | m::M,s::S,x,h=>by
  rcases List.mem_cons.mp (show x∈(m,[s],[])::mO M S from h) with rfl | h
  ·exact⟨s,List.mem_cons_self,rfl,rfl⟩
  ·obtain⟨s',hs,e⟩:=uY h
   exact⟨s',List.mem_cons_of_mem _ hs,e⟩
theorem zp{M S:List Str}{j:Nat}{m s:Str}(h1:M[j]?=some m)(h2:S[j]?=some s):(mO M S)[j]?=some (m,[s],[]):=by
 unfold mO
 rw [List.getElem?_zipWith,h1,h2]
theorem xT{L M S:List Str}(hl:M.length≤S.length)(hS:∀ x∈S,x∈L)(nS:S.Nodup):t6 L (mO M S) (S.take M.length) (names (mO M S)) :=
 ⟨rfl,fun m hm=>by
  obtain⟨s,hs,e1,e2⟩:=uY hm
  rw [e1,e2]
  exact⟨by simp,fun x hx=>by
   have:x=s:=by simpa using hx
   rw [this]
   exact hS s hs,by simp,by simp,by simp,(fun x hx=>nomatch hx),by simp⟩,nS.sublist (List.take_sublist _ _),fun x hx=>hS x (List.mem_of_mem_take hx)⟩
theorem two_x{Nm M:List Str}(uN:unlike Nm=true)(lN:Nm.length=12)(uM:unlike M=true)(lM:M.length≤4) :
  cZ (Nm.take 6) (Nm.drop 6) (mO M (Nm.take 4)) ((Nm.take 4).take M.length) (mO M ((Nm.drop 6).take 4)) (((Nm.drop 6).take 4).take M.length):=by
 have l1:(Nm.take 4).length=4:=by rw [List.length_take];lia
 have l2:((Nm.drop 6).take 4).length=4:=by rw [List.length_take,List.length_drop];lia
 have nd:=aZ uN
 have h1:M.length≤(Nm.take 4).length:=by lia
 have h2:M.length≤((Nm.drop 6).take 4).length:=by lia
 refine⟨by rw [List.take_append_drop];exact uN,by rw [List.length_take];lia,by rw [List.length_drop];lia,xT h1 (fun x hx=>?_) (nd.sublist (List.take_sublist _ _)),xT h2 (fun x hx=>List.mem_of_mem_take hx) ((nd.sublist (List.drop_sublist _ _)).sublist (List.take_sublist _ _)),
  by rw [iJ h1];exact uM,by rw [iJ h2];exact uM,by rw [pI h1];exact lM,by rw [pI h2];exact lM⟩
 have:Nm.take 4=(Nm.take 6).take 4:=by rw [List.take_take];rfl
 rw [this] at hx
 exact List.mem_of_mem_take hx
section
variable {P:Program}{w:World}{K:PySem.W.Frag}{mg:Str→Option Value}{base:Heap}
def oU(K:PySem.W.Frag):Sp:=fun vs H Q _=>∃ (a:Addr) (ns:List Int),vs=[.ref a]∧aI K H a (ns.map V.int)∧ns.length≤63∧∀ H',ao H H'→Q (.bl true) H'
theorem cH:aU ["_law_script", "_law_naming", "_law_names", "_law_moves", "_law_parts_here", "_law_spots", "_law_rules", "_law_move", "_law_spot", "_law_nets", "_law_first", "_law_second"] ["_law_script"] (ai de):=⟨rfl,rfl,rfl,by decide +kernel,rfl,by decide +kernel,by decide +kernel⟩
inductive CrO(G:Hp)(a qn qm qp:Addr)(c:Int)(M S1 S2:List Str)(i:Nat)(σ:St)(H2:Hp):Prop
 | mk (v5 v6 v7 v8:Option V) (ps:List Addr) (q0:σ=[some (.ref a),some (.int c),some (.ref qn),some (.ref qm),some (.ref qp),v5,v6,v7,v8,none,none,none]) (q1:ao G (rm H2 qp)) (q2:H2 qp=some (.lst (ps.map V.ref))) (q3:ps.length=i)
   (q4:∀ p,ps[0]?=some p→cF (rm H2 qp) p (mO M S1) (S1.take M.length)) (q5:∀ p,ps[1]?=some p→cF (rm H2 qp) p (mO M S2) (S2.take M.length))
inductive CrI(G:Hp)(a qn qm qp qs d:Addr)(c:Int)(L:List V)(ms:List Mv)(j:Nat)(σ:St)(H3:Hp):Prop
 | mk (v7 v8:Option V) (kvs:List (Key × V)) (q0:σ=[some (.ref a),some (.int c),some (.ref qn),some (.ref qm),some (.ref qp),some (.ref qs),some (.ref d),v7,v8,none,none,none]) (q1:ao G (rm H3 qp)) (q2:H3 qp=some (.lst L)) (q3:H3 d=some (.dK kvs)) (q4:MP (rm H3 qp) (ms.take j) kvs)
inductive CrS(H0:Hp)(a qn qm qp x9 qf:Addr)(c:Int)(v5 v6 v7 v8:Option V)(i:Nat)(σ:St)(H2:Hp):Prop
 | mk (v11:Option V) (q0:σ=[some (.ref a),some (.int c),some (.ref qn),some (.ref qm),some (.ref qp),v5,v6,v7,v8,some (.ref x9),some (.ref qf),v11]) (q1:ao H0 H2)
structure iZ(C:Addr)(H:Hp)(D:Addr)(ms1 ms2:List Mv)(st1 st2:List Str)(i:Nat)(xs:List Addr)(H2:Hp):Prop where
 len:xs.length=i
 at':H2 D=some (.lst (xs.map V.ref))
 same:ao H (rm H2 D)
 n1:∀ x,xs[0]?=some x→cj C (rm H2 D) x ms1 st1
 n2:∀ x,xs[1]?=some x→cj C (rm H2 D) x ms2 st2
theorem AZ{C:Addr}{H:Hp}{D:Addr}{ms1 ms2:List Mv}{st1 st2:List Str}(hD:H D=none):iZ C H D ms1 ms2 st1 st2 0 [] (upd H D (.lst [])) :=
 ⟨rfl,ae,by rw [i6,ph hD];exact ao.refl _,fun x h=>by simp at h,fun x h=>by simp at h⟩
theorem iZ.next{C:Addr}{H H2 H':Hp}{D q:Addr}{ms1 ms2:List Mv}{st1 st2:List Str}{i:Nat}{xs:List Addr}(h:iZ C H D ms1 ms2 st1 st2 i xs H2)(hi:i<2)(s:ao (rm H2 D) H')(hD:H' D=none)(N:cj C H' q (if i=0 then ms1 else ms2) (if i=0 then st1 else st2)){u v:List V} :
  iZ C H D ms1 ms2 st1 st2 (i+1) (xs++[q]) (upd (upd H' D (.lst u)) D (.lst ((xs++[q]).map V.ref))):=by
 have e:rm (upd (upd H' D (.lst u)) D (.lst ((xs++[q]).map V.ref))) D=H':=by rw [i6,i6,ph hD]
 have hl:=h.len
 refine⟨by rw [List.length_append,hl];rfl,ae,by rw [e];exact h.same.trans s,fun x hx=>?_,fun x hx=>?_⟩
 ·rw [e]
  have i01:i=0∨i=1:=by lia
  rcases i01 with rfl | rfl
  ·rw [List.getElem?_append_right (by lia),hl] at hx
   have:q=x:=by simpa using hx
   subst this
   exact N
  ·rw [List.getElem?_append_left (by lia)] at hx
   exact(h.n1 x hx).same s
 ·rw [e]
  have i01:i=0∨i=1:=by lia
  rcases i01 with rfl | rfl
  ·rw [List.getElem?_append_right (by lia),hl] at hx
   simp at hx
  ·rw [List.getElem?_append_right (by lia),hl] at hx
   have:q=x:=by simpa using hx
   subst this
   exact N
theorem iZ.all{C:Addr}{H H2:Hp}{D:Addr}{ms1 ms2:List Mv}{st1 st2:List Str}{xs:List Addr}(h:iZ C H D ms1 ms2 st1 st2 2 xs H2):∃ x1 x2,H2 D=some (.lst [.ref x1,.ref x2])∧cj C H2 x1 ms1 st1∧cj C H2 x2 ms2 st2∧ao H H2:=by
 obtain⟨hl,hD,sm,n1,n2⟩:=h
 match xs,hl with
 | [x1,x2],_=>exact⟨x1,x2,hD,(n1 x1 rfl).same (gE _ _),(n2 x2 rfl).same (gE _ _),sm.trans (gE _ _)⟩
theorem tW{f C fC fN fL fO fR:Addr}{fd fdC fdN fdL fdO fdR:FuncData}(F:dW K "_law_crossed" "_law_crossed" de f fd)(T:Txt K mg)(T2:Txt2 mg)(T3:Au mg)
  (DC:Def K mg "_law_cell_at" iN ["_law_script", "_law_k"] fC fdC) (GC:aH P w K mg base bX 1 fC fdC ["_law_script", "_law_k"] (p4 K))
  (DN:Def K mg "_law_name" jG ["_law_cell", "_law_k"] fN fdN) (GN:aH P w K mg base bX 1 fN fdN ["_law_cell", "_law_k"] sJ)
  (DL:Def K mg "_law_net" iS ["_law_part"] fL fdL) (GL:aH P w K mg base bX 7 fL fdL ["_law_part"] (pf (sH K C)))
  (DO:Def K mg "_law_order" ig ["_law_cell", "_law_moves"] fO fdO) (GO:aH P w K mg base bX 1 fO fdO ["_law_cell", "_law_moves"] (uF K))
  (DR:Def K mg "_law_right" dZ ["_law_nets", "_law_parts_here", "_law_first", "_law_second"] fR fdR) (GR:aH P w K mg base (jT P w) 10 fR fdR ["_law_nets", "_law_parts_here", "_law_first", "_law_second"] (pQ K C)) :
  aH P w K mg base (jT P w) 11 f fd ["_law_script"] (oU K):=by
 refine F.zC cH (fun vs H Q E h=>?_) (fun cdv A outer s H vs Q E hr h=>?_)
 ·obtain⟨a,ns,rfl,_⟩:=h
  rfl
 ·obtain⟨a,ns,rfl,ha,hz,kk⟩:=h
  have hsl:=PySem.sizeLine_eq
  have hu:=eI hr
  have hr1:bR 1 _:=hr.mono (by decide)
  have hr7:bR 7 _:=hr.mono (by decide)
  refine⟨_,aj (aN (i:=1) cH.nd rfl (Or.inr rfl) (az GC hr1 rfl DC.mg DC.fn.kp DC.bd .nil aJ (aa (pv 0) (aa ak ag))))
   (aj (dP (j:=2) (N:=["_law_k", "_law_naming"]) (n:=1) (ci:=[1]) rfl cH.nd rfl rfl (cO rfl T2.rng (aa ak ag))
    (g9.of (so:=ai de) (N0:=["_law_script", "_law_naming", "_law_names", "_law_moves", "_law_parts_here", "_law_spots", "_law_rules", "_law_move", "_law_spot", "_law_nets", "_law_first", "_law_second"]) ⟨rfl,by decide +kernel,by decide +kernel,by decide +kernel,rfl,rfl,by decide +kernel,by decide +kernel⟩)
    (fun z=>⟨aA (i:=0) (bV (N:=["_law_k", "_law_naming"]) (by decide +kernel)) rfl (Or.inl rfl),bP,az GN hr1 rfl DN.mg DN.fn.kp DN.bd .nil aJ (aa (pv 1) (aa (pv 0) ag))⟩))
   (aj (dP (j:=3) (N:=["_law_k", "_law_naming"]) (n:=1) (ci:=[1]) rfl cH.nd rfl rfl (cO rfl T2.rng (aa (aB di ak (aB bF (aB bE (az GC hr1 rfl DC.mg DC.fn.kp DC.bd .nil aJ (aa (pv 0) (aa ak ag))) ak) ak)) ag))
    (g9.of (so:=ai de) (N0:=["_law_script", "_law_naming", "_law_names", "_law_moves", "_law_parts_here", "_law_spots", "_law_rules", "_law_move", "_law_spot", "_law_nets", "_law_first", "_law_second"]) ⟨rfl,by decide +kernel,by decide +kernel,by decide +kernel,rfl,rfl,by decide +kernel,by decide +kernel⟩)
    (fun z=>⟨aA (i:=0) (bV (N:=["_law_k", "_law_naming"]) (by decide +kernel)) rfl (Or.inl rfl),bP,az GN hr1 rfl DN.mg DN.fn.kp DN.bd .nil aJ (aa (aB bE (pv 1) ak) (aa (pv 0) ag))⟩))
   (aj (aN (i:=4) cH.nd rfl (Or.inl rfl) (bj ag))
   (aj (dA PassesOwn.leaving rfl (bx (bj (aa (bH ck (pv 2) cL (bK ak)) (aa (bH ck (pv 2) (bK ak) (bK ak)) ag)))) (aA (i:=5) cH.nd rfl (Or.inl rfl))
    (aj (aN (i:=6) cH.nd rfl (Or.inl rfl) ix)
    (aj (dA PassesOwn.leaving rfl (xZ rfl T3.zip (aa (pv 3) (aa (pv 5) ag))) (eB rfl (bh (aA (i:=7) cH.nd rfl (Or.inl rfl)) (bh (aA (i:=8) cH.nd rfl (Or.inl rfl)) dE)))
     (au (iG hu (pv 6) (pv 7) (cz (aa (bj (aa (pv 8) ag)) (aa (bj ag) ag))) rfl)))
    (au (cD (gy PySem.F.plainAttrs_list PySem.F.slot_list_append PySem.F.type_list_append dk (pv 4) (aa (cz (aa (tS (pv 6)) (aa (bH ck (pv 5) cL (bK (aF bG rfl T.len dB (aa (pv 3) ag)))) ag))) ag)))))))
   (aj (dP (j:=9) (N:=["_law_part"]) (n:=1) (ci:=[]) rfl cH.nd rfl rfl (bx (pv 4))
    (g9.of (so:=ai de) (N0:=["_law_script", "_law_naming", "_law_names", "_law_moves", "_law_parts_here", "_law_spots", "_law_rules", "_law_move", "_law_spot", "_law_nets", "_law_first", "_law_second"]) ⟨rfl,by decide +kernel,by decide +kernel,by decide +kernel,rfl,rfl,by decide +kernel,by decide +kernel⟩)
    (fun z=>⟨aA (i:=0) (bV (N:=["_law_part"]) (by decide +kernel)) rfl (Or.inl rfl),bP,az GL hr7 rfl DL.mg DL.fn.kp DL.bd .nil aJ (aa (pv 0) ag)⟩))
   (aj (aN (i:=10) cH.nd rfl (Or.inl rfl) (az GO hr1 rfl DO.mg DO.fn.kp DO.bd .nil aJ (aa (az GC hr1 rfl DC.mg DC.fn.kp DC.bd .nil aJ (aa (pv 0) (aa ak ag))) (aa (pv 3) ag))))
   (aj (dA PassesOwn.leaving rfl (bx (bj (aa (pv 10) (aa (ue rfl rfl T.lst cY rfl T2.rev (aa (pv 10) ag)) (aa (az GO hr1 rfl DO.mg DO.fn.kp DO.bd .nil aJ (aa (az GC hr1 rfl DC.mg DC.fn.kp DC.bd .nil aJ (aa (pv 0) (aa ak ag))) (aa (pv 3) ag))) ag))))) (aA (i:=11) cH.nd rfl (Or.inl rfl))
    (au (bB (cR (cu (az GR hr rfl DR.mg DR.fn.kp DR.bd .nil gY (aa (pv 9) (aa (pv 4) (aa (pv 10) (aa (pv 11) ag))))))) (au (aK fg)) aX)))
   (au (aK fg))))))))),?_⟩
  clear hu
  have cell:∀ {H':Hp},ao H H'→aI K H' a (ns.map V.int):=fun s=>s.seq ha
  refine⟨_,rfl,a,ns,1,rfl,ha,hz,?_⟩
  generalize ns.getD 1 0=c
  refine⟨_,rfl,by decide,by decide,fun z D1 hD1=>cP (lo:=0) (m:=12) (fun j ys H2=>ys=aq (qC c j)∧H2 D1=some (.lst ys)∧ao H H2) ⟨rfl,ae,af hD1⟩ ?_ ?_⟩
  ·rintro j ys H2 hj ⟨rfl,hys,s2⟩
   rw [show(0:Int)+(j:Int)=j from Int.zero_add _]
   refine⟨_,rfl,_,rfl,c,j,rfl,by lia,hys,by rw [ah,fz];lia,?_,ae,aD s2 hD1⟩
   rw [ju,cB]
  rintro ys H1 ⟨rfl,hN,s1⟩
  have uN:=gJ c (n:=12) (by decide)
  have lN:=fz c 12
  have hN:H1 D1=some (.lst (aq (qC c 12))):=hN
  generalize qC c 12=Nm at hN uN lN
  dsimp only [dU]
  refine⟨_,rfl,a,ns,0,rfl,cell s1,hz,_,_,rfl,rfl,⟨by decide,by decide⟩,_,_,rfl,rfl,(by show(0:Int)<3;decide),_,_,rfl,rfl,_,rfl,?_⟩
  have hk:∃ k:Nat,(2+ns.getD 0 0 / 11 % 3).toNat=k∧2≤k∧k≤4:=⟨_,rfl,by lia,by lia⟩
  obtain⟨k,ek,k2,k4⟩:=hk
  refine⟨by lia,by lia,fun z D2 hD2=>cP (lo:=0) (m:=(2+ns.getD 0 0 / 11 % 3).toNat) (fun j ys H2=>ys=aq (qC (c / 4048) j)∧H2 D2=some (.lst ys)∧ao H1 H2) ⟨rfl,ae,af hD2⟩ ?_ ?_⟩
  ·rintro j ys H2 hj ⟨rfl,hys,s2⟩
   rw [ek] at hj
   rw [show(0:Int)+(j:Int)=j from Int.zero_add _]
   refine⟨_,rfl,_,_,rfl,rfl,⟨by decide,by decide⟩,_,rfl,c / 4048,j,rfl,by lia,hys,by rw [ah,fz];lia,?_,ae,aD s2 hD2⟩
   rw [ju,cB]
  rintro ys H2 ⟨rfl,hM,s2⟩
  rw [ek] at hM
  have uM:=gJ (c / 4048) (n:=k) (by lia)
  have lM:=fz (c / 4048) k
  have hM:H2 D2=some (.lst (aq (qC (c / 4048) k))):=hM
  generalize qC (c / 4048) k=M at hM uM lM
  dsimp only [dU]
  have s02:=s1.trans s2
  have hN2:=s2 _ _ hN
  have W:=two_x uN lN uM (by lia)
  have ls1:(Nm.take 4).length=4:=by rw [List.length_take];lia
  have ls2:((Nm.drop 6).take 4).length=4:=by rw [List.length_take,List.length_drop];lia
  refine⟨Nat.zero_le _,fun qp nqp=>?_⟩
  have s3:ao H2 (upd H2 qp (.lst [])):=af nqp
  have hqp:(upd H2 qp (.lst [])) qp=some (.lst []):=ae
  have nqp0:rm (upd H2 qp (.lst [])) qp=H2:=by rw [i6,ph nqp]
  generalize upd H2 qp (.lst [])=H3 at s3 hqp nqp0 ⊢
  refine⟨_,rfl,_,rfl,D1,_,rfl,aI.of (s3 _ _ hN2),fun qs1 nqs1=>?_⟩
  rw [show eD (aq Nm) none (some (4:Int))=aq (Nm.take 4) from j9 Nm 4]
  have s4:ao H3 (upd H3 qs1 (.lst (aq (Nm.take 4)))):=af nqs1
  have hqs1:(upd H3 qs1 (.lst (aq (Nm.take 4)))) qs1=some (.lst (aq (Nm.take 4))):=ae
  have nq1:=ay hqp nqs1
  generalize upd H3 qs1 (.lst (aq (Nm.take 4)))=H4 at s4 hqs1 ⊢
  refine⟨_,rfl,_,rfl,_,rfl,D1,_,rfl,aI.of (s4 _ _ (s3 _ _ hN2)),fun qs2 nqs2=>?_⟩
  rw [show eD (aq Nm) (some (6:Int)) (some (10:Int))=aq ((Nm.drop 6).take 4) from qJ Nm 6 10 (by lia) (by lia)]
  have s5:ao H4 (upd H4 qs2 (.lst (aq ((Nm.drop 6).take 4)))):=af nqs2
  have hqs2:(upd H4 qs2 (.lst (aq ((Nm.drop 6).take 4)))) qs2=some (.lst (aq ((Nm.drop 6).take 4))):=ae
  have nq2:=ay (s4 _ _ hqp) nqs2
  generalize upd H4 qs2 (.lst (aq ((Nm.drop 6).take 4)))=H5 at s5 hqs2 ⊢
  refine⟨by show 2≤sizeLine;lia,fun ql nql=>?_⟩
  have s6:ao H5 (upd H5 ql (.lst [.ref qs1,.ref qs2])):=af nql
  have hql:(upd H5 ql (.lst [.ref qs1,.ref qs2])) ql=some (.lst [.ref qs1,.ref qs2]):=ae
  have nq3:=ay (s5 _ _ (s4 _ _ hqp)) nql
  generalize upd H5 ql (.lst [.ref qs1,.ref qs2])=H6 at s6 hql ⊢
  have s36:=s4.trans (s5.trans s6)
  have hqp6:=s36 _ _ hqp
  have g26:ao H2 (rm H6 qp):=by
   have:=kU qp s36
   rwa [nqp0] at this
  have gs1:rm H6 qp qs1=some (.lst (aq (Nm.take 4))):=gX ((s5.trans s6) _ _ hqs1) (Ne.symm nq1)
  have gs2:rm H6 qp qs2=some (.lst (aq ((Nm.drop 6).take 4))):=gX (s6 _ _ hqs2) (Ne.symm nq2)
  have gl:rm H6 qp ql=some (.lst [.ref qs1,.ref qs2]):=gX hql (Ne.symm nq3)
  have gM:=g26 _ _ hM
  clear s3 s4 s5 s6 s36 hqs1 hqs2 hql nqs1 nqs2 nql nq1 nq2 nq3
  generalize hG:rm H6 qp=G at g26 gs1 gs2 gl gM
  refine⟨ql,rfl,⟨_,aI.of ((hG ▸ gE H6 qp:ao G H6) _ _ gl)⟩,e7 (K:=K) (a:=ql) (xs:=[.ref qs1,.ref qs2]) (CrO G a D1 D2 qp c M (Nm.take 4) ((Nm.drop 6).take 4))
   ⟨none,none,none,none,[],rfl,by rw [hG];exact ao.refl _,hqp6,rfl,fun p h=>by simp at h,fun p h=>by simp at h⟩ (fun i σ H7 _ h=>by
    obtain⟨_,_,_,_,_,_,sm,_⟩:=h
    exact aI.of (gE _ _ _ _ (sm _ _ gl))) ?_ ?_⟩
  ·rintro i v σ H7 hi ⟨v5,v6,v7,v8,ps,rfl,sm,hqp7,lps,hp1,hp2⟩
   have i2:i<2:=(List.getElem?_eq_some_iff.mp hi).1
   obtain⟨qs,S,rfl,gS,lS,hS0,hS1⟩:∃ qs S,v=.ref qs∧G qs=some (.lst (aq S))∧S.length=4∧(i=0→S=Nm.take 4)∧(i=1→S=(Nm.drop 6).take 4):=by
    have i01:i=0∨i=1:=by lia
    rcases i01 with rfl | rfl
    ·cases hi
     exact⟨qs1,_,rfl,gs1,ls1,fun _=>rfl,fun z=>absurd z (by lia)⟩
    ·cases hi
     exact⟨qs2,_,rfl,gs2,ls2,fun z=>absurd z (by lia),fun _=>rfl⟩
   have hMS:M.length≤S.length:=by lia
   intro d nd
   have ndq:qp≠d:=ay hqp7 nd
   have nd7:rm H7 qp d=none:=by rw [iT (Ne.symm ndq)];exact nd
   have e8:rm (upd H7 d (.dK [])) qp=upd (rm H7 qp) d (.dK []):=sM (Ne.symm ndq)
   have s8:ao (rm H7 qp) (rm (upd H7 d (.dK [])) qp):=by rw [e8];exact af nd7
   have hqp8:(upd H7 d (.dK [])) qp=some (.lst (ps.map V.ref)):=by rw [ar ndq];exact hqp7
   have hd8:(upd H7 d (.dK [])) d=some (.dK []):=ae
   generalize upd H7 d (.dK [])=H8 at s8 hqp8 hd8 e8 ⊢
   have look:∀ {H9:Hp} {b:Addr} {o:HO},ao (rm H7 qp) (rm H9 qp)→G b=some o→H9 b=some o:=fun s e=>gE _ _ _ _ (s _ _ (sm _ _ e))
   refine⟨_,rfl,_,rfl,D2,qs,rfl,⟨_,aI.of (look s8 gM)⟩,⟨_,aI.of (look s8 gS)⟩,uL (K:=K) (a:=D2) (c:=qs) (xs:=aq M) (ys:=aq S) (by rw [ah,ah];exact hMS) (CrI (rm H7 qp) a D1 D2 qp qs d c (ps.map V.ref) (mO M S))
    ⟨v7,v8,[],rfl,s8,hqp8,hd8,.nil⟩ (fun j σ H9 _ h=>by
     obtain⟨_,_,_,_,sm9,_⟩:=h
     exact⟨aI.of (look sm9 gM),aI.of (look sm9 gS)⟩) ?_ ?_⟩
   ·rintro j x y pr σ H9 hx hy ⟨u7,u8,kvs,rfl,sm9,hqp9,hd9,mp9⟩ npr
    obtain⟨m,hm,rfl⟩:=bQ hx
    obtain⟨sp,hsp,rfl⟩:=bQ hy
    have jl:j<M.length:=(List.getElem?_eq_some_iff.mp hm).1
    refine⟨pr,_,rfl,cg.of ae,rfl,_,_,rfl,_,_,rfl,rfl,?_⟩
    have s10:ao H9 (upd H9 pr (.tup [.str m,.str sp])):=af npr
    generalize upd H9 pr (.tup [.str m,.str sp])=H10 at s10 ⊢
    refine⟨_,rfl,by show 1≤sizeLine;lia,fun l nl=>?_⟩
    have s11:ao H10 (upd H10 l (.lst [.str sp])):=af nl
    have hl:(upd H10 l (.lst [.str sp])) l=some (.lst (aq [sp])):=ae
    have nlq:=ay (s10 _ _ hqp9) nl
    generalize upd H10 l (.lst [.str sp])=H11 at s11 hl ⊢
    refine⟨Nat.zero_le _,fun g ng=>?_⟩
    have s12:ao H11 (upd H11 g (.lst [])):=af ng
    have hg:(upd H11 g (.lst [])) g=some (.lst (aq [])):=ae
    have ngq:=ay ((s10.trans s11) _ _ hqp9) ng
    have hl:=s12 _ _ hl
    generalize upd H11 g (.lst [])=H12 at s12 hg hl ⊢
    refine⟨by show 2≤sizeLine;lia,fun t nt=>?_⟩
    have s13:ao H12 (upd H12 t (.tup [.ref l,.ref g])):=af nt
    have ht:(upd H12 t (.tup [.ref l,.ref g])) t=some (.tup [.ref l,.ref g]):=ae
    have ntq:=ay ((s10.trans (s11.trans s12)) _ _ hqp9) nt
    have hl:=s13 _ _ hl
    have hg:=s13 _ _ hg
    generalize upd H12 t (.tup [.ref l,.ref g])=H13 at s13 ht hl hg ⊢
    have s913:=s10.trans (s11.trans (s12.trans s13))
    have hd13:=s913 _ _ hd9
    have hqp13:=s913 _ _ hqp9
    have mp13:=mp9.same (kU qp s913)
    have sm13:=sm9.trans (kU qp s913)
    have hnm:m∉names ((mO M S).take j):=by
     unfold names
     rw [List.map_take]
     have:(mO M S).map (·.1)=M:=iJ hMS
     rw [this]
     obtain⟨jj,ej⟩:=List.getElem?_eq_some_iff.mp hm
     have:=lu (aZ uM) (Nat.le_refl j) jl
     rwa [List.getD_eq_getElem?_getD,hm] at this
    have lk:kvs.length<sizeLine:=by
     have:=Paired.length mp13
     rw [List.length_take] at this
     lia
    refine⟨_,rfl,_,rfl,d,_,rfl,nA.k (k:=Sum.inr m) hd13 lk,?_⟩
    rw [jf _ (mp13.none hnm)]
    have e14:rm (upd H13 d (.dK (kvs++[(Sum.inr m,.ref t)]))) qp=upd (rm H13 qp) d (.dK (kvs++[(Sum.inr m,.ref t)])):=sM (Ne.symm ndq)
    have hdr:rm H13 qp d=some (.dK kvs):=gX hd13 (Ne.symm ndq)
    refine⟨_,_,kvs++[(Sum.inr m,.ref t)],rfl,by rw [e14];exact aD sm13 nd7,by rw [ar ndq];exact hqp13,ae,?_⟩
    rw [e14,av (zp hm hsp)]
    have ht':=gX ht (Ne.symm ntq)
    have hl':=gX hl (Ne.symm nlq)
    have hg':=gX hg (Ne.symm ngq)
    exact Paired.snoc (mp13.put hdr) ⟨rfl,t,l,g,rfl,by rw [ar (cv ht' hdr (fun z=>nomatch z))];exact ht',by rw [ar (cv hl' hdr (fun z=>nomatch z))];exact hl',by rw [ar (cv hg' hdr (fun z=>nomatch z))];exact hg'⟩
   ·rintro σ H9 ⟨u7,u8,kvs,rfl,sm9,hqp9,hd9,mp9⟩
    rw [ah,List.take_of_length_le (by rw [pI hMS];exact Nat.le_refl _)] at mp9
    refine⟨_,rfl,.inl ⟨rfl,_,aI.of hqp9⟩,_,rfl,d,kvs,rfl,hd9,fun o=>?_⟩
    have e10:rm (upd H9 d (.frz o (.dK kvs))) qp=upd (rm H9 qp) d (.frz o (.dK kvs)):=sM (Ne.symm ndq)
    have hdr:rm H9 qp d=some (.dK kvs):=gX hd9 (Ne.symm ndq)
    have mp10:MP (rm (upd H9 d (.frz o (.dK kvs))) qp) (mO M S) kvs:=by rw [e10];exact mp9.put hdr
    have sm10:ao (rm H7 qp) (rm (upd H9 d (.frz o (.dK kvs))) qp):=by rw [e10];exact aD sm9 nd7
    have hqp10:(upd H9 d (.frz o (.dK kvs))) qp=some (.lst (ps.map V.ref)):=by rw [ar ndq];exact hqp9
    have hd10:(upd H9 d (.frz o (.dK kvs))) d=some (.frz o (.dK kvs)):=ae
    generalize upd H9 d (.frz o (.dK kvs))=H10 at mp10 sm10 hqp10 hd10 ⊢
    refine⟨_,rfl,_,rfl,_,M.length,rfl,.inl ⟨_,aI.of (look sm10 gM),(ah M).symm⟩,_,rfl,qs,_,rfl,aI.of (look sm10 gS),fun ls nls=>?_⟩
    rw [j9]
    have s11:ao H10 (upd H10 ls (.lst (aq (S.take M.length)))):=af nls
    have hls:(upd H10 ls (.lst (aq (S.take M.length)))) ls=some (.lst (aq (S.take M.length))):=ae
    have nlq:=ay hqp10 nls
    generalize upd H10 ls (.lst (aq (S.take M.length)))=H11 at s11 hls ⊢
    refine⟨by show 2≤sizeLine;lia,fun pt npt=>?_⟩
    have s12:ao H11 (upd H11 pt (.tup [.ref d,.ref ls])):=af npt
    have hpt:(upd H11 pt (.tup [.ref d,.ref ls])) pt=some (.tup [.ref d,.ref ls]):=ae
    have npq:=ay (s11 _ _ hqp10) npt
    generalize upd H11 pt (.tup [.ref d,.ref ls])=H12 at s12 hpt ⊢
    have s1012:=s11.trans s12
    have r1012:=kU qp s1012
    have r712:=sm10.trans r1012
    refine⟨qp,_,_,rfl,rfl,s1012 _ _ hqp10,by rw [List.length_map];lia,?_⟩
    have PN:cF (rm H12 qp) pt (mO M S) (S.take M.length):=⟨d,ls,gX hpt (Ne.symm npq),⟨o,kvs,gX (s1012 _ _ hd10) (Ne.symm ndq),mp10.same r1012⟩,gX (s12 _ _ hls) (Ne.symm nlq)⟩
    refine⟨_,_,_,_,ps++[pt],rfl,by rw [i6];exact sm.trans r712,by rw [ae,List.map_append];rfl,by rw [List.length_append,lps];rfl,fun p hp=>?_,fun p hp=>?_⟩
    ·rw [i6]
     have i01:i=0∨i=1:=by lia
     rcases i01 with e | e
     ·rw [List.getElem?_append_right (by lia),lps,e] at hp
      have:pt=p:=by simpa using hp
      subst this
      rw [hS0 e] at PN
      exact PN
     ·rw [List.getElem?_append_left (by lia)] at hp
      exact(hp1 p hp).same r712
    ·rw [i6]
     have i01:i=0∨i=1:=by lia
     rcases i01 with e | e
     ·rw [List.getElem?_append_right (by lia),lps,e] at hp
      simp at hp
     ·rw [List.getElem?_append_right (by lia),lps,e] at hp
      have:pt=p:=by simpa using hp
      subst this
      rw [hS1 e] at PN
      exact PN
  ·rintro σ H7 ⟨v5,v6,v7,v8,ps,rfl,sm,hqp7,lps,hp1,hp2⟩
   have lps:ps.length=2:=lps
   obtain⟨p1,p2,rfl⟩:∃ p1 p2,ps=[p1,p2]:=by
    match ps,lps with
    | [p1,p2],_=>exact⟨p1,p2,rfl⟩
   have P1:=(hp1 p1 rfl).same (gE H7 qp)
   have P2:=(hp2 p2 rfl).same (gE H7 qp)
   have s7:ao H H7:=s02.trans (g26.trans (sm.trans (gE H7 qp)))
   have hM7:H7 D2=some (.lst (aq M)):=gE _ _ _ _ (sm _ _ gM)
   have hqp7:H7 qp=some (.lst [.ref p1,.ref p2]):=hqp7
   obtain⟨PO,PO'⟩:=W.pair
   clear hp1 hp2 sm gs1 gs2 gl gM g26 hG lps hqp6 nqp0 W
   generalize mO M (Nm.take 4)=ms1 at P1 PO PO'
   generalize mO M ((Nm.drop 6).take 4)=ms2 at P2 PO PO'
   generalize (Nm.take 4).take M.length=st1 at P1 PO PO'
   generalize ((Nm.drop 6).take 4).take M.length=st2 at P2 PO PO'
   refine⟨_,rfl,qp,rfl,⟨_,aI.of hqp7⟩,fun z D hD=>br (a:=qp) (xs:=[.ref p1,.ref p2]) (fun i ys H8=>∃ xs:List Addr,ys=xs.map V.ref∧iZ C H7 D ms1 ms2 st1 st2 i xs H8) ⟨[],rfl,AZ hD⟩ (fun i ys H8 _ p=>by
    obtain⟨xs,_,NI⟩:=p
    exact aI.of (gE _ _ _ _ (NI.same _ _ hqp7))) ?_ ?_⟩
   ·rintro i v ys H8 hi ⟨xs,rfl,NI⟩
    have i2:i<2:=(List.getElem?_eq_some_iff.mp hi).1
    obtain⟨p,rfl,PX,SX⟩:∃ p,v=.ref p∧cF (rm H8 D) p (if i=0 then ms1 else ms2) (if i=0 then st1 else st2)∧Sound (if i=0 then ms1 else ms2) (if i=0 then st1 else st2):=by
     have i01:i=0∨i=1:=by lia
     rcases i01 with rfl | rfl
     ·cases hi
      exact⟨p1,rfl,P1.same NI.same,PO.s1⟩
     ·cases hi
      exact⟨p2,rfl,P2.same NI.same,PO.s2⟩
    refine⟨_,rfl,D,_,NI.at',p,_,_,rfl,PX,uG SX,ly SX,fun H' q s' nq N hD'=>?_⟩
    have nx:=NI.next (u:=xs.map V.ref) (v:=[]) i2 s' hD' N
    rw [List.map_append] at nx
    exact⟨ae,by rw [List.length_map,NI.len];lia,xs++[q],by rw [List.map_append];rfl,nx⟩
   rintro ys H8 ⟨xs,rfl,NI⟩
   have NI:iZ C H7 D ms1 ms2 st1 st2 2 xs H8:=NI
   obtain⟨x1,x2,hD8,N1,N2,s8⟩:=NI.all
   generalize D=qx at hD8
   clear NI hD
   dsimp only [dU]
   have s08:=s7.trans s8
   have hM8:=s8 _ _ hM7
   refine⟨_,rfl,a,ns,2,rfl,cell s08,hz,_,rfl,_,D2,M,rfl,aI.of hM8,by lia,fun H9 qf r s9 nqf hqf lr=>?_⟩
   have s09:=s08.trans s9
   refine⟨_,rfl,_,rfl,qf,_,rfl,aI.of hqf,fun qv nqv=>?_⟩
   have erev:(aq r).reverse=aq r.reverse:=(List.map_reverse ..).symm
   rw [erev]
   have s10:ao H9 (upd H9 qv (.lst (aq r.reverse))):=af nqv
   have hqv:(upd H9 qv (.lst (aq r.reverse))) qv=some (.lst (aq r.reverse)):=ae
   generalize upd H9 qv (.lst (aq r.reverse))=H10 at s10 hqv ⊢
   refine⟨_,rfl,a,ns,3,rfl,cell (s09.trans s10),hz,_,rfl,_,D2,M,rfl,aI.of (s10 _ _ (s9 _ _ hM8)),by lia,fun H11 qo r3 s11 nqo hqo lr3=>?_⟩
   refine⟨by show 3≤sizeLine;lia,fun ql nql=>?_⟩
   have s12:ao H11 (upd H11 ql (.lst [.ref qf,.ref qv,.ref qo])):=af nql
   have hql:(upd H11 ql (.lst [.ref qf,.ref qv,.ref qo])) ql=some (.lst [.ref qf,.ref qv,.ref qo]):=ae
   generalize upd H11 ql (.lst [.ref qf,.ref qv,.ref qo])=H12 at s12 hql ⊢
   have s1012:=s11.trans s12
   have s912:=s10.trans s1012
   have s812:=s9.trans s912
   have hqf:=s912 _ _ hqf
   have hqv:=s1012 _ _ hqv
   have hqo:=s12 _ _ hqo
   have N1:=N1.same s812
   have N2:=N2.same s812
   have P1:=P1.same (s8.trans s812)
   have P2:=P2.same (s8.trans s812)
   have hqx:=s812 _ _ hD8
   have hqp:=(s8.trans s812) _ _ hqp7
   have s012:=s08.trans s812
   clear s10 s11 s12 s1012 s912 s812 hM8 hM7 hD8 hqp7 nqv nqo nql nqf erev
   refine⟨ql,rfl,⟨_,aI.of hql⟩,e7 (K:=K) (a:=ql) (xs:=[.ref qf,.ref qv,.ref qo]) (CrS H12 a D1 D2 qp qx qf c v5 v6 v7 v8)
    ⟨none,rfl,ao.refl _⟩ (fun i σ H13 _ h=>by
     obtain⟨_,_,sm⟩:=h
     exact aI.of (sm _ _ hql)) ?_ ?_⟩
   ·rintro i v σ H13 hi ⟨v11,rfl,s13⟩
    obtain⟨ax,rr,rfl,hax,lrr⟩:∃ ax rr,v=.ref ax∧H12 ax=some (.lst (aq rr))∧rr.length≤60:=by
     have i3:i<3:=(List.getElem?_eq_some_iff.mp hi).1
     have i012:i=0∨i=1∨i=2:=by lia
     rcases i012 with rfl | rfl | rfl
     ·cases hi
      exact⟨qf,r,rfl,hqf,by lia⟩
     ·cases hi
      exact⟨qv,r.reverse,rfl,hqv,by rw [List.length_reverse];lia⟩
     ·cases hi
      exact⟨qo,r3,rfl,hqo,by lia⟩
    refine⟨_,rfl,_,rfl,_,rfl,_,rfl,qx,qp,qf,ax,x1,x2,p1,p2,ms1,ms2,st1,st2,r,rr,rfl,aI.of (s13 _ _ hqx),N1.same s13,N2.same s13,aI.of (s13 _ _ hqp),P1.same s13,P2.same s13,PO,s13 _ _ hqf,s13 _ _ hax,by lia,lrr,fun H14 s14=>⟨_,rfl,bS ?_⟩⟩
    exact⟨_,rfl,s13.trans s14⟩
   ·rintro σ H13 ⟨v11,rfl,s13⟩
    exact kk _ (s012.trans s13)
end
end Uf
end
section
namespace Uf
open PySem L2 UfSrt UfFin
section
variable {P:Program}{w:World}{K:PySem.W.Frag}{mg:Str→Option Value}{base:Heap}
def vm(K:PySem.W.Frag):Sp:=fun vs H Q _=>∃ (a:Addr) (ns:List Int),vs=[.ref a]∧aI K H a (ns.map V.int)∧ns.length≤63∧∀ H',Q (.bl true) H'
theorem jz:aU ["_law_script", "_law_parts_here", "_law_nets", "_law_row_here", "_law_first", "_law_second"] ["_law_script"] (ai jX):=⟨rfl,rfl,rfl,by decide +kernel,rfl,by decide +kernel,by decide +kernel⟩
inductive LwS(H:Hp)(a qt qx rq qf:Addr)(σ:St)(H2:Hp):Prop
 | mk (q:Addr) (r:List Str) (q0:σ=[some (.ref a),some (.ref qt),some (.ref qx),some (.ref rq),some (.ref qf),some (.ref q)]) (q1:ao H H2) (q2:H2 q=some (.lst (aq r))) (q3:r.length≤20)
theorem Bh{f C fCe fX fTw fLN fBo fRw fSp fR fT fP:Addr}{fd fdCe fdX fdTw fdLN fdBo fdRw fdSp fdR fdT fdP:FuncData}(F:dW K "law" "law" jX f fd)(T:Txt K mg)(CT:gG K C)
  (DCe:Def K mg "_law_cell_at" iN ["_law_script", "_law_k"] fCe fdCe) (GCe:aH P w K mg base bX 1 fCe fdCe ["_law_script", "_law_k"] (p4 K))
  (DX:Def K mg "_law_crossed" de ["_law_script"] fX fdX) (GX:aH P w K mg base (jT P w) 11 fX fdX ["_law_script"] (oU K))
  (DTw:Def K mg "_law_two" nE ["_law_script"] fTw fdTw) (GTw:aH P w K mg base bX 4 fTw fdTw ["_law_script"] (A7 K))
  (DLN:Def K mg "_law_net" iS ["_law_part"] fLN fdLN) (GLN:aH P w K mg base bX 7 fLN fdLN ["_law_part"] (pf (sH K C)))
  (DBo:Def K mg "_law_both" km ["_law_one", "_law_other"] fBo fdBo) (GBo:aH P w K mg base bX 1 fBo fdBo ["_law_one", "_law_other"] (xM K))
  (DRw:Def K mg "_law_row" qM ["_law_part", "_law_cells"] fRw fdRw) (GRw:aH P w K mg base bX 3 fRw fdRw ["_law_part", "_law_cells"] (AQ K))
  (DSp:Def K mg "_law_spoiled" eo ["_law_row_here", "_law_part", "_law_cell"] fSp fdSp) (GSp:aH P w K mg base bX 1 fSp fdSp ["_law_row_here", "_law_part", "_law_cell"] (oB K))
  (DR:Def K mg "_law_right" dZ ["_law_nets", "_law_parts_here", "_law_first", "_law_second"] fR fdR) (GR:aH P w K mg base (jT P w) 10 fR fdR ["_law_nets", "_law_parts_here", "_law_first", "_law_second"] (pQ K C))
  (DT:Def K mg "_law_told" jN ["_law_nets", "_law_first", "_law_second"] fT fdT) (GT:aH P w K mg base (jT P w) 9 fT fdT ["_law_nets", "_law_first", "_law_second"] (yA K C))
  (DP:dX K C "places" "Net.places" iR ["self"] fP fdP) (GP:aH P w K mg base bX 1 fP fdP ["self"] (pW C)) :
  aH P w K mg base (jT P w) 12 f fd ["_law_script"] (vm K):=by
 refine F.zC jz (fun vs H Q E h=>?_) (fun cdv A outer s H vs Q E hr h=>?_)
 ·obtain⟨a,ns,rfl,_⟩:=h
  rfl
 ·obtain⟨a,ns,rfl,ha,hz,kk⟩:=h
  have hsl:=PySem.sizeLine_eq
  have hu:=eI hr
  have hu0:_<cLine:=hr.mH
  have hr1:bR 1 _:=hr.mono (by decide)
  have hr3:bR 3 _:=hr.mono (by decide)
  have hr4:bR 4 _:=hr.mono (by decide)
  have hr7:bR 7 _:=hr.mono (by decide)
  have hr9:bR 9 _:=hr.mono (by decide)
  have hr10:bR 10 _:=hr.mono (by decide)
  refine⟨_,aj (bB (cR (cu (az GX hr rfl DX.mg DX.fn.kp DX.bd .nil gY (aa (pv 0) ag)))) (au (aK fg)) aX)
   (aj (aN (i:=1) jz.nd rfl (Or.inr rfl) (az GTw hr4 rfl DTw.mg DTw.fn.kp DTw.bd .nil aJ (aa (pv 0) ag)))
   (aj (dP (j:=2) (N:=["_law_part"]) (n:=1) (ci:=[]) rfl jz.nd rfl rfl (bx (pv 1))
    (g9.of (so:=ai jX) (N0:=["_law_script", "_law_parts_here", "_law_nets", "_law_row_here", "_law_first", "_law_second"]) ⟨rfl,by decide +kernel,by decide +kernel,by decide +kernel,rfl,rfl,by decide +kernel,by decide +kernel⟩)
    (fun z=>⟨aA (i:=0) (bV (N:=["_law_part"]) (by decide +kernel)) rfl (Or.inl rfl),bP,az GLN hr7 rfl DLN.mg DLN.fn.kp DLN.bd .nil aJ (aa (pv 0) ag)⟩))
   (aj (aN (i:=3) jz.nd rfl (Or.inl rfl) (az GRw hr3 rfl DRw.mg DRw.fn.kp DRw.bd .nil aJ (aa (az GBo hr1 rfl DBo.mg DBo.fn.kp DBo.bd .nil aJ (aa (aO aV (pv 1) ak (fun _ _=>rfl)) (aa (aO aV (pv 1) ak (fun _ _=>rfl)) ag))) (aa (bH ck (pv 0) (bK ak) (bK ak)) ag))))
   (aj (dP (j:=4) (N:=["_law_move", "_law_parts_here"]) (n:=1) (ci:=[1]) rfl jz.nd rfl rfl (bx (pv 3))
    (g9.of (so:=ai jX) (N0:=["_law_script", "_law_parts_here", "_law_nets", "_law_row_here", "_law_first", "_law_second"]) ⟨rfl,by decide +kernel,by decide +kernel,by decide +kernel,rfl,rfl,by decide +kernel,by decide +kernel⟩)
    (fun z=>⟨aA (i:=0) (bV (N:=["_law_move", "_law_parts_here"]) (by decide +kernel)) rfl (Or.inl rfl),dH (lX (mW hu (pv 0) (aO bo (aO aV (pv 1) ak (fun _ _=>rfl)) ak (fun _ _=>rfl)))),pv 0⟩))
   (aj (dP (j:=5) (N:=["_law_move", "_law_parts_here"]) (n:=1) (ci:=[1]) rfl jz.nd rfl rfl (bx (pv 3))
    (g9.of (so:=ai jX) (N0:=["_law_script", "_law_parts_here", "_law_nets", "_law_row_here", "_law_first", "_law_second"]) ⟨rfl,by decide +kernel,by decide +kernel,by decide +kernel,rfl,rfl,by decide +kernel,by decide +kernel⟩)
    (fun z=>⟨aA (i:=0) (bV (N:=["_law_move", "_law_parts_here"]) (by decide +kernel)) rfl (Or.inl rfl),dH (lX (mW hu (pv 0) (aO bo (aO aV (pv 1) ak (fun _ _=>rfl)) ak (fun _ _=>rfl)))),pv 0⟩))
   (aj (bB (bb jA (aB bF (aB bE (az GCe hr1 rfl DCe.mg DCe.fn.kp DCe.bd .nil aJ (aa (pv 0) (aa ak ag))) ak) ak) ak (bw _))
    (au (aN (i:=5) jz.nd rfl (Or.inl rfl) (az GRw hr3 rfl DRw.mg DRw.fn.kp DRw.bd .nil aJ (aa (aO aV (pv 1) ak (fun _ _=>rfl)) (aa (bJ (N:=["_law_cell"]) (n:=1) (ci:=[]) rfl (bx (bH ck (pv 0) (bK ak) (bK ak)))
     (g9.of (so:=ai jX) (N0:=["_law_script", "_law_parts_here", "_law_nets", "_law_row_here", "_law_first", "_law_second"]) ⟨rfl,by decide +kernel,by decide +kernel,by decide +kernel,rfl,rfl,by decide +kernel,by decide +kernel⟩)
     (fun z=>⟨aA (i:=0) (bV (N:=["_law_cell"]) (by decide +kernel)) rfl (Or.inl rfl),bP,aB bE (pv 0) ak⟩)) ag))))) aX)
   (aj (aN (i:=4) jz.nd rfl (Or.inl rfl) (az GSp hr1 rfl DSp.mg DSp.fn.kp DSp.bd .nil aJ (aa (pv 4) (aa (aO aV (pv 1) ak (fun _ _=>rfl)) (aa (az GCe hr1 rfl DCe.mg DCe.fn.kp DCe.bd .nil aJ (aa (pv 0) (aa ak ag))) ag)))))
   (aj (aN (i:=5) jz.nd rfl (Or.inl rfl) (az GSp hr1 rfl DSp.mg DSp.fn.kp DSp.bd .nil aJ (aa (pv 5) (aa (aO aV (pv 1) ak (fun _ _=>rfl)) (aa (az GCe hr1 rfl DCe.mg DCe.fn.kp DCe.bd .nil aJ (aa (pv 0) (aa ak ag))) ag)))))
   (aj (bB (PW.pt (pw_or (cR (cu (az GR hr10 rfl DR.mg DR.fn.kp DR.bd .nil gY (aa (pv 2) (aa (pv 1) (aa (pv 4) (aa (pv 5) ag))))))) (pw_or1 (cR (cu (az GR hr10 rfl DR.mg DR.fn.kp DR.bd .nil gY (aa (pv 2) (aa (pv 1) (aa (bj ag) (aa (bj ag) ag)))))))))) (au (aK fg)) aX)
   (aj (bB (cR (cu (az GR hr10 rfl DR.mg DR.fn.kp DR.bd .nil gY (aa (bj (aa (aO aV (pv 2) ak (fun _ _=>rfl)) (aa (aO aV (pv 2) ak (fun _ _=>rfl)) ag))) (aa (bj (aa (aO aV (pv 1) ak (fun _ _=>rfl)) (aa (aO aV (pv 1) ak (fun _ _=>rfl)) ag))) (aa (pv 5) (aa (pv 4) ag))))))) (au (aK fg)) aX)
   (aj (bB (bb eq_nil (bW (aO aV (pv 2) ak (fun _ _=>rfl)) CT.cl DP.mt GP hr1 DP.bd .nil aJ) (bj ag) (bw _)) (au (aK fg)) aX)
   (au (aK (cI qg (az GT hr9 rfl DT.mg DT.fn.kp DT.bd .nil gY (aa (bj (aa (aO aV (pv 2) ak (fun _ _=>rfl)) (aa (aO aV (pv 2) ak (fun _ _=>rfl)) ag))) (aa (bj (aa cJ ag)) (aa (bj ag) ag)))) (cz (aa cJ (aa ak ag))) (bw _))))))))))))))),?_⟩
  clear hu
  have cell:∀ {H':Hp},ao H H'→aI K H' a (ns.map V.int):=fun s=>s.seq ha
  obtain⟨cs,ecs,lcs⟩:∃ cs:List Int,eD (ns.map V.int) (some (3:Int)) (some (17:Int))=cs.map V.int∧cs.length≤14:=by
   refine⟨(ns.drop (HT.je ns.length 0 (some ((3:Nat):Int)))).take (HT.je ns.length ns.length (some ((17:Nat):Int))-HT.je ns.length 0 (some ((3:Nat):Int))),?_,?_⟩
   ·unfold eD
    rw [List.length_map,List.map_take,List.map_drop]
    rfl
   ·rw [List.length_take]
    have e1:HT.je ns.length 0 (some ((3:Nat):Int))=min 3 ns.length:=HT.gU _ _ 3
    have e2:HT.je ns.length ns.length (some ((17:Nat):Int))=min 17 ns.length:=HT.gU _ _ 17
    rw [e1,e2,List.length_drop]
    lia
  refine⟨_,rfl,a,ns,rfl,ha,hz,fun Hx sx=>⟨_,rfl,bS ?_⟩⟩
  refine⟨_,rfl,a,ns,rfl,cell sx,hz,fun H1 qt p1 p2 L1 L2 ms1 st1 ms2 st2 s1 nqt hqt P1 P2 W=>?_⟩
  obtain⟨PO,PO'⟩:=W.pair
  have SB:=W.sB
  have s01:=sx.trans s1
  refine⟨_,rfl,qt,rfl,⟨_,aI.of hqt⟩,fun z D hD=>br (a:=qt) (xs:=[.ref p1,.ref p2]) (fun i ys H8=>∃ xs:List Addr,ys=xs.map V.ref∧iZ C H1 D ms1 ms2 st1 st2 i xs H8) ⟨[],rfl,AZ hD⟩ (fun i ys H8 _ p=>by
   obtain⟨xs,_,NI⟩:=p
   exact aI.of (gE _ _ _ _ (NI.same _ _ hqt))) ?_ ?_⟩
  ·rintro i v ys H8 hi ⟨xs,rfl,NI⟩
   have i2:i<2:=(List.getElem?_eq_some_iff.mp hi).1
   obtain⟨p,rfl,PX,SX⟩:∃ p,v=.ref p∧cF (rm H8 D) p (if i=0 then ms1 else ms2) (if i=0 then st1 else st2)∧Sound (if i=0 then ms1 else ms2) (if i=0 then st1 else st2):=by
    have i01:i=0∨i=1:=by lia
    rcases i01 with rfl | rfl
    ·cases hi
     exact⟨p1,rfl,P1.same NI.same,PO.s1⟩
    ·cases hi
     exact⟨p2,rfl,P2.same NI.same,PO.s2⟩
   refine⟨_,rfl,D,_,NI.at',p,_,_,rfl,PX,uG SX,ly SX,fun H' q s' nq N hD'=>?_⟩
   have nx:=NI.next (u:=xs.map V.ref) (v:=[]) i2 s' hD' N
   rw [List.map_append] at nx
   exact⟨ae,by rw [List.length_map,NI.len];lia,xs++[q],by rw [List.map_append];rfl,nx⟩
  rintro ys H2 ⟨xs,rfl,NI⟩
  have NI:iZ C H1 D ms1 ms2 st1 st2 2 xs H2:=NI
  obtain⟨x1,x2,hqx,N1,N2,s2⟩:=NI.all
  generalize D=qx at hqx
  clear NI hD
  dsimp only [dU]
  have s02:=s01.trans s2
  have hqt:=s2 _ _ hqt
  have P1:=P1.same s2
  have P2:=P2.same s2
  refine⟨_,rfl,qt,_,0,_,rfl,rfl,aI.of hqt,aE (j:=0) rfl,_,rfl,qt,_,1,_,rfl,rfl,aI.of hqt,aE (j:=1) rfl,p1,p2,ms1,ms2,st1,st2,rfl,P1,P2,aZ W.n1,aZ W.n2,W.m1,W.m2,fun m hm=>⟨(W.a1.mv m hm).t4,(W.a1.mv m hm).g4⟩,fun m hm=>⟨(W.a2.mv m hm).t4,(W.a2.mv m hm).g4⟩,by have:=PO.s1.xb;lia,by have:=PO.s2.xb;lia,fun H3 qB s3 nqB PB=>?_⟩
  have s03:=s02.trans s3
  refine⟨_,rfl,_,rfl,_,rfl,a,_,rfl,cell s03,fun qc nqc=>?_⟩
  rw [ecs]
  have s4:ao H3 (upd H3 qc (.lst (cs.map V.int))):=af nqc
  have hqc:(upd H3 qc (.lst (cs.map V.int))) qc=some (.lst (cs.map V.int)):=ae
  generalize upd H3 qc (.lst (cs.map V.int))=H4 at s4 hqc ⊢
  refine⟨qB,qc,_,_,cs,rfl,PB.same s4,SB,aI.of hqc,by lia,fun H5 rq row s5 nrq hrq lrow=>?_⟩
  have s25:=s3.trans (s4.trans s5)
  have s05:=s02.trans s25
  have hqt:=s25 _ _ hqt
  have hqx:=s25 _ _ hqx
  have P1:=P1.same s25
  have P2:=P2.same s25
  have N1:=N1.same s25
  have N2:=N2.same s25
  clear s25 s3 s4 s5 nqc hqc nqB PB nrq
  obtain⟨d1,l1,hp1,md1,hl1⟩:=id P1
  obtain⟨d2,l2,hp2,md2,hl2⟩:=id P2
  refine⟨_,rfl,rq,rfl,⟨_,aI.of hrq⟩,fun z D hD=>br (a:=rq) (xs:=aq row) (fun i ys H6=>ys=aq (bf ms1 (row.take i))∧H6 D=some (.lst ys)∧ao H5 H6) ⟨rfl,ae,af hD⟩ (fun i ys H6 _ p=>aI.of (p.2.2 _ _ hrq)) ?_ ?_⟩
  ·rintro i vv ys H6 hi ⟨rfl,hys,s6⟩
   obtain⟨x,hx,rfl⟩:=bQ hi
   obtain⟨vo,dg,hvo⟩:=(md1.same s6).CD x
   have hlen:(aq (bf ms1 (row.take i))).length<sizeLine:=by
    rw [ah]
    have:=List.length_filter_le (fun x=>decide (x∈names ms1)) (row.take i)
    rw [List.length_take] at this
    unfold bf
    lia
   refine⟨_,rfl,_,rfl,qt,_,0,_,rfl,rfl,aI.of (s6 _ _ hqt),aE (j:=0) rfl,p1,_,0,_,rfl,rfl,cg.of (s6 _ _ hp1),aE (j:=0) rfl,d1,vo,rfl,dg,_,rfl,?_⟩
   rw [hvo]
   unfold bf at hys hlen ⊢
   cases c1:decide (x∈names ms1) with
   | false =>
    refine bS ⟨?_,hys,s6⟩
    rw [av hx,List.filter_append]
    simp [c1]
   | true =>
    refine cG ⟨_,rfl,hys,hlen,?_,ae,aD s6 hD⟩
    rw [av hx,List.filter_append]
    unfold aq
    simp [c1]
  rintro ys H6 ⟨rfl,hqf,s6⟩
  rw [ah,List.take_length] at hqf
  generalize D=qf at hqf
  clear hD
  dsimp only [dU]
  have lf:(bf ms1 row).length≤14:=by
   have:=List.length_filter_le (fun x=>decide (x∈names ms1)) row
   unfold bf
   lia
  generalize bf ms1 row=r1 at hqf lf
  refine⟨_,rfl,rq,rfl,⟨_,aI.of (s6 _ _ hrq)⟩,fun z D hD=>br (a:=rq) (xs:=aq row) (fun i ys H7=>ys=aq (bf ms2 (row.take i))∧H7 D=some (.lst ys)∧ao H6 H7) ⟨rfl,ae,af hD⟩ (fun i ys H7 _ p=>aI.of (p.2.2 _ _ (s6 _ _ hrq))) ?_ ?_⟩
  ·rintro i vv ys H7 hi ⟨rfl,hys,s7⟩
   obtain⟨x,hx,rfl⟩:=bQ hi
   have s57:=s6.trans s7
   obtain⟨vo,dg,hvo⟩:=(md2.same s57).CD x
   have hlen:(aq (bf ms2 (row.take i))).length<sizeLine:=by
    rw [ah]
    have:=List.length_filter_le (fun x=>decide (x∈names ms2)) (row.take i)
    rw [List.length_take] at this
    unfold bf
    lia
   refine⟨_,rfl,_,rfl,qt,_,1,_,rfl,rfl,aI.of (s57 _ _ hqt),aE (j:=1) rfl,p2,_,0,_,rfl,rfl,cg.of (s57 _ _ hp2),aE (j:=0) rfl,d2,vo,rfl,dg,_,rfl,?_⟩
   rw [hvo]
   unfold bf at hys hlen ⊢
   cases c1:decide (x∈names ms2) with
   | false =>
    refine bS ⟨?_,hys,s7⟩
    rw [av hx,List.filter_append]
    simp [c1]
   | true =>
    refine cG ⟨_,rfl,hys,hlen,?_,ae,aD s7 hD⟩
    rw [av hx,List.filter_append]
    unfold aq
    simp [c1]
  rintro ys H7 ⟨rfl,hqs,s7⟩
  rw [ah,List.take_length] at hqs
  generalize D=qs at hqs
  clear hD
  have lf2:(bf ms2 row).length≤14:=by
   have:=List.length_filter_le (fun x=>decide (x∈names ms2)) row
   unfold bf
   lia
  generalize bf ms2 row=r2 at hqs lf2
  have s57:=s6.trans s7
  have s07:=s05.trans s57
  have hqt:=s57 _ _ hqt
  have hqx:=s57 _ _ hqx
  have P1:=P1.same s57
  have P2:=P2.same s57
  have N1:=N1.same s57
  have N2:=N2.same s57
  have hqf:=s7 _ _ hqf
  clear s6 s7 s57 hp1 md1 hl1 hp2 md2 hl2 hrq
  dsimp only [dU]
  refine jP (LwS H7 a qt qx rq qf) ?_ (fun cont=>?_)
  ·rintro σ H8 ⟨q2,r3,rfl,s8,hq2,lr3⟩
   have s08:=s07.trans s8
   refine⟨_,rfl,_,rfl,qt,_,0,_,rfl,rfl,aI.of (s8 _ _ hqt),aE (j:=0) rfl,_,rfl,a,ns,3,rfl,cell s08,hz,qf,p1,ms1,st1,r1,_,rfl,s8 _ _ hqf,P1.same s8,by have:=W.m1;lia,by lia,fun H9 qa ra s9 nqa hqa lra=>?_⟩
   have s89:=s8.trans s9
   refine⟨_,rfl,_,rfl,qt,_,1,_,rfl,rfl,aI.of (s89 _ _ hqt),aE (j:=1) rfl,_,rfl,a,ns,4,rfl,cell (s07.trans s89),hz,q2,p2,ms2,st2,r3,_,rfl,s9 _ _ hq2,P2.same s89,by have:=W.m2;lia,by lia,fun H10 qb rb s10 nqb hqb lrb=>?_⟩
   have s710:=s89.trans s10
   have hqa:=s10 _ _ hqa
   have hqt:=s710 _ _ hqt
   have hqx:=s710 _ _ hqx
   have P1:=P1.same s710
   have P2:=P2.same s710
   have N1:=N1.same s710
   have N2:=N2.same s710
   clear s89 s9 s10 hq2 nqa nqb s8
   refine⟨_,rfl,_,rfl,_,rfl,_,rfl,qx,qt,qa,qb,x1,x2,p1,p2,ms1,ms2,st1,st2,ra,rb,rfl,aI.of hqx,N1,N2,aI.of hqt,P1,P2,PO,hqa,hqb,by lia,by lia,fun H11 s11=>⟨_,rfl,bS ?_⟩⟩
   refine⟨_,rfl,_,rfl,Nat.zero_le _,fun e1 ne1=>?_⟩
   have s12:ao H11 (upd H11 e1 (.lst [])):=af ne1
   have he1:(upd H11 e1 (.lst [])) e1=some (.lst (aq [])):=ae
   generalize upd H11 e1 (.lst [])=H12 at s12 he1 ⊢
   refine⟨Nat.zero_le _,fun e2 ne2=>?_⟩
   have s13:ao H12 (upd H12 e2 (.lst [])):=af ne2
   have he2:(upd H12 e2 (.lst [])) e2=some (.lst (aq [])):=ae
   generalize upd H12 e2 (.lst [])=H13 at s13 he2 ⊢
   have s1013:=s11.trans (s12.trans s13)
   refine⟨qx,qt,e1,e2,x1,x2,p1,p2,ms1,ms2,st1,st2,[],[],rfl,aI.of (s1013 _ _ hqx),N1.same s1013,N2.same s1013,aI.of (s1013 _ _ hqt),P1.same s1013,P2.same s1013,PO,s13 _ _ he1,he2,Nat.zero_le _,Nat.zero_le _,fun H14 s14=>⟨_,rfl,bS ?_⟩⟩
   have s1014:=s1013.trans s14
   refine⟨_,rfl,qx,_,1,_,rfl,rfl,aI.of (s1014 _ _ hqx),aE (j:=1) rfl,_,rfl,qx,_,0,_,rfl,rfl,aI.of (s1014 _ _ hqx),aE (j:=0) rfl,by show 2≤sizeLine;lia,fun f1 nf1=>?_⟩
   have s15:ao H14 (upd H14 f1 (.lst [.ref x2,.ref x1])):=af nf1
   have hf1:(upd H14 f1 (.lst [.ref x2,.ref x1])) f1=some (.lst [.ref x2,.ref x1]):=ae
   generalize upd H14 f1 (.lst [.ref x2,.ref x1])=H15 at s15 hf1 ⊢
   have s1015:=s1014.trans s15
   refine⟨_,rfl,qt,_,1,_,rfl,rfl,aI.of (s1015 _ _ hqt),aE (j:=1) rfl,_,rfl,qt,_,0,_,rfl,rfl,aI.of (s1015 _ _ hqt),aE (j:=0) rfl,by show 2≤sizeLine;lia,fun f2 nf2=>?_⟩
   have s16:ao H15 (upd H15 f2 (.lst [.ref p2,.ref p1])):=af nf2
   have hf2:(upd H15 f2 (.lst [.ref p2,.ref p1])) f2=some (.lst [.ref p2,.ref p1]):=ae
   generalize upd H15 f2 (.lst [.ref p2,.ref p1])=H16 at s16 hf2 ⊢
   have s1016:=s1015.trans s16
   refine⟨_,rfl,_,rfl,f1,f2,qb,qa,x2,x1,p2,p1,ms2,ms1,st2,st1,rb,ra,rfl,aI.of (s16 _ _ hf1),N2.same s1016,N1.same s1016,aI.of hf2,P2.same s1016,P1.same s1016,PO',s1016 _ _ hqb,s1016 _ _ hqa,by lia,by lia,fun H17 s17=>⟨_,rfl,bS ?_⟩⟩
   have s1017:=s1016.trans s17
   obtain⟨dx,_,_,_,_,_,_,h1,_⟩:=(N1.same s1017).at'.ob
   refine⟨_,rfl,qx,_,0,_,rfl,rfl,aI.of (s1017 _ _ hqx),aE (j:=0) rfl,x1,dx,_,rfl,h1,bY _ _ _ _ sv rO rS qH,x1,ms1,st1,rfl,N1.same s1017,fun H18 ap s18 nap hap=>?_⟩
   refine⟨Nat.zero_le _,fun e3 ne3=>?_⟩
   have s19:ao H18 (upd H18 e3 (.lst [])):=af ne3
   refine⟨ap,e3,_,rfl,rfl,hu0,aI.of (s19 _ _ hap),aI.of ae,_,rfl,?_⟩
   generalize upd H18 e3 (.lst [])=H19 at s19 ⊢
   have s1019:=s1017.trans (s18.trans s19)
   cases hpl:bL ms1 st1 with
   | nil=>exact cG (kk H19)
   | cons y ys =>
    refine bS ?_
    refine⟨_,rfl,qx,_,0,_,rfl,rfl,aI.of (s1019 _ _ hqx),aE (j:=0) rfl,_,rfl,qx,_,0,_,rfl,rfl,aI.of (s1019 _ _ hqx),aE (j:=0) rfl,by show 2≤sizeLine;lia,fun g1 ng1=>?_⟩
    have s20:ao H19 (upd H19 g1 (.lst [.ref x1,.ref x1])):=af ng1
    have hg1:(upd H19 g1 (.lst [.ref x1,.ref x1])) g1=some (.lst [.ref x1,.ref x1]):=ae
    generalize upd H19 g1 (.lst [.ref x1,.ref x1])=H20 at s20 hg1 ⊢
    refine⟨by show 1≤sizeLine;lia,fun g2 ng2=>?_⟩
    have s21:ao H20 (upd H20 g2 (.lst [.str "zz"])):=af ng2
    have hg2:(upd H20 g2 (.lst [.str "zz"])) g2=some (.lst (aq [("zz":Str)])):=ae
    generalize upd H20 g2 (.lst [.str "zz"])=H21 at s21 hg2 ⊢
    refine⟨Nat.zero_le _,fun g3 ng3=>?_⟩
    have s22:ao H21 (upd H21 g3 (.lst [])):=af ng3
    have hg3:(upd H21 g3 (.lst [])) g3=some (.lst (aq [])):=ae
    generalize upd H21 g3 (.lst [])=H22 at s22 hg3 ⊢
    have s1022:=s1019.trans (s20.trans (s21.trans s22))
    have hy:y∈bL ms1 st1:=by rw [hpl];exact List.mem_cons_self
    refine⟨g1,g2,g3,x1,x1,ms1,ms1,st1,st1,[("zz":Str)],[],rfl,aI.of ((s21.trans s22) _ _ hg1),N1.same s1022,N1.same s1022,s22 _ _ hg2,hg3,by show 1≤60;lia,Nat.zero_le _,.com y hy hy fun H23 t s23 nt ht=>?_⟩
    refine⟨by show 2≤sizeLine;lia,fun t2 nt2=>?_⟩
    exact⟨t,t2,_,rfl,rfl,hu0,cg.of (af nt2 _ _ ht),cg.of ae,rfl,kk _⟩
  ·-- the second row
   refine⟨_,rfl,a,ns,0,rfl,cell s07,hz,_,_,rfl,rfl,⟨by decide,by decide⟩,_,_,rfl,rfl,(by show(0:Int)<3;decide),rfl,_,rfl,?_⟩
   refine jb (fun _=>?_) (fun _=>cont _ _ ⟨qs,r2,rfl,ao.refl _,hqs,by lia⟩)
   refine⟨_,rfl,qt,_,1,_,rfl,rfl,aI.of hqt,aE (j:=1) rfl,_,rfl,_,rfl,_,rfl,a,_,rfl,cell s07,fun qc nqc=>?_⟩
   rw [ecs]
   have s8:ao H7 (upd H7 qc (.lst (cs.map V.int))):=af nqc
   have hqc:(upd H7 qc (.lst (cs.map V.int))) qc=some (.lst (cs.map V.int)):=ae
   generalize upd H7 qc (.lst (cs.map V.int))=H8 at s8 hqc ⊢
   refine⟨qc,rfl,⟨_,aI.of hqc⟩,fun z D hD=>br (a:=qc) (xs:=cs.map V.int) (fun i ys H9=>ys=((cs.take i).map (fun c:Int=>c / (5:Int))).map V.int∧H9 D=some (.lst ys)∧ao H8 H9) ⟨rfl,ae,af hD⟩ (fun i ys H9 _ p=>aI.of (p.2.2 _ _ hqc)) ?_ ?_⟩
   ·rintro i vv ys H9 hi ⟨rfl,hys,s9⟩
    obtain⟨ce,hce,rfl⟩:=ints_get hi
    refine⟨_,rfl,_,_,rfl,rfl,⟨by decide,by decide⟩,hys,?_,?_,ae,aD s9 hD⟩
    ·rw [List.length_map,List.length_map,List.length_take]
     lia
    ·rw [av hce,List.map_append,List.map_append]
     rfl
   rintro ys H9 ⟨rfl,hys,s9⟩
   rw [List.length_map,List.take_length] at hys
   have s79:=s8.trans s9
   refine⟨p2,D,ms2,st2,cs.map (fun c:Int=>c / (5:Int)),rfl,P2.same s79,PO.s2,aI.of hys,by rw [List.length_map];lia,fun H10 q r s10 nq hq lr=>?_⟩
   rw [List.length_map] at lr
   exact cont _ _ ⟨q,r,rfl,s79.trans s10,hq,by lia⟩
end
end Uf
end
section
namespace Uf
open PySem L2 UfSrt PyProof.Rows
theorem pA{us:List Value}(h:us.length=1):∃ a,us=[a]:=List.length_eq_one_iff.mp h
theorem eF{us:List Value}(h:us.length=2):∃ a b,us=[a,b]:=match us,h with | [a,b],_=>⟨a,b,rfl⟩
theorem rk{us:List Value}(h:us.length=3):∃ a b c,us=[a,b,c]:=match us,h with | [a,b,c],_=>⟨a,b,c,rfl⟩
theorem E7{us:List Value}(h:us.length=5):∃ a b c d e,us=[a,b,c,d,e]:=match us,h with | [a,b,c,d,e],_=>⟨a,b,c,d,e,rfl⟩
theorem Cm{us:List Value}(h:us.length=4):∃ a b c d,us=[a,b,c,d]:=match us,h with | [a,b,c,d],_=>⟨a,b,c,d,rfl⟩
theorem all_mk{l:W.OpenLaw}{w:World}{K:W.Frag}{h:Heap}{mg:Str→Option Value}{fa C CN CH CF CO NN NH NF NO NE NNE:Addr}(X:K.In h)(G:h.Ns mainGlobals mg)(hfa:mg "law"=some (.ref fa))
  {f1 f2 f3 f4 f5 f6 f7 f8 f9 f10 f11 f12 f13 f14 f15 f16 f17 f18 f19 f20 f21 f22 f23 f24 f25 f26 f27 f28 f29 f30 f31 f32 f33 f34 f35 f36 f37 f38 f39 f40 f41 f42 f43 f44 f45 f46 f47:Addr} {od1 an1 od2 an2 od3 an3 od4 an4 od5 an5 od6 an6 od7 an7 od8 an8 od9 an9 od10 an10 od11 an11 od12 an12 od13 an13 od14 an14 od15 an15 od16 an16 od17 an17 od18 an18 od19 an19 od20 an20 od21 an21 od22 an22 od23 an23 od24 an24 od25 an25 od26 an26 od27 an27 od28 an28 od29 an29 od30 an30 od31 an31 od32 an32 od33 an33 od34 an34 od35 an35 od36 an36 od37 an37 od38 an38 od39 an39 od40 an40 od41 an41 od42 an42 od43 an43 od44 an44 od45 an45 od46 an46 od47 an47:Option Addr} {sl1 sl2 sl3 sl4 sl5 sl6 sl7 sl8 sl9 sl10 sl11 sl12 sl13 sl14 sl15 sl16 sl17 sl18 sl19 sl20 sl21 sl22 sl23 sl24 sl25 sl26 sl27 sl28 sl29 sl30 sl31 sl32 sl33 sl34 sl35 sl36 sl37 sl38 sl39 sl40 sl41 sl42 sl43 sl44 sl45 sl46 sl47:Array (Option Value)} {oc1 kV1 dc1 pm1 cd1 ct1 oc2 kV2 dc2 pm2 cd2 ct2 oc3 kV3 dc3 pm3 cd3 ct3 oc4 kV4 dc4 pm4 cd4 ct4 oc5 kV5 dc5 pm5 cd5 ct5 oc6 kV6 dc6 pm6 cd6 ct6 oc7 kV7 dc7 pm7 cd7 ct7 oc8 kV8 dc8 pm8 cd8 ct8 oc9 kV9 dc9 pm9 cd9 ct9 oc10 kV10 dc10 pm10 cd10 ct10 oc11 kV11 dc11 pm11 cd11 ct11 oc12 kV12 dc12 pm12 cd12 ct12 oc13 kV13 dc13 pm13 cd13 ct13 oc14 kV14 dc14 pm14 cd14 ct14 oc15 kV15 dc15 pm15 cd15 ct15 oc16 kV16 dc16 pm16 cd16 ct16 oc17 kV17 dc17 pm17 cd17 ct17 oc18 kV18 dc18 pm18 cd18 ct18 oc19 kV19 dc19 pm19 cd19 ct19 oc20 kV20 dc20 pm20 cd20 ct20 oc21 kV21 dc21 pm21 cd21 ct21 oc22 kV22 dc22 pm22 cd22 ct22 oc23 kV23 dc23 pm23 cd23 ct23 oc24 kV24 dc24 pm24 cd24 ct24 oc25 kV25 dc25 pm25 cd25 ct25 oc26 kV26 dc26 pm26 cd26 ct26 oc27 kV27 dc27 pm27 cd27 ct27 oc28 kV28 dc28 pm28 cd28 ct28 oc29 kV29 dc29 pm29 cd29 ct29 oc30 kV30 dc30 pm30 cd30 ct30 oc31 kV31 dc31 pm31 cd31 ct31 oc32 kV32 dc32 pm32 cd32 ct32 oc33 kV33 dc33 pm33 cd33 ct33 oc34 kV34 dc34 pm34 cd34 ct34 oc35 kV35 dc35 pm35 cd35 ct35 oc36 kV36 dc36 pm36 cd36 ct36 oc37 kV37 dc37 pm37 cd37 ct37 oc38 kV38 dc38 pm38 cd38 ct38 oc39 kV39 dc39 pm39 cd39 ct39 oc40 kV40 dc40 pm40 cd40 ct40 oc41 kV41 dc41 pm41 cd41 ct41 oc42 kV42 dc42 pm42 cd42 ct42 oc43 kV43 dc43 pm43 cd43 ct43 kV44 dc44 pm44 cd44 ct44 kV45 dc45 pm45 cd45 ct45 kV46 dc46 pm46 cd46 ct46 kV47 dc47 pm47 cd47 ct47:Value}
  {tk1 tk2 tk3 tk4 tk5 tk6 tk7:PySem.Tok}
  {cnCN cqCN cnCH cqCH cnCF cqCF cnCO cqCO cnNE cqNE:Str} {basesCN tlCN subsCN basesCH tlCH subsCH basesCF tlCF subsCF basesCO tlCO subsCO basesNE tlNE subsNE:List Value} {hasDCN abCN hasDCH abCH hasDCF abCF hasDCO abCO hasDNE abNE:Bool} {snCN snCH snCF snCO snNE:List Str} {colCN colCH colCF colCO colNE:Option Bool} {cddCN cddCH cddCF cddCO cddNE:Option Addr} {l0CN l1CN l2CN l3CN l5CN l0CH l1CH l2CH l3CH l5CH l0CF l1CF l2CF l3CF l5CF l0CO l1CO l2CO l3CO l5CO l0NE l1NE l2NE l3NE l5NE:Option Value} {nwNE:String}
  (aC:W.nsIn K mainGlobals "Net"=some (some (.ref C)))
  (gCN:W.nsIn K mainGlobals "NoMove"=some (some (.ref CN)))
  (gCH:W.nsIn K mainGlobals "Held"=some (some (.ref CH)))
  (gCF:W.nsIn K mainGlobals "Full"=some (some (.ref CF)))
  (gCO:W.nsIn K mainGlobals "NoNet"=some (some (.ref CO)))
  (gNE:W.nsIn K mainGlobals "NetError"=some (some (.ref NE)))
  (a1:W.nsIn K mainGlobals "is_name"=some (some (.ref f1)))
  (a2:W.nsIn K mainGlobals "are_unlike_names"=some (some (.ref f2)))
  (a3:W.nsIn K mainGlobals "is_move"=some (some (.ref f3)))
  (a4:W.nsIn K mainGlobals "places_of"=some (some (.ref f4)))
  (a5:W.nsIn K mainGlobals "makes_net"=some (some (.ref f5)))
  (a6:W.nsIn K mainGlobals "lacks_bead"=some (some (.ref f6)))
  (a7:W.nsIn K mainGlobals "gives_second"=some (some (.ref f7)))
  (a8:W.nsIn K mainGlobals "state_behind"=some (some (.ref f8)))
  (a9:W.nsIn K mainGlobals "done_at"=some (some (.ref f9)))
  (a10:W.nsIn K mainGlobals "played"=some (some (.ref f10)))
  (a11:W.nsIn K mainGlobals "takes_and_gives"=some (some (.ref f11)))
  (a12:W.nsIn K mainGlobals "move_of_both"=some (some (.ref f12)))
  (a13:W.nsIn K mainGlobals "shaken"=some (some (.ref f13)))
  (a14:W.nsIn K mainGlobals "half"=some (some (.ref f14)))
  (a15:W.nsIn K mainGlobals "poured"=some (some (.ref f15)))
  (a16:W.nsIn K mainGlobals "_law_cell_at"=some (some (.ref f16)))
  (a17:W.nsIn K mainGlobals "_law_name"=some (some (.ref f17)))
  (a18:W.nsIn K mainGlobals "_law_folded"=some (some (.ref f18)))
  (a19:W.nsIn K mainGlobals "_law_step"=some (some (.ref f19)))
  (a20:W.nsIn K mainGlobals "_law_mixed"=some (some (.ref f20)))
  (a21:W.nsIn K mainGlobals "_law_any_step"=some (some (.ref f21)))
  (a22:W.nsIn K mainGlobals "_law_parts"=some (some (.ref f22)))
  (a23:W.nsIn K mainGlobals "_law_two"=some (some (.ref f23)))
  (a24:W.nsIn K mainGlobals "_law_net"=some (some (.ref f24)))
  (a25:W.nsIn K mainGlobals "_law_both"=some (some (.ref f25)))
  (a26:W.nsIn K mainGlobals "_law_refusal"=some (some (.ref f26)))
  (a27:W.nsIn K mainGlobals "_law_open"=some (some (.ref f27)))
  (a28:W.nsIn K mainGlobals "_law_done"=some (some (.ref f28)))
  (a29:W.nsIn K mainGlobals "_law_row"=some (some (.ref f29)))
  (a30:W.nsIn K mainGlobals "_law_spoiled"=some (some (.ref f30)))
  (a31:W.nsIn K mainGlobals "_law_first_bad"=some (some (.ref f31)))
  (a32:W.nsIn K mainGlobals "_law_told"=some (some (.ref f32)))
  (a33:W.nsIn K mainGlobals "_law_right"=some (some (.ref f33)))
  (a34:W.nsIn K mainGlobals "_law_order"=some (some (.ref f34)))
  (a35:W.nsIn K mainGlobals "_law_crossed"=some (some (.ref f35)))
  (a36:W.nsIn K mainGlobals "law"=some (some (.ref f36)))
  (a37:W.findIn K (.ref C) "__init__"=some (some (.ref f37)))
  (i37:W.isFn K (.ref f37)=true)
  (a38:W.findIn K (.ref C) "places"=some (some (.ref f38)))
  (i38:W.isFn K (.ref f38)=true)
  (a39:W.findIn K (.ref C) "moves"=some (some (.ref f39)))
  (i39:W.isFn K (.ref f39)=true)
  (a40:W.findIn K (.ref C) "start"=some (some (.ref f40)))
  (i40:W.isFn K (.ref f40)=true)
  (a41:W.findIn K (.ref C) "must_have"=some (some (.ref f41)))
  (i41:W.isFn K (.ref f41)=true)
  (a42:W.findIn K (.ref C) "takes"=some (some (.ref f42)))
  (i42:W.isFn K (.ref f42)=true)
  (a43:W.findIn K (.ref C) "gives"=some (some (.ref f43)))
  (i43:W.isFn K (.ref f43)=true)
  (oCN:K.lookup CN=some (excClassObj cnCN cqCN CN NN basesCN tlCN hasDCN snCN subsCN abCN colCN cddCN l0CN l1CN l2CN l3CN l5CN "ValueError.__new__"))
  (oCH:K.lookup CH=some (excClassObj cnCH cqCH CH NH basesCH tlCH hasDCH snCH subsCH abCH colCH cddCH l0CH l1CH l2CH l3CH l5CH "ValueError.__new__"))
  (oCF:K.lookup CF=some (excClassObj cnCF cqCF CF NF basesCF tlCF hasDCF snCF subsCF abCF colCF cddCF l0CF l1CF l2CF l3CF l5CF "ValueError.__new__"))
  (oCO:K.lookup CO=some (excClassObj cnCO cqCO CO NO basesCO tlCO hasDCO snCO subsCO abCO colCO cddCO l0CO l1CO l2CO l3CO l5CO "ValueError.__new__"))
  (oNE:K.lookup NE=some (excClassObj cnNE cqNE NE NNE basesNE tlNE hasDNE snNE subsNE abNE colNE cddNE l0NE l1NE l2NE l3NE l5NE nwNE))
  (a44:W.nsIn K NN "__init__"=some (some (.ref f44)))
  (a45:W.nsIn K NH "__init__"=some (some (.ref f45)))
  (a46:W.nsIn K NF "__init__"=some (some (.ref f46)))
  (a47:W.nsIn K NO "__init__"=some (some (.ref f47)))
  (l1:K.lookup f1=some ⟨oc1,od1,.func (W.fnOf "is_name" "is_name" (aR cK) (aM cK) (ai cK) .none kV1 dc1 pm1 an1 cd1 ct1),sl1⟩)
  (c1:W.codeIn K cd1 "is_name"=true)
  (k1:W.keepIn K (.ref f1)=true)
  (l2:K.lookup f2=some ⟨oc2,od2,.func (W.fnOf "are_unlike_names" "are_unlike_names" (aR dF) (aM dF) (ai dF) .none kV2 dc2 pm2 an2 cd2 ct2),sl2⟩)
  (c2:W.codeIn K cd2 "are_unlike_names"=true)
  (k2:W.keepIn K (.ref f2)=true)
  (l3:K.lookup f3=some ⟨oc3,od3,.func (W.fnOf "is_move" "is_move" (aR d7) (aM d7) (ai d7) .none kV3 dc3 pm3 an3 cd3 ct3),sl3⟩)
  (c3:W.codeIn K cd3 "is_move"=true)
  (k3:W.keepIn K (.ref f3)=true)
  (l4:K.lookup f4=some ⟨oc4,od4,.func (W.fnOf "places_of" "places_of" (aR d6) (aM d6) (ai d6) .none kV4 dc4 pm4 an4 cd4 ct4),sl4⟩)
  (c4:W.codeIn K cd4 "places_of"=true)
  (k4:W.keepIn K (.ref f4)=true)
  (l5:K.lookup f5=some ⟨oc5,od5,.func (W.fnOf "makes_net" "makes_net" (aR eZ) (aM eZ) (ai eZ) .none kV5 dc5 pm5 an5 cd5 ct5),sl5⟩)
  (c5:W.codeIn K cd5 "makes_net"=true)
  (k5:W.keepIn K (.ref f5)=true)
  (l6:K.lookup f6=some ⟨oc6,od6,.func (W.fnOf "lacks_bead" "lacks_bead" (aR gH) (aM gH) (ai gH) .none kV6 dc6 pm6 an6 cd6 ct6),sl6⟩)
  (c6:W.codeIn K cd6 "lacks_bead"=true)
  (k6:W.keepIn K (.ref f6)=true)
  (l7:K.lookup f7=some ⟨oc7,od7,.func (W.fnOf "gives_second" "gives_second" (aR eK) (aM eK) (ai eK) .none kV7 dc7 pm7 an7 cd7 ct7),sl7⟩)
  (c7:W.codeIn K cd7 "gives_second"=true)
  (k7:W.keepIn K (.ref f7)=true)
  (l8:K.lookup f8=some ⟨oc8,od8,.func (W.fnOf "state_behind" "state_behind" (aR eO) (aM eO) (ai eO) .none kV8 dc8 pm8 an8 cd8 ct8),sl8⟩)
  (c8:W.codeIn K cd8 "state_behind"=true)
  (k8:W.keepIn K (.ref f8)=true)
  (l9:K.lookup f9=some ⟨oc9,od9,.func (W.fnOf "done_at" "done_at" (aR ft) (aM ft) (ai ft) .none kV9 dc9 pm9 an9 cd9 ct9),sl9⟩)
  (c9:W.codeIn K cd9 "done_at"=true)
  (k9:W.keepIn K (.ref f9)=true)
  (l10:K.lookup f10=some ⟨oc10,od10,.func (W.fnOf "played" "played" (aR fk) (aM fk) (ai fk) .none kV10 dc10 pm10 an10 cd10 ct10),sl10⟩)
  (c10:W.codeIn K cd10 "played"=true)
  (k10:W.keepIn K (.ref f10)=true)
  (l11:K.lookup f11=some ⟨oc11,od11,.func (W.fnOf "takes_and_gives" "takes_and_gives" (aR AW) (aM AW) (ai AW) .none kV11 dc11 pm11 an11 cd11 ct11),sl11⟩)
  (c11:W.codeIn K cd11 "takes_and_gives"=true)
  (k11:W.keepIn K (.ref f11)=true)
  (l12:K.lookup f12=some ⟨oc12,od12,.func (W.fnOf "move_of_both" "move_of_both" (aR As) (aM As) (ai As) .none kV12 dc12 pm12 an12 cd12 ct12),sl12⟩)
  (c12:W.codeIn K cd12 "move_of_both"=true)
  (k12:W.keepIn K (.ref f12)=true)
  (l13:K.lookup f13=some ⟨oc13,od13,.func (W.fnOf "shaken" "shaken" (aR dn) (aM dn) (ai dn) .none kV13 dc13 pm13 an13 cd13 ct13),sl13⟩)
  (c13:W.codeIn K cd13 "shaken"=true)
  (k13:W.keepIn K (.ref f13)=true)
  (l14:K.lookup f14=some ⟨oc14,od14,.func (W.fnOf "half" "half" (aR iV) (aM iV) (ai iV) .none kV14 dc14 pm14 an14 cd14 ct14),sl14⟩)
  (c14:W.codeIn K cd14 "half"=true)
  (k14:W.keepIn K (.ref f14)=true)
  (l15:K.lookup f15=some ⟨oc15,od15,.func (W.fnOf "poured" "poured" (aR fQ) (aM fQ) (ai fQ) .none kV15 dc15 pm15 an15 cd15 ct15),sl15⟩)
  (c15:W.codeIn K cd15 "poured"=true)
  (k15:W.keepIn K (.ref f15)=true)
  (l16:K.lookup f16=some ⟨oc16,od16,.func (W.fnOf "_law_cell_at" "_law_cell_at" (aR iN) (aM iN) (ai iN) .none kV16 dc16 pm16 an16 cd16 ct16),sl16⟩)
  (c16:W.codeIn K cd16 "_law_cell_at"=true)
  (k16:W.keepIn K (.ref f16)=true)
  (l17:K.lookup f17=some ⟨oc17,od17,.func (W.fnOf "_law_name" "_law_name" (aR jG) (aM jG) (ai jG) .none kV17 dc17 pm17 an17 cd17 ct17),sl17⟩)
  (c17:W.codeIn K cd17 "_law_name"=true)
  (k17:W.keepIn K (.ref f17)=true)
  (l18:K.lookup f18=some ⟨oc18,od18,.func (W.fnOf "_law_folded" "_law_folded" (aR fJ) (aM fJ) (ai fJ) .none kV18 dc18 pm18 an18 cd18 ct18),sl18⟩)
  (c18:W.codeIn K cd18 "_law_folded"=true)
  (k18:W.keepIn K (.ref f18)=true)
  (l19:K.lookup f19=some ⟨oc19,od19,.func (W.fnOf "_law_step" "_law_step" (aR kr) (aM kr) (ai kr) .none kV19 dc19 pm19 an19 cd19 ct19),sl19⟩)
  (c19:W.codeIn K cd19 "_law_step"=true)
  (k19:W.keepIn K (.ref f19)=true)
  (l20:K.lookup f20=some ⟨oc20,od20,.func (W.fnOf "_law_mixed" "_law_mixed" (aR hZ) (aM hZ) (ai hZ) .none kV20 dc20 pm20 an20 cd20 ct20),sl20⟩)
  (c20:W.codeIn K cd20 "_law_mixed"=true)
  (k20:W.keepIn K (.ref f20)=true)
  (l21:K.lookup f21=some ⟨oc21,od21,.func (W.fnOf "_law_any_step" "_law_any_step" (aR mY) (aM mY) (ai mY) .none kV21 dc21 pm21 an21 cd21 ct21),sl21⟩)
  (c21:W.codeIn K cd21 "_law_any_step"=true)
  (k21:W.keepIn K (.ref f21)=true)
  (l22:K.lookup f22=some ⟨oc22,od22,.func (W.fnOf "_law_parts" "_law_parts" (aR fY) (aM fY) (ai fY) .none kV22 dc22 pm22 an22 cd22 ct22),sl22⟩)
  (c22:W.codeIn K cd22 "_law_parts"=true)
  (k22:W.keepIn K (.ref f22)=true)
  (l23:K.lookup f23=some ⟨oc23,od23,.func (W.fnOf "_law_two" "_law_two" (aR nE) (aM nE) (ai nE) .none kV23 dc23 pm23 an23 cd23 ct23),sl23⟩)
  (c23:W.codeIn K cd23 "_law_two"=true)
  (k23:W.keepIn K (.ref f23)=true)
  (l24:K.lookup f24=some ⟨oc24,od24,.func (W.fnOf "_law_net" "_law_net" (aR iS) (aM iS) (ai iS) .none kV24 dc24 pm24 an24 cd24 ct24),sl24⟩)
  (c24:W.codeIn K cd24 "_law_net"=true)
  (k24:W.keepIn K (.ref f24)=true)
  (l25:K.lookup f25=some ⟨oc25,od25,.func (W.fnOf "_law_both" "_law_both" (aR km) (aM km) (ai km) .none kV25 dc25 pm25 an25 cd25 ct25),sl25⟩)
  (c25:W.codeIn K cd25 "_law_both"=true)
  (k25:W.keepIn K (.ref f25)=true)
  (l26:K.lookup f26=some ⟨oc26,od26,.func (W.fnOf "_law_refusal" "_law_refusal" (aR dh) (aM dh) (ai dh) .none kV26 dc26 pm26 an26 cd26 ct26),sl26⟩)
  (c26:W.codeIn K cd26 "_law_refusal"=true)
  (k26:W.keepIn K (.ref f26)=true)
  (l27:K.lookup f27=some ⟨oc27,od27,.func (W.fnOf "_law_open" "_law_open" (aR jk) (aM jk) (ai jk) .none kV27 dc27 pm27 an27 cd27 ct27),sl27⟩)
  (c27:W.codeIn K cd27 "_law_open"=true)
  (k27:W.keepIn K (.ref f27)=true)
  (l28:K.lookup f28=some ⟨oc28,od28,.func (W.fnOf "_law_done" "_law_done" (aR iO) (aM iO) (ai iO) .none kV28 dc28 pm28 an28 cd28 ct28),sl28⟩)
  (c28:W.codeIn K cd28 "_law_done"=true)
  (k28:W.keepIn K (.ref f28)=true)
  (l29:K.lookup f29=some ⟨oc29,od29,.func (W.fnOf "_law_row" "_law_row" (aR qM) (aM qM) (ai qM) .none kV29 dc29 pm29 an29 cd29 ct29),sl29⟩)
  (c29:W.codeIn K cd29 "_law_row"=true)
  (k29:W.keepIn K (.ref f29)=true)
  (l30:K.lookup f30=some ⟨oc30,od30,.func (W.fnOf "_law_spoiled" "_law_spoiled" (aR eo) (aM eo) (ai eo) .none kV30 dc30 pm30 an30 cd30 ct30),sl30⟩)
  (c30:W.codeIn K cd30 "_law_spoiled"=true)
  (k30:W.keepIn K (.ref f30)=true)
  (l31:K.lookup f31=some ⟨oc31,od31,.func (W.fnOf "_law_first_bad" "_law_first_bad" (aR qQ) (aM qQ) (ai qQ) .none kV31 dc31 pm31 an31 cd31 ct31),sl31⟩)
  (c31:W.codeIn K cd31 "_law_first_bad"=true)
  (k31:W.keepIn K (.ref f31)=true)
  (l32:K.lookup f32=some ⟨oc32,od32,.func (W.fnOf "_law_told" "_law_told" (aR jN) (aM jN) (ai jN) .none kV32 dc32 pm32 an32 cd32 ct32),sl32⟩)
  (c32:W.codeIn K cd32 "_law_told"=true)
  (k32:W.keepIn K (.ref f32)=true)
  (l33:K.lookup f33=some ⟨oc33,od33,.func (W.fnOf "_law_right" "_law_right" (aR dZ) (aM dZ) (ai dZ) .none kV33 dc33 pm33 an33 cd33 ct33),sl33⟩)
  (c33:W.codeIn K cd33 "_law_right"=true)
  (k33:W.keepIn K (.ref f33)=true)
  (l34:K.lookup f34=some ⟨oc34,od34,.func (W.fnOf "_law_order" "_law_order" (aR ig) (aM ig) (ai ig) .none kV34 dc34 pm34 an34 cd34 ct34),sl34⟩)
  (c34:W.codeIn K cd34 "_law_order"=true)
  (k34:W.keepIn K (.ref f34)=true)
  (l35:K.lookup f35=some ⟨oc35,od35,.func (W.fnOf "_law_crossed" "_law_crossed" (aR de) (aM de) (ai de) .none kV35 dc35 pm35 an35 cd35 ct35),sl35⟩)
  (c35:W.codeIn K cd35 "_law_crossed"=true)
  (k35:W.keepIn K (.ref f35)=true)
  (l36:K.lookup f36=some ⟨oc36,od36,.func (W.fnOf "law" "law" (aR jX) (aM jX) (ai jX) .none kV36 dc36 pm36 an36 cd36 ct36),sl36⟩)
  (c36:W.codeIn K cd36 "law"=true)
  (k36:W.keepIn K (.ref f36)=true)
  (l37:K.lookup f37=some ⟨oc37,od37,.func (W.fnOf "__init__" "Net.__init__" (aR kJ) (aM kJ) (ai kJ) .none kV37 dc37 pm37 an37 cd37 ct37),sl37⟩)
  (c37:W.codeIn K cd37 "Net.__init__"=true)
  (k37:W.keepIn K (.ref f37)=true)
  (l38:K.lookup f38=some ⟨oc38,od38,.func (W.fnOf "places" "Net.places" (aR iR) (aM iR) (ai iR) .none kV38 dc38 pm38 an38 cd38 ct38),sl38⟩)
  (c38:W.codeIn K cd38 "Net.places"=true)
  (k38:W.keepIn K (.ref f38)=true)
  (l39:K.lookup f39=some ⟨oc39,od39,.func (W.fnOf "moves" "Net.moves" (aR gz) (aM gz) (ai gz) .none kV39 dc39 pm39 an39 cd39 ct39),sl39⟩)
  (c39:W.codeIn K cd39 "Net.moves"=true)
  (k39:W.keepIn K (.ref f39)=true)
  (l40:K.lookup f40=some ⟨oc40,od40,.func (W.fnOf "start" "Net.start" (aR fV) (aM fV) (ai fV) .none kV40 dc40 pm40 an40 cd40 ct40),sl40⟩)
  (c40:W.codeIn K cd40 "Net.start"=true)
  (k40:W.keepIn K (.ref f40)=true)
  (l41:K.lookup f41=some ⟨oc41,od41,.func (W.fnOf "must_have" "Net.must_have" (aR jQ) (aM jQ) (ai jQ) .none kV41 dc41 pm41 an41 cd41 ct41),sl41⟩)
  (c41:W.codeIn K cd41 "Net.must_have"=true)
  (k41:W.keepIn K (.ref f41)=true)
  (l42:K.lookup f42=some ⟨oc42,od42,.func (W.fnOf "takes" "Net.takes" (aR eV) (aM eV) (ai eV) .none kV42 dc42 pm42 an42 cd42 ct42),sl42⟩)
  (c42:W.codeIn K cd42 "Net.takes"=true)
  (k42:W.keepIn K (.ref f42)=true)
  (l43:K.lookup f43=some ⟨oc43,od43,.func (W.fnOf "gives" "Net.gives" (aR gc) (aM gc) (ai gc) .none kV43 dc43 pm43 an43 cd43 ct43),sl43⟩)
  (c43:W.codeIn K cd43 "Net.gives"=true)
  (k43:W.keepIn K (.ref f43)=true)
  (l44:K.lookup f44=some ⟨.type "function",od44,.func (W.fnOf "__init__" "NoMove.__init__" (aR gp) (aM gp) (ai gp) .none kV44 dc44 pm44 an44 cd44 ct44),sl44⟩)
  (c44:W.codeIn K cd44 "NoMove.__init__"=true)
  (k44:W.keepIn K (.ref f44)=true)
  (l45:K.lookup f45=some ⟨.type "function",od45,.func (W.fnOf "__init__" "Held.__init__" (aR ka) (aM ka) (ai ka) .none kV45 dc45 pm45 an45 cd45 ct45),sl45⟩)
  (c45:W.codeIn K cd45 "Held.__init__"=true)
  (k45:W.keepIn K (.ref f45)=true)
  (l46:K.lookup f46=some ⟨.type "function",od46,.func (W.fnOf "__init__" "Full.__init__" (aR jW) (aM jW) (ai jW) .none kV46 dc46 pm46 an46 cd46 ct46),sl46⟩)
  (c46:W.codeIn K cd46 "Full.__init__"=true)
  (k46:W.keepIn K (.ref f46)=true)
  (l47:K.lookup f47=some ⟨.type "function",od47,.func (W.fnOf "__init__" "NoNet.__init__" (aR iH) (aM iH) (ai iH) .none kV47 dc47 pm47 an47 cd47 ct47),sl47⟩)
  (c47:W.codeIn K cd47 "NoNet.__init__"=true)
  (k47:W.keepIn K (.ref f47)=true)
  (pg:W.plainGet K C Str.empty=true)
  (hd:W.hasDictIn K C=true)
  (po:W.plainOver K C=true)
  (sa:W.findIn K (.ref C) "__setattr__"=some (some (.builtin "object.__setattr__")))
  (mk:W.makesIn K C=true)
  (kc:W.keepIn K (.ref C)=true)
  (nP:W.findIn K (.ref C) "place_names"=some none)
  (nS:W.findIn K (.ref C) "start_state"=some none)
  (nT:W.findIn K (.ref C) "taken_by"=some none)
  (nG:W.findIn K (.ref C) "given_by"=some none)
  (z1:W.nsIn K mainGlobals "all"=some none)
  (z2:W.nsIn K mainGlobals "len"=some none)
  (z3:W.nsIn K mainGlobals "set"=some none)
  (z4:W.nsIn K mainGlobals "list"=some none)
  (z5:W.nsIn K mainGlobals "tuple"=some none)
  (z6:W.nsIn K mainGlobals "str"=some none)
  (z7:W.nsIn K mainGlobals "sorted"=some none)
  (z8:W.nsIn K mainGlobals "isinstance"=some none)
  (z9:W.nsIn K mainGlobals "range"=some none)
  (z10:W.nsIn K mainGlobals "enumerate"=some none)
  (z11:W.nsIn K mainGlobals "any"=some none)
  (z12:W.nsIn K mainGlobals "reversed"=some none)
  (z13:W.nsIn K mainGlobals "int"=some none)
  (z14:W.nsIn K mainGlobals "ValueError"=some none)
  (z15:W.nsIn K mainGlobals "zip"=some none)
  (z16:W.nsIn K mainGlobals "min"=some none)
  (y1:W.nsIn K mainGlobals "LETTERS"=some (some (.str zl tk1)))
  (y2:W.nsIn K mainGlobals "LONGEST_NAME"=some (some (.int 8 tk2)))
  (y3:W.nsIn K mainGlobals "MOST_PLACES"=some (some (.int 12 tk3)))
  (y4:W.nsIn K mainGlobals "MOST_MOVES"=some (some (.int 12 tk4)))
  (y5:W.nsIn K mainGlobals "LEAST_TAKEN"=some (some (.int 1 tk5)))
  (y6:W.nsIn K mainGlobals "MOST_TAKEN"=some (some (.int 4 tk6)))
  (y7:W.nsIn K mainGlobals "MOST_GIVEN"=some (some (.int 4 tk7)))
  (bNE:W.specialIn K (.ref NE) "__getattribute__"=some (some (.builtin "type.__getattribute__")))
  (rNE:W.readsIn K NE (.type "type")=true)
  (fNE:W.findCls K (.ref NE) (.type "type") "__init__"=some (.val (.builtin "ValueError.__init__")))
  (hNE:tlNE.contains (.type "BaseException")=true)
  (xc:W.specialIn K (.builtin "object.__class__") "__get__"=some (some (.builtin "getset_descriptor.__get__")))
  (xt:W.takesIn K (.builtin "object.__class__")=some true)
  (taCN:W.tailIn K jy tlCN=true)
  (noCN:W.nsOkIn K NN=true)
  (kpCN:W.keepIn K (.ref CN)=true)
  (saCN:W.findIn K (.ref CN) "__setattr__"=some (some (.builtin "object.__setattr__")))
  (mrCN:((W.clsIn K CN).any fun cd=>bT cd.mro)=true)
  (tkCN:W.takerIn K CN "at"=some none)
  (naCN:W.findIn K (.ref CN) "at"=some none)
  (hdCN:W.hasDictIn K CN=true)
  (coCN:tlCN.contains (.type "BaseException")=true)
  (unCN:(Value.ref CN::tlCN).contains (.ref NE)=true)
  (gaCN:W.findIn K (.ref CN) "__getattribute__"=some (some (.builtin "BaseException.__getattribute__")))
  (gnCN:W.findIn K (.ref CN) "__getattr__"=some none)
  (hmCN:W.mroIn K CN (.type "BaseException")=some true)
  (hoCN:W.mroIn K CN (.type "object")=some true)
  (clCN:W.findIn K (.ref CN) "__class__"=some (some (.builtin "object.__class__")))
  (qoCN:W.kitOne K (.ref CN) (.ref CO)=some false)
  (q0CN:W.kitOne K (.ref CN) (.ref CF)=some false)
  (q1CN:W.kitOne K (.ref CN) (.ref CH)=some false)
  (q2CN:W.kitOne K (.ref CN) (.ref CN)=some true)
  (qvCN:W.kitOne K (.ref CN) (.type "ValueError")=some true)
  (taCH:W.tailIn K jy tlCH=true)
  (noCH:W.nsOkIn K NH=true)
  (kpCH:W.keepIn K (.ref CH)=true)
  (saCH:W.findIn K (.ref CH) "__setattr__"=some (some (.builtin "object.__setattr__")))
  (mrCH:((W.clsIn K CH).any fun cd=>bT cd.mro)=true)
  (tkCH:W.takerIn K CH "at"=some none)
  (naCH:W.findIn K (.ref CH) "at"=some none)
  (hdCH:W.hasDictIn K CH=true)
  (coCH:tlCH.contains (.type "BaseException")=true)
  (unCH:(Value.ref CH::tlCH).contains (.ref NE)=true)
  (gaCH:W.findIn K (.ref CH) "__getattribute__"=some (some (.builtin "BaseException.__getattribute__")))
  (gnCH:W.findIn K (.ref CH) "__getattr__"=some none)
  (hmCH:W.mroIn K CH (.type "BaseException")=some true)
  (hoCH:W.mroIn K CH (.type "object")=some true)
  (clCH:W.findIn K (.ref CH) "__class__"=some (some (.builtin "object.__class__")))
  (qoCH:W.kitOne K (.ref CH) (.ref CO)=some false)
  (q0CH:W.kitOne K (.ref CH) (.ref CF)=some false)
  (q1CH:W.kitOne K (.ref CH) (.ref CH)=some true)
  (q2CH:W.kitOne K (.ref CH) (.ref CN)=some false)
  (qvCH:W.kitOne K (.ref CH) (.type "ValueError")=some true)
  (taCF:W.tailIn K jy tlCF=true)
  (noCF:W.nsOkIn K NF=true)
  (kpCF:W.keepIn K (.ref CF)=true)
  (saCF:W.findIn K (.ref CF) "__setattr__"=some (some (.builtin "object.__setattr__")))
  (mrCF:((W.clsIn K CF).any fun cd=>bT cd.mro)=true)
  (tkCF:W.takerIn K CF "at"=some none)
  (naCF:W.findIn K (.ref CF) "at"=some none)
  (hdCF:W.hasDictIn K CF=true)
  (coCF:tlCF.contains (.type "BaseException")=true)
  (unCF:(Value.ref CF::tlCF).contains (.ref NE)=true)
  (gaCF:W.findIn K (.ref CF) "__getattribute__"=some (some (.builtin "BaseException.__getattribute__")))
  (gnCF:W.findIn K (.ref CF) "__getattr__"=some none)
  (hmCF:W.mroIn K CF (.type "BaseException")=some true)
  (hoCF:W.mroIn K CF (.type "object")=some true)
  (clCF:W.findIn K (.ref CF) "__class__"=some (some (.builtin "object.__class__")))
  (qoCF:W.kitOne K (.ref CF) (.ref CO)=some false)
  (q0CF:W.kitOne K (.ref CF) (.ref CF)=some true)
  (q1CF:W.kitOne K (.ref CF) (.ref CH)=some false)
  (q2CF:W.kitOne K (.ref CF) (.ref CN)=some false)
  (qvCF:W.kitOne K (.ref CF) (.type "ValueError")=some true)
  (taCO:W.tailIn K jy tlCO=true)
  (noCO:W.nsOkIn K NO=true)
  (kpCO:W.keepIn K (.ref CO)=true)
  (hdCO:W.hasDictIn K CO=true)
  (coCO:tlCO.contains (.type "BaseException")=true)
  (unCO:(Value.ref CO::tlCO).contains (.ref NE)=true)
  (gaCO:W.findIn K (.ref CO) "__getattribute__"=some (some (.builtin "BaseException.__getattribute__")))
  (gnCO:W.findIn K (.ref CO) "__getattr__"=some none)
  (hmCO:W.mroIn K CO (.type "BaseException")=some true)
  (hoCO:W.mroIn K CO (.type "object")=some true)
  (clCO:W.findIn K (.ref CO) "__class__"=some (some (.builtin "object.__class__")))
  (qoCO:W.kitOne K (.ref CO) (.ref CO)=some true) :
  ∃ fd:FuncData,(∀ (s:Shared) (v:Value),BindsTo s fd ⟨[v],[]⟩ [("_law_script",v)])∧∀ base:Heap,K.In base→base.Ns mainGlobals mg→aH l.prog w K mg base bX 12 fa fd ["_law_script"] (vm K):=by
 have e:=hfa.symm.trans (W.mg_of X G a36)
 cases e
 have T:Txt K mg:=⟨W.mg_none_of X G z1,W.mg_none_of X G z2,W.mg_none_of X G z3,W.mg_none_of X G z4,W.mg_none_of X G z5,W.mg_none_of X G z6,W.mg_none_of X G z7,W.mg_none_of X G z8,⟨_,W.mg_of X G y1⟩,⟨_,W.mg_of X G y2⟩,⟨_,W.mg_of X G y3⟩,⟨_,W.mg_of X G y4⟩,⟨_,W.mg_of X G y5⟩,⟨_,W.mg_of X G y6⟩,⟨_,W.mg_of X G y7⟩⟩
 have T2:Txt2 mg:=⟨W.mg_none_of X G z9,W.mg_none_of X G z10,W.mg_none_of X G z11,W.mg_none_of X G z12,W.mg_none_of X G z13⟩
 have CT:gG K C:=⟨⟨pg,hd,po,sa⟩,nP,nS,nT,nG⟩
 have T3:Au mg:=⟨W.mg_none_of X G z15,W.mg_none_of X G z16⟩
 have M13:AS mg NE CO CN CH CF:=⟨W.mg_of X G gNE,W.mg_of X G gCO,W.mg_of X G gCN,W.mg_of X G gCH,W.mg_of X G gCF,W.mg_none_of X G z14⟩
 have F1:=aY (st:=cK) l1 c1 k1
 have b1:=F1.binds (ps:=["thing"]) fun _ _ _ _ _ _ us hl=>by obtain⟨a0,rfl⟩:=pA hl;rfl
 have D1:Def K mg "is_name" cK ["thing"] f1 _:=⟨F1,W.mg_of X G a1,b1⟩
 have F2:=aY (st:=dF) l2 c2 k2
 have b2:=F2.binds (ps:=["things"]) fun _ _ _ _ _ _ us hl=>by obtain⟨a0,rfl⟩:=pA hl;rfl
 have D2:Def K mg "are_unlike_names" dF ["things"] f2 _:=⟨F2,W.mg_of X G a2,b2⟩
 have F3:=aY (st:=d7) l3 c3 k3
 have b3:=F3.binds (ps:=["taken", "given"]) fun _ _ _ _ _ _ us hl=>by obtain⟨a0,a1,rfl⟩:=eF hl;rfl
 have D3:Def K mg "is_move" d7 ["taken", "given"] f3 _:=⟨F3,W.mg_of X G a3,b3⟩
 have F4:=aY (st:=d6) l4 c4 k4
 have b4:=F4.binds (ps:=["moves", "start"]) fun _ _ _ _ _ _ us hl=>by obtain⟨a0,a1,rfl⟩:=eF hl;rfl
 have D4:Def K mg "places_of" d6 ["moves", "start"] f4 _:=⟨F4,W.mg_of X G a4,b4⟩
 have F5:=aY (st:=eZ) l5 c5 k5
 have b5:=F5.binds (ps:=["moves", "start"]) fun _ _ _ _ _ _ us hl=>by obtain⟨a0,a1,rfl⟩:=eF hl;rfl
 have D5:Def K mg "makes_net" eZ ["moves", "start"] f5 _:=⟨F5,W.mg_of X G a5,b5⟩
 have F6:=aY (st:=gH) l6 c6 k6
 have b6:=F6.binds (ps:=["net", "state", "move"]) fun _ _ _ _ _ _ us hl=>by obtain⟨a0,a1,a2,rfl⟩:=rk hl;rfl
 have D6:Def K mg "lacks_bead" gH ["net", "state", "move"] f6 _:=⟨F6,W.mg_of X G a6,b6⟩
 have F7:=aY (st:=eK) l7 c7 k7
 have b7:=F7.binds (ps:=["net", "state", "move"]) fun _ _ _ _ _ _ us hl=>by obtain⟨a0,a1,a2,rfl⟩:=rk hl;rfl
 have D7:Def K mg "gives_second" eK ["net", "state", "move"] f7 _:=⟨F7,W.mg_of X G a7,b7⟩
 have F8:=aY (st:=eO) l8 c8 k8
 have b8:=F8.binds (ps:=["net", "state", "move"]) fun _ _ _ _ _ _ us hl=>by obtain⟨a0,a1,a2,rfl⟩:=rk hl;rfl
 have D8:Def K mg "state_behind" eO ["net", "state", "move"] f8 _:=⟨F8,W.mg_of X G a8,b8⟩
 have F9:=aY (st:=ft) l9 c9 k9
 have b9:=F9.binds (ps:=["net", "state", "move", "at"]) fun _ _ _ _ _ _ us hl=>by obtain⟨a0,a1,a2,a3,rfl⟩:=Cm hl;rfl
 have D9:Def K mg "done_at" ft ["net", "state", "move", "at"] f9 _:=⟨F9,W.mg_of X G a9,b9⟩
 have F10:=aY (st:=fk) l10 c10 k10
 have b10:=F10.binds (ps:=["net", "row"]) fun _ _ _ _ _ _ us hl=>by obtain⟨a0,a1,rfl⟩:=eF hl;rfl
 have D10:Def K mg "played" fk ["net", "row"] f10 _:=⟨F10,W.mg_of X G a10,b10⟩
 have F11:=aY (st:=AW) l11 c11 k11
 have b11:=F11.binds (ps:=["net", "move"]) fun _ _ _ _ _ _ us hl=>by obtain⟨a0,a1,rfl⟩:=eF hl;rfl
 have D11:Def K mg "takes_and_gives" AW ["net", "move"] f11 _:=⟨F11,W.mg_of X G a11,b11⟩
 have F12:=aY (st:=As) l12 c12 k12
 have b12:=F12.binds (ps:=["one", "other", "move"]) fun _ _ _ _ _ _ us hl=>by obtain⟨a0,a1,a2,rfl⟩:=rk hl;rfl
 have D12:Def K mg "move_of_both" As ["one", "other", "move"] f12 _:=⟨F12,W.mg_of X G a12,b12⟩
 have F13:=aY (st:=dn) l13 c13 k13
 have b13:=F13.binds (ps:=["one", "other"]) fun _ _ _ _ _ _ us hl=>by obtain⟨a0,a1,rfl⟩:=eF hl;rfl
 have D13:Def K mg "shaken" dn ["one", "other"] f13 _:=⟨F13,W.mg_of X G a13,b13⟩
 have F14:=aY (st:=iV) l14 c14 k14
 have b14:=F14.binds (ps:=["net", "row"]) fun _ _ _ _ _ _ us hl=>by obtain⟨a0,a1,rfl⟩:=eF hl;rfl
 have D14:Def K mg "half" iV ["net", "row"] f14 _:=⟨F14,W.mg_of X G a14,b14⟩
 have F15:=aY (st:=fQ) l15 c15 k15
 have b15:=F15.binds (ps:=["one", "other", "first", "second"]) fun _ _ _ _ _ _ us hl=>by obtain⟨a0,a1,a2,a3,rfl⟩:=Cm hl;rfl
 have D15:Def K mg "poured" fQ ["one", "other", "first", "second"] f15 _:=⟨F15,W.mg_of X G a15,b15⟩
 have F16:=aY (st:=iN) l16 c16 k16
 have b16:=F16.binds (ps:=["_law_script", "_law_k"]) fun _ _ _ _ _ _ us hl=>by obtain⟨a0,a1,rfl⟩:=eF hl;rfl
 have D16:Def K mg "_law_cell_at" iN ["_law_script", "_law_k"] f16 _:=⟨F16,W.mg_of X G a16,b16⟩
 have F17:=aY (st:=jG) l17 c17 k17
 have b17:=F17.binds (ps:=["_law_cell", "_law_k"]) fun _ _ _ _ _ _ us hl=>by obtain⟨a0,a1,rfl⟩:=eF hl;rfl
 have D17:Def K mg "_law_name" jG ["_law_cell", "_law_k"] f17 _:=⟨F17,W.mg_of X G a17,b17⟩
 have F18:=aY (st:=fJ) l18 c18 k18
 have b18:=F18.binds (ps:=["_law_cells", "_law_many"]) fun _ _ _ _ _ _ us hl=>by obtain⟨a0,a1,rfl⟩:=eF hl;rfl
 have D18:Def K mg "_law_folded" fJ ["_law_cells", "_law_many"] f18 _:=⟨F18,W.mg_of X G a18,b18⟩
 have F19:=aY (st:=kr) l19 c19 k19
 have b19:=F19.binds (ps:=["_law_number", "_law_sizes", "_law_names"]) fun _ _ _ _ _ _ us hl=>by obtain⟨a0,a1,a2,rfl⟩:=rk hl;rfl
 have D19:Def K mg "_law_step" kr ["_law_number", "_law_sizes", "_law_names"] f19 _:=⟨F19,W.mg_of X G a19,b19⟩
 have F20:=aY (st:=hZ) l20 c20 k20
 have b20:=F20.binds (ps:=["_law_cell", "_law_k"]) fun _ _ _ _ _ _ us hl=>by obtain⟨a0,a1,rfl⟩:=eF hl;rfl
 have D20:Def K mg "_law_mixed" hZ ["_law_cell", "_law_k"] f20 _:=⟨F20,W.mg_of X G a20,b20⟩
 have F21:=aY (st:=mY) l21 c21 k21
 have b21:=F21.binds (ps:=["_law_number", "_law_names"]) fun _ _ _ _ _ _ us hl=>by obtain⟨a0,a1,rfl⟩:=eF hl;rfl
 have D21:Def K mg "_law_any_step" mY ["_law_number", "_law_names"] f21 _:=⟨F21,W.mg_of X G a21,b21⟩
 have F22:=aY (st:=fY) l22 c22 k22
 have b22:=F22.binds (ps:=["_law_head", "_law_bead", "_law_numbers", "_law_names", "_law_moves"]) fun _ _ _ _ _ _ us hl=>by obtain⟨a0,a1,a2,a3,a4,rfl⟩:=E7 hl;rfl
 have D22:Def K mg "_law_parts" fY ["_law_head", "_law_bead", "_law_numbers", "_law_names", "_law_moves"] f22 _:=⟨F22,W.mg_of X G a22,b22⟩
 have F23:=aY (st:=nE) l23 c23 k23
 have b23:=F23.binds (ps:=["_law_script"]) fun _ _ _ _ _ _ us hl=>by obtain⟨a0,rfl⟩:=pA hl;rfl
 have D23:Def K mg "_law_two" nE ["_law_script"] f23 _:=⟨F23,W.mg_of X G a23,b23⟩
 have F24:=aY (st:=iS) l24 c24 k24
 have b24:=F24.binds (ps:=["_law_part"]) fun _ _ _ _ _ _ us hl=>by obtain⟨a0,rfl⟩:=pA hl;rfl
 have D24:Def K mg "_law_net" iS ["_law_part"] f24 _:=⟨F24,W.mg_of X G a24,b24⟩
 have F25:=aY (st:=km) l25 c25 k25
 have b25:=F25.binds (ps:=["_law_one", "_law_other"]) fun _ _ _ _ _ _ us hl=>by obtain⟨a0,a1,rfl⟩:=eF hl;rfl
 have D25:Def K mg "_law_both" km ["_law_one", "_law_other"] f25 _:=⟨F25,W.mg_of X G a25,b25⟩
 have F26:=aY (st:=dh) l26 c26 k26
 have b26:=F26.binds (ps:=["_law_state", "_law_rule"]) fun _ _ _ _ _ _ us hl=>by obtain⟨a0,a1,rfl⟩:=eF hl;rfl
 have D26:Def K mg "_law_refusal" dh ["_law_state", "_law_rule"] f26 _:=⟨F26,W.mg_of X G a26,b26⟩
 have F27:=aY (st:=jk) l27 c27 k27
 have b27:=F27.binds (ps:=["_law_state", "_law_rules"]) fun _ _ _ _ _ _ us hl=>by obtain⟨a0,a1,rfl⟩:=eF hl;rfl
 have D27:Def K mg "_law_open" jk ["_law_state", "_law_rules"] f27 _:=⟨F27,W.mg_of X G a27,b27⟩
 have F28:=aY (st:=iO) l28 c28 k28
 have b28:=F28.binds (ps:=["_law_state", "_law_rule"]) fun _ _ _ _ _ _ us hl=>by obtain⟨a0,a1,rfl⟩:=eF hl;rfl
 have D28:Def K mg "_law_done" iO ["_law_state", "_law_rule"] f28 _:=⟨F28,W.mg_of X G a28,b28⟩
 have F29:=aY (st:=qM) l29 c29 k29
 have b29:=F29.binds (ps:=["_law_part", "_law_cells"]) fun _ _ _ _ _ _ us hl=>by obtain⟨a0,a1,rfl⟩:=eF hl;rfl
 have D29:Def K mg "_law_row" qM ["_law_part", "_law_cells"] f29 _:=⟨F29,W.mg_of X G a29,b29⟩
 have F30:=aY (st:=eo) l30 c30 k30
 have b30:=F30.binds (ps:=["_law_row_here", "_law_part", "_law_cell"]) fun _ _ _ _ _ _ us hl=>by obtain⟨a0,a1,a2,rfl⟩:=rk hl;rfl
 have D30:Def K mg "_law_spoiled" eo ["_law_row_here", "_law_part", "_law_cell"] f30 _:=⟨F30,W.mg_of X G a30,b30⟩
 have F31:=aY (st:=qQ) l31 c31 k31
 have b31:=F31.binds (ps:=["_law_part", "_law_row_here"]) fun _ _ _ _ _ _ us hl=>by obtain⟨a0,a1,rfl⟩:=eF hl;rfl
 have D31:Def K mg "_law_first_bad" qQ ["_law_part", "_law_row_here"] f31 _:=⟨F31,W.mg_of X G a31,b31⟩
 have F32:=aY (st:=jN) l32 c32 k32
 have b32:=F32.binds (ps:=["_law_nets", "_law_first", "_law_second"]) fun _ _ _ _ _ _ us hl=>by obtain⟨a0,a1,a2,rfl⟩:=rk hl;rfl
 have D32:Def K mg "_law_told" jN ["_law_nets", "_law_first", "_law_second"] f32 _:=⟨F32,W.mg_of X G a32,b32⟩
 have F33:=aY (st:=dZ) l33 c33 k33
 have b33:=F33.binds (ps:=["_law_nets", "_law_parts_here", "_law_first", "_law_second"]) fun _ _ _ _ _ _ us hl=>by obtain⟨a0,a1,a2,a3,rfl⟩:=Cm hl;rfl
 have D33:Def K mg "_law_right" dZ ["_law_nets", "_law_parts_here", "_law_first", "_law_second"] f33 _:=⟨F33,W.mg_of X G a33,b33⟩
 have F34:=aY (st:=ig) l34 c34 k34
 have b34:=F34.binds (ps:=["_law_cell", "_law_moves"]) fun _ _ _ _ _ _ us hl=>by obtain⟨a0,a1,rfl⟩:=eF hl;rfl
 have D34:Def K mg "_law_order" ig ["_law_cell", "_law_moves"] f34 _:=⟨F34,W.mg_of X G a34,b34⟩
 have F35:=aY (st:=de) l35 c35 k35
 have b35:=F35.binds (ps:=["_law_script"]) fun _ _ _ _ _ _ us hl=>by obtain⟨a0,rfl⟩:=pA hl;rfl
 have D35:Def K mg "_law_crossed" de ["_law_script"] f35 _:=⟨F35,W.mg_of X G a35,b35⟩
 have F36:=aY (st:=jX) l36 c36 k36
 have F37:=aY (st:=kJ) l37 c37 k37
 have b37:=F37.binds (ps:=["self", "moves", "start"]) fun _ _ _ _ _ _ us hl=>by obtain⟨a0,a1,a2,rfl⟩:=rk hl;rfl
 have D37:dX K C "__init__" "Net.__init__" kJ ["self", "moves", "start"] f37 _:=⟨F37,⟨a37,i37,k37⟩,b37⟩
 have F38:=aY (st:=iR) l38 c38 k38
 have b38:=F38.binds (ps:=["self"]) fun _ _ _ _ _ _ us hl=>by obtain⟨a0,rfl⟩:=pA hl;rfl
 have D38:dX K C "places" "Net.places" iR ["self"] f38 _:=⟨F38,⟨a38,i38,k38⟩,b38⟩
 have F39:=aY (st:=gz) l39 c39 k39
 have b39:=F39.binds (ps:=["self"]) fun _ _ _ _ _ _ us hl=>by obtain⟨a0,rfl⟩:=pA hl;rfl
 have D39:dX K C "moves" "Net.moves" gz ["self"] f39 _:=⟨F39,⟨a39,i39,k39⟩,b39⟩
 have F40:=aY (st:=fV) l40 c40 k40
 have b40:=F40.binds (ps:=["self"]) fun _ _ _ _ _ _ us hl=>by obtain⟨a0,rfl⟩:=pA hl;rfl
 have D40:dX K C "start" "Net.start" fV ["self"] f40 _:=⟨F40,⟨a40,i40,k40⟩,b40⟩
 have F41:=aY (st:=jQ) l41 c41 k41
 have b41:=F41.binds (ps:=["self", "move"]) fun _ _ _ _ _ _ us hl=>by obtain⟨a0,a1,rfl⟩:=eF hl;rfl
 have D41:dX K C "must_have" "Net.must_have" jQ ["self", "move"] f41 _:=⟨F41,⟨a41,i41,k41⟩,b41⟩
 have F42:=aY (st:=eV) l42 c42 k42
 have b42:=F42.binds (ps:=["self", "move"]) fun _ _ _ _ _ _ us hl=>by obtain⟨a0,a1,rfl⟩:=eF hl;rfl
 have D42:dX K C "takes" "Net.takes" eV ["self", "move"] f42 _:=⟨F42,⟨a42,i42,k42⟩,b42⟩
 have F43:=aY (st:=gc) l43 c43 k43
 have b43:=F43.binds (ps:=["self", "move"]) fun _ _ _ _ _ _ us hl=>by obtain⟨a0,a1,rfl⟩:=eF hl;rfl
 have D43:dX K C "gives" "Net.gives" gc ["self", "move"] f43 _:=⟨F43,⟨a43,i43,k43⟩,b43⟩
 have F44:=aY (st:=gp) l44 c44 k44
 have b44:=F44.binds (ps:=["self", "at"]) fun _ _ _ _ _ _ us hl=>by obtain⟨a0,a1,rfl⟩:=eF hl;rfl
 have F45:=aY (st:=ka) l45 c45 k45
 have b45:=F45.binds (ps:=["self", "at"]) fun _ _ _ _ _ _ us hl=>by obtain⟨a0,a1,rfl⟩:=eF hl;rfl
 have F46:=aY (st:=jW) l46 c46 k46
 have b46:=F46.binds (ps:=["self", "at"]) fun _ _ _ _ _ _ us hl=>by obtain⟨a0,a1,rfl⟩:=eF hl;rfl
 have F47:=aY (st:=iH) l47 c47 k47
 have b47:=F47.binds (ps:=["self"]) fun _ _ _ _ _ _ us hl=>by obtain⟨a0,rfl⟩:=pA hl;rfl
 have BNE:oO K NE:=⟨bNE,rNE,fNE⟩
 have ENE:pN K NE:=⟨_,_,_,_,_,_,_,_,_,_,_,_,_,_,_,_,_,oNE,hNE⟩
 have TCN:mP K CN NN:=⟨_,_,_,_,_,_,_,_,_,_,_,_,_,_,_,oCN,taCN⟩
 have ECN:pN K CN:=⟨_,_,_,_,_,_,_,_,_,_,_,_,_,_,_,_,_,oCN,coCN⟩
 have SCN:pJ K CN "at":=⟨saCN,mrCN,tkCN,hdCN⟩
 have WCN:zD K CN NN f44:=⟨TCN,noCN,a44,⟨_,l44,rfl⟩,kpCN⟩
 have UCN:jc K CN NE:=⟨⟨_,_,_,_,_,_,_,_,_,_,_,_,_,_,_,_,_,oCN,unCN⟩,ENE⟩
 have ICN:kM K CN:=⟨gaCN,gnCN,hmCN,hoCN,hdCN,clCN,xc,xt⟩
 have QCN:iX K NE CO CN CH CF CN 2:=⟨UCN,ICN,⟨gaCN,gnCN,hmCN,hdCN,naCN⟩,qoCN,q0CN,q1CN,q2CN,qvCN⟩
 have TCH:mP K CH NH:=⟨_,_,_,_,_,_,_,_,_,_,_,_,_,_,_,oCH,taCH⟩
 have ECH:pN K CH:=⟨_,_,_,_,_,_,_,_,_,_,_,_,_,_,_,_,_,oCH,coCH⟩
 have SCH:pJ K CH "at":=⟨saCH,mrCH,tkCH,hdCH⟩
 have WCH:zD K CH NH f45:=⟨TCH,noCH,a45,⟨_,l45,rfl⟩,kpCH⟩
 have UCH:jc K CH NE:=⟨⟨_,_,_,_,_,_,_,_,_,_,_,_,_,_,_,_,_,oCH,unCH⟩,ENE⟩
 have ICH:kM K CH:=⟨gaCH,gnCH,hmCH,hoCH,hdCH,clCH,xc,xt⟩
 have QCH:iX K NE CO CN CH CF CH 1:=⟨UCH,ICH,⟨gaCH,gnCH,hmCH,hdCH,naCH⟩,qoCH,q0CH,q1CH,q2CH,qvCH⟩
 have TCF:mP K CF NF:=⟨_,_,_,_,_,_,_,_,_,_,_,_,_,_,_,oCF,taCF⟩
 have ECF:pN K CF:=⟨_,_,_,_,_,_,_,_,_,_,_,_,_,_,_,_,_,oCF,coCF⟩
 have SCF:pJ K CF "at":=⟨saCF,mrCF,tkCF,hdCF⟩
 have WCF:zD K CF NF f46:=⟨TCF,noCF,a46,⟨_,l46,rfl⟩,kpCF⟩
 have UCF:jc K CF NE:=⟨⟨_,_,_,_,_,_,_,_,_,_,_,_,_,_,_,_,_,oCF,unCF⟩,ENE⟩
 have ICF:kM K CF:=⟨gaCF,gnCF,hmCF,hoCF,hdCF,clCF,xc,xt⟩
 have QCF:iX K NE CO CN CH CF CF 0:=⟨UCF,ICF,⟨gaCF,gnCF,hmCF,hdCF,naCF⟩,qoCF,q0CF,q1CF,q2CF,qvCF⟩
 have TCO:mP K CO NO:=⟨_,_,_,_,_,_,_,_,_,_,_,_,_,_,_,oCO,taCO⟩
 have ECO:pN K CO:=⟨_,_,_,_,_,_,_,_,_,_,_,_,_,_,_,_,_,oCO,coCO⟩
 have WCO:zD K CO NO f47:=⟨TCO,noCO,a47,⟨_,l47,rfl⟩,kpCO⟩
 have UCO:jc K CO NE:=⟨⟨_,_,_,_,_,_,_,_,_,_,_,_,_,_,_,_,_,oCO,unCO⟩,ENE⟩
 have ICO:kM K CO:=⟨gaCO,gnCO,hmCO,hoCO,hdCO,clCO,xc,xt⟩
 have QCO:AV K NE CO:=⟨UCO,ICO,qoCO⟩
 refine⟨W.fnOf "law" "law" (aR jX) (aM jX) (ai jX) .none kV36 dc36 pm36 an36 cd36 ct36,fun s v=>.of_eq rfl,fun base _ _=>?_⟩
 have GI:=Ad (P:=l.prog) (w:=w) (mg:=mg) (base:=base) F37 T CT D1 D2 D3 D4 D5
 have GM:=Al (P:=l.prog) (w:=w) (mg:=mg) (base:=base) F39 T CT
 have GS:=xD (P:=l.prog) (w:=w) (mg:=mg) (base:=base) F40 CT
 have GT:=yb (P:=l.prog) (w:=w) (mg:=mg) (base:=base) F42 T CT D1 D41
 have GG:=yD (P:=l.prog) (w:=w) (mg:=mg) (base:=base) F43 T CT D1 D41
 have GL:=ye (P:=l.prog) (w:=w) (mg:=mg) (base:=base) F6 T T2.any CT D42 GT
 have GSe:=w5 (P:=l.prog) (w:=w) (mg:=mg) (base:=base) F7 T T2.any CT D42 GT D43 GG
 have GB:=vA (P:=l.prog) (w:=w) (mg:=mg) (base:=base) F8 T CT D42 GT D43 GG
 have XCN:=tw (P:=l.prog) (w:=w) (mg:=mg) (base:=base) F44 M13.ne BNE TCN SCN
 have YCN:wX l.prog w K mg base "NoMove" CN NN f44 _:=⟨WCN,W.mg_of X G gCN,b44,XCN,ECN⟩
 have XCH:=xR (P:=l.prog) (w:=w) (mg:=mg) (base:=base) F45 M13.ne BNE TCH SCH
 have YCH:wX l.prog w K mg base "Held" CH NH f45 _:=⟨WCH,W.mg_of X G gCH,b45,XCH,ECH⟩
 have XCF:=yH (P:=l.prog) (w:=w) (mg:=mg) (base:=base) F46 M13.ne BNE TCF SCF
 have YCF:wX l.prog w K mg base "Full" CF NF f46 _:=⟨WCF,W.mg_of X G gCF,b46,XCF,ECF⟩
 have XCO:=vD (P:=l.prog) (w:=w) (mg:=mg) (base:=base) F47 M13.ne BNE TCO
 have YCO:xX l.prog w K mg base "NoNet" CO NO f47 _:=⟨WCO,W.mg_of X G gCO,b47,XCO,ECO⟩
 have GIX:=yd (C:=C) F37 T YCO D1 D2 D3 D4 D5
 have GPp:=zX (P:=l.prog) (w:=w) (mg:=mg) (base:=base) F38 T CT
 have GD:=wJ F9 CT YCN YCH YCF D39 GM D6 GL D7 GSe D8 GB
 have GPl:=wQ F10 T2 CT D40 GS D9 GD
 have GTg:=DW (P:=l.prog) (w:=w) (mg:=mg) (base:=base) F11 CT D39 GM D42 GT D43 GG
 have GMb:=Dd (P:=l.prog) (w:=w) (mg:=mg) (base:=base) F12 D11 GTg
 have GSh:=wO (P:=l.prog) (w:=w) (mg:=mg) (base:=base) F13 T T2 CT (W.mg_of X G aC) ⟨mk,a37,i37,kc⟩ b37 GI D38 GPp D39 GM D40 GS D12 GMb
 have GShX:=sL F13 YCO T T2 CT (W.mg_of X G aC) ⟨mk,a37,i37,kc⟩ b37 GIX D38 GPp D39 GM D40 GS D12 GMb
 have GHa:=zA (P:=l.prog) (w:=w) (mg:=mg) (base:=base) F14 CT D39 GM
 have GCe:=z0 (P:=l.prog) (w:=w) (mg:=mg) (base:=base) F16 T
 have GNa:=zQ (P:=l.prog) (w:=w) (mg:=mg) (base:=base) F17
 have GFo:=wz (P:=l.prog) (w:=w) (mg:=mg) (base:=base) F18 T T2
 have GSt:=zU (P:=l.prog) (w:=w) (mg:=mg) (base:=base) F19 T T2
 have GMi:=y9 (P:=l.prog) (w:=w) (mg:=mg) (base:=base) F20
 have GAn:=Ce (P:=l.prog) (w:=w) (mg:=mg) (base:=base) F21 T T2 D20 GMi
 have GPa:=x6 (P:=l.prog) (w:=w) (mg:=mg) (base:=base) F22 T T2 D19 GSt D21 GAn
 have GTw:=Bm (P:=l.prog) (w:=w) (mg:=mg) (base:=base) F23 T T2 T3 D16 GCe D17 GNa D18 GFo D22 GPa
 have GLN:=zP (P:=l.prog) (w:=w) (mg:=mg) (base:=base) F24 (W.mg_of X G aC) ⟨mk,a37,i37,kc⟩ b37 GI
 have GBo:=zT (P:=l.prog) (w:=w) (mg:=mg) (base:=base) F25
 have GRe:=ua (P:=l.prog) (w:=w) (mg:=mg) (base:=base) F26 T T2
 have GOp:=zN (P:=l.prog) (w:=w) (mg:=mg) (base:=base) F27 T D26 GRe
 have GDo:=zB (P:=l.prog) (w:=w) (mg:=mg) (base:=base) F28 T
 have GPo:=wt (CO:=CO) F15 CT D13 (aH.or GSh.lift GShX) D10 GPl D14 GHa D39 GM
 have GRw:=Cw (P:=l.prog) (w:=w) (mg:=mg) (base:=base) F29 T D27 GOp D28 GDo
 have GSp:=uk (P:=l.prog) (w:=w) (mg:=mg) (base:=base) F30 T
 have GBd:=Bg (P:=l.prog) (w:=w) (mg:=mg) (base:=base) F31 T T2 D26 GRe D28 GDo
 have GTo:=zO F32 T M13 QCO QCF QCH QCN D15 GPo
 have GRi:=xO F33 T T3 D32 GTo D31 GBd D14 GHa
 have GOr:=yi (P:=l.prog) (w:=w) (mg:=mg) (base:=base) F34 T
 have GCr:=tW F35 T T2 T3 D16 GCe D17 GNa D24 GLN.frame D34 GOr D33 GRi
 have GLw:=Bh F36 T CT D16 GCe D35 GCr D23 GTw D24 GLN.frame D25 GBo D29 GRw D30 GSp D33 GRi D32 GTo D38 GPp
 exact GLw.calm.imp fun vs H Q E h=>h
theorem walk{l:W.OpenLaw}{q:Program}{loose:List Str}{XP:(Str→Option Value)→Heap→Prop}{YP:World→Heap→Prop}{d:DefRec}{K:Params→W.Frag}(hn:l.most=some 63)(hdf:d.params.defaults=[])
  (hY:∀ (w:World) (h:Heap),YP w h→(K w.params).In h)
  (F:∀ (w:World) (mg:Str→Option Value) (fa:Addr) (h:Heap),(K w.params).In h→h.Ns mainGlobals mg→mg d.name = some (.ref fa) →
   ∃ fd:FuncData,(∀ (s:Shared) (u:Value),BindsTo s fd ⟨[u],[]⟩ [("_law_script",u)])∧∀ base:Heap,(K w.params).In base→base.Ns mainGlobals mg→aH l.prog w (K w.params) mg base bX 12 fa fd ["_law_script"] (vm (K w.params))) :
  W.WalkO q loose XP YP l.row.toRowW d [] (fun f vs=>PySem.call f vs) :=
 L2.zJ (n:=63) (k:=12) (x:="_law_script") (CX:=fun _=>bX) (sp:=fun w=>vm (K w.params)) hn (by decide) hdf ⟨rfl,by decide,by decide,rfl⟩ hY F (fun _ _ a ns hl _ hS=>⟨a,ns,rfl,hS,hl,fun _=>rfl⟩) fun _ _ _ _ _ z=>z
end Uf
end
section
open PySem PySem.W PyProof.Rows
namespace PySem.W.Fast
def tw2561533479653213274:=()
def tw4331009657645585663:=()
def tw13126927962360078027:=()
def tw15383697558469513644:=()
def tw2858870578022934961:=()
def tw12764923119871020043:=()
def tw5517089368336939691:=()
def tw11652971369404978167:=()
def tw9368039242712406639:=()
def tw4173869864564966143:=()
def tw9113542411828222061:=()
def tw11603556592765344713:=()
def tw2943543760174027160:=()
def tw16647120638895190387:=()
def tw1035116629051307164:=()
def tw7429594024407701117:=()
def tw15887600079717332598:=()
def tw18313193961984751130:=()
def tw17918968425066818313:=()
def tw13943907076929031838:=()
def tw10812723984817316570:=()
def tw14323112413536614907:=()
def tw2589556376862233722:=()
def tw13759539432098740271:=()
def tw11368762476880642287:=()
def tw2323641163516458982:=()
def tw11110846824341618180:=()
def tw14708082208327822383:=()
def tw12867956178142617713:=()
def tw17239072532412163193:=()
def tw8788911490858731816:=()
def tw2181627518798910021:=()
def tw9058056164135023543:=()
def tw790159321440331686:=()
def tw12723352803758095688:=()
def tw15901420001160580392:=()
def tw2902630450275911308:=()
def tw5787858533790513283:=()
def tw6133221252866769536:=()
def tw16367856621305299896:=()
def tw10235774775616182554:=()
def tw1598515546400545084:=()
def tw15259082179646904638:=()
def tw9581825418887715783:=()
def tw7112520403449294126:=()
def tw16636249103211780701:=()
def tw6484030495846363840:=()
def tw2716788396352014205:=()
def tw17049141236004777123:=()
def tw17679338007491546533:=()
def tw17903415611652891706:=()
def tw5218172243763648582:=()
def tw6339023390423448649:=()
def tw7592059041624205490:=()
def tw8605220420008174701:=()
def tw1085251669519497930:=()
def tw12492023422699032736:=()
def tw4998703563858787836:=()
def tw9777719788590595546:=()
def tw14506537375210876657:=()
def tw4583277783575888866:=()
def tw15548439749302382868:=()
def tw14076367566332266526:=()
def tw836143783064065258:=()
def tw16821402515646260425:=()
def tw8841949448416502121:=()
def tw15508276277858842597:=()
def tw6587264959602030733:=()
def tw934284046610752793:=()
def tw8962781894006994599:=()
def tw209775795597773176:=()
def tw999009628155445410:=()
def tw13609687384571763608:=()
def tw3047428413007630499:=()
def tw2308538811045312488:=()
def tw9257613277806358255:=()
def tw17975140938765955995:=()
def tw8275251675676367488:=()
def tw9614980229499440665:=()
def tw17135858050257242725:=()
def tw10185971803905692051:=()
def tw11806314168220077462:=()
def tw10685062044162987239:=()
def tw2201219600495905257:=()
def tw8127768584461719241:=()
def tw4497140905856827202:=()
def tw11684898777200587141:=()
def tw4101914133728927998:=()
def tw10141585632804554007:=()
def tw16497463492497668194:=()
def tw10571261807323369043:=()
def tw13318509437420479196:=()
def tw894275842424772266:=()
def tw9874667937115124608:=()
def tw7461392095431543161:=()
def tw15190839642762067688:=()
def tw819972824170478178:=()
def tw1473420977795869767:=()
def tw15238420771935538998:=()
def tw16971095758357505135:=()
def tw13043907354389600239:=()
def tw4103626157094426685:=()
def tw18376900233120109799:=()
def tw5075746467435145699:=()
def tw11525669123293805711:=()
def tw13324424087661160161:=()
def tw13038608807192242191:=()
def tw16319136331564878339:=()
def tw1233497248038572697:=()
def tw5311116275561794139:=()
def tw10343913913626279758:=()
def tw2331671188522160065:=()
def tw1492020496720281795:=()
def tw7752948392014433962:=()
def tw61763892263291508:=()
def tw2847938590512584249:=()
def tw8772059925454018397:=()
def tw5155321080254618518:=()
def tw11576740371281940431:=()
def tw2984214070478063834:=()
def tw11412774598563406077:=()
def tw12418508900899575299:=()
def tw15823549502684499483:=()
def tw6639769544804844196:=()
def tw497857490313016814:=()
def tw10333024145082287353:=()
def tw5909772470630622861:=()
def tw4846181139351961271:=()
def tw8196751230692959205:=()
def tw10022061313563843081:=()
def tw12822821090755138782:=()
def tw1324744903543051401:=()
def tw12215108817066652717:=()
def tw2228918418663088839:=()
def tw11703345152492905312:=()
def tw15364528056415960776:=()
def tw17346760294153592142:=()
def tw15105495063073439974:=()
def tw13427879533398398550:=()
def tw1514102490463618586:=()
def tw4967278863935345155:=()
def tw11663606601948464265:=()
def tw16642265019581571995:=()
def tw12783108253241404503:=()
def tw14454922367486218459:=()
def tw9605189675525066014:=()
def tw11485071220474946127:=()
def tw5866316070075872398:=()
def tw14865830482781744655:=()
def tw3759873658927342302:=()
def tw10882049522531091728:=()
def tw632006053430888511:=()
def tw18236527904085423546:=()
def tw14366570289218273133:=()
def tw482560972438701874:=()
def tw15616853691395890355:=()
def tw420774070657644189:=()
def tw4133451155056297706:=()
def tw5569592792026264633:=()
def tw12561380312357206252:=()
def tw15293746875412451439:=()
def tw10666390458505683608:=()
def tw14239661548096836423:=()
def tw9779795440579448443:=()
def tw11711867373621830449:=()
def tw7178380844753423805:=()
def tw12228251050892349564:=()
def tw15991306264927450206:=()
def tw3406357925750658967:=()
def tw14460610428482308574:=()
def tw12088227084647253397:=()
def tw10134732982211723601:=()
def tw17321211321174394384:=()
def tw14351378963418218479:=()
def tw5834438267731307204:=()
def tw7628452992506776556:=()
def tw3367615420632168162:=()
def tw3403581059090730756:=()
def tw12680511274508847029:=()
def tw3361507735891252759:=()
def tw8289738895977383949:=()
def tw10165275133075301885:=()
def tw13902397410984600061:=()
def tw16705813323785843397:=()
def tw134977008550302568:=()
def tw11625875544706177981:=()
def tw12901653190098188803:=()
def tw8200700320037299523:=()
def tw13360487581395481764:=()
def tw7344727007017574922:=()
def tw18395408449624883485:=()
def tw10400585447842528198:=()
def tw3564433525942564978:=()
def tw4156526256332517014:=()
def tw9998759111565105071:=()
def tw15532825387270667932:=()
def tw229290100160118122:=()
def tw15160296445100478638:=()
def tw14043856435651297236:=()
def tw10529263768853791218:=()
def tw2461628185092237337:=()
end PySem.W.Fast
set_option maxRecDepth 100000 in
set_option maxHeartbeats 0 in
theorem PySem.Challenge.cw_unfoldnet_k92_whole_poured_holds : PySem.Challenge.rw_unfoldnet_k92_whole_poured.Holds := by
 w_on;o_law;k_head;(case hw=>w_witness2)
 k_fill
 refine Uf.walk (l:=PySem.Challenge.rw_unfoldnet_k92_whole_poured) rfl rfl (fun w h Y=>PySem.W.kIn_of Y) ?F
 case F =>
  intro w mg fa h KX G hmg
  refine' Uf.all_mk KX G hmg ..
  all_goals first | k_is | rfl | kernel_rfl | decide +kernel | skip
end
