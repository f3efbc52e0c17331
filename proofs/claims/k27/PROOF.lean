import PyProof.Rows.All
import Wide.All
import OpenK.AllK
import Wide.FinOn
import Lean
import PyProof.EqAt
import PyProof.EqKinds
import PyProof.TupleCall
import PyProof.SetKind
import PyProof.DictKinds
import PyProof.CompFree
import PyProof.FactsAll.set_1
import PyProof.Seq
import PyProof.Walks
import PyProof.CollectWalk
import PyProof.WalkLemmas
import PyProof.Rows.TmSorted
import PyProof.Rows.StrMeet
import PyProof.Rows.SortStr
import PyProof.Rows.SetFrom
import KE.KDictList
import PyProof.NeKinds
import PyProof.Rows.TupDisplay
import PyProof.StrOps2
import PyProof.StrBlockH
import PyProof.Rows.RuleM_int
import PyProof.FactsAll.int_6
import PyProof.AttrMissHeap
import KE.KDictOf
import PyProof.StationsW
import PyProof.ExcClass3
import PyProof.ExcInit
import PyProof.ExcBaseAll.ValueError
import OpenK.KOwn
import KE.KRevIter
import PyProof.FString
import PyProof.FitsInt
import PyProof.RulesDel
import PyProof.RulesAs
import PyProof.ExcAttrAll.ValueError
import PyProof.ReprHeads
import PyProof.StrLawsRepr
import KE.KIsAll
import PyProof.StrCalls2
import PyProof.StrLawsTight
import PyProof.StrLawsFirst
import PyProof.WalksEnum
import PyProof.EnumMake
import PyProof.DictValues
import PyProof.DictWalks
import KE.KEqDict
import PySem.Challenge.RW_unfoldnet_k27_nets_that_crowd
set_option Elab.async false
set_option linter.all false
set_option maxRecDepth 100000
set_option maxHeartbeats 8000000
section
namespace L2
open PySem PySem.Spec PyProof.Rows
abbrev Key:=Sum Int Str
def iE:Key→Value→Bool
 | .inl k,v=>Value.isInt k v
 | .inr x,v=>Value.isStrOf x v
def Bx (w:World):Key→Int
 | .inl k=>hashInt k
 | .inr x=>hashStr w x
theorem bC:∀ {k:Key} {v:Value},iE k v = true→(∃ i t,k = Sum.inl i∧v = Value.int i t)∨(∃ x t,k = Sum.inr x∧v = Value.str x t)
 | .inl i,v,h=>by
  obtain ⟨t,e⟩:=Value.isInt_shape (k:=i) (v:=v) h
  exact .inl ⟨i,t,rfl,e⟩
 | .inr x,v,h=>by
  obtain ⟨t,e⟩:=Value.isStrOf_shape (x:=x) (v:=v) h
  exact .inr ⟨x,t,rfl,e⟩
theorem tJ (i:Int) (t:Tok):iE (.inl i) (.int i t) = true:=by simp [iE,Value.isInt]
theorem sy (x:Str) (t:Tok):iE (.inr x) (.str x t) = true:=by simp [iE,Value.isStrOf]
theorem zK (a b:Int):decide ((Sum.inl a:Key) = Sum.inl b) = (a == b):=by
 by_cases e:a = b
 ·subst e;simp
 ·have h : ¬ (Sum.inl a:Key) = Sum.inl b:=fun q=>e (Sum.inl.inj q)
  rw [decide_eq_false h]
  exact (beq_eq_false_iff_ne.mpr e).symm
theorem zQ (a b:Str):decide ((Sum.inr a:Key) = Sum.inr b) = decide (a = b):=by
 by_cases e:a = b
 ·subst e;simp
 ·have h : ¬ (Sum.inr a:Key) = Sum.inr b:=fun q=>e (Sum.inr.inj q)
  rw [decide_eq_false h,decide_eq_false e]
theorem zM (a:Int) (b:Str):decide ((Sum.inl a:Key) = Sum.inr b) = false:=decide_eq_false (fun q=>nomatch q)
theorem Ad (a:Str) (b:Int):decide ((Sum.inr a:Key) = Sum.inl b) = false:=decide_eq_false (fun q=>nomatch q)
def aZ (prog:Program) (w:World):PySem.KeyKind prog w Key where
 is:=iE
 hash:=Bx w
 inj:=fun v a b ha hb=>by
  rcases bC ha with ⟨i,t,rfl,rfl⟩ | ⟨x,t,rfl,rfl⟩
  ·rcases bC hb with ⟨j,u,rfl,e⟩ | ⟨y,u,rfl,e⟩
   ·injection e with e1 _;rw [e1]
   ·exact nomatch e
  ·rcases bC hb with ⟨j,u,rfl,e⟩ | ⟨y,u,rfl,e⟩
   ·exact nomatch e
   ·injection e with e1 _;rw [e1]
 byValue:=fun k v h=>by
  rcases bC h with ⟨i,t,rfl,rfl⟩ | ⟨x,t,rfl,rfl⟩ <;> rfl
 pyHash:=fun hv h=>by
  rcases bC hv with ⟨i,t,rfl,rfl⟩ | ⟨x,t,rfl,rfl⟩
  ·exact wpAny_pyHash_int h
  ·exact wpAny_pyHash_str h
 eqBool:=fun hu hv h=>by
  rcases bC hu with ⟨i,t,rfl,rfl⟩ | ⟨x,t,rfl,rfl⟩
  ·rcases bC hv with ⟨j,u,rfl,rfl⟩ | ⟨y,u,rfl,rfl⟩
   ·rw [zK] at h;exact wpAny_eqBool_int h
   ·rw [zM] at h;exact SeqAt.EqAt.int_str i t y u _ _ _ _ h
  ·rcases bC hv with ⟨j,u,rfl,rfl⟩ | ⟨y,u,rfl,rfl⟩
   ·rw [Ad] at h;exact SeqAt.EqAt.str_int x t j u _ _ _ _ h
   ·rw [zQ] at h;exact wpAny_eqBool_str h
 «strs»:=fun k x t v h=>by
  rcases bC h with ⟨i,u,rfl,e⟩ | ⟨y,u,rfl,e⟩
  ·exact nomatch e
  ·injection e with e1 _
   subst e1
   cases v <;> rfl
theorem qc (prog:Program) (w:World) (k:Key) (v:Value):(aZ prog w).is k v = iE k v:=rfl
theorem n6 (prog:Program) (w:World) (i:Int) (t:Tok):(aZ prog w).is (.inl i) (.int i t) = true:=tJ i t
theorem oj (prog:Program) (w:World) (x:Str) (t:Tok):(aZ prog w).is (.inr x) (.str x t) = true:=sy x t
end L2
namespace L2
open PySem PySem.Spec PyProof.Rows
inductive V where
 | non | bl (b:Bool) | int (i:Int) | str (x:Str) | byt (b:Array UInt8) | flt (b:UInt64) | ref (a:Addr) | ty (n:String)
 deriving DecidableEq
def RelV:V→Value→Prop
 | .non,u=>u = Value.none
 | .bl b,u=>u = Value.bool b
 | .int i,u=>∃ t,u = Value.int i t
 | .str x,u=>∃ t,u = Value.str x t
 | .byt b,u=>∃ t,u = Value.bytes b t
 | .flt b,u=>∃ t,u = Value.float b t
 | .ref a,u=>u = Value.ref a
 | .ty n,u=>u = Value.type n
abbrev Vals:List V→List Value→Prop:=Paired RelV
theorem Vals.length {xs:List V} {us:List Value} (r:Vals xs us):xs.length = us.length:=Paired.length r
theorem Vals.get:∀ {xs:List V} {us:List Value} {i:Nat} {x:V},Vals xs us→xs[i]? = some x→∃ u,us[i]? = some u∧RelV x u
 | _,_,_,_,.nil,e=>by simp at e
 | _,_,0,_,.cons r _,e=>by simp at e;subst e;exact ⟨_,rfl,r⟩
 | _,_,i + 1,x,.cons _ t,e=>by
  obtain ⟨u,h1,h2⟩:=Vals.get (i:=i) (x:=x) t (by simpa using e)
  exact ⟨u,by simpa using h1,h2⟩
theorem Vals.set {x:V} {u:Value} (r:RelV x u):∀ {xs:List V} {us:List Value} (i:Nat),Vals xs us→Vals (xs.set i x) (us.set i u)
 | _,_,_,.nil=>.nil
 | _,_,0,.cons _ t=>.cons r t
 | _,_,i + 1,.cons q t=>.cons q (Vals.set r i t)
theorem Vals.append:∀ {xs ys:List V} {us ws:List Value},Vals xs us→Vals ys ws→Vals (xs ++ ys) (us ++ ws)
 | _,_,_,_,.nil,s=>s
 | _,_,_,_,.cons r t,s=>.cons r (Vals.append t s)
theorem Vals.take:∀ {xs:List V} {us:List Value} (n:Nat),Vals xs us→Vals (xs.take n) (us.take n)
 | _,_,0,_=>.nil
 | _,_,_ + 1,.nil=>.nil
 | _,_,n + 1,.cons r t=>.cons r (Vals.take n t)
theorem Vals.drop:∀ {xs:List V} {us:List Value} (n:Nat),Vals xs us→Vals (xs.drop n) (us.drop n)
 | _,_,0,r=>r
 | _,_,_ + 1,.nil=>.nil
 | _,_,n + 1,.cons _ t=>Vals.drop n t
def gc:Option V→Option Value→Prop
 | some v,some u=>RelV v u
 | none,none=>True
 | _,_=>False
def KV {κ:Type} : List (κ × V)→List (κ × Value)→Prop:=Paired fun (p:κ × V) (q:κ × Value)=>p.1 = q.1∧RelV p.2 q.2
def kV:Key→V
 | .inl i=>.int i
 | .inr x=>.str x
inductive HO where
 | lst (xs:List V)
 | tup (xs:List V)
 | dK (kvs:List (Key × V)) | dT (kvs:List (List Key × V))
 | set (S:Int→Bool) (n:Nat)
 | ins (C dx:Addr) (fs:List (Str × V))
 | own (x:Addr)
 | xd (fs:List (Str × V))
 | met (f x:Addr)
 | rng (lo hi:Int)
 | frz (o:Obj) (u:HO)
 | tbl (ps:Array Value)
 | ext (φ:Heap→Prop)
abbrev Hp:=Addr→Option HO
def upd (H:Hp) (a:Addr) (o:HO):Hp:=fun b=>if b = a then some o else H b
theorem ae {H:Hp} {a:Addr} {o:HO} : upd H a o a = some o:=by unfold upd;rw [if_pos rfl]
theorem af {H:Hp} {a b:Addr} {o:HO} (h:b≠a):upd H a o b = H b:=by unfold upd;rw [if_neg h]
theorem xm {H:Hp} {a:Addr} {o u:HO} : upd (upd H a o) a u = upd H a u:=by
 funext b;unfold upd;split <;> rfl
theorem aR {H:Hp} {a b:Addr} {o u:HO} (h:H a = some o) (h' : H b = some u) (d:o≠u):a≠b:=by
 intro e;subst e;rw [h] at h';exact d (Option.some.inj h')
theorem ak {H:Hp} {a b:Addr} {o:HO} (h:H a = some o) (h' : H b = none):a≠b:=by
 intro e;subst e;rw [h] at h';cases h'
section
variable (P:Program) (w:World)
def bo (H:Hp) (h:Heap) (a:Addr):HO→Prop
 | .lst xs=>xs.length≤sizeLine∧∃ (its:List Value) (n:Nat),Vals xs its∧h.get? a = some { cls:=.type "list",data:=.seq its.toArray n }
 | .tup xs=>xs.length≤sizeLine∧∃ its:List Value,Vals xs its∧IsTup h a its.toArray
 | .dK kvs=>kvs.length≤sizeLine∧(a == sysModules) = false∧∃ vs,KV kvs vs∧h.DictOf (aZ P w) a vs
 | .dT kvs=>kvs.length≤sizeLine∧(a == sysModules) = false∧∃ xs:List (List Key × Addr × Value),
   Paired (fun (p:List Key × V) (q:List Key × Addr × Value)=>p.1 = q.1∧H q.2.1 = some (.tup (p.1.map kV))∧RelV p.2 q.2.2) kvs xs ∧
   ∃ o es ep,h.get? a = some o∧o.ExactDict∧o.data = .dict es ep∧es.toList = xs.map (entryOfKey (tupleKind (aZ P w)))∧(xs.map (·.1)).Nodup
 | .set S n=>h.SetOf (intKind P w) a S n
 | .ins C dx fs=>H dx = some (.own a)∧fs.length≤1000∧dx≠a∧h.get? a = some (PySem.W.instObj C dx) ∧
   ∃ mA,h.Ns1 dx mA∧(∀ f,gc (fs.lookup f) (mA f))∧PySem.Within mA (fs.map (·.1))
 | .own _=>∃ o,h.get? a = some o
 | .xd fs=>∃ mA,h.Ns1 a mA∧∀ f,gc (fs.lookup f) (mA f)
 | .rng lo hi=>∃ t u v,h.get? a = some { cls:=.type "range",data:=.fields #[.int lo t,.int hi u,.int 1 v] }
 | .frz o u=>h.get? a = some o∧bo H h a u
 | .tbl ps=>h.get? a = some { cls:=.none,data:=.fields ps }
 | .met f x=>h.get? a = some (PySem.W.methodObj (.ref f) (.ref x))
 | .ext φ=>φ h∧(∃ o,h.get? a = some o)∧∀ h1 h2:Heap,φ h1→(∀ o,h1.get? a = some o→h2.get? a = some o)→φ h2
def ij (H:Hp) (h:Heap):Prop:=∀ a o,H a = some o→bo P w H h a o
end
section
variable {P:Program} {w:World} {H H' : Hp} {h h' : Heap} {a:Addr} {o:HO}
theorem bo.lt (x:bo P w H h a o):a < h.objs.size:=by
 cases o with
 | lst xs=>obtain ⟨_,_,_,_,e⟩:=x;exact Heap.lt_size e
 | tup xs=>obtain ⟨_,_,_,p⟩:=x;exact p.lt
 | dK kvs=>obtain ⟨_,_,_,_,o,_,_,e,_⟩:=x;exact Heap.lt_size e
 | dT kvs=>obtain ⟨_,_,_,_,o,_,_,e,_⟩:=x;exact Heap.lt_size e
 | set S n=>obtain ⟨o,_,_,_,e,_⟩:=x;exact Heap.lt_size e
 | ins C dx fs=>obtain ⟨_,_,_,e,_⟩:=x;exact Heap.lt_size e
 | own y=>obtain ⟨_,e⟩:=x;exact Heap.lt_size e
 | xd fs=>obtain ⟨_,⟨_,_,_,e,_⟩,_⟩:=x;exact Heap.lt_size e
 | rng lo hi=>obtain ⟨_,_,_,e⟩:=x;exact Heap.lt_size e
 | frz ob u=>obtain ⟨e,_⟩:=x;exact Heap.lt_size e
 | tbl ps=>exact Heap.lt_size (show h.get? a = some _ from x)
 | met f y=>exact Heap.lt_size (show h.get? a = some _ from x)
 | ext φ=>obtain ⟨_,⟨_,e⟩,_⟩:=x;exact Heap.lt_size e
theorem Paired.dh {α β:Type} {F G:α→β→Prop} : ∀ {l₁:List α} {l₂:List β},Paired F l₁ l₂→(∀ a b,F a b→G a b)→Paired G l₁ l₂
 | _,_,.nil,_=>.nil
 | _,_,.cons r t,f=>.cons (f _ _ r) (Paired.dh t f)
theorem bo.jf (x:bo P w H h a o) (k:∀ b u,(b = a∨H b = some (.own a))→h.get? b = some u→h'.get? b = some u)
  (ho:∀ b,H b = some (.own a)→H' b = some (.own a)) (ht:∀ b xs,H b = some (.tup xs)→H' b = some (.tup xs)):bo P w H' h' a o:=by
 induction o with
 | lst xs=>obtain ⟨z,its,n,r,e⟩:=x;exact ⟨z,its,n,r,k _ _ (.inl rfl) e⟩
 | tup xs=>obtain ⟨z,its,r,ob,e,c⟩:=x;exact ⟨z,its,r,ob,k _ _ (.inl rfl) e,c⟩
 | dK kvs=>obtain ⟨z,y,vs,r,ob,es,ep,e,c⟩:=x;exact ⟨z,y,vs,r,ob,es,ep,k _ _ (.inl rfl) e,c⟩
 | dT kvs =>
  obtain ⟨z,y,xs,r,ob,es,ep,e,c⟩:=x
  exact ⟨z,y,xs,Paired.dh r fun p q z=>⟨z.1,ht _ _ z.2.1,z.2.2⟩,ob,es,ep,k _ _ (.inl rfl) e,c⟩
 | set S n=>obtain ⟨ob,es,ep,t,e,c⟩:=x;exact ⟨ob,es,ep,t,k _ _ (.inl rfl) e,c⟩
 | ins C dx fs =>
  obtain ⟨d,z,ne,e,mA,⟨od,es,ep,e2,c⟩,r⟩:=x
  exact ⟨ho _ d,z,ne,k _ _ (.inl rfl) e,mA,⟨od,es,ep,k _ _ (.inr d) e2,c⟩,r⟩
 | own y=>obtain ⟨ob,e⟩:=x;exact ⟨ob,k _ _ (.inl rfl) e⟩
 | xd fs=>obtain ⟨mA,⟨od,es,ep,e,c⟩,r⟩:=x;exact ⟨mA,⟨od,es,ep,k _ _ (.inl rfl) e,c⟩,r⟩
 | rng lo hi=>obtain ⟨t,u,v,e⟩:=x;exact ⟨t,u,v,k _ _ (.inl rfl) e⟩
 | frz ob u ih=>obtain ⟨e,q⟩:=x;exact ⟨k _ _ (.inl rfl) e,ih q⟩
 | tbl ps =>
  have e:h.get? a = some { cls:=.none,data:=.fields ps }:=x
  show h'.get? a = some { cls:=.none,data:=.fields ps }
  exact k a _ (.inl rfl) e
 | met f y =>
  have e:h.get? a = some (PySem.W.methodObj (.ref f) (.ref y)):=x
  show h'.get? a = some (PySem.W.methodObj (.ref f) (.ref y))
  exact k a _ (.inl rfl) e
 | ext φ=>obtain ⟨p,⟨o,e⟩,st⟩:=x;exact ⟨st _ _ p fun o q=>k _ _ (.inl rfl) q,⟨o,k _ _ (.inl rfl) e⟩,st⟩
theorem ij.lt (x:ij P w H h) (e:H a = some o):a < h.objs.size:=(x a o e).lt
theorem ij.fresh (x:ij P w H h) (e:h.objs.size≤a):H a = none:=by
 cases q:H a with
 | none=>rfl
 | some u=>exact absurd (Nat.lt_of_lt_of_le (x.lt q) e) (Nat.lt_irrefl _)
theorem ij.kept (x:ij P w H h) (k:∀ b u,h.get? b = some u→h'.get? b = some u):ij P w H h':=fun a o e =>
 (x a o e).jf (fun b u _ q=>k b u q) (fun _ q=>q) fun _ _ q=>q
theorem ij.laid (x:ij P w H h) (k:∀ b u,h.get? b = some u→h'.get? b = some u) (hp:h.objs.size≤a) (new:bo P w (upd H a o) h' a o):ij P w (upd H a o) h':=fun b u e=>by
 have hn:=x.fresh hp
 by_cases hb:b = a
 ·subst hb;rw [ae] at e;cases e;exact new
 ·rw [af hb] at e
  exact (x b u e).jf (fun c v _ q=>k c v q) (fun c q=>by rw [af (ak q hn)];exact q) fun c xs q=>by rw [af (ak q hn)];exact q
end
def Rd (H:Hp) (a:Addr) (u:HO):Prop:=H a = some u∨∃ o,H a = some (.frz o u)
theorem Rd.ok {P:Program} {w:World} {H:Hp} {h:Heap} {a:Addr} {u:HO} (r:Rd H a u) (x:ij P w H h):bo P w H h a u:=by
 rcases r with r | ⟨o,r⟩
 ·exact x a u r
 ·obtain ⟨_,q⟩:=x a _ r
  exact q
def AS:Option HO→Prop
 | some (.lst _)=>True
 | some (.dK _)=>True
 | some (.dT _)=>True
 | some (.set _ _)=>True
 | some (.ins _ _ _)=>True
 | some (.ext _)=>True
 | _=>False
section
variable {P:Program} {w:World} {H:Hp} {h h' : Heap} {x e:Addr} {o' : HO}
theorem ij.write (ok:ij P w H h) (mu:AS (H x)) (he:e = x∨H e = some (.own x)) (k:∀ b u,b≠e→h.get? b = some u→h'.get? b = some u) (heo:∃ u,h'.get? e = some u)
  (new:bo P w (upd H x o') h' x o'):ij P w (upd H x o') h':=fun b u q=>by
 have nown:∀ c y,H c = some (.own y)→c≠x:=fun c y r z=>by subst z;rw [r] at mu;exact mu
 have ntup:∀ c xs,H c = some (.tup xs)→c≠x:=fun c xs r z=>by subst z;rw [r] at mu;exact mu
 by_cases hb:b = x
 ·subst hb;rw [ae] at q;cases q;exact new
 ·rw [af hb] at q
  by_cases hbe:b = e
  ·have q' : H b = some (.own x):=by
    rcases he with z | z
    ·exact absurd (hbe.trans z) hb
    ·rw [hbe];exact z
   rw [q] at q';cases q'
   obtain ⟨v,hv⟩:=heo
   exact ⟨v,by rw [hbe];exact hv⟩
  ·refine (ok b u q).jf (fun c v hc r=>k c v ?_ r) (fun c r=>by rw [af (nown c b r)];exact r) fun c xs r=>by rw [af (ntup c xs r)];exact r
   rcases hc with rfl | hc
   ·exact hbe
   ·rintro rfl
    rcases he with z | z
    ·exact nown c b hc z
    ·rw [hc] at z;cases z;exact hb rfl
end
structure Un (fs ex:List Addr) (H H' : Hp) (h h' : Heap):Prop where
 keep:∀ b o,h.get? b = some o→H b = none→b ∉ fs→b ∉ ex→h'.get? b = some o
 slot:∀ b o,h.get? b = some o→H b = none→b ∈ fs→b ∉ ex→∃ sl,h'.get? b = some { o with slots:=sl }
 free:∀ b o,h.get? b = some o→H b = none→b ∉ ex→H' b = none
 there:∀ b o,h.get? b = some o→b ∉ ex→∃ o',h'.get? b = some o'
 cz:∀ b xs,H b = some (.tup xs)→H' b = some (.tup xs)
 frzs:∀ b o u,H b = some (.frz o u)→H' b = some (.frz o u)
 tbls:∀ b ps,H b = some (.tbl ps)→∃ more,H' b = some (.tbl (ps ++ more))
section
variable {fs fs' ex ex' : List Addr} {H H1 H2:Hp} {h h1 h2 h' : Heap} {a x e:Addr} {o:HO}
theorem Un.any (u:Un fs ex H H1 h h1) {b:Addr} {ob:Obj} (q:h.get? b = some ob) (n:H b = none) (hx:b ∉ ex):∃ sl,h1.get? b = some { ob with slots:=sl }:=by
 by_cases hb:b ∈ fs
 ·exact u.slot b ob q n hb hx
 ·exact ⟨ob.slots,u.keep b ob q n hb hx⟩
theorem Un.kept (k:∀ b u,h.get? b = some u→h'.get? b = some u):Un fs ex H H h h' :=
 ⟨fun b ob q _ _ _=>k b ob q,fun b ob q _ _ _=>⟨ob.slots,k b ob q⟩,fun _ _ _ n _=>n,fun b ob q _=>⟨ob,k b ob q⟩,fun _ _ q=>q,fun _ _ _ q=>q,fun _ ps q=>⟨#[],by rw [q];simp⟩⟩
theorem Un.refl:Un fs ex H H h h:=Un.kept fun _ _ q=>q
theorem Un.laid (k:∀ b u,h.get? b = some u→h'.get? b = some u) (hp:h.objs.size≤a) (hn:H a = none):Un fs ex H (upd H a o) h h' where
 keep:=fun b u q _ _ _=>k b u q
 slot:=fun b u q _ _ _=>⟨u.slots,k b u q⟩
 free:=fun b u q n _=>by rw [af (Nat.ne_of_lt (Nat.lt_of_lt_of_le (Heap.lt_size q) hp))];exact n
 there:=fun b u q _=>⟨u,k b u q⟩
 cz:=fun b xs q=>by rw [af (ak q hn)];exact q
 frzs:=fun b u xs q=>by rw [af (ak q hn)];exact q
 tbls:=fun b ps q=>⟨#[],by rw [af (ak q hn),q];simp⟩
theorem Un.write (mu:AS (H x)) (he:e = x∨H e = some (.own x)) (k:∀ b u,b≠e→h.get? b = some u→h'.get? b = some u) (heo:∃ u,h'.get? e = some u):Un fs ex H (upd H x o) h h':=by
 have hx:∀ b,H b = none→b≠x:=fun b n z=>by subst z;rw [n] at mu;exact mu
 have hb:∀ b,H b = none→b≠e:=fun b n z=>by
  subst z
  rcases he with r | r
  ·exact hx b n r
  ·rw [n] at r;cases r
 have hm:∀ b u,H b = some u→¬ AS (some u)→b≠x:=fun b u q nm z=>by subst z;rw [q] at mu;exact nm mu
 refine ⟨fun b u q n _ _=>k b u (hb b n) q,fun b u q n _ _=>⟨u.slots,k b u (hb b n) q⟩,fun b u q n _=>by rw [af (hx b n)];exact n,fun b u q _=>?_,
  fun b xs q=>by rw [af (hm b _ q fun z=>z)];exact q,fun b u xs q=>by rw [af (hm b _ q fun z=>z)];exact q,fun b ps q=>⟨#[],by rw [af (hm b _ q fun z=>z),q];simp⟩⟩
 by_cases hbe:b = e
 ·subst hbe;exact heo
 ·exact ⟨u,k b u hbe q⟩
end
def Bk (h:Heap) (H:Hp):List Addr:=(List.range h.objs.size).filter fun a=>(H a).isSome
def mQ (h:Heap) (H:Hp):Heap:=PySem.W.hideAll h (Bk h H)
theorem sM (h:Heap) (H:Hp):(mQ h H).objs.size = h.objs.size:=PySem.W.hideAll_size _ _
theorem vF {h:Heap} {H:Hp} {b:Addr} {o:Obj} (e:h.get? b = some o) (n:H b = none):(mQ h H).get? b = some o :=
 PySem.W.hideAll_get _ e fun hm=>by
  have q:(H b).isSome = true:=(List.mem_filter.mp hm).2
  rw [n] at q;simp at q
theorem xC {h:Heap} {H:Hp} {b:Addr} {o:Obj} (e:(mQ h H).get? b = some o):h.get? b = some o∧H b = none:=by
 have e' : h.get? b = some o:=PySem.W.of_hideAll (Bk h H) e
 refine ⟨e',?_⟩
 cases q:H b with
 | none=>rfl
 | some x =>
  have hm:b ∈ Bk h H:=List.mem_filter.mpr ⟨List.mem_range.mpr (Heap.lt_size e'),by simp [q]⟩
  have z:(mQ h H).get? b = none:=PySem.W.hideAll_none (Bk h H) hm
  rw [z] at e;cases e
end L2
namespace L2
open PySem PySem.Spec PyProof.Rows
structure Mod (K:PySem.W.Frag) (mg:Str→Option Value) (base:Heap):Prop where
 kin:K.In base
 glob:base.Ns mainGlobals mg
 blt:∃ mb,base.Ns builtinsNs mb∧∀ x:Str,x≠"__name__"→mb x = bootBuiltins x
 nolimit:base.NoLimit
structure Cx where
 prog:Program
 w:World
 K:PySem.W.Frag
 mg:Str→Option Value
 base:Heap
 A:Around
 N:List Str
 s₀:Shared
 H₀:Hp
 env:Env
 outer:List Env
 stack:List Env
 ex:List Addr
 fn:Str→Bool
 calm:Bool
 pn:List (Addr × Obj)
 xe:Value→Shared→Prop
def g9 (l:List Env):List Addr:=l.filterMap (·.frame)
abbrev Cx.fs (X:Cx):List Addr:=g9 X.outer
def Bn (sc:Scope) (x:Str):Prop:=sc.names.lookup x = some .local∨sc.names.lookup x = some .cell∨sc.names.lookup x = some .free
def Loc (sc:Scope) (x:Str):Prop:=sc.names.lookup x = some .local∨sc.names.lookup x = some .cell
def Look (env:Env) (h:Heap) (m:Str→Option Value) (x:Str) (u:Value):Prop :=
 (env.kindOf x = some .local∧m x = some u)∨((env.kindOf x = some .cell∨env.kindOf x = some .free)∧∃ c,env.cells.lookup x = some c∧h.IsCell c (some u))
structure Cx.Ok (X:Cx):Prop where
 mod:Mod X.K X.mg X.base
 kind:X.env.scope.kind = .function
 glob:X.env.globals = mainGlobals
 blt:X.env.builtins = builtinsNs
 above:X.s₀.heap.objs.size≤X.env.locals
 inj:∀ x y c,X.env.cells.lookup x = some c→X.env.cells.lookup y = some c→x = y
 has:∀ x,(X.env.kindOf x = some .cell∨X.env.kindOf x = some .free)→∃ c,X.env.cells.lookup x = some c
 cab:∀ x c,X.fn x = true→X.env.cells.lookup x = some c→X.s₀.heap.objs.size≤c
 hd:X.calm = true→X.A.handled = none
 frames:X.A.frames = some X.stack
 stk:X.stack = X.outer∨(X.stack = X.env :: X.outer∧X.env.frame = some X.env.locals)
 exf:∀ b ∈ X.ex,b≠X.env.locals∧∀ x c,X.env.cells.lookup x = some c→c≠b
 bs:∀ b o,X.base.get? b = some o→X.s₀.heap.get? b = some o∧X.H₀ b = none
 bsz:X.base.objs.size≤X.s₀.heap.objs.size
 noex:∀ b o,X.base.get? b = some o→b ∉ X.ex
 exfs:∀ b ∈ X.ex,b ∉ X.fs
 ic:X.s₀.heap.FunFrames X.base X.outer
 frf:∀ b ∈ X.fs,X.H₀ b = none
structure Inv (X:Cx) (pins:List (Addr × Obj)) (σ:List (Option V)) (H:Hp) (s:Shared):Prop where
 ok:X.Ok
 os:s.os = X.s₀.os
 bare:AllBare s.gens
 base:Un X.fs X.ex X.H₀ H X.s₀.heap s.heap
 loc:∃ m,s.heap.Ns X.env.locals m∧∀ (i:Nat) (x:Str) (v:V),X.N[i]? = some x→σ[i]? = some (some v)→Bn X.env.scope x→∃ u,RelV v u∧Look X.env s.heap m x u
 cell:∀ x c,X.env.cells.lookup x = some c→∃ v,s.heap.IsCell c v
 free:H X.env.locals = none
 freeC:∀ x c,X.env.cells.lookup x = some c→H c = none
 pin:∀ p ∈ X.pn ++ pins,s.heap.get? p.1 = some p.2∧H p.1 = none∧p.1≠X.env.locals∧p.1 ∉ X.fs∧∀ v,p.2.data≠.cell v
 hok:ij X.prog X.w H s.heap
 len:σ.length = X.N.length
section
variable {X:Cx} {pins:List (Addr × Obj)} {σ:List (Option V)} {H H' : Hp} {s:Shared} {h' : Heap}
theorem Cx.Ok.BY (ok:X.Ok) {b:Addr} {o:Obj} (e:X.base.get? b = some o):b ∉ X.fs:=fun hb=>by
 have:=(ok.ic.mem hb).1
 rw [e] at this;cases this
theorem Inv.bs (I:Inv X pins σ H s):∀ b o,X.base.get? b = some o→s.heap.get? b = some o∧H b = none:=fun b o e =>
 ⟨I.base.keep b o (I.ok.bs b o e).1 (I.ok.bs b o e).2 (I.ok.BY e) (I.ok.noex b o e),I.base.free b o (I.ok.bs b o e).1 (I.ok.bs b o e).2 (I.ok.noex b o e)⟩
theorem Inv.bk (I:Inv X pins σ H s):∀ b o,X.base.get? b = some o→s.heap.get? b = some o:=fun b o e=>(I.bs b o e).1
theorem Inv.mod (I:Inv X pins σ H s):Mod X.K X.mg X.base:=I.ok.mod
theorem Inv.eV (I:Inv X pins σ H s):X.K.In s.heap:=I.ok.mod.kin.keeps I.bk
theorem Inv.lt (I:Inv X pins σ H s):X.env.locals < s.heap.objs.size:=let ⟨_,hn,_⟩:=I.loc;hn.lt
theorem Inv.sz (I:Inv X pins σ H s):X.s₀.heap.objs.size≤s.heap.objs.size:=Nat.le_trans I.ok.above (Nat.le_of_lt I.lt)
theorem Inv.BN (I:Inv X pins σ H s) {a:Addr} (h:s.heap.objs.size≤a):a ∉ X.fs:=fun hb=>by
 obtain ⟨_,o,ho,_⟩:=I.ok.ic.mem hb
 exact absurd (Nat.lt_of_lt_of_le (Heap.lt_size ho) (Nat.le_trans I.sz h)) (Nat.lt_irrefl _)
theorem Inv.uK (I:Inv X pins σ H s):∀ x c,X.env.cells.lookup x = some c→c≠X.env.locals:=fun x c e z=>by
 obtain ⟨v,o,ho,hd⟩:=I.cell x c e
 obtain ⟨m,⟨o',es,ep,ho',hd',_⟩,_⟩:=I.loc
 rw [z,ho'] at ho;cases ho;rw [hd'] at hd;cases hd
theorem Inv.ic (I:Inv X pins σ H s):s.heap.FunFrames X.base X.outer:=by
 have all:∀ (l:List Env),(∀ b ∈ g9 l,b ∈ X.fs)→X.s₀.heap.FunFrames X.base l→s.heap.FunFrames X.base l:=by
  intro l
  induction l with
  | nil=>intro _ _;trivial
  | cons env r ih =>
   intro hs hl
   obtain ⟨hk,⟨L,o,hf,hn,ho,hd⟩,hr⟩:=hl
   have hL:L ∈ X.fs:=hs L (by unfold g9;rw [List.filterMap_cons,hf];exact List.mem_cons_self)
   obtain ⟨sl,e⟩:=I.base.slot L o ho (I.ok.frf L hL) hL fun z=>I.ok.exfs L z hL
   exact ⟨hk,⟨L,_,hf,hn,e,hd⟩,ih (fun b hb=>hs b (by unfold g9;rw [List.filterMap_cons,hf];exact List.mem_cons_of_mem _ hb)) hr⟩
 exact all X.outer (fun _ hb=>hb) I.ok.ic
theorem Inv.stack (I:Inv X pins σ H s):s.heap.FunFrames X.base X.stack:=by
 rcases I.ok.stk with e | ⟨e,hf⟩
 ·rw [e];exact I.ic
 ·rw [e]
  obtain ⟨m,hn,_⟩:=I.loc
  refine .cons (by rw [I.ok.kind];decide) hf hn ?_ I.ic
  exact Heap.get?_none_of_le (Nat.le_trans I.ok.bsz I.ok.above)
theorem Inv.kH (I:Inv X pins σ H s):∀ b ∈ g9 X.stack,b ∈ X.env.locals :: X.fs:=fun b hb=>by
 rcases I.ok.stk with e | ⟨e,hf⟩
 ·rw [e] at hb;exact List.mem_cons_of_mem _ hb
 ·rw [e] at hb
  unfold g9 at hb
  rw [List.filterMap_cons,hf] at hb
  exact hb
theorem Inv.jP (I:Inv X pins σ H s):∀ b ∈ g9 X.stack,H b = none:=fun b hb=>by
 rcases List.mem_cons.mp (I.kH b hb) with e | hb
 ·rw [e];exact I.free
 ·obtain ⟨_,o,ho,_⟩:=I.ok.ic.mem hb
  exact I.base.free b o ho (I.ok.frf b hb) fun z=>I.ok.exfs b z hb
theorem Inv.step {g' : Array GenState} {t' : Nat} {d' : Drawn} {ch:List Addr} (I:Inv X pins σ H s)
  (hch:∀ b ∈ ch,(b ∈ X.ex∨X.s₀.heap.objs.size≤b)∧b≠X.env.locals∧(∀ x c,X.env.cells.lookup x = some c→c≠b)∧∀ p ∈ X.pn ++ pins,p.1≠b)
  (keep:∀ b o,b≠X.env.locals→b ∉ X.fs→b ∉ ch→s.heap.get? b = some o→H b = none→h'.get? b = some o)
  (slot:∀ b o,b≠X.env.locals→b ∈ X.fs→b ∉ ch→s.heap.get? b = some o→H b = none→∃ sl,h'.get? b = some { o with slots:=sl }) (free:∀ b o,b ∉ ch→s.heap.get? b = some o→H b = none→H' b = none)
  (there:∀ b o,b ∉ ch→s.heap.get? b = some o→∃ o',h'.get? b = some o')
  (cz:∀ b xs,H b = some (.tup xs)→H' b = some (.tup xs)) (frzs:∀ b o u,H b = some (.frz o u)→H' b = some (.frz o u)) (tbls:∀ b ps,H b = some (.tbl ps)→∃ more,H' b = some (.tbl (ps ++ more)))
  (ns:∀ m,s.heap.Ns X.env.locals m→h'.Ns X.env.locals m) (hok:ij X.prog X.w H' h') (hg:AllBare g') :
  Inv X pins σ H' { s with heap:=h',gens:=g',drawn:=d',toks:=t' }:=by
 have neL:∀ b o,X.s₀.heap.get? b = some o→b≠X.env.locals:=fun b o e=>Nat.ne_of_lt (Nat.lt_of_lt_of_le (Heap.lt_size e) I.ok.above)
 have neC:∀ b o,X.s₀.heap.get? b = some o→b ∉ X.ex→b ∉ ch:=fun b o e hx hb=>by
  rcases (hch b hb).1 with z | z
  ·exact hx z
  ·exact absurd (Nat.lt_of_lt_of_le (Heap.lt_size e) z) (Nat.lt_irrefl _)
 have cellK:∀ x c,X.env.cells.lookup x = some c→∀ v,s.heap.IsCell c v→h'.IsCell c v:=fun x c e v ⟨o,ho,hd⟩=>by
  have nch:c ∉ ch:=fun z=>(hch c z).2.2.1 x c e rfl
  by_cases hc:c ∈ X.fs
  ·obtain ⟨sl,q⟩:=slot c o (I.uK x c e) hc nch ho (I.freeC x c e)
   exact ⟨_,q,hd⟩
  ·exact ⟨o,keep c o (I.uK x c e) hc nch ho (I.freeC x c e),hd⟩
 refine ⟨I.ok,I.os,hg,⟨fun b o e n hb hx=>?_,fun b o e n hb hx=>?_,fun b o e n hx=>?_,fun b o e hx=>?_,fun b xs e=>cz b xs (I.base.cz b xs e),fun b o xs e=>frzs b o xs (I.base.frzs b o xs e),fun b ps e=>?_⟩,?_,fun x c e=>?_,?_,fun x c e=>?_,fun p hp=>?_,hok,I.len⟩
 ·exact keep b o (neL b o e) hb (neC b o e hx) (I.base.keep b o e n hb hx) (I.base.free b o e n hx)
 ·obtain ⟨sl,e1⟩:=I.base.slot b o e n hb hx
  obtain ⟨sl',e2⟩:=slot b _ (neL b o e) hb (neC b o e hx) e1 (I.base.free b o e n hx)
  exact ⟨sl',e2⟩
 ·obtain ⟨o',e1⟩:=I.base.there b o e hx
  exact free b o' (neC b o e hx) e1 (I.base.free b o e n hx)
 ·obtain ⟨o',e1⟩:=I.base.there b o e hx
  exact there b o' (neC b o e hx) e1
 ·obtain ⟨m1,e1⟩:=I.base.tbls b ps e
  obtain ⟨m2,e2⟩:=tbls b _ e1
  exact ⟨m1 ++ m2,by rw [e2,Array.append_assoc]⟩
 ·obtain ⟨m,hn,hl⟩:=I.loc
  refine ⟨m,ns m hn,fun i x v e1 e2 e3=>?_⟩
  obtain ⟨u,r,l⟩:=hl i x v e1 e2 e3
  refine ⟨u,r,?_⟩
  rcases l with l | ⟨k,c,e,z⟩
  ·exact .inl l
  ·exact .inr ⟨k,c,e,cellK x c e _ z⟩
 ·obtain ⟨v,z⟩:=I.cell x c e
  exact ⟨v,cellK x c e v z⟩
 ·obtain ⟨m,⟨o,_,_,ho,_⟩,_⟩:=I.loc
  exact free _ o (fun z=>(hch _ z).2.1 rfl) ho I.free
 ·obtain ⟨v,o,ho,hd⟩:=I.cell x c e
  exact free c o (fun z=>(hch c z).2.2.1 x c e rfl) ho (I.freeC x c e)
 ·obtain ⟨e,n,ne,nf,d⟩:=I.pin p hp
  have nch:p.1 ∉ ch:=fun z=>(hch p.1 z).2.2.2 p hp rfl
  exact ⟨keep p.1 p.2 ne nf nch e n,free p.1 p.2 nch e n,ne,nf,d⟩
theorem Inv.un {t' : Nat} (I:Inv X pins σ H s) (u:Un X.fs [] H H' s.heap h') (hok:ij X.prog X.w H' h'):Inv X pins σ H' { s with heap:=h',toks:=t' }:=by
 obtain ⟨m,⟨o,es,ep,ho,r⟩,_⟩:=id I.loc
 obtain ⟨sl,hL⟩:=u.any ho I.free (by simp)
 exact I.step (g':=s.gens) (d':=s.drawn) (ch:=[]) (fun _ z=>nomatch z) (fun b o _ hb _ e n=>u.keep b o e n hb (by simp)) (fun b o _ hb _ e n=>u.slot b o e n hb (by simp)) (fun b o _ e n=>u.free b o e n (by simp)) (fun b o _ e=>u.there b o e (by simp)) u.cz u.frzs u.tbls (fun m' hm=>by
  obtain ⟨o',es',ep',ho',r'⟩:=hm
  rw [ho] at ho';cases ho'
  exact ⟨_,es',ep',hL,r'⟩) hok I.bare
theorem Inv.call {g' : Array GenState} {t' : Nat} {d' : Drawn} {ch:List Addr} (I:Inv X pins σ H s) (u:Un (g9 X.stack) ch H H' s.heap h') (hok:ij X.prog X.w H' h') (hg:AllBare g')
  (hch:∀ b ∈ ch,(b ∈ X.ex∨X.s₀.heap.objs.size≤b)∧b≠X.env.locals∧(∀ x c,X.env.cells.lookup x = some c→c≠b)∧∀ p ∈ X.pn ++ pins,p.1≠b) :
  Inv X pins σ H' { s with heap:=h',gens:=g',drawn:=d',toks:=t' }:=by
 obtain ⟨m,⟨o,es,ep,ho,r⟩,_⟩:=id I.loc
 obtain ⟨sl,hL⟩:=u.any ho I.free fun z=>(hch _ z).2.1 rfl
 exact I.step (ch:=ch) hch (fun b o hL hb hc e n=>u.keep b o e n (fun z=>(List.mem_cons.mp (I.kH b z)).elim hL hb) hc) (fun b o _ _ hc e n=>u.any e n hc) (fun b o hc e n=>u.free b o e n hc) (fun b o hc e=>u.there b o e hc) u.cz u.frzs u.tbls (fun m' hm=>by
  obtain ⟨o',es',ep',ho',r'⟩:=hm
  rw [ho] at ho';cases ho'
  exact ⟨_,es',ep',hL,r'⟩) hok hg
theorem Inv.turned {t' : Nat} {it:Addr} (I:Inv X pins σ H s) (k:∀ b o,b≠it→s.heap.get? b = some o→h'.get? b = some o) (hn:H it = none) (hL:it≠X.env.locals)
  (h1:it ∈ X.ex∨X.s₀.heap.objs.size≤it) (h2:∀ x c,X.env.cells.lookup x = some c→c≠it) (h3:∀ p ∈ X.pn ++ pins,p.1≠it):Inv X pins σ H { s with heap:=h',toks:=t' }:=by
 have nit:∀ b u,H b = some u→b≠it:=fun b u e z=>by rw [z,hn] at e;cases e
 refine I.step (g':=s.gens) (d':=s.drawn) (ch:=[it]) (fun b hb=>?_) (fun b o _ _ hc e _=>k b o (fun z=>hc (by simp [z])) e) (fun b o _ _ hc e _=>⟨o.slots,k b o (fun z=>hc (by simp [z])) e⟩) (fun _ _ _ _ n=>n)
  (fun b o hc e=>⟨o,k b o (fun z=>hc (by simp [z])) e⟩) (fun _ _ e=>e) (fun _ _ _ e=>e) (fun b ps e=>⟨#[],by rw [e];simp⟩) (fun m hm=>?_) (fun b u e=>?_) I.bare
 ·have e:b = it:=by simpa using hb
  subst e
  exact ⟨h1,hL,h2,h3⟩
 ·obtain ⟨o,es,ep,ho,r⟩:=hm
  exact ⟨o,es,ep,k _ o (Ne.symm hL) ho,r⟩
 ·refine (I.hok b u e).jf (fun c v hc q=>k c v ?_ q) (fun _ q=>q) fun _ _ q=>q
  rcases hc with z | z
  ·rw [z];exact nit b u e
  ·exact nit c _ z
theorem Inv.tok (I:Inv X pins σ H s) (t:Nat):Inv X pins σ H { s with toks:=t }:=I.un (h':=s.heap) (t':=t) Un.refl I.hok
theorem Inv.kept {t' : Nat} (I:Inv X pins σ H s) (k:∀ b u,s.heap.get? b = some u→h'.get? b = some u):Inv X pins σ H { s with heap:=h',toks:=t' }:=I.un (Un.kept k) (I.hok.kept k)
theorem Inv.laid {a:Addr} {o:HO} {t' : Nat} (I:Inv X pins σ H s) (k:∀ b u,s.heap.get? b = some u→h'.get? b = some u) (hp:s.heap.objs.size≤a) (new:bo X.prog X.w (upd H a o) h' a o) :
  Inv X pins σ (upd H a o) { s with heap:=h',toks:=t' }:=I.un (Un.laid k hp (I.hok.fresh hp)) (I.hok.laid k hp new)
theorem Inv.write {x e:Addr} {o:HO} {t' : Nat} (I:Inv X pins σ H s) (mu:AS (H x)) (he:e = x∨H e = some (.own x)) (k:∀ b u,b≠e→s.heap.get? b = some u→h'.get? b = some u) (heo:∃ u,h'.get? e = some u)
  (new:bo X.prog X.w (upd H x o) h' x o):Inv X pins σ (upd H x o) { s with heap:=h',toks:=t' }:=I.un (Un.write mu he k heo) (I.hok.write mu he k heo new)
theorem Inv.qR {pins' : List (Addr × Obj)} (I:Inv X pins σ H s) (h:∀ p ∈ pins',s.heap.get? p.1 = some p.2∧H p.1 = none∧p.1≠X.env.locals∧p.1 ∉ X.fs∧∀ v,p.2.data≠.cell v):Inv X pins' σ H s :=
 ⟨I.ok,I.os,I.bare,I.base,I.loc,I.cell,I.free,I.freeC,fun p hp=>(List.mem_append.mp hp).elim (fun z=>I.pin p (List.mem_append_left _ z)) (h p),I.hok,I.len⟩
theorem ku {N:List Str} (hN:N.Nodup) {i j:Nat} {x:Str} (a:N[i]? = some x) (b:N[j]? = some x):i = j:=by
 obtain ⟨h1,e1⟩:=List.getElem?_eq_some_iff.mp a
 obtain ⟨h2,e2⟩:=List.getElem?_eq_some_iff.mp b
 exact (List.getElem_inj hN).mp (e1.trans e2.symm)
theorem lu {M:Model} {A:Around} {E:Value→Shared→Prop} {i:Nat} {x:Str} {v:V} {u:Value} {Q:Unit→Shared→Prop} (I:Inv X pins σ H s) (hN:X.N.Nodup) (hi:X.N[i]? = some x) (hx:Loc X.env.scope x) (r:RelV v u)
  (h:∀ s',Inv X pins (σ.set i (some v)) H s'→(∃ a,Heap.SameBut a s.heap s'.heap∧(a = X.env.locals∨X.env.cells.lookup x = some a))→Q () s') (hf:X.fn x = true∨X.env.scope.names.lookup x = some .local:=by first | exact .inl rfl | exact .inr rfl | assumption):wpAny M A (storeName X.env x u) Q E s:=by
 obtain ⟨m,hn,hl⟩:=id I.loc
 have hcls:(X.env.scope.kind == .class || (X.env.scope.kind == .module && X.env.locals != X.env.globals)) = false:=by rw [I.ok.kind];rfl
 have hiσ:i < σ.length:=by rw [I.len];exact (List.getElem?_eq_some_iff.mp hi).1
 have uK:=I.uK
 have tracked:∀ {a:Addr} {h' : Heap},(∃ o,s.heap.get? a = some o∧H a = none)→Heap.SameBut a s.heap h'→ij X.prog X.w H h':=fun {a h'} ha hs b ob e=>by
  obtain ⟨_,_,hfree⟩:=ha
  refine (I.hok b ob e).jf (fun c w' hc q=>(hs.2 c ?_).trans q) (fun _ q=>q) fun _ _ q=>q
  rintro rfl
  rcases hc with rfl | hc
  ·rw [hfree] at e;cases e
  ·rw [hfree] at hc;cases hc
 rcases hx with hk | hk
 ·refine wpAny_storeName_local hk hn (fun h' hn' hs=>?_) hcls
  obtain ⟨oL,_,_,hoL,_⟩:=id hn
  refine h _ ⟨I.ok,I.os,I.bare,⟨fun b o e n hb hx=>?_,fun b o e n hb hx=>?_,I.base.free,fun b o e hx=>?_,I.base.cz,I.base.frzs,I.base.tbls⟩,⟨_,hn',fun j y v' e1 e2 e3=>?_⟩,fun y c e=>?_,I.free,I.freeC,fun p hp=>?_,tracked ⟨oL,hoL,I.free⟩ hs,by simpa using I.len⟩ ⟨_,hs,.inl rfl⟩
  ·exact (hs.2 b (Nat.ne_of_lt (Nat.lt_of_lt_of_le (Heap.lt_size e) I.ok.above))).trans (I.base.keep b o e n hb hx)
  ·obtain ⟨sl,e1⟩:=I.base.slot b o e n hb hx
   exact ⟨sl,(hs.2 b (Nat.ne_of_lt (Nat.lt_of_lt_of_le (Heap.lt_size e) I.ok.above))).trans e1⟩
  ·obtain ⟨o',e1⟩:=I.base.there b o e hx
   exact ⟨o',(hs.2 b (Nat.ne_of_lt (Nat.lt_of_lt_of_le (Heap.lt_size e) I.ok.above))).trans e1⟩
  ·by_cases hj:j = i
   ·subst hj
    rw [hi] at e1;cases e1
    rw [List.getElem?_set_self hiσ] at e2
    cases e2
    exact ⟨u,r,.inl ⟨hk,by simp⟩⟩
   ·rw [List.getElem?_set_ne (Ne.symm hj)] at e2
    obtain ⟨u',r',q⟩:=hl j y v' e1 e2 e3
    refine ⟨u',r',?_⟩
    rcases q with ⟨k,e⟩ | ⟨k,c,e,z⟩
    ·refine .inl ⟨k,?_⟩
     have:y≠x:=fun e=>hj (ku hN e1 (e ▸ hi))
     simp [this,e]
    ·exact .inr ⟨k,c,e,z.sameBut hs (uK y c e)⟩
  ·obtain ⟨w',z⟩:=I.cell y c e
   exact ⟨w',z.sameBut hs (uK y c e)⟩
  ·obtain ⟨e,n,ne,nf,d⟩:=I.pin p hp
   exact ⟨(hs.2 p.1 ne).trans e,n,ne,nf,d⟩
 ·have hfn:X.fn x = true:=by
   rcases hf with z | z
   ·exact z
   ·rw [z] at hk;cases hk
  obtain ⟨c,hc⟩:=I.ok.has x (.inl hk)
  obtain ⟨w',z⟩:=I.cell x c hc
  refine wpAny_storeName_cell I.ok.kind hk hc z (fun h' hc' hs=>?_)
  obtain ⟨oc,hoc,hocd⟩:=id z
  refine h { s with heap:=h' } ⟨I.ok,I.os,I.bare,⟨fun b o e n hb hx=>?_,fun b o e n hb hx=>?_,I.base.free,fun b o e hx=>?_,I.base.cz,I.base.frzs,I.base.tbls⟩,⟨m,hn.sameBut hs (Ne.symm (uK x c hc)),fun j y v' e1 e2 e3=>?_⟩,fun y c' e=>?_,I.free,I.freeC,fun p hp=>?_,tracked ⟨oc,hoc,I.freeC x c hc⟩ hs,by simpa using I.len⟩ ⟨c,hs,.inr hc⟩
  ·exact (hs.2 b (Nat.ne_of_lt (Nat.lt_of_lt_of_le (Heap.lt_size e) (I.ok.cab x c hfn hc)))).trans (I.base.keep b o e n hb hx)
  ·obtain ⟨sl,e1⟩:=I.base.slot b o e n hb hx
   exact ⟨sl,(hs.2 b (Nat.ne_of_lt (Nat.lt_of_lt_of_le (Heap.lt_size e) (I.ok.cab x c hfn hc)))).trans e1⟩
  ·obtain ⟨o',e1⟩:=I.base.there b o e hx
   exact ⟨o',(hs.2 b (Nat.ne_of_lt (Nat.lt_of_lt_of_le (Heap.lt_size e) (I.ok.cab x c hfn hc)))).trans e1⟩
  ·by_cases hj:j = i
   ·subst hj
    rw [hi] at e1;cases e1
    rw [List.getElem?_set_self hiσ] at e2
    cases e2
    exact ⟨u,r,.inr ⟨.inl hk,c,hc,hc'⟩⟩
   ·rw [List.getElem?_set_ne (Ne.symm hj)] at e2
    obtain ⟨u',r',q⟩:=hl j y v' e1 e2 e3
    refine ⟨u',r',?_⟩
    rcases q with q | ⟨k,c',e,z'⟩
    ·exact .inl q
    ·refine .inr ⟨k,c',e,z'.sameBut hs ?_⟩
     rintro rfl
     exact hj (ku hN e1 (I.ok.inj _ _ _ e hc ▸ hi))
  ·by_cases hcc:c' = c
   ·subst hcc;exact ⟨_,hc'⟩
   ·obtain ⟨w2,z2⟩:=I.cell y c' e
    exact ⟨w2,z2.sameBut hs hcc⟩
  ·obtain ⟨e,n,ne,nf,d⟩:=I.pin p hp
   refine ⟨(hs.2 p.1 ?_).trans e,n,ne,nf,d⟩
   intro q
   rw [q,hoc] at e
   have q' : oc = p.2:=Option.some.inj e
   exact d w' (by rw [← q'];exact hocd)
theorem iJ {M:Model} {A:Around} {E:Value→Shared→Prop} {i:Nat} {x:Str} {v:V} {u:Value} {Q:Unit→Shared→Prop} (I:Inv X pins σ H s) (hN:X.N.Nodup) (hi:X.N[i]? = some x) (hx:Loc X.env.scope x) (r:RelV v u)
  (h:∀ s',Inv X pins (σ.set i (some v)) H s'→Q () s') (hf:X.fn x = true∨X.env.scope.names.lookup x = some .local:=by first | exact .inl rfl | exact .inr rfl | assumption):wpAny M A (storeName X.env x u) Q E s :=
 lu I hN hi hx r (fun s' I' _=>h s' I') hf
theorem Inv.uq {s' : Shared} {ch:List Addr} (I:Inv X pins σ H s) (ho:s'.os = s.os) (u:Un (g9 X.stack) ch H H' s.heap s'.heap) (hok:ij X.prog X.w H' s'.heap) (hg:AllBare s'.gens)
  (hch:∀ b ∈ ch,(b ∈ X.ex∨X.s₀.heap.objs.size≤b)∧b≠X.env.locals∧(∀ x c,X.env.cells.lookup x = some c→c≠b)∧∀ p ∈ X.pn ++ pins,p.1≠b):Inv X pins σ H' s':=by
 obtain ⟨h',g',d',t',o'⟩:=s'
 have e:o' = s.os:=ho
 subst e
 exact I.call (g':=g') (t':=t') (d':=d') u hok hg hch
end
abbrev XK:=Value→Option Addr→Hp→Prop
abbrev St:=List (Option V)
abbrev VK:=V→Hp→Prop
abbrev TE:=St→Hp→VK→Prop
abbrev TT:=St→Hp→(Bool→Hp→Prop)→Prop
abbrev TA:=St→Hp→(List V→Hp→Prop)→Prop
structure Ends where
 nx:St→Hp→Prop
 rt:VK
 bk:St→Hp→Prop:=fun _ _=>False
 ct:St→Hp→Prop:=fun _ _=>False
abbrev TS:=Ends→St→Hp→Prop
def EP (X:Cx) (pins:List (Addr × Obj)) (σ:St) (Q:VK) (u:Value) (s' : Shared):Prop:=∃ v H',Inv X pins σ H' s'∧RelV v u∧Q v H'
def TP (X:Cx) (pins:List (Addr × Obj)) (σ:St) (Q:Bool→Hp→Prop) (b:Bool) (s' : Shared):Prop:=∃ H',Inv X pins σ H' s'∧Q b H'
def AP (X:Cx) (pins:List (Addr × Obj)) (σ:St) (Q:List V→Hp→Prop) (us:List Value) (s' : Shared):Prop:=∃ vs H',Inv X pins σ H' s'∧Vals vs us∧Q vs H'
def SP (X:Cx) (pins:List (Addr × Obj)) (D:Ends) (f:Flow) (s' : Shared):Prop :=
 match f with
 | .next=>∃ σ' H',Inv X pins σ' H' s'∧D.nx σ' H'
 | .brk=>∃ σ' H',Inv X pins σ' H' s'∧D.bk σ' H'
 | .cont=>∃ σ' H',Inv X pins σ' H' s'∧D.ct σ' H'
 | .ret u=>∃ v σ' H',Inv X pins σ' H' s'∧RelV v u∧D.rt v H'
def PE (X:Cx) (e:Expr) (t:TE):Prop :=
 ∀ (pins:List (Addr × Obj)) (s:Shared) (σ:St) (H:Hp) (Q:VK),Inv X pins σ H s→t σ H Q→wpAny (model X.prog X.w) X.A (eval e X.env) (EP X pins σ Q) X.xe s
def PT (X:Cx) (e:Expr) (t:TT):Prop :=
 ∀ (pins:List (Addr × Obj)) (s:Shared) (σ:St) (H:Hp) (Q:Bool→Hp→Prop),Inv X pins σ H s→t σ H Q→wpAny (model X.prog X.w) X.A (isTrue e X.env (eval e X.env)) (TP X pins σ Q) X.xe s
def PW (X:Cx) (e:Expr) (t:TT):Prop :=
 ∀ (whole:Sem Value) (pins:List (Addr × Obj)) (s:Shared) (σ:St) (H:Hp) (Q:Bool→Hp→Prop),Inv X pins σ H s→t σ H Q→wpAny (model X.prog X.w) X.A (isTrue e X.env whole) (TP X pins σ Q) X.xe s
theorem PW.pt {X:Cx} {e:Expr} {t:TT} (h:PW X e t):PT X e t:=h _
def PA (X:Cx) (es:List Expr) (t:TA):Prop :=
 ∀ (pos:Pos) (pins:List (Addr × Obj)) (s:Shared) (σ:St) (H:Hp) (Q:List V→Hp→Prop),Inv X pins σ H s→t σ H Q→wpAny (model X.prog X.w) X.A (spliced (backTo pos (starEach es X.env))) (AP X pins σ Q) X.xe s
def PS (X:Cx) (st:Stmt) (t:TS):Prop :=
 ∀ (pins:List (Addr × Obj)) (s:Shared) (σ:St) (H:Hp) (D:Ends),Inv X pins σ H s→t D σ H→wpAny (model X.prog X.w) X.A (exec st X.env) (SP X pins D) X.xe s
def nv (X:Cx) (st:List Stmt) (t:TS):Prop :=
 ∀ (pins:List (Addr × Obj)) (s:Shared) (σ:St) (H:Hp) (D:Ends),Inv X pins σ H s→t D σ H→wpAny (model X.prog X.w) X.A (execs st X.env) (SP X pins D) X.xe s
theorem bx {α:Type} {t:Sem α} {Q Q' : α→Shared→Prop} {M:Model} {A:Around} {E:Value→Shared→Prop} {s:Shared} (h:wpAny M A t Q E s) (hQ:∀ a s,Q a s→Q' a s):wpAny M A t Q' E s:=wpAny_mono h hQ fun _ _ x=>x
end L2
namespace L2
open PySem PySem.Spec PyProof.Rows
section
variable {X:Cx}
def A8 (i:Nat):TE:=fun σ H Q=>∃ v,σ[i]? = some (some v)∧Q v H
def tC (v:V):TE:=fun _ H Q=>Q v H
theorem z0 {i:Nat} {x:Str} {pos:Pos} (hN:X.N[i]? = some x) (hv:Bn X.env.scope x) (hd:(x == ("__debug__" : Str)) = false:=by decide) (hcd:(x == ("__classdict__" : Str)) = false:=by decide):PE X (.Name x pos) (A8 i):=by
 intro pins s σ H Q I h
 obtain ⟨v,e,h⟩:=h
 obtain ⟨m,hn,hl⟩:=I.loc
 obtain ⟨u,r,l⟩:=hl i x v hN e hv
 have fin:EP X pins σ Q u s:=⟨v,H,I,r,h⟩
 rcases l with ⟨hk,hm⟩ | ⟨hk,c,hc,hcell⟩
 ·exact wpAny_Name (wpAny_loadName_local I.ok.kind hk hn hm fin) hd
 ·rcases hk with hk | hk
  ·exact wpAny_Name (wpAny_loadName_cell I.ok.kind hk hc hcell fin) hd
  ·exact wpAny_Name (wpAny_loadName_free I.ok.kind hk hc hcell fin hcd) hd
theorem aw {i j pos} : PE X (.Constant (.int i) j pos) (tC (.int i)):=fun _ _ _ H _ I h=>wpAny_Constant_int ⟨.int i,H,I.tok _,⟨_,rfl⟩,h⟩
theorem iY {b j pos} : PE X (.Constant (.bool b) j pos) (tC (.bl b)):=fun _ _ _ H _ I h=>Constant_bool ⟨.bl b,H,I,rfl,h⟩
theorem jl {j pos} : PE X (.Constant .none j pos) (tC .non):=fun _ _ _ H _ I h=>Constant_none ⟨.non,H,I,rfl,h⟩
theorem gj {x j pos} : PE X (.Constant (.str x) j pos) (tC (.str x)):=fun _ _ _ H _ I h=>Calls.Constant_str ⟨.str x,H,I.tok _,⟨_,rfl⟩,h⟩
def Gl (X:Cx) (x:Str):Prop:=X.env.kindOf x = some .globalImplicit
theorem gZ {E:Value→Shared→Prop} {pins:List (Addr × Obj)} {s:Shared} {σ:St} {H:Hp} {x:Str} {u:Value} {pos:Pos} {Q:Value→Shared→Prop} (I:Inv X pins σ H s) (hg:Gl X x) (hm:X.mg x = some u) (h:Q u s)
  (hd:(x == ("__debug__" : Str)) = false:=by decide):wpAny (model X.prog X.w) X.A (eval (.Name x pos) X.env) Q E s :=
 Calls.Name_function_global I.ok.kind hg (Calls.loadGlobal_global (by rw [I.ok.glob];exact I.mod.glob.keeps I.bk) hm h) hd
theorem iA {E:Value→Shared→Prop} {pins:List (Addr × Obj)} {s:Shared} {σ:St} {H:Hp} {x:Str} {u:Value} {pos:Pos} {Q:Value→Shared→Prop} (I:Inv X pins σ H s) (hg:Gl X x) (hm:X.mg x = none) (hv:bootBuiltins x = some u) (h:Q u s)
  (hn:x≠"__name__":=by decide) (hd:(x == ("__debug__" : Str)) = false:=by decide):wpAny (model X.prog X.w) X.A (eval (.Name x pos) X.env) Q E s:=by
 obtain ⟨mb,h1,h2⟩:=I.mod.blt
 exact Calls.Name_function_global I.ok.kind hg (Calls.loadGlobal_builtin (by rw [I.ok.glob];exact I.mod.glob.keeps I.bk) hm (by rw [I.ok.blt];exact h1.keeps I.bk) ((h2 x hn).trans hv) h) hd
theorem bj {x:Str} {v:V} {u:Value} {pos:Pos} (hg:Gl X x) (hm:X.mg x = some u) (r:RelV v u) (hd:(x == ("__debug__" : Str)) = false:=by decide):PE X (.Name x pos) (tC v) :=
 fun _ _ _ H _ I h=>gZ I hg hm ⟨v,H,I,r,h⟩ hd
theorem mX {x:Str} {v:V} {u:Value} {pos:Pos} (hg:Gl X x) (hm:X.mg x = none) (hv:bootBuiltins x = some u) (r:RelV v u) (hn:x≠"__name__":=by decide) (hd:(x == ("__debug__" : Str)) = false:=by decide):PE X (.Name x pos) (tC v) :=
 fun _ _ _ H _ I h=>iA I hg hm hv ⟨v,H,I,r,h⟩ hn hd
variable {a b:Expr} {ta tb:TE} {pos:Pos}
def PC (X:Cx) (op:CmpOp) (a b:Expr) (t:TE):Prop :=
 ∀ (pins:List (Addr × Obj)) (s:Shared) (σ:St) (H:Hp) (Q:VK),Inv X pins σ H s→t σ H Q →
  wpAny (model X.prog X.w) X.A (eval a X.env) (fun v s₁=>wpAny (model X.prog X.w) X.A (eval b X.env) (fun u s₂=>wpAny (model X.prog X.w) X.A (compareOp op v u) (EP X pins σ Q) X.xe s₂) X.xe s₁) X.xe s
theorem nC (b:Expr) {op:CmpOp} (h:op≠.In) (h2:op≠.NotIn):behindInMarks op b = false:=by
 have e1:(op == CmpOp.In) = false:=by cases op <;> first | rfl | exact absurd rfl h
 have e2:(op == CmpOp.NotIn) = false:=by cases op <;> first | rfl | exact absurd rfl h2
 cases b <;> simp [behindInMarks,e1,e2]
def BF (ta:TE):TE:=fun σ H Q=>ta σ H fun x H1=>Q (.bl (decide (x = .non))) H1
def Bg (ta:TE):TE:=fun σ H Q=>ta σ H fun x H1=>Q (.bl (!decide (x = .non))) H1
theorem RelV.nA {x:V} {v:Value} (r:RelV x v):(v == Value.none) = decide (x = .non):=by
 cases x with
 | non=>cases r;rfl
 | bl _=>cases r;rfl
 | int _=>obtain ⟨t,rfl⟩:=r;rfl
 | str _=>obtain ⟨t,rfl⟩:=r;rfl
 | byt _=>obtain ⟨t,rfl⟩:=r;rfl
 | flt _=>obtain ⟨t,rfl⟩:=r;rfl
 | ref _=>cases r;rfl
 | ty _=>cases r;rfl
theorem vP {j pos'} (ha:PE X a ta):PC X .Is a (.Constant .none j pos') (BF ta):=by
 intro pins s σ H Q I h
 refine bx (ha pins s σ H _ I h) fun v s1 ⟨x,H1,I1,r1,q1⟩=>?_
 exact Constant_none (is_none_gen ⟨.bl _,H1,I1,by rw [r1.nA];rfl,q1⟩)
theorem mJ {j pos'} (ha:PE X a ta):PC X .IsNot a (.Constant .none j pos') (Bg ta):=by
 intro pins s σ H Q I h
 refine bx (ha pins s σ H _ I h) fun v s1 ⟨x,H1,I1,r1,q1⟩=>?_
 exact Constant_none (isnot_none_gen ⟨.bl _,H1,I1,by rw [r1.nA];rfl,q1⟩)
def tB (t:TE):TT:=fun σ H Q=>t σ H fun x H1=>∃ c,x = .bl c∧Q c H1
theorem yZ {op:CmpOp} {t:TE} (h:PC X op a b t) (h1:behindInMarks op b = false:=by first | exact nC _ (by decide) (by decide) | rfl):PE X (.Compare a [op] [b] pos) t:=fun pins s σ H Q I hw=>wpAny_Compare1 (h pins s σ H Q I hw) h1
theorem gC {op:CmpOp} {t:TE} (h:PC X op a b t) (h1:behindInMarks op b = false:=by first | exact nC _ (by decide) (by decide) | rfl):PT X (.Compare a [op] [b] pos) (tB t):=by
 intro pins s σ H Q I hw
 refine wpAny_isTrue_Compare1 (bx (h pins s σ H _ I hw) fun v s1 h1=>bx h1 fun u s2 h2=>bx h2 fun c s3 ⟨x,H1,I1,r1,q1⟩=>?_) h1
 obtain ⟨d,rfl,q⟩:=q1
 cases r1
 exact wpAny_truthy_bool ⟨H1,I1,q⟩
theorem bY {e:Expr} {t:TE} (h:PE X e t) (he:∀ whole,isTrue e X.env whole = (do let v ← whole;standAt e.pos;holding [v] (truthy v)):=by intro _;rfl):PT X e (tB t):=by
 intro pins s σ H Q I hw
 refine isTrue_plain (bx (h pins s σ H _ I hw) fun v s1 ⟨x,H1,I1,r1,q1⟩=>?_) (he _)
 obtain ⟨d,rfl,q⟩:=q1
 cases r1
 exact wpAny_truthy_bool ⟨H1,I1,q⟩
variable {tA tB' : TT} {rest:List Expr}
def BZ (t u:TT):TT:=fun σ H Q=>t σ H fun c H1=>if c = true then u σ H1 Q else Q false H1
def tOr (t u:TT):TT:=fun σ H Q=>t σ H fun c H1=>if c = true then Q true H1 else u σ H1 Q
def BL (t:TT):TT:=fun σ H Q=>t σ H fun c H1=>Q (!c) H1
theorem pw_and1 (ha:PT X a tA):PW X (.BoolOp .And [a] pos) tA:=by
 intro wh pins s σ H Q I h
 refine isTrue_and (bx (ha pins s σ H Q I h) fun c s1 e=>?_)
 cases c with
 | true=>exact isTrue_and_nil e
 | false=>exact e
theorem pw_or1 (ha:PT X a tA):PW X (.BoolOp .Or [a] pos) tA:=by
 intro wh pins s σ H Q I h
 refine isTrue_or (bx (ha pins s σ H Q I h) fun c s1 e=>?_)
 cases c with
 | false=>exact isTrue_or_nil e
 | true=>exact e
theorem pw_and (ha:PT X a tA) (hb:PW X (.BoolOp .And (b :: rest) pos) tB'):PW X (.BoolOp .And (a :: b :: rest) pos) (BZ tA tB'):=by
 intro wh pins s σ H Q I h
 refine isTrue_and (bx (ha pins s σ H _ I h) fun c s1 ⟨H1,I1,q1⟩=>?_)
 cases c with
 | true=>exact hb wh pins s1 σ H1 Q I1 q1
 | false=>exact ⟨H1,I1,q1⟩
theorem pw_or (ha:PT X a tA) (hb:PW X (.BoolOp .Or (b :: rest) pos) tB'):PW X (.BoolOp .Or (a :: b :: rest) pos) (tOr tA tB'):=by
 intro wh pins s σ H Q I h
 refine isTrue_or (bx (ha pins s σ H _ I h) fun c s1 ⟨H1,I1,q1⟩=>?_)
 cases c with
 | true=>exact ⟨H1,I1,q1⟩
 | false=>exact hb wh pins s1 σ H1 Q I1 q1
theorem cN (ha:PT X a tA):PT X (.UnaryOp .Not a pos) (BL tA):=by
 intro pins s σ H Q I h
 exact isTrue_not (ha pins s σ H (fun c H1=>Q (!c) H1) I h)
def Bc (ta tb:TE):TE:=fun σ H Q=>ta σ H fun x H1=>∃ c,x = .bl c∧if c = true then tb σ H1 Q else Q (.bl false) H1
theorem mH {op} {t:TE} (h:PE X a t):PE X (.BoolOp op [a] pos) t:=fun pins s σ H Q I hw=>BoolOp_one (h pins s σ H Q I hw)
theorem m7 (ha:PE X a ta) (hb:PE X (.BoolOp .And (b :: rest) pos) tb):PE X (.BoolOp .And (a :: b :: rest) pos) (Bc ta tb):=by
 intro pins s σ H Q I h
 refine BoolOp_and (bx (ha pins s σ H _ I h) fun v s1 ⟨x,H1,I1,r1,q1⟩=>?_)
 obtain ⟨c,rfl,q1⟩:=q1
 cases r1
 refine wpAny_truthy_bool ?_
 cases c with
 | true=>exact hb pins s1 σ H1 Q I1 q1
 | false=>exact ⟨.bl false,H1,I1,rfl,q1⟩
end
end L2
namespace L2
open PySem PySem.Spec PyProof.Rows
def aY (K:PySem.W.Frag) (H:Hp) (a:Addr) (xs:List V):Prop :=
 Rd H a (.lst xs) ∨
  ∃ (o:Obj) (its:Array Value) (n:Nat),K.lookup a = some o∧o.cls = .type "list"∧o.dict = none∧o.data = .seq its n∧its.size≤sizeLine∧Vals xs its.toList
def cV (K:PySem.W.Frag) (H:Hp) (a:Addr) (xs:List V):Prop :=
 Rd H a (.tup xs) ∨
  ∃ (o:Obj) (its:Array Value) (n:Nat),K.lookup a = some o∧o.cls = .type "tuple"∧o.data = .seq its n∧its.size≤sizeLine∧Vals xs its.toList
def Cu:Value→Option V
 | .none=>some .non
 | .bool b=>some (.bl b)
 | .int i _=>some (.int i)
 | .str x _=>some (.str x)
 | .bytes b _=>some (.byt b)
 | .float b _=>some (.flt b)
 | .ref a=>some (.ref a)
 | .type n=>some (.ty n)
 | _=>none
theorem RelV.abs {x:V} {u:Value} (r:RelV x u):Cu u = some x:=by
 cases x with
 | non=>cases r;rfl
 | bl _=>cases r;rfl
 | int _=>obtain ⟨t,rfl⟩:=r;rfl
 | str _=>obtain ⟨t,rfl⟩:=r;rfl
 | byt _=>obtain ⟨t,rfl⟩:=r;rfl
 | flt _=>obtain ⟨t,rfl⟩:=r;rfl
 | ref _=>cases r;rfl
 | ty _=>cases r;rfl
theorem RelV.inj {x y:V} {u:Value} (r:RelV x u) (q:RelV y u):x = y:=Option.some.inj (r.abs.symm.trans q.abs)
theorem Vals.inj:∀ {xs ys:List V} {us:List Value},Vals xs us→Vals ys us→xs = ys
 | _,_,_,.nil,.nil=>rfl
 | _,_,_,.cons r t,.cons r' t'=>by rw [r.inj r',Vals.inj t t']
section
variable {X:Cx} {pins:List (Addr × Obj)} {σ:St} {H:Hp} {s:Shared} {a:Addr} {xs ys:List V}
theorem aY.of {K:PySem.W.Frag} (h:H a = some (.lst xs)):aY K H a xs:=.inl (.inl h)
theorem cV.of {K:PySem.W.Frag} (h:H a = some (.tup xs)):cV K H a xs:=.inl (.inl h)
theorem Inv.list (I:Inv X pins σ H s) (h:aY X.K H a xs):∃ its:List Value,Vals xs its∧PlainL s.heap a its.toArray∧xs.length≤sizeLine:=by
 rcases h with h | ⟨o,its,n,hk,hc,hd,hs,hz,r⟩
 ·obtain ⟨z,its,n,r,e⟩:=h.ok I.hok
  exact ⟨its,r,⟨_,n,e,rfl,rfl,rfl⟩,z⟩
 ·refine ⟨its.toList,r,⟨o,n,I.eV a o hk,hc,hd,by simpa using hs⟩,?_⟩
  have e:=r.length
  simp only [Array.length_toList] at e
  lia
theorem Inv.tuple (I:Inv X pins σ H s) (h:cV X.K H a xs):∃ its:List Value,Vals xs its∧IsTup s.heap a its.toArray∧xs.length≤sizeLine:=by
 rcases h with h | ⟨o,its,n,hk,hc,hs,hz,r⟩
 ·obtain ⟨z,its,r,p⟩:=h.ok I.hok
  exact ⟨its,r,p,z⟩
 ·refine ⟨its.toList,r,⟨o,I.eV a o hk,hc,n,by simpa using hs⟩,?_⟩
  have e:=r.length
  simp only [Array.length_toList] at e
  lia
theorem Inv.oK (I:Inv X pins σ H s) (h:aY X.K H a xs) (h' : aY X.K H a ys):xs = ys:=by
 obtain ⟨its,r,⟨o,n,e,_,_,d⟩,_⟩:=I.list h
 obtain ⟨its',r',⟨o',n',e',_,_,d'⟩,_⟩:=I.list h'
 rw [e] at e';cases e'
 rw [d] at d'
 injection d' with d1 _
 have:its = its':=by simpa using congrArg Array.toList d1
 subst this
 exact r.inj r'
theorem Inv.sD (I:Inv X pins σ H s) (h:cV X.K H a xs) (h' : cV X.K H a ys):xs = ys:=by
 obtain ⟨its,r,⟨o,e,_,n,d⟩,_⟩:=I.tuple h
 obtain ⟨its',r',⟨o',e',_,n',d'⟩,_⟩:=I.tuple h'
 rw [e] at e';cases e'
 rw [d] at d'
 injection d' with d1 _
 have:its = its':=by simpa using congrArg Array.toList d1
 subst this
 exact r.inj r'
end
abbrev Cx.ll (X:Cx) (E:Value→Shared→Prop):Cx:={ X with xe:=E }
abbrev Cx.qB (X:Cx):Cx:=X.ll fun _ _=>False
theorem Cx.Ok.ll {X:Cx} (ok:X.Ok) (E:Value→Shared→Prop):(X.ll E).Ok :=
 ⟨ok.mod,ok.kind,ok.glob,ok.blt,ok.above,ok.inj,ok.has,ok.cab,ok.hd,ok.frames,ok.stk,ok.exf,ok.bs,ok.bsz,ok.noex,ok.exfs,ok.ic,ok.frf⟩
theorem Cx.Ok.gG {X:Cx} {E:Value→Shared→Prop} (ok:(X.ll E).Ok):X.Ok :=
 ⟨ok.mod,ok.kind,ok.glob,ok.blt,ok.above,ok.inj,ok.has,ok.cab,ok.hd,ok.frames,ok.stk,ok.exf,ok.bs,ok.bsz,ok.noex,ok.exfs,ok.ic,ok.frf⟩
section
variable {X:Cx} {pins:List (Addr × Obj)} {σ:St} {H:Hp} {s:Shared} {E:Value→Shared→Prop}
theorem Inv.ll (I:Inv X pins σ H s) (E:Value→Shared→Prop):Inv (X.ll E) pins σ H s:=⟨I.ok.ll E,I.os,I.bare,I.base,I.loc,I.cell,I.free,I.freeC,I.pin,I.hok,I.len⟩
theorem Inv.gG (I:Inv (X.ll E) pins σ H s):Inv X pins σ H s:=⟨I.ok.gG,I.os,I.bare,I.base,I.loc,I.cell,I.free,I.freeC,I.pin,I.hok,I.len⟩
theorem SP.gG {D:Ends} {f:Flow} {s' : Shared} (h:SP (X.ll E) pins D f s'):SP X pins D f s':=by
 cases f with
 | next=>obtain ⟨σ',H',I,q⟩:=h;exact ⟨σ',H',I.gG,q⟩
 | brk=>obtain ⟨σ',H',I,q⟩:=h;exact ⟨σ',H',I.gG,q⟩
 | cont=>obtain ⟨σ',H',I,q⟩:=h;exact ⟨σ',H',I.gG,q⟩
 | ret u=>obtain ⟨v,σ',H',I,r,q⟩:=h;exact ⟨v,σ',H',I.gG,r,q⟩
theorem nv.qB {st:List Stmt} {t:TS} (h:nv X.qB st t):nv X st t:=fun pins s σ H D I hw =>
 wpAny_mono (h pins s σ H D (I.ll _) hw) (fun _ _ q=>q.gG) fun _ _ z=>False.elim z
end
section
variable {X:Cx} {st:Stmt} {rest:List Stmt} {t u:TS} {e:Expr} {te:TE} {pos:Pos}
def AD:TS:=fun D σ H=>D.nx σ H
def yb (t u:TS):TS:=fun D σ H=>t { D with nx:=u D } σ H
theorem bf:nv X [] AD:=fun _ _ σ H _ I h=>wpAny_execs_nil ⟨σ,H,I,h⟩
theorem ah (h1:PS X st t) (h2:nv X rest u):nv X (st :: rest) (yb t u):=by
 intro pins s σ H D I h
 refine wpAny_execs_cons (bx (h1 pins s σ H { D with nx:=u D } I h) fun f s1 q=>?_)
 cases f with
 | next =>
  obtain ⟨σ',H',I',q⟩:=q
  exact h2 pins s1 σ' H' D I' q
 | ret v=>exact q
 | brk=>exact q
 | cont=>exact q
theorem aq (h1:PS X st t):nv X [st] t:=by
 intro pins s σ H D I h
 refine wpAny_execs_cons (bx (h1 pins s σ H D I h) fun f s1 q=>?_)
 cases f with
 | next=>exact wpAny_execs_nil q
 | ret v=>exact q
 | brk=>exact q
 | cont=>exact q
theorem Inv.quiet {pins:List (Addr × Obj)} {σ:St} {H:Hp} {s:Shared} (I:Inv X pins σ H s):interactive X.env = false:=by simp [interactive,I.ok.kind]
def Av (te:TE):TS:=fun D σ H=>te σ H fun _ H1=>D.nx σ H1
theorem bF (he:PE X e te) (hs:swapsWith e none pos.line X.env = pure false:=by rfl):PS X (.Expr e pos) (Av te):=by
 intro pins s σ H D I h
 exact wpAny_Expr_any (bx (he pins s σ H _ I h) fun v s1 ⟨x,H1,I1,r1,q1⟩=>⟨σ,H1,I1,q1⟩) I.quiet hs
def B9 (te:TE):TS:=fun D σ H=>te σ H D.rt
theorem aJ (he:PE X e te):PS X (.Return (some e) pos) (B9 te):=by
 intro pins s σ H D I h
 exact wpAny_Return_some (bx (he pins s σ H _ I h) fun v s1 ⟨x,H1,I1,r1,q1⟩=>⟨x,σ,H1,I1,r1,q1⟩)
def CB (c:TT) (t u:TS):TS:=fun D σ H=>c σ H fun b H1=>if b = true then t D σ H1 else u D σ H1
theorem cv {c:Expr} {a b:List Stmt} {tc:TT} (hc:PT X c tc) (ha:nv X a t) (hb:nv X b u):PS X (.If c a b pos) (CB tc t u):=by
 intro pins s σ H D I h
 refine wpAny_If (bx (hc pins s σ H _ I h) fun d s1 ⟨H1,I1,q1⟩=>?_)
 cases d with
 | true=>exact ha pins s1 σ H1 D I1 q1
 | false=>exact hb pins s1 σ H1 D I1 q1
def zx:TS:=fun _ _ _=>False
theorem lX {sts:List Stmt} : nv X sts zx:=fun _ _ _ _ _ _ h=>h.elim
end
abbrev TG:=V→St→Hp→(St→Hp→Prop)→Prop
abbrev zd:=List V→St→Hp→(St→Hp→Prop)→Prop
def PG (X:Cx) (target:Expr) (t:TG):Prop :=
 ∀ (pins:List (Addr × Obj)) (s:Shared) (σ:St) (H:Hp) (v:V) (u:Value) (Q:St→Hp→Prop),Inv X pins σ H s→RelV v u→t v σ H Q →
  wpAny (model X.prog X.w) X.A (assign target X.env u) (fun _ s'=>∃ σ' H',Inv X pins σ' H' s'∧Q σ' H') X.xe s
def Bq (X:Cx) (ts:List Expr) (t:zd):Prop :=
 ∀ (pins:List (Addr × Obj)) (s:Shared) (σ:St) (H:Hp) (vs:List V) (us:List Value) (Q:St→Hp→Prop),Inv X pins σ H s→Vals vs us→t vs σ H Q →
  wpAny (model X.prog X.w) X.A (assignInOrder ((assignEach ts X.env).map (·.2)) us) (fun _ s'=>∃ σ' H',Inv X pins σ' H' s'∧Q σ' H') X.xe s
abbrev zz:=V→V→V→Hp→(Hp→Prop)→Prop
def A7 (X:Cx) (t:zz):Prop :=
 ∀ (pins:List (Addr × Obj)) (s:Shared) (σ:St) (H:Hp) (o i v:V) (ov iv u:Value) (Q:Hp→Prop),Inv X pins σ H s→RelV o ov→RelV i iv→RelV v u→t o i v H Q →
  wpAny (model X.prog X.w) X.A (setItem ov iv u) (fun _ s'=>∃ H',Inv X pins σ H' s'∧Q H') X.xe s
section
variable {X:Cx} {pos:Pos}
def ir (i:Nat):TG:=fun v σ H Q=>Q (σ.set i (some v)) H
theorem aA {i:Nat} {x:Str} (hN:X.N.Nodup) (hi:X.N[i]? = some x) (hx:Loc X.env.scope x) (hf:X.fn x = true∨X.env.scope.names.lookup x = some .local:=by first | exact .inl rfl | exact .inr rfl | assumption):PG X (.Name x pos) (ir i):=by
 intro pins s σ H v u Q I r h
 exact wpAny_assign_Name (iJ I hN hi hx r (fun s' I'=>⟨_,H,I',h⟩) hf)
def Ce:zd:=fun vs σ H Q=>vs = []∧Q σ H
def As (t:TG) (u:zd):zd:=fun vs σ H Q=>∃ v r,vs = v :: r∧t v σ H fun σ' H'=>u r σ' H' Q
theorem fe:Bq X [] Ce:=by
 intro pins s σ H vs us Q I r h
 obtain ⟨e,h⟩:=h
 subst e
 cases r
 exact assignInOrder_nil ⟨σ,H,I,h⟩
theorem bc {e:Expr} {es:List Expr} {t:TG} {u:zd} (h1:PG X e t) (h2:Bq X es u)
  (hs:(assignEach (e :: es) X.env).map (·.2) = assign e X.env :: (assignEach es X.env).map (·.2):=by rfl):Bq X (e :: es) (As t u):=by
 intro pins s σ H vs us Q I r h
 obtain ⟨v,vr,e1,h⟩:=h
 subst e1
 cases r with
 | cons r rr =>
  rw [hs]
  refine assignInOrder_cons (bx (h1 pins s σ H _ _ _ I r h) fun _ s1 ⟨σ1,H1,I1,q1⟩=>?_)
  exact h2 pins s1 σ1 H1 _ _ Q I1 rr q1
def B1 (K:PySem.W.Frag) (n:Nat) (t:zd):TG:=fun v σ H Q=>∃ a xs,v = .ref a∧cV K H a xs∧xs.length = n∧t xs σ H Q
theorem gI {es:List Expr} {k:Nat} {t:zd} {n:Nat} (hc:X.calm = true) (h:Bq X es t)
  (hn:(assignEach es X.env).length = n:=by rfl) (hst:(assignEach es X.env).findIdx? (·.1) = none:=by rfl):PG X (.Tuple es k pos) (B1 X.K n t):=by
 intro pins s σ H v u Q I r hw
 obtain ⟨a,xs,e1,hq,hl,hw⟩:=hw
 subst e1
 cases r
 obtain ⟨its,rv,ht,hz⟩:=I.tuple hq
 refine assign_Tuple_tuple (I.ok.hd hc) ht (by simp [hn,← hl,rv.length]) hst fun h' hx=>?_
 have I1:Inv X pins σ H { s with heap:=h' }:=I.kept (t':=s.toks) fun b o e=>hx b o (Nat.ne_of_lt (Heap.lt_size e)) e
 exact h pins _ σ H xs _ Q I1 (by simpa using rv) hw
def BR (to ti:TE) (t:zz):TG:=fun v σ H Q=>to σ H fun o H1=>ti σ H1 fun i H2=>t o i v H2 fun H3=>Q σ H3
theorem zp {o i:Expr} {to ti:TE} {t:zz} (ho:PE X o to) (hi:PE X i ti) (hs:A7 X t)
  (ha:∀ v,assign (.Subscript o i pos) X.env v = (do
   let ov ← holding [v] (eval o X.env)
   let iv ← holding [v,ov] (eval i X.env)
   standAt pos
   holding [v,ov,iv] (setItem ov iv v)
   release [v,ov,iv] []):=by intro _;rfl):PG X (.Subscript o i pos) (BR to ti t):=by
 intro pins s σ H v u Q I r h
 rw [ha]
 refine wpAny_bind (wpAny_holding (bx (ho pins s σ H _ I h) fun ov s1 ⟨x,H1,I1,r1,q1⟩=>?_))
 refine wpAny_bind (wpAny_holding (bx (hi pins s1 σ H1 _ I1 q1) fun iv s2 ⟨y,H2,I2,r2,q2⟩=>?_))
 refine wpAny_bind (wpAny_standAt (wpAny_bind (wpAny_holding (bx (hs pins s2 σ H2 x y v ov iv u _ I2 r1 r2 r q2) fun _ s3 ⟨H3,I3,q3⟩=>?_))))
 exact wpAny_release ⟨σ,H3,I3,q3⟩
def wI (te:TE) (g:TG):TS:=fun D σ H=>te σ H fun x H1=>g x σ H1 D.nx
theorem qv {tg e:Expr} {te:TE} {g:TG} (he:PE X e te) (hg:PG X tg g) (hs:swapsWithSole [tg] e pos.line X.env = pure false:=by rfl) (hw:swappedStores [tg] e X.env = pure none:=by rfl)
  (h1:(assignEach [tg] X.env).map (·.2) = [assign tg X.env]:=by rfl):PS X (.Assign [tg] e pos) (wI te g):=by
 intro pins s σ H D I h
 refine wpAny_Assign_stores (bx (he pins s σ H _ I h) fun v s1 ⟨x,H1,I1,r1,q1⟩=>?_) hs hw
 rw [h1]
 exact bx (hg pins s1 σ H1 x v _ I1 r1 q1) fun _ s2 q=>q
theorem aM {i:Nat} {x:Str} {e:Expr} {te:TE} {pos' : Pos} (hN:X.N.Nodup) (hi:X.N[i]? = some x) (hx:Loc X.env.scope x) (he:PE X e te) (hs:swapsWith e (some (.Name x pos')) pos.line X.env = pure false:=by rfl) (hf:X.fn x = true∨X.env.scope.names.lookup x = some .local:=by first | exact .inl rfl | exact .inr rfl | assumption) :
  PS X (.Assign [.Name x pos'] e pos) (wI te (ir i)):=by
 intro pins s σ H D I h
 refine wpAny_Assign_Name (bx (he pins s σ H _ I h) fun v s1 ⟨y,H1,I1,r1,q1⟩=>?_) hs
 exact iJ I1 hN hi hx r1 (fun s2 I2=>⟨_,H1,I2,q1⟩) hf
end
section
variable {X:Cx} {pos:Pos}
def zC (c:TT) (tb:TS):TS:=fun D σ H=>∃ W:Nat→St→Hp→Prop,(∃ m,W m σ H)∧∀ m σ H,W m σ H →
 c σ H fun b H1=>if b = true then ∃ N:St→Hp→Prop,(∀ σ' H',N σ' H'→∃ m',m' < m∧W m' σ' H')∧tb { D with nx:=N,ct:=N,bk:=D.nx } σ H1 else D.nx σ H1
theorem iL {c:Expr} {body:List Stmt} {tc:TT} {tb:TS} (hp:PassesOwn (model X.prog X.w) X.A X.env X.xe) (hc:PT X c tc) (hb:nv X body tb):PS X (.While c body [] pos) (zC tc tb):=by
 intro pins s σ H D I h
 obtain ⟨W,⟨m0,w0⟩,turn⟩:=h
 refine wpAny_While (codeAny_whileLoop (fun n s'=>∃ σ' H',Inv X pins σ' H' s'∧W n σ' H') ?_ m0 ⟨σ,H,I,w0⟩)
 rintro n s1 ⟨σ1,H1,I1,w1⟩
 refine wpAny_passesOwn hp (bx (hc pins s1 σ1 H1 _ I1 (turn n σ1 H1 w1)) fun b s2 ⟨H2,I2,q2⟩=>?_)
 cases b with
 | true =>
  obtain ⟨N,hN,q2⟩:=q2
  rw [if_pos rfl]
  refine wpAny_passesOwn hp (bx (hb pins s2 σ1 H2 _ I2 q2) fun f s3 q3=>?_)
  cases f with
  | next =>
   obtain ⟨σ3,H3,I3,n3⟩:=q3
   obtain ⟨m',hm,w3⟩:=hN σ3 H3 n3
   exact ⟨m',hm,σ3,H3,I3,w3⟩
  | cont =>
   obtain ⟨σ3,H3,I3,n3⟩:=q3
   obtain ⟨m',hm,w3⟩:=hN σ3 H3 n3
   exact ⟨m',hm,σ3,H3,I3,w3⟩
  | brk=>exact q3
  | ret v=>exact q3
 | false =>
  rw [if_neg Bool.false_ne_true]
  exact wpAny_execs_nil ⟨σ1,H2,I2,q2⟩
end
structure It where
 go:Nat→Hp→Prop
 yld:Nat→Hp→V→Hp→Prop
 stop:Nat→Hp→Prop
def gA (X:Cx) (pins:List (Addr × Obj)) (H:Hp) (b:Addr):Prop :=
 H b = none∧b≠X.env.locals∧b ∉ X.fs∧(b ∈ X.ex∨X.s₀.heap.objs.size≤b)∧(∀ x c,X.env.cells.lookup x = some c→c≠b)∧∀ p ∈ X.pn ++ pins,p.1≠b
theorem Inv.sF {X:Cx} {pins:List (Addr × Obj)} {σ:St} {H H' : Hp} {s:Shared} {b:Addr} (I:Inv X pins σ H s) (hb:s.heap.objs.size≤b) (hn:H' b = none):gA X pins H' b:=by
 refine ⟨hn,Nat.ne_of_gt (Nat.lt_of_lt_of_le I.lt hb),I.BN hb,.inr (Nat.le_trans I.sz hb),fun x c e z=>?_,fun p hp z=>?_⟩
 ·obtain ⟨v,q⟩:=I.cell x c e
  exact absurd (Nat.lt_of_lt_of_le q.lt (by rw [z];exact hb)) (Nat.lt_irrefl _)
 ·exact absurd (Nat.lt_of_lt_of_le (Heap.lt_size (I.pin p hp).1) (by rw [z];exact hb)) (Nat.lt_irrefl _)
structure Turn (P:Program) (w:World) (K:PySem.W.Frag) (tg:Expr) (J:It) (fp:List Addr) (it:Addr) (tn:Nat→Heap→Prop):Prop where
 mem:it ∈ fp
 obj:∀ i h,tn i h→∀ b ∈ fp,∃ o,h.get? b = some o∧∀ v,o.data≠.cell v
 keep:∀ i h h',tn i h→(∀ b ∈ fp,∀ o,h.get? b = some o→h'.get? b = some o)→tn i h'
 item:∀ (X:Cx),X.prog = P→X.w = w→X.K = K→X.calm = true→∀ (i:Nat) (pins:List (Addr × Obj)) (s:Shared) (σ:St) (H:Hp) (E:Value→Shared→Prop),Inv X pins σ H s→(∀ b ∈ fp,gA X pins H b)→tn i s.heap→J.go i H →
  wpAny (model P w) X.A (pyNext (.ref it)) (fun r s1=>∃ u,r = some u ∧
   wpAny (model P w) X.A (letOwnedTupleGo tg (.ref it) u) (fun _ s2=>∃ x H',Inv X pins σ H' s2∧RelV x u∧J.yld i H x H'∧tn (i + 1) s2.heap∧∀ b ∈ fp,H' b = none) E s1) E s
 done:∀ (X:Cx),X.prog = P→X.w = w→X.K = K→X.calm = true→∀ (i:Nat) (pins:List (Addr × Obj)) (s:Shared) (σ:St) (H:Hp) (E:Value→Shared→Prop),Inv X pins σ H s→(∀ b ∈ fp,gA X pins H b)→tn i s.heap→J.stop i H →
  wpAny (model P w) X.A (pyNext (.ref it)) (fun r s1=>r = none∧Inv X pins σ H s1) E s
 self:∀ (A:Around) (i:Nat) (s:Shared) (Q:Value→Shared→Prop) (E:Value→Shared→Prop),tn i s.heap→Q (.ref it) s→wpAny (model P w) A (pyIter (.ref it)) Q E s
abbrev TI:=St→Hp→(It→Hp→Prop)→Prop
def PIE (X:Cx) (pins:List (Addr × Obj)) (σ:St) (tg:Expr) (R:It→Hp→Prop) (itv:Value) (s2:Shared):Prop :=
 ∃ (it:Addr) (fp:List Addr) (tn:Nat→Heap→Prop) (J:It) (H' : Hp),itv = .ref it∧Inv X pins σ H' s2∧Turn X.prog X.w X.K tg J fp it tn∧tn 0 s2.heap∧(∀ b ∈ fp,gA X pins H' b)∧R J H'
def PI (X:Cx) (tg iter:Expr) (wi:TI):Prop :=
 ∀ (pins:List (Addr × Obj)) (s:Shared) (σ:St) (H:Hp) (R:It→Hp→Prop),Inv X pins σ H s→wi σ H R →
  wpAny (model X.prog X.w) X.A (eval iter X.env) (fun v s1=>wpAny (model X.prog X.w) X.A (pyIter v) (PIE X pins σ tg R) X.xe s1) X.xe s
theorem nI {M:Model} {A:Around} {E:Value→Shared→Prop} {s:Shared} {tg:Expr} {it:Addr} {u:Value} {o:Obj} {n:String} {vs:Array Value} {Q:Unit→Shared→Prop} (ho:s.heap.get? it = some o) (hc:o.cls = .type n) (hd:o.data = .fields vs)
    (hn : ["enumerate", "zip", "dict_itemiterator", "dict_reverseitemiterator", "odict_iterator", "itertools.zip_longest", "itertools.pairwise"].contains n = false) (hQ:Q () s):wpAny M A (letOwnedTupleGo tg (.ref it) u) Q E s:=by
  unfold letOwnedTupleGo
  cases tg <;> first
    | exact wpAny_pure hQ
    | (cases u <;> first
        | exact wpAny_pure hQ
        | (refine wpAny_bind (wpAny_load ho ?_)
           rw [hc,hd]
           show wpAny M A (if (["enumerate", "zip", "dict_itemiterator", "dict_reverseitemiterator", "odict_iterator", "itertools.zip_longest", "itertools.pairwise"].contains n && vs[0]? == some (rawInt _)) = true then _ else _) Q E s
           rw [if_neg (by intro h;rw [hn,Bool.false_and] at h;cases h)]
           exact wpAny_pure hQ))
def Ao (K:PySem.W.Frag) (a:Addr):It :=
 ⟨fun i H=>∃ xs x,aY K H a xs∧xs[i]? = some x,fun i H x H'=>H' = H∧∀ xs,aY K H a xs→xs[i]? = some x,fun i H=>∃ xs,aY K H a xs∧xs.length≤i⟩
def Am (K:PySem.W.Frag) (a:Addr):It :=
 ⟨fun i H=>∃ xs x,cV K H a xs∧xs[i]? = some x,fun i H x H'=>H' = H∧∀ xs,cV K H a xs→xs[i]? = some x,fun i H=>∃ xs,cV K H a xs∧xs.length≤i⟩
def Br (lo:Int) (n:Nat):It:=⟨fun i _=>i < n,fun i H x H'=>H' = H∧x = .int (lo + i),fun i _=>n≤i⟩
theorem sH {P:Program} {w:World} {K:PySem.W.Frag} {tg:Expr} (a it:Addr):Turn P w K tg (Ao K a) [it] it (fun i h=>h.IsListIter it a i) where
 mem:=by simp
 obj:=fun i h st b hb=>by
  have e:b = it:=by simpa using hb
  subst e
  obtain ⟨o,e,c,d⟩:=st
  exact ⟨o,e,fun v z=>by rw [d] at z;cases z⟩
 keep:=fun i h h' st k=>st.at fun o e=>k it (by simp) o e
 item:=by
  intro X hP hw hK hc i pins s σ H E I hf st hg
  subst hP hw hK
  obtain ⟨xs,x,hq,hx⟩:=hg
  obtain ⟨its,rv,p,hz⟩:=I.list hq
  obtain ⟨u,hu,ru⟩:=rv.get hx
  obtain ⟨f0,f1,f2,f3,f4,f5⟩:=hf it (by simp)
  refine wpAny_pyNext_list_item st p.isList (x:=u) (by simpa using hu) fun h' st' sb=>?_
  have I1:Inv X pins σ H { s with heap:=h' }:=I.turned (t':=s.toks) (fun b o hb e=>(sb.2 b hb).trans e) f0 f1 f3 f4 f5
  obtain ⟨o,e,c,d⟩:=id st'
  exact ⟨u,rfl,nI (s:={ s with heap:=h' }) e c d (by decide) ⟨x,H,I1,ru,⟨rfl,fun ys hy=>by rw [I.oK hy hq];exact hx⟩,st',fun b hb=>(hf b hb).1⟩⟩
 done:=by
  intro X hP hw hK hc i pins s σ H E I hf st hg
  subst hP hw hK
  obtain ⟨xs,hq,hx⟩:=hg
  obtain ⟨its,rv,p,hz⟩:=I.list hq
  obtain ⟨f0,f1,f2,f3,f4,f5⟩:=hf it (by simp)
  have hl:=rv.length
  exact wpAny_pyNext_list_end (I.ok.hd hc) st p.isList (by simp;lia) fun h' eb=>⟨rfl,I.turned (t':=s.toks) (fun b o hb e=>eb b o hb e) f0 f1 f3 f4 f5⟩
 self:=fun _ _ _ _ _ st h=>wpAny_pyIter_listiter st h
theorem qq {P:Program} {w:World} {K:PySem.W.Frag} {tg:Expr} (a it:Addr):Turn P w K tg (Am K a) [it] it (fun i h=>h.IsTupleIter it a i) where
 mem:=by simp
 obj:=fun i h st b hb=>by
  have e:b = it:=by simpa using hb
  subst e
  obtain ⟨o,e,c,d⟩:=st
  exact ⟨o,e,fun v z=>by rw [d] at z;cases z⟩
 keep:=fun i h h' st k=>st.at fun o e=>k it (by simp) o e
 item:=by
  intro X hP hw hK hc i pins s σ H E I hf st hg
  subst hP hw hK
  obtain ⟨xs,x,hq,hx⟩:=hg
  obtain ⟨its,rv,p,hz⟩:=I.tuple hq
  obtain ⟨u,hu,ru⟩:=rv.get hx
  obtain ⟨f0,f1,f2,f3,f4,f5⟩:=hf it (by simp)
  refine wpAny_pyNext_tuple_item st (show s.heap.IsTuple a its.toArray from p) (x:=u) (by simpa using hu) fun h' st' sb=>?_
  have I1:Inv X pins σ H { s with heap:=h' }:=I.turned (t':=s.toks) (fun b o hb e=>(sb.2 b hb).trans e) f0 f1 f3 f4 f5
  obtain ⟨o,e,c,d⟩:=id st'
  exact ⟨u,rfl,nI (s:={ s with heap:=h' }) e c d (by decide) ⟨x,H,I1,ru,⟨rfl,fun ys hy=>by rw [I.sD hy hq];exact hx⟩,st',fun b hb=>(hf b hb).1⟩⟩
 done:=by
  intro X hP hw hK hc i pins s σ H E I hf st hg
  subst hP hw hK
  obtain ⟨xs,hq,hx⟩:=hg
  obtain ⟨its,rv,p,hz⟩:=I.tuple hq
  obtain ⟨f0,f1,f2,f3,f4,f5⟩:=hf it (by simp)
  have hl:=rv.length
  exact wpAny_pyNext_tuple_end (I.ok.hd hc) st (show s.heap.IsTuple a its.toArray from p) (by simp;lia) fun h' eb=>⟨rfl,I.turned (t':=s.toks) (fun b o hb e=>eb b o hb e) f0 f1 f3 f4 f5⟩
 self:=fun _ _ _ _ _ st h=>wpAny_pyIter_tupleiter st h
theorem pU {P:Program} {w:World} {K:PySem.W.Frag} {tg:Expr} (it:Addr) (lo:Int) (n:Nat):Turn P w K tg (Br lo n) [it] it (fun i h=>IsRangeIter h it (lo + (i:Nat) * 1) ((n:Int) - (i:Nat)) 1) where
 mem:=by simp
 obj:=fun i h st b hb=>by
  have e:b = it:=by simpa using hb
  subst e
  exact ⟨_,st,fun v z=>by
   have z' : Data.fields _ = Data.cell v:=z
   cases z'⟩
 keep:=fun i h h' st k=>k it (by simp) _ st
 item:=by
  intro X hP hw hK hc i pins s σ H E I hf st hg
  subst hP hw hK
  obtain ⟨f0,f1,f2,f3,f4,f5⟩:=hf it (by simp)
  have W:=Walks.range (prog:=X.prog) (w:=X.w) (I.ok.hd hc) it lo 1 n
  refine W.item i s _ _ hg st fun v h' tk hv st' kk=>?_
  obtain ⟨t,rfl⟩:=hv
  have I1:Inv X pins σ H { s with heap:=h',toks:=tk }:=I.turned (fun b o hb e=>kk b o (by simpa using hb) e) f0 f1 f3 f4 f5
  refine ⟨_,rfl,nI (s:={ s with heap:=h',toks:=tk }) (n := "range_iterator") st' rfl rfl (by decide) ⟨.int (lo + i),H,I1,⟨t,?_⟩,⟨rfl,rfl⟩,st',fun b hb=>(hf b hb).1⟩⟩
  rw [Int.mul_one]
 done:=by
  intro X hP hw hK hc i pins s σ H E I hf st hg
  subst hP hw hK
  obtain ⟨f0,f1,f2,f3,f4,f5⟩:=hf it (by simp)
  exact wpAny_pyNext_range_end (I.ok.hd hc) st (by have:n≤i:=hg;lia) fun h' eb=>⟨rfl,I.turned (t':=s.toks) (fun b o hb e=>eb b o hb e) f0 f1 f3 f4 f5⟩
 self:=fun _ _ _ _ _ st h=>wpAny_pyIter_rangeiter st h
end L2
namespace L2
open PySem PySem.Spec PyProof.Rows
section
variable {X:Cx} {tg:Expr}
def AX (K:PySem.W.Frag) (tl:TE):TI:=fun σ H R=>tl σ H fun x H1=>∃ a,x = .ref a∧(∃ xs,aY K H1 a xs)∧R (Ao K a) H1
def Cn (K:PySem.W.Frag) (tl:TE):TI:=fun σ H R=>tl σ H fun x H1=>∃ a,x = .ref a∧(∃ xs,cV K H1 a xs)∧R (Am K a) H1
theorem br {l:Expr} {tl:TE} (hl:PE X l tl):PI X tg l (AX X.K tl):=by
 intro pins s σ H R I h
 refine bx (hl pins s σ H _ I h) fun v s1 ⟨x,H1,I1,r1,q1⟩=>?_
 obtain ⟨a,e,⟨xs,hq⟩,q⟩:=q1
 subst e
 cases r1
 obtain ⟨its,rv,p,hz⟩:=I1.list hq
 refine wpAny_pyIter_list p.isList ?_
 refine ⟨s1.heap.objs.size,[s1.heap.objs.size],_,_,H1,rfl,I1.kept (t':=s1.toks) fun b o e=>Heap.get?_push_of_some _ e,sH a _,⟨_,Heap.get?_push_size _ rfl,rfl,rfl⟩,fun b hb=>?_,q⟩
 have e:b = s1.heap.objs.size:=by simpa using hb
 subst e
 exact I1.sF (Nat.le_refl _) (I1.hok.fresh (Nat.le_refl _))
theorem qJ {l:Expr} {tl:TE} (hl:PE X l tl):PI X tg l (Cn X.K tl):=by
 intro pins s σ H R I h
 refine bx (hl pins s σ H _ I h) fun v s1 ⟨x,H1,I1,r1,q1⟩=>?_
 obtain ⟨a,e,⟨xs,hq⟩,q⟩:=q1
 subst e
 cases r1
 obtain ⟨its,rv,p,hz⟩:=I1.tuple hq
 refine wpAny_pyIter_tuple (show s1.heap.IsTuple a its.toArray from p) ?_
 refine ⟨s1.heap.objs.size,[s1.heap.objs.size],_,_,H1,rfl,I1.kept (t':=s1.toks) fun b o e=>Heap.get?_push_of_some _ e,qq a _,⟨_,Heap.get?_push_size _ rfl,rfl,rfl⟩,fun b hb=>?_,q⟩
 have e:b = s1.heap.objs.size:=by simpa using hb
 subst e
 exact I1.sF (Nat.le_refl _) (I1.hok.fresh (Nat.le_refl _))
theorem vU {pins:List (Addr × Obj)} {σ:St} {H:Hp} {s:Shared} {R:It→Hp→Prop} {E:Value→Shared→Prop} {lo hi:Int} {t u v:Tok} {tk:Nat} (I:Inv X pins σ H s) (h1 : -(2 ^ 62)≤lo) (h2:lo < 2 ^ 62) (h3 : -(2 ^ 62)≤hi) (h4:hi < 2 ^ 62)
  (q:R (Br lo (hi - lo).toNat) H):wpAny (model X.prog X.w) X.A (pyIter (.ref s.heap.objs.size)) (PIE X pins σ tg R) E { s with heap:=s.heap.push { cls:=.type "range",data:=.fields #[.int lo t,.int hi u,.int 1 v] },toks:=tk }:=by
 refine wpAny_pyIter_range (IsRange.new ..) (small_one h1 h2 h3 h4) ?_
 have I1:Inv X pins σ H { s with heap:=s.heap.push { cls:=.type "range",data:=.fields #[.int lo t,.int hi u,.int 1 v] },toks:=tk }:=I.kept fun b o e=>Heap.get?_push_of_some _ e
 refine ⟨(s.heap.push { cls:=.type "range",data:=.fields #[.int lo t,.int hi u,.int 1 v] }).objs.size,[(s.heap.push { cls:=.type "range",data:=.fields #[.int lo t,.int hi u,.int 1 v] }).objs.size],_,_,H,rfl,
  I1.kept (t':=tk) fun b o e=>Heap.get?_push_of_some _ e,pU _ lo (hi - lo).toNat,?_,fun b hb=>?_,q⟩
 ·have e1:lo + ((0:Nat):Int) * 1 = lo:=by simp
  have e2:(((hi - lo).toNat:Nat):Int) - ((0:Nat):Int) = Builtin.Range.rangeSize lo hi 1:=by rw [rangeSize_one];split <;> lia
  show IsRangeIter _ _ (lo + ((0:Nat):Int) * 1) ((((hi - lo).toNat:Nat):Int) - ((0:Nat):Int)) 1
  rw [e1,e2]
  exact Heap.get?_push_size _ rfl
 ·have e:b = (s.heap.push { cls:=.type "range",data:=.fields #[.int lo t,.int hi u,.int 1 v] }).objs.size:=by simpa using hb
  subst e
  exact I1.sF (Nat.le_refl _) (I1.hok.fresh (Nat.le_refl _))
def AO (ta:TA):TI:=fun σ H R=>ta σ H fun vs H1=>∃ j:Int,vs = [.int j]∧-(2 ^ 62)≤j∧j < 2 ^ 62∧R (Br 0 j.toNat) H1
theorem my {a:Expr} {ta:TA} {p pos:Pos} (hg:Gl X "range") (hm:X.mg "range" = none) (ha:PA X [a] ta) (hs:starEach [a] X.env = [(false,eval a X.env)]:=by rfl):PI X tg (.Call (.Name "range" p) [a] [] pos) (AO ta):=by
 intro pins s σ H R I h
 refine Call_ (iA I hg hm boot_range (PyProof.Rows.callWith_type1 (bx (ha pos pins s σ H _ I h) fun us s1 ⟨vs,H1,I1,r1,q1⟩=>?_) hs rfl))
 obtain ⟨j,e,q1,q2,q⟩:=q1
 subst e
 cases r1 with
 | cons r rr =>
  cases rr
  obtain ⟨t,rfl⟩:=r
  exact call_range_1 (vU I1 (by lia) (by lia) q1 q2 (by simpa using q))
def Cw (wi:TI) (g:TG) (tb:TS):TS:=fun D σ H=>wi σ H fun J H1=>∃ W:Nat→Nat→St→Hp→Prop,(∃ m,W 0 m σ H1)∧∀ i m σ H,W i m σ H →
 (J.stop i H∧D.nx σ H)∨(J.go i H∧∃ N:St→Hp→Prop,(∀ σ' H',N σ' H'→∃ m',m' < m∧W (i + 1) m' σ' H')∧∀ x H',J.yld i H x H'→g x σ H' fun σ2 H2=>tb { D with nx:=N,ct:=N,bk:=D.nx } σ2 H2)
def j6 (fp:List Addr) (h:Heap):List (Addr × Obj):=fp.filterMap fun b=>(h.get? b).map fun o=>(b,o)
theorem fV {fp:List Addr} {h:Heap} {b:Addr} {o:Obj} (hb:b ∈ fp) (e:h.get? b = some o):(b,o) ∈ j6 fp h:=List.mem_filterMap.mpr ⟨b,hb,by rw [e];rfl⟩
theorem sf {fp:List Addr} {h:Heap} {p:Addr × Obj} (hp:p ∈ j6 fp h):p.1 ∈ fp∧h.get? p.1 = some p.2:=by
 obtain ⟨b,hb,e⟩:=List.mem_filterMap.mp hp
 cases q:h.get? b with
 | none=>rw [q] at e;cases e
 | some o =>
  rw [q] at e
  have e' : (b,o) = p:=Option.some.inj e
  subst e'
  exact ⟨hb,q⟩
theorem Inv.pinned {pins:List (Addr × Obj)} {σ:St} {H:Hp} {s:Shared} {fp:List Addr} (I:Inv X pins σ H s) (hf:∀ b ∈ fp,gA X pins H b) (ho:∀ b ∈ fp,∃ o,s.heap.get? b = some o∧∀ v,o.data≠.cell v):Inv X (pins ++ j6 fp s.heap) σ H s :=
 I.qR fun p hp=>(List.mem_append.mp hp).elim (fun z=>I.pin p (List.mem_append_right _ z)) fun z=>by
  obtain ⟨hb,e⟩:=sf z
  obtain ⟨f0,f1,f2,_⟩:=hf p.1 hb
  obtain ⟨o,e',d⟩:=ho p.1 hb
  rw [e] at e';cases e'
  exact ⟨e,f0,f1,f2,d⟩
theorem Inv.iI {pins pl:List (Addr × Obj)} {σ:St} {H:Hp} {s:Shared} (I:Inv X (pins ++ pl) σ H s):Inv X pins σ H s:=I.qR fun p hp=>I.pin p (List.mem_append_right _ (List.mem_append_left _ hp))
theorem dZ {iter:Expr} {body:List Stmt} {wi:TI} {g:TG} {tb:TS} {pos:Pos} (hp:PassesOwn (model X.prog X.w) X.A X.env X.xe) (hc:X.calm = true) (hi:PI X tg iter wi) (hg:PG X tg g) (hb:nv X body tb)
  (hs:∀ x,foldedSetIterable iter X.env x = pure x:=by intro _;rfl):PS X (.For tg iter body [] pos) (Cw wi g tb):=by
 intro pins s σ H D I h
 refine wpAny_For (bx (hi pins s σ H _ I h) fun v s1 h1=>bx h1 fun itv s2 h2=>?_) hs
 obtain ⟨it,fp,tn,J,H2,e,I2,T,st2,f2,W,⟨m0,w0⟩,turn⟩:=h2
 subst e
 have stat:∀ {H' : Hp},(∀ b ∈ fp,H' b = none)→∀ b ∈ fp,gA X pins H' b:=fun hn b hb=>⟨hn b hb,(f2 b hb).2⟩
 refine codeAny_forLoop_any (fun n s'=>∃ i σ' H',Inv X pins σ' H' s'∧tn i s'.heap∧(∀ b ∈ fp,H' b = none)∧W i n σ' H') ?_ m0 ⟨0,σ,H2,I2,st2,fun b hb=>(f2 b hb).1,w0⟩
 rintro n s3 ⟨i,σ3,H3,I3,st3,fr3,w3⟩
 rcases turn i n σ3 H3 w3 with ⟨stop,qn⟩ | ⟨go,N,hN,step⟩
 ·refine wpAny_passesOwn hp (bx (T.done X rfl rfl rfl hc i pins s3 σ3 H3 X.xe I3 (stat fr3) st3 stop) fun r s4 ⟨hr,I4⟩=>?_)
  subst hr
  exact wpAny_execs_nil ⟨σ3,H3,I4,qn⟩
 ·refine wpAny_passesOwn hp (bx (T.item X rfl rfl rfl hc i pins s3 σ3 H3 X.xe I3 (stat fr3) st3 go) fun r s4 ⟨u,hr,h4⟩=>?_)
  subst hr
  refine wpAny_passesOwn hp (bx h4 fun _ s5 ⟨x,H5,I5,r5,y5,st5,fr5⟩=>?_)
  have I5':=I5.pinned (stat fr5) (T.obj _ _ st5)
  refine wpAny_passesOwn hp (bx (hg _ s5 σ3 H5 x u _ I5' r5 (step x H5 y5)) fun _ s6 ⟨σ6,H6,I6,q6⟩=>?_)
  refine wpAny_passesOwn hp (bx (hb _ s6 σ6 H6 _ I6 q6) fun f s7 q7=>?_)
  have again:∀ {σ7:St} {H7:Hp},Inv X (pins ++ j6 fp s5.heap) σ7 H7 s7→N σ7 H7→∃ m,m < n∧∃ i σ' H',Inv X pins σ' H' s7∧tn i s7.heap∧(∀ b ∈ fp,H' b = none)∧W i m σ' H':=fun {σ7 H7} I7 n7=>by
   obtain ⟨m',hm,w7⟩:=hN σ7 H7 n7
   refine ⟨m',hm,i + 1,σ7,H7,I7.iI,T.keep _ _ _ st5 fun b hb o e=>(I7.pin (b,o) (List.mem_append_right _ (List.mem_append_right _ (fV hb e)))).1,fun b hb=>?_,w7⟩
   obtain ⟨o,e,d⟩:=T.obj _ _ st5 b hb
   exact (I7.pin (b,o) (List.mem_append_right _ (List.mem_append_right _ (fV hb e)))).2.1
  cases f with
  | next=>obtain ⟨σ7,H7,I7,n7⟩:=q7;exact again I7 n7
  | cont=>obtain ⟨σ7,H7,I7,n7⟩:=q7;exact again I7 n7
  | brk=>obtain ⟨σ7,H7,I7,q7⟩:=q7;exact ⟨σ7,H7,I7.iI,q7⟩
  | ret v=>obtain ⟨x7,σ7,H7,I7,r7,q7⟩:=q7;exact ⟨x7,σ7,H7,I7.iI,r7,q7⟩
end
theorem cO {K:PySem.W.Frag} {a:Addr} {xs:List V} {g:TG} {tb:TS} {D:Ends} {σ:St} {H:Hp} (Pv:Nat→St→Hp→Prop) (h0:Pv 0 σ H) (hl:∀ i σ H,i≤xs.length→Pv i σ H→aY K H a xs)
  (hs:∀ i x σ H,xs[i]? = some x→Pv i σ H→g x σ H fun σ2 H2=>tb { D with nx:=Pv (i + 1),ct:=Pv (i + 1),bk:=D.nx } σ2 H2) (hd:∀ σ H,Pv xs.length σ H→D.nx σ H) :
  ∃ W:Nat→Nat→St→Hp→Prop,(∃ m,W 0 m σ H)∧∀ i m σ H,W i m σ H →
   ((Ao K a).stop i H∧D.nx σ H)∨((Ao K a).go i H∧∃ N:St→Hp→Prop,(∀ σ' H',N σ' H'→∃ m',m' < m∧W (i + 1) m' σ' H')∧∀ x H',(Ao K a).yld i H x H'→g x σ H' fun σ2 H2=>tb { D with nx:=N,ct:=N,bk:=D.nx } σ2 H2):=by
 refine ⟨fun i m σ H=>m = xs.length - i∧i≤xs.length∧Pv i σ H,⟨xs.length,by simp,Nat.zero_le _,h0⟩,?_⟩
 rintro i m σ H ⟨rfl,hi,p⟩
 have q:=hl i σ H hi p
 by_cases hlt:i < xs.length
 ·refine .inr ⟨⟨xs,xs[i],q,by simp [hlt]⟩,Pv (i + 1),fun σ' H' p'=>⟨xs.length - (i + 1),by lia,rfl,hlt,p'⟩,fun x H' y=>?_⟩
  obtain ⟨e,y⟩:=y
  subst e
  exact hs i x σ _ (y xs q) p
 ·have e:i = xs.length:=by lia
  subst e
  exact .inl ⟨⟨xs,q,Nat.le_refl _⟩,hd σ H p⟩
theorem xY {K:PySem.W.Frag} {a:Addr} {xs:List V} {g:TG} {tb:TS} {D:Ends} {σ:St} {H:Hp} (Pv:Nat→St→Hp→Prop) (h0:Pv 0 σ H) (hl:∀ i σ H,i≤xs.length→Pv i σ H→cV K H a xs)
  (hs:∀ i x σ H,xs[i]? = some x→Pv i σ H→g x σ H fun σ2 H2=>tb { D with nx:=Pv (i + 1),ct:=Pv (i + 1),bk:=D.nx } σ2 H2) (hd:∀ σ H,Pv xs.length σ H→D.nx σ H) :
  ∃ W:Nat→Nat→St→Hp→Prop,(∃ m,W 0 m σ H)∧∀ i m σ H,W i m σ H →
   ((Am K a).stop i H∧D.nx σ H)∨((Am K a).go i H∧∃ N:St→Hp→Prop,(∀ σ' H',N σ' H'→∃ m',m' < m∧W (i + 1) m' σ' H')∧∀ x H',(Am K a).yld i H x H'→g x σ H' fun σ2 H2=>tb { D with nx:=N,ct:=N,bk:=D.nx } σ2 H2):=by
 refine ⟨fun i m σ H=>m = xs.length - i∧i≤xs.length∧Pv i σ H,⟨xs.length,by simp,Nat.zero_le _,h0⟩,?_⟩
 rintro i m σ H ⟨rfl,hi,p⟩
 have q:=hl i σ H hi p
 by_cases hlt:i < xs.length
 ·refine .inr ⟨⟨xs,xs[i],q,by simp [hlt]⟩,Pv (i + 1),fun σ' H' p'=>⟨xs.length - (i + 1),by lia,rfl,hlt,p'⟩,fun x H' y=>?_⟩
  obtain ⟨e,y⟩:=y
  subst e
  exact hs i x σ _ (y xs q) p
 ·have e:i = xs.length:=by lia
  subst e
  exact .inl ⟨⟨xs,q,Nat.le_refl _⟩,hd σ H p⟩
end L2
namespace L2
open PySem PySem.Spec PyProof.Rows
abbrev R2:=V→V→Hp→VK→Prop
def hX (X:Cx) (f:Value→Value→Sem Value) (r:R2):Prop :=
 ∀ (pins:List (Addr × Obj)) (s:Shared) (σ:St) (H:Hp) (x y:V) (v u:Value) (Q:VK),Inv X pins σ H s→RelV x v→RelV y u→r x y H Q →
  wpAny (model X.prog X.w) X.A (f v u) (EP X pins σ Q) X.xe s
def Cm (X:Cx) (f:Value→Sem Value) (r:V→Hp→VK→Prop):Prop :=
 ∀ (pins:List (Addr × Obj)) (s:Shared) (σ:St) (H:Hp) (x:V) (v:Value) (Q:VK),Inv X pins σ H s→RelV x v→r x H Q →
  wpAny (model X.prog X.w) X.A (f v) (EP X pins σ Q) X.xe s
def eQ (X:Cx) (f:Value) (r:List V→Hp→VK→Prop):Prop :=
 ∀ (pins:List (Addr × Obj)) (s:Shared) (σ:St) (H:Hp) (xs:List V) (us:List Value) (Q:VK),Inv X pins σ H s→Vals xs us→r xs H Q →
  wpAny (model X.prog X.w) X.A (call f us) (EP X pins σ Q) X.xe s
def BE (X:Cx) (r:V→Hp→(Bool→Hp→Prop)→Prop):Prop :=
 ∀ (pins:List (Addr × Obj)) (s:Shared) (σ:St) (H:Hp) (x:V) (v:Value) (Q:Bool→Hp→Prop),Inv X pins σ H s→RelV x v→r x H Q →
  wpAny (model X.prog X.w) X.A (truthy v) (TP X pins σ Q) X.xe s
def AW (r:R2) (ta tb:TE):TE:=fun σ H Q=>ta σ H fun x H1=>tb σ H1 fun y H2=>r x y H2 Q
def tUn (r:V→Hp→VK→Prop) (ta:TE):TE:=fun σ H Q=>ta σ H fun x H1=>r x H1 Q
def rI (C:Int→Int→Prop) (g:Int→Int→V):R2:=fun x y H Q=>∃ i j,x = .int i∧y = .int j∧C i j∧Q (g i j) H
def wC (g:Int→Int→V):R2:=fun x y H Q=>∃ i j,x = .int i∧y = .int j∧Q (g i j) H
def rU (g:Int→V):V→Hp→VK→Prop:=fun x H Q=>∃ i,x = .int i∧Q (g i) H
section
variable {X:Cx} {a b c:Expr} {ta tb tc:TE} {pos:Pos}
theorem zW (ha:PE X a ta) (hb:PE X b tb) {pins:List (Addr × Obj)} {s:Shared} {σ:St} {H:Hp} {R:V→V→Hp→Prop} (I:Inv X pins σ H s)
  (h:ta σ H fun x H1=>tb σ H1 fun y H2=>R x y H2) {Q:Value→Shared→Prop} {f:Value→Value→Sem Value}
  (hf:∀ v u s2 x y H2,Inv X pins σ H2 s2→RelV x v→RelV y u→R x y H2→wpAny (model X.prog X.w) X.A (f v u) Q X.xe s2) :
  wpAny (model X.prog X.w) X.A (eval a X.env) (fun v s₁=>wpAny (model X.prog X.w) X.A (eval b X.env) (fun u s₂=>wpAny (model X.prog X.w) X.A (f v u) Q X.xe s₂) X.xe s₁) X.xe s:=by
 refine bx (ha pins s σ H _ I h) fun v s1 ⟨x,H1,I1,r1,q1⟩=>?_
 refine bx (hb pins s1 σ H1 _ I1 q1) fun u s2 ⟨y,H2,I2,r2,q2⟩=>?_
 exact hf v u s2 x y H2 I2 r1 r2 q2
theorem aU {op:Operator} {r:R2} (ho:hX X (binaryOp op) r) (ha:PE X a ta) (hb:PE X b tb):PE X (.BinOp a op b pos) (AW r ta tb):=by
 intro pins s σ H Q I h
 exact wpAny_BinOp (zW ha hb I h fun v u s2 x y H2 I2 rx ry q=>ho pins s2 σ H2 x y v u Q I2 rx ry q)
theorem AF {op:UnaryOp} {r:V→Hp→VK→Prop} (ho:Cm X (unaryOp op) r) (ha:PE X a ta):PE X (.UnaryOp op a pos) (tUn r ta):=by
 intro pins s σ H Q I h
 exact UnaryOp_ (bx (ha pins s σ H _ I h) fun v s1 ⟨x,H1,I1,r1,q1⟩=>ho pins s1 σ H1 x v Q I1 r1 q1)
theorem Ay {f:Value→Value→Sem Value} {C:Int→Int→Prop} {g:Int→Int→Int}
  (rule:∀ (i j:Int) (t u:Tok) (s:Shared) (Q:Value→Shared→Prop) (E:Value→Shared→Prop),C i j→Q (.int (g i j) s.toks) { s with toks:=s.toks + 1 }→wpAny (model X.prog X.w) X.A (f (.int i t) (.int j u)) Q E s) :
  hX X f (rI C fun i j=>.int (g i j)):=by
 intro pins s σ H x y v u Q I rx ry h
 obtain ⟨i,j,rfl,rfl,hc,q⟩:=h
 obtain ⟨t,rfl⟩:=rx
 obtain ⟨t',rfl⟩:=ry
 exact rule i j t t' s _ _ hc ⟨.int (g i j),H,I.tok _,⟨_,rfl⟩,q⟩
theorem vh {f:Value→Value→Sem Value} {g:Int→Int→Int}
  (rule:∀ (i j:Int) (t u:Tok) (s:Shared) (Q:Value→Shared→Prop) (E:Value→Shared→Prop),Q (.int (g i j) s.toks) { s with toks:=s.toks + 1 }→wpAny (model X.prog X.w) X.A (f (.int i t) (.int j u)) Q E s) :
  hX X f (wC fun i j=>.int (g i j)):=by
 intro pins s σ H x y v u Q I rx ry h
 obtain ⟨i,j,rfl,rfl,q⟩:=h
 obtain ⟨t,rfl⟩:=rx
 obtain ⟨t',rfl⟩:=ry
 exact rule i j t t' s _ _ ⟨.int (g i j),H,I.tok _,⟨_,rfl⟩,q⟩
theorem Aj {f:Value→Value→Sem Value} {g:Int→Int→Bool}
  (rule:∀ (i j:Int) (t u:Tok) (s:Shared) (Q:Value→Shared→Prop) (E:Value→Shared→Prop),Q (.bool (g i j)) s→wpAny (model X.prog X.w) X.A (f (.int i t) (.int j u)) Q E s) :
  hX X f (wC fun i j=>.bl (g i j)):=by
 intro pins s σ H x y v u Q I rx ry h
 obtain ⟨i,j,rfl,rfl,q⟩:=h
 obtain ⟨t,rfl⟩:=rx
 obtain ⟨t',rfl⟩:=ry
 exact rule i j t t' s _ _ ⟨.bl (g i j),H,I,rfl,q⟩
def Bz (i j:Int):Prop:=0 < j∧j < 1073741824
def Co (i j:Int):Prop:=0≤j∧j≤1000000∧i.natAbs < 2 ^ 64
def zf (i j:Int):Prop:=(-(2 ^ 64) < i∧i < 2 ^ 64)∨(-(2 ^ 64) < j∧j < 2 ^ 64)
theorem zf.ok {i j:Int} (h:zf i j):IntMulOk i j:=by
 rcases h with ⟨h1,h2⟩ | ⟨h1,h2⟩
 ·exact .of_left (intBits_le_64 h1 h2)
 ·exact .of_right (intBits_le_64 h1 h2)
theorem two_pow_nn (k:Nat):(0:Int)≤2 ^ k:=by
 rw [two_pow_cast]
 exact Int.natCast_nonneg _
theorem gy:hX X (binaryOp .Add) (wC fun i j=>.int (i + j)):=vh fun _ _ _ _ _ _ _ q=>add_int q
theorem pM:hX X (binaryOp .Sub) (wC fun i j=>.int (i - j)):=vh fun _ _ _ _ _ _ _ q=>sub_int q
theorem qm:hX X (binaryOp .Mult) (rI zf fun i j=>.int (i * j)):=Ay fun _ _ _ _ _ _ _ hc q=>mul_int q hc.ok
theorem ez:hX X (binaryOp .FloorDiv) (rI Bz fun i j=>.int (i / j)):=Ay fun i j _ _ _ _ _ hc q=>by
 have h1:(0:Int) < j:=hc.1
 have h2:j < 1073741824:=hc.2
 exact floordiv_int (by lia) (by rw [Int.fdiv_eq_ediv_of_nonneg i (by lia)];exact q) (.inl (PyProof.noPylong_small (by lia)))
theorem dy:hX X (binaryOp .Mod) (rI (fun _ j=>0 < j) fun i j=>.int (i % j)):=Ay fun i j _ _ _ _ _ hc q=>by
 have h1:(0:Int) < j:=hc
 exact mod_int' (by lia) (by rw [Int.fmod_eq_emod_of_nonneg i (by lia)];exact q)
theorem Ak:hX X (binaryOp .LShift) (rI Co fun i j=>.int (i * 2 ^ j.toNat)):=Ay fun _ _ _ _ _ _ _ hc q=>lshift_int_small hc.1 hc.2.1 hc.2.2 q
theorem zy:hX X (binaryOp .RShift) (rI (fun _ j=>0≤j) fun i j=>.int (i / 2 ^ j.toNat)):=Ay fun i j _ _ _ _ _ hc q =>
 rshift_int hc (by rw [Int.fdiv_eq_ediv_of_nonneg i (two_pow_nn _)];exact q)
theorem uB:hX X (binaryOp .BitAnd) (wC fun i j=>.int (Builtin.bitAnd i j)):=vh fun _ _ _ _ _ _ _ q=>and_int q
theorem vD:hX X (binaryOp .BitOr) (wC fun i j=>.int (Builtin.bitOr i j)):=vh fun _ _ _ _ _ _ _ q=>or_int q
theorem zl:hX X (binaryOp .BitXor) (wC fun i j=>.int (Builtin.bitXor i j)):=vh fun _ _ _ _ _ _ _ q=>xor_int q
theorem unI {f:Value→Sem Value} {g:Int→Int}
  (rule:∀ (i:Int) (t:Tok) (s:Shared) (Q:Value→Shared→Prop) (E:Value→Shared→Prop),Q (.int (g i) s.toks) { s with toks:=s.toks + 1 }→wpAny (model X.prog X.w) X.A (f (.int i t)) Q E s) :
  Cm X f (rU fun i=>.int (g i)):=by
 intro pins s σ H x v Q I rx h
 obtain ⟨i,rfl,q⟩:=h
 obtain ⟨t,rfl⟩:=rx
 exact rule i t s _ _ ⟨.int (g i),H,I.tok _,⟨_,rfl⟩,q⟩
theorem yT:Cm X (unaryOp .USub) (rU fun i=>.int (-i)):=unI fun _ _ _ _ _ q=>neg_int q
end
def A3:V→V→Bool
 | .non,.non=>true | .non,.int _=>true | .int _,.non=>true | .non,.bl _=>true | .bl _,.non=>true | .non,.str _=>true | .str _,.non=>true
 | .int _,.int _=>true | .bl _,.bl _=>true | .str _,.str _=>true | .byt _,.byt _=>true
 | .int _,.str _=>true | .str _,.int _=>true | .bl _,.str _=>true | .str _,.bl _=>true
 | _,_=>false
def rEq:R2:=fun x y H Q=>A3 x y = true∧Q (.bl (decide (x = y))) H
def rNe:R2:=fun x y H Q=>A3 x y = true∧Q (.bl (!decide (x = y))) H
theorem rk {i j:Int} : decide (V.int i = V.int j) = (i == j):=by
 rw [Bool.eq_iff_iff]
 simp
theorem u4 {i j:Bool} : decide (V.bl i = V.bl j) = (i == j):=by
 rw [Bool.eq_iff_iff]
 simp
theorem qO {i j:Str} : decide (V.str i = V.str j) = (i == j):=by
 rw [Bool.eq_iff_iff]
 simp
theorem qM {i j:Array UInt8} : decide (V.byt i = V.byt j) = (i.toList == j.toList):=by
 rw [Bool.eq_iff_iff]
 cases i
 cases j
 simp
section
variable {X:Cx} {a b c:Expr} {ta tb tc:TE} {pos:Pos}
theorem bh {pins:List (Addr × Obj)} {σ:St} {H:Hp} {s:Shared} {Q:VK} {k k' : Bool} (I:Inv X pins σ H s) (q:Q (.bl k) H) (e:k = k'):EP X pins σ Q (.bool k') s:=by
 subst e
 exact ⟨.bl k,H,I,rfl,q⟩
theorem iP:hX X (compareOp .Eq) rEq:=by
 intro pins s σ H x y v u Q I rx ry h
 obtain ⟨hs,q⟩:=h
 cases x with
 | non =>
  cases rx
  cases y with
  | non=>cases ry;exact PySem.EqNone.eq_none_none (bh I q (by simp))
  | bl j=>cases ry;exact PySem.EqNone.eq_none_bool (bh I q (by simp))
  | int j=>obtain ⟨t',rfl⟩:=ry;exact PySem.EqNone.eq_none_int (bh I q (by simp))
  | str j=>obtain ⟨t',rfl⟩:=ry;exact PySem.EqNone.eq_none_str (bh I q (by simp))
  | _=>exact absurd (show false = true from hs) Bool.false_ne_true
 | bl i =>
  cases rx
  cases y with
  | non=>cases ry;exact PySem.EqNone.eq_bool_none (bh I q (by simp))
  | bl j=>cases ry;exact eq_bool (bh I q u4)
  | str j=>obtain ⟨t',rfl⟩:=ry;exact PySem.EqMixed.eq_bool_str (bh I q (by simp))
  | _=>exact absurd (show false = true from hs) Bool.false_ne_true
 | int i =>
  obtain ⟨t,rfl⟩:=rx
  cases y with
  | non=>cases ry;exact PySem.EqNone.eq_int_none (bh I q (by simp))
  | int j=>obtain ⟨t',rfl⟩:=ry;exact eq_int (bh I q rk)
  | str j=>obtain ⟨t',rfl⟩:=ry;exact PySem.EqMixed.eq_int_str (bh I q (by simp))
  | _=>exact absurd (show false = true from hs) Bool.false_ne_true
 | str i =>
  obtain ⟨t,rfl⟩:=rx
  cases y with
  | non=>cases ry;exact PySem.EqNone.eq_str_none (bh I q (by simp))
  | bl j=>cases ry;exact PySem.EqMixed.eq_str_bool (bh I q (by simp))
  | int j=>obtain ⟨t',rfl⟩:=ry;exact PySem.EqMixed.eq_str_int (bh I q (by simp))
  | str j=>obtain ⟨t',rfl⟩:=ry;exact eq_str (bh I q qO)
  | _=>exact absurd (show false = true from hs) Bool.false_ne_true
 | byt i =>
  obtain ⟨t,rfl⟩:=rx
  cases y with
  | byt j=>obtain ⟨t',rfl⟩:=ry;exact PySem.W.eq_bytes (bh I q qM)
  | _=>exact absurd (show false = true from hs) Bool.false_ne_true
 | _=>cases y <;> exact absurd (show false = true from hs) Bool.false_ne_true
theorem A5:hX X (compareOp .NotEq) rNe:=by
 intro pins s σ H x y v u Q I rx ry h
 obtain ⟨hs,q⟩:=h
 cases x with
 | non =>
  cases rx
  cases y with
  | non=>cases ry;exact PySem.EqNone.ne_none_none (bh I q (by simp))
  | bl j=>cases ry;exact PySem.EqNone.ne_none_bool (bh I q (by simp))
  | int j=>obtain ⟨t',rfl⟩:=ry;exact PySem.EqNone.ne_none_int (bh I q (by simp))
  | str j=>obtain ⟨t',rfl⟩:=ry;exact PySem.EqNone.ne_none_str (bh I q (by simp))
  | _=>exact absurd (show false = true from hs) Bool.false_ne_true
 | bl i =>
  cases rx
  cases y with
  | non=>cases ry;exact PySem.EqNone.ne_bool_none (bh I q (by simp))
  | bl j=>cases ry;exact ne_bool (bh I q (congrArg not u4))
  | str j=>obtain ⟨t',rfl⟩:=ry;exact PySem.EqMixed.ne_bool_str (bh I q (by simp))
  | _=>exact absurd (show false = true from hs) Bool.false_ne_true
 | int i =>
  obtain ⟨t,rfl⟩:=rx
  cases y with
  | non=>cases ry;exact PySem.EqNone.ne_int_none (bh I q (by simp))
  | int j=>obtain ⟨t',rfl⟩:=ry;exact ne_int (bh I q (congrArg not rk))
  | str j=>obtain ⟨t',rfl⟩:=ry;exact PySem.EqMixed.ne_int_str (bh I q (by simp))
  | _=>exact absurd (show false = true from hs) Bool.false_ne_true
 | str i =>
  obtain ⟨t,rfl⟩:=rx
  cases y with
  | non=>cases ry;exact PySem.EqNone.ne_str_none (bh I q (by simp))
  | bl j=>cases ry;exact PySem.EqMixed.ne_str_bool (bh I q (by simp))
  | int j=>obtain ⟨t',rfl⟩:=ry;exact PySem.EqMixed.ne_str_int (bh I q (by simp))
  | str j=>obtain ⟨t',rfl⟩:=ry;exact ne_str (bh I q (congrArg not qO))
  | _=>exact absurd (show false = true from hs) Bool.false_ne_true
 | byt i =>
  obtain ⟨t,rfl⟩:=rx
  cases y with
  | byt j=>obtain ⟨t',rfl⟩:=ry;exact PySem.W.ne_bytes (bh I q (congrArg not qM))
  | _=>exact absurd (show false = true from hs) Bool.false_ne_true
 | _=>cases y <;> exact absurd (show false = true from hs) Bool.false_ne_true
theorem vO:hX X (compareOp .Lt) (wC fun i j=>.bl (decide (i < j))):=Aj fun _ _ _ _ _ _ _ q=>lt_int q
theorem mm:hX X (compareOp .LtE) (wC fun i j=>.bl (decide (i≤j))):=Aj fun _ _ _ _ _ _ _ q=>le_int q
theorem AY:hX X (compareOp .Gt) (wC fun i j=>.bl (decide (j < i))):=Aj fun _ _ _ _ _ _ _ q=>gt_int q
theorem sj:hX X (compareOp .In) (fun x y H Q=>∃ i j,x = .str i∧y = .str j∧Q (.bl (!(Builtin.Str.occurrences j i 0 j.length 1).isEmpty)) H):=by
 intro pins s σ H x y v u Q I rx ry h
 obtain ⟨i,j,rfl,rfl,q⟩:=h
 obtain ⟨t,rfl⟩:=rx
 obtain ⟨t',rfl⟩:=ry
 exact in_str (bh I q rfl)
theorem cA (b:Expr) {op:CmpOp} (h:op≠.In:=by decide) (h2:op≠.NotIn:=by decide):behindInMarks op b = false:=by
 have e1:(op == CmpOp.In) = false:=by cases op <;> first | rfl | exact absurd rfl h
 have e2:(op == CmpOp.NotIn) = false:=by cases op <;> first | rfl | exact absurd rfl h2
 cases b <;> simp [behindInMarks,e1,e2]
theorem d4 {op:CmpOp} {r:R2} (ho:hX X (compareOp op) r) (ha:PE X a ta) (hb:PE X b tb) (hm:behindInMarks op b = false):PE X (.Compare a [op] [b] pos) (AW r ta tb):=by
 intro pins s σ H Q I h
 exact wpAny_Compare1 (zW ha hb I h fun v u s2 x y H2 I2 rx ry q=>ho pins s2 σ H2 x y v u Q I2 rx ry q) hm
def yN (t:TE):TT:=fun σ H Q=>t σ H fun x H'=>∃ k,x = .bl k∧Q k H'
theorem bJ {op:CmpOp} {r:R2} (ho:hX X (compareOp op) r) (ha:PE X a ta) (hb:PE X b tb) (hm:behindInMarks op b = false):PT X (.Compare a [op] [b] pos) (yN (AW r ta tb)):=by
 intro pins s σ H Q I h
 refine wpAny_isTrue_Compare1 (bx (ha pins s σ H _ I h) fun v s1 ⟨x,H1,I1,r1,q1⟩=>bx (hb pins s1 σ H1 _ I1 q1) fun u s2 ⟨y,H2,I2,r2,q2⟩ =>
  bx (ho pins s2 σ H2 x y v u _ I2 r1 r2 q2) fun c s3 ⟨z,H3,I3,r3,k,e,q3⟩=>?_) hm
 subst e
 cases r3
 exact wpAny_truthy_bool ⟨H3,I3,q3⟩
def tV (r r' : R2) (ta tb tc:TE):TE:=fun σ H Q=>ta σ H fun x H1=>tb σ H1 fun y H2=>r x y H2 fun z H3=>∃ k,z = .bl k ∧
 (if k = true then tc σ H3 fun w' H4=>r' y w' H4 Q else Q (.bl false) H3)
theorem vM {op op' : CmpOp} {r r' : R2} (ho:hX X (compareOp op) r) (ho' : hX X (compareOp op') r') (ha:PE X a ta) (hb:PE X b tb) (hc:PE X c tc)
  (hm:lastMarks [op,op'] [b,c] = false:=by with_unfolding_all rfl):PE X (.Compare a [op,op'] [b,c] pos) (tV r r' ta tb tc):=by
 intro pins s σ H Q I h
 refine Compare_chain (bx (ha pins s σ H _ I h) fun v s1 ⟨x,H1,I1,r1,q1⟩=>chain_link (bx (hb pins s1 σ H1 _ I1 q1) fun u s2 ⟨y,H2,I2,r2,q2⟩ =>
  bx (ho pins s2 σ H2 x y v u _ I2 r1 r2 q2) fun d s3 ⟨z,H3,I3,r3,k,e,q3⟩=>?_)) hm
 subst e
 cases r3
 refine wpAny_truthy_bool ?_
 cases k with
 | false=>exact ite_ff ⟨.bl false,H3,I3,rfl,q3⟩
 | true=>exact ite_tt (chain_last (bx (hc pins s3 σ H3 _ I3 q3) fun w' s4 ⟨z',H4,I4,r4,q4⟩=>ho' pins s4 σ H4 y z' u w' Q I4 r2 r4 q4))
theorem vz {op op' : CmpOp} {r r' : R2} (ho:hX X (compareOp op) r) (ho' : hX X (compareOp op') r') (ha:PE X a ta) (hb:PE X b tb) (hc:PE X c tc)
  (hm:lastMarks [op,op'] [b,c] = false:=by with_unfolding_all rfl):PT X (.Compare a [op,op'] [b,c] pos) (yN (tV r r' ta tb tc)):=by
 intro pins s σ H Q I h
 refine isTrue_chain (bx (ha pins s σ H _ I h) fun v s1 ⟨x,H1,I1,r1,q1⟩=>test_link (bx (hb pins s1 σ H1 _ I1 q1) fun u s2 ⟨y,H2,I2,r2,q2⟩ =>
  bx (ho pins s2 σ H2 x y v u _ I2 r1 r2 q2) fun d s3 ⟨z,H3,I3,r3,k,e,q3⟩=>?_)) hm
 subst e
 cases r3
 refine wpAny_truthy_bool ?_
 cases k with
 | false =>
  obtain ⟨k',e',q'⟩:=q3
  cases e'
  exact ite_ff ⟨H3,I3,q'⟩
 | true =>
  refine ite_tt (test_last (bx (hc pins s3 σ H3 _ I3 q3) fun w' s4 ⟨z',H4,I4,r4,q4⟩=>bx (ho' pins s4 σ H4 y z' u w' _ I4 r2 r4 q4) fun d' s5 ⟨z2,H5,I5,r5,k2,e2,q5⟩=>?_))
  subst e2
  cases r5
  exact wpAny_truthy_bool ⟨H5,I5,q5⟩
def Ar (K:PySem.W.Frag) (x:V) (H:Hp) (k:Bool):Prop :=
 match x with
 | .non=>k = false
 | .bl b=>k = b
 | .int i=>k = (i != 0)
 | .str y=>y.length≤sizeLine∧k = ((y.length:Int) != 0)
 | .byt y=>y.size≤sizeLine∧k = ((y.size:Int) != 0)
 | .ref p=>(∃ xs,aY K H p xs∧k = !xs.isEmpty)∨(∃ xs,cV K H p xs∧k = !xs.isEmpty)∨∃ kvs,H p = some (.dK kvs)∧k = !kvs.isEmpty
 | _=>False
theorem pX {κ:Type} {kvs:List (κ × V)} {vs:List (κ × Value)} (r:KV kvs vs):(!vs.isEmpty) = !kvs.isEmpty:=by
 cases r <;> rfl
theorem j3 {xs:List V} {its:List Value} (r:Vals xs its):(!its.toArray.isEmpty) = !xs.isEmpty:=by
 cases r <;> simp
theorem jv:(sizeLine:Nat) < 2 ^ 63:=by rw [sizeLine_eq];decide
theorem y9:BE X (fun x H Q=>∃ k,Ar X.K x H k∧Q k H):=by
 intro pins s σ H x v Q I rx h
 obtain ⟨k,e,q⟩:=h
 have hl:=jv
 have hs:sizeLine = 16777216:=sizeLine_eq
 cases x with
 | non =>
  cases rx
  have e' : k = false:=e
  subst e'
  exact truthy_none ⟨H,I,q⟩
 | bl b =>
  cases rx
  have e' : k = b:=e
  subst e'
  exact wpAny_truthy_bool ⟨H,I,q⟩
 | int i =>
  obtain ⟨t,rfl⟩:=rx
  have e' : k = (i != 0):=e
  subst e'
  exact PySem.P.truthy_int ⟨H,I,q⟩
 | str y =>
  obtain ⟨t,rfl⟩:=rx
  obtain ⟨hy,e'⟩ : y.length≤sizeLine∧k = ((y.length:Int) != 0):=e
  subst e'
  exact PySem.P.truthy_str (by lia) ⟨H,I.tok _,q⟩
 | byt y =>
  obtain ⟨t,rfl⟩:=rx
  obtain ⟨hy,e'⟩ : y.size≤sizeLine∧k = ((y.size:Int) != 0):=e
  subst e'
  exact PySem.W.truthy_bytes (by lia) ⟨H,I.tok _,q⟩
 | ref p =>
  cases rx
  have e' : (∃ xs,aY X.K H p xs∧k = !xs.isEmpty)∨(∃ xs,cV X.K H p xs∧k = !xs.isEmpty)∨∃ kvs,H p = some (.dK kvs)∧k = !kvs.isEmpty:=e
  rcases e' with ⟨xs,hx,e'⟩ | ⟨xs,hx,e'⟩ | ⟨kvs,hx,e'⟩
  ·subst e'
   obtain ⟨its,r,pl,hz⟩:=I.list hx
   have hlen:=r.length
   exact wpAny_truthy_list pl.isList (by simp only [List.size_toArray];lia) ⟨H,I.tok _,by rw [j3 r];exact q⟩
  ·subst e'
   obtain ⟨its,r,pl,hz⟩:=I.tuple hx
   have hlen:=r.length
   exact truthy_tuple pl (by simp only [List.size_toArray];lia) ⟨H,I.tok _,by rw [j3 r];exact q⟩
  ·subst e'
   obtain ⟨hz,hS,vs,r,m⟩ : kvs.length≤sizeLine∧(p == sysModules) = false∧∃ vs,KV kvs vs∧s.heap.DictOf (aZ X.prog X.w) p vs:=I.hok p _ hx
   have hlen:kvs.length = vs.length:=Paired.length r
   exact wpAny_truthy_dict hS m (by lia) ⟨H,I.tok _,by rw [pX r];exact q⟩
 | _=>exact (show False from e).elim
theorem oU (ha:PE X a ta) (he:∀ whole,isTrue a X.env whole = (do let v ← whole;standAt a.pos;holding [v] (truthy v))) :
  PT X a (fun σ H Q=>ta σ H fun x H'=>∃ k,Ar X.K x H' k∧Q k H'):=by
 intro pins s σ H Q I h
 exact isTrue_plain (bx (ha pins s σ H _ I h) fun v s1 ⟨x,H1,I1,r1,q1⟩=>y9 pins s1 σ H1 x v Q I1 r1 q1) (he _)
theorem jZ:hX X (binaryOp .Add) (fun x y H Q=>∃ i j,x = .str i∧y = .str j∧i.length + j.length≤sizeLine∧Q (.str (i ++ j)) H):=by
 intro pins s σ H x y v u Q I rx ry h
 obtain ⟨i,j,rfl,rfl,hz,q⟩:=h
 obtain ⟨t,rfl⟩:=rx
 obtain ⟨t',rfl⟩:=ry
 exact add_str (fun t' tk=>⟨.str (i ++ j),H,I.tok _,⟨_,rfl⟩,q⟩) hz
theorem vals1 {x:V} {us:List Value} (r:Vals [x] us):∃ u,us = [u]∧RelV x u:=by
 cases r with
 | cons r1 r2=>cases r2;exact ⟨_,rfl,r1⟩
theorem vals2 {x y:V} {us:List Value} (r:Vals [x,y] us):∃ u w',us = [u,w']∧RelV x u∧RelV y w':=by
 cases r with
 | cons r1 r2 =>
  cases r2 with
  | cons r3 r4=>cases r4;exact ⟨_,_,rfl,r1,r3⟩
def BO (K:PySem.W.Frag) (x:V) (H:Hp) (n:Nat):Prop :=
 match x with
 | .str y=>y.length≤sizeLine∧n = y.length
 | .byt y=>y.size≤sizeLine∧n = y.size
 | .ref p=>(∃ xs,aY K H p xs∧n = xs.length)∨∃ xs,cV K H p xs∧n = xs.length
 | _=>False
theorem bA:eQ X (.builtin "len") (fun xs H Q=>∃ x n,xs = [x]∧BO X.K x H n∧Q (.int n) H):=by
 intro pins s σ H xs us Q I r h
 obtain ⟨x,n,rfl,e,q⟩:=h
 obtain ⟨u,rfl,rx⟩:=vals1 r
 have hl:=jv
 have hs:sizeLine = 16777216:=sizeLine_eq
 cases x with
 | str y =>
  obtain ⟨t,rfl⟩:=rx
  obtain ⟨hy,e'⟩ : y.length≤sizeLine∧n = y.length:=e
  subst e'
  exact len_str (by lia) ⟨.int _,H,I.tok _,⟨_,rfl⟩,q⟩
 | byt y =>
  obtain ⟨t,rfl⟩:=rx
  obtain ⟨hy,e'⟩ : y.size≤sizeLine∧n = y.size:=e
  subst e'
  exact PySem.W.len_bytes (by lia) ⟨.int _,H,I.tok _,⟨_,rfl⟩,q⟩
 | ref p =>
  cases rx
  have e' : (∃ xs,aY X.K H p xs∧n = xs.length)∨∃ xs,cV X.K H p xs∧n = xs.length:=e
  rcases e' with ⟨xs,hx,e'⟩ | ⟨xs,hx,e'⟩
  ·subst e'
   obtain ⟨its,r',pl,hz⟩:=I.list hx
   have hlen:=r'.length
   exact Calls.call_len_list pl.isList (by simp only [List.size_toArray];lia) ⟨.int xs.length,H,I.tok _,⟨_,by simp only [List.size_toArray];rw [hlen]⟩,q⟩
  ·subst e'
   obtain ⟨its,r',pl,hz⟩:=I.tuple hx
   have hlen:=r'.length
   exact len_tuple pl (by simp only [List.size_toArray];lia) ⟨.int xs.length,H,I.tok _,⟨_,by simp only [List.size_toArray];rw [hlen]⟩,q⟩
 | _=>exact (show False from e).elim
end
end L2
namespace L2
open PySem PySem.Spec PyProof.Rows
structure qu (h:Heap) (x dx C:Addr) (mA:Str→Option Value):Prop where
 obj:h.get? x = some (PySem.W.instObj C dx)
 ns:h.Ns1 dx mA
 ne:dx≠x
theorem jg {h:Heap} {dx:Addr} {mA:Str→Option Value} (n:h.Ns1 dx mA):∃ od,h.get? dx = some od∧∀ name,PySem.W.lookIn name od = some (mA name):=by
 obtain ⟨o,es,ep,ho,hd,hk,_,hm⟩:=n
 refine ⟨o,ho,fun name=>?_⟩
 have e:=hm name
 unfold nsFind findBy at e
 rw [← Array.find?_toList] at e
 unfold PySem.W.lookIn
 rw [hd]
 dsimp only
 split
 ·rename_i y q
  rw [q] at e
  exact congrArg some e
 ·rename_i q
  rw [q] at e
  have a:es.toList.any (·.refKey) = false:=by
   rw [List.any_eq_false]
   intro y hy
   obtain ⟨z,t,hkey⟩:=hk y (Array.mem_toList_iff.mp hy)
   simp [DictEntry.refKey,hkey]
  have a' : ¬ es.toList.any (·.refKey) = true:=by rw [a];exact Bool.false_ne_true
  rw [if_neg a']
  exact congrArg some e
theorem qu.look {h:Heap} {x dx C:Addr} {mA:Str→Option Value} (I:qu h x dx C mA):∃ od,PySem.W.InstAt h x (PySem.W.instObj C dx) C (some od)∧∀ name,PySem.W.lookIn name od = some (mA name) :=
 let ⟨od,ho,hl⟩:=jg I.ns
 ⟨od,⟨I.obj,rfl,rfl,ho⟩,hl⟩
section
variable {prog:Program} {w:World} {A:Around} {E:Value→Shared→Prop} {s:Shared} {K:PySem.W.Frag} {x dx C f:Addr} {mA:Str→Option Value} {name:Str} {v:Value}
theorem get_map {expr:Bool} {Q:Value→Shared→Prop} (X:K.In s.heap) (I:qu s.heap x dx C mA) (hg:PySem.W.plainGet K C name = true) (hh:PySem.W.hasDictIn K C = true)
  (ha:PySem.W.findIn K (.ref C) name = some none) (hv:mA name = some v) (hv' : PySem.W.handedIn v = true) (h:Q v { s with toks:=s.toks + 1 }) :
  wpAny (model prog w) A (getAttr (.ref x) name expr) Q E s:=by
 obtain ⟨od,J,hl⟩:=I.look
 exact PySem.W.get_value X J (PySem.W.plainGet_of hg).1 (PySem.W.findObj_own hh ha rfl (by rw [hl,hv])) hv' h
theorem ue {pl:Sem Bool} {Q:Value × List Value→Shared→Prop} (X:K.In s.heap) (I:qu s.heap x dx C mA) (hg:PySem.W.plainGet K C name = true)
  (hf:PySem.W.findIn K (.ref C) name = some (some (.ref f))) (ht:PySem.W.isFn K (.ref f) = true) (hv:mA name = none) (h:Q (.ref f,[.ref x]) s) :
  wpAny (model prog w) A (getMethod (.ref x) name pl) Q E s:=by
 obtain ⟨od,J,hl⟩:=I.look
 exact PySem.W.method_fn X J (PySem.W.plainGet_of hg).1 (PySem.W.plainGet_of hg).2 hf (beq_iff_eq.mp ht) (by show (PySem.W.lookIn name od).map (·.isSome) = some false;rw [hl,hv];rfl) h
theorem xl {ns:List Str} {Q:Unit→Shared→Prop} (X:K.In s.heap) (I:qu s.heap x dx C mA)
  (hs:PySem.W.findIn K (.ref C) "__setattr__" = some (some (.builtin "object.__setattr__"))) (hp:PySem.W.plainOver K C = true) (ht:PySem.W.takerIn K C name = some none) (hh:PySem.W.hasDictIn K C = true)
  (hw:PySem.Within mA ns) (hsz:ns.length≤sizeLine)
  (h:∀ h',qu h' x dx C (fun y=>if y = name then some v else mA y)→Heap.SameBut dx s.heap h'→Q () { s with heap:=h',toks:=s.toks + 2 }) :
  wpAny (model prog w) A (setAttr (.ref x) name v) Q E s:=by
 obtain ⟨od,J,hl⟩:=I.look
 refine PySem.W.set_plain X J hs (PySem.W.osa_open (s:={ s with toks:=s.toks + 1 }) (r:=none) X J hp ht fun b=>?_)
 obtain ⟨cd,hc,hd'⟩:=PySem.W.any_some hh
 have hx:s.heap.get? x = some ⟨.ref C,some dx,.plain,#[]⟩:=I.obj
 refine wpAny_bind (wpAny_pure (wpAny_bind (wpAny_bind (wpAny_loadPart hx (wpAny_bind (PySem.W.Looks.here (s:={ s with toks:=s.toks + 1 }) (PySem.W.looks_clsIn X hc) ?_))))))
 rw [hd']
 refine wpAny_pure (a:=some dx) (wpAny_bind (wpAny_pure (wpAny_bind ?_)))
 refine wpAny_nsSet1 (s:={ s with toks:=s.toks + 1 }) I.ns fun h' hn2 hs2=>?_
 obtain ⟨oD,esD,epD,hoD,hdD,hcD⟩:=hn2.count (PySem.Within.cons name v hw)
 refine wpAny_bind (wpAny_lookBehind hoD (by rw [hdD];exact pastItsLine_dict (Nat.le_trans hcD (by rw [List.length_cons];lia))) ?_)
 exact wpAny_pure (h _ ⟨(hs2.2 _ (Ne.symm I.ne)).trans I.obj,hn2,I.ne⟩ hs2)
theorem o3 {R:Result→Shared→Prop} {vs:List Value} {kw:List (Str × Value)} (X:K.In s.heap) (hm:PySem.W.makesIn K C = true)
  (hi:PySem.W.findIn K (.ref C) "__init__" = some (some (.ref f))) (hf:PySem.W.typeIn K (.ref f) = some (.type "function"))
  (h:codeAny (model prog w) (A.under (.builtin "type.__call__" ⟨.ref C :: vs,kw⟩)) (.call (.ref f) ⟨.ref (s.heap.objs.size + 1) :: vs,kw⟩) (PySem.W.InitBack (s.heap.objs.size + 1) R)
   { s with heap:=(s.heap.push PySem.W.emptyDict).push (PySem.W.instObj C s.heap.objs.size) }) :
  codeAny (model prog w) A (.call (.ref C) ⟨vs,kw⟩) R s:=by
 obtain ⟨hh,g,d,t,os⟩:=s
 exact PySem.W.make_core (PySem.W.makes_of X hm) (PySem.W.looks_findIn X hi) (fun self=>PySem.W.bind_fn X self hf) (.inl rfl) h
end
def aV (f:Str) (v:V):List (Str × V)→List (Str × V)
 | []=>[(f,v)]
 | (g,x) :: r=>if g = f then (g,v) :: r else (g,x) :: aV f v r
theorem ay (f g:Str) (v:V):∀ fs:List (Str × V),(aV f v fs).lookup g = if g = f then some v else fs.lookup g
 | []=>by
  show List.lookup g [(f,v)] = _
  by_cases h:g = f
  ·have hb:(g == f) = true:=beq_iff_eq.mpr h
   simp only [List.lookup,hb,if_pos h]
  ·have hb:(g == f) = false:=beq_eq_false_iff_ne.mpr h
   simp only [List.lookup,hb,if_neg h]
 | (k,x) :: r=>by
  have ih:=ay f g v r
  rw [show aV f v ((k,x) :: r) = (if k = f then (k,v) :: r else (k,x) :: aV f v r) from rfl]
  by_cases hk:k = f
  ·rw [if_pos hk]
   by_cases h:g = k
   ·have hb:(g == k) = true:=beq_iff_eq.mpr h
    simp only [List.lookup,hb,if_pos (h.trans hk)]
   ·have hb:(g == k) = false:=beq_eq_false_iff_ne.mpr h
    simp only [List.lookup,hb,if_neg (fun e:g = f=>h (e.trans hk.symm))]
  ·rw [if_neg hk]
   by_cases h:g = k
   ·have hb:(g == k) = true:=beq_iff_eq.mpr h
    simp only [List.lookup,hb,if_neg (fun e:g = f=>hk (h.symm.trans e))]
   ·have hb:(g == k) = false:=beq_eq_false_iff_ne.mpr h
    simp only [List.lookup,hb]
    exact ih
theorem jq (f:Str) (v:V):∀ fs:List (Str × V),f ∈ (aV f v fs).map (·.1)∧∀ g,g ∈ fs.map (·.1)→g ∈ (aV f v fs).map (·.1)
 | []=>⟨by simp [aV],fun g h=>by simp at h⟩
 | (k,x) :: r=>by
  obtain ⟨i1,i2⟩:=jq f v r
  rw [show aV f v ((k,x) :: r) = (if k = f then (k,v) :: r else (k,x) :: aV f v r) from rfl]
  by_cases hk:k = f
  ·rw [if_pos hk]
   subst hk
   exact ⟨by simp,fun g h=>by simpa using h⟩
  ·rw [if_neg hk]
   refine ⟨?_,fun g h=>?_⟩
   ·rw [List.map_cons]
    exact List.mem_cons_of_mem _ i1
   ·rw [List.map_cons] at h ⊢
    rcases List.mem_cons.mp h with e | e
    ·exact List.mem_cons.mpr (.inl e)
    ·exact List.mem_cons_of_mem _ (i2 g e)
theorem jG (f:Str) (v:V):∀ fs:List (Str × V),(aV f v fs).length≤fs.length + 1
 | []=>by simp [aV]
 | (k,x) :: r=>by
  have ih:=jG f v r
  rw [show aV f v ((k,x) :: r) = (if k = f then (k,v) :: r else (k,x) :: aV f v r) from rfl]
  by_cases hk:k = f
  ·rw [if_pos hk,List.length_cons,List.length_cons];lia
  ·rw [if_neg hk,List.length_cons,List.length_cons];lia
theorem gc.some_of {v:V} {o:Option Value} (r:gc (some v) o):∃ u,o = some u∧RelV v u:=by
 cases o with
 | none=>exact (show False from r).elim
 | some u=>exact ⟨u,rfl,r⟩
theorem gc.none_of {o:Option Value} (r:gc none o):o = none:=by
 cases o with
 | none=>rfl
 | some u=>exact (show False from r).elim
theorem sR {v:V} {u:Value} (r:RelV v u):PySem.W.handedIn u = true:=by
 cases v with
 | non=>cases (show u = Value.none from r);rfl
 | bl b=>cases (show u = Value.bool b from r);rfl
 | int i=>obtain ⟨t,e⟩:=(show ∃ t,u = Value.int i t from r);cases e;rfl
 | str x=>obtain ⟨t,e⟩:=(show ∃ t,u = Value.str x t from r);cases e;rfl
 | byt b=>obtain ⟨t,e⟩:=(show ∃ t,u = Value.bytes b t from r);cases e;rfl
 | flt b=>obtain ⟨t,e⟩:=(show ∃ t,u = Value.float b t from r);cases e;rfl
 | ref a=>cases (show u = Value.ref a from r);rfl
 | ty n=>cases (show u = Value.type n from r);rfl
section
variable {P:Program} {w:World} {H H' : Hp} {h h' : Heap} {a C dx:Addr} {fs fs' : List (Str × V)}
theorem jO (hok:ij P w H h) (e:H a = some (.ins C dx fs)):∃ mA,qu h a dx C mA∧(∀ f,gc (fs.lookup f) (mA f))∧PySem.Within mA (fs.map (·.1))∧fs.length≤1000∧H dx = some (.own a):=by
 obtain ⟨d,z,ne,ob,mA,n,r,q⟩:=(show bo P w H h a (.ins C dx fs) from hok a _ e)
 exact ⟨mA,⟨ob,n,ne⟩,r,q,z,d⟩
end
structure tL (K:PySem.W.Frag) (C:Addr):Prop where
 pg:PySem.W.plainGet K C Str.empty = true
 hd:PySem.W.hasDictIn K C = true
 po:PySem.W.plainOver K C = true
 sa:PySem.W.findIn K (.ref C) "__setattr__" = some (some (.builtin "object.__setattr__"))
theorem tL.get {K:PySem.W.Frag} {C:Addr} (c:tL K C) (f:Str):PySem.W.plainGet K C f = true:=c.pg
def bU (K:PySem.W.Frag) (C:Addr) (f:Str):Prop:=PySem.W.findIn K (.ref C) f = some none
theorem bU.AU {K:PySem.W.Frag} {C:Addr} {f:Str} (n:bU K C f):PySem.W.takerIn K C f = some none:=by
 unfold PySem.W.takerIn
 rw [show PySem.W.findIn K (.ref C) f = some none from n]
 rfl
structure Con (K:PySem.W.Frag) (C:Addr) (f:Str) (v:V) (u:Value):Prop where
 at_:PySem.W.findIn K (.ref C) f = some (some u)
 rel:RelV v u
 get:PySem.W.specialIn K u "__get__" = some none
 cp:PySem.W.copiedNames.contains f = false
structure Meth (K:PySem.W.Frag) (C:Addr) (m:Str) (f:Addr):Prop where
 at_:PySem.W.findIn K (.ref C) m = some (some (.ref f))
 fn:PySem.W.isFn K (.ref f) = true
 kp:PySem.W.keepIn K (.ref f) = true
section
variable {X:Cx} {pins:List (Addr × Obj)} {σ:St} {H:Hp} {s:Shared} {a C dx:Addr} {fs:List (Str × V)} {f:Str} {v:V} {A:Around} {E:Value→Shared→Prop}
theorem pO {b:Bool} {Q:Value→Shared→Prop} (I:Inv X pins σ H s) (e:H a = some (.ins C dx fs)) (c:tL X.K C) (n:bU X.K C f) (l:fs.lookup f = some v)
  (h:∀ u s',Inv X pins σ H s'→RelV v u→Q u s'):wpAny (model X.prog X.w) A (getAttr (.ref a) f b) Q E s:=by
 obtain ⟨mA,O,r,_,_,_⟩:=jO I.hok e
 obtain ⟨u,hu,ru⟩:=gc.some_of (v:=v) (o:=mA f) (by rw [← l];exact r f)
 exact get_map I.eV O (c.get f) c.hd n hu (sR ru) (h u _ (I.tok _) ru)
theorem kq {m:Str} {g:Addr} {pl:Sem Bool} {Q:Value × List Value→Shared→Prop} (I:Inv X pins σ H s) (e:H a = some (.ins C dx fs)) (c:tL X.K C) (k:Meth X.K C m g) (l:fs.lookup m = none)
  (h:Q (.ref g,[.ref a]) s):wpAny (model X.prog X.w) A (getMethod (.ref a) m pl) Q E s:=by
 obtain ⟨mA,O,r,_,_,_⟩:=jO I.hok e
 have hn:mA m = none:=gc.none_of (by rw [← l];exact r m)
 exact ue I.eV O (c.get m) k.at_ k.fn hn h
theorem pZ {y:V} {u:Value} {Q:Unit→Shared→Prop} (I:Inv X pins σ H s) (e:H a = some (.ins C dx fs)) (c:tL X.K C) (n:bU X.K C f) (hl:fs.length < 1000) (ry:RelV y u)
  (h:∀ s',Inv X pins σ (upd H a (.ins C dx (aV f y fs))) s'→Q () s'):wpAny (model X.prog X.w) A (setAttr (.ref a) f u) Q E s:=by
 obtain ⟨mA,O,r,wi,_,ho⟩:=jO I.hok e
 have hz:(fs.map (·.1)).length≤sizeLine:=by rw [List.length_map,sizeLine_eq];lia
 refine xl I.eV O c.sa c.po n.AU c.hd wi hz fun h' O' sb=>h _ ?_
 have hd:∃ o,h'.get? dx = some o:=let ⟨o,_,_,e',_⟩:=O'.ns;⟨o,e'⟩
 refine I.write (x:=a) (e:=dx) (by rw [e];exact True.intro) (.inr ho) (fun b q hb z=>(sb.2 b hb).trans z) hd ?_
 refine ⟨by rw [af O.ne];exact ho,?_,O.ne,O'.obj,_,O'.ns,fun g=>?_,fun g hg=>?_⟩
 ·have:=jG f y fs;lia
 ·show gc ((aV f y fs).lookup g) (if g = f then some u else mA g)
  rw [ay]
  by_cases q:g = f
  ·rw [if_pos q,if_pos q];exact ry
  ·rw [if_neg q,if_neg q];exact r g
 ·by_cases q:g = f
  ·rw [q];exact (jq f y fs).1
  ·refine (jq f y fs).2 g (wi g fun z=>hg ?_)
   show (if g = f then some u else mA g) = none
   rw [if_neg q];exact z
theorem Inv.made (I:Inv X pins σ H s):Inv X pins σ (upd (upd H s.heap.objs.size (.own (s.heap.objs.size + 1))) (s.heap.objs.size + 1) (.ins C s.heap.objs.size []))
  { s with heap:=(s.heap.push PySem.W.emptyDict).push (PySem.W.instObj C s.heap.objs.size) }:=by
 have e1:(s.heap.push PySem.W.emptyDict).get? s.heap.objs.size = some PySem.W.emptyDict:=Heap.get?_push_size s.heap rfl
 have e2:((s.heap.push PySem.W.emptyDict).push (PySem.W.instObj C s.heap.objs.size)).get? (s.heap.objs.size + 1) = some (PySem.W.instObj C s.heap.objs.size):=by
  have:=Heap.get?_push_size (s.heap.push PySem.W.emptyDict) (o:=PySem.W.instObj C s.heap.objs.size) rfl
  rwa [Heap.size_push] at this
 have e3:(s.heap.push PySem.W.emptyDict).Ns s.heap.objs.size (fun _=>none):=⟨PySem.W.emptyDict,#[],_,e1,rfl,(fun e he=>absurd he (by simp)),fun _=>rfl⟩
 have I1:=I.laid (a:=s.heap.objs.size) (o:=.own (s.heap.objs.size + 1)) (h':=s.heap.push PySem.W.emptyDict) (t':=s.toks) (fun b u q=>Heap.get?_push_of_some _ q) (Nat.le_refl _) ⟨_,e1⟩
 refine I1.laid (a:=s.heap.objs.size + 1) (o:=.ins C s.heap.objs.size []) (t':=s.toks) (fun b u q=>Heap.get?_push_of_some _ q) (Nat.le_of_eq (Heap.size_push _ _)) ?_
 have ne:s.heap.objs.size≠s.heap.objs.size + 1:=Nat.ne_of_lt (Nat.lt_succ_self _)
 refine ⟨by rw [af ne,ae],Nat.zero_le _,ne,e2,fun _=>none,(Heap.Ns1.of_empty e3).at fun o q=>Heap.get?_push_of_some _ q,fun _=>True.intro,fun y hy=>absurd rfl hy⟩
theorem rm {prog:Program} {w:World} {env:Env} {e:Expr} {f:Str} {pos:Pos} {s:Shared} {Q:Value→Shared→Prop} (hb:attributeBase e f env (eval e env) = eval e env)
  (h:wpAny (model prog w) A (eval e env) (fun o s₁=>wpAny (model prog w) A (getAttr o f true) Q E s₁) E s):wpAny (model prog w) A (eval (.Attribute e f pos) env) Q E s :=
 Attribute_any_ h (by rw [arm_eval_Attribute,hb])
end
def C0 (K:PySem.W.Frag) (ta:TE) (f:Str):TE:=fun σ H Q=>ta σ H fun x H1=>∃ a C dx fs v,x = .ref a∧H1 a = some (.ins C dx fs)∧tL K C∧bU K C f∧fs.lookup f = some v∧Q v H1
def CV (K:PySem.W.Frag) (ta tv:TE) (f:Str):TS:=fun D σ H=>tv σ H fun y H1=>ta σ H1 fun x H2=>∃ a C dx fs,x = .ref a∧H2 a = some (.ins C dx fs)∧tL K C∧bU K C f∧fs.length < 1000 ∧
 D.nx σ (upd H2 a (.ins C dx (aV f y fs)))
section
variable {X:Cx} {o e value:Expr} {f:Str} {pos pos' tpos:Pos} {ta tv:TE}
theorem cM (he:PE X e ta) (hb:attributeBase e f X.env (eval e X.env) = eval e X.env):PE X (.Attribute e f pos) (C0 X.K ta f):=by
 intro pins s σ H Q I h
 refine rm hb (bx (he pins s σ H _ I h) fun u s1 ⟨x,H1,I1,rx,a,C,dx,fs,v,ex,ea,c,n,l,q⟩=>?_)
 subst ex
 obtain rfl:u = Value.ref a:=rx
 exact pO I1 ea c n l fun u' s2 I2 ru=>⟨v,H1,I2,ru,q⟩
theorem dD (ha:PE X o ta) (hv:PE X value tv) (hs:swapsWith value (some (.Attribute o f pos')) pos.line X.env = pure false):PS X (.Assign [.Attribute o f pos'] value pos) (CV X.K ta tv f):=by
 intro pins s σ H D I h
 refine plainObj_wpAny_Assign_Attribute (bx (hv pins s σ H _ I h) fun u s1 ⟨y,H1,I1,ry,q⟩=>bx (ha pins s1 σ H1 _ I1 q) fun ov s2 ⟨x,H2,I2,rx,a,C,dx,fs,ex,ea,c,n,l,q2⟩=>?_) hs
 subst ex
 obtain rfl:ov = Value.ref a:=rx
 exact pZ I2 ea c n l ry fun s3 I3=>⟨σ,_,I3,q2⟩
end
section
variable {X:Cx} {pins:List (Addr × Obj)} {σ:St} {H:Hp} {s:Shared} {A:Around} {E:Value→Shared→Prop} {Q:Value→Shared→Prop} {c:Value} {b:Bool}
inductive iw (K:PySem.W.Frag) (H:Hp):V→Value→Prop where
 | non:iw K H .non (.type "NoneType")
 | bl (x:Bool):iw K H (.bl x) (.type "bool")
 | int (i:Int):iw K H (.int i) (.type "int")
 | str (x:Str):iw K H (.str x) (.type "str")
 | flt (x:UInt64):iw K H (.flt x) (.type "float")
 | lst {a:Addr} {xs:List V} (e:H a = some (.lst xs)):iw K H (.ref a) (.type "list")
 | frz {a:Addr} {o:Obj} {xs:List V} (e:H a = some (.frz o (.lst xs))):iw K H (.ref a) (.type "list")
 | tup {a:Addr} {xs:List V} (e:H a = some (.tup xs)):iw K H (.ref a) (.type "tuple")
 | dK {a:Addr} {kvs:List (Key × V)} (e:H a = some (.dK kvs)):iw K H (.ref a) (.type "dict")
 | dT {a:Addr} {kvs:List (List Key × V)} (e:H a = some (.dT kvs)):iw K H (.ref a) (.type "dict")
 | ins {a C dx:Addr} {fs:List (Str × V)} (e:H a = some (.ins C dx fs)) (cl:tL K C) (ha:PySem.W.findIn K (.ref C) "__class__" = some (some (.builtin "object.__class__")))
   (hn:PySem.W.specialIn K (.builtin "object.__class__") "__get__" = some (some (.builtin "getset_descriptor.__get__"))) (htk:PySem.W.takesIn K (.builtin "object.__class__") = some true)
   (hm:PySem.W.mroIn K C (.type "object") = some true):iw K H (.ref a) (.ref C)
theorem sP {x:V} {u t:Value} (I:Inv X pins σ H s) (rx:RelV x u) (ty:iw X.K H x t) (e:PySem.W.kitOne X.K t c = some b) (h:∀ tk,Q (.bool b) { s with toks:=tk }) :
  wpAny (model X.prog X.w) A (call (.builtin "isinstance") [u,c]) Q E s:=by
 cases ty with
 | non=>cases (show u = Value.none from rx);exact PySem.W.kia_one PySem.W.kitx_none I.eV True.intro e (fun z=>nomatch z) h
 | bl y=>cases (show u = Value.bool y from rx);exact PySem.W.kia_one PySem.W.kitx_bool I.eV True.intro e (fun z=>nomatch z) h
 | int i=>obtain ⟨t,q⟩:=(show ∃ t,u = Value.int i t from rx);cases q;exact PySem.W.kia_one PySem.W.kitx_int I.eV True.intro e (fun z=>nomatch z) h
 | str y=>obtain ⟨t,q⟩:=(show ∃ t,u = Value.str y t from rx);cases q;exact PySem.W.kia_one PySem.W.kitx_str I.eV True.intro e (fun z=>nomatch z) h
 | flt y=>obtain ⟨t,q⟩:=(show ∃ t,u = Value.float y t from rx);cases q;exact PySem.W.kia_one PySem.W.kitx_float I.eV True.intro e (fun z=>nomatch z) h
 | @lst a xs ea =>
  cases (show u = Value.ref a from rx)
  obtain ⟨_,_,n,_,h1⟩:=(show bo X.prog X.w H s.heap a (.lst xs) from I.hok a _ ea)
  exact PySem.W.kia_one PySem.W.kitx_list I.eV ⟨_,h1,rfl⟩ e (fun z=>nomatch z) h
 | @frz a ob xs ea =>
  cases (show u = Value.ref a from rx)
  obtain ⟨_,_,_,n,_,h1⟩:=(show bo X.prog X.w H s.heap a (.frz ob (.lst xs)) from I.hok a _ ea)
  exact PySem.W.kia_one PySem.W.kitx_list I.eV ⟨_,h1,rfl⟩ e (fun z=>nomatch z) h
 | @tup a xs ea =>
  cases (show u = Value.ref a from rx)
  obtain ⟨_,_,_,p⟩:=(show bo X.prog X.w H s.heap a (.tup xs) from I.hok a _ ea)
  obtain ⟨o,h1,h2,_⟩:=p
  exact PySem.W.kia_one PySem.W.kitx_tuple I.eV ⟨o,h1,h2⟩ e (fun z=>nomatch z) h
 | @dK a kvs ea =>
  cases (show u = Value.ref a from rx)
  obtain ⟨_,_,vs,_,p⟩:=(show bo X.prog X.w H s.heap a (.dK kvs) from I.hok a _ ea)
  obtain ⟨o,es,ep,h1,h2,_⟩:=p
  exact PySem.W.kia_one PySem.W.kitx_dict I.eV ⟨o,h1,h2.1⟩ e (fun z=>nomatch z) h
 | @dT a kvs ea =>
  cases (show u = Value.ref a from rx)
  obtain ⟨_,_,xs,_,o,es,ep,h1,h2,_⟩:=(show bo X.prog X.w H s.heap a (.dT kvs) from I.hok a _ ea)
  exact PySem.W.kia_one PySem.W.kitx_dict I.eV ⟨o,h1,h2.1⟩ e (fun z=>nomatch z) h
 | @ins a C dx fs ea cl ha hn htk hm =>
  cases (show u = Value.ref a from rx)
  obtain ⟨mA,O,_⟩:=jO I.hok ea
  obtain ⟨od,J,_⟩:=O.look
  exact PySem.W.kia_one (PySem.W.kitx_own (cl.get _) cl.hd ha hn htk hm) I.eV J e (fun z=>nomatch z) h
end
end L2
namespace L2
open PySem PySem.Spec PyProof.Rows
structure bX (k:Nat) (A:Around):Prop where
 hd:A.handled = none
 dp:A.depth + 3 * k + 5 < recursionLimit
 un:A.units + 16 * k + 200 < cLine
 gd:A.guards = some []
theorem bX.mono {j k:Nat} {A:Around} (r:bX k A) (h:j≤k):bX j A:=⟨r.hd,by have:=r.dp;lia,by have:=r.un;lia,r.gd⟩
theorem bX.deeper {k:Nat} {A:Around} (r:bX (k + 1) A) (env:Env):bX k (A.deeper env) :=
 ⟨r.hd,by have:=r.dp;show A.depth + 1 + 3 * k + 5 < _;lia,by have:=r.un;show A.units + 3 + 16 * k + 200 < _;lia,r.gd⟩
theorem pV {A:Around} {C:Addr} {us:List Value} {kw:List (Str × Value)} : (A.under (.builtin "type.__call__" ⟨.ref C :: us,kw⟩)).depth = A.depth + 1:=by
 first | rfl | simp [Around.under,Code.weight,Code.isCreation,Code.isGuard,Code.isCaller,Code.frames,Code.isFrame,guardIds]
theorem qD {A:Around} {C:Addr} {us:List Value} {kw:List (Str × Value)} : (A.under (.builtin "type.__call__" ⟨.ref C :: us,kw⟩)).units = A.units + 1:=by
 first | rfl | simp [Around.under,Code.cUnits,Code.frames,Code.isFrame]
theorem bX.make {k:Nat} {A:Around} (r:bX (k + 1) A) (C:Addr) (us:List Value) (kw:List (Str × Value)):bX k (A.under (.builtin "type.__call__" ⟨.ref C :: us,kw⟩)) :=
 ⟨r.hd,by have:=r.dp;rw [pV];lia,by have:=r.un;rw [qD];lia,by first | exact r.gd | (simp [Around.under,Code.isGuard,guardIds];exact r.gd)⟩
theorem bX.depth {k:Nat} {A:Around} (r:bX k A):A.depth < recursionLimit:=by have:=r.dp;lia
theorem bX.units {k:Nat} {A:Around} (r:bX k A):A.units + 64 < cLine:=by have:=r.un;lia
theorem bX.qa {k:Nat} {A:Around} (r:bX k A):A.units < cLine:=by have:=r.un;lia
def zr:TA:=fun _ H Q=>Q [] H
def yI (ta:TE) (tr:TA):TA:=fun σ H Q=>ta σ H fun x H1=>tr σ H1 fun xs H2=>Q (x :: xs) H2
section
variable {X:Cx} {e:Expr} {es:List Expr} {te:TE} {t:TA} {pos:Pos}
theorem ag:PA X [] zr:=fun _ _ _ _ H Q I h=>Calls.spliced_nil ⟨[],H,I,.nil,h⟩
theorem aa (ha:PE X e te) (hr:PA X es t) (hs:starEach (e :: es) X.env = (false,eval e X.env) :: starEach es X.env:=by rfl):PA X (e :: es) (yI te t):=by
 intro pos pins s σ H Q I h
 rw [hs]
 show wpAny _ _ (spliced ((false,eval e X.env) :: backTo pos (starEach es X.env))) _ _ s
 refine Calls.spliced_cons (bx (ha pins s σ H _ I h) fun u s1 ⟨x,H1,I1,r1,q1⟩=>?_)
 exact bx (hr pos pins s1 σ H1 _ I1 q1) fun us s2 ⟨xs,H2,I2,r2,q2⟩=>⟨x :: xs,H2,I2,.cons r1 r2,q2⟩
def CU (t:TA):TE:=fun σ H Q=>t σ H fun xs H1=>xs.length≤sizeLine∧∀ p,H1 p = none→Q (.ref p) (upd H1 p (.tup xs))
def AL (t:TA):TE:=fun σ H Q=>t σ H fun xs H1=>xs.length≤sizeLine∧∀ p,H1 p = none→Q (.ref p) (upd H1 p (.lst xs))
theorem dI {x1} (h:PA X es t):PE X (.Tuple es x1 pos) (CU t):=by
 intro pins s σ H Q I hq
 refine wpAny_Tuple_spliced (bx (h pos pins s σ H _ I hq) fun us s1 ⟨xs,H1,I1,r,z,q⟩=>⟨by rw [← r.length];exact z,?_⟩)
 have hf:H1 s1.heap.objs.size = none:=I1.hok.fresh (Nat.le_refl _)
 refine ⟨.ref s1.heap.objs.size,upd H1 s1.heap.objs.size (.tup xs),I1.laid (t':=s1.toks) (fun b u e=>Heap.get?_push_of_some _ e) (Nat.le_refl _) ?_,rfl,q _ hf⟩
 exact ⟨z,us,r,⟨_,Heap.get?_push_size _ rfl,rfl,_,rfl⟩⟩
theorem bZ (h:PA X es t):PE X (.List es pos) (AL t):=by
 intro pins s σ H Q I hq
 refine wpAny_List_spliced (bx (h pos pins s σ H _ I hq) fun us s1 ⟨xs,H1,I1,r,z,q⟩=>⟨by rw [← r.length];exact z,?_⟩)
 have hf:H1 s1.heap.objs.size = none:=I1.hok.fresh (Nat.le_refl _)
 refine ⟨.ref s1.heap.objs.size,upd H1 s1.heap.objs.size (.lst xs),I1.laid (t':=s1.toks) (fun b u e=>Heap.get?_push_of_some _ e) (Nat.le_refl _) ?_,rfl,q _ hf⟩
 exact ⟨z,us,0,r,Heap.get?_push_size _ rfl⟩
end
abbrev Sp:=List V→Hp→VK→XK→Prop
abbrev pA:=List Env→Hp→Shared→XK→Value→Shared→Prop
structure qG (P:Program) (w:World) (K:PySem.W.Frag) (mg:Str→Option Value) (base:Heap) (A:Around) (outer:List Env) (s:Shared) (H:Hp):Prop where
 frames:A.frames = some outer
 mod:Mod K mg base
 bs:∀ b o,base.get? b = some o→s.heap.get? b = some o∧H b = none
 bsz:base.objs.size≤s.heap.objs.size
 ic:s.heap.FunFrames base outer
 frf:∀ b ∈ g9 outer,H b = none
 hok:ij P w H s.heap
 bare:AllBare s.gens
def CE (outer:List Env) (P:Program) (w:World) (H:Hp) (s:Shared) (Q:VK) (u:Value) (s' : Shared):Prop :=
 ∃ v H',s'.os = s.os∧AllBare s'.gens∧Un (g9 outer) [] H H' s.heap s'.heap∧ij P w H' s'.heap∧RelV v u∧Q v H'
def CR (CX:pA) (outer:List Env) (P:Program) (w:World) (H:Hp) (s:Shared) (Q:VK) (E:XK) (r:Result) (s' : Shared):Prop :=
 match r with
 | .ok (.ret u)=>CE outer P w H s Q u s'
 | .ok _=>False
 | .error e=>CX outer H s E e s'
structure aE (P:Program) (w:World) (K:PySem.W.Frag) (mg:Str→Option Value) (base:Heap) (CX:pA) (k:Nat) (f:Addr) (fd:FuncData) (ps:List Str) (sp:Sp):Prop where
 len:∀ vs H Q E,sp vs H Q E→vs.length = ps.length
 run:∀ (A:Around) (outer:List Env) (s:Shared) (H:Hp) (args:Args) (us:List Value) (vs:List V) (Q:VK) (E:XK),bX k A→qG P w K mg base A outer s H→BindsTo s fd args (ps.zip us)→Vals vs us→sp vs H Q E →
  codeAny (model P w) A (.call (.ref f) args) (CR CX outer P w H s Q E) s
theorem aE.imp {P:Program} {w:World} {K:PySem.W.Frag} {mg:Str→Option Value} {base:Heap} {CX:pA} {k:Nat} {f:Addr} {fd:FuncData} {ps:List Str} {sp sp' : Sp} (F:aE P w K mg base CX k f fd ps sp)
  (h:∀ vs H Q E,sp' vs H Q E→sp vs H Q E):aE P w K mg base CX k f fd ps sp' :=
 ⟨fun vs H Q E q=>F.len vs H Q E (h _ _ _ _ q),fun A outer s H args us vs Q E hr he hb hv hs=>F.run A outer s H args us vs Q E hr he hb hv (h _ _ _ _ hs)⟩
theorem qG.make {P:Program} {w:World} {K:PySem.W.Frag} {mg:Str→Option Value} {base:Heap} {A:Around} {outer:List Env} {s:Shared} {H:Hp} (e:qG P w K mg base A outer s H) (C:Addr) (us:List Value) (kw:List (Str × Value)) :
  qG P w K mg base (A.under (.builtin "type.__call__" ⟨.ref C :: us,kw⟩)) outer s H:=⟨by first | exact e.frames | (simpa [Around.under,Code.envs,Code.isFrame,pushEnvs] using e.frames),e.mod,e.bs,e.bsz,e.ic,e.frf,e.hok,e.bare⟩
section
variable {X:Cx} {pins:List (Addr × Obj)} {σ:St} {H:Hp} {s s' : Shared}
theorem Inv.wQ (I:Inv X pins σ H s):qG X.prog X.w X.K X.mg X.base X.A X.stack s H :=
 ⟨I.ok.frames,I.ok.mod,I.bs,Nat.le_trans I.ok.bsz I.sz,I.stack,I.jP,I.hok,I.bare⟩
theorem Inv.after {Q:VK} {u:Value} (I:Inv X pins σ H s) (h:CE X.stack X.prog X.w H s Q u s'):EP X pins σ Q u s':=by
 obtain ⟨v,H',os,bare,un,hok,r,q⟩:=h
 obtain ⟨hh,g,d,t,os'⟩:=s'
 obtain rfl:os' = s.os:=os
 exact ⟨v,H',I.call (h':=hh) (g':=g) (d':=d) (t':=t) (ch:=[]) un hok bare (fun b z=>absurd z (by simp)),r,q⟩
end
def Az (sp:Sp) (dvs:List V) (E:XK) (t:TA):TE:=fun σ H Q=>t σ H fun vs H1=>sp (vs ++ dvs) H1 Q E
def yJ (C:Addr) (m:Str) (sp:Sp) (dvs:List V) (E:XK) (ta:TE) (t:TA):TE:=fun σ H Q=>ta σ H fun x H1=>∃ a dx fs,x = .ref a∧H1 a = some (.ins C dx fs)∧fs.lookup m = none ∧
 t σ H1 fun vs H2=>sp (x :: (vs ++ dvs)) H2 Q E
def yv (C:Addr) (sp:Sp) (dvs:List V) (E:XK) (t:TA):TE:=fun σ H Q=>t σ H fun vs H1=>∀ x dx,H1 x = none→H1 dx = none→dx≠x →
 sp (.ref x :: (vs ++ dvs)) (upd (upd H1 dx (.own x)) x (.ins C dx [])) (fun v H2=>v = .non∧Q (.ref x) H2) E
def Binds (K:PySem.W.Frag) (fd:FuncData) (ps:List Str) (ds:List Value):Prop :=
 ∀ (s:Shared) (us:List Value),K.In s.heap→(us ++ ds).length = ps.length→BindsTo s fd ⟨us,[]⟩ (ps.zip (us ++ ds))
theorem Binds.all {K:PySem.W.Frag} {fd:FuncData} {ps:List Str} (h:∀ us:List Value,us.length = ps.length→bindArgs fd ⟨us,[]⟩ = pure (ps.zip us)):Binds K fd ps []:=fun s us _ hl=>by
 rw [List.append_nil] at hl ⊢
 exact .of_eq (h us hl)
def Passes (CX:pA) (X:Cx) (E:XK):Prop:=∀ (pins:List (Addr × Obj)) (σ:St) (H:Hp) (s:Shared) (e:Value) (s' : Shared),Inv X pins σ H s→CX X.stack H s E e s'→X.xe e s'
section
variable {X:Cx} {CX:pA} {k:Nat} {f C:Addr} {fd:FuncData} {ps:List Str} {sp:Sp} {dvs:List V} {ds:List Value} {E:XK} {x m:Str} {p pos apos:Pos} {e o:Expr} {es:List Expr} {ta:TE} {t:TA}
theorem p8 {pins:List (Addr × Obj)} {σ:St} {H:Hp} {s:Shared} {Q:VK} {us:List Value} {vs:List V} (F:aE X.prog X.w X.K X.mg X.base CX k f fd ps sp) (hr:bX k X.A) (hb:Binds X.K fd ps ds) (hd:Vals dvs ds) (hx:Passes CX X E)
  (I:Inv X pins σ H s) (r:Vals vs us) (h:sp (vs ++ dvs) H Q E):wpAny (model X.prog X.w) X.A (call (.ref f) us) (EP X pins σ Q) X.xe s:=by
 have r2:Vals (vs ++ dvs) (us ++ ds):=r.append hd
 have hl:(us ++ ds).length = ps.length:=by rw [← r2.length];exact F.len _ _ _ _ h
 refine wpAny_call (codeAny_mono (F.run X.A X.stack s H ⟨us,[]⟩ (us ++ ds) (vs ++ dvs) Q E hr I.wQ (hb s us I.eV hl) r2 h) fun r s' hq=>?_)
 cases r with
 | error e=>exact hx pins σ H s e s' I hq
 | ok fl =>
  cases fl with
  | ret u=>exact I.after hq
  | next=>exact False.elim hq
  | brk=>exact False.elim hq
  | cont=>exact False.elim hq
theorem aK (F:aE X.prog X.w X.K X.mg X.base CX k f fd ps sp) (hr:bX k X.A) (hg:Gl X x) (hm:X.mg x = some (.ref f)) (hk:PySem.W.keepIn X.K (.ref f) = true) (hb:Binds X.K fd ps ds) (hd:Vals dvs ds) (hx:Passes CX X E)
  (ha:PA X (e :: es) t) (hdb:(x == ("__debug__" : Str)) = false:=by decide) (he:starEach (e :: es) X.env = (false,eval e X.env) :: starEach es X.env:=by rfl) (hpl:(backTo pos (starEach es X.env)).any (·.1) = false:=by rfl) :
  PE X (.Call (.Name x p) (e :: es) [] pos) (Az sp dvs E t):=by
 intro pins s σ H Q I h
 refine wpAny_Call_Name_kw (gZ I hg hm ?_ hdb)
 refine PySem.W.callWith_K (h₀:=X.base) I.ok.mod.kin hk (bx (ha pos pins s σ H _ I h) fun us s1 ⟨vs,H1,I1,r,q⟩=>⟨I1.eV,?_⟩) he hpl
 exact p8 F hr hb hd hx I1 r q
theorem eY {pl:Sem Bool} (he:PE X o ta) (c:tL X.K C) (hm:Meth X.K C m f) (F:aE X.prog X.w X.K X.mg X.base CX k f fd ps sp) (hr:bX k X.A) (hb:Binds X.K fd ps ds) (hd:Vals dvs ds) (hx:Passes CX X E) (ha:PA X (e :: es) t)
  (hst:starEach (e :: es) X.env = (false,eval e X.env) :: starEach es X.env:=by rfl) (hpl:(backTo pos (starEach es X.env)).any (·.1) = false:=by rfl)
  (ht:eval (.Call (.Attribute o m apos) (e :: es) [] pos) X.env = (do
   let ov ← eval o X.env
   standAt apos.atName
   let (f,first) ← holding [ov] (getMethod ov m pl)
   callWith pos f first (backTo pos (starEach (e :: es) X.env)) (backToKw pos (keywordEach [] X.env))):=by rfl) :
  PE X (.Call (.Attribute o m apos) (e :: es) [] pos) (yJ C m sp dvs E ta t):=by
 intro pins s σ H Q I h
 refine PySem.W.methodCall_KW (pl:=pl) (bx (he pins s σ H _ I h) fun u s1 ⟨x,H1,I1,rx,a,dx,fs,ex,ea,l,q⟩=>?_) ht
 subst ex
 obtain rfl:u = Value.ref a:=rx
 refine kq I1 ea c hm l ?_
 refine PySem.W.callWith_K (first:=[.ref a]) (h₀:=X.base) I.ok.mod.kin hm.kp (bx (ha pos pins s1 σ H1 _ I1 q) fun us s2 ⟨vs,H2,I2,r,q2⟩=>⟨I2.eV,?_⟩) hst hpl
 exact p8 (us:=.ref a :: us) (vs:=.ref a :: vs) F hr hb hd hx I2 (.cons rfl r) q2
theorem fu {pl:Sem Bool} (he:PE X o ta) (c:tL X.K C) (hm:Meth X.K C m f) (F:aE X.prog X.w X.K X.mg X.base CX k f fd ps sp) (hr:bX k X.A) (hb:Binds X.K fd ps ds) (hd:Vals dvs ds) (hx:Passes CX X E)
  (ht:eval (.Call (.Attribute o m apos) [] [] pos) X.env = (do
   let ov ← eval o X.env
   standAt apos.atName
   let (f,first) ← holding [ov] (getMethod ov m pl)
   callWith pos f first (backTo pos (starEach [] X.env)) (backToKw pos (keywordEach [] X.env))):=by rfl) :
  PE X (.Call (.Attribute o m apos) [] [] pos) (yJ C m sp dvs E ta zr):=by
 intro pins s σ H Q I h
 refine PySem.W.methodCall_KW (pl:=pl) (bx (he pins s σ H _ I h) fun u s1 ⟨x,H1,I1,rx,a,dx,fs,ex,ea,l,q⟩=>?_) ht
 subst ex
 obtain rfl:u = Value.ref a:=rx
 refine kq I1 ea c hm l ?_
 exact PySem.W.callWith_K0 (first:=[.ref a]) I1.eV hm.kp (p8 (us:=[.ref a]) (vs:=[.ref a]) F hr hb hd hx I1 (.cons rfl .nil) q)
structure Mk (K:PySem.W.Frag) (C f:Addr):Prop where
 makes:PySem.W.makesIn K C = true
 init:PySem.W.findIn K (.ref C) "__init__" = some (some (.ref f))
 fn:PySem.W.isFn K (.ref f) = true
 kp:PySem.W.keepIn K (.ref C) = true
theorem vy {pins:List (Addr × Obj)} {σ:St} {H:Hp} {s:Shared} {Q:VK} {us:List Value} {vs:List V} (M:Mk X.K C f) (F:aE X.prog X.w X.K X.mg X.base CX k f fd ps sp) (hr:bX (k + 1) X.A) (hb:Binds X.K fd ps ds) (hd:Vals dvs ds)
  (hx:Passes CX X E) (I:Inv X pins σ H s) (r:Vals vs us)
  (h:∀ x dx,H x = none→H dx = none→dx≠x→sp (.ref x :: (vs ++ dvs)) (upd (upd H dx (.own x)) x (.ins C dx [])) (fun v H2=>v = .non∧Q (.ref x) H2) E) :
  wpAny (model X.prog X.w) X.A (call (.ref C) us) (EP X pins σ Q) X.xe s:=by
 have hq:=h (s.heap.objs.size + 1) s.heap.objs.size (I.hok.fresh (Nat.le_succ _)) (I.hok.fresh (Nat.le_refl _)) (Nat.ne_of_lt (Nat.lt_succ_self _))
 have I2:=Inv.made (C:=C) I
 have r2:Vals (V.ref (s.heap.objs.size + 1) :: (vs ++ dvs)) (Value.ref (s.heap.objs.size + 1) :: (us ++ ds)):=.cons rfl (r.append hd)
 have hl:(Value.ref (s.heap.objs.size + 1) :: us ++ ds).length = ps.length:=by
  have e:=r2.length
  rw [F.len _ _ _ _ hq] at e
  exact e.symm
 refine wpAny_call (o3 (f:=f) I.eV M.makes M.init (beq_iff_eq.mp M.fn) (codeAny_mono (F.run _ X.stack _ _ ⟨Value.ref (s.heap.objs.size + 1) :: us,[]⟩ (Value.ref (s.heap.objs.size + 1) :: (us ++ ds)) _ _ E (hr.make C us [])
  (I2.wQ.make C us []) (hb _ (Value.ref (s.heap.objs.size + 1) :: us) I2.eV hl) r2 hq) fun r s' hq'=>?_))
 cases r with
 | error e=>exact hx pins σ _ _ e s' I2 hq'
 | ok fl =>
  cases fl with
  | ret u =>
   obtain ⟨v,H',I3,rv,ev,q3⟩:=I2.after hq'
   subst ev
   exact ⟨rv,⟨V.ref (s.heap.objs.size + 1),H',I3,rfl,q3⟩⟩
  | next=>exact False.elim hq'
  | brk=>exact False.elim hq'
  | cont=>exact False.elim hq'
theorem xf (M:Mk X.K C f) (F:aE X.prog X.w X.K X.mg X.base CX k f fd ps sp) (hr:bX (k + 1) X.A) (hg:Gl X x) (hm:X.mg x = some (.ref C)) (hb:Binds X.K fd ps ds) (hd:Vals dvs ds) (hx:Passes CX X E)
  (ha:PA X (e :: es) t) (hdb:(x == ("__debug__" : Str)) = false:=by decide) (he:starEach (e :: es) X.env = (false,eval e X.env) :: starEach es X.env:=by rfl) (hpl:(backTo pos (starEach es X.env)).any (·.1) = false:=by rfl) :
  PE X (.Call (.Name x p) (e :: es) [] pos) (yv C sp dvs E t):=by
 intro pins s σ H Q I h
 refine wpAny_Call_Name_kw (gZ I hg hm ?_ hdb)
 refine PySem.W.callWith_K (h₀:=X.base) I.ok.mod.kin M.kp (bx (ha pos pins s σ H _ I h) fun us s1 ⟨vs,H1,I1,r,q⟩=>⟨I1.eV,?_⟩) he hpl
 exact vy M F hr hb hd hx I1 r q
end
section
variable {X:Cx} {CX:pA} {k:Nat} {f C:Addr} {fd:FuncData} {ps ks:List Str} {sp:Sp} {E:XK} {x m:Str} {p pos apos kpos:Pos} {e o:Expr} {es:List Expr} {kws:List Keyword} {te ta:TE} {t tk:TA} {nm:Option Str}
structure C3 (K:PySem.W.Frag) (fd:FuncData) (ps ks:List Str) (g:List Value→List Value→List Value) (gV:List V→List V→List V):Prop where
 to:∀ (s:Shared) (us ws:List Value),K.In s.heap→(g us ws).length = ps.length→BindsTo s fd ⟨us,ks.zip ws⟩ (ps.zip (g us ws))
 rel:∀ {vs:List V} {us:List Value} {zs:List V} {ws:List Value},Vals vs us→Vals zs ws→Vals (gV vs zs) (g us ws)
variable {g:List Value→List Value→List Value} {gV:List V→List V→List V}
end
structure aI (N P:List Str) (sc:Scope):Prop where
 kind:sc.kind = .function
 co:sc.isCoroutine = false
 gen:sc.isGenerator = false
 nd:N.Nodup
 pre:N.take P.length = P
 par:∀ x ∈ P,sc.names.lookup x = some .local∨sc.names.lookup x = some .cell
 nofree:∀ y ∈ sc.names,y.2≠.free
theorem mz {kindOf:Str→Option NameKind} {x:Str} : ∀ {binds:List (Str × Value)} {m:Str→Option Value},(∀ v,(x,v) ∉ binds)→bindL kindOf binds m x = m x
 | [],_,_=>rfl
 | (n,v) :: r,m,h=>by
  unfold bindL
  rw [mz fun w hw=>h w (List.mem_cons_of_mem _ hw)]
  split
  ·have:x≠n:=by rintro rfl;exact h v List.mem_cons_self
   simp [this]
  ·rfl
theorem lR {kindOf:Str→Option NameKind} {x:Str} : ∀ {binds:List (Str × Value)} {m:Str→Option Value},(∀ v,(x,v) ∉ binds)→bindC kindOf binds m x = m x
 | [],_,_=>rfl
 | (n,v) :: r,m,h=>by
  unfold bindC
  rw [lR fun w hw=>h w (List.mem_cons_of_mem _ hw)]
  split
  ·rfl
  ·have:x≠n:=by rintro rfl;exact h v List.mem_cons_self
   simp [this]
theorem lW {kindOf:Str→Option NameKind} {x:Str} {v:Value} : ∀ {P:List Str} {vs:List Value} {i:Nat} {m:Str→Option Value},P.Nodup→P[i]? = some x→vs[i]? = some v→kindOf x = some .local →
  bindL kindOf (P.zip vs) m x = some v
 | [],_,_,_,_,h,_,_=>by simp at h
 | _ :: _,[],_,_,_,_,h,_=>by simp at h
 | p :: P,w :: vs,0,m,nd,h1,h2,hk=>by
  simp at h1 h2;subst h1;subst h2
  show bindL kindOf ((p,w) :: P.zip vs) m p = _
  unfold bindL
  rw [mz fun v hv=>(List.nodup_cons.mp nd).1 (List.of_mem_zip hv).1,if_pos hk]
  simp
 | p :: P,w :: vs,i + 1,m,nd,h1,h2,hk=>by
  show bindL kindOf ((p,w) :: P.zip vs) m x = _
  unfold bindL
  exact lW (i:=i) (List.nodup_cons.mp nd).2 (by simpa using h1) (by simpa using h2) hk
theorem lI {kindOf:Str→Option NameKind} {x:Str} {v:Value} : ∀ {P:List Str} {vs:List Value} {i:Nat} {m:Str→Option Value},P.Nodup→P[i]? = some x→vs[i]? = some v→kindOf x≠some .local →
  bindC kindOf (P.zip vs) m x = some v
 | [],_,_,_,_,h,_,_=>by simp at h
 | _ :: _,[],_,_,_,_,h,_=>by simp at h
 | p :: P,w :: vs,0,m,nd,h1,h2,hk=>by
  simp at h1 h2;subst h1;subst h2
  show bindC kindOf ((p,w) :: P.zip vs) m p = _
  unfold bindC
  rw [lR fun v hv=>(List.nodup_cons.mp nd).1 (List.of_mem_zip hv).1,if_neg hk]
  simp
 | p :: P,w :: vs,i + 1,m,nd,h1,h2,hk=>by
  show bindC kindOf ((p,w) :: P.zip vs) m x = _
  unfold bindC
  exact lI (i:=i) (List.nodup_cons.mp nd).2 (by simpa using h1) (by simpa using h2) hk
def start (N:List Str) (vs:List V):St:=vs.map some ++ List.replicate (N.length - vs.length) none
def eU (CX:pA) (P:Program) (w:World) (K:PySem.W.Frag) (mg:Str→Option Value) (base:Heap) (N:List Str) (qual:Str) (scope:Scope) (f:Addr) (cd:Value) (A:Around) (outer:List Env) (s:Shared) (H:Hp) (E:XK):Cx where
 prog:=P
 w:=w
 K:=K
 mg:=mg
 base:=base
 A:=A.deeper (envOfC qual scope s.heap.objs.size f cd)
 N:=N
 s₀:=s
 H₀:=H
 env:=envOfC qual scope s.heap.objs.size f cd
 outer:=outer
 stack:=envOfC qual scope s.heap.objs.size f cd :: outer
 ex:=[]
 calm:=true
 fn:=fun _=>true
 pn:=[]
 xe:=fun e s'=>wpAny (model P w) (A.deeper (envOfC qual scope s.heap.objs.size f cd)) («leaving» (envOfC qual scope s.heap.objs.size f cd) e) (fun _ s''=>CX outer H s E e s'') (fun e' s''=>CX outer H s E e' s'') s'
theorem ny {sc:Scope} {n:Nat} {x:Str} (h:sc.names.lookup x = some .cell):∃ c,(cellsFrom n sc.names []).lookup x = some c:=by
 have q:=PySem.W.cellsFrom_some sc.names n [] (.inl h)
 exact Option.isSome_iff_exists.mp q
theorem rZ {CX:pA} {P:Program} {w:World} {K:PySem.W.Frag} {mg:Str→Option Value} {base:Heap} {N ps:List Str} {qual:Str} {scope:Scope} {f:Addr} {cd:Value} {A:Around} {outer:List Env} {s s1:Shared} {H:Hp} {E:XK} {us:List Value} {vs:List V}
  (S:aI N ps scope) (hd:A.handled = none) (e0:qG P w K mg base A outer s H) (hl:vs.length = ps.length) (r:Vals vs us)
  (x:InCallC s s.heap.objs.size (bindL (envOfC qual scope s.heap.objs.size f cd).kindOf (ps.zip us) fun _=>none) (cellsFrom (s.heap.objs.size + 1) scope.names []) (bindC (envOfC qual scope s.heap.objs.size f cd).kindOf (ps.zip us) fun _=>none) s1) :
  Inv (eU CX P w K mg base N qual scope f cd A outer s H E) [] (start N vs) H s1:=by
 have hpl:ps.length≤N.length:=by have:=congrArg List.length S.pre;rw [List.length_take] at this;lia
 obtain ⟨h1,tk,rfl,hk⟩:=x.done
 have noA:∀ b:Addr,b ∉ (eU CX P w K mg base N qual scope f cd A outer s H E).ex:=fun b z=>absurd (show b ∈ ([] : List Addr) from z) (by simp)
 refine ⟨⟨e0.mod,S.kind,rfl,rfl,Nat.le_refl _,fun y z c h1 h2=>?_,fun y hy=>?_,fun y c _ h=>?_,fun _=>hd,Around.frames_deeper e0.frames,.inr ⟨rfl,rfl⟩,fun b z=>absurd z (noA b),e0.bs,e0.bsz,fun b _ _=>noA b,fun b z=>absurd z (noA b),e0.ic,e0.frf⟩,
  rfl,e0.bare,Un.kept hk,⟨_,x.toInCall.ns,fun i y v h1 h2 h3=>?_⟩,fun y c h=>⟨_,x.cell y c h⟩,e0.hok.fresh (Nat.le_refl _),fun y c h=>?_,fun p hp=>absurd (show p ∈ ([] : List (Addr × Obj)) from hp) (by simp),e0.hok.kept hk,?_⟩
 ·exact name_of_addr x.apart (PySem.mem_of_lookup h1) (PySem.mem_of_lookup h2)
 ·have hy:scope.names.lookup y = some .cell∨scope.names.lookup y = some .free:=hy
  rcases hy with hy | hy
  ·exact ny hy
  ·exact absurd rfl (S.nofree _ (PySem.mem_of_lookup hy))
 ·exact Nat.le_of_lt (x.above y c (PySem.mem_of_lookup h))
 ·have hi:i < vs.length:=by
   unfold start at h2
   by_cases hi:i < vs.length
   ·exact hi
   ·rw [List.getElem?_append_right (by simpa using hi)] at h2
    rw [List.getElem?_replicate] at h2
    split at h2 <;> cases h2
  have ha:vs[i]? = some v:=by
   unfold start at h2
   rw [List.getElem?_append_left (by simpa using hi),List.getElem?_map] at h2
   cases e:vs[i]? with
   | none=>rw [e] at h2;cases h2
   | some a=>rw [e] at h2;cases h2;rfl
  obtain ⟨u,hu,rv⟩:=r.get ha
  have hp:ps[i]? = some y:=by
   rw [← S.pre,List.getElem?_take_of_lt (by lia)];exact h1
  have ndP:ps.Nodup:=by rw [← S.pre];exact S.nd.sublist (List.take_sublist _ _)
  refine ⟨u,rv,?_⟩
  rcases S.par y (List.mem_of_getElem? hp) with k | k
  ·exact .inl ⟨k,lW ndP hp hu k⟩
  ·obtain ⟨c,e⟩:=ny (n:=s.heap.objs.size + 1) k
   refine .inr ⟨.inl k,c,e,?_⟩
   have q:=x.cell y c e
   rw [lI ndP hp hu (by show scope.names.lookup y≠_;rw [k];decide)] at q
   exact q
 ·exact e0.hok.fresh (Nat.le_of_lt (x.above y c (PySem.mem_of_lookup h)))
 ·unfold start
  show _ = N.length
  rw [List.length_append,List.length_map,List.length_replicate]
  lia
theorem yn {CX:pA} {P:Program} {w:World} {K:PySem.W.Frag} {mg:Str→Option Value} {base:Heap} {k:Nat} {f:Addr} {name qual:Str} {params:Arguments} {body:List Stmt} {scope:Scope} {dV kV doc pm cdv ct oc:Value} {an od:Option Addr}
  {osl:Array (Option Value)} {N ps:List Str} {sp:Sp} (lk:K.lookup f = some ⟨oc,od,.func (PySem.W.fnOf name qual params body scope dV kV doc pm an cdv ct),osl⟩) (hcd:PySem.W.codeIn K cdv qual = true) (S:aI N ps scope)
  (len:∀ vs H Q E,sp vs H Q E→vs.length = ps.length)
  (hbody:∀ (A:Around) (outer:List Env) (s:Shared) (H:Hp) (vs:List V) (Q:VK) (E:XK),bX k (A.deeper (envOfC qual scope s.heap.objs.size f cdv))→sp vs H Q E →
   ∃ t,nv (eU CX P w K mg base N qual scope f cdv A outer s H E) body t∧t { nx:=fun _ H'=>Q .non H',rt:=Q } (start N vs) H) :
  aE P w K mg base CX (k + 1) f (PySem.W.fnOf name qual params body scope dV kV doc pm an cdv ct) ps sp:=by
 refine ⟨len,fun A outer s H args us vs Q E hr e0 hb r hsp=>?_⟩
 have hl:=len _ _ _ _ hsp
 have KX:K.In s.heap:=e0.mod.kin.keeps fun b o e=>(e0.bs b o e).1
 have lim:s.heap.NoLimit:=e0.mod.nolimit.keeps fun b o e=>(e0.bs b o e).1
 have hkind:∀ y ∈ ps.zip us,scope.names.lookup y.1 = some .local∨(scope.names.lookup y.1 = some .cell∧((cellsFrom (s.heap.objs.size + 1) scope.names []).lookup y.1).isSome = true):=fun ⟨n,v⟩ hy=>by
  rcases S.par n (List.of_mem_zip hy).1 with q | q
  ·exact .inl q
  ·exact .inr ⟨q,PySem.W.cellsFrom_some _ _ _ (.inl q)⟩
 refine codeAny_call_function hr.depth (KX _ _ lk) rfl S.co S.gen rfl (PySem.W.codeRec_of KX hcd) (hb _ _ _ _ ?_)
 refine wpAny_newFunctionEnv_cells S.kind hkind fun env he s1 x=>?_
 subst he
 refine ⟨lim.keeps x.toInCall.keep,codeAny_func ?_⟩
 obtain ⟨t,ht,hq⟩:=hbody A outer s H vs Q E (hr.deeper _) hsp
 have I:Inv (eU CX P w K mg base N qual scope f cdv A outer s H E) [] (start N vs) H s1:=rZ S hr.hd e0 hl r x
 refine wpAny_mono (ht [] s1 (start N vs) H _ I hq) (fun fl s' hs=>?_) fun e s' hs=>hs
 have fin:∀ {σ' : St} {H' : Hp} {v:V} {u:Value},Inv (eU CX P w K mg base N qual scope f cdv A outer s H E) [] σ' H' s'→RelV v u→Q v H'→CE outer P w H s Q u s' :=
  fun {σ' H' v u} J rv q=>⟨v,H',J.os,J.bare,J.base,J.hok,rv,q⟩
 cases fl with
 | ret u =>
  obtain ⟨v,σ',H',J,rv,q⟩:=hs
  exact fin J rv q
 | next =>
  obtain ⟨σ',H',J,q⟩:=hs
  exact fin (v:=V.non) (u:=Value.none) J rfl q
 | brk =>
  obtain ⟨_,_,_,q⟩:=hs
  exact False.elim q
 | cont =>
  obtain ⟨_,_,_,q⟩:=hs
  exact False.elim q
end L2
namespace L2
open PySem PySem.Spec PyProof.Rows
section
variable {X:Cx} {x:Str} {p pos:Pos} {e:Expr} {es:List Expr} {t:TA} {id T:String} {r:List V→Hp→VK→Prop}
def tCB (r:List V→Hp→VK→Prop) (t:TA):TE:=fun σ H Q=>t σ H fun vs H1=>r vs H1 Q
theorem az (hc:eQ X (.builtin id) r) (hg:Gl X x) (hm:X.mg x = none) (hv:bootBuiltins x = some (.builtin id)) (ha:PA X (e :: es) t) (hn:x≠"__name__":=by decide) (hdb:(x == ("__debug__" : Str)) = false:=by decide)
  (he:starEach (e :: es) X.env = (false,eval e X.env) :: starEach es X.env:=by rfl) (hpl:(backTo pos (starEach es X.env)).any (·.1) = false:=by rfl):PE X (.Call (.Name x p) (e :: es) [] pos) (tCB r t):=by
 intro pins s σ H Q I h
 refine wpAny_Call_Name_kw (iA I hg hm hv ?_ hn hdb)
 exact PyProof.Rows.callWith_builtin1 (bx (ha pos pins s σ H _ I h) fun us s1 ⟨vs,H1,I1,r1,q1⟩=>hc pins s1 σ H1 vs us Q I1 r1 q1) he hpl
theorem ba (hc:eQ X (.type T) r) (hg:Gl X x) (hm:X.mg x = none) (hv:bootBuiltins x = some (.type T)) (ha:PA X (e :: es) t) (hn:x≠"__name__":=by decide) (hdb:(x == ("__debug__" : Str)) = false:=by decide)
  (he:starEach (e :: es) X.env = (false,eval e X.env) :: starEach es X.env:=by rfl) (hpl:(backTo pos (starEach es X.env)).any (·.1) = false:=by rfl):PE X (.Call (.Name x p) (e :: es) [] pos) (tCB r t):=by
 intro pins s σ H Q I h
 refine wpAny_Call_Name_kw (iA I hg hm hv ?_ hn hdb)
 exact PyProof.Rows.callWith_type1 (bx (ha pos pins s σ H _ I h) fun us s1 ⟨vs,H1,I1,r1,q1⟩=>hc pins s1 σ H1 vs us Q I1 r1 q1) he hpl
end
end L2
namespace HT
open PySem PyProof.Rows
section
open PySem.SeqAt
open PySem.AutoSeq1 (wpAny_loadPart')
open PySem.MeetsSeq PySem.MeetsSeq2 PySem.MeetsSeq3
end
section
variable {prog:Program} {w:World} {A:Around} {E:Value→Shared→Prop} {s:Shared}
def kS (n d:Nat):Option Int→Nat
 | none=>d
 | some v=>if v < 0 then (v + (n:Int)).toNat else min v.toNat n
theorem vH (n d:Nat):kS n d none = d:=rfl
theorem mI (n d k:Nat):kS n d (some (k:Int)) = min k n:=by
 show (if (k:Int) < 0 then ((k:Int) + (n:Int)).toNat else min (k:Int).toNat n) = min k n
 rw [if_neg (by lia),Int.toNat_natCast]
end
end HT
namespace L2
open PySem PySem.Spec PyProof.Rows
abbrev TO:=St→Hp→(Option Int→Hp→Prop)→Prop
def PO (X:Cx) (e:Option Expr) (t:TO):Prop :=
 ∀ (pins:List (Addr × Obj)) (s:Shared) (σ:St) (H:Hp) (Q:Option Int→Hp→Prop),Inv X pins σ H s→t σ H Q →
  wpAny (model X.prog X.w) X.A (evalPart e X.env) (fun u s'=>∃ o H',Inv X pins σ H' s'∧IsPart u o∧Q o H') X.xe s
def xW:TO:=fun _ H Q=>Q none H
def Ax (t:TE):TO:=fun σ H Q=>t σ H fun x H1=>∃ i,x = .int i∧Q (some i) H1
section
variable {X:Cx} {e:Expr} {te:TE} {lo hi:Option Expr} {tl th:TO} {pos p2:Pos}
theorem iV:PO X none xW:=by
 intro pins s σ H Q I h
 rw [evalPart_none]
 exact wpAny_pure ⟨none,H,I,.none,h⟩
theorem fY (h:PE X e te):PO X (some e) (Ax te):=by
 intro pins s σ H Q I hw
 rw [evalPart_some]
 refine bx (h pins s σ H _ I hw) fun u s1 ⟨x,H1,I1,r1,q1⟩=>?_
 obtain ⟨i,rfl,q⟩:=q1
 obtain ⟨t,rfl⟩:=r1
 exact ⟨some i,H1,I1,.int i t,q⟩
def Ci (X:Cx) (r:V→Option Int→Option Int→Hp→VK→Prop):Prop :=
 ∀ (pins:List (Addr × Obj)) (s:Shared) (σ:St) (H:Hp) (x:V) (v vl vu:Value) (lo hi:Option Int) (sl:Addr) (Q:VK),Inv X pins σ H s→RelV x v→s.heap.IsSliceOf sl vl vu .none→IsPart vl lo→IsPart vu hi→r x lo hi H Q →
  ∃ T id,typeLookup (.type T) "__getitem__" = pure (some (.builtin id))∧s.TypeIs v T∧wpAny (model X.prog X.w) X.A (getItem v (.ref sl)) (EP X pins σ Q) X.xe s
def tSl (r:V→Option Int→Option Int→Hp→VK→Prop) (te:TE) (tl th:TO):TE:=fun σ H Q=>te σ H fun x H1=>tl σ H1 fun l H2=>th σ H2 fun u H3=>r x l u H3 Q
theorem ft {r:V→Option Int→Option Int→Hp→VK→Prop} (hr:Ci X r) (he:PE X e te) (hl:PO X lo tl) (hu:PO X hi th):PE X (.Subscript e (.Slice lo hi none p2) pos) (tSl r te tl th):=by
 intro pins s σ H Q I h
 refine Subscript_ (bx (he pins s σ H _ I h) fun v s1 ⟨x,H1,I1,r1,q1⟩=>?_)
 refine wpAny_Slice (bx (hl pins s1 σ H1 _ I1 q1) fun vl s2 ⟨l,H2,I2,pl,q2⟩=>bx (hu pins s2 σ H2 _ I2 q2) fun vu s3 ⟨u,H3,I3,pu,q3⟩=>?_)
 rw [evalPart_none]
 refine wpAny_pure ?_
 have I4:Inv X pins σ H3 { s3 with heap:=s3.heap.push { cls:=.type "slice",data:=.fields #[vl,vu,.none] } }:=I3.kept (t':=s3.toks) fun b ob q=>Heap.get?_push_of_some _ q
 obtain ⟨T,id,hT,ht,hg⟩:=hr pins { s3 with heap:=s3.heap.push { cls:=.type "slice",data:=.fields #[vl,vu,.none] } } σ H3 x v vl vu l u s3.heap.objs.size Q I4 r1 (Heap.IsSliceOf.new ..) pl pu q3
 show wpAny (model X.prog X.w) X.A (subscriptTail e (.Slice lo hi none p2) v (.ref s3.heap.objs.size)) (EP X pins σ Q) X.xe { s3 with heap:=s3.heap.push { cls:=.type "slice",data:=.fields #[vl,vu,.none] } }
 exact tail_any (ops:=[.ref s3.heap.objs.size,v]) ht hT hg (by with_unfolding_all rfl)
def kL (xs:List V) (lo hi:Option Int):List V:=(xs.drop (HT.kS xs.length 0 lo)).take (HT.kS xs.length xs.length hi - HT.kS xs.length 0 lo)
theorem oq (xs:List V) (lo hi:Option Int):(kL xs lo hi).length≤xs.length:=by
 unfold kL
 rw [List.length_take,List.length_drop]
 lia
end
end L2
namespace L2
open PySem PySem.Spec PyProof.Rows
def wA (n:Nat) (i:Int):Option Nat:=if 0≤i then (if i < n then some i.toNat else none) else if -(n:Int)≤i then some (i + n).toNat else none
def tY {α:Type} (xs:List α) (i:Int):Option α:=(wA xs.length i).bind fun j=>xs[j]?
theorem rb {n:Nat} {i:Int} {j:Nat} (h:wA n i = some j):seqIndex? i n = some j∧j < n∧-(n:Int)≤i∧i < n:=by
 unfold wA at h
 by_cases h0:0≤i
 ·rw [if_pos h0] at h
  by_cases h1:i < n
  ·rw [if_pos h1] at h
   have e:i.toNat = j:=Option.some.inj h
   exact ⟨by rw [seqIndex_of h0 h1,e],by lia,by lia,h1⟩
  ·rw [if_neg h1] at h;cases h
 ·rw [if_neg h0] at h
  by_cases h1 : -(n:Int)≤i
  ·rw [if_pos h1] at h
   have e:(i + n).toNat = j:=Option.some.inj h
   exact ⟨by rw [seqIndex_neg (by lia) h1,e],by lia,h1,by lia⟩
  ·rw [if_neg h1] at h;cases h
theorem nh {α:Type} {xs:List α} {i:Int} {v:α} (h:tY xs i = some v):∃ j,seqIndex? i xs.length = some j∧xs[j]? = some v∧j < xs.length∧-(xs.length:Int)≤i∧i < xs.length:=by
 unfold tY at h
 cases e:wA xs.length i with
 | none=>rw [e] at h;cases h
 | some j =>
  rw [e] at h
  obtain ⟨h1,h2,h3,h4⟩:=rb e
  exact ⟨j,h1,h,h2,h3,h4⟩
theorem cj {α:Type} {xs:List α} {j:Nat} {v:α} (h:xs[j]? = some v):tY xs (j:Int) = some v:=by
 have hj:j < xs.length:=(List.getElem?_eq_some_iff.mp h).1
 have e:wA xs.length (j:Int) = some j:=by
  unfold wA
  rw [if_pos (by lia),if_pos (by lia)];simp
 unfold tY;rw [e];exact h
def qP (b:Expr):Prop:=∀ o i,subscripted b false o i = operate [o,i] (getItem o i)
def AI (X:Cx) (r:R2):Prop :=
 ∀ (value slice:Expr) (pins:List (Addr × Obj)) (s:Shared) (σ:St) (H:Hp) (x y:V) (v u:Value) (Q:VK),Inv X pins σ H s→RelV x v→RelV y u→r x y H Q →
  subscripted slice false v u = operate [v,u] (getItem v u)→wpAny (model X.prog X.w) X.A (subscriptTail value slice v u) (EP X pins σ Q) X.xe s
def MtR (X:Cx) (id:String) (r:V→List V→Hp→VK→Prop):Prop :=
 ∀ (pins:List (Addr × Obj)) (s:Shared) (σ:St) (H:Hp) (x:V) (xs:List V) (v:Value) (us:List Value) (Q:VK),Inv X pins σ H s→RelV x v→Vals xs us→r x xs H Q →
  wpAny (model X.prog X.w) X.A (call (.builtin id) (v :: us)) (EP X pins σ Q) X.xe s
section
variable {X:Cx} {a b:Expr} {ta tb:TE} {pos:Pos}
theorem cP {r:R2} (hr:AI X r) (ha:PE X a ta) (hb:PE X b tb) (hs:qP b):PE X (.Subscript a b pos) (AW r ta tb):=by
 intro pins s σ H Q I h
 exact Subscript_ (zW ha hb I h fun v u s2 x y H2 I2 rx ry q=>hr a b pins s2 σ H2 x y v u Q I2 rx ry q (hs _ _))
def Bw (K:PySem.W.Frag):R2:=fun x y H Q=>∃ p xs i v,x = .ref p∧y = .int i∧aY K H p xs∧tY xs i = some v∧Q v H
def BI (K:PySem.W.Frag):R2:=fun x y H Q=>∃ p xs i v,x = .ref p∧y = .int i∧cV K H p xs∧tY xs i = some v∧Q v H
def BW:R2:=fun x y H Q=>∃ z i c,x = .str z∧y = .int i∧z.length≤sizeLine∧tY z.cps.toList i = some c∧Q (.str ⟨#[c]⟩) H
theorem hU:AI X (Bw X.K):=by
 intro value slice pins s σ H x y v u Q I rx ry h hs
 obtain ⟨p,xs,i,z,rfl,rfl,hq,he,q⟩:=h
 cases rx
 obtain ⟨t,rfl⟩:=ry
 obtain ⟨its,r,pl,hz⟩:=I.list hq
 obtain ⟨j,h1,h2,h3,h4,h5⟩:=nh he
 obtain ⟨w,ew,rw'⟩:=r.get h2
 have hl:=r.length
 have hn:=jv
 have fin:EP X pins σ Q w s:=⟨z,H,I,rw',q⟩
 by_cases h0:0≤i
 ·have hj:i.toNat = j:=by
   rw [seqIndex_of h0 h5] at h1
   exact Option.some.inj h1
  exact item_listR pl.isList h0 (by lia) (by rw [hj];simpa using ew) fin hs
 ·have hj:(i + (its.toArray.size:Int)).toNat = j:=by
   rw [seqIndex_neg (by lia) h4] at h1
   rw [List.size_toArray,← hl]
   exact Option.some.inj h1
  exact subscriptTail_builtinR (x:=w) pl.isList.typeIs slot_list_getitem.lookup
   (wpAny_getItem_list_neg (Q:=fun r s'=>r = w∧EP X pins σ Q r s') pl.isList (by lia) (by rw [List.size_toArray] <;> lia) (by lia) (by rw [hj];simpa using ew) ⟨rfl,fin⟩) hs
theorem dC:AI X (BI X.K):=by
 intro value slice pins s σ H x y v u Q I rx ry h hs
 obtain ⟨p,xs,i,z,rfl,rfl,hq,he,q⟩:=h
 cases rx
 obtain ⟨t,rfl⟩:=ry
 obtain ⟨its,r,pl,hz⟩:=I.tuple hq
 obtain ⟨j,h1,h2,h3,h4,h5⟩:=nh he
 obtain ⟨w,ew,rw'⟩:=r.get h2
 have hl:=r.length
 have hn:=jv
 have fin:EP X pins σ Q w s:=⟨z,H,I,rw',q⟩
 exact subscriptTail_builtinR (x:=w) pl.typeIs slot_tuple_getitem.lookup
  (getItem_tuple (j:=j) (Q:=fun r s'=>r = w∧EP X pins σ Q r s') pl (by lia) (by lia) (by rw [List.size_toArray,← hl];exact h1) (by simpa using ew) ⟨rfl,fin⟩) hs
theorem ua:AI X BW:=by
 intro value slice pins s σ H x y v u Q I rx ry h hs
 obtain ⟨z,i,c,rfl,rfl,hz,he,q⟩:=h
 obtain ⟨t,rfl⟩:=rx
 obtain ⟨t',rfl⟩:=ry
 obtain ⟨j,h1,h2,h3,h4,h5⟩:=nh he
 have hl:z.cps.toList.length = z.length:=by simp [Str.length]
 rw [hl] at h1 h4 h5
 have hn:=jv
 exact tail_any (typeIs_str s z t) slot_str_getitem.lookup (getItem_str (c:=c) (by
  have e1:decide (i < -(2 ^ 63:Int)) = false:=decide_eq_false (by lia)
  have e2:decide (i ≥ 2 ^ 63) = false:=decide_eq_false (by lia)
  rw [e1,e2,Bool.or_false]) (by rw [h1];simpa using h2) ⟨.str ⟨#[c]⟩,H,I.tok _,⟨_,rfl⟩,q⟩) hs
theorem qF (its:List Value) (n j:Nat) (u:Value):Obj.mapSeq (·.setIfInBounds j u) { cls:=.type "list",data:=.seq its.toArray n } = { cls:=.type "list",data:=.seq (its.set j u).toArray n }:=by
 simp [Obj.mapSeq]
theorem Inv.lst {pins:List (Addr × Obj)} {σ:St} {H:Hp} {s:Shared} {p:Addr} {xs:List V} (I:Inv X pins σ H s) (h:H p = some (.lst xs)) :
  ∃ (its:List Value) (n:Nat),Vals xs its∧s.heap.get? p = some { cls:=.type "list",data:=.seq its.toArray n }∧xs.length≤sizeLine:=by
 obtain ⟨z,its,n,r,e⟩:=I.hok p _ h
 exact ⟨its,n,r,e,z⟩
theorem Inv.zP {pins:List (Addr × Obj)} {σ:St} {H:Hp} {s:Shared} {p:Addr} {xs ys:List V} {its its' : List Value} {n n' : Nat} {f:Obj→Obj} (I:Inv X pins σ H s) (h:H p = some (.lst xs))
  (ho:s.heap.get? p = some { cls:=.type "list",data:=.seq its.toArray n }) (hf:f { cls:=.type "list",data:=.seq its.toArray n } = { cls:=.type "list",data:=.seq its'.toArray n' }) (r:Vals ys its') (hz:ys.length≤sizeLine) (t:Nat) :
  Inv X pins σ (upd H p (.lst ys)) { s with heap:=s.heap.update p f,toks:=t }:=by
 have e:(s.heap.update p f).get? p = some { cls:=.type "list",data:=.seq its'.toArray n' }:=by
  rw [Heap.get?_update_self f ho (by rw [hf] <;> rfl),hf]
 refine I.write (x:=p) (e:=p) (by rw [h];trivial) (.inl rfl) (fun b u hb q=>(Heap.get?_update_other _ _ (Ne.symm hb)).trans q) ⟨_,e⟩ ?_
 exact ⟨hz,its',n',r,e⟩
def AK:V→V→V→Hp→(Hp→Prop)→Prop:=fun o i v H Q=>∃ p xs k j,o = .ref p∧i = .int k∧H p = some (.lst xs)∧wA xs.length k = some j∧Q (upd H p (.lst (xs.set j v)))
theorem set_list:A7 X AK:=by
 intro pins s σ H o i v ov iv u Q I ro ri rv h
 obtain ⟨p,xs,k,j,rfl,rfl,hp,hj,q⟩:=h
 cases ro
 obtain ⟨t,rfl⟩:=ri
 obtain ⟨its,n,r,ho,hz⟩:=I.lst hp
 obtain ⟨h1,h2,h3,h4⟩:=rb hj
 have hl:=r.length
 have hn:=jv
 have I' : Inv X pins σ (upd H p (.lst (xs.set j v))) { s with heap:=s.heap.update p (Obj.mapSeq (·.setIfInBounds j u)) } :=
  I.zP hp ho (qF its n j u) (r.set rv j) (by rw [List.length_set];exact hz) s.toks
 by_cases h0:0≤k
 ·have hk:k.toNat = j:=by
   rw [seqIndex_of h0 h4] at h1
   exact Option.some.inj h1
  exact PySem.W.ki_setAt ho h0 (by lia) (by rw [List.size_toArray,← hl];exact h4) (by rw [hk];exact ⟨_,I',q⟩)
 ·have hk:(k + (its.toArray.size:Int)).toNat = j:=by
   rw [seqIndex_neg (by lia) h3] at h1
   rw [List.size_toArray,← hl]
   exact Option.some.inj h1
  exact PySem.W.ki_setBack ho (by lia) (by rw [List.size_toArray,← hl];exact h3) (by lia) (by rw [hk];exact ⟨_,I',q⟩)
theorem ni (lo hi:Option Int) (n:Nat):(sliceBounds lo hi none n).1 = ((HT.kS n 0 lo:Nat):Int)∧(sliceBounds lo hi none n).2.1 = ((HT.kS n n hi:Nat):Int)∧(sliceBounds lo hi none n).2.2 = 1:=by
 refine ⟨?_,?_,rfl⟩
 ·cases lo with
  | none=>simp [sliceBounds,HT.kS]
  | some i =>
   simp only [sliceBounds,HT.kS,Option.getD_none,show (1:Int) > 0 by decide,if_true]
   by_cases h:i < 0
   ·simp only [h,if_true] <;> lia
   ·simp only [h,if_false] <;> lia
 ·cases hi with
  | none=>simp [sliceBounds,HT.kS]
  | some i =>
   simp only [sliceBounds,HT.kS,Option.getD_none,show (1:Int) > 0 by decide,if_true]
   by_cases h:i < 0
   ·simp only [h,if_true] <;> lia
   ·simp only [h,if_false] <;> lia
theorem kY (its:List Value) (lo hi:Option Int):slicePick its.toArray lo hi none = ((its.drop (HT.kS its.length 0 lo)).take (HT.kS its.length its.length hi - HT.kS its.length 0 lo)).toArray:=by
 obtain ⟨h1,h2,h3⟩:=ni lo hi its.toArray.size
 unfold slicePick
 rw [h1,h2,h3]
 simp only [sliceRange_one,pick_run,List.size_toArray] <;> rfl
def Ct (K:PySem.W.Frag):V→Option Int→Option Int→Hp→VK→Prop:=fun x lo hi H Q=>∃ a xs,x = .ref a∧aY K H a xs∧∀ p,H p = none→Q (.ref p) (upd H p (.lst (kL xs lo hi)))
theorem mU:Ci X (Ct X.K):=by
 intro pins s σ H x v vl vu lo hi sl Q I rx hs pl pu h
 obtain ⟨a,xs,rfl,hx,q⟩:=h
 cases rx
 obtain ⟨its,r,ht,hz⟩:=I.list hx
 have hlen:=r.length
 refine ⟨"list",_,slot_list_getitem.lookup,ht.isList.typeIs,?_⟩
 refine wpAny_getItem_list_slice ht.isList hs pl pu .none (by simp) ?_ (by rw [List.size_toArray] <;> lia)
 rw [kY,← hlen]
 refine ⟨.ref s.heap.objs.size,_,I.laid (t':=s.toks) (o:=.lst (kL xs lo hi)) (fun b ob q=>Heap.get?_push_of_some _ q) (Nat.le_refl _) ?_,rfl,q _ (I.hok.fresh (Nat.le_refl _))⟩
 exact ⟨Nat.le_trans (oq xs lo hi) hz,_,0,(r.drop (HT.kS xs.length 0 lo)).take (HT.kS xs.length xs.length hi - HT.kS xs.length 0 lo),Heap.get?_push_size _ rfl⟩
def fF:V→Bool
 | .non=>true
 | .bl _=>true
 | .int _=>true
 | .str _=>true
 | _=>false
def rD:V→V→Bool
 | .non,.non=>true
 | .bl a,.bl b=>a == b
 | .bl a,.int b=>(if a then 1 else 0) == b
 | .int a,.bl b=>a == (if b then 1 else 0)
 | .int a,.int b=>a == b
 | .str a,.str b=>a == b
 | _,_=>false
theorem qt {A:Around} {s:Shared} {y x:V} {u v:Value} (ry:RelV y u) (rx:RelV x v) (fy:fF y = true) (fx:fF x = true):SeqAt.EqAt A s u v (rD y x):=by
 cases y with
 | non =>
  cases ry
  cases x with
  | non=>cases rx;exact SeqAt.EqAt.same _
  | bl b=>cases rx;exact SeqAt.EqAt.none_bool b
  | int b=>obtain ⟨t,rfl⟩:=rx;exact SeqAt.EqAt.none_int b t
  | str b=>obtain ⟨t,rfl⟩:=rx;exact SeqAt.EqAt.none_str b t
  | _=>exact absurd (show false = true from fx) Bool.false_ne_true
 | bl a =>
  cases ry
  cases x with
  | non=>cases rx;exact SeqAt.EqAt.bool_none a
  | bl b=>cases rx;exact SeqAt.EqAt.bool_bool a b
  | int b=>obtain ⟨t,rfl⟩:=rx;exact SeqAt.EqAt.bool_int a b t
  | str b=>obtain ⟨t,rfl⟩:=rx;exact SeqAt.EqAt.bool_str a b t
  | _=>exact absurd (show false = true from fx) Bool.false_ne_true
 | int a =>
  obtain ⟨t',rfl⟩:=ry
  cases x with
  | non=>cases rx;exact SeqAt.EqAt.int_none a t'
  | bl b=>cases rx;exact SeqAt.EqAt.int_bool a t' b
  | int b=>obtain ⟨t,rfl⟩:=rx;exact SeqAt.EqAt.int_int a t' b t
  | str b=>obtain ⟨t,rfl⟩:=rx;exact SeqAt.EqAt.int_str a t' b t
  | _=>exact absurd (show false = true from fx) Bool.false_ne_true
 | str a =>
  obtain ⟨t',rfl⟩:=ry
  cases x with
  | non=>cases rx;exact SeqAt.EqAt.str_none a t'
  | bl b=>cases rx;exact SeqAt.EqAt.str_bool a t' b
  | int b=>obtain ⟨t,rfl⟩:=rx;exact SeqAt.EqAt.str_int a t' b t
  | str b=>obtain ⟨t,rfl⟩:=rx;exact SeqAt.EqAt.str_str a t' b t
  | _=>exact absurd (show false = true from fx) Bool.false_ne_true
 | _=>exact absurd (show false = true from fy) Bool.false_ne_true
def pL (x:V) (u:Value):Bool:=match u with
 | .none=>rD .non x
 | .bool b=>rD (.bl b) x
 | .int i _=>rD (.int i) x
 | .str z _=>rD (.str z) x
 | _=>false
theorem vJ {x y:V} {u:Value} (r:RelV y u) (f:fF y = true):pL x u = rD y x:=by
 cases y with
 | non=>cases r;rfl
 | bl b=>cases r;rfl
 | int i=>obtain ⟨t,rfl⟩:=r;rfl
 | str z=>obtain ⟨t,rfl⟩:=r;rfl
 | _=>exact absurd (show false = true from f) Bool.false_ne_true
theorem iZ {x:V} : ∀ {xs:List V} {us:List Value},Vals xs us→xs.all fF = true→us.any (pL x) = xs.any fun y=>rD y x
 | _,_,.nil,_=>rfl
 | y :: xs,u :: us,.cons r t,f=>by
  rw [List.all_cons,Bool.and_eq_true] at f
  rw [List.any_cons,List.any_cons,vJ r f.1,iZ t f.2]
theorem gE {A:Around} {s:Shared} {x:V} {v:Value} (rx:RelV x v) (fx:fF x = true):∀ {xs:List V} {us:List Value},Vals xs us→xs.all fF = true→∀ u ∈ us,SeqAt.EqAt A s u v (pL x u)
 | _,_,.nil,_=>fun u hu=>by cases hu
 | y :: xs,u :: us,.cons r t,f=>fun u' hu=>by
  rw [List.all_cons,Bool.and_eq_true] at f
  rcases List.mem_cons.mp hu with rfl | hu
  ·rw [vJ r f.1];exact qt r rx f.1 fx
  ·exact gE rx fx t f.2 u' hu
def zt (x:V) (xs:List V):Bool:=xs.any fun y=>rD y x
def rIn (K:PySem.W.Frag) (neg:Bool):R2:=fun x y H Q=>∃ p xs,y = .ref p∧(aY K H p xs∨cV K H p xs)∧fF x = true∧xs.all fF = true∧Q (.bl (if neg then !zt x xs else zt x xs)) H
theorem lV:hX X (compareOp .In) (rIn X.K false):=by
 intro pins s σ H x y v u Q I rx ry h
 obtain ⟨p,xs,rfl,hq,fx,fs,q⟩:=h
 cases ry
 rcases hq with hq | hq
 ·obtain ⟨its,r,pl,hz⟩:=I.list hq
  refine SeqAt.in_listAt (pL x) pl.isList (fun w hw=>gE rx fx r fs w (by simpa using hw)) ⟨.bl _,H,I,rfl,?_⟩
  rw [show its.toArray.any (pL x) = its.any (pL x) by simp,iZ r fs]
  exact q
 ·obtain ⟨its,r,pl,hz⟩:=I.tuple hq
  refine SeqAt.in_tupleAt (pL x) pl (fun w hw=>gE rx fx r fs w (by simpa using hw)) ⟨.bl _,H,I,rfl,?_⟩
  rw [show its.toArray.any (pL x) = its.any (pL x) by simp,iZ r fs]
  exact q
theorem eC:hX X (compareOp .NotIn) (rIn X.K true):=by
 intro pins s σ H x y v u Q I rx ry h
 obtain ⟨p,xs,rfl,hq,fx,fs,q⟩:=h
 cases ry
 rcases hq with hq | hq
 ·obtain ⟨its,r,pl,hz⟩:=I.list hq
  refine SeqAt.notIn_listAt (pL x) pl.isList (fun w hw=>gE rx fx r fs w (by simpa using hw)) ⟨.bl _,H,I,rfl,?_⟩
  rw [show its.toArray.any (pL x) = its.any (pL x) by simp,iZ r fs]
  exact q
 ·obtain ⟨its,r,pl,hz⟩:=I.tuple hq
  refine SeqAt.notIn_tupleAt (pL x) pl (fun w hw=>gE rx fx r fs w (by simpa using hw)) ⟨.bl _,H,I,rfl,?_⟩
  rw [show its.toArray.any (pL x) = its.any (pL x) by simp,iZ r fs]
  exact q
theorem bu:eQ X (.type "list") (fun xs H Q=>∃ p ys,xs = [.ref p]∧(aY X.K H p ys∨cV X.K H p ys)∧∀ l,H l = none→Q (.ref l) (upd H l (.lst ys))):=by
 intro pins s σ H xs us Q I r h
 obtain ⟨p,ys,rfl,hq,q⟩:=h
 obtain ⟨u,rfl,rx⟩:=vals1 r
 cases rx
 have fin:∀ (its:List Value),Vals ys its→ys.length≤sizeLine→∀ (h' : Heap) (c' : Nat),(∀ b o',s.heap.get? b = some o'→h'.get? b = some o') →
   h'.get? s.heap.objs.size = some { cls:=.type "list",dict:=none,data:=.seq its.toArray c',slots:=#[] }→EP X pins σ Q (.ref s.heap.objs.size) { s with heap:=h' }:=fun its r' hz h' c' kp e =>
  ⟨.ref s.heap.objs.size,_,I.laid (t':=s.toks) kp (Nat.le_refl _) (show bo X.prog X.w _ h' _ (.lst ys) from ⟨hz,its,c',r',e⟩),rfl,q _ (I.hok.fresh (Nat.le_refl _))⟩
 rcases hq with hq | hq
 ·obtain ⟨its,r',pl,hz⟩:=I.list hq
  have hlen:=r'.length
  obtain ⟨o,ho,hc,n,hd⟩:=pl.isList
  exact call_list_seq p (.inl rfl) ho hc hd (fun h' c' kp e=>fin its r' hz h' c' kp e) (by simp only [List.size_toArray] <;> lia)
 ·obtain ⟨its,r',pl,hz⟩:=I.tuple hq
  have hlen:=r'.length
  obtain ⟨o,ho,hc,n,hd⟩:=pl
  exact call_list_seq p (.inr rfl) ho hc hd (fun h' c' kp e=>fin its r' hz h' c' kp e) (by simp only [List.size_toArray] <;> lia)
theorem bH:eQ X (.type "tuple") (fun xs H Q=>∃ p ys,xs = [.ref p]∧((aY X.K H p ys∧∀ l,H l = none→Q (.ref l) (upd H l (.tup ys)))∨(cV X.K H p ys∧Q (.ref p) H))):=by
 intro pins s σ H xs us Q I r h
 obtain ⟨p,ys,rfl,h⟩:=h
 obtain ⟨u,rfl,rx⟩:=vals1 r
 cases rx
 rcases h with ⟨hq,q⟩ | ⟨hq,q⟩
 ·obtain ⟨its,r',pl,hz⟩:=I.list hq
  have hlen:=r'.length
  refine call_tuple_list pl.isList (fun h' kp=>?_) (by simp only [List.size_toArray] <;> lia)
  have I1:Inv X pins σ H { s with heap:=h' }:=I.kept (t':=s.toks) kp
  have I2:Inv X pins σ (upd H h'.objs.size (.tup ys)) { s with heap:=h'.push { cls:=.type "tuple",data:=.seq its.toArray } } :=
   I1.laid (t':=s.toks) (fun b o e=>Heap.get?_push_of_some _ e) (Nat.le_refl _) (show bo X.prog X.w _ _ _ (.tup ys) from ⟨hz,its,r',IsTup.new _ _⟩)
  exact ⟨.ref h'.objs.size,_,I2,rfl,q _ (I1.hok.fresh (Nat.le_refl _))⟩
 ·obtain ⟨its,r',pl,hz⟩:=I.tuple hq
  exact call_tuple_same pl ⟨.ref p,H,I,rfl,q⟩
def By (K:PySem.W.Frag) (T:String) (x:V) (H:Hp):Prop:=match x with
 | .str _=>T = "str"
 | .int _=>T = "int"
 | .ref p=>(T = "list"∧∃ xs,aY K H p xs)∨(T = "tuple"∧∃ o,K.lookup p = some o∧o.cls = .type "tuple"∧o.dict = none) ∨
   (T = "dict"∧((∃ kvs,H p = some (.dK kvs))∨∃ kvs,H p = some (.dT kvs)))∨(T = "set"∧∃ S n,H p = some (.set S n))
 | _=>False
theorem uJ {pins:List (Addr × Obj)} {σ:St} {H:Hp} {s:Shared} {T:String} {x:V} {v:Value} (I:Inv X pins σ H s) (r:RelV x v) (ty:By X.K T x H) :
  s.TypeIs v T∧∀ a,v = .ref a→∃ ob,s.heap.get? a = some ob∧ob.dict = none:=by
 cases x with
 | str z =>
  obtain ⟨t,rfl⟩:=r
  cases (show T = "str" from ty)
  exact ⟨typeIs_str s z t,fun _ e=>nomatch e⟩
 | int i =>
  obtain ⟨t,rfl⟩:=r
  cases (show T = "int" from ty)
  exact ⟨typeIs_int s i t,fun _ e=>nomatch e⟩
 | ref p =>
  cases r
  rcases ty with ⟨rfl,xs,hq⟩ | ⟨rfl,o,hk,hc,hd⟩ | ⟨rfl,hk⟩ | ⟨rfl,S,n,hk⟩
  ·obtain ⟨its,_,pl,_⟩:=I.list hq
   refine ⟨pl.isList.typeIs,fun a e=>?_⟩
   cases e
   obtain ⟨o,n,e,c,hd,_⟩:=pl
   exact ⟨o,e,hd⟩
  ·refine ⟨⟨o,I.eV p o hk,hc⟩,fun a e=>?_⟩
   cases e
   exact ⟨o,I.eV _ o hk,hd⟩
  ·have z:∃ o,s.heap.get? p = some o∧o.ExactDict:=by
    rcases hk with ⟨kvs,hk⟩ | ⟨kvs,hk⟩
    ·obtain ⟨_,_,_,_,o,_,_,e,ex,_⟩:=I.hok p _ hk
     exact ⟨o,e,ex⟩
    ·obtain ⟨_,_,_,_,o,_,_,e,ex,_⟩:=I.hok p _ hk
     exact ⟨o,e,ex⟩
   obtain ⟨o,e,ex⟩:=z
   refine ⟨⟨o,e,ex.1⟩,fun a e2=>?_⟩
   cases e2
   exact ⟨o,e,ex.2.1⟩
  ·obtain ⟨o,_,_,_,e,ex,_⟩:=I.hok p _ hk
   refine ⟨⟨o,e,ex.1⟩,fun a e2=>?_⟩
   cases e2
   exact ⟨o,e,ex.2.1⟩
 | _=>exact False.elim ty
def Cg (K:PySem.W.Frag) (T:String) (r:V→List V→Hp→VK→Prop) (to:TE):TE:=fun σ H Q=>to σ H fun x H1=>By K T x H1∧r x [] H1 Q
def tBM (K:PySem.W.Frag) (T:String) (r:V→List V→Hp→VK→Prop) (to:TE) (t:TA):TE:=fun σ H Q=>to σ H fun x H1=>By K T x H1∧t σ H1 fun xs H2=>r x xs H2 Q
variable {o e:Expr} {es:List Expr} {to:TE} {t:TA} {name:Str} {apos cpos:Pos} {T id:String} {r:V→List V→Hp→VK→Prop}
theorem vf (pa:PlainAttrs T) (slot:Slot T name id) (hty:typeOf (.builtin id) = pure (.type "method_descriptor")) (hm:MtR X id r) (ho:PE X o to)
  (hbase:attributeBase o name X.env (eval o X.env) = eval o X.env:=by rfl) (hline:(apos.endLine == cpos.line) = true:=by rfl):PE X (.Call (.Attribute o name apos) [] [] cpos) (Cg X.K T r to):=by
 intro pins s σ H Q I h
 refine wpAny_Call_method0_late hbase hline (bx (ho pins s σ H _ I h) fun v s1 ⟨x,H1,I1,r1,ty,q1⟩=>?_)
 obtain ⟨h1,h2⟩:=uJ I1 r1 ty
 exact ⟨T,id,pa,slot,hty,h1,h2,Calls.callWith_builtin rfl (PySem.evalArgs_none (hm pins s1 σ H1 x [] v [] Q I1 r1 .nil q1))⟩
theorem gL (pa:PlainAttrs T) (slot:Slot T name id) (hty:typeOf (.builtin id) = pure (.type "method_descriptor")) (hm:MtR X id r) (ho:PE X o to) (ha:PA X (e :: es) t)
  (hbase:attributeBase o name X.env (eval o X.env) = eval o X.env:=by rfl)
  (hfew:((backTo cpos (starEach (e :: es) X.env)).all (fun x=>!x.1) && (backToKw cpos (keywordEach [] X.env)).all (fun x=>x.1.isSome)
   && decide ((e :: es).length + ([] : List Keyword).length + (if ([] : List Keyword).isEmpty then 0 else 1) < 30)) = true:=by rfl)
  (hline:(apos.endLine == cpos.line) = true:=by rfl) (hs:starEach (e :: es) X.env = (false,eval e X.env) :: starEach es X.env:=by rfl) (hplain:(backTo cpos (starEach es X.env)).any (·.1) = false:=by rfl) :
  PE X (.Call (.Attribute o name apos) (e :: es) [] cpos) (tBM X.K T r to t):=by
 intro pins s σ H Q I h
 refine wpAny_Call_method_late hbase hfew hline rfl (bx (ho pins s σ H _ I h) fun v s1 ⟨x,H1,I1,r1,ty,q1⟩=>?_)
 obtain ⟨h1,h2⟩:=uJ I1 r1 ty
 refine ⟨T,id,pa,slot,hty,h1,h2,?_⟩
 have hA:=ha cpos pins s1 σ H1 _ I1 q1
 rw [hs] at hA ⊢
 refine Calls.callWith_builtin (by show (false || (backTo cpos (starEach es X.env)).any (·.1)) = false;rw [hplain] <;> rfl) (Calls.evalArgs_plain ?_)
 exact bx hA fun us s2 ⟨vs,H2,I2,r2,q2⟩=>hm pins s2 σ H2 x vs v us Q I2 r1 r2 q2
end
end L2
namespace L2
open PySem PySem.Spec PyProof.Rows
def Cb (X:Cx) (id:String) (r:V→List V→Hp→VK→Prop):Prop :=
 ∀ (pins:List (Addr × Obj)) (s:Shared) (σ:St) (H:Hp) (x:V) (xs:List V) (v:Value) (us:List Value) (Q:VK),Inv X pins σ H s→RelV x v→Vals xs us→r x xs H Q →
  wpAny (model X.prog X.w) X.A (call (.builtin id) (v :: us)) (EP X pins σ Q) X.xe s
theorem Vals.one:∀ {x:V} {us:List Value},Vals [x] us→∃ u,us = [u]∧RelV x u
 | _,_,.cons r .nil=>⟨_,rfl,r⟩
theorem Vals.zero:∀ {us:List Value},Vals [] us→us = []
 | _,.nil=>rfl
theorem Vals.reverse {xs:List V} {us:List Value} (h:Vals xs us):Vals xs.reverse us.reverse:=by
 induction h with
 | nil=>exact .nil
 | cons r t ih=>rw [List.reverse_cons,List.reverse_cons];exact Vals.append ih (.cons r .nil)
theorem Vals.rep {xs:List V} {us:List Value} (h:Vals xs us):∀ k:Nat,Vals (List.replicate k xs).flatten (List.replicate k us).flatten
 | 0=>.nil
 | k + 1=>by
  rw [List.replicate_succ,List.replicate_succ,List.flatten_cons,List.flatten_cons]
  exact Vals.append h (Vals.rep h k)
theorem foldl_rep (its:List Value):∀ (k:Nat) (acc:List Value),
  List.foldl (fun x1 x2=>x1 ++ x2) acc.toArray (List.replicate k its.toArray) = (acc ++ (List.replicate k its).flatten).toArray
 | 0,acc=>by simp
 | k + 1,acc=>by
  have e:acc.toArray ++ its.toArray = (acc ++ its).toArray:=by simp
  have e2:(acc ++ its) ++ (List.replicate k its).flatten = acc ++ (List.replicate (k + 1) its).flatten:=by
   rw [List.replicate_succ,List.flatten_cons,List.append_assoc]
  rw [← e2,← foldl_rep its k (acc ++ its),← e,List.replicate_succ,List.foldl_cons]
section
variable {X:Cx} {pins:List (Addr × Obj)} {σ:St} {H:Hp} {s:Shared} {l b:Addr} {xs ys zs:List V}
theorem Inv.AG {its its' : List Value} {n:Nat} {f:Array Value→Array Value} {t' : Nat} (I:Inv X pins σ H s) (hH:H l = some (.lst xs))
  (e:s.heap.get? l = some { cls:=.type "list",data:=.seq its.toArray n }) (hf:f its.toArray = its'.toArray) (hv:Vals ys its') (hz:ys.length≤sizeLine) :
  Inv X pins σ (upd H l (.lst ys)) { s with heap:=s.heap.update l (Obj.mapSeq f),toks:=t' }:=by
 have q:=PySem.IsL.update e f
 rw [hf] at q
 refine I.write (x:=l) (e:=l) (by rw [hH];exact trivial) (.inl rfl) (fun b' u hb hu=>(Heap.get?_update_other s.heap (Obj.mapSeq f) (Ne.symm hb)).trans hu) ⟨_,q⟩ ?_
 exact ⟨hz,its',_,hv,q⟩
theorem Inv.xn {its:List Value} {t' : Nat} (I:Inv X pins σ H s) (hv:Vals ys its) (hz:ys.length≤sizeLine) :
  Inv X pins σ (upd H s.heap.objs.size (.lst ys)) { s with heap:=s.heap.push { cls:=.type "list",data:=.seq its.toArray },toks:=t' } :=
 I.laid (fun _ _ q=>Heap.get?_push_of_some _ q) (Nat.le_refl _) ⟨hz,its,0,hv,Heap.get?_push_size _ rfl⟩
theorem Inv.fresh (I:Inv X pins σ H s):H s.heap.objs.size = none:=I.hok.fresh (Nat.le_refl _)
theorem Inv.qg (I:Inv X pins σ H s) (hH:H l = some (.lst xs)):xs.length≤sizeLine∧∃ (its:List Value) (n:Nat),Vals xs its∧xs.length = its.length∧s.heap.get? l = some { cls:=.type "list",data:=.seq its.toArray n }:=by
 obtain ⟨z,its,n,r,e⟩:=I.hok l _ hH
 exact ⟨z,its,n,r,r.length,e⟩
theorem vN {n:Nat} (h:n≤sizeLine):Builtin.List.listTooLong n = false:=by
 unfold Builtin.List.listTooLong
 exact decide_eq_false (by lia)
end
section
variable {X:Cx}
def wU:V→List V→Hp→VK→Prop:=fun x vs H Q=>∃ l xs y,x = .ref l∧vs = [y]∧H l = some (.lst xs)∧xs.length < sizeLine∧Q .non (upd H l (.lst (xs ++ [y])))
theorem bE:Cb X "list.append" wU:=by
 intro pins s σ H x vs v us Q I rx rv h
 obtain ⟨l,xs,y,rfl,rfl,hH,hz,q⟩:=h
 cases rx
 obtain ⟨u,rfl,ru⟩:=rv.one
 obtain ⟨z,its,n,r,hl,e⟩:=I.qg hH
 refine call_meets F.slot_list_append ⟨_,e,rfl⟩ F.entry_list_append (F.args_list_append_2 _ _) (PySem.list_append l its.toArray n u (by rw [List.size_toArray];lia)) ⟨e,?_⟩
 refine ⟨.non,_,I.AG (its':=its ++ [u]) hH e (by simp) (r.append (.cons ru .nil)) ?_,rfl,q⟩
 rw [List.length_append,List.length_singleton]
 lia
def zI:V→List V→Hp→VK→Prop:=fun x vs H Q=>∃ l xs,x = .ref l∧vs = []∧H l = some (.lst xs)∧Q .non (upd H l (.lst []))
theorem tU:Cb X "list.clear" zI:=by
 intro pins s σ H x vs v us Q I rx rv h
 obtain ⟨l,xs,rfl,rfl,hH,q⟩:=h
 cases rx
 have hus:=rv.zero
 subst hus
 obtain ⟨z,its,n,r,hl,e⟩:=I.qg hH
 refine call_meets F.slot_list_clear ⟨_,e,rfl⟩ F.entry_list_clear (F.args_list_clear_1 _) (AutoSeq1.list_clear_list_0 l its.toArray n (by rw [List.size_toArray];lia)) ⟨e,?_⟩
 exact ⟨.non,_,I.AG (its':=[]) (ys:=[]) hH e rfl .nil (Nat.zero_le _),rfl,q⟩
def BU:R2:=fun x y H Q=>∃ l b xs zs,x = .ref l∧y = .ref b∧H l = some (.lst xs)∧H b = some (.lst zs)∧xs.length + zs.length≤sizeLine∧∀ p,H p = none→Q (.ref p) (upd H p (.lst (xs ++ zs)))
theorem jj:hX X (binaryOp .Add) BU:=by
 intro pins s σ H x y v u Q I rx ry h
 obtain ⟨l,b,xs,zs,rfl,rfl,hH,hB,hz,q⟩:=h
 cases rx
 cases ry
 obtain ⟨z,its,n,r,hl,e⟩:=I.qg hH
 obtain ⟨z2,its2,n2,r2,hl2,e2⟩:=I.qg hB
 refine PySem.P.add_list e e2 ?_ (by rw [List.size_toArray,List.size_toArray];lia)
 have ea:its.toArray ++ its2.toArray = (its ++ its2).toArray:=by simp
 rw [ea]
 exact ⟨.ref _,_,I.xn (t':=s.toks) (r.append r2) (by rw [List.length_append];lia),rfl,q _ I.fresh⟩
def BM:R2:=fun x y H Q=>∃ l k xs,x = .ref l∧y = .int k∧H l = some (.lst xs)∧-(2 ^ 63)≤k∧k < 2 ^ 63∧xs.length * k.toNat≤sizeLine ∧
 ∀ p,H p = none→Q (.ref p) (upd H p (.lst (List.replicate k.toNat xs).flatten))
theorem len_rep {α:Type} (xs:List α) (k:Nat):(List.replicate k xs).flatten.length = k * xs.length:=by
 induction k with
 | zero=>simp
 | succ k ih=>rw [List.replicate_succ,List.flatten_cons,List.length_append,ih,Nat.succ_mul,Nat.add_comm]
theorem zD:hX X (binaryOp .Mult) BM:=by
 intro pins s σ H x y v u Q I rx ry h
 obtain ⟨l,k,xs,rfl,rfl,hH,h1,h2,hz,q⟩:=h
 cases rx
 obtain ⟨t,rfl⟩:=ry
 obtain ⟨z,its,n,r,hl,e⟩:=I.qg hH
 have hlen:its.toArray.size * k.toNat≤sizeLine:=by rw [List.size_toArray,← hl];exact hz
 have hcap : ¬ its.toArray.size * k.toNat > (2 ^ 63 - 1) / 8:=by
  have:(sizeLine:Nat)≤(2 ^ 63 - 1) / 8:=by decide
  lia
 have hfit : ¬ (!Builtin.List.listFitsIndex k) = true:=by
  rw [fitsIndex_both h1 h2]
  exact Bool.false_ne_true
 have hlong : ¬ Builtin.List.listTooLong (its.toArray.size * k.toNat) = true:=by
  rw [vN hlen]
  exact Bool.false_ne_true
 have hnew:List.foldl (fun x1 x2=>x1 ++ x2) #[] (List.replicate (if its.toArray.isEmpty = true then 0 else k.toNat) its.toArray) = (List.replicate k.toNat its).flatten.toArray:=by
  have f0:∀ m:Nat,List.foldl (fun x1 x2=>x1 ++ x2) #[] (List.replicate m its.toArray) = (List.replicate m its).flatten.toArray:=fun m=>by
   have:=foldl_rep its m []
   rw [List.nil_append] at this
   exact this
  rw [f0]
  cases its with
  | nil=>simp
  | cons a r'=>rw [if_neg (by simp)]
 refine wpAny_binaryOp_repeat_ref (T := "list") (U := "int") (by decide) ⟨_,e,rfl⟩ (fun s'=>typeIs_int s' k t) noFill_list_mul F.fills_int_mul F.slot_int_rmul repeat_list F.slot_int_index.lookup
  (call_meets F.slot_int_rmul (typeIs_int s k t) F.entry_int_rmul (F.args_int_rmul_2 _ _) (int___rmul___int_list k t l its.toArray n)
   ⟨e,rfl,⟨_,e,rfl⟩,call_meets F.slot_list_mul ⟨_,e,rfl⟩ F.entry_list_mul (F.args_list_mul_2 _ _) (AutoListH.list___mul___list_int_3 l its.toArray n k t hfit hcap hlong) ⟨e,?_⟩⟩)
 rw [hnew]
 exact ⟨.ref _,_,I.xn (t':=s.toks) (r.rep k.toNat) (by rw [len_rep,Nat.mul_comm];exact hz),rfl,q _ I.fresh⟩
end
section
variable {prog:Program} {w:World} {A:Around} {E:Value→Shared→Prop} {s:Shared}
end
section
variable {X:Cx}
end
end L2
namespace L2
open PySem PySem.Spec PyProof.Rows
section
variable {κ:Type} [DecidableEq κ]
def cD (kvs:List (κ × V)) (k:κ):Option V:=(kvs.find? fun kv=>decide (kv.1 = k)).map (·.2)
def putK (kvs:List (κ × V)) (k:κ) (v:V):List (κ × V) :=
 if (kvs.any fun kv=>decide (kv.1 = k)) = true then kvs.map (fun kv=>if kv.1 = k then (kv.1,v) else kv) else kvs ++ [(k,v)]
theorem bM {p:κ × V} {r:List (κ × V)} {k:κ} (e:p.1 = k):cD (p :: r) k = some p.2:=by simp [cD,List.find?_cons,e]
theorem bD {p:κ × V} {r:List (κ × V)} {k:κ} (e : ¬ p.1 = k):cD (p :: r) k = cD r k:=by simp [cD,List.find?_cons,e]
theorem gR (k:κ):∀ kvs:List (κ × V),(kvs.any fun kv=>decide (kv.1 = k)) = (cD kvs k).isSome
 | []=>rfl
 | p :: r=>by
  rw [List.any_cons]
  by_cases e:p.1 = k
  ·simp only [bM e,decide_eq_true e,Bool.true_or,Option.isSome_some]
  ·rw [bD e,decide_eq_false e,Bool.false_or];exact gR k r
theorem lJ (k j:κ) (y:V):∀ kvs:List (κ × V),cD kvs k = none→cD (kvs ++ [(k,y)]) j = if j = k then some y else cD kvs j
 | [],_=>by
  by_cases e:k = j
  ·rw [if_pos e.symm];exact bM (p:=(k,y)) e
  ·rw [if_neg (fun z=>e z.symm)];exact bD (p:=(k,y)) e
 | p :: r,hn=>by
  rw [List.cons_append]
  have hk : ¬ p.1 = k:=fun z=>by rw [bM z] at hn;cases hn
  rw [bD hk] at hn
  have ih:=lJ k j y r hn
  by_cases e:p.1 = j
  ·rw [bM e,bM e,if_neg (fun z=>hk (e.trans z))]
  ·rw [bD e,bD e,ih]
theorem jA (kvs:List (κ × V)) (k:κ) (v:V):(putK kvs k v).length≤kvs.length + 1:=by
 unfold putK
 split
 ·rw [List.length_map];lia
 ·rw [List.length_append,List.length_cons,List.length_nil];lia
theorem fE {kvs:List (κ × V)} {k:κ} (v:V) (h:cD kvs k = none):putK kvs k v = kvs ++ [(k,v)]:=by
 unfold putK
 rw [gR,h]
 exact if_neg (by decide)
theorem gc.je {o:Option V} {u:Option Value} (r:gc o u):o.isSome = u.isSome:=by
 cases o with
 | none=>cases u with
  | none=>rfl
  | some _=>exact (show False from r).elim
 | some _=>cases u with
  | none=>exact (show False from r).elim
  | some _=>rfl
theorem KV.val {kvs:List (κ × V)} {vs:List (κ × Value)} (r:KV kvs vs) (k:κ):gc (cD kvs k) (valueAt vs k):=by
 unfold KV at r
 induction r with
 | nil=>exact True.intro
 | @cons p q ps qs h t ih =>
  obtain ⟨h1,h2⟩:=h
  by_cases e:p.1 = k
  ·have e' : q.1 = k:=h1.symm.trans e
   have b:valueAt (q :: qs) k = some q.2:=by simp [valueAt,List.find?_cons,e']
   rw [bM e,b];exact h2
  ·have e' : ¬ q.1 = k:=fun z=>e (h1.trans z)
   have b:valueAt (q :: qs) k = valueAt qs k:=by simp [valueAt,List.find?_cons,e']
   rw [bD e,b];exact ih
theorem KV.any {kvs:List (κ × V)} {vs:List (κ × Value)} (r:KV kvs vs) (k:κ):(kvs.any fun kv=>decide (kv.1 = k)) = vs.any fun kv=>decide (kv.1 = k):=by
 unfold KV at r
 induction r with
 | nil=>rfl
 | cons h t ih=>rw [List.any_cons,List.any_cons,ih,h.1]
theorem KV.zV {kvs:List (κ × V)} {vs:List (κ × Value)} (r:KV kvs vs) (k:κ) {y:V} {u:Value} (ry:RelV y u) :
  KV (kvs.map fun kv=>if kv.1 = k then (kv.1,y) else kv) (vs.map fun kv=>if kv.1 = k then (kv.1,u) else kv):=by
 unfold KV at r ⊢
 induction r with
 | nil=>exact .nil
 | @cons p q ps qs h t ih =>
  rw [List.map_cons,List.map_cons]
  refine .cons ?_ ih
  obtain ⟨h1,h2⟩:=h
  by_cases e:p.1 = k
  ·rw [if_pos e,if_pos (h1.symm.trans e)];exact ⟨h1,ry⟩
  ·rw [if_neg e,if_neg (fun z=>e (h1.trans z))];exact ⟨h1,h2⟩
theorem KV.put {kvs:List (κ × V)} {vs:List (κ × Value)} (r:KV kvs vs) (k:κ) {y:V} {u:Value} (ry:RelV y u):KV (putK kvs k y) (stored vs k u):=by
 unfold putK stored
 rw [r.any k]
 by_cases e:(vs.any fun kv=>decide (kv.1 = k)) = true
 ·rw [if_pos e,if_pos e];exact r.zV k ry
 ·rw [if_neg e,if_neg e];exact Paired.snoc r ⟨rfl,ry⟩
theorem KV.keys {kvs:List (κ × V)} {vs:List (κ × Value)} (r:KV kvs vs):kvs.map (·.1) = vs.map (·.1):=by
 unfold KV at r
 induction r with
 | nil=>rfl
 | cons h t ih=>rw [List.map_cons,List.map_cons,ih,h.1]
theorem KV.length {kvs:List (κ × V)} {vs:List (κ × Value)} (r:KV kvs vs):kvs.length = vs.length:=Paired.length r
end
theorem qY {P:Program} {w:World} {k:Key} {u:Value} (r:RelV (kV k) u):(aZ P w).is k u = true:=by
 cases k with
 | inl i=>obtain ⟨t,e⟩:=(show ∃ t,u = Value.int i t from r);subst e;exact n6 P w i t
 | inr x=>obtain ⟨t,e⟩:=(show ∃ t,u = Value.str x t from r);subst e;exact oj P w x t
theorem mf {P:Program} {w:World} : ∀ {ks:List Key} {us:List Value},Vals (ks.map kV) us→ItemsAre (aZ P w) ks us
 | [],_,r=>by rw [List.map_nil] at r;cases r;exact .nil
 | k :: ks,_,r=>by
  rw [List.map_cons] at r
  cases r with
  | cons h t=>exact .cons (qY h) (mf t)
abbrev KT (H:Hp):List (List Key × V)→List (List Key × Addr × Value)→Prop:=Paired fun p q=>p.1 = q.1∧H q.2.1 = some (.tup (p.1.map kV))∧RelV p.2 q.2.2
theorem KT.val {H:Hp} {kvs:List (List Key × V)} {xs:List (List Key × Addr × Value)} (r:KT H kvs xs) (k:List Key):gc (cD kvs k) ((atKey xs k).map (·.2)):=by
 induction r with
 | nil=>exact True.intro
 | @cons p q ps qs h t ih =>
  obtain ⟨h1,_,h2⟩:=h
  by_cases e:p.1 = k
  ·have e' : q.1 = k:=h1.symm.trans e
   have b:atKey (q :: qs) k = some q.2:=by simp [atKey,List.find?_cons,e']
   rw [bM e,b];exact h2
  ·have e' : ¬ q.1 = k:=fun z=>e (h1.trans z)
   have b:atKey (q :: qs) k = atKey qs k:=by simp [atKey,List.find?_cons,e']
   rw [bD e,b];exact ih
theorem KT.zV {H:Hp} {kvs:List (List Key × V)} {xs:List (List Key × Addr × Value)} (r:KT H kvs xs) (k:List Key) {y:V} {u:Value} (ry:RelV y u) :
  KT H (kvs.map fun kv=>if kv.1 = k then (kv.1,y) else kv) (xs.map (putAt k u)):=by
 induction r with
 | nil=>exact .nil
 | @cons p q ps qs h t ih =>
  rw [List.map_cons,List.map_cons]
  refine .cons ?_ ih
  obtain ⟨h1,h2,h3⟩:=h
  unfold putAt
  by_cases e:p.1 = k
  ·rw [if_pos e,if_pos (h1.symm.trans e)];exact ⟨h1,h2,ry⟩
  ·rw [if_neg e,if_neg (fun z=>e (h1.trans z))];exact ⟨h1,h2,h3⟩
theorem KT.put {H:Hp} {kvs:List (List Key × V)} {xs:List (List Key × Addr × Value)} (r:KT H kvs xs) (k:List Key) {b:Addr} {y:V} {u:Value} (hb:H b = some (.tup (k.map kV))) (ry:RelV y u) :
  KT H (putK kvs k y) (storedH xs k b u):=by
 have e:(kvs.any fun kv=>decide (kv.1 = k)) = (atKey xs k).isSome:=by
  rw [gR,(r.val k).je,Option.isSome_map]
 unfold putK storedH
 rw [e]
 by_cases q:(atKey xs k).isSome = true
 ·rw [if_pos q,if_pos q];exact r.zV k ry
 ·rw [if_neg q,if_neg q];exact Paired.snoc r ⟨rfl,hb,ry⟩
theorem KT.keeps {H H' : Hp} {kvs:List (List Key × V)} {xs:List (List Key × Addr × Value)} (r:KT H kvs xs) (ht:∀ b ys,H b = some (.tup ys)→H' b = some (.tup ys)):KT H' kvs xs :=
 Paired.dh r fun _ _ z=>⟨z.1,ht _ _ z.2.1,z.2.2⟩
section
variable {P:Program} {w:World} {H:Hp} {h:Heap} {a:Addr}
theorem yj {u:HO} (ok:ij P w H h) (e:Rd H a u):bo P w H h a u:=e.ok ok
theorem lY {kvs:List (Key × V)} (ok:ij P w H h) (e:Rd H a (.dK kvs)):kvs.length≤sizeLine∧(a == sysModules) = false∧∃ vs,KV kvs vs∧h.DictOf (aZ P w) a vs :=
 show bo P w H h a (.dK kvs) from yj ok e
theorem yE {kvs:List (Key × V)} (ok:ij P w H h) (e:H a = some (.dK kvs)):kvs.length≤sizeLine∧(a == sysModules) = false∧∃ vs,KV kvs vs∧h.DictOf (aZ P w) a vs:=lY ok (.inl e)
theorem kB {ks:List Key} (ok:ij P w H h) (e:H a = some (.tup (ks.map kV))):(tupleKind (aZ P w)).is h ks a:=by
 obtain ⟨_,its,r,o,h1,h2,n,h3⟩:=(show bo P w H h a (.tup (ks.map kV)) from ok a _ e)
 exact ⟨o,its.toArray,n,h1,h2,h3,by simpa using mf r⟩
theorem pe {kvs:List (List Key × V)} (ok:ij P w H h) (e:Rd H a (.dT kvs)):kvs.length≤sizeLine∧(a == sysModules) = false ∧
  ∃ xs,KT H kvs xs∧h.DictOfH (tupleKind (aZ P w)) a xs:=by
 obtain ⟨z,y,xs,r,o,es,ep,h1,h2,h3,h4,h5⟩:=(show bo P w H h a (.dT kvs) from yj ok e)
 refine ⟨z,y,xs,r,o,es,ep,h1,h2,h3,h4,fun x hx=>?_,h5⟩
 have all:∀ {l:List (List Key × V)} {m:List (List Key × Addr × Value)},KT H l m→∀ x ∈ m,(tupleKind (aZ P w)).is h x.1 x.2.1:=by
  intro l m q
  induction q with
  | nil=>intro x hx;exact nomatch hx
  | @cons p q ps qs hq t ih =>
   intro x hx
   rcases List.mem_cons.mp hx with e | hx
   ·subst e
    exact kB ok (by rw [← hq.1];exact hq.2.1)
   ·exact ih x hx
 exact all r x hx
theorem yi {kvs:List (List Key × V)} (ok:ij P w H h) (e:H a = some (.dT kvs)):kvs.length≤sizeLine∧(a == sysModules) = false ∧
  ∃ xs,KT H kvs xs∧h.DictOfH (tupleKind (aZ P w)) a xs:=pe ok (.inl e)
end
def eX (H:Hp) (a:Addr) (y:V) (r:Option V):Prop :=
 (∃ kvs k,Rd H a (.dK kvs)∧y = kV k∧r = cD kvs k)∨∃ kvs k b,Rd H a (.dT kvs)∧y = .ref b∧H b = some (.tup (k.map kV))∧r = cD kvs k
def jH (H:Hp) (a:Addr) (y v:V) (H' : Hp):Prop :=
 (∃ kvs k,H a = some (.dK kvs)∧y = kV k∧kvs.length < sizeLine∧H' = upd H a (.dK (putK kvs k v))) ∨
 ∃ kvs k b,H a = some (.dT kvs)∧y = .ref b∧H b = some (.tup (k.map kV))∧kvs.length < sizeLine∧H' = upd H a (.dT (putK kvs k v))
theorem eX.k {H:Hp} {a:Addr} {kvs:List (Key × V)} {k:Key} (e:H a = some (.dK kvs)):eX H a (kV k) (cD kvs k):=.inl ⟨kvs,k,.inl e,rfl,rfl⟩
theorem eX.t {H:Hp} {a b:Addr} {kvs:List (List Key × V)} {k:List Key} (e:H a = some (.dT kvs)) (eb:H b = some (.tup (k.map kV))):eX H a (.ref b) (cD kvs k):=.inr ⟨kvs,k,b,.inl e,rfl,eb,rfl⟩
theorem jH.k {H:Hp} {a:Addr} {kvs:List (Key × V)} {k:Key} {v:V} (e:H a = some (.dK kvs)) (hl:kvs.length < sizeLine):jH H a (kV k) v (upd H a (.dK (putK kvs k v))):=.inl ⟨kvs,k,e,rfl,hl,rfl⟩
theorem jH.t {H:Hp} {a b:Addr} {kvs:List (List Key × V)} {k:List Key} {v:V} (e:H a = some (.dT kvs)) (eb:H b = some (.tup (k.map kV))) (hl:kvs.length < sizeLine) :
  jH H a (.ref b) v (upd H a (.dT (putK kvs k v))):=.inr ⟨kvs,k,b,e,rfl,eb,hl,rfl⟩
section
variable {X:Cx} {pins:List (Addr × Obj)} {σ:St} {H:Hp} {s:Shared} {a:Addr} {y v:V} {u r:Value} {o:Option V} {A:Around} {E:Value→Shared→Prop}
theorem Inv.big (I:Inv X pins σ H s):sysModules < s.heap.objs.size:=by
 have h:mainGlobals < s.heap.objs.size:=(I.mod.glob.keeps I.bk).lt
 exact Nat.lt_trans (by decide) h
theorem sC {Q:Value→Shared→Prop} (hu:A.units + 1 < cLine) (I:Inv X pins σ H s) (g:eX H a y (some v)) (ry:RelV y u) (h:∀ w' s',Inv X pins σ H s'→RelV v w'→Q w' s') :
  wpAny (model X.prog X.w) A (getItem (.ref a) u) Q E s:=by
 rcases g with ⟨kvs,k,e,ey,l⟩ | ⟨kvs,k,b,e,ey,eb,l⟩
 ·subst ey
  obtain ⟨z,hd,vs,rel,dd⟩:=lY I.hok e
  obtain ⟨w',hw,rw'⟩:=gc.some_of (v:=v) (o:=valueAt vs k) (by rw [l];exact rel.val k)
  exact wpAny_getItem_of (qY ry) dd.mapOf hw (h w' _ (I.tok _) rw')
 ·subst ey
  cases (show u = Value.ref b from ry)
  obtain ⟨z,hd,xs,rel,dd⟩:=pe I.hok e
  obtain ⟨w',hw,rw'⟩:=gc.some_of (v:=v) (o:=(atKey xs k).map (·.2)) (by rw [l];exact rel.val k)
  obtain ⟨p,hp,hp2⟩:=Option.map_eq_some_iff.mp hw
  refine wpAny_getItem_heap (tupleKind_room_in1 hu) (kB I.hok eb) dd hp ?_
  rw [hp2]
  exact h w' _ (I.tok _) rw'
theorem xM {Q:Value→Shared→Prop} (hu:A.units + 1 < cLine) (I:Inv X pins σ H s) (g:eX H a y o) (ry:RelV y u) (h:∀ s',Inv X pins σ H s'→Q (.bool (!o.isSome)) s') :
  wpAny (model X.prog X.w) A (compareOp .NotIn u (.ref a)) Q E s:=by
 rcases g with ⟨kvs,k,e,ey,l⟩ | ⟨kvs,k,b,e,ey,eb,l⟩
 ·subst ey
  obtain ⟨z,hd,vs,rel,dd⟩:=lY I.hok e
  refine wpAny_notIn_of (qY ry) hd dd.mapOf ?_
  rw [← (rel.val k).je,← l]
  exact h _ (I.tok _)
 ·subst ey
  cases (show u = Value.ref b from ry)
  obtain ⟨z,hd,xs,rel,dd⟩:=pe I.hok e
  refine wpAny_notIn_heap (tupleKind_room_in1 hu) (kB I.hok eb) hd dd ?_
  have q:=(rel.val k).je
  rw [Option.isSome_map] at q
  rw [← q,← l]
  exact h _ (I.tok _)
theorem m6 {h' : Heap} {t' : Nat} {ob:HO} (I:Inv X pins σ H s) (mu:AS (H a)) (hs:Heap.SameBut a s.heap h') (he:∃ q,h'.get? a = some q) (new:bo X.prog X.w (upd H a ob) h' a ob) :
  Inv X pins σ (upd H a ob) { s with heap:=h',toks:=t' } :=
 I.write (x:=a) (e:=a) mu (.inl rfl) (fun b q hb z=>(hs.2 b hb).trans z) he new
theorem zL {P:Program} {w:World} {H' : Hp} {h' : Heap} {kvs:List (Key × V)} {vs:List (Key × Value)} (z:kvs.length≤sizeLine) (hd:(a == sysModules) = false) (rel:KV kvs vs) (dd:h'.DictOf (aZ P w) a vs) :
  bo P w H' h' a (.dK kvs):=⟨z,hd,vs,rel,dd⟩
theorem sW {H' : Hp} {Q:Unit→Shared→Prop} (hu:A.units + 1 < cLine) (I:Inv X pins σ H s) (g:jH H a y v H') (ry:RelV y u) (rv:RelV v r) (h:∀ s',Inv X pins σ H' s'→Q () s') :
  wpAny (model X.prog X.w) A (setItem (.ref a) u r) Q E s:=by
 rcases g with ⟨kvs,k,e,ey,l,eH⟩ | ⟨kvs,k,b,e,ey,eb,l,eH⟩
 ·subst ey eH
  obtain ⟨z,hd,vs,rel,dd⟩:=yE I.hok e
  have hz:vs.length≤sizeLine:=by rw [← rel.length];exact z
  have hl:(putK kvs k v).length≤sizeLine:=by have:=jA kvs k v;lia
  refine wpAny_setItem_pairs (hsz:=hz) (qY ry) dd fun h' dd' hs=>h _ ?_
  have he:∃ q,h'.get? a = some q:=let ⟨q,_,_,hq,_⟩:=dd';⟨q,hq⟩
  exact m6 I (by rw [e];exact True.intro) hs he (zL hl hd (rel.put k rv) dd')
 ·subst ey eH
  cases (show u = Value.ref b from ry)
  obtain ⟨z,hd,xs,rel,dd⟩:=yi I.hok e
  have hz:xs.length≤sizeLine:=by rw [← Paired.length rel];exact z
  have hl:(putK kvs k v).length≤sizeLine:=by have:=jA kvs k v;lia
  refine wpAny_setItem_heap (hsz:=hz) (tupleKind_room_in1 hu) (kB I.hok eb) dd fun h' dd' hs=>h _ ?_
  obtain ⟨q,es,ep,hq,h2,h3,h4,_,h5⟩:=dd'
  refine m6 I (by rw [e];exact True.intro) hs ⟨q,hq⟩ ⟨hl,hd,_,(rel.put k eb rv).keeps fun c ys ec=>?_,q,es,ep,hq,h2,h3,h4,h5⟩
  rw [af (aR ec e (fun z=>nomatch z))]
  exact ec
end
section
variable {X:Cx} {pins:List (Addr × Obj)} {σ:St} {H:Hp} {s:Shared} {a:Addr} {kvs:List (Key × V)} {k:Key} {u:Value} {A:Around} {E:Value→Shared→Prop}
end
def Bb (i:Expr):Prop:=∀ ov iv,subscripted i false ov iv = operate [ov,iv] (getItem ov iv)
theorem yf {prog:Program} {w:World} {A:Around} {E:Value→Shared→Prop} {s:Shared} {env:Env} {value slice:Expr} {pos:Pos} {T id:String} {Q:Value→Shared→Prop}
  (hl:typeLookup (.type T) "__getitem__" = pure (some (.builtin id))) (hs:Bb slice)
  (h:wpAny (model prog w) A (eval value env) (fun o s₁=>wpAny (model prog w) A (eval slice env) (fun i s₂=>s₂.TypeIs o T∧wpAny (model prog w) A (getItem o i) Q E s₂) E s₁) E s) :
  wpAny (model prog w) A (eval (.Subscript value slice pos) env) Q E s:=by
 refine Subscript_ (wpAny_mono h (fun o s₁ h₁=>wpAny_mono h₁ (fun i s₂ h₂=>?_) fun _ _ x=>x) fun _ _ x=>x)
 obtain ⟨hT,h₂⟩:=h₂
 unfold subscriptTail
 refine wpAny_bind ?_
 rw [getitemInPython_of_ne hT.not_modules]
 refine wpAny_bind (wpAny_specialOf hT hl ?_)
 have fin:wpAny (model prog w) A (subscripted slice false o i) (fun r s₃=>wpAny (model prog w) A (letTemporaryGo value o r >>= fun _=>pure r) Q E s₃) E s₂:=by
  rw [hs o i]
  exact wpAny_operating (wpAny_mono h₂ (fun r s₃ h₃=>wpAny_bind (wpAny_letTemporaryGo (wpAny_pure h₃))) fun _ _ x=>x)
 first
  | exact wpAny_pure (wpAny_bind fin)
  | exact wpAny_bind (wpAny_pure (wpAny_bind fin))
  | exact wpAny_bind fin
theorem nE {X:Cx} {pins:List (Addr × Obj)} {σ:St} {H:Hp} {s:Shared} {a:Addr} {y:V} {o:Option V} (I:Inv X pins σ H s) (g:eX H a y o):s.TypeIs (.ref a) "dict":=by
 rcases g with ⟨kvs,k,e,_,_⟩ | ⟨kvs,k,b,e,_,_,_⟩
 ·obtain ⟨_,_,vs,_,dd⟩:=lY I.hok e
  exact dd.typeIs
 ·obtain ⟨_,_,xs,_,dd⟩:=pe I.hok e
  exact dd.typeIs
def A1 (td ty:TE):TE:=fun σ H Q=>td σ H fun x H1=>ty σ H1 fun y H2=>∃ a v,x = .ref a∧eX H2 a y (some v)∧Q v H2
def ya (ty td:TE):TE:=fun σ H Q=>ty σ H fun y H1=>td σ H1 fun x H2=>∃ a o,x = .ref a∧eX H2 a y o∧Q (.bl (!o.isSome)) H2
def AN (td ty tv:TE):TS:=fun D σ H=>tv σ H fun v H1=>td σ H1 fun x H2=>ty σ H2 fun y H3=>∃ a H4,x = .ref a∧jH H3 a y v H4∧D.nx σ H4
section
variable {X:Cx} {o i e value:Expr} {pos pos' tpos:Pos} {td ty tv:TE}
theorem fg (hu:X.A.units + 1 < cLine) (ho:PE X o td) (hi:PE X i ty) (hs:Bb i):PE X (.Subscript o i pos) (A1 td ty):=by
 intro pins s σ H Q I h
 refine yf PySem.F.slot_dict_getitem.lookup hs (bx (ho pins s σ H _ I h) fun u s1 ⟨x,H1,I1,rx,q1⟩=>bx (hi pins s1 σ H1 _ I1 q1) fun iv s2 ⟨y,H2,I2,ry,a,v,ex,g,q2⟩=>?_)
 subst ex
 obtain rfl:u = Value.ref a:=rx
 exact ⟨nE I2 g,sC hu I2 g ry fun w' s3 I3 rw'=>⟨v,H2,I3,rw',q2⟩⟩
theorem gY (hu:X.A.units + 1 < cLine) (hi:PE X i ty) (ho:PE X o td):PC X .NotIn i o (ya ty td):=by
 intro pins s σ H Q I h
 refine bx (hi pins s σ H _ I h) fun iv s1 ⟨y,H1,I1,ry,q1⟩=>bx (ho pins s1 σ H1 _ I1 q1) fun u s2 ⟨x,H2,I2,rx,a,ov,ex,g,q2⟩=>?_
 subst ex
 obtain rfl:u = Value.ref a:=rx
 exact xM hu I2 g ry fun s3 I3=>⟨.bl (!ov.isSome),H2,I3,rfl,q2⟩
theorem hJ (hu:X.A.units + 1 < cLine) (ho:PE X o td) (hi:PE X i ty) (hv:PE X value tv) (hs:swapsWith value (some (.Subscript o i pos')) pos.line X.env = pure false) :
  PS X (.Assign [.Subscript o i pos'] value pos) (AN td ty tv):=by
 intro pins s σ H D I h
 refine wpAny_Assign_Subscript (bx (hv pins s σ H _ I h) fun r s1 ⟨v,H1,I1,rv,q1⟩=>bx (ho pins s1 σ H1 _ I1 q1) fun u s2 ⟨x,H2,I2,rx,q2⟩=>bx (hi pins s2 σ H2 _ I2 q2) fun iv s3 ⟨y,H3,I3,ry,a,H4,ex,g,q3⟩=>?_) hs
 subst ex
 obtain rfl:u = Value.ref a:=rx
 exact sW hu I3 g ry rv fun s4 I4=>⟨σ,H4,I4,q3⟩
end
theorem uR {P:Program} {w:World} {H:Hp} (h:Heap) (hb:sysModules < h.objs.size):bo P w H (h.push { cls:=.type "dict",data:=.dict #[] }) h.objs.size (.dK []) :=
 ⟨Nat.zero_le _,beq_eq_false_iff_ne.mpr (Ne.symm (Nat.ne_of_lt hb)),[],.nil,Heap.DictOf.new h⟩
theorem vg {P:Program} {w:World} {H:Hp} (h:Heap) (hb:sysModules < h.objs.size):bo P w H (h.push { cls:=.type "dict",data:=.dict #[] }) h.objs.size (.dT []) :=
 ⟨Nat.zero_le _,beq_eq_false_iff_ne.mpr (Ne.symm (Nat.ne_of_lt hb)),[],.nil,_,#[],0,Heap.get?_push_size _ rfl,⟨rfl,rfl,rfl⟩,rfl,rfl,List.nodup_nil⟩
def Ag:TE:=fun _ H Q=>∀ p,H p = none→Q (.ref p) (upd H p (.dK []))
section
variable {X:Cx} {pos:Pos}
theorem iT:PE X (.Dict [] [] pos) Ag:=fun pins s σ H Q I h =>
 wpAny_Dict_empty ⟨.ref s.heap.objs.size,_,I.laid (a:=s.heap.objs.size) (o:=.dK []) (t':=s.toks) (fun _ _ q=>Heap.get?_push_of_some _ q) (Nat.le_refl _) (uR s.heap I.big),rfl,h _ (I.hok.fresh (Nat.le_refl _))⟩
end
structure M1 (X:Cx) (o:Expr) (m:Str) (apos:Pos) (e:Expr) (cpos:Pos):Prop where
 base:attributeBase o m X.env (eval o X.env) = eval o X.env
 oF:((backTo cpos (starEach [e] X.env)).all (fun x=>!x.1) && (backToKw cpos (keywordEach [] X.env)).all (fun x=>x.1.isSome)
  && decide (([e] : List Expr).length + ([] : List Keyword).length + (if ([] : List Keyword).isEmpty then 0 else 1) < 30)) = true
 line:(apos.endLine == cpos.line) = true
 trees:backTo cpos (starEach [e] X.env) = [(false,eval e X.env)]
structure M2 (X:Cx) (o:Expr) (m:Str) (apos:Pos) (e f:Expr) (cpos:Pos):Prop where
 base:attributeBase o m X.env (eval o X.env) = eval o X.env
 oF:((backTo cpos (starEach [e,f] X.env)).all (fun x=>!x.1) && (backToKw cpos (keywordEach [] X.env)).all (fun x=>x.1.isSome)
  && decide (([e,f] : List Expr).length + ([] : List Keyword).length + (if ([] : List Keyword).isEmpty then 0 else 1) < 30)) = true
 line:(apos.endLine == cpos.line) = true
 trees:backTo cpos (starEach [e,f] X.env) = [(false,eval e X.env),(false,eval f X.env)]
def IsD (H:Hp) (a:Addr):Prop:=(∃ kvs,Rd H a (.dK kvs))∨∃ kvs,Rd H a (.dT kvs)
theorem zH {X:Cx} {pins:List (Addr × Obj)} {σ:St} {H:Hp} {s:Shared} {a:Addr} (I:Inv X pins σ H s) (d:IsD H a) :
  s.TypeIs (.ref a) "dict"∧(∀ b,Value.ref a = .ref b→∃ ob,s.heap.get? b = some ob∧ob.dict = none)∧(a == sysModules) = false:=by
 rcases d with ⟨kvs,e⟩ | ⟨kvs,e⟩
 ·obtain ⟨_,hd,vs,_,dd⟩:=lY I.hok e
  refine ⟨dd.typeIs,fun b q=>?_,hd⟩
  cases q
  obtain ⟨ob,_,_,h1,h2,_⟩:=dd
  exact ⟨ob,h1,h2.2.1⟩
 ·obtain ⟨_,hd,xs,_,dd⟩:=pe I.hok e
  refine ⟨dd.typeIs,fun b q=>?_,hd⟩
  cases q
  obtain ⟨ob,_,_,h1,h2,_⟩:=dd
  exact ⟨ob,h1,h2.2.1⟩
section
variable {X:Cx} {pins:List (Addr × Obj)} {σ:St} {H:Hp} {s:Shared} {a:Addr} {y d:V} {u r:Value} {o:Option V} {A:Around} {E:Value→Shared→Prop}
end
section
variable {X:Cx} {o e f:Expr} {apos cpos:Pos} {td ty tx:TE}
end
section
variable {X:Cx} {pins:List (Addr × Obj)} {σ:St} {H:Hp} {s:Shared} {a:Addr} {kvs:List (Key × V)} {A:Around} {E:Value→Shared→Prop}
end
section
variable {X:Cx} {pins:List (Addr × Obj)} {σ:St} {H:Hp} {s:Shared} {a:Addr} {y:V} {u:Value} {A:Around} {E:Value→Shared→Prop}
end
end L2
namespace Att
open PySem PySem.W PySem.Calls PyProof.Rows
theorem jI {P:Params} {h:Heap} : ∀ (ns:List Int) (vs:List Value),WellAll P h vs (ns.map WData.int)→IntsAre vs ns:=by
 intro ns
 induction ns with
 | nil =>
  intro vs w
  rw [List.map_nil] at w
  cases w
  exact .nil
 | cons n ns ih =>
  intro vs w
  rw [List.map_cons] at w
  cases w with
  | cons a b =>
   cases a
   exact .cons _ _ (ih _ b)
theorem tF {l:OpenLaw} {n:Nat} (hn:l.most = some n) {P:Params} {h:Heap} {args:List WData} {vals:List Value}
  (hpre:l.row.toRowW.claim.pre args = true) (hwl:WellAll P h vals args) :
  ∃ a vs ns,vals = [Value.ref a]∧args = [WData.list (ns.map WData.int)]∧h.get? a = some { cls:=.type "list",data:=.seq vs.toArray }∧IntsAre vs ns∧ns.length≤n:=by
 have hsh:WShape.hasAll [] args [.list .int] = true:=(pre_splitW hpre).1
 have hc:l.pre.holds [] { args:=args } = true:=(pre_splitW hpre).2
 obtain ⟨d,r,rfl,h1,h2⟩:=hasAllW_cons hsh
 obtain rfl:=hasAllW_nil h2
 obtain ⟨xs,rfl,h3⟩:=hasW_list h1
 obtain ⟨ns,rfl⟩:=items_int h3
 have hlen:ns.length≤n:=by
  unfold OpenLaw.pre at hc
  have h4:(WTm.not (.lt (.lit (.int (n:Int))) (.len (.arg 0)))).holds [] { args:=[.list (ns.map .int)] } = true:=by
   have h4:=(holds_andW hc).1
   rw [hn] at h4
   exact h4
  have h5:=condW_of h4 (w_not (w_lt w_lit (w_len_list (w_arg rfl))))
  rw [List.length_map] at h5
  refine Nat.le_of_not_lt fun q=>?_
  have q' : (n:Int) < ((ns.length:Nat):Int):=by lia
  first
   | (rw [decide_eq_true q'] at h5;exact absurd h5 (by decide))
   | (simp at h5;lia)
 cases hwl with
 | cons w1 w2 =>
  cases w2
  cases w1 with
  | list ho hall=>exact ⟨_,_,ns,rfl,rfl,ho,jI ns _ hall,hlen⟩
theorem rY (l:OpenLaw) (args:List WData):l.row.toRowW.claim.post args (.bool true) args = true :=
 postW_of (r:=l.row.toRowW) (X:=(true == true))
  (show WShape.has [] (.bool true) .bool = true by first | rfl | decide | simp [WShape.has,WShape.arms,WShape.armsAll])
  (show (WTm.eq .res (.lit (.bool true))).value [] { args:=args,res:=some (.bool true),after:=args } = some (.bool (true == true)) from w_eq_bool (w_res rfl) w_lit) rfl
theorem nY {l:OpenLaw} {n:Nat} {q:Program} {loose:List Str} {XP:(Str→Option Value)→Heap→Prop} {YP:World→Heap→Prop} {d:DefRec}
  (hn:l.most = some n) (hdf:d.params.defaults = [])
  (call:∀ (w:World) (s₀ s₁:Shared) (mg mb:Str→Option Value) (fa:Addr) (o:Obj) (pm cd doc:Value) (a:Addr) (vs:List Value) (ns:List Int),
   Ground q loose [] XP w s₀ mg mb s₁.heap→YP w s₁.heap →
   s₁.heap.get? fa = some o→o.data = .func (docDef d.name d.params d.body d.scope pm cd doc)→s₁.heap.CodeRec cd d.name→mg d.name = some (.ref fa) →
   s₁.heap.get? a = some { cls:=.type "list",data:=.seq vs.toArray }→IntsAre vs ns→ns.length≤n→s₁.gens = #[] →
   codeAny (model l.prog w) callerA (.call (.ref fa) ⟨[.ref a],[]⟩) (fun r s'=>r = .ok (.ret (.bool true))∧OldK s₁.heap s'.heap∧s'.os = s₁.os∧AllBare s'.gens) s₁) :
  WalkO q loose XP YP l.row.toRowW d [] (fun f vs=>PySem.call f vs):=by
 intro w s₀ s₁ mg mb G Y fa o pm cd doc dV kV ho hd hcd hD hmg hg args vals as hpre hlay hrd hwl hlo
 obtain rfl:dV = .none:=Dflts.none hD hdf
 obtain rfl:kV = .none:=Dflts.noKw hD
 obtain ⟨a,vs,ns,rfl,rfl,hobj,hints,hlen⟩:=tF hn hpre hwl
 refine enter_call (codeAny_mono (call w s₀ s₁ mg mb fa o pm cd doc a vs ns G Y ho (fd_plain hd) hcd hmg hobj hints hlen hg) fun r s' hq=>?_)
 obtain ⟨rfl,h2,h3,h4⟩:=hq
 exact ⟨.inl ⟨.bool true,.bool true,[],rfl,fun _=>rfl,.bool true,rY l _,fun _=>⟨List.Pairwise.nil,fun _ hm=>(nomatch hm)⟩⟩,h2,h3,h4⟩
section
variable {prog:Program} {w:World} {A:Around} {E:Value→Shared→Prop} {s:Shared} {K:Frag}
end
end Att
namespace L2
open PySem PySem.Spec PyProof.Rows
theorem me:∀ {vs:List Value} {ns:List Int},IntsAre vs ns→Vals (ns.map V.int) vs
 | _,_,.nil=>.nil
 | _,_,.cons n t h=>.cons ⟨t,rfl⟩ (me h)
def ze (H:Hp):Prop:=∀ b,H b = none∨∃ o xs,H b = some (.frz o (.lst xs))
theorem tM {P:Program} {w:World} {K:PySem.W.Frag} {mg mb:Str→Option Value} {CX:pA} {k:Nat} {fa a:Addr} {fd:FuncData} {x:Str} {sp:Sp} {s₁:Shared} {vs:List Value} {ns:List Int}
  (KX:K.In s₁.heap) (hns:s₁.heap.Ns mainGlobals mg) (hb:s₁.heap.Ns builtinsNs mb) (hbb:∀ x:Str,x≠"__name__"→mb x = bootBuiltins x) (hlim:s₁.heap.NoLimit) (hg:s₁.gens = #[])
  (ha:s₁.heap.get? a = some { cls:=.type "list",data:=.seq vs.toArray }) (hi:IntsAre vs ns) (hl:ns.length≤sizeLine) (hr:bX k callerA)
  (F:∀ base:Heap,K.In base→base.Ns mainGlobals mg→aE P w K mg base CX k fa fd [x] sp) (hbind:∀ (s:Shared) (u:Value),BindsTo s fd ⟨[u],[]⟩ [(x,u)])
  (hsp:∀ H:Hp,ze H→aY K H a (ns.map V.int)→sp [.ref a] H (fun v _=>v = .bl true) fun _ _ _=>False)
  (hCX:∀ H e s',CX [] H s₁ (fun _ _ _=>False) e s'→False) :
  codeAny (model P w) callerA (.call (.ref fa) ⟨[.ref a],[]⟩) (fun r s'=>r = .ok (.ret (.bool true))∧OldK s₁.heap s'.heap∧s'.os = s₁.os∧AllBare s'.gens) s₁:=by
 have rv:=me hi
 have lenV:=hi.length
 have core:∀ H:Hp,ze H→aY K H a (ns.map V.int)→ij P w H s₁.heap→(∀ b,H b≠none→b = a)→(H a≠none→K.lookup a = none) →
   codeAny (model P w) callerA (.call (.ref fa) ⟨[.ref a],[]⟩) (fun r s'=>r = .ok (.ret (.bool true))∧OldK s₁.heap s'.heap∧s'.os = s₁.os∧AllBare s'.gens) s₁:=by
  intro H hO hS hok hA hK
  have base_of:∀ {b:Addr} {o:Obj},s₁.heap.get? b = some o→H b = none→(mQ s₁.heap H).get? b = some o:=fun e n=>vF e n
  have noA:∀ {b:Addr} {o:Obj} {es:Array DictEntry} {ep:Nat},s₁.heap.get? b = some o→o.data = .dict es ep→H b = none:=fun {b o es ep} e d=>by
   cases q:H b with
   | none=>rfl
   | some u =>
    have e' : b = a:=hA b (by rw [q];simp)
    subst e'
    rw [ha] at e;cases e
    have d' : Data.seq vs.toArray _ = Data.dict es ep:=d
    cases d'
  have nsK:∀ {b:Addr} {m:Str→Option Value},s₁.heap.Ns b m→(mQ s₁.heap H).Ns b m:=fun {b m} ⟨o,es,ep,e,d,r⟩=>⟨o,es,ep,base_of e (noA e d),d,r⟩
  have hKb:K.In (mQ s₁.heap H):=fun b o e=>base_of (KX b o e) (by
   cases q:H b with
   | none=>rfl
   | some u =>
    have e' : b = a:=hA b (by rw [q];simp)
    subst e'
    rw [hK (by rw [q];simp)] at e;cases e)
  have hM:Mod K mg (mQ s₁.heap H):=⟨hKb,nsK hns,⟨mb,nsK hb,hbb⟩,let ⟨mc,h1,h2⟩:=hlim;⟨mc,nsK h1,h2⟩⟩
  have e0:qG P w K mg (mQ s₁.heap H) callerA [] s₁ H:=⟨rfl,hM,fun b o e=>xC e,Nat.le_of_eq (sM _ _),trivial,fun b hb=>absurd (show b ∈ ([] : List Addr) from hb) (by simp),hok,.of_eq hg⟩
  refine codeAny_mono ((F _ hKb (nsK hns)).run callerA [] s₁ H ⟨[.ref a],[]⟩ [.ref a] [.ref a] _ _ hr e0 (hbind s₁ (.ref a)) (.cons rfl .nil) (hsp H hO hS)) fun r s' h=>?_
  cases r with
  | error e=>exact (hCX H e s' h).elim
  | ok fl =>
   cases fl with
   | next=>exact False.elim h
   | brk=>exact False.elim h
   | cont=>exact False.elim h
   | ret u =>
    obtain ⟨v,H',os,bare,un,hok',r',q⟩:=h
    have q' : v = .bl true:=q
    subst q'
    obtain rfl:u = Value.bool true:=r'
    refine ⟨rfl,OldK.of_keep fun b o e=>?_,os,bare⟩
    cases q:H b with
    | none=>exact un.keep b o e q (by intro z;exact absurd (show b ∈ ([] : List Addr) from z) (by simp)) (by simp)
    | some u =>
     rcases hO b with z | ⟨ob,xs,z⟩
     ·rw [q] at z;cases z
     ·have z2:=un.frzs b ob _ z
      obtain ⟨e1,_⟩:=hok b _ z
      obtain ⟨e2,_⟩:=hok' b _ z2
      rw [e] at e1;cases e1
      exact e2
 cases hk:K.lookup a with
 | some o =>
  have e:=KX a o hk
  rw [ha] at e
  cases e
  refine core (fun _=>none) (fun _=>.inl rfl) (.inr ⟨_,vs.toArray,_,hk,rfl,rfl,rfl,by rw [List.size_toArray,lenV];exact hl,by simpa using rv⟩) (fun b u z=>by have z' : (none:Option HO) = some u:=z;cases z') (fun b z=>absurd rfl z) fun z=>absurd rfl z
 | none =>
  refine core (fun b=>if b = a then some (.frz { cls:=.type "list",data:=.seq vs.toArray } (.lst (ns.map V.int))) else none) (fun b=>?_) (.inl (.inr ⟨{ cls:=.type "list",data:=.seq vs.toArray },if_pos rfl⟩)) (fun b u z=>?_) (fun b z=>?_) fun _=>hk
  ·by_cases hb:b = a
   ·exact .inr ⟨_,_,if_pos hb⟩
   ·exact .inl (if_neg hb)
  ·by_cases hb:b = a
   ·have z':=(if_pos hb).symm.trans z
    cases z'
    subst hb
    exact ⟨ha,by rw [List.length_map];exact hl,vs,_,rv,ha⟩
   ·have z':=(if_neg hb).symm.trans z
    cases z'
  ·by_cases hb:b = a
   ·exact hb
   ·exact absurd (if_neg hb) z
end L2
namespace L2
open PySem PySem.Spec PyProof.Rows
theorem xg {l:PySem.W.OpenLaw} {n k:Nat} {q:Program} {loose:List Str} {XP:(Str→Option Value)→Heap→Prop} {YP:World→Heap→Prop} {d:DefRec} {K:Params→PySem.W.Frag} {CX:World→pA} {sp:World→Sp} {x:Str}
  (hn:l.most = some n) (hn2:n≤sizeLine) (hdf:d.params.defaults = []) (hr:bX k callerA)
  (hY:∀ (w:World) (h:Heap),YP w h→(K w.params).In h)
  (F:∀ (w:World) (mg:Str→Option Value) (fa:Addr) (h:Heap),(K w.params).In h→h.Ns mainGlobals mg→mg d.name = some (.ref fa) →
   ∃ fd:FuncData,(∀ (s:Shared) (u:Value),BindsTo s fd ⟨[u],[]⟩ [(x,u)]) ∧
    ∀ base:Heap,(K w.params).In base→base.Ns mainGlobals mg→aE l.prog w (K w.params) mg base (CX w) k fa fd [x] (sp w))
  (hsp:∀ (w:World) (H:Hp) (a:Addr) (ns:List Int),ns.length≤n→ze H→aY (K w.params) H a (ns.map V.int)→sp w [.ref a] H (fun v _=>v = .bl true) fun _ _ _=>False)
  (hCX:∀ (w:World) (H:Hp) (s:Shared) (e:Value) (s' : Shared),CX w [] H s (fun _ _ _=>False) e s'→False) :
  PySem.W.WalkO q loose XP YP l.row.toRowW d [] (fun f vs=>PySem.call f vs):=by
 refine Att.nY hn hdf fun w s₀ s₁ mg mb fa o pm cd doc a vs ns G Y ho hd hcd hmg hobj hints hlen hg=>?_
 have KX:=hY w _ Y
 obtain ⟨fd,hb,hF⟩:=F w mg fa _ KX G.T.g hmg
 exact tM KX G.T.g G.T.b G.T.builtins G.T.nolimit hg hobj hints (Nat.le_trans hlen hn2) hr hF hb (fun H hO hS=>hsp w H a ns hlen hO hS) fun H e s'=>hCX w H s₁ e s'
end L2
namespace L2
open PySem PySem.Spec PyProof.Rows
def inClass (s:Stmt) (j:Nat):Stmt:=match s with
 | .ClassDef _ _ _ body _ _ _ _ _ _ _=>body.getD j (.Pass ⟨0,0,0,0⟩)
 | _=>.Pass ⟨0,0,0,0⟩
def aF (s:Stmt):Arguments:=match s with
 | .FunctionDef _ a _ _ _ _ _ _ _ _=>a
 | _=>{ posonlyargs:=[],args:=[],vararg:=none,kwonlyargs:=[],kw_defaults:=[],kwarg:=none,defaults:=[] }
def aD (s:Stmt):List Stmt:=match s with
 | .FunctionDef _ _ b _ _ _ _ _ _ _=>b
 | _=>[]
def ai (s:Stmt):Scope:=match s with
 | .FunctionDef _ _ _ _ _ _ sc _ _ _=>sc
 | _=>{ kind:=.function,names:=[],isGenerator:=false,isCoroutine:=false }
abbrev bQ:pA:=fun _ _ _ _ _ _=>False
abbrev E0:XK:=fun _ _ _=>False
theorem aX {X:Cx} : Passes bQ X E0:=fun _ _ _ _ _ _ _ h=>h.elim
structure eZ (K:PySem.W.Frag) (x qual:Str) (st:Stmt) (f:Addr) (fd:FuncData):Prop where
 ex:∃ (oc:Value) (od:Option Addr) (kV doc pm:Value) (an:Option Addr) (cdv ct:Value) (osl:Array (Option Value)),
  fd = PySem.W.fnOf x qual (aF st) (aD st) (ai st) .none kV doc pm an cdv ct∧K.lookup f = some ⟨oc,od,.func fd,osl⟩∧PySem.W.codeIn K cdv qual = true
 kp:PySem.W.keepIn K (.ref f) = true
section
variable {P:Program} {w:World} {K:PySem.W.Frag} {mg:Str→Option Value} {base:Heap}
theorem eZ.ok {x qual:Str} {st:Stmt} {f:Addr} {fd:FuncData} {N ps:List Str} {k:Nat} {sp:Sp} (F:eZ K x qual st f fd) (S:aI N ps (ai st)) (len:∀ vs H Q E,sp vs H Q E→vs.length = ps.length)
  (hbody:∀ (cdv:Value) (A:Around) (outer:List Env) (s:Shared) (H:Hp) (vs:List V) (Q:VK) (E:XK),bX k (A.deeper (envOfC qual (ai st) s.heap.objs.size f cdv))→sp vs H Q E →
   ∃ t,nv (eU bQ P w K mg base N qual (ai st) f cdv A outer s H E).qB (aD st) t∧t { nx:=fun _ H'=>Q .non H',rt:=Q } (start N vs) H):aE P w K mg base bQ (k + 1) f fd ps sp:=by
 obtain ⟨oc,od,kV,doc,pm,an,cdv,ct,osl,rfl,lk,hcd⟩:=F.ex
 refine yn lk hcd S len fun A outer s H vs Q E hr hsp=>?_
 obtain ⟨t,h,q⟩:=hbody cdv A outer s H vs Q E hr hsp
 exact ⟨t,h.qB,q⟩
theorem eZ.binds {x qual:Str} {st:Stmt} {f:Addr} {fd:FuncData} {ps:List Str} (F:eZ K x qual st f fd)
  (h:∀ (kV doc pm:Value) (an:Option Addr) (cdv ct:Value) (us:List Value),us.length = ps.length→bindArgs (PySem.W.fnOf x qual (aF st) (aD st) (ai st) .none kV doc pm an cdv ct) ⟨us,[]⟩ = pure (ps.zip us)):Binds K fd ps []:=by
 obtain ⟨oc,od,kV,doc,pm,an,cdv,ct,osl,rfl,lk,hcd⟩:=F.ex
 exact .all (h kV doc pm an cdv ct)
theorem bb {x qual:Str} {st:Stmt} {f:Addr} {oc:Value} {od an:Option Addr} {osl:Array (Option Value)} {kV doc pm cdv ct:Value} (l:K.lookup f = some ⟨oc,od,.func (PySem.W.fnOf x qual (aF st) (aD st) (ai st) .none kV doc pm an cdv ct),osl⟩)
  (c:PySem.W.codeIn K cdv qual = true) (k:PySem.W.keepIn K (.ref f) = true):eZ K x qual st f (PySem.W.fnOf x qual (aF st) (aD st) (ai st) .none kV doc pm an cdv ct):=⟨⟨oc,od,kV,doc,pm,an,cdv,ct,osl,rfl,l,c⟩,k⟩
end
theorem gm {A:Around} {k:Nat} (hr:bX k A):A.units + 1 < cLine:=Nat.lt_of_le_of_lt (Nat.add_le_add_left (by decide:1≤64) _) hr.units
theorem jh {n:Nat} (h:n≤1000):n < sizeLine:=Nat.lt_of_le_of_lt h (by decide)
section
variable {X:Cx}
theorem pv (i:Nat) {x:Str} {pos:Pos} (hN:X.N[i]? = some x:=by rfl) (hv:Bn X.env.scope x:=by first | exact Or.inl rfl | exact Or.inr (Or.inl rfl) | exact Or.inr (Or.inr rfl)) (hd:(x == ("__debug__" : Str)) = false:=by decide)
  (hcd:(x == ("__classdict__" : Str)) = false:=by decide):PE X (.Name x pos) (A8 i):=z0 hN hv hd hcd
end
theorem bz {A B:Prop} (h:B):if false = true then A else B:=by
 rw [if_neg Bool.false_ne_true]
 exact h
theorem bN {A B:Prop} (h:A):if true = true then A else B:=by
 rw [if_pos rfl]
 exact h
theorem vS {c A B:Prop} [Decidable c] (h1:c→A) (h2 : ¬ c→B):if c then A else B:=by
 by_cases h:c
 ·rw [if_pos h]
  exact h1 h
 ·rw [if_neg h]
  exact h2 h
theorem Aw {c A B:Prop} [Decidable c] (hc:c) (h:B):if (!decide c) = true then A else B:=by
 rw [decide_eq_true hc]
 exact bz h
def au (H H' : Hp):Prop:=∀ b o,H b = some o→H' b = some o
theorem au.refl (H:Hp):au H H:=fun _ _ h=>h
theorem au.trans {H H1 H2:Hp} (a:au H H1) (b:au H1 H2):au H H2:=fun c o h=>b c o (a c o h)
theorem au.free {H H' : Hp} (e:au H H') {l:Addr} (h:H' l = Option.none):H l = Option.none:=by
 cases q:H l with
 | none=>rfl
 | some o =>
  rw [e l o q] at h
  cases h
theorem au.seq {K:PySem.W.Frag} {H H' : Hp} {a:Addr} {xs:List V} (e:au H H') (h:aY K H a xs):aY K H' a xs:=by
 rcases h with (h | ⟨o,h⟩) | h
 ·exact .inl (.inl (e _ _ h))
 ·exact .inl (.inr ⟨o,e _ _ h⟩)
 ·exact .inr h
end L2
namespace L2
open PySem PySem.Spec PyProof.Rows
section
variable {X:Cx}
end
section
variable {κ:Type} [DecidableEq κ]
theorem qU {kvs:List (κ × V)} {k:κ} {v:V} (h:cD kvs k = some v):k ∈ kvs.map (·.1):=by
 have q:(kvs.any fun kv=>decide (kv.1 = k)) = true:=by
  rw [gR,h]
  all_goals rfl
 obtain ⟨p,hp,e⟩:=List.any_eq_true.mp q
 exact List.mem_map.mpr ⟨p,hp,of_decide_eq_true e⟩
end
end L2
end
section
namespace L2
open PySem PySem.Spec PyProof.Rows
def ib (env:Env):List (Str × NameKind)→List (Str × Addr)→List (Str × Addr)
 | [],cs=>cs
 | (n,k) :: r,cs=>ib env r (if k == .free then (n,(env.cells.lookup n).getD 0) :: cs else cs)
theorem j7 {env:Env} : ∀ (names:List (Str × NameKind)) (cs:List (Str × Addr)),(∀ x ∈ names,x.2 = .free→∃ c,env.cells.lookup x.1 = some c) →
  (forIn (m:=Sem) names cs fun x r=>if (x.2 == NameKind.free) = true then do let a ← cellOf env x.1;pure (ForInStep.yield ((x.1,a) :: r)) else pure (ForInStep.yield r)) = pure (ib env names cs)
 | [],cs,_=>rfl
 | (n,k) :: r,cs,h=>by
  have hr:=fun cs'=>j7 (env:=env) r cs' fun x hx=>h x (List.mem_cons_of_mem _ hx)
  rw [List.forIn_cons]
  by_cases hk:k = .free
  ·subst hk
   obtain ⟨c,hc⟩:=h (n,.free) List.mem_cons_self rfl
   have e1:cellOf env n = pure c:=by unfold cellOf;rw [hc]
   simp only [beq_self_eq_true,if_true,e1,pure_bind,hr,ib,hc,Option.getD_some]
  ·have hb:(k == NameKind.free) = false:=by simpa using hk
   simp only [hb,Bool.false_eq_true,if_false,pure_bind,hr,ib]
theorem j5 {env:Env} {sc:Scope} (h:∀ x ∈ sc.names,x.2 = .free→∃ c,env.cells.lookup x.1 = some c):closureFor sc env = pure (ib env sc.names []):=by
 unfold closureFor
 have e:=j7 (env:=env) sc.names [] h
 simp only [bind_pure]
 exact e
theorem bV {env:Env} : ∀ (names:List (Str × NameKind)) (cs:List (Str × Addr)),(∀ x ∈ names,x.2 = .free→∃ c,env.cells.lookup x.1 = some c) →
  (∀ x c,cs.lookup x = some c→env.cells.lookup x = some c)→∀ x c,(ib env names cs).lookup x = some c→env.cells.lookup x = some c
 | [],cs,_,h=>h
 | (n,k) :: r,cs,hf,h=>by
  intro x c e
  unfold ib at e
  refine bV r _ (fun y hy=>hf y (List.mem_cons_of_mem _ hy)) ?_ x c e
  intro y d q
  by_cases hk:(k == NameKind.free) = true
  ·rw [if_pos hk] at q
   obtain ⟨c',hc'⟩:=hf (n,k) List.mem_cons_self (by simpa using hk)
   have hc' : env.cells.lookup n = some c':=hc'
   rw [List.lookup_cons] at q
   by_cases hy:y = n
   ·subst hy
    simp only [beq_self_eq_true] at q
    rw [hc'] at q ⊢
    exact q
   ·have:(y == n) = false:=by simpa using hy
    rw [this] at q
    exact h y d q
  ·rw [if_neg hk] at q
   exact h y d q
theorem kj {env:Env} {x:Str} : ∀ (names:List (Str × NameKind)) (cs:List (Str × Addr)),(∃ c,cs.lookup x = some c)→∃ c,(ib env names cs).lookup x = some c
 | [],cs,h=>h
 | (n,k) :: r,cs,h=>by
  unfold ib
  refine kj r _ ?_
  by_cases hk:(k == NameKind.free) = true
  ·rw [if_pos hk,List.lookup_cons]
   cases hy:x == n with
   | true=>exact ⟨_,rfl⟩
   | false=>exact h
  ·rw [if_neg hk];exact h
theorem jY {env:Env} {x:Str} : ∀ (names:List (Str × NameKind)) (cs:List (Str × Addr)),(x,NameKind.free) ∈ names→∃ c,(ib env names cs).lookup x = some c
 | [],cs,h=>by simp at h
 | (n,k) :: r,cs,h=>by
  unfold ib
  rcases List.mem_cons.mp h with e | h
  ·cases e
   refine kj r _ ?_
   rw [if_pos (by rfl),List.lookup_cons]
   simp
  ·exact jY r _ h
theorem eI {env:Env} : ∀ {names:List (Str × NameKind)} {x:Str} {k:NameKind},
  (names.map fun (n,k)=>if (k == NameKind.free && env.scope.kind == .function && env.kindOf n == some .cell) then (n,NameKind.cell) else (n,k)).lookup x = some k →
   ∃ k',(x,k') ∈ names∧(k = k'∨(k = .cell∧k' = .free))
 | [],_,_,h=>by simp at h
 | (n,k₀) :: r,x,k,h=>by
  rw [List.map_cons] at h
  by_cases hc:(k₀ == NameKind.free && env.scope.kind == .function && env.kindOf n == some .cell) = true
  ·simp only [hc,if_true,List.lookup_cons] at h
   cases hx:x == n with
   | true =>
    rw [hx] at h
    have:x = n:=by simpa using hx
    subst this
    have hf:k₀ = .free:=by
     have h1:=(Bool.and_eq_true_iff.mp (Bool.and_eq_true_iff.mp hc).1).1
     simpa using h1
    subst hf
    cases h
    exact ⟨_,List.mem_cons_self,.inr ⟨rfl,rfl⟩⟩
   | false =>
    rw [hx] at h
    obtain ⟨k',m,q⟩:=eI (env:=env) h
    exact ⟨k',List.mem_cons_of_mem _ m,q⟩
  ·simp only [if_neg hc,List.lookup_cons] at h
   cases hx:x == n with
   | true =>
    rw [hx] at h
    have:x = n:=by simpa using hx
    subst this
    cases h
    exact ⟨_,List.mem_cons_self,.inl rfl⟩
   | false =>
    rw [hx] at h
    obtain ⟨k',m,q⟩:=eI (env:=env) h
    exact ⟨k',List.mem_cons_of_mem _ m,q⟩
theorem cL {env:Env} : ∀ {names:List (Str × NameKind)} {x:Str},names.lookup x = some .free →
  (names.map fun (n,k)=>if (k == NameKind.free && env.scope.kind == .function && env.kindOf n == some .cell) then (n,NameKind.cell) else (n,k)).lookup x = some .cell ∨
  (names.map fun (n,k)=>if (k == NameKind.free && env.scope.kind == .function && env.kindOf n == some .cell) then (n,NameKind.cell) else (n,k)).lookup x = some .free
 | [],_,h=>by simp at h
 | (n,k₀) :: r,x,h=>by
  rw [List.map_cons]
  rw [List.lookup_cons] at h
  by_cases hc:(k₀ == NameKind.free && env.scope.kind == .function && env.kindOf n == some .cell) = true
  ·simp only [hc,if_true,List.lookup_cons]
   cases hx:x == n with
   | true=>exact .inl rfl
   | false=>rw [hx] at h;exact cL (env:=env) h
  ·simp only [if_neg hc,List.lookup_cons]
   cases hx:x == n with
   | true=>rw [hx] at h;exact .inr h
   | false=>rw [hx] at h;exact cL (env:=env) h
structure BX where
 C:Addr
 s:Shared
 H:Hp
 fp:List Addr
abbrev jb (X:Cx) (sc:Scope) (N:List Str) (z:BX):Cx :=
  { prog:=X.prog,w:=X.w,K:=X.K,mg:=X.mg,base:=X.base,A:=X.A,N:=N,s₀:=z.s,H₀:=z.H,env:=compEnvC sc (ib X.env sc.names []) z.C X.env,outer:=X.stack,stack:=X.stack,ex:=z.fp,fn:=fun _=>false,
    calm:=X.calm,pn:=[],xe:=fun _ _=>False }
structure cH (X:Cx) (N:List Str) (n:Nat) (ci:List Nat) (sc:Scope):Prop where
 kind:sc.kind = .function
 nocell:∀ y ∈ sc.names,y.2≠.cell
 loc:∀ y ∈ sc.names,y.2 = .local→sc.names.lookup y.1 = some .local
 fr:∀ y ∈ sc.names,y.2 = .free→X.env.scope.names.lookup y.1 = some .cell∨X.env.scope.names.lookup y.1 = some .free
 len:N.length = n + ci.length
 caps:∀ (j i:Nat),ci[j]? = some i→∃ x,N[n + j]? = some x∧X.N[i]? = some x∧sc.names.lookup x = some NameKind.free
def oz (n:Nat) (ci:List Nat) (σ:St):St:=List.replicate n none ++ ci.map fun i=>(σ[i]?).getD none
theorem rj (n:Nat) (ci:List Nat) (σ:St):(oz n ci σ).length = n + ci.length:=by simp [oz]
section
variable {X:Cx} {N:List Str} {n:Nat} {ci:List Nat} {sc:Scope} {pins:List (Addr × Obj)} {σ:St} {H:Hp} {s:Shared} {fp:List Addr}
theorem cH.kW (S:cH X N n ci sc) (ok:X.Ok):∀ x ∈ sc.names,x.2 = .free→∃ c,X.env.cells.lookup x.1 = some c:=fun x hx hf=>ok.has x.1 (S.fr x hx hf)
theorem pQ (S:cH X N n ci sc) (I:Inv X pins σ H s) (hf:∀ b ∈ fp,gA X pins H b) (ho:∀ b ∈ fp,∃ o,s.heap.get? b = some o):(jb X sc N ⟨s.heap.objs.size,s,H,fp⟩).Ok where
 mod:=I.ok.mod
 kind:=S.kind
 glob:=I.ok.glob
 blt:=I.ok.blt
 above:=Nat.le_refl _
 inj:=fun x y c h1 h2=>I.ok.inj x y c (bV _ _ (S.kW I.ok) (by simp) x c h1) (bV _ _ (S.kW I.ok) (by simp) y c h2)
 has:=fun x hx=>by
  have key:∀ k,(relabel sc X.env).names.lookup x = some k→(k = .cell∨k = .free)→∃ c,(ib X.env sc.names []).lookup x = some c:=fun k hk hkk=>by
   obtain ⟨k',m,q⟩:=eI hk
   have hfree:k' = .free:=by
    rcases q with rfl | ⟨_,q⟩
    ·rcases hkk with e | e
     ·exact absurd e (S.nocell _ m)
     ·exact e
    ·exact q
   subst hfree
   exact jY _ _ m
  rcases hx with hx | hx
  ·exact key _ hx (.inl rfl)
  ·exact key _ hx (.inr rfl)
 cab:=fun x c h=>by cases h
 hd:=fun h=>I.ok.hd h
 frames:=I.ok.frames
 stk:=.inl rfl
 exf:=fun b hb=>by
  obtain ⟨o,e⟩:=ho b hb
  refine ⟨Nat.ne_of_lt (Heap.lt_size e),fun x c h=>?_⟩
  exact (hf b hb).2.2.2.2.1 x c (bV _ _ (S.kW I.ok) (by simp) x c h)
 bs:=I.bs
 bsz:=Nat.le_trans I.ok.bsz I.sz
 noex:=fun b o e hb=>by
  rcases (hf b hb).2.2.2.1 with z | z
  ·exact I.ok.noex b o e z
  ·exact absurd (Nat.lt_of_lt_of_le (Heap.lt_size e) (Nat.le_trans I.ok.bsz z)) (Nat.lt_irrefl _)
 exfs:=fun b hb z=>by
  obtain ⟨_,f1,f2,_⟩:=hf b hb
  rcases List.mem_cons.mp (I.kH b z) with e | e
  ·exact f1 e
  ·exact f2 e
 ic:=I.stack
 frf:=I.jP
theorem nV {h' : Heap} {m:Str→Option Value} {C:Addr} (S:cH X N n ci sc) (I:Inv X pins σ H s) (hk:∀ x c v,X.env.cells.lookup x = some c→s.heap.IsCell c v→h'.IsCell c v)
  (i:Nat) (x:Str) (v:V) (e1:N[i]? = some x) (e2:(oz n ci σ)[i]? = some (some v)):∃ u,RelV v u∧Look (compEnvC sc (ib X.env sc.names []) C X.env) h' m x u:=by
 have hi:n≤i:=by
  by_cases hi:i < n
  ·unfold oz at e2
   rw [List.getElem?_append_left (by simpa using hi),List.getElem?_replicate,if_pos hi] at e2
   cases e2
  ·lia
 obtain ⟨j,rfl⟩:=Nat.exists_eq_add_of_le hi
 have e2' : (ci.map fun i=>(σ[i]?).getD none)[j]? = some (some v):=by
  unfold oz at e2
  rw [List.getElem?_append_right (by simp)] at e2
  simpa using e2
 rw [List.getElem?_map] at e2'
 cases ej:ci[j]? with
 | none=>rw [ej] at e2';cases e2'
 | some k =>
  rw [ej] at e2'
  obtain ⟨y,c1,c2,c3⟩:=S.caps j k ej
  rw [c1] at e1
  cases e1
  have ev:σ[k]? = some (some v):=by
   cases q:σ[k]? with
   | none=>simp [q] at e2'
   | some w=>simp [q] at e2';rw [e2']
  obtain ⟨m0,_,hl⟩:=I.loc
  have c4:(x,NameKind.free) ∈ sc.names:=PySem.mem_of_lookup c3
  have kf:=S.fr _ c4 rfl
  have vis:Bn X.env.scope x:=.inr kf
  obtain ⟨u,ru,lk⟩:=hl k x v c2 ev vis
  refine ⟨u,ru,.inr ⟨cL (env:=X.env) c3,?_⟩⟩
  rcases lk with ⟨l1,_⟩ | ⟨_,c,hc,hcell⟩
  ·rcases kf with kf | kf <;> (rw [show X.env.kindOf x = _ from kf] at l1;cases l1)
  ·obtain ⟨c',hc'⟩:=jY (env:=X.env) sc.names [] c4
   have:=bV _ _ (S.kW I.ok) (by simp) x c' hc'
   rw [hc] at this
   cases this
   exact ⟨c,hc',hk x c _ hc hcell⟩
theorem mi {h' : Heap} {t' : Nat} {m:Str→Option Value} (S:cH X N n ci sc) (I:Inv X pins σ H s) (hf:∀ b ∈ fp,gA X pins H b) (ho:∀ b ∈ fp,∃ o,s.heap.get? b = some o)
  (hk:∀ b o,s.heap.get? b = some o→h'.get? b = some o) (hn:h'.Ns s.heap.objs.size m):Inv (jb X sc N ⟨s.heap.objs.size,s,H,fp⟩) [] (oz n ci σ) H { s with heap:=h',toks:=t' } where
 ok:=pQ S I hf ho
 os:=rfl
 bare:=I.bare
 base:=Un.kept hk
 loc:=⟨m,hn,fun i x v e1 e2 _=>nV S I (fun x c v _ ⟨o,e,d⟩=>⟨o,hk _ _ e,d⟩) i x v e1 e2⟩
 cell:=fun x c e=>by
  obtain ⟨v,o,e1,d⟩:=I.cell x c (bV _ _ (S.kW I.ok) (by simp) x c e)
  exact ⟨v,o,hk _ _ e1,d⟩
 free:=I.hok.fresh (Nat.le_refl _)
 freeC:=fun x c e=>I.freeC x c (bV _ _ (S.kW I.ok) (by simp) x c e)
 pin:=fun p hp=>absurd hp (by simp)
 hok:=I.hok.kept hk
 len:=by rw [rj];exact S.len.symm
theorem oX {H' : Hp} {s' : Shared} {σ' : St} {pins' : List (Addr × Obj)} (S:cH X N n ci sc) (I:Inv X pins σ H s) (hf:∀ b ∈ fp,gA X pins H b)
  (J:Inv (jb X sc N ⟨s.heap.objs.size,s,H,fp⟩) pins' σ' H' s'):Inv (jb X sc N ⟨s.heap.objs.size,s,H,fp⟩) pins' (oz n ci σ) H' s' where
 ok:=J.ok
 os:=J.os
 bare:=J.bare
 base:=J.base
 loc:=by
  obtain ⟨m,hn,_⟩:=J.loc
  refine ⟨m,hn,fun i x v e1 e2 _=>nV S I (fun x c v e ⟨o,ho,d⟩=>?_) i x v e1 e2⟩
  have nf:c ∉ fp:=fun z=>(hf c z).2.2.2.2.1 x c e rfl
  obtain ⟨sl,q⟩:=J.base.any ho (I.freeC x c e) nf
  exact ⟨_,q,d⟩
 cell:=J.cell
 free:=J.free
 freeC:=J.freeC
 pin:=J.pin
 hok:=J.hok
 len:=by rw [rj];exact S.len.symm
end
section
variable {prog:Program} {w:World} {A:Around} {R:Result→Shared→Prop} {s:Shared}
theorem kX {elt target iter:Expr} {ifs:List Expr} {scope:Scope} {pos:Pos} {it acc:Value} {env:Env} (I:Nat→Shared→Prop)
  (turn:∀ n s,I n s→wpAny (model prog w) A (pyNext it) (fun r s₁=>match r with
   | none=>R (.ok .next) s₁
   | some v=>wpAny (model prog w) A (letOwnedTupleGo target it v) (fun _ s₀=>wpAny (model prog w) A (assign target env v) (fun _ s₂ =>
     wpAny (model prog w) A (forIn ifs true fun c r=>if r = true then do let ok ← isTrue c env (eval c env);pure (ForInStep.yield ok) else pure (ForInStep.yield r)) (fun ok s₃ =>
      if ok = true then wpAny (model prog w) A (eval elt env) (fun x s₄ =>
       wpAny (model prog w) A (call (.builtin "list.append") [acc,x]) (fun _ s₅=>∃ m,m < n∧I m s₅) (fun _ _=>False) s₄) (fun _ _=>False) s₃
      else ∃ m,m < n∧I m s₃) (fun _ _=>False) s₂) (fun _ _=>False) s₀) (fun _ _=>False) s₁) (fun _ _=>False) s)
  (n:Nat) (h:I n s) :
  codeAny (model prog w) A (.compLoop (.ListComp elt [⟨target,iter,ifs,0⟩] scope pos) 0 it acc env) R s:=by
 refine codeAny_loop rfl I (fun n s hI=>?_) n h
 show wpAny _ A ((compTurn (.ListComp elt [⟨target,iter,ifs,0⟩] scope pos) 0 it acc env).onRaise (fun x=>do noteFrame x env;theTreesLotGoes x)) _ _ s
 refine wpAny_noted ?_
 rw [compTurn_list]
 refine wpAny_bind (wpAny_standAt (wpAny_bind (wpAny_mono (turn n s hI) (fun r s₁ h₁=>?_) fun _ _ h'=>h'.elim)))
 cases r with
 | none=>exact wpAny_pure h₁
 | some v =>
  refine wpAny_bind (wpAny_mono h₁ (fun _ s₀ h₀=>?_) fun _ _ h'=>h'.elim)
  refine wpAny_bind (wpAny_mono h₀ (fun _ s₂ h₂=>wpAny_bind (wpAny_mono h₂ (fun ok s₃ h₃=>?_) fun _ _ h'=>h'.elim)) fun _ _ h'=>h'.elim)
  cases ok with
  | false=>exact wpAny_pure ⟨rfl,h₃⟩
  | true =>
   exact wpAny_bind (wpAny_bind (wpAny_mono h₃ (fun x s₄ h₄=>wpAny_bind (wpAny_mono h₄ (fun _ s₅ h₅=>wpAny_pure (wpAny_pure ⟨rfl,h₅⟩)) fun _ _ h'=>h'.elim)) fun _ _ h'=>h'.elim))
end
def A6 (X:Cx) (ifs:List Expr) (t:TT):Prop :=
 ∀ (pins:List (Addr × Obj)) (s:Shared) (σ:St) (H:Hp) (Q:Bool→Hp→Prop),Inv X pins σ H s→t σ H Q →
  wpAny (model X.prog X.w) X.A (forIn ifs true fun c r=>if r = true then do let ok ← isTrue c X.env (eval c X.env);pure (ForInStep.yield ok) else pure (ForInStep.yield r)) (TP X pins σ Q) X.xe s
def C2:TT:=fun _ H Q=>Q true H
theorem cT {X:Cx} : A6 X [] C2:=fun pins s σ H Q I h=>wpAny_tests_nil ⟨H,I,h⟩
theorem iW {X:Cx} {c:Expr} {t:TT} (h:PT X c t):A6 X [c] t:=fun pins s σ H Q I hq=>wpAny_tests_one (h pins s σ H Q I hq)
def gP (n:Nat) (ci:List Nat) (J:It) (g:TG) (tt:TT) (te:TE) (σ:St) (H1:Hp) (D:Addr) (Q:VK):Prop :=
 ∃ (M:Nat) (W:Nat→List V→Hp→Prop),W 0 [] (upd H1 D (.lst []))∧∀ i ys H,i≤M→W i ys H →
  (J.stop i H∧Q (.ref D) H)∨(i < M∧J.go i H∧∀ x H',J.yld i H x H'→g x (oz n ci σ) H' fun σ2 H2=>tt σ2 H2 fun b H3 =>
   if b = true then te σ2 H3 fun y H4=>H4 D = some (.lst ys)∧ys.length < sizeLine∧W (i + 1) (ys ++ [y]) (upd H4 D (.lst (ys ++ [y])))
   else W (i + 1) ys H3)
def yD (n:Nat) (ci:List Nat) (wi:TI) (g:BX→TG) (tt:BX→TT) (te:BX→TE):TE:=fun σ H Q=>wi σ H fun J H1=>∀ (z:BX) (D:Addr),H1 D = none→gP n ci J (g z) (tt z) (te z) σ H1 D Q
section
variable {X:Cx} {N:List Str} {n:Nat} {ci:List Nat} {sc:Scope}
theorem kM {pins:List (Addr × Obj)} {σ σ' : St} {H H' : Hp} {s s' : Shared} {fp:List Addr} {h' : Heap} (I:Inv X pins σ H s) (hf:∀ b ∈ fp,gA X pins H b)
  (J:Inv (jb X sc N ⟨s.heap.objs.size,s,H,fp⟩) [] σ' H' s') (hs:Heap.SameBut s.heap.objs.size s'.heap h'):Inv X pins σ H' { s' with heap:=h' }:=by
 have up:∀ b o,b≠s.heap.objs.size→s'.heap.get? b = some o→h'.get? b = some o:=fun b o hb e=>(hs.2 b hb).trans e
 have lt:∀ b o,s.heap.get? b = some o→b≠s.heap.objs.size:=fun b o e=>Nat.ne_of_lt (Heap.lt_size e)
 have u0:=J.base
 have un:Un (g9 X.stack) fp H H' s.heap h':=by
  refine ⟨fun b o e n hb hx=>up b o (lt b o e) (u0.keep b o e n hb hx),fun b o e n hb hx=>?_,fun b o e n hx=>u0.free b o e n hx,fun b o e hx=>?_,u0.cz,u0.frzs,u0.tbls⟩
  ·obtain ⟨sl,q⟩:=u0.slot b o e n hb hx
   exact ⟨sl,up b _ (lt b o e) q⟩
  ·obtain ⟨o',q⟩:=u0.there b o e hx
   exact ⟨o',up b _ (lt b o e) q⟩
 have fr:H' s.heap.objs.size = none:=J.free
 have hok:ij X.prog X.w H' h':=fun b u e=>by
  refine (J.hok b u e).jf (fun c v hc q=>up c v ?_ q) (fun _ q=>q) fun _ _ q=>q
  rintro rfl
  rcases hc with hc | hc
  ·rw [← hc,fr] at e;cases e
  ·rw [fr] at hc;cases hc
 refine I.uq (s':={ s' with heap:=h' }) (ch:=fp) J.os un hok J.bare fun b hb=>?_
 obtain ⟨_,f1,_,f3,f4,f5⟩:=hf b hb
 exact ⟨f3,f1,f4,f5⟩
theorem nK {elt tg iter:Expr} {ifs:List Expr} {pos:Pos} {g:BX→TG} {tt:BX→TT} {te:BX→TE} {z:BX} {it D:Addr} {fp:List Addr} {tn:Nat→Heap→Prop} {J:It} {σ0:St} {H4:Hp} {s4:Shared} {Q:VK} {R:Result→Shared→Prop} {W:Nat→List V→Hp→Prop} {M:Nat}
  (hc:X.calm = true) (T:Turn X.prog X.w X.K tg J fp it tn) (bg:PG (jb X sc N z) tg (g z)) (bt:A6 (jb X sc N z) ifs (tt z)) (be:PE (jb X sc N z) elt (te z))
  (keep:∀ {pins:List (Addr × Obj)} {σ' : St} {H' : Hp} {s' : Shared},Inv (jb X sc N z) pins σ' H' s'→Inv (jb X sc N z) pins σ0 H' s')
  (stat:∀ {H' : Hp},(∀ b ∈ fp,H' b = none)→∀ b ∈ fp,gA (jb X sc N z) [] H' b)
  (I4:Inv (jb X sc N z) [] σ0 H4 s4) (st4:tn 0 s4.heap) (fr4:∀ b ∈ fp,H4 b = none) (w0:W 0 [] H4)
  (turn:∀ i ys H,i≤M→W i ys H→(J.stop i H∧Q (.ref D) H)∨(i < M∧J.go i H∧∀ x H',J.yld i H x H'→g z x σ0 H' fun σ2 H2=>tt z σ2 H2 fun b H3 =>
   if b = true then te z σ2 H3 fun y H4=>H4 D = some (.lst ys)∧ys.length < sizeLine∧W (i + 1) (ys ++ [y]) (upd H4 D (.lst (ys ++ [y])))
   else W (i + 1) ys H3))
  (hR:∀ σ' H' s',Inv (jb X sc N z) [] σ' H' s'→Q (.ref D) H'→R (.ok .next) s') :
  codeAny (model X.prog X.w) X.A (.compLoop (.ListComp elt [⟨tg,iter,ifs,0⟩] sc pos) 0 (.ref it) (.ref D) (jb X sc N z).env) R s4:=by
 refine kX (fun n s'=>∃ i ys H',n = M - i∧i≤M∧Inv (jb X sc N z) [] σ0 H' s'∧tn i s'.heap∧(∀ b ∈ fp,H' b = none)∧W i ys H') ?_ M ⟨0,[],H4,rfl,Nat.zero_le _,I4,st4,fr4,w0⟩
 rintro n s3 ⟨i,ys,H3,rfl,hiM,I3,st3,fr3,w3⟩
 rcases turn i ys H3 hiM w3 with ⟨stop,qn⟩ | ⟨hlt,go,step⟩
 ·refine bx (T.done (jb X sc N z) rfl rfl rfl hc i [] s3 σ0 H3 (fun _ _=>False) I3 (stat fr3) st3 stop) fun r s4 ⟨hr,I4⟩=>?_
  subst hr
  exact hR σ0 H3 s4 I4 qn
 ·refine bx (T.item (jb X sc N z) rfl rfl rfl hc i [] s3 σ0 H3 (fun _ _=>False) I3 (stat fr3) st3 go) fun r s4 ⟨u,hr,h4⟩=>?_
  subst hr
  refine bx h4 fun _ s5 ⟨x,H5,I5,r5,y5,st5,fr5⟩=>?_
  have I5':=I5.pinned (stat fr5) (T.obj _ _ st5)
  refine bx (bg _ s5 σ0 H5 x u _ I5' r5 (step x H5 y5)) fun _ s6 ⟨σ6,H6,I6,q6⟩=>?_
  refine bx (bt _ s6 σ6 H6 _ I6 q6) fun b s7 ⟨H7,I7,q7⟩=>?_
  have again:∀ {ys' : List V} {H8:Hp} {s8:Shared},Inv (jb X sc N z) ([] ++ j6 fp s5.heap) σ6 H8 s8→W (i + 1) ys' H8→∃ m,m < M - i∧∃ i ys H',m = M - i∧i≤M∧Inv (jb X sc N z) [] σ0 H' s8∧tn i s8.heap∧(∀ b ∈ fp,H' b = none)∧W i ys H':=fun {ys' H8 s8} I8 w8=>by
   refine ⟨M - (i + 1),by lia,i + 1,ys',H8,rfl,hlt,keep I8.iI,T.keep _ _ _ st5 fun b hb o e=>(I8.pin (b,o) (List.mem_append_right _ (List.mem_append_right _ (fV hb e)))).1,fun b hb=>?_,w8⟩
   obtain ⟨o,e,d⟩:=T.obj _ _ st5 b hb
   exact (I8.pin (b,o) (List.mem_append_right _ (List.mem_append_right _ (fV hb e)))).2.1
  cases b with
  | false =>
   rw [if_neg (by decide)]
   rw [if_neg (by decide)] at q7
   exact again I7 q7
  | true =>
   rw [if_pos rfl]
   rw [if_pos rfl] at q7
   refine bx (be _ s7 σ6 H7 _ I7 q7) fun yu s8 ⟨y,H8,I8,r8,hD,hz,q8⟩=>?_
   exact bx (bE _ s8 σ6 H8 (.ref D) [y] (.ref D) [yu] (fun _ H9=>H9 = upd H8 D (.lst (ys ++ [y]))) I8 rfl (.cons r8 .nil) ⟨D,ys,y,rfl,rfl,hD,hz,rfl⟩) fun _ s9 ⟨_,H9,I9,_,e9⟩=>by
    subst e9
    exact again I9 q8
theorem cG {elt tg iter:Expr} {ifs:List Expr} {pos:Pos} {wi:TI} {g:BX→TG} {tt:BX→TT} {te:BX→TE} (hc:X.calm = true) (hi:PI X tg iter wi) (S:cH X N n ci sc)
  (hb:∀ z:BX,PG (jb X sc N z) tg (g z)∧A6 (jb X sc N z) ifs (tt z)∧PE (jb X sc N z) elt (te z))
  (hs:∀ x,foldedSetIterable iter X.env x = pure x:=by intro _;rfl):PE X (.ListComp elt [⟨tg,iter,ifs,0⟩] sc pos) (yD n ci wi g tt te):=by
 intro pins s σ H Q I h
 rw [eval_ListComp]
 refine wpAny_comprehension_free (use:=none) rfl hs (j5 (S.kW I.ok)) S.kind S.loc (bx (hi pins s σ H _ I h) fun v s1 h1=>bx h1 fun itv s2 h2=>?_)
 obtain ⟨it,fp,tn,J,H2,e,I2,T,st2,f2,rd⟩:=h2
 subst e
 refine wpAny_newObj_type (wpAny_newFunctionEnv S.nocell (by intro y hy;simp at hy) (fun h₁ hns₁ hsb₁=>?_) S.kind)
 dsimp only at hns₁ hsb₁ ⊢
 have hD:H2 s2.heap.objs.size = none:=I2.hok.fresh (Nat.le_refl _)
 have I3:Inv X pins σ (upd H2 s2.heap.objs.size (.lst [])) { s2 with heap:=s2.heap.push { cls:=.type "list",data:=.seq ([] : List Value).toArray } }:=I2.xn (t':=s2.toks) (ys:=[]) (its:=[]) .nil (Nat.zero_le _)
 have ob2:∀ b ∈ fp,∃ o,s2.heap.get? b = some o:=fun b hb=>let ⟨o,e,_⟩:=T.obj _ _ st2 b hb;⟨o,e⟩
 have neD:∀ b ∈ fp,b≠s2.heap.objs.size:=fun b hb=>let ⟨o,e⟩:=ob2 b hb;Nat.ne_of_lt (Heap.lt_size e)
 have f3:∀ b ∈ fp,gA X pins (upd H2 s2.heap.objs.size (.lst [])) b:=fun b hb=>⟨by rw [af (neD b hb)];exact (f2 b hb).1,(f2 b hb).2⟩
 have ob3:∀ b ∈ fp,∃ o,(s2.heap.push { cls:=.type "list",data:=.seq ([] : List Value).toArray }).get? b = some o:=fun b hb=>let ⟨o,e⟩:=ob2 b hb;⟨o,Heap.get?_push_of_some _ e⟩
 have k3:∀ b o,(s2.heap.push { cls:=.type "list",data:=.seq ([] : List Value).toArray }).get? b = some o→h₁.get? b = some o:=fun b o e =>
  hsb₁.extBut b o (Nat.ne_of_lt (Heap.lt_size e)) (Heap.get?_push_of_some _ e)
 have I4:Inv (jb X sc N ⟨_,{ s2 with heap:=s2.heap.push { cls:=.type "list",data:=.seq ([] : List Value).toArray } },upd H2 s2.heap.objs.size (.lst []),fp⟩) [] (oz n ci σ) (upd H2 s2.heap.objs.size (.lst []))
   { s2 with heap:=h₁,toks:=s2.toks + ([] : List (Str × Value)).length }:=mi (s:={ s2 with heap:=s2.heap.push { cls:=.type "list",data:=.seq ([] : List Value).toArray } }) S I3 f3 ob3 k3 hns₁
 have st4:tn 0 h₁:=T.keep _ _ _ st2 fun b hb o e=>k3 b o (Heap.get?_push_of_some _ e)
 obtain ⟨M,W,w0,turn⟩:=rd ⟨_,{ s2 with heap:=s2.heap.push { cls:=.type "list",data:=.seq ([] : List Value).toArray } },upd H2 s2.heap.objs.size (.lst []),fp⟩ s2.heap.objs.size hD
 obtain ⟨bg,bt,be⟩:=hb ⟨_,{ s2 with heap:=s2.heap.push { cls:=.type "list",data:=.seq ([] : List Value).toArray } },upd H2 s2.heap.objs.size (.lst []),fp⟩
 have ok3:=pQ S I3 f3 ob3
 have stat:∀ {H' : Hp},(∀ b ∈ fp,H' b = none)→∀ b ∈ fp,gA (jb X sc N ⟨_,{ s2 with heap:=s2.heap.push { cls:=.type "list",data:=.seq ([] : List Value).toArray } },upd H2 s2.heap.objs.size (.lst []),fp⟩) [] H' b:=fun hn b hb=>by
  obtain ⟨_,f1,f2',_,f4,_⟩:=f3 b hb
  refine ⟨hn b hb,?_,ok3.exfs b hb,.inl hb,fun x c e=>?_,fun p hp=>absurd hp (by simp)⟩
  ·exact Nat.ne_of_lt (let ⟨o,e⟩:=ob3 b hb;Heap.lt_size e)
  ·exact f4 x c (bV _ _ (S.kW I3.ok) (by simp) x c e)
 have loop:codeAny (model X.prog X.w) X.A (.compLoop (.ListComp elt [⟨tg,iter,ifs,0⟩] sc pos) 0 (.ref it) (.ref s2.heap.objs.size) (compEnvC sc (ib X.env sc.names []) (s2.heap.push { cls:=.type "list",data:=.seq ([] : List Value).toArray }).objs.size X.env))
   (compPost (model X.prog X.w) X.A X.xe none (EP X pins σ Q) (.ref s2.heap.objs.size) (s2.heap.push { cls:=.type "list",data:=.seq ([] : List Value).toArray }).objs.size) { s2 with heap:=h₁,toks:=s2.toks + ([] : List (Str × Value)).length }:=by
  refine nK (W:=W) (M:=M) (σ0:=oz n ci σ) (Q:=Q) hc T bg bt be (fun {pins' σ' H' s'} J'=>?_) stat I4 st4 (fun b hb=>(f3 b hb).1) w0 turn fun σ' H' s' J' q=>?_
  ·exact oX S I3 f3 J'
  ·obtain ⟨m',hn',_⟩:=J'.loc
   refine ⟨m',hn',fun h' hs'=>?_⟩
   exact ⟨.ref s2.heap.objs.size,H',kM (s:={ s2 with heap:=s2.heap.push { cls:=.type "list",data:=.seq ([] : List Value).toArray } }) I3 f3 J' hs',rfl,q⟩
 exact codeAny_compStart_list loop (T.self _ 0 _ _ _ st4 loop)
end
structure nj (so:Scope) (N0 N:List Str) (n:Nat) (ci:List Nat) (sc:Scope):Prop where
 kind:sc.kind = .function
 nocell:∀ y ∈ sc.names,y.2≠.cell
 loc:∀ y ∈ sc.names,y.2 = .local→sc.names.lookup y.1 = some .local
 fr:∀ y ∈ sc.names,y.2 = .free→so.names.lookup y.1 = some .cell∨so.names.lookup y.1 = some .free
 len:N.length = n + ci.length
 caps:N.drop n = ci.map fun i=>N0.getD i ⟨#[]⟩
 ins:∀ i ∈ ci,i < N0.length
 g9:∀ x ∈ N.drop n,sc.names.lookup x = some .free
theorem nj.of {X:Cx} {so sc:Scope} {N0 N:List Str} {n:Nat} {ci:List Nat} (h:nj so N0 N n ci sc) (e1:X.env.scope = so:=by rfl) (e2:X.N = N0:=by rfl):cH X N n ci sc where
 kind:=h.kind
 nocell:=h.nocell
 loc:=h.loc
 fr:=fun y hy hf=>by rw [e1];exact h.fr y hy hf
 len:=h.len
 caps:=fun j i e=>by
  have hm:i ∈ ci:=List.mem_of_getElem? e
  have hi:=h.ins i hm
  have q:(N.drop n)[j]? = some (N0.getD i ⟨#[]⟩):=by rw [h.caps,List.getElem?_map,e];rfl
  refine ⟨N0.getD i ⟨#[]⟩,?_,?_,?_⟩
  ·rw [List.getElem?_drop] at q;exact q
  ·rw [e2,List.getD_eq_getElem?_getD,List.getElem?_eq_getElem hi];rfl
  ·exact h.g9 _ (List.mem_of_getElem? q)
end L2
end
section
namespace UfSet
open PySem
def df (w:World):Bool:=w.params.followText "set-order"
abbrev d2 (w:World):List Str→List (Int × Value)→Prop:=Paired fun k e=>e.1 = hashStr w k∧∃ tk,e.2 = .str k tk
def cI (w:World) (h:Heap) (a:Addr) (ks:List Str):Prop :=
 ∃ o es ep t ks',h.get? a = some o∧o.ExactSet∧o.data = .set es ep t∧d2 w ks' es.toList∧ks'.Perm ks∧ks.Nodup ∧
  es.size < scanBound∧t.fits es.size = true∧(t.plain = true→es.size = 0)∧t.led = !df w
theorem d2.elems {prog:Program} {w:World} : ∀ {ks:List Str} {es:List (Int × Value)},d2 w ks es→ElemsOf (strKind prog w) es
 | _,_,.nil=>fun e he=>by simp at he
 | _,_,.cons (a:=k) (b:=e) h t=>fun x hx=>by
  rcases List.mem_cons.mp hx with rfl | hx
  ·obtain ⟨h1,tk,h2⟩:=h
   refine ⟨⟨k,?_,h1⟩,?_⟩
   ·show Value.isStrOf k x.2 = true
    rw [h2];simp [Value.isStrOf]
   ·rw [h2];rfl
  ·exact d2.elems (prog:=prog) t x hx
theorem d2.mem {w:World} {k:Str} : ∀ {ks:List Str} {es:List (Int × Value)},d2 w ks es→(k ∈ ks ↔ ∃ e ∈ es,Value.isStrOf k e.2 = true)
 | _,_,.nil=>by simp
 | _,_,.cons (a:=j) (b:=e) h t=>by
  obtain ⟨h1,tk,h2⟩:=h
  have ih:=d2.mem (k:=k) t
  have hd:Value.isStrOf k e.2 = true ↔ k = j:=by
   rw [h2]
   constructor
   ·intro q
    obtain ⟨u,hu⟩:=Value.isStrOf_shape q
    injection hu with hx _
    exact hx.symm
   ·rintro rfl;simp [Value.isStrOf]
  rw [List.mem_cons,ih]
  constructor
  ·rintro (q | ⟨x,hx,q⟩)
   ·exact ⟨e,List.mem_cons_self,hd.mpr q⟩
   ·exact ⟨x,List.mem_cons_of_mem _ hx,q⟩
  ·rintro ⟨x,hx,q⟩
   rcases List.mem_cons.mp hx with rfl | hx
   ·exact .inl (hd.mp q)
   ·exact .inr ⟨x,hx,q⟩
theorem d2.perm {w:World} {es es' : List (Int × Value)} (p:List.Perm es' es):∀ {ks:List Str},d2 w ks es→∃ ks',d2 w ks' es'∧ks'.Perm ks:=by
 have back:∀ {es es' : List (Int × Value)},List.Perm es es'→∀ {ks:List Str},d2 w ks es→∃ ks',d2 w ks' es'∧ks'.Perm ks:=by
  intro es es' p
  induction p with
  | nil=>intro ks h;exact ⟨ks,h,.refl _⟩
  | cons x _ ih =>
   intro ks h
   cases h with
   | cons h t =>
    obtain ⟨ks',h',q⟩:=ih t
    exact ⟨_ :: ks',.cons h h',q.cons _⟩
  | swap x y l =>
   intro ks h
   cases h with
   | cons h t =>
    cases t with
    | cons h2 t=>exact ⟨_,.cons h2 (.cons h t),.swap _ _ _⟩
  | trans _ _ ih1 ih2 =>
   intro ks h
   obtain ⟨k1,h1,q1⟩:=ih1 h
   obtain ⟨k2,h2,q2⟩:=ih2 h1
   exact ⟨k2,h2,q2.trans q1⟩
 intro ks h
 exact back p.symm h
theorem d2.snoc {w:World} {k:Str} {tk:Tok} : ∀ {ks:List Str} {es:List (Int × Value)},d2 w ks es→d2 w (ks ++ [k]) (es ++ [(hashStr w k,Value.str k tk)])
 | _,_,.nil=>.cons ⟨rfl,tk,rfl⟩ .nil
 | _,_,.cons h t=>.cons h (d2.snoc t)
theorem d2.len {w:World} {ks:List Str} {es:List (Int × Value)} (h:d2 w ks es):ks.length = es.length:=Paired.length h
theorem p7 (t:SetTable) (es:Array (Int × Value)) (h:Int) (x:Value):(layNew t es h x).2.1.led = t.led:=by
 unfold layNew
 split
 ·show (SetTable.orStandIn _ _).led = _
  unfold SetTable.orStandIn
  split <;> rfl
 ·rfl
theorem mD (t:SetTable) (es:Array (Int × Value)) (h:Int) (x:Value):(layNew t es h x).2.1.plain = true→t.plain = true:=by
 unfold layNew
 split
 ·show (SetTable.orStandIn _ _).plain = true→_
  unfold SetTable.orStandIn
  split
  ·exact id
  ·intro q;cases q
 ·intro q;cases q
theorem mF (t:SetTable) (es:Array (Int × Value)) (n:Nat):(relayAll t es n).2.1.led = t.led:=by
 unfold relayAll
 split
 ·rename_i t' order hr
  dsimp only
  split
  ·unfold SetTable.relaid SetTable.laid at hr
   simp only [Option.bind_eq_bind,Option.bind_eq_some_iff] at hr
   obtain ⟨ow,_,hr⟩:=hr
   cases hr
   rfl
  ·rfl
 ·rfl
theorem kR (t:SetTable) (es:Array (Int × Value)) (n:Nat):(relayAll t es n).2.1.plain = true→t.plain = true:=by
 unfold relayAll
 split
 ·rename_i t' order hr
  dsimp only
  split
  ·unfold SetTable.relaid SetTable.laid at hr
   simp only [Option.bind_eq_bind,Option.bind_eq_some_iff] at hr
   obtain ⟨ow,_,hr⟩:=hr
   cases hr
   exact id
  ·intro q;cases q
 ·intro q;cases q
section
variable {prog:Program} {w:World} {A:Around} {E:Value→Shared→Prop} {s:Shared}
theorem vW {h:Heap} {a:Addr} {o:Obj} {es es' : Array (Int × Value)} {ep:Nat} {t t' : SetTable} (ho:h.get? a = some o) (hd:o.data = .set es ep t) :
  (h.update a (Obj.putSet es' t')).get? a = some { o with data:=.set es' (ep + 1) t' }:=by
 have q:=Heap.get?_update_self (Obj.putSet es' t') ho (by rw [putSet_of es' t' hd];rfl)
 rw [putSet_of es' t' hd] at q
 exact q
theorem rg {g:Bool→Sem Unit} (hg:∀ (b:Bool) (s₁:Shared) (Q' : Unit→Shared→Prop),Q' () s₁→wpAny (model prog w) A (g b) Q' E s₁) {a:Addr} {o:Obj} {es es1:Array (Int × Value)} {ep:Nat} {t t2:SetTable}
  {ks ks1:List Str} {dm:Bool} {R:Option Bool→Shared→Prop} (ho:s.heap.get? a = some o) (hex:o.ExactSet) (hd:o.data = .set es ep t) (he:d2 w ks1 es1.toList) (hp:ks1.Perm ks) (hn:ks.Nodup)
  (hb:es1.size < scanBound) (hf:t2.fits es1.size = true) (hpl:t2.plain = false) (hle:t2.led = !df w)
  (h:∀ h',Heap.SameBut a s.heap h'→cI w h' a ks→R (some true) { s with heap:=h' }) :
  wpAny (model prog w) A (do
    storeSet a es1 t2
    if (!dm && t2.tooFull) = true then do
      g (relayAll t2 es1 (SetTable.grown es1.size)).2.2
      storeSet a (relayAll t2 es1 (SetTable.grown es1.size)).1 (relayAll t2 es1 (SetTable.grown es1.size)).2.1
      pure (some true)
     else pure (some true)) R E s:=by
 refine wpAny_bind (wpAny_storeSet_of ho hd ?_ (fits_of_scanBound hb))
 have ho1:=vW (es':=es1) (t':=t2) ho hd
 have sb1:=Heap.SameBut.update s.heap a (Obj.putSet es1 t2)
 by_cases hc:(!dm && t2.tooFull) = true
 ·rw [if_pos hc]
  have q1:=relayAll_perm t2 es1 (SetTable.grown es1.size)
  have q2:=relayAll_fits t2 es1 (SetTable.grown es1.size)
  have q3:=mF t2 es1 (SetTable.grown es1.size)
  have q4:=kR t2 es1 (SetTable.grown es1.size)
  generalize relayAll t2 es1 (SetTable.grown es1.size) = L at q1 q2 q3 q4 ⊢
  obtain ⟨es2,t3,gave⟩:=L
  dsimp only at q1 q2 q3 q4 ⊢
  have zs:es2.size = es1.size:=by rw [← Array.length_toList,q1.length_eq,Array.length_toList]
  refine wpAny_bind (hg _ _ _ ?_)
  refine wpAny_bind (wpAny_storeSet_of ho1 rfl ?_ (fits_of_scanBound (by rw [zs];exact hb)))
  have ho2:=vW (es':=es2) (t':=t3) ho1 rfl
  obtain ⟨ks2,e2,p2⟩:=he.perm q1
  refine wpAny_pure (h _ (sb1.trans (Heap.SameBut.update _ a _)) ⟨_,es2,ep + 1 + 1,t3,ks2,ho2,hex,rfl,e2,p2.trans hp,hn,by rw [zs];exact hb,q2,fun z=>?_,q3.trans hle⟩)
  rw [hpl] at q4
  exact absurd (q4 z) Bool.false_ne_true
 ·rw [if_neg hc]
  exact wpAny_pure (h _ sb1 ⟨_,es1,ep + 1,t2,ks1,ho1,hex,rfl,he,hp,hn,hb,hf,fun z=>(by rw [hpl] at z;cases z),hle⟩)
def dM (ks:List Str) (k:Str):List Str:=if k ∈ ks then ks else ks ++ [k]
theorem fX {ks:List Str} {k:Str} (h:ks.Nodup):(dM ks k).Nodup:=by
 unfold dM
 split
 ·exact h
 ·rename_i q
  refine List.nodup_append.mpr ⟨h,by simp,fun a ha b hb=>?_⟩
  have:b = k:=by simpa using hb
  subst this
  rintro rfl
  exact q ha
theorem jF (ks:List Str) (k:Str):(dM ks k).length≤ks.length + 1:=by
 unfold dM
 split
 ·lia
 ·simp
theorem qI {a:Addr} {ks:List Str} {k:Str} {tk:Tok} {Q:Bool→Shared→Prop} (hS:cI w s.heap a ks) (hroom:ks.length + 1 < scanBound)
  (h:∀ (h' : Heap) (b:Bool),Heap.SameBut a s.heap h'→cI w h' a (dM ks k)→Q b { s with heap:=h' }):wpAny (model prog w) A (setAddHashed a (.str k tk) (hashStr w k)) Q E s:=by
 obtain ⟨o,es,ep,t,ks',ho,hex,hd,he,hp,hn,hb,hf,hpl,hle⟩:=hS
 have hel:ElemsOf (strKind prog w) es.toList:=he.elems
 have hkey:(strKind prog w).is k (.str k tk) = true:=by simp [strKind,Value.isStrOf]
 have hsc:(Value.str k tk).scannable = true:=rfl
 have szl:es.size = ks.length:=by rw [← hp.length_eq,he.len,Array.length_toList]
 unfold setAddHashed setAddHashedIn
 refine wpAny_holding (wpAny_bind (wpAny_setState_of ho hd hf ?_))
 dsimp only
 rw [byScan_of hsc hb hel]
 simp only [↓reduceIte]
 unfold setAddByScan
 refine wpAny_bind ?_
 refine wpAny_bind (wpAny_rule ?_)
 refine wpAny_bind (wpAny_setScan_of (knd:=strKind prog w) hkey ho hd hf hel ?_)
 cases hr:List.findIdx? (fun e=>(strKind prog w).is k e.2) es.toList with
 | some j =>
  dsimp only
  obtain ⟨hj,hpj,_⟩:=List.findIdx?_eq_some_iff_getElem.mp hr
  have hin:k ∈ ks:=hp.mem_iff.mp (he.mem.mpr ⟨es.toList[j],List.getElem_mem hj,hpj⟩)
  refine wpAny_pure (wpAny_pure ?_)
  have e:s = { s with heap:=s.heap }:=by cases s;rfl
  rw [e]
  refine h s.heap _ (Heap.SameBut.refl a s.heap) ?_
  unfold dM
  rw [if_pos hin]
  exact ⟨o,es,ep,t,ks',ho,hex,hd,he,hp,hn,hb,hf,hpl,hle⟩
 | none =>
  dsimp only
  have hout : ¬ k ∈ ks:=fun z=>by
   obtain ⟨e,he',q⟩:=he.mem.mp (hp.mem_iff.mpr z)
   have:=List.findIdx?_eq_none_iff.mp hr e he'
   rw [show (strKind prog w).is k e.2 = Value.isStrOf k e.2 from rfl,q] at this
   cases this
  have gw:∀ (b:Bool) {s₁:Shared} {Q' : Unit→Shared→Prop},Q' () s₁→wpAny (model prog w) A (match b with | true=>rule "set.scan.the-table-gave-way" | false=>pure ()) Q' E s₁:=fun b s₁ Q' hq=>by
   cases b with
   | true=>exact wpAny_rule hq
   | false=>exact wpAny_pure hq
  have q1:=layNew_perm t es (hashStr w k) (.str k tk)
  have q2:=layNew_fits t es (hashStr w k) (.str k tk)
  have q3:=p7 t es (hashStr w k) (.str k tk)
  have q4:=mD t es (hashStr w k) (.str k tk)
  have hsame:(strKind prog w).hash k = hashStr w k:=rfl
  generalize layNew t es (hashStr w k) (.str k tk) = L at q1 q2 q3 q4 ⊢
  obtain ⟨es1,t1,dm,gave⟩:=L
  dsimp only at q1 q2 q3 q4 ⊢
  rw [Array.toList_push] at q1
  obtain ⟨ks1,e1,p1⟩:=(he.snoc (k:=k) (tk:=tk)).perm q1
  have p2:ks1.Perm (dM ks k):=by
   unfold dM
   rw [if_neg hout]
   exact p1.trans (hp.append_right _)
  have z1:es1.size = ks.length + 1:=by rw [← Array.length_toList,← e1.len,p1.length_eq,List.length_append,hp.length_eq];rfl
  have b1:es1.size < scanBound:=by rw [z1];exact hroom
  refine wpAny_bind (gw _ ?_)
  by_cases hpt:t1.plain = true
  ·rw [if_pos hpt]
   refine wpAny_bind ?_
   rw [hashByValue_scannable 8 hsc]
   refine wpAny_pure ?_
   refine rg (o:=o) (ks:=dM ks k) ?_ ho hex hd e1 p2 (fX hn) b1 ?_ ?_ ?_ ?_
   ·intro b s₁ Q' hq;exact gw b hq
   ·exact SetTable.fits_plain_off q2
   ·rfl
   ·exact q3.trans hle
   ·intro h' sb hS';dsimp only;exact wpAny_pure (h h' _ sb hS')
  ·rw [if_neg hpt]
   refine wpAny_bind (wpAny_pure ?_)
   simp only [↓reduceIte]
   refine rg (o:=o) (ks:=dM ks k) ?_ ho hex hd e1 p2 (fX hn) b1 q2 (by simpa using hpt) (q3.trans hle) ?_
   ·intro b s₁ Q' hq;exact gw b hq
   ·intro h' sb hS';dsimp only;exact wpAny_pure (h h' _ sb hS')
end
end UfSet
end
section
namespace UfSet
open PySem
theorem cg:Slot "set_iterator" "__next__" "set_iterator.__next__" :=
 .of (owner := "set_iterator") (n := "__next__") (by rw [typeLookup_type,builtinLookup_eq_fast];kernel_rfl) (by decide +kernel) (by decide +kernel) (by decide +kernel)
  (by first | exact .inl (by decide +kernel) | exact .inr (by decide +kernel)) (by rw [isSubtype_type];kernel_rfl)
theorem iH:Slot "set_iterator" "__iter__" "set_iterator.__iter__" :=
 .of (owner := "set_iterator") (n := "__iter__") (by rw [typeLookup_type,builtinLookup_eq_fast];kernel_rfl) (by decide +kernel) (by decide +kernel) (by decide +kernel)
  (by first | exact .inl (by decide +kernel) | exact .inr (by decide +kernel)) (by rw [isSubtype_type];kernel_rfl)
theorem il:entryFor table "set_iterator.__next__" = some Builtin.«set_iterator.__next__»:=entryFor_of_fast (by kernel_rfl)
theorem lh:entryFor table "set_iterator.__iter__" = some Builtin.«dict_keyiterator.__iter__» :=
 entryFor_alias (id' := "dict_keyiterator.__iter__") (by kernel_rfl) rfl (by decide +kernel) (by kernel_rfl)
theorem i9 (a:Value):argsOk "set_iterator.__next__" ⟨[a],[]⟩:=by unfold argsOk;kernel_rfl
theorem mW (a:Value):argsOk "set_iterator.__iter__" ⟨[a],[]⟩:=by unfold argsOk;kernel_rfl
theorem mM:entryFor table "set.__iter__" = some Builtin.«frozenset.__iter__» :=
 entryFor_alias (id' := "frozenset.__iter__") (by kernel_rfl) rfl (by decide +kernel) (by kernel_rfl)
end UfSet
end
section
namespace UfSet
open PySem
theorem iC {α:Type} : ∀ (xs:List α) (i:Nat) (h:i < xs.length),(xs[i] :: xs.eraseIdx i).Perm xs
 | [],i,h=>absurd h (by simp)
 | x :: xs,0,h=>.refl _
 | x :: xs,i + 1,h=>by
  have ih:=iC xs i (by simpa using h)
  show ((xs[i]'(by simpa using h)) :: x :: xs.eraseIdx i).Perm (x :: xs)
  exact (List.Perm.swap _ _ _).trans (ih.cons x)
def cW (a:Addr) (n ep:Nat) (first:Value) (i:Nat):Obj:={ cls:=.type "set_iterator",data:=.fields #[first,.int i 0,.ref a,.int n 0,.int ep 0] }
section
variable {prog:Program} {w:World} {A:Around} {E:Value→Shared→Prop} {s:Shared}
theorem qA {src:Source} {n:Nat} {Q:Nat→Shared→Prop} (hn:n≠0) (h:∀ x d,x < n→Q x { s with drawn:=d }):wpAny (model prog w) A (choose src n) Q E s:=by
 intro Γ p _
 show Sem.wp _ Γ (.choose src n .pure) _ _ p s
 rw [Sem.wp_choose]
 refine ⟨hn,?_⟩
 simp only [Sem.wp_pure]
 exact h _ _ (Nat.mod_lt _ (Nat.pos_of_ne_zero hn))
theorem oR {α:Type} : ∀ (n:Nat) (xs:List α) (s:Shared) {Q:List α→Shared→Prop},xs.length = n→(∀ ys d,ys.Perm xs→Q ys { s with drawn:=d })→wpAny (model prog w) A (drawOrder n xs) Q E s
 | 0,xs,s,Q,hl,h=>by
  have:xs = []:=List.eq_nil_of_length_eq_zero hl
  subst this
  exact wpAny_pure (h [] s.drawn (.refl _))
 | n + 1,[],s,Q,hl,h=>by simp at hl
 | n + 1,x :: xs,s,Q,hl,h=>by
  show wpAny _ _ (choose .order (x :: xs).length >>= fun i=>match (x :: xs)[i]? with | some y=>(do return y :: (← drawOrder n ((x :: xs).eraseIdx i))) | none=>unsupported "internal:drawOrder") _ _ s
  refine wpAny_bind (qA (by simp) fun i d hi=>?_)
  have e:(x :: xs)[i]? = some (x :: xs)[i]:=List.getElem?_eq_getElem hi
  rw [e]
  dsimp only
  refine wpAny_bind (oR n _ _ (by rw [List.length_eraseIdx,if_pos hi];lia) fun ys d' p=>wpAny_pure ?_)
  exact h _ d' ((p.cons _).trans (iC _ _ hi))
theorem kP {it a:Addr} {n ep i:Nat} {first:Value} {x:Value} {Q:Option Value→Shared→Prop} (ho:s.heap.get? it = some (cW a n ep first i))
  (h:wpAny (model prog w) A.in1 (Builtin.«set_iterator.__next__» ⟨[.ref it],[]⟩) (fun fin s'=>fin = .done (.ret x)∧Q (some x) s') (fun _ _=>False) s):wpAny (model prog w) A (pyNext (.ref it)) Q E s:=by
 have hT:s.TypeIs (.ref it) "set_iterator":=⟨_,ho,rfl⟩
 unfold pyNext
 refine wpAny_bind (wpAny_attempt (wpAny_callSpecial?_slot (name:=Str.ofString "__next__") hT cg (wpAny_call_entry cg hT il ?_ (i9 _))))
 refine wpAny_mono h (fun fin s' hq=>?_) fun _ _ z=>z.elim
 obtain ⟨rfl,hq⟩:=hq
 exact ⟨x,rfl,wpAny_pure hq⟩
theorem eE {h:Heap} {it a:Addr} {n ep i:Nat} {first:Value} {k:Nat} {x:Value} (ho:h.get? it = some (cW a n ep first i)) :
  (h.update it (Obj.mapFields (·.setIfInBounds k x))).get? it = some { cW a n ep first i with data:=.fields ((#[first,.int i 0,.ref a,.int n 0,.int ep 0] : Array Value).setIfInBounds k x) } :=
 Heap.get?_update_self _ ho rfl
theorem m8 {it a:Addr} {n ep i:Nat} {first:Value} {Q:Option Value→Shared→Prop} (hh:A.handled = none) (ho:s.heap.get? it = some (cW a n ep first i))
  (h:∀ {Q' : Fin→Shared→Prop} {E' : Value→Shared→Prop},(∀ h',Heap.SameBut it s.heap h'→wpAny (model prog w) A.in1 (do raiseNew (← newExc (.type "StopIteration") [])) Q' E' { s with heap:=h' }) →
   wpAny (model prog w) A.in1 (Builtin.«set_iterator.__next__» ⟨[.ref it],[]⟩) Q' E' s)
  (hQ:∀ h',Heap.ExtBut it s.heap h'→Q none { s with heap:=h' }):wpAny (model prog w) A (pyNext (.ref it)) Q E s:=by
 have hT:s.TypeIs (.ref it) "set_iterator":=⟨_,ho,rfl⟩
 unfold pyNext
 refine wpAny_bind (wpAny_attempt (wpAny_callSpecial?_slot (name:=Str.ofString "__next__") hT cg (wpAny_call_entry cg hT il ?_ (i9 _))))
 refine h fun h1 sb=>?_
 refine wpAny_bind ?_
 simp only [newExc,newTuple]
 refine wpAny_bind (wpAny_newObj_type ?_ (by size_fits))
 refine wpAny_bind (m:=firstArgMember _ _) (wpAny_of_eq (a:=Value.none) (by first | rfl | (simp only [firstArgMember];rfl)) ?_)
 refine wpAny_newObj_type ?_ (by size_fits)
 simp only [raiseNew]
 refine wpAny_bind (wpAny_handled ?_)
 have hh1:A.in1.handled = none:=hh
 rw [hh1]
 refine wpAny_bind (wpAny_pure (wpAny_throw ?_))
 refine wpAny_bind (wpAny_isInstance (T := "StopIteration") (b:=true) ⟨_,Heap.get?_push_size _ rfl,rfl⟩ isSubtype_stop ?_)
 exact wpAny_pure (hQ _ ((sb.extBut.push _).push _))
section
variable {it a T:Addr} {o oT:Obj} {es:Array (Int × Value)} {ep i:Nat} {t:SetTable} {pl:List Nat} {c:Nat}
theorem qC {p:Nat} {hx:Int} {x:Value} {Q:Option Value→Shared→Prop} (ho:s.heap.get? it = some (cW a es.size ep (.ref T) i)) (ha:s.heap.get? a = some o) (hd:o.data = .set es ep t) (hf:t.fits es.size = true)
  (hT:s.heap.get? T = some oT) (hTd:oT.data = .seq (pl.map fun (j:Nat)=>Value.int j 0).toArray c) (hp:pl[i]? = some p) (hx:es[p]? = some (hx,x))
  (h:∀ h',h'.get? it = some (cW a es.size ep (.ref T) (i + 1))→Heap.SameBut it s.heap h'→Q (some x) { s with heap:=h' }):wpAny (model prog w) A (pyNext (.ref it)) Q E s:=by
 refine kP (x:=x) ho ?_
 unfold Builtin.«set_iterator.__next__»
 show wpAny _ _ (fieldsOf (.ref it) >>= _) _ _ s
 refine wpAny_bind (wpAny_fieldsOf ho rfl ?_)
 dsimp only
 refine wpAny_bind (wpAny_setEntries_of ha hd hf ?_)
 rw [if_neg (by simp)]
 show wpAny _ _ (seqItems? (.ref T) >>= _) _ _ s
 refine wpAny_bind (wpAny_seqItems hT hTd ?_)
 dsimp only
 have e1:((pl.map fun (j:Nat)=>Value.int j 0).toArray)[i]? = some (.int p 0):=by simp [hp]
 simp only [Int.toNat_natCast,e1]
 unfold setNextDrawn
 refine wpAny_bind (wpAny_bind (wpAny_setState_of ha hd hf ?_))
 dsimp only
 rw [if_neg (by simp)]
 simp only [hx]
 refine wpAny_pure ?_
 refine wpAny_bind (wpAny_setField ho rfl (by simp) (wpAny_pure ⟨rfl,h _ ?_ (Heap.SameBut.update ..)⟩))
 rw [eE ho]
 simp [cW,rawInt]
theorem sX {Q:Option Value→Shared→Prop} (hh:A.handled = none) (ho:s.heap.get? it = some (cW a es.size ep (.ref T) i)) (ha:s.heap.get? a = some o) (hd:o.data = .set es ep t) (hf:t.fits es.size = true)
  (hT:s.heap.get? T = some oT) (hTd:oT.data = .seq (pl.map fun (j:Nat)=>Value.int j 0).toArray c) (hp:pl[i]? = none)
  (h:∀ h',Heap.ExtBut it s.heap h'→Q none { s with heap:=h' }):wpAny (model prog w) A (pyNext (.ref it)) Q E s:=by
 refine m8 hh ho (fun {Q' E'} hq=>?_) h
 unfold Builtin.«set_iterator.__next__»
 show wpAny _ _ (fieldsOf (.ref it) >>= _) _ _ s
 refine wpAny_bind (wpAny_fieldsOf ho rfl ?_)
 dsimp only
 refine wpAny_bind (wpAny_setEntries_of ha hd hf ?_)
 rw [if_neg (by simp)]
 show wpAny _ _ (seqItems? (.ref T) >>= _) _ _ s
 refine wpAny_bind (wpAny_seqItems hT hTd ?_)
 dsimp only
 have e1:((pl.map fun (j:Nat)=>Value.int j 0).toArray)[i]? = none:=by simpa using hp
 simp only [Int.toNat_natCast,e1]
 refine wpAny_bind (wpAny_setField ho rfl (by simp) ?_)
 refine wpAny_bind (wpAny_setField (eE ho) rfl (by simp) ?_)
 exact hq _ ((Heap.SameBut.update ..).trans (Heap.SameBut.update ..))
end
theorem qN {α:Type} {next:Nat→Nat} : ∀ (n k:Nat) (left:List α) (out:Array α),left.length = n→∃ ys:List α,ys.Perm left∧(pickOrder.go next n k left out).toList = out.toList ++ ys
 | 0,k,left,out,hl=>by
  have:left = []:=List.eq_nil_of_length_eq_zero hl
  subst this
  exact ⟨[],.refl _,by simp [pickOrder.go]⟩
 | n + 1,k,left,out,hl=>by
  have hlt:next k % left.length < left.length:=Nat.mod_lt _ (by lia)
  obtain ⟨ys,q1,q2⟩:=qN (next:=next) n (k + 1) (left.eraseIdx (next k % left.length)) (out.push left[next k % left.length]) (by rw [List.length_eraseIdx,if_pos hlt];lia)
  refine ⟨left[next k % left.length] :: ys,(q1.cons _).trans (iC _ _ hlt),?_⟩
  unfold pickOrder.go
  rw [List.getElem?_eq_getElem hlt]
  dsimp only
  rw [q2,Array.toList_push,List.append_assoc]
  rfl
theorem tD {α:Type} (next:Nat→Nat) (xs:Array α):(pickOrder next xs).toList.Perm xs.toList:=by
 obtain ⟨ys,q1,q2⟩:=qN (next:=next) xs.size 0 xs.toList #[] (by simp)
 unfold pickOrder
 rw [q2]
 simpa using q1
section
variable {it a:Addr} {o:Obj} {es:Array (Int × Value)} {ep i:Nat} {t:SetTable}
theorem ik {Q:Option (Value × Nat)→Shared→Prop} {sl g:Nat} (hb:df w = true) (ha:s.heap.get? a = some o) (hd:o.data = .set es ep t) (hf:t.fits es.size = true)
  (h:Q (((pickOrder (w.params.setOrder a ep) es)[g]?).map fun e=>(e.2,sl)) s):wpAny (model prog w) A (setNext a sl g ep) Q E s:=by
 unfold setNext
 refine wpAny_bind (wpAny_setState_of ha hd hf ?_)
 dsimp only
 refine wpAny_bind ?_
 unfold setsByText
 refine wpAny_bind (wpAny_askSetting (wpAny_pure ?_))
 have key:∀ {α:Type} (x y:Sem α),(if (⟨(model prog w).prog,(model prog w).w.params⟩ : Setting).params.followText "set-order" = true then x else y) = x:=fun x y=>if_pos hb
 rw [key,if_neg (by simp)]
 refine wpAny_bind ?_
 unfold setWalk
 refine wpAny_bind (wpAny_setState_of ha hd hf ?_)
 dsimp only
 refine wpAny_bind ?_
 unfold setsByText
 refine wpAny_bind (wpAny_askSetting (wpAny_pure ?_))
 rw [key]
 refine wpAny_bind (wpAny_askSetting (wpAny_pure ?_))
 exact wpAny_pure h
theorem sv {hx:Int} {x:Value} {Q:Option Value→Shared→Prop} (hb:df w = true) (ho:s.heap.get? it = some (cW a es.size ep (.int 0 0) i)) (ha:s.heap.get? a = some o) (hd:o.data = .set es ep t) (hf:t.fits es.size = true)
  (hp:(pickOrder (w.params.setOrder a ep) es)[i]? = some (hx,x))
  (h:∀ h',h'.get? it = some (cW a es.size ep (.int 0 0) (i + 1))→Heap.SameBut it s.heap h'→Q (some x) { s with heap:=h' }):wpAny (model prog w) A (pyNext (.ref it)) Q E s:=by
 refine kP (x:=x) ho ?_
 unfold Builtin.«set_iterator.__next__»
 show wpAny _ _ (fieldsOf (.ref it) >>= _) _ _ s
 refine wpAny_bind (wpAny_fieldsOf ho rfl ?_)
 dsimp only
 refine wpAny_bind (wpAny_setEntries_of ha hd hf ?_)
 rw [if_neg (by simp)]
 refine wpAny_bind (ik (sl:=0) (g:=i) hb ha hd hf ?_)
 rw [Int.toNat_natCast,hp]
 dsimp only [Option.map]
 refine wpAny_bind (wpAny_setField ho rfl (by simp) ?_)
 refine wpAny_bind (wpAny_setField (eE ho) rfl (by simp) (wpAny_pure ⟨rfl,h _ ?_ ((Heap.SameBut.update ..).trans (Heap.SameBut.update ..))⟩))
 rw [Heap.get?_update_self _ (eE ho) rfl]
 simp [cW,rawInt,Obj.mapFields]
theorem wo {Q:Option Value→Shared→Prop} (hh:A.handled = none) (hb:df w = true) (ho:s.heap.get? it = some (cW a es.size ep (.int 0 0) i)) (ha:s.heap.get? a = some o) (hd:o.data = .set es ep t) (hf:t.fits es.size = true)
  (hp:(pickOrder (w.params.setOrder a ep) es)[i]? = none)
  (h:∀ h',Heap.ExtBut it s.heap h'→Q none { s with heap:=h' }):wpAny (model prog w) A (pyNext (.ref it)) Q E s:=by
 refine m8 hh ho (fun {Q' E'} hq=>?_) h
 unfold Builtin.«set_iterator.__next__»
 show wpAny _ _ (fieldsOf (.ref it) >>= _) _ _ s
 refine wpAny_bind (wpAny_fieldsOf ho rfl ?_)
 dsimp only
 refine wpAny_bind (wpAny_setEntries_of ha hd hf ?_)
 rw [if_neg (by simp)]
 refine wpAny_bind (ik (sl:=0) (g:=i) hb ha hd hf ?_)
 rw [Int.toNat_natCast,hp]
 dsimp only [Option.map]
 refine wpAny_bind (wpAny_setField ho rfl (by simp) ?_)
 exact hq _ (Heap.SameBut.update ..)
end
section
variable {it a:Addr} {o:Obj} {es:Array (Int × Value)} {ep i sl:Nat} {t:SetTable}
theorem ja {Q:Option (Value × Nat)→Shared→Prop} {g:Nat} (hb:df w = false) (hl:t.led = true) (h1:es.size≤1) (ha:s.heap.get? a = some o) (hd:o.data = .set es ep t) (hf:t.fits es.size = true)
  (h:Q (match es[SetTable.below t.place sl]?,t.place[SetTable.below t.place sl]? with | some (_,x),some j=>some (x,j + 1) | _,_=>none) s):wpAny (model prog w) A (setNext a sl g ep) Q E s:=by
 unfold setNext
 refine wpAny_bind (wpAny_setState_of ha hd hf ?_)
 dsimp only
 refine wpAny_bind ?_
 unfold setsByText
 refine wpAny_bind (wpAny_askSetting (wpAny_pure ?_))
 have hb' : w.params.followText "set-order" = false:=hb
 have h2 : ¬ es.size > 1:=by lia
 simp only [model,hb',Bool.false_eq_true,if_false]
 rw [if_neg (by show ¬ ((!t.plain && decide (es.size > 1)) = true);simp [h2])]
 refine wpAny_bind ?_
 show wpAny _ _ (if (!t.led && !es.isEmpty) = true then unsupported "set:maker-not-led" else pure ()) _ _ s
 rw [hl]
 exact wpAny_pure (wpAny_pure h)
theorem rN (hf:t.fits es.size = true) (h1:es.size = 1):∃ j,t.place = #[j]:=by
 have q:t.place.size = 1:=by
  have:=(Bool.and_eq_true_iff.mp (show (t.place.size == es.size && decide (t.fill≤t.mask)) = true from hf)).1
  rw [h1] at this
  simpa using this
 generalize t.place = pl at q
 obtain ⟨l⟩:=pl
 have q' : l.length = 1:=q
 match l,q' with
 | [j],_=>exact ⟨j,rfl⟩
theorem pj (j:Nat):SetTable.below #[j] 0 = 0:=by
 unfold SetTable.below
 simp [SetTable.below.go]
theorem qw (j:Nat):SetTable.below #[j] (j + 1) = 1:=by
 unfold SetTable.below
 simp [SetTable.below.go]
def vE (t:SetTable) (n i sl:Nat):Prop:=(i = 0∧sl = 0)∨(i = 1∧n = 1∧∃ j,t.place = #[j]∧sl = j + 1)
theorem uS {hx:Int} {x:Value} {Q:Option Value→Shared→Prop} (hb:df w = false) (hl:t.led = true) (h1:es.size = 1) (ho:s.heap.get? it = some (cW a es.size ep (.int 0 0) 0)) (ha:s.heap.get? a = some o) (hd:o.data = .set es ep t) (hf:t.fits es.size = true)
  (hp:es[0]? = some (hx,x))
  (h:∀ h' sl,vE t es.size 1 sl→h'.get? it = some (cW a es.size ep (.int sl 0) 1)→Heap.SameBut it s.heap h'→Q (some x) { s with heap:=h' }):wpAny (model prog w) A (pyNext (.ref it)) Q E s:=by
 obtain ⟨j,hj⟩:=rN hf h1
 refine kP (x:=x) ho ?_
 unfold Builtin.«set_iterator.__next__»
 show wpAny _ _ (fieldsOf (.ref it) >>= _) _ _ s
 refine wpAny_bind (wpAny_fieldsOf ho rfl ?_)
 dsimp only
 refine wpAny_bind (wpAny_setEntries_of ha hd hf ?_)
 rw [if_neg (by simp)]
 refine wpAny_bind (ja (sl:=0) (g:=0) hb hl (by lia) ha hd hf ?_)
 rw [hj,pj,hp]
 show wpAny _ _ (setField (.ref it) 0 (rawInt ((j + 1:Nat):Int)) >>= fun _=>setField (.ref it) 1 (rawInt (((0:Nat):Int) + 1)) >>= fun _=>ret x) _ _ s
 refine wpAny_bind (wpAny_setField ho rfl (by simp) ?_)
 refine wpAny_bind (wpAny_setField (eE ho) rfl (by simp) (wpAny_pure ⟨rfl,h _ (j + 1) (.inr ⟨rfl,h1,j,hj,rfl⟩) ?_ ((Heap.SameBut.update ..).trans (Heap.SameBut.update ..))⟩))
 rw [Heap.get?_update_self _ (eE ho) rfl]
 simp [cW,rawInt,Obj.mapFields]
theorem xH {Q:Option Value→Shared→Prop} (hh:A.handled = none) (hb:df w = false) (hl:t.led = true) (h1:es.size≤1) (hat:vE t es.size i sl) (hi:es.size≤i) (ho:s.heap.get? it = some (cW a es.size ep (.int sl 0) i)) (ha:s.heap.get? a = some o) (hd:o.data = .set es ep t)
  (hf:t.fits es.size = true) (h:∀ h',Heap.ExtBut it s.heap h'→Q none { s with heap:=h' }):wpAny (model prog w) A (pyNext (.ref it)) Q E s:=by
 refine m8 hh ho (fun {Q' E'} hq=>?_) h
 unfold Builtin.«set_iterator.__next__»
 show wpAny _ _ (fieldsOf (.ref it) >>= _) _ _ s
 refine wpAny_bind (wpAny_fieldsOf ho rfl ?_)
 dsimp only
 refine wpAny_bind (wpAny_setEntries_of ha hd hf ?_)
 rw [if_neg (by simp)]
 refine wpAny_bind (ja (sl:=sl) (g:=i) hb hl h1 ha hd hf ?_)
 have key:(match es[SetTable.below t.place sl]?,t.place[SetTable.below t.place sl]? with | some (_,x),some j=>some (x,j + 1) | _,_=>none) = (none:Option (Value × Nat)):=by
  rcases hat with ⟨rfl,rfl⟩ | ⟨rfl,hn,j,hj,rfl⟩
  ·have e0:es = #[]:=by
    have:es.size = 0:=by lia
    exact Array.eq_empty_of_size_eq_zero this
   subst e0
   simp
  ·rw [hj,qw]
   simp
 rw [key]
 dsimp only
 refine wpAny_bind (wpAny_setField ho rfl (by simp) ?_)
 exact hq _ (Heap.SameBut.update ..)
end
end
end UfSet
end
section
namespace UfSet
open PySem
theorem d2.get {w:World} : ∀ {ks:List Str} {es:List (Int × Value)} {i:Nat},d2 w ks es→i < es.length→∃ hx k tk,es[i]? = some (hx,Value.str k tk)∧ks[i]? = some k
 | _,_,_,.nil,h=>absurd h (by simp)
 | _,_,0,.cons (a:=k) (b:=e) h t,_=>by
  obtain ⟨h1,tk,h2⟩:=h
  obtain ⟨e1,e2⟩:=e
  have h2:e2 = Value.str k tk:=h2
  subst h2
  exact ⟨e1,k,tk,rfl,rfl⟩
 | _,_,i + 1,.cons h t,hl=>by
  obtain ⟨hx,k,tk,q1,q2⟩:=d2.get (i:=i) t (by simpa using hl)
  exact ⟨hx,k,tk,by simpa using q1,by simpa using q2⟩
def At (ord:List Str) (i:Nat) (v:Value):Prop:=∃ k tk,ord[i]? = some k∧v = Value.str k tk
section
variable {prog:Program} {w:World} {A:Around} {E:Value→Shared→Prop} {s:Shared}
theorem mZ {it a:Addr} {n ep i:Nat} {first:Value} {Q:Value→Shared→Prop} (ho:s.heap.get? it = some (cW a n ep first i)) (h:Q (.ref it) s):wpAny (model prog w) A (pyIter (.ref it)) Q E s:=by
 have hT:s.TypeIs (.ref it) "set_iterator":=⟨_,ho,rfl⟩
 refine wpAny_pyIter_slot hT iH (wpAny_call_entry iH hT lh ?_ (mW _))
 show wpAny _ _ (ret (.ref it)) _ _ s
 exact wpAny_pure ⟨_,rfl, "set_iterator",_,hT,cg.lookup,h⟩
theorem nZ {it a T:Addr} {o oT:Obj} {es:Array (Int × Value)} {ep c:Nat} {t:SetTable} {pl:List Nat} {ks ord:List Str} (hh:A.handled = none) (ha:a≠it) (hTi:T≠it) (hd:o.data = .set es ep t) (hf:t.fits es.size = true) (he:d2 w ks es.toList)
  (hTd:oT.data = .seq (pl.map fun (j:Nat)=>Value.int j 0).toArray c) (hpl:∀ (i p:Nat),pl[i]? = some p→p < es.size∧ord[i]? = ks[p]?) (hlen:pl.length = ord.length) :
  Walks prog w A it [it,a,T] [it] ord.length (At ord) (fun i h=>h.get? it = some (cW a es.size ep (.ref T) i)∧h.get? a = some o∧h.get? T = some oT) where
 sub:=fun b hb=>by simp at hb;simp [hb]
 frame:=fun i h h' st k=>⟨k it (by simp) _ st.1,k a (by simp) _ st.2.1,k T (by simp) _ st.2.2⟩
 item:=fun i s Q E hi st hQ=>by
  obtain ⟨s1,s2,s3⟩:=st
  have hip:i < pl.length:=by lia
  have hp:pl[i]? = some pl[i]:=List.getElem?_eq_getElem hip
  obtain ⟨hlt,hord⟩:=hpl i _ hp
  obtain ⟨hx,k,tk,q1,q2⟩:=he.get (i:=pl[i]) (by simpa using hlt)
  refine qC s1 s2 hd hf s3 hTd hp (by rw [← Array.getElem?_toList];exact q1) fun h' st' sb=>?_
  exact hQ _ h' s.toks ⟨k,tk,hord.trans q2,rfl⟩ ⟨st',sb.extBut _ _ ha s2,sb.extBut _ _ hTi s3⟩ fun b o hb e=>sb.extBut b o (fun z=>hb (by simp [z])) e
 done:=fun s Q E st hQ=>by
  obtain ⟨s1,s2,s3⟩:=st
  exact sX hh s1 s2 hd hf s3 hTd (List.getElem?_eq_none (by lia)) fun h' eb=>hQ h' s.toks fun b o hb e=>eb b o (fun z=>hb (by simp [z])) e
 self:=fun _ _ _ _ st hQ=>mZ st.1 hQ
theorem p5 {it a:Addr} {o:Obj} {es:Array (Int × Value)} {ep:Nat} {t:SetTable} {ord:List Str} (hh:A.handled = none) (hb:df w = true) (ha:a≠it) (hd:o.data = .set es ep t) (hf:t.fits es.size = true)
  (he:d2 w ord (pickOrder (w.params.setOrder a ep) es).toList) :
  Walks prog w A it [it,a] [it] ord.length (At ord) (fun i h=>h.get? it = some (cW a es.size ep (.int 0 0) i)∧h.get? a = some o) where
 sub:=fun b hb=>by simp at hb;simp [hb]
 frame:=fun i h h' st k=>⟨k it (by simp) _ st.1,k a (by simp) _ st.2⟩
 item:=fun i s Q E hi st hQ=>by
  obtain ⟨s1,s2⟩:=st
  obtain ⟨hx,k,tk,q1,q2⟩:=he.get (i:=i) (by rw [← he.len];exact hi)
  refine sv hb s1 s2 hd hf (by rw [← Array.getElem?_toList];exact q1) fun h' st' sb=>?_
  exact hQ _ h' s.toks ⟨k,tk,q2,rfl⟩ ⟨st',sb.extBut _ _ ha s2⟩ fun b o hb e=>sb.extBut b o (fun z=>hb (by simp [z])) e
 done:=fun s Q E st hQ=>by
  obtain ⟨s1,s2⟩:=st
  refine wo hh hb s1 s2 hd hf ?_ fun h' eb=>hQ h' s.toks fun b o hb e=>eb b o (fun z=>hb (by simp [z])) e
  rw [← Array.getElem?_toList]
  exact List.getElem?_eq_none (by rw [← he.len];exact Nat.le_refl _)
 self:=fun _ _ _ _ st hQ=>mZ st.1 hQ
theorem sU {it a:Addr} {o:Obj} {es:Array (Int × Value)} {ep:Nat} {t:SetTable} {ord:List Str} (hh:A.handled = none) (hb:df w = false) (hl:t.led = true) (h1:es.size≤1) (ha:a≠it) (hd:o.data = .set es ep t) (hf:t.fits es.size = true)
  (he:d2 w ord es.toList) :
  Walks prog w A it [it,a] [it] ord.length (At ord) (fun i h=>(∃ sl,vE t es.size i sl∧h.get? it = some (cW a es.size ep (.int sl 0) i))∧h.get? a = some o) where
 sub:=fun b hb=>by simp at hb;simp [hb]
 frame:=fun i h h' st k=>by
  obtain ⟨⟨sl,q1,q2⟩,q3⟩:=st
  exact ⟨⟨sl,q1,k it (by simp) _ q2⟩,k a (by simp) _ q3⟩
 item:=fun i s Q E hi st hQ=>by
  obtain ⟨⟨sl,q1,q2⟩,q3⟩:=st
  have hlen:ord.length = es.size:=by (have:=he.len);(have el:es.toList.length = es.size:=by simp);lia
  have h0:es.size = 1:=by lia
  rcases q1 with ⟨rfl,rfl⟩ | ⟨rfl,_⟩
  ·obtain ⟨hx,k,tk,e1,e2⟩:=he.get (i:=0) (by simp;lia)
   refine uS hb hl h0 q2 q3 hd hf (by rw [← Array.getElem?_toList];exact e1) fun h' sl' oa st' sb=>?_
   exact hQ _ h' s.toks ⟨k,tk,e2,rfl⟩ ⟨⟨sl',oa,st'⟩,sb.extBut _ _ ha q3⟩ fun b o hb e=>sb.extBut b o (fun z=>hb (by simp [z])) e
  ·lia
 done:=fun s Q E st hQ=>by
  obtain ⟨⟨sl,q1,q2⟩,q3⟩:=st
  have hlen:ord.length = es.size:=by (have:=he.len);(have el:es.toList.length = es.size:=by simp);lia
  exact xH hh hb hl h1 q1 (by lia) q2 q3 hd hf fun h' eb=>hQ h' s.toks fun b o hb e=>eb b o (fun z=>hb (by simp [z])) e
 self:=fun _ _ _ _ st hQ=>by
  obtain ⟨⟨sl,q1,q2⟩,q3⟩:=st
  exact mZ q2 hQ
theorem wk {a:Addr} {ks:List Str} {Q:Value→Shared→Prop} (hS:cI w s.heap a ks)
  (h:∀ (I:Addr) (h' : Heap) (d:Drawn) (ord:List Str) (fp:List Addr) (St:Nat→Heap→Prop),ord.Perm ks→(∀ A' : Around,A'.handled = none→Walks prog w A' I fp [I] ord.length (At ord) St)→St 0 h'→I ∈ fp→s.heap.objs.size≤I →
   (∀ b o,s.heap.get? b = some o→h'.get? b = some o)→(∀ b ∈ fp,b < h'.objs.size∧(b = a∨s.heap.objs.size≤b))→Q (.ref I) { s with heap:=h',drawn:=d }) :
  wpAny (model prog w) A (pyIter (.ref a)) Q E s:=by
 obtain ⟨o,es,ep,t,ks',ho,hex,hd,he,hp,hn,hb,hf,hpl,hle⟩:=hS
 have hT:s.TypeIs (.ref a) "set":=⟨_,ho,hex.1⟩
 have alt:a < s.heap.objs.size:=Heap.lt_size ho
 refine wpAny_pyIter_slot hT PySem.F.slot_set_iter (wpAny_call_entry PySem.F.slot_set_iter hT mM ?_ (PySem.F.args_set_iter_1 _))
 show wpAny _ _ (Builtin.Frozenset.sizeOf a >>= _) _ _ s
 refine wpAny_bind ?_
 unfold Builtin.Frozenset.sizeOf
 refine wpAny_bind (wpAny_setEntries_of ho hd hf (wpAny_pure ?_))
 refine wpAny_bind ?_
 unfold setDrawn
 refine wpAny_bind (wpAny_setState_of ho hd hf ?_)
 dsimp only
 refine wpAny_bind ?_
 unfold setsByText
 refine wpAny_bind (wpAny_askSetting (wpAny_pure (wpAny_pure ?_)))
 have key:(!(⟨(model prog w).prog,(model prog w).w.params⟩ : Setting).params.followText "set-order" && (!t.plain && decide (es.size > 1))) = (!df w && (!t.plain && decide (es.size > 1))):=rfl
 show wpAny _ _ (do
  let first ← if (!(⟨(model prog w).prog,(model prog w).w.params⟩ : Setting).params.followText "set-order" && (!t.plain && decide (es.size > 1))) = true then newTuple ((← drawOrder es.size (List.range es.size)).map fun (i:Nat)=>rawInt i) else pure (rawInt 0)
  ret (← newFields "set_iterator" [first,rawInt 0,.ref a,rawInt es.size,rawInt (← setEpoch a)])) _ _ s
 rw [key]
 by_cases hdr:(!df w && (!t.plain && decide (es.size > 1))) = true
 ·rw [if_pos hdr]
  have zs:es.size≤sizeLine:=fits_of_scanBound hb
  refine wpAny_bind (oR es.size (List.range es.size) s (by simp) fun pl d hpp=>?_)
  have hl:pl.length = es.size:=by rw [hpp.length_eq];simp
  refine wpAny_bind (wpAny_newObj_type ?_ (by show (pl.map fun (i:Nat)=>rawInt i).toArray.size≤sizeLine;simp;lia))
  refine wpAny_bind (wpAny_setEpoch_of (o:=o) (es:=es) (t:=t) (ep:=ep) (Heap.get?_push_of_some _ ho) hd hf ?_)
  refine wpAny_bind (wpAny_newObj_type (wpAny_pure ⟨_,rfl, "set_iterator",_,⟨_,Heap.get?_push_size _ rfl,rfl⟩,cg.lookup,?_⟩) (by size_fits))
  dsimp only
  have e1:(s.heap.push { cls:=.type "tuple",data:=.seq (pl.map fun (i:Nat)=>rawInt i).toArray }).objs.size = s.heap.objs.size + 1:=by rw [Heap.size_push]
  have f:∀ p,p < es.size→∃ k,ks'[p]? = some k:=fun p hp'=>by
   obtain ⟨_,k,_,_,q⟩:=he.get (i:=p) (by simpa using hp')
   exact ⟨k,q⟩
  refine h _ _ d (pl.map fun p=>ks'.getD p ⟨#[]⟩) [_,a,s.heap.objs.size] _ ?_ (fun A' hh'=>nZ (T:=s.heap.objs.size) (oT:={ cls:=.type "tuple",data:=.seq (pl.map fun (i:Nat)=>rawInt i).toArray }) (pl:=pl) hh' ?_ ?_ hd hf he rfl (fun i p hip=>?_) (by simp)) ⟨Heap.get?_push_size _ rfl,Heap.get?_push_of_some _ (Heap.get?_push_of_some _ ho),Heap.get?_push_of_some _ (Heap.get?_push_size _ rfl)⟩ (by simp) (by rw [e1];lia) (fun b ob e=>Heap.get?_push_of_some _ (Heap.get?_push_of_some _ e)) fun b hb'=>?_
  ·have q:=hpp.map (fun p=>ks'.getD p ⟨#[]⟩)
   have e2:(List.range es.size).map (fun p=>ks'.getD p ⟨#[]⟩) = ks':=by
    have hk:ks'.length = es.size:=by rw [he.len];simp
    rw [← hk]
    refine List.ext_getElem (by simp) fun i h1 h2=>?_
    simp [List.getD_eq_getElem?_getD,List.getElem?_eq_getElem h2]
   rw [e2] at q
   exact q.trans hp
  ·rw [e1];exact Nat.ne_of_lt (Nat.lt_succ_of_lt alt)
  ·rw [e1];exact Nat.ne_of_lt (Nat.lt_succ_self _)
  ·have hm:p ∈ List.range es.size:=hpp.mem_iff.mp (List.mem_of_getElem? hip)
   have hlt:p < es.size:=by simpa using hm
   refine ⟨hlt,?_⟩
   obtain ⟨k,hk⟩:=f p hlt
   rw [List.getElem?_map,hip,hk]
   simp [List.getD_eq_getElem?_getD,hk]
  ·simp only [List.mem_cons,List.not_mem_nil,or_false] at hb'
   rw [Heap.size_push]
   rcases hb' with rfl | rfl | rfl
   ·exact ⟨Nat.lt_succ_self _,.inr (by rw [e1];exact Nat.le_succ _)⟩
   ·exact ⟨by rw [e1];exact Nat.lt_succ_of_lt (Nat.lt_succ_of_lt alt),.inl rfl⟩
   ·exact ⟨by rw [e1];exact Nat.lt_succ_of_lt (Nat.lt_succ_self _),.inr (Nat.le_refl _)⟩
 ·rw [if_neg hdr]
  refine wpAny_bind (wpAny_pure ?_)
  refine wpAny_bind (wpAny_setEpoch_of (o:=o) (es:=es) (t:=t) (ep:=ep) ho hd hf ?_)
  refine wpAny_bind (wpAny_newObj_type (wpAny_pure ⟨_,rfl, "set_iterator",_,⟨_,Heap.get?_push_size _ rfl,rfl⟩,cg.lookup,?_⟩) (by size_fits))
  have old:∀ b ob,s.heap.get? b = some ob→(s.heap.push { cls:=.type "set_iterator",data:=.fields [rawInt 0,rawInt 0,Value.ref a,rawInt (es.size:Int),rawInt (ep:Int)].toArray }).get? b = some ob:=fun b ob e=>Heap.get?_push_of_some _ e
  have own:∀ b ∈ [s.heap.objs.size,a],b < (s.heap.push { cls:=.type "set_iterator",data:=.fields [rawInt 0,rawInt 0,Value.ref a,rawInt (es.size:Int),rawInt (ep:Int)].toArray }).objs.size∧(b = a∨s.heap.objs.size≤b):=fun b hb'=>by
   simp only [List.mem_cons,List.not_mem_nil,or_false] at hb'
   rw [Heap.size_push]
   rcases hb' with rfl | rfl
   ·exact ⟨Nat.lt_succ_self _,.inr (Nat.le_refl _)⟩
   ·exact ⟨Nat.lt_succ_of_lt alt,.inl rfl⟩
  cases hbt:df w with
  | true =>
   obtain ⟨ord,q1,q2⟩:=he.perm (tD (w.params.setOrder a ep) es)
   exact h _ _ s.drawn ord [s.heap.objs.size,a] _ (q2.trans hp) (fun A' hh'=>p5 hh' hbt (Nat.ne_of_lt alt) hd hf q1) ⟨Heap.get?_push_size _ rfl,Heap.get?_push_of_some _ ho⟩ (by simp) (Nat.le_refl _) old own
  | false =>
   have h1:es.size≤1:=by
    rw [hbt] at hdr
    cases hpt:t.plain with
    | true=>have:=hpl hpt;lia
    | false =>
     rw [hpt] at hdr
     by_cases hz:es.size > 1
     ·exact absurd (by simp [hz]) hdr
     ·lia
   rw [hbt] at hle
   exact h _ _ s.drawn ks' [s.heap.objs.size,a] _ hp (fun A' hh'=>sU hh' hbt hle h1 (Nat.ne_of_lt alt) hd hf he) ⟨⟨0,.inl ⟨rfl,rfl⟩,Heap.get?_push_size _ rfl⟩,Heap.get?_push_of_some _ ho⟩ (by simp) (Nat.le_refl _) old own
end
end UfSet
end
section
namespace UfSet
open PySem
theorem vB:typeLookup (.type "set") "__len__" = pure (some (.builtin "set.__len__")):=by rw [typeLookup_type,builtinLookup_eq_fast];kernel_rfl
theorem x8:isSubtype (.type "set") (.type "set") = pure true:=by rw [isSubtype_type];kernel_rfl
theorem sJ:splitId "set.__len__" = some ("set", "__len__"):=by decide +kernel
theorem ke {wr:List Addr} : ∀ {s s' : Shared},Moved wr (fun a b=>b = a) s s'→s' = { s with heap:=s'.heap,toks:=s'.toks }
 | ⟨h,g,d,t,o⟩,⟨h',g',d',t',o'⟩,hm=>by
  have e1:g' = g:=hm.gens
  have e2:d' = d:=hm.drawn
  have e3:o' = o:=hm.os
  subst e1 e2 e3
  rfl
section
variable {prog:Program} {w:World} {A:Around} {E:Value→Shared→Prop} {s:Shared}
theorem ur {r:Addr} {Q:Bool→Shared→Prop} (hT:s.TypeIs (.ref r) "set") (h:Q false s):wpAny (model prog w) A (Builtin.List.listLengthHint (.ref r)) Q E s:=by
 unfold Builtin.List.listLengthHint
 refine wpAny_bind (wpAny_specialOf hT vB ?_)
 dsimp only
 rw [sJ]
 dsimp only
 refine wpAny_bind (wpAny_isInstance (T := "set") (b:=true) hT x8 ?_)
 refine wpAny_ite_split (fun z=>absurd z (by decide)) (fun _=>?_)
 refine wpAny_ite_split (fun _=>?_) (fun z=>absurd (by decide +kernel) z)
 refine wpAny_bind (wpAny_typeOf hT ?_)
 exact wpAny_pure h
theorem jB {r:Addr} {T:String} {OK:Heap→Prop} {R:Nat→(Nat→Value→Prop)→Prop} {Q:List Value→Shared→Prop} (hh:A.handled = none) (hok:OK s.heap)
  (keep:∀ h h' : Heap,OK h→(∀ b o,h.get? b = some o→h'.get? b = some o)→OK h') (hty:∀ s' : Shared,OK s'.heap→s'.TypeIs (.ref r) T) (hlt:∀ h,OK h→r < h.objs.size)
  (nl:(Value.type T == Value.type "list") = false) (nt:(Value.type T == Value.type "tuple") = false)
  (hint:∀ (A' : Around) (E' : Value→Shared→Prop) (s' : Shared) (Q' : Bool→Shared→Prop),OK s'.heap→Q' false s'→wpAny (model prog w) A' (Builtin.List.listLengthHint (.ref r)) Q' E' s')
  (iter:∀ (A' : Around) (E' : Value→Shared→Prop) (s' : Shared) (Q' : Value→Shared→Prop),OK s'.heap→(∀ (I:Addr) (h' : Heap) (d:Drawn) (n:Nat) (P:Nat→Value→Prop) (fp:List Addr) (St:Nat→Heap→Prop),R n P→n≤sizeLine →
   (∀ A2:Around,A2.handled = none→Walks prog w A2 I fp [I] n P St)→St 0 h'→s'.heap.objs.size≤I→(∀ b o,s'.heap.get? b = some o→h'.get? b = some o)→(∀ b ∈ fp,b = r∨s'.heap.objs.size≤b)→Q' (.ref I) { s' with heap:=h',drawn:=d }) →
   wpAny (model prog w) A' (pyIter (.ref r)) Q' E' s')
  (h:∀ (h' : Heap) (tk:Nat) (d:Drawn) (n:Nat) (P:Nat→Value→Prop) (vs:List Value),R n P→vs.length = n→(∀ (j:Nat) v,vs[j]? = some v→P j v)→(∀ b o,s.heap.get? b = some o→h'.get? b = some o)→s.heap.objs.size≤h'.objs.size→Q vs { s with heap:=h',toks:=tk,drawn:=d }) :
  wpAny (model prog w) A (collect (.ref r)) Q E s:=by
 unfold collect
 refine wpAny_bind (wpAny_runValue (codeAny_builtin PySem.F.entry_proto_collect ?_))
 rw [Around.under_plainId PySem.F.plain_proto_collect _]
 show wpAny _ A.in1 (newList [] >>= fun l=>again (.builtin "list.__iadd__" ⟨[l,.ref r],[]⟩)) _ _ s
 refine wpAny_bind (wpAny_newObj_type ?_)
 refine wpAny_pure ⟨plainId_quiet PySem.F.plain_list_iadd _,codeAny_builtin PySem.F.entry_list_iadd ?_⟩
 rw [Around.under_plainId PySem.F.plain_list_iadd _]
 generalize hs1:(s.heap.push { cls:=.type "list",data:=.seq ([] : List Value).toArray }) = h1
 have S1:h1.get? s.heap.objs.size = some { cls:=.type "list",data:=.seq #[] }:=by rw [← hs1];exact Heap.get?_push_size _ rfl
 have k1:∀ b ob,s.heap.get? b = some ob→h1.get? b = some ob:=fun b ob e=>by rw [← hs1];exact Heap.get?_push_of_some _ e
 have z1:h1.objs.size = s.heap.objs.size + 1:=by rw [← hs1,Heap.size_push]
 have alt:r < s.heap.objs.size:=hlt _ hok
 have ok1:OK h1:=keep _ _ hok k1
 show wpAny _ A.in1 (Builtin.List.listExtendWith (.ref s.heap.objs.size) (.ref r) (.ref s.heap.objs.size)) _ _ { s with heap:=h1 }
 unfold Builtin.List.listExtendWith
 refine wpAny_bind (wpAny_typeOf (T:=T) (hty { s with heap:=h1 } ok1) ?_)
 have e1:Builtin.List.listSameRef (.ref s.heap.objs.size) (.ref r) = false:=by simp [Builtin.List.listSameRef,Nat.ne_of_gt alt]
 simp only [e1,nl,nt,Bool.or_false,Bool.false_eq_true,if_false]
 refine wpAny_bind (iter _ _ { s with heap:=h1 } _ ok1 fun I h2 d n P fp St hR zo W st hIz k2 hfp=>?_)
 have S2:=k2 _ _ S1
 refine wpAny_bind (wpAny_holding (hint _ _ _ _ (keep _ _ ok1 k2) ?_))
 have nfp:s.heap.objs.size ∉ fp:=fun hm=>by
  rcases hfp _ hm with z | z
  ·exact absurd z (Nat.ne_of_gt alt)
  ·have z' : h1.objs.size≤s.heap.objs.size:=z
   rw [z1] at z'
   exact absurd z' (Nat.not_succ_le_self _)
 have key:∀ (h3:Heap) (c tk:Nat),St 0 h3→(∀ b ob,b≠s.heap.objs.size→h2.get? b = some ob→h3.get? b = some ob)→h3.get? s.heap.objs.size = some { cls:=.type "list",data:=.seq #[] c } →
   codeAny (model prog w) A (.builtin "list.extend.loop" ⟨[.ref s.heap.objs.size,.ref I,.ref s.heap.objs.size],[]⟩)
    (fun r s'=>match r with | .ok (.ret v)=>wpAny (model prog w) A (match v with | .ref b=>(load b >>= fun ob=>(match ob.data with | .seq xs _=>pure xs.toList | _=>unsupported "internal:collect")) | _=>unsupported "internal:collect") Q E s' | .ok _=>False | .error e=>E e s') { s with heap:=h3,toks:=tk,drawn:=d }:=by
  intro h3 c tk st3 k3 S3
  refine codeAny_extend_loopS (W A.in1 hh).toS zo s.heap.objs.size nfp _ n 0 _ #[] c rfl (Nat.zero_le _) st3 S3 (ItemsOf.nil _) fun s' acc c' hm S' hacc=>?_
  dsimp only
  refine wpAny_bind (wpAny_load S' (wpAny_pure ?_))
  rw [ke hm]
  refine h s'.heap s'.toks d n P acc.toList hR (by rw [← hacc.1];simp) (fun j v e=>hacc.2 j v (by rw [← Array.getElem?_toList];exact e)) (fun b ob e=>?_) (Nat.le_of_lt (Heap.lt_size S'))
  have nb:b≠s.heap.objs.size:=Nat.ne_of_lt (Heap.lt_size e)
  refine hm.heap b ob (fun hmem=>?_) (k3 b ob nb (k2 b ob (k1 b ob e)))
  rcases List.mem_cons.mp hmem with z | z
  ·exact nb z
  ·have z' : b = I:=by simpa using z
   subst z'
   have z2:h1.objs.size≤b:=hIz
   rw [z1] at z2
   exact absurd (Nat.lt_of_lt_of_le (Heap.lt_size e) (Nat.le_of_succ_le z2)) (Nat.lt_irrefl _)
 refine wpAny_ite_split (fun _=>?_) (fun _=>wpAny_pure ⟨plainId_quiet PySem.F.plain_extend_loop _,key _ 0 _ st (fun b ob _ e=>e) S2⟩)
 refine wpAny_bind (wpAny_rule ?_)
 refine wpAny_bind ?_
 show wpAny _ _ (updateSeq s.heap.objs.size (·.push .none) >>= fun _=>updateSeq s.heap.objs.size (·.pop)) _ _ _
 refine wpAny_bind (wpAny_updateSeq S2 rfl ?_)
 have S3:=Heap.get?_update_self (Obj.mapSeq (·.push Value.none)) S2 rfl
 refine wpAny_updateSeq (hz:=by seq_fits) S3 rfl ?_
 have S4:=Heap.get?_update_self (Obj.mapSeq (·.pop)) S3 rfl
 have oth:∀ b ob,b≠s.heap.objs.size→h2.get? b = some ob→((h2.update s.heap.objs.size (Obj.mapSeq (·.push Value.none))).update s.heap.objs.size (Obj.mapSeq (·.pop))).get? b = some ob:=fun b ob nb e =>
  (Heap.get?_update_other _ _ (Ne.symm nb)).trans ((Heap.get?_update_other _ _ (Ne.symm nb)).trans e)
 exact wpAny_pure ⟨plainId_quiet PySem.F.plain_extend_loop _,key _ _ _ ((W A.in1 hh).frame 0 _ _ st fun b hb' ob e=>oth b ob (fun z=>nfp (z ▸ hb')) e) oth S4⟩
theorem o8 {a:Addr} {ks:List Str} {Q:List Value→Shared→Prop} (hh:A.handled = none) (hS:cI w s.heap a ks)
  (h:∀ (h' : Heap) (tk:Nat) (d:Drawn) (ord:List Str) (vs:List Value),ord.Perm ks→vs.length = ord.length→(∀ (j:Nat) v,vs[j]? = some v→At ord j v)→(∀ b o,s.heap.get? b = some o→h'.get? b = some o)→s.heap.objs.size≤h'.objs.size→Q vs { s with heap:=h',toks:=tk,drawn:=d }) :
  wpAny (model prog w) A (collect (.ref a)) Q E s:=by
 have kp:∀ h h' : Heap,cI w h a ks→(∀ b o,h.get? b = some o→h'.get? b = some o)→cI w h' a ks:=fun h1 h2 x k=>by
  obtain ⟨o,es,ep,t,ks',ho,r⟩:=x
  exact ⟨o,es,ep,t,ks',k _ _ ho,r⟩
 have ty:∀ s' : Shared,cI w s'.heap a ks→s'.TypeIs (.ref a) "set":=fun s' x=>by
  obtain ⟨o,es,ep,t,ks',ho,hex,_⟩:=x
  exact ⟨o,ho,hex.1⟩
 have zs:ks.length≤sizeLine:=by
  obtain ⟨o,es,ep,t,ks',ho,hex,hd,he,hp,hn,hb,_⟩:=hS
  rw [← hp.length_eq,he.len]
  have el:es.toList.length = es.size:=by simp
  rw [el]
  exact fits_of_scanBound hb
 refine jB (T := "set") (OK:=fun h=>cI w h a ks) (R:=fun n P=>∃ ord:List Str,ord.Perm ks∧n = ord.length∧P = At ord) hh hS kp ty (fun h1 x=>?_) (by decide) (by decide) (fun A' E' s' Q' x q=>ur (ty s' x) q) (fun A' E' s' Q' x q=>?_) ?_
 ·obtain ⟨o,_,_,_,_,ho,_⟩:=x
  exact Heap.lt_size ho
 ·exact wk x fun I h' d ord fp St hp W st hI hIz k2 hfp=>q I h' d ord.length (At ord) fp St ⟨ord,hp,rfl,rfl⟩ (by rw [hp.length_eq];exact zs) W st hIz k2 fun b hb=>(hfp b hb).2
 ·rintro h' tk d n P vs ⟨ord,hp,rfl,rfl⟩ hl hat hk hz
  exact h h' tk d ord vs hp hl hat hk hz
end
end UfSet
end
section
namespace UfSrt
open PySem PySem.Spec PyProof.Rows
def le (a b:Str):Prop:=a.cps.toList≤b.cps.toList
def leB (a b:Str):Bool:=decide (a.cps.toList≤b.cps.toList)
theorem leB_iff {a b:Str} : leB a b = true ↔ le a b:=by simp [leB,le]
theorem xX {a b:Str} (h:a.cps.toList = b.cps.toList):a = b:=by
 obtain ⟨x⟩:=a
 obtain ⟨y⟩:=b
 have:x = y:=Array.toList_inj.mp h
 rw [this]
theorem wK {a b:Str} (h1:le a b) (h2:le b a):a = b:=xX (List.le_antisymm h1 h2)
theorem yp {a b c:Str} (h1:le a b) (h2:le b c):le a c:=List.le_trans h1 h2
theorem zc (a b:Str):le a b∨le b a:=List.le_total _ _
def aQ (xs:List Str):List Str:=xs.mergeSort leB
theorem de (xs:List Str):(aQ xs).Perm xs:=List.mergeSort_perm _ _
theorem qb (xs:List Str):(aQ xs).Pairwise le:=by
 have h:=List.pairwise_mergeSort (le:=leB) (fun a b c h1 h2=>leB_iff.mpr (yp (leB_iff.mp h1) (leB_iff.mp h2))) (fun a b=>by
  rcases zc a b with h | h
  ·rw [leB_iff.mpr h];rfl
  ·rw [leB_iff.mpr h,Bool.or_true]) xs
 exact h.imp fun h=>leB_iff.mp h
theorem pw_unique {xs ys:List Str} (h1:xs.Pairwise le) (h2:ys.Pairwise le) (p:xs.Perm ys):xs = ys :=
 List.Perm.eq_of_pairwise (fun a b _ _=>wK) h1 h2 p
theorem uw {xs ys:List Str} (h:xs.Pairwise le) (p:xs.Perm ys):xs = aQ ys:=pw_unique h (qb ys) (p.trans (de ys).symm)
theorem rS {xs ys:List Str} (p:xs.Perm ys):aQ xs = aQ ys:=uw (qb xs) ((de xs).trans p)
theorem cR {xs:List Str} {x:Str} : x ∈ aQ xs ↔ x ∈ xs:=(de xs).mem_iff
theorem d8 (xs:List Str):(aQ xs).length = xs.length:=(de xs).length_eq
theorem sL {xs:List Str} : (aQ xs).Nodup ↔ xs.Nodup:=(de xs).nodup_iff
theorem mj:∀ {p:Str} {l:List Str},risingS p l = true→(p :: l).Pairwise le
 | p,[],_=>by simp
 | p,x :: r,h=>by
  have h' : (!ltCps x.cps.toList p.cps.toList && risingS x r) = true:=h
  obtain ⟨h1,h2⟩:=Bool.and_eq_true_iff.mp h'
  have ih:=mj h2
  have hpx:le p x:=by
   rw [ltCps_eq] at h1
   exact List.not_lt.mp (by simpa using h1)
  refine List.pairwise_cons.mpr ⟨fun b hb=>?_,ih⟩
  rcases List.mem_cons.mp hb with rfl | hb
  ·exact hpx
  ·exact yp hpx ((List.pairwise_cons.mp ih).1 b hb)
theorem sx:∀ {l:List Str},sortedS l = true→l.Pairwise le
 | [],_=>.nil
 | x :: r,h=>mj h
end UfSrt
end
section
namespace UfSort
open PySem PySem.Spec PyProof.Rows UfSrt
theorem fm:∀ {vs:List Value} {ss:List Str},StrsAre vs ss→vs.length = ss.length
 | _,_,.nil=>rfl
 | _,_,.cons _ _ h=>by rw [List.length_cons,List.length_cons,fm h]
structure Left (h h' : Heap) (D:Addr) (ss:List Str):Prop where
 keep:∀ b o,h.get? b = some o→h'.get? b = some o
 new:h.objs.size≤D
 at' : ∃ vs n,h'.get? D = some { cls:=.type "list",data:=.seq (List.toArray vs) n }∧StrsAre vs (aQ ss)
section
variable {prog:Program} {w:World} {A:Around} {E:Value→Shared→Prop} {s:Shared}
theorem jm {r:Value} {ss:List Str} {Q:Value→Shared→Prop}
  (hc:∀ {Q' : List Value→Shared→Prop},(∀ h' tk d vs ss',(∀ b o,s.heap.get? b = some o→h'.get? b = some o)→s.heap.objs.size≤h'.objs.size→StrsAre vs ss'→ss'.Perm ss→Q' vs { s with heap:=h',toks:=tk,drawn:=d })→wpAny (model prog w) A.in1 (collect r) Q' E s)
  (h64:ss.length < 64) (h:∀ h' tk d D,Left s.heap h' D ss→Q (.ref D) { s with heap:=h',toks:=tk,drawn:=d }):wpAny (model prog w) A (call (.builtin "sorted") [r]) Q E s:=by
 refine Calls.call_function_entry kind_sorted plain_sorted entry_sorted (args_sorted1 _) ?_
 unfold Builtin.«sorted»
 refine wpAny_bind (m:=checkCount "sorted" 1 1 _) (wpAny_pure ?_)
 refine wpAny_bind (hc fun h1 tk d vs ss1 k1 z1 hS hp=>?_)
 have hl:vs.length = ss.length:=by rw [fm hS,hp.length_eq]
 refine wpAny_bind (wpAny_newList ?_ (by rw [sizeLine_eq];lia))
 have hoL:(h1.push (seqObj "list" vs.toArray 0)).get? h1.objs.size = some (seqObj "list" vs.toArray 0):=Heap.get?_push_size _ rfl
 refine wpAny_bind (wpAny_holding (wpAny_call_entry slot_list_sort ⟨_,hoL,rfl⟩ entry_list_sort (list_sort_treeK strKind_oneLt hoL hS.keysOf (fun v₁ v₂ rest e=>keyKind_strs (by rw [← e];exact hS)) (by lia) fun st' a1 a2=>⟨_,rfl,?_⟩) (args_list_sort _)))
 obtain ⟨ss',q1,q2,q3⟩:=sorted_out_str hS a1 a2
 obtain ⟨e,he⟩:=sortedHeap_at (h:=h1.push (seqObj "list" vs.toArray 0)) (a:=h1.objs.size) (vs:=vs) (n:=0) (out:=(arrOf st').map (·.2)) hoL
 refine wpAny_pure ⟨_,rfl,h _ tk d _ ⟨fun b o hb=>?_,?_,((arrOf st').map (·.2)).toList,e,by rw [Array.toArray_toList];exact he,?_⟩⟩
 ·have hb1:=k1 b o hb
  rw [sortedHeap_old (Nat.ne_of_lt (Heap.lt_size hb1)) (by rw [size_push'];exact Nat.lt_succ_of_lt (Heap.lt_size hb1))]
  exact Heap.get?_push_of_some _ hb1
 ·exact z1
 ·have:ss' = aQ ss:=uw (sx q3) (q2.trans hp)
  rw [← this]
  exact q1
theorem qK {ord:List Str} : ∀ {vs:List Value} {j:Nat},vs.length + j = ord.length→(∀ (i:Nat) v,vs[i]? = some v→UfSet.At ord (j + i) v)→StrsAre vs (ord.drop j)
 | [],j,hl,_=>by
  rw [List.drop_of_length_le (by simp at hl;lia)]
  exact .nil
 | v :: vs,j,hl,h=>by
  obtain ⟨k,tk,e,hv⟩:=h 0 v rfl
  subst hv
  have hj:j < ord.length:=by simp at hl;lia
  have ej:ord[j] = k:=by
   rw [Nat.add_zero,List.getElem?_eq_getElem hj] at e
   exact Option.some.inj e
  rw [List.drop_eq_getElem_cons hj,ej]
  exact .cons k tk (qK (j:=j + 1) (by simp at hl;lia) fun i v e=>by
   have:=h (i + 1) v (by simpa using e)
   rw [show j + 1 + i = j + (i + 1) by lia]
   exact this)
theorem p4 {a:Addr} {ks:List Str} {Q:Value→Shared→Prop} (hh:A.handled = none) (hS:UfSet.cI w s.heap a ks) (h64:ks.length < 64)
  (h:∀ h' tk d D,Left s.heap h' D ks→Q (.ref D) { s with heap:=h',toks:=tk,drawn:=d }):wpAny (model prog w) A (call (.builtin "sorted") [.ref a]) Q E s :=
 jm (fun {Q'} hq=>UfSet.o8 (A:=A.in1) hh hS fun h' tk d ord vs hp hl hat hk hz=>hq h' tk d vs ord hk hz (by
  have:=qK (ord:=ord) (vs:=vs) (j:=0) (by lia) (fun i v e=>by rw [Nat.zero_add];exact hat i v e)
  simpa using this) hp) h64 h
theorem pz {l:Addr} {vs:List Value} {ss:List Str} {Q:Value→Shared→Prop} (hl:s.heap.IsList l vs.toArray) (hS:StrsAre vs ss) (h64:ss.length < 64)
  (h:∀ h' tk d D,Left s.heap h' D ss→Q (.ref D) { s with heap:=h',toks:=tk,drawn:=d }):wpAny (model prog w) A (call (.builtin "sorted") [.ref l]) Q E s :=
 jm (fun {Q'} hq=>collect_list (A:=A.in1) hl (hq _ s.toks s.drawn vs ss (fun b o e=>by
  rw [Heap.get?_update_other _ _ (Nat.ne_of_gt (Heap.lt_size e))]
  exact Heap.get?_push_of_some _ e) (by rw [Heap.size_update,size_push'];exact Nat.le_succ _) hS (.refl _)) (by rw [sizeLine_eq,fm hS];lia)) h64 h
end
end UfSort
end
section
namespace UfSet
open PySem PyProof.Rows
def dd (xs:List Str):List Str:=xs.foldl dM []
theorem vY {ks:List Str} {k x:Str} : x ∈ dM ks k ↔ x ∈ ks∨x = k:=by
 unfold dM
 split
 ·rename_i h
  constructor
  ·exact .inl
  ·rintro (q | rfl)
   ·exact q
   ·exact h
 ·simp
theorem oV {x:Str} : ∀ {xs acc:List Str},x ∈ xs.foldl dM acc ↔ x ∈ acc∨x ∈ xs
 | [],acc=>by simp
 | y :: xs,acc=>by
  rw [List.foldl_cons,oV,vY,List.mem_cons,or_assoc]
theorem jS:∀ {xs acc:List Str},acc.Nodup→(xs.foldl dM acc).Nodup
 | [],_,h=>h
 | y :: xs,acc,h=>jS (xs:=xs) (fX h)
theorem ot:∀ {xs acc:List Str},(xs.foldl dM acc).length≤acc.length + xs.length
 | [],acc=>by simp
 | y :: xs,acc=>by
  have h1:=ot (xs:=xs) (acc:=dM acc y)
  have h2:=jF acc y
  rw [List.foldl_cons,List.length_cons]
  lia
theorem nu {xs:List Str} {x:Str} : x ∈ dd xs ↔ x ∈ xs:=by unfold dd;rw [oV];simp
theorem kI (xs:List Str):(dd xs).Nodup:=jS .nil
theorem ig:∀ {xs acc:List Str},(acc ++ xs).Nodup→xs.foldl dM acc = acc ++ xs
 | [],acc,_=>by simp
 | y :: xs,acc,h=>by
  have hy : ¬ y ∈ acc:=fun z=>by
   rw [List.nodup_append] at h
   exact h.2.2 y z y List.mem_cons_self rfl
  rw [List.foldl_cons,show dM acc y = acc ++ [y] by unfold dM;rw [if_neg hy],ig (by rw [List.append_assoc];exact h),List.append_assoc]
  rfl
theorem oG {xs:List Str} (h:xs.Nodup):dd xs = xs:=by unfold dd;rw [ig (by simpa using h)];rfl
theorem mn:∀ {xs acc:List Str},acc.Nodup→(xs.foldl dM acc).length = acc.length + xs.length→(acc ++ xs).Nodup
 | [],acc,h,_=>by simpa using h
 | y :: xs,acc,h,hl=>by
  rw [List.foldl_cons,List.length_cons] at hl
  by_cases hy:y ∈ acc
  ·rw [show dM acc y = acc by unfold dM;rw [if_pos hy]] at hl
   have:=ot (xs:=xs) (acc:=acc)
   lia
  ·have e:dM acc y = acc ++ [y]:=by unfold dM;rw [if_neg hy]
   rw [e] at hl
   have q:=mn (xs:=xs) (acc:=acc ++ [y]) (by rw [← e];exact fX h) (by rw [List.length_append,List.length_singleton];lia)
   rw [List.append_assoc] at q
   exact q
theorem pJ {xs:List Str} : (dd xs).length = xs.length ↔ xs.Nodup:=by
 constructor
 ·intro h
  have:=mn (xs:=xs) (acc:=[]) .nil (by rw [List.length_nil,Nat.zero_add];exact h)
  simpa using this
 ·intro h
  rw [oG h]
section
variable {prog:Program} {w:World} {A:Around} {R:Result→Shared→Prop} {I:Addr} {fp wr:List Addr} {G:Array GenState→Array GenState→Prop} {St:Nat→Shared→Prop}
theorem cI.keeps {w:World} {h h' : Heap} {a:Addr} {ks:List Str} (x:cI w h a ks) (k:∀ o,h.get? a = some o→h'.get? a = some o):cI w h' a ks:=by
 obtain ⟨o,es,ep,t,ks',ho,r⟩:=x
 exact ⟨o,es,ep,t,ks',k _ ho,r⟩
theorem ux {xs:List Str} (W:WalksS prog w A.in1 I fp wr G xs.length (At xs) St) (S:Addr) (hSf:S ∉ fp) (hb:xs.length + 1 < scanBound):∀ (k i:Nat) (s:Shared) (acc:List Str),xs.length - i = k→i≤xs.length→St i s→cI w s.heap S acc→acc.length≤i →
  (∀ s',Moved (S :: wr) G s s'→cI w s'.heap S ((xs.drop i).foldl dM acc)→R (.ok (.ret .none)) s')→codeAny (model prog w) A (.builtin "set.update.loop" ⟨[.ref S,.ref I],[]⟩) R s:=by
 have nSw:S ∉ wr:=fun z=>hSf (W.sub _ z)
 have sub:∀ b ∈ wr,b ∈ S :: wr:=fun b z=>List.mem_cons_of_mem _ z
 intro k
 induction k with
 | zero =>
  intro i s acc hk hi st hS ha hR
  have e:i = xs.length:=by lia
  subst e
  refine codeAny_builtin PyProof.Rows.F.entry_set_update_loop ?_
  rw [Around.under_plainId PyProof.Rows.F.plain_set_update_loop _]
  show wpAny _ A.in1 (pyNext (.ref I) >>= _) _ _ s
  refine wpAny_bind (W.done s _ _ st fun s' hm=>?_)
  show wpAny _ A.in1 (ret Value.none) _ _ s'
  refine wpAny_pure (hR s' (hm.mono sub) ?_)
  rw [List.drop_of_length_le (Nat.le_refl _)]
  exact hS.keeps fun o ho=>hm.heap S _ nSw ho
 | succ k ih =>
  intro i s acc hk hi st hS ha hR
  have hlt:i < xs.length:=by lia
  refine codeAny_builtin PyProof.Rows.F.entry_set_update_loop ?_
  rw [Around.under_plainId PyProof.Rows.F.plain_set_update_loop _]
  show wpAny _ A.in1 (pyNext (.ref I) >>= _) _ _ s
  refine wpAny_bind (W.item i s _ _ hlt st fun v s' hP st' hm=>?_)
  obtain ⟨x,tk,ex,rfl⟩:=hP
  have hS' : cI w s'.heap S acc:=hS.keeps fun o ho=>hm.heap S _ nSw ho
  show wpAny _ A.in1 (holding [Value.str x tk] (setAdd S (.str x tk)) >>= _) _ _ s'
  refine wpAny_bind (wpAny_holding ?_)
  unfold setAdd
  refine wpAny_holding ?_
  refine wpAny_bind ((strKind prog w).pyHash (k:=x) (by simp [PySem.strKind,Value.isStrOf]) ?_)
  refine qI (s:={ s' with toks:=s'.toks + 1 }) hS' (by lia) fun h' b sb hS2=>?_
  have hd:xs.drop i = x :: xs.drop (i + 1):=by
   rw [List.drop_eq_getElem_cons hlt]
   rw [List.getElem?_eq_getElem hlt] at ex
   rw [Option.some.inj ex]
  refine wpAny_pure ⟨plainId_quiet PyProof.Rows.F.plain_set_update_loop _,ih (i + 1) _ (dM acc x) (by lia) hlt (W.frame _ s' _ _ st' (Nat.le_succ _) fun b hb' o e=>?_) hS2 (by have:=jF acc x;lia) fun s'' hm2 hS3=>?_⟩
  ·rw [sb.2 b (fun z:b = S=>hSf (by rw [← z];exact hb'))];exact e
  ·refine hR s'' (Moved.trans W.gtrans ((hm.mono sub).then_heap (Nat.le_succ _) fun b o hb' e=>?_) hm2) ?_
   ·rw [sb.2 b (fun z:b = S=>hb' (by rw [z];exact List.mem_cons_self))];exact e
   ·rw [hd,List.foldl_cons]
    exact hS3
end
end UfSet
end
section
namespace UfSet
open PySem PyProof.Rows
abbrev cE (w:World):Obj:={ cls:=.type "set",dict:=none,data:=.set #[] 0 (.fresh 0 0 (!df w)) }
theorem sk {w:World} {h:Heap} {a:Addr} (ho:h.get? a = some (cE w)):cI w h a [] :=
 ⟨_,#[],0,_,[],ho,⟨rfl,rfl,rfl⟩,rfl,.nil,.refl _,.nil,by show 0 < scanBound;unfold scanBound;lia,by rfl,fun _=>rfl,rfl⟩
theorem fm:∀ {vs:List Value} {ss:List Str},StrsAre vs ss→vs.length = ss.length
 | _,_,.nil=>rfl
 | _,_,.cons _ _ h=>by rw [List.length_cons,List.length_cons,fm h]
theorem nD:∀ {vs:List Value} {ss:List Str} {i:Nat} {v:Value},StrsAre vs ss→vs[i]? = some v→At ss i v
 | _,_,_,_,.nil,e=>by simp at e
 | _,_,0,v,.cons x t h,e=>by
  have:Value.str x t = v:=by simpa using e
  exact ⟨x,t,rfl,this.symm⟩
 | _,_,i + 1,_,.cons x t h,e=>by
  obtain ⟨k,tk,q1,q2⟩:=nD (i:=i) h (by simpa using e)
  exact ⟨k,tk,by simpa using q1,q2⟩
theorem _root_.PySem.Walks.imp {prog:Program} {w:World} {A:Around} {I:Addr} {fp wr:List Addr} {n:Nat} {P P' : Nat→Value→Prop} {St:Nat→Heap→Prop} (W:Walks prog w A I fp wr n P St) (h:∀ i v,P i v→P' i v):Walks prog w A I fp wr n P' St where
 sub:=W.sub
 frame:=W.frame
 item:=fun i s Q E hi st hQ=>W.item i s Q E hi st fun v h' tk hP=>hQ v h' tk (h i v hP)
 done:=W.done
 self:=W.self
section
variable {prog:Program} {w:World} {A:Around} {E:Value→Shared→Prop} {s:Shared}
theorem tR (x:Value) {Q:Value→Shared→Prop} (hq:Q (.ref s.heap.objs.size) { s with heap:=s.heap.push (cE w) }) :
  codeAny (model prog w) A (.call (.builtin "set.__new__") ⟨[.type "set",x],[]⟩) (wants Q E) s:=by
 refine codeAny_of_tree ?_
 show wpAny _ A.in1 (checkBuiltinCall "set.__new__" ⟨[.type "set",x],[]⟩ >>= fun _=>again (.builtin "set.__new__" ⟨[.type "set",x],[]⟩)) _ _ s
 refine wpAny_bind (wpAny_of_eq (PySem.F.newCall_set_1 x) (wpAny_pure ⟨plainId_quiet PySem.F.plain_set_new _,codeAny_builtin PySem.F.entry_set_new ?_⟩))
 rw [Around.under_plainId PySem.F.plain_set_new _]
 unfold Builtin.«set.__new__» Builtin.Frozenset.newClass
 have f1:=sub_set_self
 obtain ⟨hp,g,d,tk,os⟩:=s
 dsimp only
 wp_walk
 refine wpAny_askSetting (wpAny_pure ?_)
 dsimp only
 simp only [newObj]
 refine wpAny_bind (wpAny_alloc (wpAny_pure ?_))
 exact wpAny_pure hq
theorem oJ {l:Addr} {its:List Value} {xs:List Str} {Q:Value→Shared→Prop} (hh:A.handled = none) (hl:s.heap.IsList l its.toArray) (hx:StrsAre its xs) (hb:xs.length + 1 < scanBound)
  (h:∀ (h' : Heap) (tk:Nat),cI w h' s.heap.objs.size (dd xs)→(∀ b o,s.heap.get? b = some o→h'.get? b = some o)→Q (.ref s.heap.objs.size) { s with heap:=h',toks:=tk }) :
  wpAny (model prog w) A (call (.type "set") [.ref l]) Q E s:=by
 obtain ⟨c,tl,g1⟩:=PySem.F.called_set.mro
 have g2:=PySem.F.called_set.made
 have g3:=PySem.F.called_set.sub
 refine wpAny_call (codeAny_of_tree ?_)
 show wpAny _ _ (callAny (.type "set") _) _ _ _
 refine wpAny_pure ⟨Code.quiet_builtin _ (by decide +kernel),codeAny_builtin PySem.F.entry_type_call ?_⟩
 rw [Around.under_plain (weight_type_call_type "set" [.ref l] []) rfl]
 have g4:=PySem.F.called_set.notType
 have g5:=PySem.F.called_set.canCreate
 have g6:=PySem.F.typeCall_set_1 (.ref l)
 repeat (any_goals (first | assumption | wp_step))
 refine codeAny_mono (tR (.ref l) (E:=E) (Q:=fun obj s₁=>obj = .ref s.heap.objs.size∧s₁ = { s with heap:=s.heap.push (cE w) }) ⟨rfl,rfl⟩) fun r s₁ hr=>?_
 cases r with
 | error e=>exact hr
 | ok fl =>
  cases fl with
  | ret obj =>
   obtain ⟨rfl,rfl⟩:=hr
   have o1:(s.heap.push (cE w)).get? s.heap.objs.size = some (cE w):=Heap.get?_push_size _ rfl
   have T1:Shared.TypeIs { s with heap:=s.heap.push (cE w) } (.ref s.heap.objs.size) "set":=⟨_,o1,rfl⟩
   have g7:=PySem.F.called_set.init.lookup
   have g8:=PySem.F.called_set.init.bind (.ref s.heap.objs.size)
   repeat (any_goals (first | assumption | wp_step))
   refine codeAny_mono (codeAny_call_builtin (R:=wants (fun r s₂=>r = .none∧∃ h' tk,s₂ = { s with heap:=h',toks:=tk }∧cI w h' s.heap.objs.size (dd xs)∧(∀ b o,s.heap.get? b = some o→h'.get? b = some o)) E) PySem.F.called_set.init.plain PySem.F.entry_set_init (check_set_init_1 T1 ?_)) fun r₂ s₂ hr₂=>?_
   ·obtain ⟨ol,hol,hcl,nl,hdl⟩:=hl
    obtain ⟨ocls,odict,odata,oslots⟩:=ol
    simp only at hcl hdl
    subst hcl;subst hdl
    have hol' : (s.heap.push (cE w)).get? l = some { cls:=.type "list",dict:=odict,data:=.seq its.toArray nl,slots:=oslots }:=Heap.get?_push_of_some _ hol
    have n1:=PySem.F.sub_list_set
    have n2:=PySem.F.sub_list_frozenset
    have n3:(Value.type "list" == Value.type "dict") = false:=by decide
    have l1:(s.heap.push (cE w)).IsList l its.toArray:=⟨_,hol',rfl,nl,rfl⟩
    unfold Builtin.«set.__init__» noKeywords Builtin.Frozenset.updateFrom
    generalize hPI:pyIter = PI
    wp_walk
    subst hPI
    refine wpAny_pyIter_list l1 ?_
    refine wpAny_bind (wpAny_runValue ?_)
    have lt:l < s.heap.objs.size:=Heap.lt_size hol
    have h3:A.in1.in1.in1.handled = none:=by simp [hh]
    have neI:l≠(s.heap.push (cE w)).objs.size:=by rw [Heap.size_push];exact Nat.ne_of_lt (Nat.lt_succ_of_lt lt)
    have nf:s.heap.objs.size ∉ [(s.heap.push (cE w)).objs.size,l]:=by
     rw [Heap.size_push]
     simp only [List.mem_cons,List.not_mem_nil,or_false,not_or]
     exact ⟨Nat.ne_of_lt (Nat.lt_succ_self _),Nat.ne_of_gt lt⟩
    have hat:∀ (i:Nat) (v:Value),its.toArray[i]? = some v→At xs i v:=fun i v e=>by
     have e' : its[i]? = some v:=by simpa using e
     exact nD hx e'
    have hsz:its.toArray.size = xs.length:=by rw [List.size_toArray];exact fm hx
    have W0:=(Walks.list (prog:=prog) (w:=w) h3 (s.heap.push (cE w)).objs.size l neI its.toArray).imp hat
    rw [hsz] at W0
    refine ux W0.toS s.heap.objs.size nf hb xs.length 0 _ [] (by lia) (Nat.zero_le _) ⟨⟨_,Heap.get?_push_size _ rfl,rfl,rfl⟩,(l1.push _)⟩ (sk (Heap.get?_push_of_some _ o1)) (Nat.le_refl _) ?_
    intro s' hm hS'
    rw [List.drop_zero] at hS'
    rw [ke hm]
    show wpAny _ _ _ _ _ _
    refine wpAny_pure ?_
    show wpAny _ _ (ret Value.none) _ _ _
    refine wpAny_pure ⟨rfl,s'.heap,s'.toks,rfl,hS',fun b o e=>?_⟩
    have lb:=Heap.lt_size e
    refine hm.heap b o (fun z=>?_) (Heap.get?_push_of_some _ (Heap.get?_push_of_some _ e))
    simp only [List.mem_cons,List.not_mem_nil,or_false] at z
    rcases z with z | z
    ·exact absurd z (Nat.ne_of_lt lb)
    ·rw [Heap.size_push] at z
     exact absurd z (Nat.ne_of_lt (Nat.lt_succ_of_lt lb))
   ·cases r₂ with
    | error e=>exact hr₂
    | ok fl₂ =>
     cases fl₂ with
     | ret r =>
      obtain ⟨rfl,h',tk,rfl,q1,q2⟩:=hr₂
      repeat (any_goals (first | assumption | wp_step))
      exact h _ _ q1 q2
     | _=>exact hr₂.elim
  | _=>exact hr.elim
end
end UfSet
end
section
namespace L2
open PySem PySem.Spec PyProof.Rows UfSrt
section
variable {X:Cx} {pins:List (Addr × Obj)} {σ:St} {H:Hp} {s:Shared}
theorem Inv.draw (I:Inv X pins σ H s) (d:Drawn):Inv X pins σ H { s with drawn:=d } :=
 ⟨I.ok,I.os,I.bare,I.base,I.loc,I.cell,I.free,I.freeC,I.pin,I.hok,I.len⟩
def av (ss:List Str):List V:=ss.map V.str
theorem mR:∀ {ss:List Str} {us:List Value},Vals (av ss) us→StrsAre us ss
 | [],_,.nil=>.nil
 | x :: ss,_,.cons r t=>by
  obtain ⟨tk,rfl⟩:=r
  exact .cons x tk (mR t)
theorem rB:∀ {ss:List Str} {us:List Value},StrsAre us ss→Vals (av ss) us
 | _,_,.nil=>.nil
 | _,_,.cons x tk h=>.cons ⟨tk,rfl⟩ (rB h)
theorem ao (ss:List Str):(av ss).length = ss.length:=List.length_map _
def oS (w:World) (a:Addr) (ks:List Str):HO:=.ext fun h=>UfSet.cI w h a ks
theorem yX {P:Program} {w:World} {H' : Hp} {h:Heap} {a:Addr} {ks:List Str} (x:UfSet.cI w h a ks):bo P w H' h a (oS w a ks):=by
 refine ⟨x,?_,fun h1 h2 p k=>p.keeps k⟩
 obtain ⟨o,_,_,_,_,e,_⟩:=x
 exact ⟨o,e⟩
theorem vG {a:Addr} {ks:List Str} (I:Inv X pins σ H s) (e:H a = some (oS X.w a ks)):UfSet.cI X.w s.heap a ks:=(I.hok a _ e).1
def yU (K:PySem.W.Frag) (w:World):List V→Hp→VK→Prop:=fun xs H Q=>∃ l ss,xs = [.ref l]∧aY K H l (av ss)∧ss.length≤1000∧∀ p,H p = none→Q (.ref p) (upd H p (oS w p (UfSet.dd ss)))
theorem oZ (hc:X.calm = true):eQ X (.type "set") (yU X.K X.w):=by
 intro pins s σ H xs us Q I r h
 obtain ⟨l,ss,rfl,hl,hz,q⟩:=h
 obtain ⟨u,rfl,ru⟩:=vals1 r
 cases ru
 obtain ⟨its,rv,pl,_⟩:=I.list hl
 have hS:=mR rv
 have hf:H s.heap.objs.size = none:=I.hok.fresh (Nat.le_refl _)
 refine UfSet.oJ (I.ok.hd hc) pl.isList hS (by show ss.length + 1 < 4096;lia) fun h' tk hset hk=>?_
 exact ⟨.ref s.heap.objs.size,_,I.laid (t':=tk) hk (Nat.le_refl _) (yX hset),rfl,q _ hf⟩
theorem sI:eQ X (.builtin "len") (fun xs H Q=>∃ a ks,xs = [V.ref a]∧H a = some (oS X.w a ks)∧Q (.int ks.length) H):=by
 intro pins s σ H xs us Q I r h
 obtain ⟨a,ks,rfl,ha,q⟩:=h
 obtain ⟨u,rfl,ru⟩:=vals1 r
 cases ru
 obtain ⟨o,es,ep,t,ks',ho,hex,hd,he,hp,hn,hb,hf,_⟩:=vG I ha
 have el:es.size = ks.length:=by rw [← hp.length_eq,he.len];simp
 have hb' : es.size < 4096:=hb
 refine call_len_set ho hex hd hf (by lia) ⟨.int ks.length,H,I.tok _,⟨_,by rw [el]⟩,q⟩
theorem kO {h' : Heap} {tk:Nat} {d:Drawn} {D:Addr} {ss:List Str} (I:Inv X pins σ H s) (L:UfSort.Left s.heap h' D ss) (hz:ss.length≤1000):Inv X pins σ (upd H D (.lst (av (aQ ss)))) { s with heap:=h',toks:=tk,drawn:=d }:=by
 obtain ⟨vs,n,e,hS⟩:=L.at'
 have hl:(av (aQ ss)).length≤sizeLine:=by
  rw [ao,d8,sizeLine_eq]
  lia
 exact (I.laid (o:=.lst (av (aQ ss))) (t':=tk) L.keep L.new (show bo X.prog X.w _ h' D (.lst (av (aQ ss))) from ⟨hl,vs,n,rB hS,e⟩)).draw d
def Aa (K:PySem.W.Frag):List V→Hp→VK→Prop:=fun xs H Q=>∃ l ss,xs = [.ref l]∧aY K H l (av ss)∧ss.length < 64∧∀ p,H p = none→Q (.ref p) (upd H p (.lst (av (aQ ss))))
theorem dF:eQ X (.builtin "sorted") (Aa X.K):=by
 intro pins s σ H xs us Q I r h
 obtain ⟨l,ss,rfl,hl,hz,q⟩:=h
 obtain ⟨u,rfl,ru⟩:=vals1 r
 cases ru
 obtain ⟨its,rv,pl,_⟩:=I.list hl
 refine UfSort.pz pl.isList (mR rv) hz fun h' tk d D L=>?_
 exact ⟨.ref D,_,kO I L (by lia),rfl,q _ (I.hok.fresh L.new)⟩
def zh (w:World):List V→Hp→VK→Prop:=fun xs H Q=>∃ a ks,xs = [.ref a]∧H a = some (oS w a ks)∧ks.length < 64∧∀ p,H p = none→Q (.ref p) (upd H p (.lst (av (aQ ks))))
theorem qo (hc:X.calm = true):eQ X (.builtin "sorted") (zh X.w):=by
 intro pins s σ H xs us Q I r h
 obtain ⟨a,ks,rfl,ha,hz,q⟩:=h
 obtain ⟨u,rfl,ru⟩:=vals1 r
 cases ru
 refine UfSort.p4 (I.ok.hd hc) (vG I ha) hz fun h' tk d D L=>?_
 exact ⟨.ref D,_,kO I L (by lia),rfl,q _ (I.hok.fresh L.new)⟩
theorem vA:∀ {bs:List Bool} {us:List Value} {i:Nat} {v:Value},Vals (bs.map V.bl) us→us[i]? = some v→v = .bool (bs.getD i true)∧i < bs.length
 | [],_,_,_,.nil,e=>by simp at e
 | b :: bs,_,0,v,.cons r t,e=>by
  simp at e
  subst e
  exact ⟨r,by simp⟩
 | b :: bs,_,i + 1,v,.cons r t,e=>by
  obtain ⟨h1,h2⟩:=vA (i:=i) t (by simpa using e)
  exact ⟨by simpa using h1,by simpa using h2⟩
theorem all_range (bs:List Bool):(List.range bs.length).all (fun i=>bs.getD i true) = bs.all id:=by
 induction bs with
 | nil=>rfl
 | cons b bs ih =>
  rw [List.length_cons,List.range_succ_eq_map,List.all_cons,List.all_map,List.all_cons]
  have e:(List.range bs.length).all ((fun i=>(b :: bs).getD i true) ∘ Nat.succ) = (List.range bs.length).all (fun i=>bs.getD i true):=by
   congr 1
  rw [e,ih]
  rfl
theorem any_range (bs:List Bool):(List.range bs.length).any (fun i=>bs.getD i true) = bs.any id:=by
 induction bs with
 | nil=>rfl
 | cons b bs ih =>
  rw [List.length_cons,List.range_succ_eq_map,List.any_cons,List.any_map,List.any_cons]
  have e:(List.range bs.length).any ((fun i=>(b :: bs).getD i true) ∘ Nat.succ) = (List.range bs.length).any (fun i=>bs.getD i true):=by
   congr 1
  rw [e,ih]
  rfl
theorem kd {A:Around} {l:Addr} {bs:List Bool} {its:List Value} (hh:A.handled = none) (rv:Vals (bs.map V.bl) its) (I:Addr) (hne:l≠I) :
  Walks X.prog X.w A I [I,l] [I] bs.length (fun i v=>v = .bool (bs.getD i true)) (fun i h=>h.IsListIter I l i∧h.IsList l its.toArray):=by
 have el:its.toArray.size = bs.length:=by
  have:=rv.length
  rw [List.length_map] at this
  simp [this]
 have W:=(Walks.list (prog:=X.prog) (w:=X.w) hh I l hne its.toArray).imp (P':=fun i v=>v = .bool (bs.getD i true)) fun i v e=>(vA rv (by simpa using e)).1
 rw [el] at W
 exact W
def BG (K:PySem.W.Frag):List V→Hp→VK→Prop:=fun xs H Q=>∃ (l:Addr) (bs:List Bool),xs = [.ref l]∧aY K H l (bs.map V.bl)∧Q (.bl (bs.all id)) H
def Bv (K:PySem.W.Frag):List V→Hp→VK→Prop:=fun xs H Q=>∃ (l:Addr) (bs:List Bool),xs = [.ref l]∧aY K H l (bs.map V.bl)∧Q (.bl (bs.any id)) H
theorem kz (hc:X.calm = true):eQ X (.builtin "all") (BG X.K):=by
 intro pins s σ H xs us Q I r h
 obtain ⟨l,bs,rfl,hl,q⟩:=h
 obtain ⟨u,rfl,ru⟩:=vals1 r
 cases ru
 obtain ⟨its,rv,pl,_⟩:=I.list hl
 have hh:X.A.in1.handled = none:=I.ok.hd hc
 have lt:l < s.heap.objs.size:=let ⟨o,_,e,_⟩:=pl;Heap.lt_size e
 refine call_all_walk (wpAny_pyIter_list pl.isList ⟨_,_,_,_,_,_,fun i=>bs.getD i true,rfl,kd hh rv _ (Nat.ne_of_lt lt),⟨⟨_,Heap.get?_push_size _ rfl,rfl,rfl⟩,pl.isList.push _⟩,fun i v s Q E hv hQ=>?_,fun h' tk hk=>?_⟩)
 ·subst hv
  exact wpAny_truthy_bool hQ
 ·rw [all_range]
  refine ⟨.bl (bs.all id),H,I.kept (t':=tk) fun b o e=>hk b o (fun z=>?_) (Heap.get?_push_of_some _ e),rfl,q⟩
  have z' : b = s.heap.objs.size:=by simpa using z
  exact absurd (Heap.lt_size e) (by rw [z'];exact Nat.lt_irrefl _)
theorem jX (hc:X.calm = true):eQ X (.builtin "any") (Bv X.K):=by
 intro pins s σ H xs us Q I r h
 obtain ⟨l,bs,rfl,hl,q⟩:=h
 obtain ⟨u,rfl,ru⟩:=vals1 r
 cases ru
 obtain ⟨its,rv,pl,_⟩:=I.list hl
 have hh:X.A.in1.handled = none:=I.ok.hd hc
 have lt:l < s.heap.objs.size:=let ⟨o,_,e,_⟩:=pl;Heap.lt_size e
 refine call_any_walk (wpAny_pyIter_list pl.isList ⟨_,_,_,_,_,_,fun i=>bs.getD i true,rfl,kd hh rv _ (Nat.ne_of_lt lt),⟨⟨_,Heap.get?_push_size _ rfl,rfl,rfl⟩,pl.isList.push _⟩,fun i v s Q E hv hQ=>?_,fun h' tk hk=>?_⟩)
 ·subst hv
  exact wpAny_truthy_bool hQ
 ·rw [any_range]
  refine ⟨.bl (bs.any id),H,I.kept (t':=tk) fun b o e=>hk b o (fun z=>?_) (Heap.get?_push_of_some _ e),rfl,q⟩
  have z' : b = s.heap.objs.size:=by simpa using z
  exact absurd (Heap.lt_size e) (by rw [z'];exact Nat.lt_irrefl _)
def sign (c:Nat):V:=.str ⟨#[c]⟩
def AA (x:Str):It:=⟨fun i _=>i < x.cps.size,fun i H v H'=>H' = H∧∃ c,x.cps[i]? = some c∧v = sign c,fun i _=>i = x.cps.size⟩
end
theorem o4 {P:Program} {w:World} {K:PySem.W.Frag} {tg:Expr} {x:Str} {it:Addr} {St:Nat→Heap→Prop} (W:∀ A' : Around,A'.handled = none→Walks P w A' it [it] [it] x.cps.size (SignAt x) St)
  (ho:∀ i h,St i h→∃ o nm vs,h.get? it = some o∧o.cls = .type nm∧o.data = .fields vs∧["enumerate", "zip", "dict_itemiterator", "dict_reverseitemiterator", "odict_iterator", "itertools.zip_longest", "itertools.pairwise"].contains nm = false)
  (hs:∀ (A:Around) (i:Nat) (s:Shared) (Q:Value→Shared→Prop) (E:Value→Shared→Prop),St i s.heap→Q (.ref it) s→wpAny (model P w) A (pyIter (.ref it)) Q E s):Turn P w K tg (AA x) [it] it St where
 mem:=by simp
 obj:=fun i h st b hb=>by
  have e:b = it:=by simpa using hb
  subst e
  obtain ⟨o,nm,vs,e,_,d,_⟩:=ho i h st
  exact ⟨o,e,fun v z=>by rw [d] at z;cases z⟩
 keep:=fun i h h' st k=>(W ⟨none,0,none,none,1⟩ rfl).frame i h h' st fun b hb o e=>k b hb o e
 item:=by
  intro X hP hw hK hc i pins s σ H E I hf st hg
  subst hP hw hK
  obtain ⟨f0,f1,f2,f3,f4,f5⟩:=hf it (by simp)
  refine (W X.A (I.ok.hd hc)).item i s _ _ hg st fun v h' tk hP st' kk=>?_
  obtain ⟨c,u,hx,rfl⟩:=hP
  have I1:Inv X pins σ H { s with heap:=h',toks:=tk }:=I.turned (fun b o hb e=>kk b o (by simpa using hb) e) f0 f1 f3 f4 f5
  obtain ⟨o,nm,vs,e,c1,d,hn⟩:=ho _ _ st'
  exact ⟨_,rfl,nI (s:={ s with heap:=h',toks:=tk }) e c1 d hn ⟨sign c,H,I1,⟨u,rfl⟩,⟨rfl,c,hx,rfl⟩,st',fun b hb=>(hf b hb).1⟩⟩
 done:=by
  intro X hP hw hK hc i pins s σ H E I hf st hg
  subst hP hw hK
  obtain ⟨f0,f1,f2,f3,f4,f5⟩:=hf it (by simp)
  have e:i = x.cps.size:=hg
  subst e
  exact (W X.A (I.ok.hd hc)).done s _ _ st fun h' tk kk=>⟨rfl,I.turned (fun b o hb e=>kk b o (by simpa using hb) e) f0 f1 f3 f4 f5⟩
 self:=hs
section
variable {X:Cx} {tg:Expr}
def BD (tl:TE):TI:=fun σ H R=>tl σ H fun v H1=>∃ x,v = .str x∧R (AA x) H1
theorem Ac {l:Expr} {tl:TE} (hl:PE X l tl):PI X tg l (BD tl):=by
 intro pins s σ H R I h
 refine bx (hl pins s σ H _ I h) fun v s1 ⟨y,H1,I1,r1,q1⟩=>?_
 obtain ⟨x,e,q⟩:=q1
 subst e
 obtain ⟨t,rfl⟩:=r1
 have fp:∀ b ∈ [s1.heap.objs.size],gA X pins H1 b:=fun b hb=>by
  have e:b = s1.heap.objs.size:=by simpa using hb
  subst e
  exact I1.sF (Nat.le_refl _) (I1.hok.fresh (Nat.le_refl _))
 cases ha:x.cps.all (· < 128) with
 | false =>
  refine wpAny_pyIter_wide ha ?_
  refine ⟨s1.heap.objs.size,[s1.heap.objs.size],fun i h=>h.IsStrIter s1.heap.objs.size "str_iterator" x t i,AA x,H1,rfl,I1.kept (t':=s1.toks) fun b o e=>Heap.get?_push_of_some _ e,o4 (fun A' hA=>Walks.strWide hA _ x t) (fun i h st=>?_) (fun A i s Q E st hq=>wpAny_pyIter_striter_wide st hq),⟨_,Heap.get?_push_size _ rfl,rfl,rfl⟩,fp,q⟩
  obtain ⟨o,e1,e2,e3⟩:=st
  exact ⟨o,_,_,e1,e2,e3,by decide⟩
 | true =>
  refine wpAny_pyIter_ascii ha ?_
  refine ⟨s1.heap.objs.size,[s1.heap.objs.size],fun i h=>h.IsStrIter s1.heap.objs.size "str_ascii_iterator" x t i,AA x,H1,rfl,I1.kept (t':=s1.toks) fun b o e=>Heap.get?_push_of_some _ e,o4 (fun A' hA=>Walks.strAscii hA _ x t) (fun i h st=>?_) (fun A i s Q E st hq=>wpAny_pyIter_striter_ascii st hq),⟨_,Heap.get?_push_size _ rfl,rfl,rfl⟩,fp,q⟩
  obtain ⟨o,e1,e2,e3⟩:=st
  exact ⟨o,_,_,e1,e2,e3,by decide⟩
end
section
variable {K:PySem.W.Frag} {n:Nat} {ci:List Nat} {g:TG} {tt:TT} {te:TE} {σ:St} {H:Hp} {D:Addr} {Q:VK}
theorem bK {a:Addr} {xs:List V} (Pv:Nat→List V→Hp→Prop) (h0:Pv 0 [] (upd H D (.lst []))) (hl:∀ i ys H,i≤xs.length→Pv i ys H→aY K H a xs)
  (hs:∀ i x ys H,xs[i]? = some x→Pv i ys H→g x (oz n ci σ) H fun σ2 H2=>tt σ2 H2 fun b H3=>if b = true then te σ2 H3 fun y H4=>H4 D = some (.lst ys)∧ys.length < sizeLine∧Pv (i + 1) (ys ++ [y]) (upd H4 D (.lst (ys ++ [y]))) else Pv (i + 1) ys H3)
  (hd:∀ ys H,Pv xs.length ys H→Q (.ref D) H) :
  gP n ci (Ao K a) g tt te σ H D Q:=by
 unfold gP
 refine ⟨xs.length,Pv,h0,fun i ys H hi p=>?_⟩
 have q:=hl i ys H hi p
 by_cases hlt:i < xs.length
 ·refine .inr ⟨hlt,⟨xs,xs[i],q,by simp [hlt]⟩,fun x H' y=>?_⟩
  obtain ⟨e,y⟩:=y
  subst e
  exact hs i x ys _ (y xs q) p
 ·have e:i = xs.length:=by lia
  subst e
  exact .inl ⟨⟨xs,q,Nat.le_refl _⟩,hd ys H p⟩
theorem nz {a:Addr} {xs:List V} (Pv:Nat→List V→Hp→Prop) (h0:Pv 0 [] (upd H D (.lst []))) (hl:∀ i ys H,i≤xs.length→Pv i ys H→cV K H a xs)
  (hs:∀ i x ys H,xs[i]? = some x→Pv i ys H→g x (oz n ci σ) H fun σ2 H2=>tt σ2 H2 fun b H3=>if b = true then te σ2 H3 fun y H4=>H4 D = some (.lst ys)∧ys.length < sizeLine∧Pv (i + 1) (ys ++ [y]) (upd H4 D (.lst (ys ++ [y]))) else Pv (i + 1) ys H3)
  (hd:∀ ys H,Pv xs.length ys H→Q (.ref D) H) :
  gP n ci (Am K a) g tt te σ H D Q:=by
 unfold gP
 refine ⟨xs.length,Pv,h0,fun i ys H hi p=>?_⟩
 have q:=hl i ys H hi p
 by_cases hlt:i < xs.length
 ·refine .inr ⟨hlt,⟨xs,xs[i],q,by simp [hlt]⟩,fun x H' y=>?_⟩
  obtain ⟨e,y⟩:=y
  subst e
  exact hs i x ys _ (y xs q) p
 ·have e:i = xs.length:=by lia
  subst e
  exact .inl ⟨⟨xs,q,Nat.le_refl _⟩,hd ys H p⟩
theorem wb {x:Str} (Pv:Nat→List V→Hp→Prop) (h0:Pv 0 [] (upd H D (.lst [])))
  (hs:∀ i c ys H,x.cps[i]? = some c→Pv i ys H→g (sign c) (oz n ci σ) H fun σ2 H2=>tt σ2 H2 fun b H3=>if b = true then te σ2 H3 fun y H4=>H4 D = some (.lst ys)∧ys.length < sizeLine∧Pv (i + 1) (ys ++ [y]) (upd H4 D (.lst (ys ++ [y]))) else Pv (i + 1) ys H3)
  (hd:∀ ys H,Pv x.cps.size ys H→Q (.ref D) H) :
  gP n ci (AA x) g tt te σ H D Q:=by
 unfold gP
 refine ⟨x.cps.size,Pv,h0,fun i ys H hi p=>?_⟩
 by_cases hlt:i < x.cps.size
 ·refine .inr ⟨hlt,hlt,fun v H' y=>?_⟩
  obtain ⟨e,c,hc,rfl⟩:=y
  subst e
  exact hs i c ys _ hc p
 ·have e:i = x.cps.size:=by lia
  subst e
  exact .inl ⟨rfl,hd ys H p⟩
end
end L2
end
section
namespace L2
open PySem PySem.Spec PyProof.Rows PySem.W UfSrt
section
variable {prog:Program} {w:World} {A:Around} {E:Value→Shared→Prop} {s:Shared}
theorem mE {κ:Type} [DecidableEq κ] {knd:KeyKind prog w κ} {d:Addr} {kvs:List (κ × Value)} {ep:Nat} {Q:List Value→Shared→Prop} (hh:A.handled = none) (lo:(d == sysModules) = false) (hd:s.heap.DictAt knd d kvs ep) (hz:kvs.length≤sizeLine)
  (h:∀ (h' : Heap) (tk:Nat) (dr:Drawn) (vs:List Value),vs.length = kvs.length→(∀ (j:Nat) v,vs[j]? = some v→∃ k x,kvs[j]? = some (k,x)∧knd.is k v = true)→(∀ b o,s.heap.get? b = some o→h'.get? b = some o)→s.heap.objs.size≤h'.objs.size→Q vs { s with heap:=h',toks:=tk,drawn:=dr }) :
  wpAny (model prog w) A (collect (.ref d)) Q E s:=by
 refine UfSet.jB (T := "dict") (OK:=fun h=>h.DictAt knd d kvs ep) (R:=fun n P=>n = kvs.length∧P = fun i v=>∃ k x,kvs[i]? = some (k,x)∧knd.is k v = true) hh hd (fun h1 h2 x k=>x.at' fun o e=>k _ _ e) (fun s' x=>x.dictOf.typeIs) (fun h1 x=>x.lt_size) (by decide) (by decide)
  (fun A' E' s' Q' x q=>kdl_hint_dict x.dictOf.typeIs q) (fun A' E' s' Q' x q=>?_) ?_
 ·refine wpAny_pyIter_dict lo x ?_
  exact q s'.heap.objs.size _ s'.drawn kvs.length _ [s'.heap.objs.size,d] _ ⟨rfl,rfl⟩ hz (fun A2 h2=>Walks.dictKeys h2 _ d (Nat.ne_of_lt x.lt_size) kvs ep) ⟨⟨_,Heap.get?_push_size _ rfl,rfl,rfl⟩,x.push _⟩ (Nat.le_refl _) (fun b o e=>Heap.get?_push_of_some _ e) fun b hb=>by
   simp only [List.mem_cons,List.not_mem_nil,or_false] at hb
   rcases hb with rfl | rfl
   ·exact .inr (Nat.le_refl _)
   ·exact .inl rfl
 ·rintro h' tk dr n P vs ⟨rfl,rfl⟩ hl hat hk hz'
  exact h h' tk dr vs hl hat hk hz'
theorem rM:∀ {ks:List Str} {vs:List Value},vs.length = ks.length→(∀ (j:Nat) v,vs[j]? = some v→∃ k tk,ks[j]? = some k∧v = Value.str k tk)→StrsAre vs ks
 | [],[],_,_=>.nil
 | k :: ks,v :: vs,hl,h=>by
  obtain ⟨k',tk,e,rfl⟩:=h 0 v rfl
  have:k' = k:=by simpa using e.symm
  subst this
  exact .cons k' tk (rM (by simpa using hl) fun j u hu=>by
   obtain ⟨q,t,e1,e2⟩:=h (j + 1) u (by simpa using hu)
   exact ⟨q,t,by simpa using e1,e2⟩)
end
section
variable {X:Cx}
def zG:List V→Hp→VK→Prop:=fun xs H Q=>∃ (a:Addr) (kvs:List (Key × V)) (ks:List Str),xs = [.ref a]∧Rd H a (.dK kvs)∧kvs.map (·.1) = ks.map Sum.inr∧ks.length < 64∧∀ p,H p = none→Q (.ref p) (upd H p (.lst (av (aQ ks))))
theorem pC {P:Program} {w:World} {kvs:List (Key × V)} {vs:List (Key × Value)} {ks:List Str} {us:List Value} (r:KV kvs vs) (hk:kvs.map (·.1) = ks.map Sum.inr) (hl:us.length = vs.length)
  (hat:∀ (j:Nat) v,us[j]? = some v→∃ k x,vs[j]? = some (k,x)∧(aZ P w).is k v = true):StrsAre us ks:=by
 have e1:vs.map (·.1) = ks.map Sum.inr:=by rw [← r.keys];exact hk
 have l1:vs.length = ks.length:=by have:=congrArg List.length e1;simpa using this
 refine rM (by lia) fun j v e=>?_
 obtain ⟨k,x,e2,hi⟩:=hat j v e
 have e3:(vs.map (·.1))[j]? = some k:=by rw [List.getElem?_map,e2];rfl
 rw [e1,List.getElem?_map] at e3
 cases e4:ks[j]? with
 | none=>rw [e4] at e3;cases e3
 | some y =>
  rw [e4] at e3
  cases e3
  rw [qc] at hi
  rcases bC hi with ⟨i,t,z,_⟩ | ⟨y',t,z,z2⟩
  ·cases z
  ·cases z
   exact ⟨y,t,rfl,z2⟩
theorem qr (hc:X.calm = true):eQ X (.builtin "sorted") zG:=by
 intro pins s σ H xs us Q I r h
 obtain ⟨a,kvs,ks,rfl,ha,hk,hz,q⟩:=h
 obtain ⟨u,rfl,ru⟩:=vals1 r
 cases ru
 obtain ⟨zk,lo,vs,rel,hd⟩:=lY I.hok ha
 obtain ⟨ep,hat⟩:=hd.dictAt
 have hlen:vs.length≤sizeLine:=by rw [← rel.length];exact zk
 refine UfSort.jm (ss:=ks) (fun {Q'} hq=>mE (A:=X.A.in1) (knd:=aZ X.prog X.w) (I.ok.hd hc) lo hat hlen fun h' tk dr us' hl hat' hk' hz'=>hq h' tk dr us' ks hk' hz' (pC rel hk hl hat') (.refl _)) hz fun h' tk d D L=>?_
 exact ⟨.ref D,_,kO I L (by lia),rfl,q _ (I.hok.fresh L.new)⟩
end
end L2
end
section
namespace L2
open PySem PySem.Spec PyProof.Rows UfSrt
section
variable {X:Cx}
def x9 (tk tv:TE):TE:=fun σ H Q=>∀ p,H p = none→tk σ (upd H p (.dT [])) fun x H1=>tv σ H1 fun y H2=>H2 p = some (.dT [])∧∃ ks b,x = .ref b∧H2 b = some (.tup (ks.map kV))∧Q (.ref p) (upd H2 p (.dT [(ks,y)]))
theorem lQ {k v:Expr} {pos:Pos} {tk tv:TE} (hu:X.A.units + 1 < cLine) (hk:PE X k tk) (hv:PE X v tv):PE X (.Dict [some k] [v] pos) (x9 tk tv):=by
 intro pins s σ H Q I q
 have hn:=I.hok.fresh (Nat.le_refl s.heap.objs.size)
 have I1:=I.laid (a:=s.heap.objs.size) (o:=.dT []) (h':=s.heap.push { cls:=.type "dict",data:=.dict #[] }) (t':=s.toks) (fun _ _ q=>Heap.get?_push_of_some _ q) (Nat.le_refl _) (vg s.heap I.big)
 refine wpAny_Dict_any rfl rfl (by simp) (by show 1≤15;decide) (pairTrees_cons_walk (bx (hk pins _ σ _ _ I1 (q _ hn)) fun u s1 ⟨x,H1,J1,rx,q1⟩=>bx (hv pins s1 σ H1 _ J1 q1) fun w2 s2 ⟨y,H2,J2,ry,e,ks,b,ex,eb,q2⟩=>pairTrees_nil_walk ?_))
 subst ex
 obtain rfl:u = Value.ref b:=rx
 unfold storeAll
 rw [List.forIn_cons]
 obtain ⟨z,hd,xs,rel,dd⟩:=yi J2.hok e
 cases rel
 refine wpAny_bind (wpAny_bind (wpAny_dictSet_heap (knd:=tupleKind (aZ X.prog X.w)) (hsz:=by simp) (by have:=hu;show X.A.units < cLine;lia) (kB J2.hok eb) dd fun h' dd' hs=>wpAny_pure ?_))
 show wpAny _ _ (forIn [] PUnit.unit _) _ _ _
 rw [List.forIn_nil]
 refine wpAny_pure ?_
 obtain ⟨o,es,ep,hq,h2,h3,h4,_,h5⟩:=dd'
 refine ⟨.ref s.heap.objs.size,_,m6 J2 (by rw [e];exact True.intro) hs ⟨o,hq⟩ (ob:=.dT [(ks,y)]) ⟨by show 1≤sizeLine;rw [sizeLine_eq];decide,hd,_,?_,o,es,ep,hq,h2,h3,h4,h5⟩,rfl,q2⟩
 refine .cons ⟨rfl,?_,ry⟩ .nil
 rw [af (aR eb e (fun z=>nomatch z))]
 exact eb
theorem eq_nil:hX X (compareOp .Eq) (fun x y H Q=>∃ a b xs,x = .ref a∧y = .ref b∧X.A.units < cLine∧aY X.K H a xs∧aY X.K H b []∧Q (.bl xs.isEmpty) H):=by
 intro pins s σ H x y v u Q I rx ry h
 obtain ⟨a,b,xs,rfl,rfl,hu,ha,hb,q⟩:=h
 cases rx
 cases ry
 obtain ⟨its,r1,p1,_⟩:=I.list ha
 obtain ⟨its2,r2,p2,_⟩:=I.list hb
 cases r2
 cases r1 with
 | nil=>exact PySem.SeqAt.RcAt.lists (e:=fun _=>true) p1.isList p2.isList rfl hu (fun j h1 _=>absurd h1 (by simp)) X.prog X.w X.xe _ ⟨.bl true,H,I,rfl,q⟩
 | cons _ _=>exact PySem.SeqAt.RcAt.lists_lengths p1.isList p2.isList (by simp) hu X.prog X.w X.xe _ ⟨.bl false,H,I,rfl,q⟩
def oy (x:Str) (n:Nat):Str:=⟨(List.replicate n x.cps).foldl (· ++ ·) #[]⟩
theorem uF (x:Str):oy x 1 = x:=by
 unfold oy
 simp [List.replicate,List.foldl]
def CG:V→Option Int→Option Int→Hp→VK→Prop:=fun x lo hi H Q=>∃ z:Str,x = .str z∧z.length≤sizeLine∧Q (.str (Txt.slice z lo hi)) H
theorem pB:Ci X CG:=by
 intro pins s σ H x v vl vu lo hi sl Q I rx hs pl pu h
 obtain ⟨z,rfl,hz,q⟩:=h
 obtain ⟨t,rfl⟩:=rx
 refine ⟨"str",_,PySem.F.slot_str_getitem.lookup,typeIs_str _ _ _,?_⟩
 cases pl with
 | none =>
  cases pu with
  | none=>exact wpAny_getItem_str_slice (l:=none) (u:=none) (st:=none) hs rfl (post_val_or_str ⟨Nat.le_trans (Txt.slice_le z _ _) hz,fun t' k=>⟨.str _,H,I.tok k,⟨_,rfl⟩,q⟩⟩)
  | int j uj=>exact wpAny_getItem_str_slice (l:=none) (u:=some (j,uj)) (st:=none) hs rfl (post_val_or_str ⟨Nat.le_trans (Txt.slice_le z _ _) hz,fun t' k=>⟨.str _,H,I.tok k,⟨_,rfl⟩,q⟩⟩)
 | int i ui =>
  cases pu with
  | none=>exact wpAny_getItem_str_slice (l:=some (i,ui)) (u:=none) (st:=none) hs rfl (post_val_or_str ⟨Nat.le_trans (Txt.slice_le z _ _) hz,fun t' k=>⟨.str _,H,I.tok k,⟨_,rfl⟩,q⟩⟩)
  | int j uj=>exact wpAny_getItem_str_slice (l:=some (i,ui)) (u:=some (j,uj)) (st:=none) hs rfl (post_val_or_str ⟨Nat.le_trans (Txt.slice_le z _ _) hz,fun t' k=>⟨.str _,H,I.tok k,⟨_,rfl⟩,q⟩⟩)
end
end L2
end
section
namespace UfB
open PySem
theorem xQ (x y:Nat):Builtin.bitAnd (x:Int) (y:Int) = ((x &&& y:Nat):Int):=by
 unfold Builtin.bitAnd
 rw [decide_eq_true (Int.natCast_nonneg x),decide_eq_true (Int.natCast_nonneg y)]
 simp
theorem mG (x y:Nat):Builtin.bitOr (x:Int) (y:Int) = ((x ||| y:Nat):Int):=by
 unfold Builtin.bitOr Builtin.bitAnd
 have h1:decide (0≤Builtin.bitNot (x:Int)) = false:=decide_eq_false (by unfold Builtin.bitNot;lia)
 have h2:decide (0≤Builtin.bitNot (y:Int)) = false:=decide_eq_false (by unfold Builtin.bitNot;lia)
 rw [h1,h2]
 have e1:(Builtin.bitNot (Builtin.bitNot (x:Int))).toNat = x:=by unfold Builtin.bitNot;lia
 have e2:(Builtin.bitNot (Builtin.bitNot (y:Int))).toNat = y:=by unfold Builtin.bitNot;lia
 show Builtin.bitNot (Builtin.bitNot _) = _
 rw [e1,e2]
 unfold Builtin.bitNot
 lia
theorem xZ (x y:Nat) (h:x &&& y = y) (h2:x ||| y = x):Builtin.bitXor (x:Int) (y:Int) = (x:Int) - (y:Int):=by
 unfold Builtin.bitXor
 rw [mG,xQ,h,h2]
theorem xh (r:Nat) (h:0 < r):Builtin.bitAnd (r:Int) (-(r:Int)) = ((r:Int) - ((r &&& (r - 1):Nat):Int)):=by
 unfold Builtin.bitAnd
 rw [decide_eq_true (Int.natCast_nonneg r),decide_eq_false (show ¬ 0≤-(r:Int) by lia)]
 have e:(Builtin.bitNot (-(r:Int))).toNat = r - 1:=by unfold Builtin.bitNot;lia
 show (r:Int) - ((_ &&& _:Nat):Int) = _
 rw [e,Int.toNat_natCast]
theorem tQ:∀ r:Nat,0 < r→∃ k m,r = 2 ^ k * (2 * m + 1):=fun r=>by
 induction r using Nat.strongRecOn with
 | _ r ih =>
  intro h
  by_cases hp:r % 2 = 1
  ·exact ⟨0,r / 2,by lia⟩
  ·obtain ⟨k,m,e⟩:=ih (r / 2) (by lia) (by lia)
   refine ⟨k + 1,m,?_⟩
   rw [Nat.pow_succ,Nat.mul_comm (2 ^ k) 2,Nat.mul_assoc,← e]
   lia
theorem mY (m j:Nat):(2 * m + 1).testBit j = (if j = 0 then true else m.testBit (j - 1)):=by
 cases j with
 | zero=>simp
 | succ j=>simp [Nat.testBit_succ];congr 1;lia
theorem ou (m j:Nat):(2 * m).testBit j = (if j = 0 then false else m.testBit (j - 1)):=by
 cases j with
 | zero=>simp
 | succ j=>simp [Nat.testBit_succ]
structure An (r k:Nat):Prop where
 bit:r.testBit k = true
 low:∀ j < k,r.testBit j = false
 clear:r &&& (r - 1) = r - 2 ^ k
 le:2 ^ k≤r
 rest:∀ i,(r - 2 ^ k).testBit i = (r.testBit i && decide (i≠k))
theorem Al (r:Nat) (h:0 < r):∃ k,An r k:=by
 obtain ⟨k,m,e⟩:=tQ r h
 have hk:0 < 2 ^ k:=Nat.two_pow_pos k
 have er:r = 2 ^ k * (2 * m) + 2 ^ k:=by rw [e,Nat.mul_add,Nat.mul_one]
 have b1:∀ j,r.testBit j = if j < k then false else (2 * m + 1).testBit (j - k):=fun j=>by
  have:=Nat.testBit_two_pow_mul_add (2 * m + 1) hk j
  rw [Nat.add_zero,← e] at this
  rw [this]
  simp
 have b2:∀ j,(r - 2 ^ k).testBit j = if j < k then false else (2 * m).testBit (j - k):=fun j=>by
  have e2:r - 2 ^ k = 2 ^ k * (2 * m):=by lia
  have:=Nat.testBit_two_pow_mul_add (2 * m) hk j
  rw [Nat.add_zero,← e2] at this
  rw [this]
  simp
 have b3:∀ j,(r - 1).testBit j = if j < k then true else (2 * m).testBit (j - k):=fun j=>by
  have e3:r - 1 = 2 ^ k * (2 * m) + (2 ^ k - 1):=by lia
  rw [e3,Nat.testBit_two_pow_mul_add (2 * m) (by lia) j]
  split
  ·rename_i hj
   rw [Nat.testBit_two_pow_sub_one]
   simp [hj]
  ·rfl
 refine ⟨k,?_,fun j hj=>?_,?_,by lia,fun i=>?_⟩
 ·rw [b1,if_neg (Nat.lt_irrefl k),Nat.sub_self,mY,if_pos rfl]
 ·rw [b1,if_pos hj]
 ·refine Nat.eq_of_testBit_eq fun j=>?_
  rw [Nat.testBit_and,b1,b2,b3]
  by_cases hj:j < k
  ·simp [hj]
  ·rw [if_neg hj,if_neg hj,if_neg hj,mY,ou]
   split <;> simp
 ·rw [b1,b2]
  by_cases hi:i < k
  ·simp [hi]
  ·rw [if_neg hi,if_neg hi,mY,ou]
   by_cases e:i = k
   ·subst e
    simp
   ·have : ¬ i - k = 0:=by lia
    simp [this,e]
theorem An.or {r k:Nat} (h:An r k):r ||| 2 ^ k = r:=Nat.eq_of_testBit_eq fun j=>by
 rw [Nat.testBit_or,Nat.testBit_two_pow]
 by_cases e:k = j
 ·subst e
  simp [h.bit]
 ·simp [e]
theorem An.and {r k:Nat} (h:An r k):r &&& 2 ^ k = 2 ^ k:=Nat.eq_of_testBit_eq fun j=>by
 rw [Nat.testBit_and,Nat.testBit_two_pow]
 by_cases e:k = j
 ·subst e
  simp [h.bit]
 ·simp [e]
def mem (b:Nat):List Nat:=(List.range 256).filter fun i=>b.testBit i
theorem vX:mem 0 = []:=by
 unfold mem
 refine List.filter_eq_nil_iff.mpr fun i _=>?_
 simp
theorem wV {r k:Nat} (h:An r k) (hr:r < 2 ^ 256):mem r = k :: mem (r - 2 ^ k):=by
 have hk:k < 256:=(Nat.pow_lt_pow_iff_right (by decide:1 < 2)).mp (Nat.lt_of_le_of_lt h.le hr)
 unfold mem
 have e:List.range 256 = List.range k ++ (k :: (List.range (256 - k - 1)).map fun i=>k + 1 + i):=by
  have e1:(256:Nat) = k + (1 + (256 - k - 1)):=by lia
  conv=>lhs;rw [e1,List.range_add,List.range_add]
  simp [List.map_map,Function.comp_def,Nat.add_assoc]
 rw [e,List.filter_append,List.filter_append,List.filter_cons,List.filter_cons]
 have f1:(List.range k).filter (fun i=>r.testBit i) = []:=List.filter_eq_nil_iff.mpr fun i hi=>by
  rw [h.low i (List.mem_range.mp hi)]
  simp
 have f2:(List.range k).filter (fun i=>(r - 2 ^ k).testBit i) = []:=List.filter_eq_nil_iff.mpr fun i hi=>by
  rw [h.rest,h.low i (List.mem_range.mp hi)]
  simp
 rw [f1,f2,h.bit,h.rest,h.bit]
 simp only [List.nil_append,if_true]
 simp
 refine List.filter_congr fun i hi=>?_
 obtain ⟨j,_,rfl⟩:=List.mem_map.mp hi
 rw [h.rest,decide_eq_true (show k + 1 + j≠k by lia),Bool.and_true]
theorem x5 (b:Nat):(mem b).length≤256:=by
 unfold mem
 refine Nat.le_trans (List.length_filter_le _ _) ?_
 rw [List.length_range]
 exact Nat.le_refl _
theorem tS (k:Nat):Builtin.Int.intBits ((2 ^ k:Nat):Int) = k + 1:=by
 unfold Builtin.Int.intBits
 have h:0 < 2 ^ k:=Nat.two_pow_pos k
 have e:(((2 ^ k:Nat):Int) == 0) = false:=beq_eq_false_iff_ne.mpr (by lia)
 rw [e,Int.natAbs_natCast,Nat.log2_two_pow]
 rfl
end UfB
end
section
namespace Uf
open PySem L2 UfSrt
def top (i:Nat):Stmt:=PySem.Challenge.pw_unfoldnet_k27_nets_that_crowd.main.body.getD i (.Pass ⟨0,0,0,0⟩)
abbrev cb:Stmt:=top 37
abbrev dk:Stmt:=top 44
abbrev eh:Stmt:=top 45
abbrev d6:Stmt:=top 46
abbrev fi:Stmt:=top 47
theorem vb:bootBuiltins "all" = some (.builtin "all"):=by decide +kernel
theorem uL:bootBuiltins "any" = some (.builtin "any"):=by decide +kernel
theorem dX:bootBuiltins "len" = some (.builtin "len"):=by decide +kernel
theorem yh:bootBuiltins "set" = some (.type "set"):=by decide +kernel
theorem dY:bootBuiltins "list" = some (.type "list"):=by decide +kernel
theorem gf:bootBuiltins "tuple" = some (.type "tuple"):=by decide +kernel
theorem AZ:bootBuiltins "str" = some (.type "str"):=by decide +kernel
theorem dS:bootBuiltins "sorted" = some (.builtin "sorted"):=by decide +kernel
theorem lN:bootBuiltins "isinstance" = some (.builtin "isinstance"):=by decide +kernel
def wD:Str := "abcdefghijklmnopqrstuvwxyz"
def isNm (x:Str):Bool:=decide (1≤x.length) && (decide (x.length≤8) && x.cps.toList.all fun c=>decide (c ∈ wD.cps.toList))
structure Txt (K:PySem.W.Frag) (mg:Str→Option Value):Prop where
 all:mg "all" = none
 len:mg "len" = none
 set:mg "set" = none
 lst:mg "list" = none
 tup:mg "tuple" = none
 str:mg "str" = none
 aQ:mg "sorted" = none
 isi:mg "isinstance" = none
 letters:∃ tk,mg "LETTERS" = some (.str wD tk)
 longest:∃ tk,mg "LONGEST_NAME" = some (.int 8 tk)
 mostP:∃ tk,mg "MOST_PLACES" = some (.int 12 tk)
 mostM:∃ tk,mg "MOST_MOVES" = some (.int 12 tk)
 leastT:∃ tk,mg "LEAST_TAKEN" = some (.int 1 tk)
 mostT:∃ tk,mg "MOST_TAKEN" = some (.int 4 tk)
 mostG:∃ tk,mg "MOST_GIVEN" = some (.int 4 tk)
theorem aj {H:Hp} {D:Addr} {o:HO} (h:H D = none):au H (upd H D o):=fun b u e=>by
 rw [af (ak e h)]
 exact e
theorem aH {H H2:Hp} {D:Addr} {o:HO} (s:au H H2) (h:H D = none):au H (upd H2 D o):=fun b u e=>by
 rw [af (ak e h)]
 exact s b u e
theorem ar {α:Type} {l:List α} {i:Nat} {a:α} (h:l[i]? = some a):l.take (i + 1) = l.take i ++ [a]:=by
 rw [List.take_add_one,h]
 rfl
theorem cJ {X:Cx} {N:List Str} (h:N.Nodup) (e:X.N = N:=by rfl):X.N.Nodup:=by rw [e];exact h
section
variable {X:Cx}
theorem oQ:eQ X (.builtin "isinstance") (fun xs H Q=>∃ x c t b,xs = [x,.ty c]∧iw X.K H x t∧PySem.W.kitOne X.K t (.type c) = some b∧Q (.bl b) H):=by
 intro pins s σ H xs us Q I r h
 obtain ⟨x,c,t,b,rfl,ty,e,q⟩:=h
 obtain ⟨u,v,rfl,ru,rv⟩:=vals2 r
 cases rv
 exact sP I ru ty e fun tk=>⟨.bl b,H,I.tok tk,rfl,q⟩
end
section
variable {P:Program} {w:World} {K:PySem.W.Frag} {mg:Str→Option Value} {base:Heap}
def ki:Sp:=fun vs H Q _=>∃ x:Str,vs = [.str x]∧x.length≤1000∧∀ H',au H H'→Q (.bl (isNm x)) H'
theorem vI:aI ["thing"] ["thing"] (ai cb):=⟨rfl,rfl,rfl,by decide +kernel,rfl,by decide +kernel,by decide +kernel⟩
theorem lK {f:Addr} {fd:FuncData} (F:eZ K "is_name" "is_name" cb f fd) (T:Txt K mg):aE P w K mg base bQ 1 f fd ["thing"] ki:=by
 refine F.ok vI (fun vs H Q E h=>?_) (fun cdv A outer s H vs Q E hr h=>?_)
 ·obtain ⟨x,rfl,_⟩:=h
  rfl
 ·obtain ⟨x,rfl,hz,k⟩:=h
  obtain ⟨tl,hl⟩:=T.letters
  obtain ⟨tn,hn⟩:=T.longest
  refine ⟨_,ah (cv (PW.pt (pw_or (cN (bY (az oQ rfl T.isi lN (aa (pv 0) (aa (mX (v:=.ty "str") rfl T.str AZ rfl) ag)))))
    (pw_or1 (cN (vz mm mm aw (az bA rfl T.len dX (aa (pv 0) ag)) (bj (v:=.int 8) rfl hn ⟨tn,rfl⟩))))))
    (aq (aJ iY)) bf)
   (aq (aJ (az (kz rfl) rfl T.all vb (aa (cG (N:=["sign"]) (n:=1) (ci:=[]) rfl (Ac (pv 0)) (nj.of (so:=ai cb) (N0:=["thing"]) ⟨rfl,by decide +kernel,by decide +kernel,by decide +kernel,rfl,rfl,by decide +kernel,by decide +kernel⟩)
    (fun z=>⟨aA (i:=0) (cJ (N:=["sign"]) (by decide +kernel)) rfl (Or.inl rfl),cT,d4 sj (pv 0) (bj (v:=.str wD) rfl hl ⟨tl,rfl⟩) (by with_unfolding_all rfl)⟩)) ag)))),?_⟩
  refine ⟨_,rfl,_, "str",_,true,rfl,iw.str x,(by rfl),true,rfl,?_⟩
  refine bz ?_
  have hs:x.length≤sizeLine:=by rw [sizeLine_eq];lia
  refine ⟨_,rfl,_,x.length,rfl,⟨hs,rfl⟩,1,_,rfl,rfl,_,rfl,?_⟩
  by_cases h1:1≤x.length
  ·rw [decide_eq_true (show (1:Int)≤(x.length:Int) by lia)]
   refine bN ?_
   refine ⟨_,_,rfl,rfl,_,rfl,?_⟩
   by_cases h8:x.length≤8
   ·rw [decide_eq_true (show (x.length:Int)≤8 by lia)]
    refine bz ?_
    refine ⟨_,rfl,x,rfl,fun z D hD=>wb (fun i ys H2=>ys = (x.cps.toList.take i).map (fun c=>V.bl (decide (c ∈ wD.cps.toList)))∧H2 D = some (.lst ys)∧au H H2) ⟨rfl,ae,aj hD⟩ ?_ ?_⟩
    ·rintro i c ys H2 hc ⟨rfl,hys,sm⟩
     refine ⟨_,rfl,⟨#[c]⟩,wD,rfl,rfl,hys,?_,?_,ae,aH sm hD⟩
     ·rw [List.length_map,List.length_take,Array.length_toList]
      have:x.cps.size≤8:=h8
      rw [sizeLine_eq]
      lia
     ·rw [ar (by rw [Array.getElem?_toList];exact hc),List.map_append,PySem.StrLaws.found_one]
      rfl
    ·rintro ys H2 ⟨rfl,hys,sm⟩
     refine ⟨D,x.cps.toList.map fun c=>decide (c ∈ wD.cps.toList),rfl,aY.of ?_,?_⟩
     ·rw [hys]
      rw [List.take_of_length_le (by simp),List.map_map]
      rfl
     ·have e:isNm x = (x.cps.toList.map fun c=>decide (c ∈ wD.cps.toList)).all id:=by
       unfold isNm
       rw [decide_eq_true h1,decide_eq_true h8,List.all_map]
       rfl
      rw [← e]
      exact k H2 sm
   ·rw [decide_eq_false (show ¬ (x.length:Int)≤8 by lia)]
    refine bN ?_
    have e:isNm x = false:=by unfold isNm;rw [decide_eq_false h8];simp
    rw [← e]
    exact k H (au.refl H)
  ·rw [decide_eq_false (show ¬ (1:Int)≤(x.length:Int) by lia)]
   refine bz ⟨_,rfl,?_⟩
   refine bN ?_
   have e:isNm x = false:=by unfold isNm;rw [decide_eq_false h1];simp
   rw [← e]
   exact k H (au.refl H)
end
end Uf
end
section
namespace L2
open PySem PySem.Spec PyProof.Rows
section
variable {X:Cx}
def AQ:V→List V→Hp→VK→Prop:=fun x vs H Q=>∃ i:Int,x = .int i∧vs = []∧Q (.int ((Builtin.Int.intBits i:Nat):Int)) H
theorem xr:Cb X "int.bit_length" AQ:=by
 intro pins s σ H x vs v us Q I rx rv h
 obtain ⟨i,rfl,rfl,q⟩:=h
 have hus:=rv.zero
 subst hus
 obtain ⟨t,rfl⟩:=(show ∃ t,v = Value.int i t from rx)
 exact call_int_bit_length ⟨.int _,H,I.tok _,⟨_,rfl⟩,q⟩
end
end L2
namespace Uf
open PySem L2 UfSrt UfB
abbrev px:Stmt:=top 2
abbrev dQ:Stmt:=top 4
def nat (k:Nat):V:=.int (k:Int)
def nats (ks:List Nat):List V:=ks.map nat
section
variable {P:Program} {w:World} {K:PySem.W.Frag} {mg:Str→Option Value} {base:Heap}
def yx:Sp:=fun vs H Q _=>∃ n:Nat,vs = [nat n]∧n < 256∧Q (nat (2 ^ n)) H
theorem A0:aI ["number"] ["number"] (ai px):=⟨rfl,rfl,rfl,by decide +kernel,rfl,by decide +kernel,by decide +kernel⟩
theorem xu (n:Nat):(1:Int) * 2 ^ ((n:Int)).toNat = ((2 ^ n:Nat):Int):=by
 rw [Int.one_mul,Int.toNat_natCast]
 exact PyProof.Rows.two_pow_cast n
theorem zR {f:Addr} {fd:FuncData} (F:eZ K "bit" "bit" px f fd):aE P w K mg base bQ 1 f fd ["number"] yx:=by
 refine F.ok A0 (fun vs H Q E h=>?_) (fun cdv A outer s H vs Q E hr h=>?_)
 ·obtain ⟨n,rfl,_⟩:=h
  rfl
 ·obtain ⟨n,rfl,hn,k⟩:=h
  refine ⟨_,aq (aJ (aU Ak aw (pv 0))),?_⟩
  refine ⟨_,rfl,_,_,rfl,rfl,⟨by lia,by lia,by decide⟩,?_⟩
  have e:=xu n
  show Q (V.int ((1:Int) * 2 ^ ((n:Int)).toNat)) H
  rw [e]
  exact k
def lU:Sp:=fun vs H Q _=>∃ b:Nat,vs = [nat b]∧b < 2 ^ 256∧∀ H' q,au H H'→H q = none→H' q = some (.lst (nats (mem b)))→Q (.ref q) H'
theorem hZ:aI ["bits", "numbers", "lowest"] ["bits"] (ai dQ):=⟨rfl,rfl,rfl,by decide +kernel,rfl,by decide +kernel,by decide +kernel⟩
inductive MbI (H:Hp) (r:Addr) (b0:Nat) (m:Nat) (σ:St) (H2:Hp):Prop
 | mk (b:Nat) (ks:List Nat) (v2:Option V) (q0:σ = [some (nat b),some (.ref r),v2]) (q1:au H H2) (q2:H2 r = some (.lst (nats ks))) (q3:ks ++ mem b = mem b0) (q4:b < 2 ^ 256) (q5:m = b)
theorem pH {f:Addr} {fd:FuncData} (F:eZ K "members" "members" dQ f fd):aE P w K mg base bQ 1 f fd ["bits"] lU:=by
 refine F.ok hZ (fun vs H Q E h=>?_) (fun cdv A outer s H vs Q E hr h=>?_)
 ·obtain ⟨n,rfl,_⟩:=h
  rfl
 ·obtain ⟨b0,rfl,hb0,kk⟩:=h
  have hsl:=PySem.sizeLine_eq
  refine ⟨_,ah (aM (i:=1) hZ.nd rfl (Or.inl rfl) (bZ ag))
   (ah (iL PassesOwn.never (oU (pv 0) (fun _=>rfl))
    (ah (aM (i:=2) hZ.nd rfl (Or.inl rfl) (aU uB (pv 0) (AF yT (pv 0))))
    (ah (bF (gL PySem.F.plainAttrs_list PySem.F.slot_list_append PySem.F.type_list_append bE (pv 1) (aa (aU pM (vf PySem.F.plainAttrs_int PySem.F.slot_int_bit_length PySem.F.type_int_bit_length xr (pv 2)) aw) ag)))
    (aq (aM (i:=0) hZ.nd rfl (Or.inl rfl) (aU zl (pv 0) (pv 2)))))))
   (aq (aJ (pv 1)))),?_⟩
  refine ⟨Nat.zero_le _,fun r nr=>?_⟩
  have s1:au H (upd H r (.lst [])):=aj nr
  refine ⟨MbI H r b0,⟨_,b0,[],none,rfl,s1,ae,rfl,hb0,rfl⟩,?_⟩
  rintro b σ H2 ⟨_,ks,v2,rfl,sm,h2,e,hb,rfl⟩
  have lm:(ks ++ mem b).length≤256:=by rw [e];exact x5 b0
  rw [List.length_append] at lm
  by_cases hz:b = 0
  ·subst hz
   rw [vX,List.append_nil] at e
   refine ⟨_,rfl,false,rfl,?_⟩
   refine bz ?_
   refine ⟨_,rfl,kk _ r sm nr ?_⟩
   rw [h2,e]
  ·obtain ⟨k,lo⟩:=Al b (by lia)
   have hk:0 < 2 ^ k:=Nat.two_pow_pos k
   have ml:=wV lo hb
   have ea:Builtin.bitAnd (b:Int) (-(b:Int)) = ((2 ^ k:Nat):Int):=by
    rw [xh b (by lia),lo.clear]
    have:=lo.le
    lia
   have ex:Builtin.bitXor (b:Int) ((2 ^ k:Nat):Int) = ((b - 2 ^ k:Nat):Int):=by
    rw [xZ b (2 ^ k) lo.and lo.or]
    have:=lo.le
    lia
   refine ⟨_,rfl,true,?_,?_⟩
   ·show true = ((b:Int) != 0)
    symm
    rw [bne_iff_ne]
    lia
   refine bN ?_
   refine ⟨fun σ' H'=>∃ m',m' < b∧MbI H r b0 m' σ' H',fun σ' H' h=>h,?_⟩
   refine ⟨_,rfl,_,rfl,_,rfl,_,_,rfl,rfl,?_⟩
   dsimp only [ir]
   rw [ea]
   refine ⟨_,rfl,.inl ⟨rfl,_,aY.of h2⟩,_,rfl,rfl,_,rfl,rfl,_,_,rfl,rfl,r,_,_,rfl,rfl,h2,(by unfold nats;rw [List.length_map];lia),?_⟩
   dsimp only [ir]
   rw [tS]
   refine ⟨_,rfl,_,rfl,_,_,rfl,rfl,?_⟩
   dsimp only [ir]
   rw [ex]
   refine ⟨b - 2 ^ k,by lia,b - 2 ^ k,ks ++ [k],_,rfl,aH sm nr,?_,?_,by lia,rfl⟩
   ·rw [ae]
    unfold nats nat
    rw [List.map_append]
    congr 3
    show [V.int (((k + 1:Nat):Int) - 1)] = [V.int (k:Int)]
    congr 2
    lia
   ·rw [List.append_assoc,List.singleton_append,← ml]
    exact e
end
end Uf
end
section
namespace PySem
theorem iO:typeLookup (.type "list") "keys" = pure none:=by rw [typeLookup_type,builtinLookup_eq_fast];kernel_rfl
theorem mP {prog:Program} {w:World} {A:Around} {E:Value→Shared→Prop} {s:Shared} {a:Addr} {o:Obj} {xs:Array Value} {k:Nat} {Q:Option Value→Shared→Prop}
  (hx:s.heap.get? a = some o) (hc:o.cls = .type "list") (hdat:o.data = .seq xs k) (hd:o.dict = none) (hA:A.handled = none)
  (h:∀ h' tk,(∀ b o,s.heap.get? b = some o→h'.get? b = some o)→Q none { s with heap:=h',toks:=tk }) :
  wpAny (model prog w) A (getAttr? (.ref a) "keys") Q E s:=by
 obtain ⟨c,dct,dat,sl⟩:=o
 simp only at hc hdat hd
 subst hc hdat hd
 obtain ⟨hp,g,d,tk,os⟩:=s
 have hT:∀ tk',(⟨hp,g,d,tk',os⟩ : Shared).TypeIs (.ref a) "list":=fun _=>⟨_,hx,rfl⟩
 have f1:=sub_AttributeError
 have f3:=F.slot_list_getattribute.lookup
 have f4:=F.slot_list_getattribute.bind (.ref a)
 have f5:=am_list_getattr_none
 unfold getAttr? getAttrBy? getAttrBy
 repeat (any_goals (first | assumption | exact hT _ | ((with_reducible show wpAny _ _ (call (Value.builtin "list.__getattribute__") _ _) _ _ _);refine call_meets F.slot_list_getattribute (hT _) am_entry_list_getattribute (F.args_list_getattribute_2 _ _) (meets_getattribute_miss_list a xs k sl "keys" _ iO (by decide +kernel)) ⟨hx,hA,fun h' tk' e hx'=>?_⟩) | wp_step))
 obtain ⟨t',u',he⟩:=hx'.there
 show wpAny _ _ (getattributeRaised _ _ _ _ _ _ _) _ _ _
 unfold getattributeRaised
 repeat (any_goals (first | assumption | wp_step))
 all_goals exact h _ _ hx'.1
end PySem
end
section
namespace UfDp
open PySem PySem.Spec PyProof.Rows L2 UfSet
theorem cZ:entryFor table "dict.update.loop" = some Builtin.«dict.update.loop»:=entryFor_of_tree (by kernel_rfl)
theorem bB:plainId "dict.update.loop" = true:=by decide +kernel
def putAll (acc:List (Key × Value)) (ps:List (Str × Value)):List (Key × Value):=ps.foldl (fun a p=>stored a (Sum.inr p.1) p.2) acc
def nk (h:Heap) (ps:List (Str × Value)) (i:Nat) (v:Value):Prop:=∃ q x t u,v = .ref q∧ps[i]? = some (x,u)∧IsTup h q #[.str x t,u]
section
variable {prog:Program} {w:World} {A:Around} {R:Result→Shared→Prop} {I:Addr} {fp wr:List Addr} {G:Array GenState→Array GenState→Prop} {St:Nat→Shared→Prop}
theorem pair_items {E:Value→Shared→Prop} {s:Shared} {q:Addr} {a b:Value} {Q:List Value→Shared→Prop} (ht:IsTup s.heap q #[a,b]) (h:Q [a,b] s):wpAny (model prog w) A (Builtin.Dict.pairItems (.ref q)) Q E s:=by
 obtain ⟨o,ho,hc,n,hd⟩:=ht
 unfold Builtin.Dict.pairItems
 refine wpAny_bind (wpAny_typeOf (T := "tuple") ⟨o,ho,hc⟩ ?_)
 rw [if_pos (by decide)]
 unfold seqItems?
 refine wpAny_bind (wpAny_bind (wpAny_load ho ?_))
 rw [hd]
 exact wpAny_pure (wpAny_pure h)
theorem sO {h0:Heap} {ps:List (Str × Value)} (W:WalksS prog w A.in1 I fp wr G ps.length (nk h0 ps) St) (D:Addr) (hDf:D ∉ fp) (h0D:h0.get? D = none) (h0w:∀ b ∈ wr,h0.get? b = none) (hb:ps.length≤1000) :
  ∀ (k i:Nat) (t:Tok) (s:Shared) (acc:List (Key × Value)),ps.length - i = k→i≤ps.length→St i s→s.heap.DictOf (aZ prog w) D acc→acc.length≤i→(∀ b o,h0.get? b = some o→s.heap.get? b = some o) →
  (∀ s',Moved (D :: wr) G s s'→s'.heap.DictOf (aZ prog w) D (putAll acc (ps.drop i))→R (.ok (.ret .none)) s')→codeAny (model prog w) A (.builtin "dict.update.loop" ⟨[.ref D,.ref I,.int i t,.none],[]⟩) R s:=by
 have nSw:D ∉ wr:=fun z=>hDf (W.sub _ z)
 have sub:∀ b ∈ wr,b ∈ D :: wr:=fun b z=>List.mem_cons_of_mem _ z
 intro k
 induction k with
 | zero =>
  intro i t s acc hk hi st hS ha h0s hR
  have e:i = ps.length:=by lia
  subst e
  refine codeAny_builtin cZ ?_
  rw [Around.under_plainId bB _]
  show wpAny _ A.in1 (pyNext (.ref I) >>= _) _ _ s
  refine wpAny_bind (W.done s _ _ st fun s' hm=>?_)
  show wpAny _ A.in1 (Builtin.Dict.addKeywords D [] >>= fun _=>ret Value.none) _ _ s'
  refine wpAny_bind (wpAny_pure (wpAny_pure (hR s' (hm.mono sub) ?_)))
  rw [List.drop_of_length_le (Nat.le_refl _)]
  obtain ⟨o,es,ep,ho,r⟩:=hS
  exact ⟨o,es,ep,hm.heap D _ nSw ho,r⟩
 | succ k ih =>
  intro i t s acc hk hi st hS ha h0s hR
  have hlt:i < ps.length:=by lia
  refine codeAny_builtin cZ ?_
  rw [Around.under_plainId bB _]
  show wpAny _ A.in1 (pyNext (.ref I) >>= _) _ _ s
  refine wpAny_bind (W.item i s _ _ hlt st fun v s' hP st' hm=>?_)
  obtain ⟨q,x,tx,u,rfl,ex,ht⟩:=hP
  have h0s' : ∀ b o,h0.get? b = some o→s'.heap.get? b = some o:=fun b o e=>hm.heap b o (fun z=>by rw [h0w b z] at e;cases e) (h0s b o e)
  have hS' : s'.heap.DictOf (aZ prog w) D acc:=by
   obtain ⟨o,es,ep,ho,r⟩:=hS
   exact ⟨o,es,ep,hm.heap D _ nSw ho,r⟩
  have ht' : IsTup s'.heap q #[.str x tx,u]:=by
   obtain ⟨o,ho,r⟩:=ht
   exact ⟨o,h0s' _ _ ho,r⟩
  show wpAny _ A.in1 (holding [Value.ref q] _ >>= _) _ _ s'
  refine wpAny_bind (wpAny_holding (wpAny_bind ?_))
  refine wpAny_tryCatch (pair_items ht' ?_)
  show wpAny _ A.in1 (holding [Value.str x tx,u] (dictSet D (.str x tx) u)) _ _ s'
  refine wpAny_holding (wpAny_dictSet_pairs (knd:=aZ prog w) (k:=Sum.inr x) (by show iE (Sum.inr x) (Value.str x tx) = true;simp [iE,Value.isStrOf]) hS' (fun h' hd' hs'=>?_) (by rw [sizeLine_eq];lia))
  have hd:ps.drop i = (x,u) :: ps.drop (i + 1):=by
   rw [List.drop_eq_getElem_cons hlt]
   rw [List.getElem?_eq_getElem hlt] at ex
   rw [Option.some.inj ex]
  refine wpAny_pure ⟨plainId_quiet bB _,ih (i + 1) _ _ (stored acc (Sum.inr x) u) (by lia) hlt (W.frame _ s' _ _ st' (Nat.le_succ _) fun b hb' o e=>?_) hd' (by have:=stored_length_le acc (Sum.inr x:Key) u;lia) (fun b o e=>?_) fun s'' hm2 hS3=>?_⟩
  ·rw [hs'.2 b (fun z:b = D=>hDf (by rw [← z];exact hb'))];exact e
  ·rw [hs'.2 b (fun z:b = D=>by rw [z,h0D] at e;cases e)];exact h0s' b o e
  ·refine hR s'' (Moved.trans W.gtrans ((hm.mono sub).then_heap (Nat.le_succ _) fun b o hb' e=>?_) hm2) ?_
   ·rw [hs'.2 b (fun z:b = D=>hb' (by rw [z];exact List.mem_cons_self))];exact e
   ·rw [hd]
    exact hS3
theorem lg {E:Value→Shared→Prop} {s:Shared} {l:Addr} {its:List Value} {ps:List (Str × Value)} {Q:Value→Shared→Prop} (hh:A.handled = none) (hl:∃ n,s.heap.get? l = some { cls:=.type "list",data:=.seq its.toArray n }) (hlen:its.length = ps.length)
  (hx:∀ (i:Nat) (v:Value),its[i]? = some v→nk s.heap ps i v) (hb:ps.length≤1000)
  (h:∀ (h' : Heap) (tk:Nat),h'.DictOf (aZ prog w) s.heap.objs.size (putAll [] ps)→(∀ b o,s.heap.get? b = some o→h'.get? b = some o)→Q (.ref s.heap.objs.size) { s with heap:=h',toks:=tk }) :
  wpAny (model prog w) A (call (.type "dict") [.ref l]) Q E s:=by
 obtain ⟨nl,hol⟩:=hl
 refine callType_codes (Q₁:=fun obj s₁=>obj = .ref s.heap.objs.size∧s₁ = { s with heap:=s.heap.push { cls:=.type "dict",data:=.dict #[] } }) F.kt_called_dict (F.kt_typeCall_dict_1 _) F.entry_dict_init (kt_code_dict_new _ ⟨rfl,rfl⟩) ?_
 rintro obj s₁ ⟨rfl,rfl⟩
 have hnew:(s.heap.push { cls:=.type "dict",data:=.dict #[] }).DictOf (aZ prog w) s.heap.objs.size []:=Heap.DictOf.new s.heap
 have hol' : (s.heap.push { cls:=.type "dict",data:=.dict #[] }).get? l = some { cls:=.type "list",data:=.seq its.toArray nl }:=Heap.get?_push_of_some _ hol
 refine ⟨hnew.typeIs,F.args_dict_init_2 _ _,?_⟩
 unfold Builtin.«dict.__init__»
 refine wpAny_bind ?_
 unfold Builtin.Dict.selfAndRest
 refine wpAny_bind (wpAny_notOrdered_dict hnew.typeIs ?_)
 show wpAny _ _ (pure (s.heap.objs.size,[Value.ref l])) _ _ _
 refine wpAny_pure ?_
 show wpAny _ _ (Builtin.Dict.updateFrom "dict.__init__" s.heap.objs.size (.ref l) [] .none) _ _ _
 unfold Builtin.Dict.updateFrom
 refine wpAny_bind (wpAny_typeOf (T := "list") ⟨_,hol',rfl⟩ ?_)
 rw [if_pos (by decide)]
 refine wpAny_bind (mP hol' rfl rfl rfl (by simp [hh]) fun h1 tk1 k1=>?_)
 rw [if_pos (by decide)]
 refine wpAny_bind (wpAny_rule ?_)
 have lt:l < s.heap.objs.size:=Heap.lt_size hol
 have z1:s.heap.objs.size + 1≤h1.objs.size:=Nat.succ_le_of_lt (Heap.lt_size (k1 _ _ (Heap.get?_push_size s.heap (o:={ cls:=.type "dict",data:=.dict #[] }) rfl)))
 have l1:h1.IsList l its.toArray:=⟨_,k1 _ _ hol',rfl,nl,rfl⟩
 refine wpAny_bind (wpAny_pyIter_list l1 ?_)
 have neI:l≠h1.objs.size:=Nat.ne_of_lt (Nat.lt_of_lt_of_le (Nat.lt_succ_of_lt lt) z1)
 have nf:s.heap.objs.size ∉ [h1.objs.size,l]:=by
  simp only [List.mem_cons,List.not_mem_nil,or_false,not_or]
  exact ⟨Nat.ne_of_lt z1,Nat.ne_of_gt lt⟩
 have h3:A.in1.in1.handled = none:=by simp [hh]
 have hat:∀ (i:Nat) (v:Value),its.toArray[i]? = some v→nk s.heap ps i v:=fun i v e=>hx i v (by simpa using e)
 have W0:=(Walks.list (prog:=prog) (w:=w) h3 h1.objs.size l neI its.toArray).imp hat
 have hsz:its.toArray.size = ps.length:=by rw [List.size_toArray];exact hlen
 rw [hsz] at W0
 have keep:∀ b o,s.heap.get? b = some o→h1.get? b = some o:=fun b o e=>k1 _ _ (Heap.get?_push_of_some _ e)
 have ds:h1.DictOf (aZ prog w) s.heap.objs.size []:=by
  obtain ⟨o,es,ep,ho,r⟩:=hnew
  exact ⟨o,es,ep,k1 _ _ ho,r⟩
 refine wpAny_pure ⟨plainId_quiet bB _,sO W0.toS s.heap.objs.size nf (Heap.get?_none_of_le (Nat.le_refl _)) (fun b hb'=>?_) hb ps.length 0 _ _ [] (by lia) (Nat.zero_le _) ⟨⟨_,Heap.get?_push_size _ rfl,rfl,rfl⟩,(l1.push _)⟩ (ds.push _) (Nat.le_refl _) (fun b o e=>Heap.get?_push_of_some _ (keep b o e)) fun s' hm hS'=>?_⟩
 ·have e:b = h1.objs.size:=by simpa using hb'
  rw [e]
  exact Heap.get?_none_of_le (Nat.le_trans (Nat.le_succ _) z1)
 ·rw [List.drop_zero] at hS'
  rw [ke hm]
  refine ⟨rfl,h _ _ hS' fun b o e=>?_⟩
  have lb:=Heap.lt_size e
  refine hm.heap b o (fun z=>?_) (Heap.get?_push_of_some _ (keep b o e))
  simp only [List.mem_cons,List.not_mem_nil,or_false] at z
  rcases z with z | z
  ·exact absurd z (Nat.ne_of_lt lb)
  ·exact absurd z (Nat.ne_of_lt (Nat.lt_of_lt_of_le (Nat.lt_succ_of_lt lb) z1))
end
end UfDp
end
section
namespace L2
open PySem PySem.Spec PyProof.Rows
section
variable {X:Cx} {N:List Str} {n:Nat} {ci:List Nat} {sc:Scope}
theorem jR {elt tg iter:Expr} {ifs:List Expr} {pos cpos py:Pos} {y:Str} {j:Nat} {wi:TI} {g:BX→TG} {tt:BX→TT} {te:BX→TE} (hc:X.calm = true) (hN:X.N.Nodup) (hj:X.N[j]? = some y) (hy:X.env.scope.names.lookup y = some .local) (hi:PI X tg iter wi) (S:cH X N n ci sc)
  (hb:∀ z:BX,PG (jb X sc N z) tg (g z)∧A6 (jb X sc N z) ifs (tt z)∧PE (jb X sc N z) elt (te z)) (hsw:swapsWith (.ListComp elt [⟨tg,iter,ifs,0⟩] sc cpos) (some (.Name y py)) pos.line X.env = pure true:=by rfl)
  (hs:∀ x,foldedSetIterable iter X.env x = pure x:=by intro _;rfl):PS X (.Assign [.Name y py] (.ListComp elt [⟨tg,iter,ifs,0⟩] sc cpos) pos) (wI (yD n ci wi g tt te) (ir j)):=by
 intro pins s σ H D0 I h
 rw [exec_Assign_Name_used _ _ _ _ hsw]
 refine wpAny_bind (wpAny_standAt (wpAny_bind ?_))
 show wpAny _ X.A (do let _ ← comprehension (.ListComp elt [⟨tg,iter,ifs,0⟩] sc cpos) sc X.env _ (newList []) false (eval iter X.env) (some (assign (.Name y py) X.env))) _ _ s
 refine wpAny_bind (wpAny_mono (wpAny_comprehension_free (use:=some (assign (.Name y py) X.env)) (Q:=fun _ s'=>SP X pins D0 .next s') (E:=X.xe) rfl hs (j5 (S.kW I.ok)) S.kind S.loc (bx (hi pins s σ H _ I h) fun v s1 h1=>bx h1 fun itv s2 h2=>?_)) (fun _ s' hq=>wpAny_pure (wpAny_pure hq)) fun _ _ e=>e)
 obtain ⟨it,fp,tn,J,H2,e,I2,T,st2,f2,rd⟩:=h2
 subst e
 refine wpAny_newObj_type (wpAny_newFunctionEnv S.nocell (by intro y hy;simp at hy) (fun h₁ hns₁ hsb₁=>?_) S.kind)
 dsimp only at hns₁ hsb₁ ⊢
 have hD:H2 s2.heap.objs.size = none:=I2.hok.fresh (Nat.le_refl _)
 have I3:Inv X pins σ (upd H2 s2.heap.objs.size (.lst [])) { s2 with heap:=s2.heap.push { cls:=.type "list",data:=.seq ([] : List Value).toArray } }:=I2.xn (t':=s2.toks) (ys:=[]) (its:=[]) .nil (Nat.zero_le _)
 have ob2:∀ b ∈ fp,∃ o,s2.heap.get? b = some o:=fun b hb=>let ⟨o,e,_⟩:=T.obj _ _ st2 b hb;⟨o,e⟩
 have neD:∀ b ∈ fp,b≠s2.heap.objs.size:=fun b hb=>let ⟨o,e⟩:=ob2 b hb;Nat.ne_of_lt (Heap.lt_size e)
 have f3:∀ b ∈ fp,gA X pins (upd H2 s2.heap.objs.size (.lst [])) b:=fun b hb=>⟨by rw [af (neD b hb)];exact (f2 b hb).1,(f2 b hb).2⟩
 have ob3:∀ b ∈ fp,∃ o,(s2.heap.push { cls:=.type "list",data:=.seq ([] : List Value).toArray }).get? b = some o:=fun b hb=>let ⟨o,e⟩:=ob2 b hb;⟨o,Heap.get?_push_of_some _ e⟩
 have k3:∀ b o,(s2.heap.push { cls:=.type "list",data:=.seq ([] : List Value).toArray }).get? b = some o→h₁.get? b = some o:=fun b o e =>
  hsb₁.extBut b o (Nat.ne_of_lt (Heap.lt_size e)) (Heap.get?_push_of_some _ e)
 have I4:Inv (jb X sc N ⟨_,{ s2 with heap:=s2.heap.push { cls:=.type "list",data:=.seq ([] : List Value).toArray } },upd H2 s2.heap.objs.size (.lst []),fp⟩) [] (oz n ci σ) (upd H2 s2.heap.objs.size (.lst []))
   { s2 with heap:=h₁,toks:=s2.toks + ([] : List (Str × Value)).length }:=mi (s:={ s2 with heap:=s2.heap.push { cls:=.type "list",data:=.seq ([] : List Value).toArray } }) S I3 f3 ob3 k3 hns₁
 have st4:tn 0 h₁:=T.keep _ _ _ st2 fun b hb o e=>k3 b o (Heap.get?_push_of_some _ e)
 obtain ⟨M,W,w0,turn⟩:=rd ⟨_,{ s2 with heap:=s2.heap.push { cls:=.type "list",data:=.seq ([] : List Value).toArray } },upd H2 s2.heap.objs.size (.lst []),fp⟩ s2.heap.objs.size hD
 obtain ⟨bg,bt,be⟩:=hb ⟨_,{ s2 with heap:=s2.heap.push { cls:=.type "list",data:=.seq ([] : List Value).toArray } },upd H2 s2.heap.objs.size (.lst []),fp⟩
 have ok3:=pQ S I3 f3 ob3
 have stat:∀ {H' : Hp},(∀ b ∈ fp,H' b = none)→∀ b ∈ fp,gA (jb X sc N ⟨_,{ s2 with heap:=s2.heap.push { cls:=.type "list",data:=.seq ([] : List Value).toArray } },upd H2 s2.heap.objs.size (.lst []),fp⟩) [] H' b:=fun hn b hb=>by
  obtain ⟨_,f1,f2',_,f4,_⟩:=f3 b hb
  refine ⟨hn b hb,?_,ok3.exfs b hb,.inl hb,fun x c e=>?_,fun p hp=>absurd hp (by simp)⟩
  ·exact Nat.ne_of_lt (let ⟨o,e⟩:=ob3 b hb;Heap.lt_size e)
  ·exact f4 x c (bV _ _ (S.kW I3.ok) (by simp) x c e)
 have loop:codeAny (model X.prog X.w) X.A (.compLoop (.ListComp elt [⟨tg,iter,ifs,0⟩] sc cpos) 0 (.ref it) (.ref s2.heap.objs.size) (compEnvC sc (ib X.env sc.names []) (s2.heap.push { cls:=.type "list",data:=.seq ([] : List Value).toArray }).objs.size X.env))
   (compPost (model X.prog X.w) X.A X.xe (some (assign (.Name y py) X.env)) (fun _ s'=>SP X pins D0 .next s') (.ref s2.heap.objs.size) (s2.heap.push { cls:=.type "list",data:=.seq ([] : List Value).toArray }).objs.size) { s2 with heap:=h₁,toks:=s2.toks + ([] : List (Str × Value)).length }:=by
  refine nK (W:=W) (M:=M) (σ0:=oz n ci σ) (Q:=fun v H'=>D0.nx (σ.set j (some v)) H') hc T bg bt be (fun {pins' σ' H' s'} J'=>?_) stat I4 st4 (fun b hb=>(f3 b hb).1) w0 turn fun σ' H' s' J' q=>?_
  ·exact oX S I3 f3 J'
  ·obtain ⟨m',hn',_⟩:=id J'.loc
   have J2:Inv X pins σ H' s':=kM (s:={ s2 with heap:=s2.heap.push { cls:=.type "list",data:=.seq ([] : List Value).toArray } }) I3 f3 J' (Heap.SameBut.refl _ _)
   show wpAny _ _ (assign (.Name y py) X.env (.ref s2.heap.objs.size)) _ _ s'
   refine wpAny_assign_Name (lu (v:=.ref s2.heap.objs.size) J2 hN hj (.inl hy) rfl (fun s3 J3 ⟨a,sb,ha⟩=>?_) (.inr hy))
   have cC:∀ x c,X.env.cells.lookup x = some c→c≠(s2.heap.push { cls:=.type "list",data:=.seq ([] : List Value).toArray }).objs.size:=fun x c e z=>by
    obtain ⟨v,q1⟩:=I3.cell x c e
    have:=q1.lt
    rw [z] at this
    exact absurd this (Nat.lt_irrefl _)
   have lC:X.env.locals≠(s2.heap.push { cls:=.type "list",data:=.seq ([] : List Value).toArray }).objs.size:=fun z=>by
    have q1:=I3.lt
    rw [z] at q1
    exact absurd q1 (Nat.lt_irrefl _)
   have aC:a≠(s2.heap.push { cls:=.type "list",data:=.seq ([] : List Value).toArray }).objs.size:=by
    rcases ha with rfl | ha
    ·exact lC
    ·exact cC _ _ ha
   refine ⟨m',hn'.sameBut sb (Ne.symm aC),fun h' hs'=>⟨_,H',J3.turned (t':=s3.toks) (fun b o hb e=>(hs'.2 b hb).trans e) J'.free lC.symm (.inr (Nat.le_trans I3.sz (Nat.le_refl _))) cC (fun p hp z=>?_),q⟩⟩
   have q1:=(I3.pin p hp).1
   rw [z] at q1
   exact absurd (Heap.lt_size q1) (Nat.lt_irrefl _)
 exact codeAny_compStart_list loop (T.self _ 0 _ _ _ st4 loop)
end
end L2
end
section
namespace L2
open PySem PySem.Spec PyProof.Rows UfSrt
theorem gS {α β:Type} {F:α→β→Prop} : ∀ {l:List α} {m:List β} {i:Nat} {b:β},Paired F l m→m[i]? = some b→∃ a,l[i]? = some a∧F a b
 | _,_,_,_,.nil,e=>by simp at e
 | _,_,0,_,.cons r _,e=>by
  simp at e
  subst e
  exact ⟨_,rfl,r⟩
 | _,_,i + 1,_,.cons _ t,e=>by
  obtain ⟨a,h1,h2⟩:=gS (i:=i) t (by simpa using e)
  exact ⟨a,by simpa using h1,h2⟩
section
variable {X:Cx} {pins:List (Addr × Obj)} {σ:St} {H:Hp} {s:Shared}
theorem Inv.BV {a:Addr} {kvs:List (Key × V)} (I:Inv X pins σ H s) (e:H a = some (.dK kvs)):∃ o,Inv X pins σ (upd H a (.frz o (.dK kvs))) s:=by
 obtain ⟨z,y,vs,rel,o,es,ep,ho,r⟩:=yE I.hok e
 refine ⟨o,?_⟩
 have u:Un X.fs [] H (upd H a (.frz o (.dK kvs))) s.heap s.heap:=by
  refine ⟨fun b ob q _ _ _=>q,fun b ob q _ _ _=>⟨ob.slots,q⟩,fun b ob q n _=>?_,fun b ob q _=>⟨ob,q⟩,fun b xs q=>?_,fun b ob v q=>?_,fun b ps q=>⟨#[],?_⟩⟩
  ·rw [af (fun z=>by rw [z,e] at n;cases n)];exact n
  ·rw [af (aR q e (fun z=>nomatch z))];exact q
  ·rw [af (aR q e (fun z=>nomatch z))];exact q
  ·rw [af (aR q e (fun z=>nomatch z)),q];simp
 refine I.un (h':=s.heap) (t':=s.toks) u fun b v e'=>?_
 by_cases hb:b = a
 ·subst hb
  rw [ae] at e'
  cases e'
  exact ⟨ho,show bo X.prog X.w H s.heap b (.dK kvs) from I.hok b _ e⟩
 ·rw [af hb] at e'
  exact (I.hok b v e').jf (fun c v _ q=>q) (fun c q=>by rw [af (aR q e (fun z=>nomatch z))];exact q) fun c xs q=>by rw [af (aR q e (fun z=>nomatch z))];exact q
def B2 (te:TE):TE:=fun σ H Q=>te σ H fun v H1=>∃ a kvs,v = .ref a∧H1 a = some (.dK kvs)∧∀ o,Q (.ref a) (upd H1 a (.frz o (.dK kvs)))
theorem zJ {e:Expr} {te:TE} (he:PE X e te):PE X e (B2 te):=by
 intro pins s σ H Q I h
 refine bx (he pins s σ H _ I h) fun u s1 ⟨v,H1,I1,r1,a,kvs,ev,ea,q⟩=>?_
 subst ev
 obtain ⟨o,I2⟩:=I1.BV ea
 exact ⟨.ref a,_,I2,r1,q o⟩
theorem uh {a:Addr} {o:Obj} {kvs:List (Key × V)} {es:Array DictEntry} {ep:Nat} (I:Inv X pins σ H s) (e:H a = some (.frz o (.dK kvs))) (hd:o.data = .dict es ep) :
  ∃ vs,KV kvs vs∧s.heap.DictAt (aZ X.prog X.w) a vs ep∧(a == sysModules) = false∧kvs.length≤sizeLine:=by
 obtain ⟨ho,z,y,vs,rel,dd⟩:=(show bo X.prog X.w H s.heap a (.frz o (.dK kvs)) from I.hok a _ e)
 obtain ⟨ep',hat⟩:=dd.dictAt
 obtain ⟨o',es',ho',hc',hd',hr⟩:=id hat
 rw [ho] at ho'
 cases ho'
 rw [hd] at hd'
 cases hd'
 exact ⟨vs,rel,hat,y,z⟩
end
section
variable {X:Cx} {tg:Expr}
end
section
variable {n:Nat} {ci:List Nat} {g:TG} {tt:TT} {te:TE} {σ:St} {H:Hp} {D:Addr} {Q:VK}
end
end L2
end
section
namespace L2
open PySem PySem.Spec PyProof.Rows UfDp
abbrev u6 (H:Hp):List (Str × V)→List Addr→Prop:=Paired fun p q=>H q = some (.tup [.str p.1,p.2])
def keyed (ps:List (Str × V)):List (Key × V):=ps.map fun p=>(Sum.inr p.1,p.2)
section
variable {X:Cx} {pins:List (Addr × Obj)} {σ:St} {H:Hp} {s:Shared}
theorem two_vals {x:Str} {v:V} {its:List Value} (r:Vals [.str x,v] its):∃ t u,its = [.str x t,u]∧RelV v u:=by
 cases r with
 | cons r1 r =>
  cases r with
  | cons r2 r =>
   cases r
   obtain ⟨t,rfl⟩:=(show ∃ t,_ = Value.str x t from r1)
   exact ⟨t,_,rfl,r2⟩
theorem pairs_at (I:Inv X pins σ H s):∀ {ps:List (Str × V)} {qs:List Addr},u6 H ps qs→∃ vs:List (Str × Value),Paired (fun (p:Str × V) (v:Str × Value)=>p.1 = v.1∧RelV p.2 v.2) ps vs∧qs.length = vs.length∧∀ (i:Nat) (q:Addr),qs[i]? = some q→nk s.heap vs i (.ref q)
 | _,_,.nil=>⟨[],.nil,rfl,fun i q h=>by simp at h⟩
 | p :: ps,q :: qs,.cons h t=>by
  obtain ⟨vs,pv,ln,hp⟩:=pairs_at I t
  obtain ⟨_,its,rv,it⟩ : bo X.prog X.w H s.heap q (.tup [.str p.1,p.2]):=I.hok q _ h
  obtain ⟨tx,u,rfl,ru⟩:=two_vals rv
  refine ⟨(p.1,u) :: vs,.cons ⟨rfl,ru⟩ pv,by simp [ln],fun i q' hi=>?_⟩
  cases i with
  | zero =>
   have e:q = q':=by simpa using hi
   exact ⟨q',p.1,tx,u,rfl,rfl,by rw [← e];exact it⟩
  | succ i =>
   obtain ⟨q2,x,t2,u2,e1,e2,e3⟩:=hp i q' (by simpa using hi)
   exact ⟨q2,x,t2,u2,e1,by simpa using e2,e3⟩
theorem rH:∀ {ps:List (Str × V)} {vs:List (Str × Value)} {kvs:List (Key × V)} {acc:List (Key × Value)},Paired (fun (p:Str × V) (v:Str × Value)=>p.1 = v.1∧RelV p.2 v.2) ps vs→KV kvs acc→(ps.map (·.1)).Nodup→(∀ p ∈ ps,cD kvs (Sum.inr p.1:Key) = none)→KV (kvs ++ keyed ps) (putAll acc vs)
 | _,_,kvs,acc,.nil,r,_,_=>by
  show KV (kvs ++ []) acc
  rw [List.append_nil]
  exact r
 | p :: ps,v :: vs,kvs,acc,.cons h t,r,hn,hv=>by
  obtain ⟨n1,n2⟩:=List.nodup_cons.mp (show (p.1 :: ps.map (·.1)).Nodup from hn)
  obtain ⟨e1,e2⟩:=h
  have r2:=KV.put r (Sum.inr p.1:Key) e2
  rw [fE _ (hv p List.mem_cons_self)] at r2
  have:=rH (kvs:=kvs ++ [(Sum.inr p.1,p.2)]) t r2 n2 (fun p' hp'=>?_)
  ·rw [List.append_assoc] at this
   show KV _ (putAll (stored acc (Sum.inr v.1) v.2) vs)
   rw [← e1]
   exact this
  ·have h1:=hv p' (List.mem_cons_of_mem _ hp')
   have ne : ¬ p.1 = p'.1:=fun z=>n1 (by rw [z];exact List.mem_map.mpr ⟨p',hp',rfl⟩)
   rw [lJ (Sum.inr p.1:Key) (Sum.inr p'.1) p.2 kvs (hv p List.mem_cons_self),if_neg (fun z=>ne (Sum.inr.inj z).symm)]
   exact h1
end
section
variable {X:Cx}
def zj:List V→Hp→VK→Prop:=fun vs H Q=>∃ l qs ps,vs = [.ref l]∧H l = some (.lst (qs.map V.ref))∧u6 H ps qs∧ps.length≤1000∧(ps.map (·.1)).Nodup∧∀ d,H d = none→Q (.ref d) (upd H d (.dK (keyed ps)))
theorem ma:∀ {qs:List Addr} {its:List Value},Vals (qs.map V.ref) its→its = qs.map Value.ref
 | [],_,.nil=>rfl
 | q :: qs,_,.cons r t=>by
  have e:=(show _ = Value.ref q from r)
  rw [e,ma t]
  rfl
theorem ql (hc:X.calm = true):eQ X (.type "dict") zj:=by
 intro pins s σ H xs us Q I r h
 obtain ⟨l,qs,ps,rfl,hl,hp,hz,hn,q⟩:=h
 obtain ⟨u,rfl,ru⟩:=vals1 r
 cases ru
 obtain ⟨_,its,n,rv,hlen,eo⟩:=I.qg hl
 have ei:=ma rv
 obtain ⟨vs,pv,ln,hat⟩:=pairs_at I hp
 have lp:ps.length = vs.length:=Paired.length pv
 have hf:H s.heap.objs.size = none:=I.hok.fresh (Nat.le_refl _)
 refine lg (ps:=vs) (I.ok.hd hc) ⟨n,eo⟩ (by rw [ei,List.length_map];exact ln) (fun i v hv=>?_) (by lia) fun h' tk hd hk=>?_
 ·rw [ei,List.getElem?_map] at hv
  obtain ⟨q',e1,e2⟩:=Option.map_eq_some_iff.mp hv
  rw [← e2]
  exact hat i q' e1
 ·have kv:KV (keyed ps) (putAll [] vs):=rH (kvs:=[]) pv .nil hn fun p _=>rfl
  refine ⟨.ref s.heap.objs.size,_,I.laid (t':=tk) (o:=.dK (keyed ps)) hk (Nat.le_refl _) ⟨by unfold keyed;rw [List.length_map,sizeLine_eq];lia,?_,_,kv,hd⟩,rfl,q _ hf⟩
  have:=I.big
  exact beq_eq_false_iff_ne.mpr (Nat.ne_of_gt this)
end
end L2
end
section
namespace Uf
open PySem L2 UfB
structure rz where
 sp:List (Str × Option Nat)
 tk:List Nat
 be:List Nat
 pl:List (Str × Nat)
def gv:Option Nat→V
 | none=>.non
 | some n=>nat n
def xN (bs:List Nat) (j n:Nat):List Nat:=bs.set j (bs.getD j 0 ||| 2 ^ n)
def eL (bs js:List Nat) (n:Nat):List Nat:=js.foldl (fun a j=>xN a j n) bs
def jx (pl:List (Str × Nat)) (x:Str) (n:Nat):List (Str × Nat):=pl.map fun p=>if p.1 = x then (p.1,p.2 ||| 2 ^ n) else p
def jr (g:Option Nat) (p:rz × Nat) (x:Str):rz × Nat :=
 (⟨p.1.sp ++ [(x,g)],p.1.tk ++ [0],eL (p.1.be ++ [p.2]) (mem p.2) p.1.sp.length,jx p.1.pl x p.1.sp.length⟩,p.2 ||| 2 ^ p.1.sp.length)
def dz (g:Option Nat) (p:rz × Nat) (xs:List Str):rz × Nat:=xs.foldl (jr g) p
theorem jy:∀ (js bs:List Nat) (n:Nat),(eL bs js n).length = bs.length
 | [],bs,n=>rfl
 | j :: js,bs,n=>by
  show (eL (xN bs j n) js n).length = _
  rw [jy js]
  unfold xN
  rw [List.length_set]
theorem Ab {b i n:Nat} (h:b < 2 ^ n) (hi:i ∈ mem b):i < n:=by
 unfold mem at hi
 have hb:=(List.mem_filter.mp hi).2
 refine Nat.lt_of_not_le fun z=>?_
 rw [Nat.testBit_lt_two_pow (Nat.lt_of_lt_of_le h (Nat.pow_le_pow_right (by decide) z))] at hb
 cases hb
structure kA (p:rz × Nat) (xs:List Str):Prop where
 tk:p.1.tk.length = p.1.sp.length
 be:p.1.be.length = p.1.sp.length
 lt:p.2 < 2 ^ p.1.sp.length
 oF:p.1.sp.length + xs.length≤250
 key:∀ x ∈ xs,x ∈ p.1.pl.map (·.1)
 nd:(p.1.pl.map (·.1)).Nodup
 sm:p.1.pl.length≤12
theorem lx (pl:List (Str × Nat)) (x:Str) (n:Nat):(jx pl x n).map (·.1) = pl.map (·.1):=by
 unfold jx
 rw [List.map_map]
 refine List.map_congr_left fun p _=>?_
 show (if p.1 = x then (p.1,p.2 ||| 2 ^ n) else p).1 = p.1
 split <;> rfl
theorem kA.one {g:Option Nat} {p:rz × Nat} {x:Str} {xs:List Str} (h:kA p (x :: xs)):kA (jr g p x) xs:=by
 obtain ⟨h1,h2,h3,h4,h5,h6,h7⟩:=h
 rw [List.length_cons] at h4
 refine ⟨?_,?_,?_,?_,fun y hy=>?_,?_,?_⟩
 ·show (p.1.tk ++ [0]).length = (p.1.sp ++ [(x,g)]).length
  rw [List.length_append,List.length_append,h1];rfl
 ·show (eL (p.1.be ++ [p.2]) (mem p.2) p.1.sp.length).length = (p.1.sp ++ [(x,g)]).length
  rw [jy,List.length_append,List.length_append,h2];rfl
 ·show p.2 ||| 2 ^ p.1.sp.length < 2 ^ (p.1.sp ++ [(x,g)]).length
  rw [List.length_append]
  refine Nat.or_lt_two_pow (Nat.lt_of_lt_of_le h3 (Nat.pow_le_pow_right (by decide) (Nat.le_add_right _ _))) ?_
  exact Nat.pow_lt_pow_right (by decide) (Nat.lt_succ_self _)
 ·show (p.1.sp ++ [(x,g)]).length + xs.length≤250
  rw [List.length_append,List.length_singleton];lia
 ·show y ∈ (jx p.1.pl x _).map (·.1)
  rw [lx]
  exact h5 y (List.mem_cons_of_mem _ hy)
 ·show ((jx p.1.pl x _).map (·.1)).Nodup
  rw [lx]
  exact h6
 ·show (jx p.1.pl x _).length≤12
  unfold jx
  rw [List.length_map]
  exact h7
theorem kA.vo {g:Option Nat} : ∀ {xs ys:List Str} {p:rz × Nat},kA p (xs ++ ys)→kA (dz g p xs) ys
 | [],ys,p,h=>h
 | x :: xs,ys,p,h=>kA.vo (xs:=xs) (kA.one (g:=g) (x:=x) (xs:=xs ++ ys) h)
theorem oC (g:Option Nat) (p:rz × Nat) (xs:List Str) (x:Str):dz g p (xs ++ [x]) = jr g (dz g p xs) x:=by
 unfold dz
 rw [List.foldl_append]
 rfl
end Uf
end
section
namespace Uf
open PySem L2 UfSrt
structure Def (K:PySem.W.Frag) (mg:Str→Option Value) (x:Str) (st:Stmt) (ps:List Str) (f:Addr) (fd:FuncData):Prop where
 fn:eZ K x x st f fd
 mg:mg x = some (.ref f)
 bd:Binds K fd ps []
def unlike (xs:List Str):Bool:=xs.all isNm && decide xs.Nodup
def Short (xs:List Str):Prop:=xs.length≤200∧∀ x ∈ xs,x.length≤1000
theorem cB {xs:List Str} {i:Nat} {v:V} (h:(av xs)[i]? = some v):∃ x,xs[i]? = some x∧v = .str x:=by
 unfold av at h
 rw [List.getElem?_map] at h
 cases e:xs[i]? with
 | none=>rw [e] at h;cases h
 | some x=>rw [e] at h;exact ⟨x,rfl,(Option.some.inj h).symm⟩
section
variable {P:Program} {w:World} {K:PySem.W.Frag} {mg:Str→Option Value} {base:Heap}
def kg (K:PySem.W.Frag):Sp:=fun vs H Q _=>∃ (a:Addr) (xs:List Str),vs = [.ref a]∧aY K H a (av xs)∧Short xs∧∀ H',au H H'→Q (.bl (unlike xs)) H'
theorem u5:aI ["things"] ["things"] (ai dk):=⟨rfl,rfl,rfl,by decide +kernel,rfl,by decide +kernel,by decide +kernel⟩
theorem md {f fN:Addr} {fd fdN:FuncData} (F:eZ K "are_unlike_names" "are_unlike_names" dk f fd) (T:Txt K mg) (DN:Def K mg "is_name" cb ["thing"] fN fdN):aE P w K mg base bQ 2 f fd ["things"] (kg K):=by
 have GN:aE P w K mg base bQ 1 fN fdN ["thing"] ki:=lK DN.fn T
 refine F.ok u5 (fun vs H Q E h=>?_) (fun cdv A outer s H vs Q E hr h=>?_)
 ·obtain ⟨a,xs,rfl,_⟩:=h
  rfl
 ·obtain ⟨a,xs,rfl,ha,hz,k⟩:=h
  refine ⟨_,aq (aJ (m7 (az (kz rfl) rfl T.all vb (aa (cG (N:=["thing"]) (n:=1) (ci:=[]) rfl (br (pv 0)) (nj.of (so:=ai dk) (N0:=["things"]) ⟨rfl,by decide +kernel,by decide +kernel,by decide +kernel,rfl,rfl,by decide +kernel,by decide +kernel⟩)
    (fun z=>⟨aA (i:=0) (cJ (N:=["thing"]) (by decide +kernel)) rfl (Or.inl rfl),cT,aK GN hr rfl DN.mg DN.fn.kp DN.bd .nil aX (aa (pv 0) ag)⟩)) ag))
   (mH (d4 iP (az sI rfl T.len dX (aa (ba (oZ rfl) rfl T.set yh (aa (pv 0) ag)) ag)) (az bA rfl T.len dX (aa (pv 0) ag)) (cA _))))),?_⟩
  refine ⟨_,rfl,a,rfl,⟨_,ha⟩,fun z D hD=>bK (a:=a) (xs:=av xs) (fun i ys H2=>ys = (xs.take i).map (fun x=>V.bl (isNm x))∧H2 D = some (.lst ys)∧au H H2) ⟨rfl,ae,aj hD⟩ (fun i ys H2 _ p=>p.2.2.seq ha) ?_ ?_⟩
  ·rintro i v ys H2 hi ⟨rfl,hys,sm⟩
   obtain ⟨x,hx,rfl⟩:=cB hi
   refine ⟨_,rfl,x,rfl,hz.2 x (List.mem_of_getElem? hx),fun H3 s3=>⟨s3 _ _ hys,?_,?_,ae,aH (sm.trans s3) hD⟩⟩
   ·rw [List.length_map,List.length_take,sizeLine_eq]
    have:=hz.1
    lia
   ·rw [ar hx,List.map_append]
    rfl
  ·rintro ys H2 ⟨rfl,hys,sm⟩
   have hl:(av xs).length = xs.length:=ao xs
   rw [hl,List.take_length] at hys
   refine ⟨D,xs.map isNm,rfl,aY.of (by rw [hys,List.map_map];rfl),_,rfl,?_⟩
   have ea:(xs.map isNm).all id = xs.all isNm:=by rw [List.all_map];rfl
   rw [ea]
   cases hn:xs.all isNm with
   | false =>
    refine bz ?_
    have e:unlike xs = false:=by unfold unlike;rw [hn];rfl
    rw [← e]
    exact k H2 sm
   | true =>
    refine bN ?_
    refine ⟨_,rfl,a,xs,rfl,sm.seq ha,by have:=hz.1;lia,fun p hp=>⟨p,_,rfl,ae,?_⟩⟩
    have sm2:au H (upd H2 p (oS w p (UfSet.dd xs))):=aH sm (sm.free hp)
    refine ⟨_,rfl,_,xs.length,rfl,.inl ⟨_,sm2.seq ha,hl.symm⟩,rfl,?_⟩
    have e:unlike xs = decide (V.int (((UfSet.dd xs).length:Nat):Int) = V.int ((xs.length:Nat):Int)):=by
     unfold unlike
     rw [hn,Bool.true_and]
     refine decide_eq_decide.mpr ?_
     rw [← UfSet.pJ]
     constructor
     ·intro h;rw [h]
     ·intro h;injection h with h;lia
    rw [← e]
    exact k _ sm2
def fv (tk gv:List Str):Bool:=unlike tk && (unlike gv && (decide (1≤tk.length) && (decide (tk.length≤4) && decide (gv.length≤4))))
def nR (K:PySem.W.Frag):Sp:=fun vs H Q _=>∃ (a b:Addr) (tk gv:List Str),vs = [.ref a,.ref b]∧aY K H a (av tk)∧aY K H b (av gv)∧Short tk∧Short gv∧∀ H',au H H'→Q (.bl (fv tk gv)) H'
theorem uT:aI ["taken", "given"] ["taken", "given"] (ai eh):=⟨rfl,rfl,rfl,by decide +kernel,rfl,by decide +kernel,by decide +kernel⟩
theorem rX {f fN fU:Addr} {fd fdN fdU:FuncData} (F:eZ K "is_move" "is_move" eh f fd) (T:Txt K mg) (DN:Def K mg "is_name" cb ["thing"] fN fdN) (DU:Def K mg "are_unlike_names" dk ["things"] fU fdU):aE P w K mg base bQ 3 f fd ["taken", "given"] (nR K):=by
 have GU:aE P w K mg base bQ 2 fU fdU ["things"] (kg K):=md DU.fn T DN
 refine F.ok uT (fun vs H Q E h=>?_) (fun cdv A outer s H vs Q E hr h=>?_)
 ·obtain ⟨a,b,tk,gv,rfl,_⟩:=h
  rfl
 ·obtain ⟨a,b,tk,gv,rfl,ha,hb,za,zb,k⟩:=h
  obtain ⟨t1,h1⟩:=T.leastT
  obtain ⟨t2,h2⟩:=T.mostT
  obtain ⟨t3,h3⟩:=T.mostG
  refine ⟨_,ah (cv (PW.pt (pw_or (cN (bY (aK GU hr rfl DU.mg DU.fn.kp DU.bd .nil aX (aa (pv 0) ag)))) (pw_or1 (cN (bY (aK GU hr rfl DU.mg DU.fn.kp DU.bd .nil aX (aa (pv 1) ag))))))) (aq (aJ iY)) bf)
   (aq (aJ (m7 (vM mm mm (bj (v:=.int 1) rfl h1 ⟨t1,rfl⟩) (az bA rfl T.len dX (aa (pv 0) ag)) (bj (v:=.int 4) rfl h2 ⟨t2,rfl⟩))
    (mH (d4 mm (az bA rfl T.len dX (aa (pv 1) ag)) (bj (v:=.int 4) rfl h3 ⟨t3,rfl⟩) (cA _)))))),?_⟩
  have no:∀ H',au H H'→fv tk gv = false→Q (.bl false) H':=fun H' sm e=>by rw [← e];exact k H' sm
  refine ⟨_,rfl,a,tk,rfl,ha,za,fun H1 s1=>⟨_,rfl,?_⟩⟩
  cases u1:unlike tk with
  | false =>
   refine bN ?_
   refine bN ?_
   exact no H1 s1 (by unfold fv;rw [u1];rfl)
  | true =>
   refine bz ?_
   refine ⟨_,rfl,b,gv,rfl,s1.seq hb,zb,fun H2 s2=>⟨_,rfl,?_⟩⟩
   have sm:au H H2:=s1.trans s2
   cases u2:unlike gv with
   | false =>
    refine bN ?_
    exact no H2 sm (by unfold fv;rw [u1,u2];rfl)
   | true =>
    refine bz ?_
    refine ⟨_,rfl,_,tk.length,rfl,.inl ⟨_,sm.seq ha,(ao tk).symm⟩,1,_,rfl,rfl,_,rfl,?_⟩
    by_cases c1:1≤tk.length
    ·rw [decide_eq_true (show (1:Int)≤(tk.length:Int) by lia)]
     refine bN ?_
     refine ⟨_,_,rfl,rfl,_,rfl,?_⟩
     by_cases c2:tk.length≤4
     ·rw [decide_eq_true (show (tk.length:Int)≤4 by lia)]
      refine bN ?_
      refine ⟨_,rfl,_,gv.length,rfl,.inl ⟨_,sm.seq hb,(ao gv).symm⟩,_,_,rfl,rfl,?_⟩
      have e:fv tk gv = decide ((gv.length:Int)≤4):=by
       unfold fv
       rw [u1,u2,decide_eq_true c1,decide_eq_true c2]
       simp only [Bool.true_and]
       exact decide_eq_decide.mpr (by lia)
      show Q (V.bl (decide ((gv.length:Int)≤4))) H2
      rw [← e]
      exact k H2 sm
     ·rw [decide_eq_false (show ¬ (tk.length:Int)≤4 by lia)]
      refine bz ?_
      exact no H2 sm (by unfold fv;rw [u1,u2,decide_eq_false c2];simp)
    ·rw [decide_eq_false (show ¬ (1:Int)≤(tk.length:Int) by lia)]
     refine bz ⟨_,rfl,?_⟩
     refine bz ?_
     exact no H2 sm (by unfold fv;rw [u1,u2,decide_eq_false c1];simp)
end
end Uf
end
section
namespace Uf
open PySem L2 UfSrt
abbrev Mv:=Str × List Str × List Str
def nX (H:Hp) (m:Mv) (q:Addr):Prop:=∃ l g,H q = some (.tup [.str m.1,.ref l,.ref g])∧H l = some (.lst (av m.2.1))∧H g = some (.lst (av m.2.2))
theorem nX.same {H H' : Hp} {m:Mv} {q:Addr} (s:au H H') (h:nX H m q):nX H' m q:=by
 obtain ⟨l,g,h1,h2,h3⟩:=h
 exact ⟨l,g,s _ _ h1,s _ _ h2,s _ _ h3⟩
def lO (K:PySem.W.Frag) (H:Hp) (a:Addr) (ms:List Mv):Prop:=∃ qs:List Addr,aY K H a (qs.map V.ref)∧Paired (nX H) ms qs
theorem lO.same {K:PySem.W.Frag} {H H' : Hp} {a:Addr} {ms:List Mv} (s:au H H') (h:lO K H a ms):lO K H' a ms:=by
 obtain ⟨qs,h1,h2⟩:=h
 exact ⟨qs,s.seq h1,Paired.dh h2 fun _ _=>nX.same s⟩
theorem bp {α β:Type} {F:α→β→Prop} : ∀ {l:List α} {m:List β} {i:Nat} {b:β},Paired F l m→m[i]? = some b→∃ a,l[i]? = some a∧F a b
 | _,_,_,_,.nil,e=>by simp at e
 | _,_,0,_,.cons r _,e=>by
  simp at e
  subst e
  exact ⟨_,rfl,r⟩
 | _,_,i + 1,_,.cons _ t,e=>by
  obtain ⟨a,h1,h2⟩:=bp (i:=i) t (by simpa using e)
  exact ⟨a,by simpa using h1,h2⟩
theorem dA {qs:List Addr} {i:Nat} {v:V} (h:(qs.map V.ref)[i]? = some v):∃ q,qs[i]? = some q∧v = .ref q:=by
 rw [List.getElem?_map] at h
 cases e:qs[i]? with
 | none=>rw [e] at h;cases h
 | some x=>rw [e] at h;exact ⟨x,rfl,(Option.some.inj h).symm⟩
def jn (ms:List Mv):List Str:=ms.flatMap fun m=>m.2.1 ++ m.2.2
def cF (ms:List Mv) (st:List Str):List Str:=aQ (UfSet.dd (st ++ jn ms))
section
variable {P:Program} {w:World} {K:PySem.W.Frag} {mg:Str→Option Value} {base:Heap}
def j8 (K:PySem.W.Frag):Sp:=fun vs H Q _=>∃ (a b:Addr) (ms:List Mv) (st:List Str),vs = [.ref a,.ref b]∧lO K H a ms∧aY K H b (av st)∧(st ++ jn ms).length≤1000∧(UfSet.dd (st ++ jn ms)).length < 64 ∧
 ∀ H' p,au H H'→H p = none→H' p = some (.lst (av (cF ms st)))→Q (.ref p) H'
theorem fJ:aI ["moves", "start", "places", "name", "taken", "given"] ["moves", "start"] (ai d6):=⟨rfl,rfl,rfl,by decide +kernel,rfl,by decide +kernel,by decide +kernel⟩
theorem mh {f:Addr} {fd:FuncData} (F:eZ K "places_of" "places_of" d6 f fd) (T:Txt K mg):aE P w K mg base bQ 1 f fd ["moves", "start"] (j8 K):=by
 refine F.ok fJ (fun vs H Q E h=>?_) (fun cdv A outer s H vs Q E hr h=>?_)
 ·obtain ⟨a,b,ms,st,rfl,_⟩:=h
  rfl
 ·obtain ⟨a,b,ms,st,rfl,ha,hb,hz,h64,k⟩:=h
  obtain ⟨qs,hq,hp⟩:=id ha
  refine ⟨_,ah (aM (i:=2) fJ.nd rfl (Or.inl rfl) (ba bu rfl T.lst dY (aa (pv 1) ag)))
   (ah (dZ PassesOwn.never rfl (br (pv 0)) (gI rfl (bc (aA (i:=3) fJ.nd rfl (Or.inl rfl)) (bc (aA (i:=4) fJ.nd rfl (Or.inl rfl)) (bc (aA (i:=5) fJ.nd rfl (Or.inl rfl)) fe))))
    (aq (aM (i:=2) fJ.nd rfl (Or.inl rfl) (aU jj (aU jj (pv 2) (ba bu rfl T.lst dY (aa (pv 4) ag))) (ba bu rfl T.lst dY (aa (pv 5) ag))))))
   (aq (aJ (az (qo rfl) rfl T.aQ dS (aa (ba (oZ rfl) rfl T.set yh (aa (pv 2) ag)) ag))))),?_⟩
  refine ⟨_,rfl,b,av st,rfl,.inl hb,fun p0 n0=>?_⟩
  have s0:au H (upd H p0 (.lst (av st))):=aj n0
  refine ⟨_,rfl,a,rfl,⟨_,s0.seq hq⟩,cO (K:=K) (a:=a) (xs:=qs.map V.ref) (fun i σ H2=>∃ (p:Addr) (v3 v4 v5:Option V),σ = [some (.ref a),some (.ref b),some (.ref p),v3,v4,v5]∧au H H2∧H p = none∧H2 p = some (.lst (av (st ++ jn (ms.take i)))))
   ⟨p0,none,none,none,rfl,s0,n0,by rw [ae];simp [jn]⟩ (fun i σ H2 _ ⟨_,_,_,_,_,sm,_⟩=>sm.seq hq) ?_ ?_⟩
  ·rintro i v σ H2 hi ⟨p,v3,v4,v5,rfl,sm,np,hp2⟩
   obtain ⟨q,hqi,rfl⟩:=dA hi
   obtain ⟨m,hm,hmv⟩:=bp hp hqi
   obtain ⟨l,g,e1,e2,e3⟩:=hmv.same sm
   have etk:jn (ms.take (i + 1)) = jn (ms.take i) ++ (m.2.1 ++ m.2.2):=by
    unfold jn
    rw [ar hm,List.flatMap_append]
    simp
   have hle:(st ++ jn (ms.take (i + 1))).length≤1000:=by
    refine Nat.le_trans ?_ hz
    have e:jn ms = jn (ms.take (i + 1)) ++ jn (ms.drop (i + 1)):=by
     unfold jn
     rw [← List.flatMap_append,List.take_append_drop]
    rw [e,List.length_append,List.length_append,List.length_append]
    lia
   rw [etk] at hle
   simp only [List.length_append] at hle
   have hsl:=PySem.sizeLine_eq
   refine ⟨q,_,rfl,cV.of e1,rfl,_,_,rfl,_,_,rfl,_,_,rfl,rfl,?_⟩
   refine ⟨_,rfl,_,rfl,l,av m.2.1,rfl,.inl (aY.of e2),fun l1 n1=>⟨p,l1,_,_,rfl,rfl,(by rw [af (ak hp2 n1)];exact hp2),ae,?_,fun p1 m1=>?_⟩⟩
   ·rw [ao,ao,List.length_append]
    lia
   have s1:au H2 (upd (upd H2 l1 (.lst (av m.2.1))) p1 (.lst (av (st ++ jn (ms.take i)) ++ av m.2.1))):=(aj n1).trans (aj m1)
   refine ⟨_,rfl,g,av m.2.2,rfl,.inl (aY.of (s1 _ _ e3)),fun l2 n2=>⟨p1,l2,_,_,rfl,rfl,(by rw [af (ak ae n2)];exact ae),ae,?_,fun p2 m2=>?_⟩⟩
   ·rw [List.length_append,ao,ao,ao,List.length_append]
    lia
   have s2:=s1.trans ((aj (o:=.lst (av m.2.2)) n2).trans (aj (o:=.lst ((av (st ++ jn (ms.take i)) ++ av m.2.1) ++ av m.2.2)) m2))
   refine ⟨p2,_,_,_,rfl,sm.trans s2,?_,?_⟩
   ·exact (sm.trans (s1.trans (aj (o:=.lst (av m.2.2)) n2))).free m2
   ·rw [ae,etk]
    unfold av
    simp [List.map_append]
  ·rintro σ H2 ⟨p,v3,v4,v5,rfl,sm,np,hp2⟩
   have el:(qs.map V.ref).length = ms.length:=by rw [List.length_map,← Paired.length hp]
   rw [el,List.take_length] at hp2
   refine ⟨_,rfl,p,st ++ jn ms,rfl,aY.of hp2,hz,fun p1 n1=>⟨p1,_,rfl,ae,h64,fun p2 n2=>?_⟩⟩
   have s1:=(aj (o:=oS w p1 (UfSet.dd (st ++ jn ms))) n1).trans (aj (o:=.lst (av (aQ (UfSet.dd (st ++ jn ms))))) n2)
   exact k _ p2 (sm.trans s1) ((sm.trans (aj (o:=oS w p1 (UfSet.dd (st ++ jn ms))) n1)).free n2) ae
end
end Uf
end
section
namespace Uf
open PySem L2 UfSrt
def names (ms:List Mv):List Str:=ms.map (·.1)
def fz (ms:List Mv) (st:List Str):Bool:=decide (ms.length≤12) && (unlike (names ms) && ((ms.all fun m=>fv m.2.1 m.2.2) && (unlike st && decide ((cF ms st).length≤12))))
structure Fits (ms:List Mv) (st:List Str):Prop where
 nm:Short (names ms)
 tk:∀ m ∈ ms,Short m.2.1
 gv:∀ m ∈ ms,Short m.2.2
 so:Short st
 sum:(st ++ jn ms).length≤1000
 oF:(UfSet.dd (st ++ jn ms)).length < 64
section
variable {P:Program} {w:World} {K:PySem.W.Frag} {mg:Str→Option Value} {base:Heap}
def rC (K:PySem.W.Frag):Sp:=fun vs H Q _=>∃ (a b:Addr) (ms:List Mv) (st:List Str),vs = [.ref a,.ref b]∧lO K H a ms∧aY K H b (av st)∧Fits ms st∧∀ H',au H H'→Q (.bl (fz ms st)) H'
theorem ye:aI ["moves", "start"] ["moves", "start"] (ai fi):=⟨rfl,rfl,rfl,by decide +kernel,rfl,by decide +kernel,by decide +kernel⟩
theorem vi {f fN fU fM fP:Addr} {fd fdN fdU fdM fdP:FuncData} (F:eZ K "makes_net" "makes_net" fi f fd) (T:Txt K mg) (DN:Def K mg "is_name" cb ["thing"] fN fdN) (DU:Def K mg "are_unlike_names" dk ["things"] fU fdU)
  (DM:Def K mg "is_move" eh ["taken", "given"] fM fdM) (DP:Def K mg "places_of" d6 ["moves", "start"] fP fdP):aE P w K mg base bQ 4 f fd ["moves", "start"] (rC K):=by
 have GU:aE P w K mg base bQ 2 fU fdU ["things"] (kg K):=md DU.fn T DN
 have GM:aE P w K mg base bQ 3 fM fdM ["taken", "given"] (nR K):=rX DM.fn T DN DU
 have GP:aE P w K mg base bQ 1 fP fdP ["moves", "start"] (j8 K):=mh DP.fn T
 refine F.ok ye (fun vs H Q E h=>?_) (fun cdv A outer s H vs Q E hr h=>?_)
 ·obtain ⟨a,b,ms,st,rfl,_⟩:=h
  rfl
 ·obtain ⟨a,b,ms,st,rfl,ha,hb,hf,k⟩:=h
  obtain ⟨qs,hq,hp⟩:=id ha
  obtain ⟨t1,h1⟩:=T.mostM
  obtain ⟨t2,h2⟩:=T.mostP
  refine ⟨_,ah (cv (PW.pt (pw_or (bJ AY (az bA rfl T.len dX (aa (pv 0) ag)) (bj (v:=.int 12) rfl h1 ⟨t1,rfl⟩) (cA _))
    (pw_or1 (cN (bY (aK GU (hr.mono (by decide)) rfl DU.mg DU.fn.kp DU.bd .nil aX (aa (cG (N:=["move"]) (n:=1) (ci:=[]) rfl (br (pv 0)) (nj.of (so:=ai fi) (N0:=["moves", "start"]) ⟨rfl,by decide +kernel,by decide +kernel,by decide +kernel,rfl,rfl,by decide +kernel,by decide +kernel⟩)
     (fun z=>⟨aA (i:=0) (cJ (N:=["move"]) (by decide +kernel)) rfl (Or.inl rfl),cT,cP dC (pv 0) aw (fun _ _=>rfl)⟩)) ag)))))))
    (aq (aJ iY)) bf)
   (ah (cv (PW.pt (pw_or (cN (bY (az (kz rfl) rfl T.all vb (aa (cG (N:=["name", "taken", "given"]) (n:=3) (ci:=[]) rfl (br (pv 0)) (nj.of (so:=ai fi) (N0:=["moves", "start"]) ⟨rfl,by decide +kernel,by decide +kernel,by decide +kernel,rfl,rfl,by decide +kernel,by decide +kernel⟩)
     (fun z=>⟨gI rfl (bc (aA (i:=0) (cJ (N:=["name", "taken", "given"]) (by decide +kernel)) rfl (Or.inl rfl)) (bc (aA (i:=1) (cJ (N:=["name", "taken", "given"]) (by decide +kernel)) rfl (Or.inl rfl)) (bc (aA (i:=2) (cJ (N:=["name", "taken", "given"]) (by decide +kernel)) rfl (Or.inl rfl)) fe))),
      cT,aK GM hr rfl DM.mg DM.fn.kp DM.bd .nil aX (aa (pv 1) (aa (pv 2) ag))⟩)) ag))))
     (pw_or1 (cN (bY (aK GU (hr.mono (by decide)) rfl DU.mg DU.fn.kp DU.bd .nil aX (aa (pv 1) ag)))))))
    (aq (aJ iY)) bf)
   (aq (aJ (d4 mm (az bA rfl T.len dX (aa (aK GP (hr.mono (by decide)) rfl DP.mg DP.fn.kp DP.bd .nil aX (aa (pv 0) (aa (pv 1) ag))) ag)) (bj (v:=.int 12) rfl h2 ⟨t2,rfl⟩) (cA _))))),?_⟩
  have no:∀ H',au H H'→fz ms st = false→Q (.bl false) H':=fun H' sm e=>by rw [← e];exact k H' sm
  have lq:qs.length = ms.length:=(Paired.length hp).symm
  refine ⟨_,rfl,_,ms.length,rfl,.inl ⟨_,hq,by rw [List.length_map,lq]⟩,_,_,rfl,rfl,_,rfl,?_⟩
  by_cases c1:ms.length≤12
  ·rw [show decide (((ms.length:Nat):Int) > 12) = false from decide_eq_false (by lia)]
   refine bz ?_
   refine ⟨_,rfl,a,rfl,⟨_,hq⟩,fun z D hD=>bK (a:=a) (xs:=qs.map V.ref) (fun i ys H2=>ys = av (names (ms.take i))∧H2 D = some (.lst ys)∧au H H2) ⟨rfl,ae,aj hD⟩ (fun i ys H2 _ p=>p.2.2.seq hq) ?_ ?_⟩
   ·rintro i v ys H2 hi ⟨rfl,hys,sm⟩
    obtain ⟨q,hqi,rfl⟩:=dA hi
    obtain ⟨m,hm,hmv⟩:=bp hp hqi
    obtain ⟨l,g,e1,e2,e3⟩:=hmv.same sm
    refine ⟨_,rfl,q,_,0,_,rfl,rfl,cV.of e1,cj (j:=0) rfl,hys,?_,?_,ae,aH sm hD⟩
    ·rw [ao,names,List.length_map,List.length_take,sizeLine_eq]
     lia
    ·rw [ar hm]
     unfold names av
     simp
   ·rintro ys H2 ⟨rfl,hys,sm⟩
    rw [List.length_map,lq,List.take_length] at hys
    refine ⟨D,names ms,rfl,aY.of hys,hf.nm,fun H3 s3=>⟨_,rfl,?_⟩⟩
    have sm3:au H H3:=sm.trans s3
    cases u1:unlike (names ms) with
    | false =>
     refine bN ?_
     exact no H3 sm3 (by unfold fz;rw [u1];simp)
    | true =>
     refine bz ?_
     refine ⟨_,rfl,a,rfl,⟨_,sm3.seq hq⟩,fun z2 D2 hD2=>bK (a:=a) (xs:=qs.map V.ref) (fun i ys H4=>ys = (ms.take i).map (fun m=>V.bl (fv m.2.1 m.2.2))∧H4 D2 = some (.lst ys)∧au H3 H4) ⟨rfl,ae,aj hD2⟩ (fun i ys H4 _ p=>(sm3.trans p.2.2).seq hq) ?_ ?_⟩
     ·rintro i v ys H4 hi ⟨rfl,hys4,sm4⟩
      obtain ⟨q,hqi,rfl⟩:=dA hi
      obtain ⟨m,hm,hmv⟩:=bp hp hqi
      obtain ⟨l,g,e1,e2,e3⟩:=hmv.same (sm3.trans sm4)
      have hmem:m ∈ ms:=List.mem_of_getElem? hm
      refine ⟨q,_,rfl,cV.of e1,rfl,_,_,rfl,_,_,rfl,_,_,rfl,rfl,?_⟩
      refine ⟨_,rfl,_,rfl,l,g,m.2.1,m.2.2,rfl,aY.of e2,aY.of e3,hf.tk m hmem,hf.gv m hmem,fun H5 s5=>⟨s5 _ _ hys4,?_,?_,ae,aH (sm4.trans s5) hD2⟩⟩
      ·rw [List.length_map,List.length_take,sizeLine_eq]
       lia
      ·rw [ar hm,List.map_append]
       rfl
     ·rintro ys H4 ⟨rfl,hys4,sm4⟩
      rw [List.length_map,lq,List.take_length] at hys4
      have sm5:au H H4:=sm3.trans sm4
      refine ⟨D2,ms.map (fun m=>fv m.2.1 m.2.2),rfl,aY.of (by rw [hys4,List.map_map];rfl),_,rfl,?_⟩
      have ea:(ms.map (fun m=>fv m.2.1 m.2.2)).all id = ms.all fun m=>fv m.2.1 m.2.2:=by rw [List.all_map];rfl
      rw [ea]
      cases u2:ms.all fun m=>fv m.2.1 m.2.2 with
      | false =>
       refine bN ?_
       refine bN ?_
       exact no H4 sm5 (by unfold fz;rw [u2];simp)
      | true =>
       refine bz ?_
       refine ⟨_,rfl,b,st,rfl,sm5.seq hb,hf.so,fun H6 s6=>⟨_,rfl,?_⟩⟩
       have sm6:au H H6:=sm5.trans s6
       cases u3:unlike st with
       | false =>
        refine bN ?_
        exact no H6 sm6 (by unfold fz;rw [u3];simp)
       | true =>
        refine bz ?_
        refine ⟨_,rfl,_,rfl,a,b,ms,st,rfl,ha.same sm6,sm6.seq hb,hf.sum,hf.oF,fun H7 p s7 np hp7=>?_⟩
        refine ⟨_,(cF ms st).length,rfl,.inl ⟨_,aY.of hp7,(ao _).symm⟩,_,_,rfl,rfl,?_⟩
        have e:fz ms st = decide (((cF ms st).length:Int)≤12):=by
         unfold fz
         rw [decide_eq_true c1,u1,u2,u3]
         simp only [Bool.true_and]
         exact decide_eq_decide.mpr (by lia)
        show Q (V.bl (decide (((cF ms st).length:Int)≤12))) H7
        rw [← e]
        exact k H7 (sm6.trans s7)
  ·rw [show decide (((ms.length:Nat):Int) > 12) = true from decide_eq_true (by lia)]
   refine bN ?_
   refine bN ?_
   exact no H (au.refl H) (by unfold fz;rw [decide_eq_false c1];rfl)
end
end Uf
end
section
namespace UfFin
open PySem UfSrt
theorem fq {α:Type} [DecidableEq α] : ∀ {l m:List α},l.Nodup→(∀ x ∈ l,x ∈ m)→l.length≤m.length
 | [],m,_,_=>Nat.zero_le _
 | a :: l,m,h,hs=>by
  obtain ⟨h1,h2⟩:=List.nodup_cons.mp h
  have ha:a ∈ m:=hs a List.mem_cons_self
  have ih:=fq (l:=l) (m:=m.erase a) h2 fun x hx=>by
   have hne:x≠a:=fun e=>h1 (e ▸ hx)
   exact (List.mem_erase_of_ne hne).mpr (hs x (List.mem_cons_of_mem _ hx))
  rw [List.length_erase_of_mem ha] at ih
  have:=List.length_pos_of_mem ha
  rw [List.length_cons]
  lia
def subs {α:Type} : List α→List (List α)
 | []=>[[]]
 | x :: r=>subs r ++ (subs r).map (x :: ·)
theorem pb {α:Type} : ∀ l:List α,(subs l).length = 2 ^ l.length
 | []=>rfl
 | x :: r=>by
  show (subs r ++ (subs r).map (x :: ·)).length = _
  rw [List.length_append,List.length_map,pb r,List.length_cons,Nat.pow_succ]
  lia
theorem jz {α:Type} (p:α→Bool):∀ l:List α,l.filter p ∈ subs l
 | []=>by simp [subs]
 | x :: r=>by
  have ih:=jz p r
  show List.filter p (x :: r) ∈ subs r ++ (subs r).map (x :: ·)
  rw [List.filter_cons]
  split
  ·exact List.mem_append_right _ (List.mem_map.mpr ⟨_,ih,rfl⟩)
  ·exact List.mem_append_left _ ih
structure dw (l:List Str):Prop where
 pw:l.Pairwise le
 nd:l.Nodup
theorem dw.aQ {l:List Str} (h:l.Nodup):dw (aQ l):=⟨qb l,sL.mpr h⟩
theorem dw.ext {l m:List Str} (h:dw l) (h' : dw m) (e:∀ x,x ∈ l ↔ x ∈ m):l = m:=by
 refine pw_unique h.pw h'.pw ?_
 exact (List.perm_ext_iff_of_nodup h.nd h'.nd).mpr e
theorem dw.xI {l ps:List Str} (h:dw l) (hp:dw ps) (hs:∀ x ∈ l,x ∈ ps):l ∈ subs ps:=by
 have e:l = ps.filter fun x=>decide (x ∈ l):=by
  refine dw.ext h ⟨hp.pw.sublist List.filter_sublist,hp.nd.sublist List.filter_sublist⟩ fun x=>?_
  rw [List.mem_filter]
  constructor
  ·intro hx
   exact ⟨hs x hx,by simpa using hx⟩
  ·rintro ⟨_,hx⟩
   simpa using hx
 rw [e]
 exact jz _ _
end UfFin
end
section
namespace Uf
open PySem L2 UfSrt
abbrev qd:Stmt:=top 48
abbrev j9:Stmt:=inClass qd 0
abbrev jE:Stmt:=inClass qd 1
abbrev iR:Stmt:=inClass qd 2
abbrev fh:Stmt:=inClass qd 3
abbrev fZ:Stmt:=inClass qd 4
abbrev gg:Stmt:=inClass qd 5
abbrev iG:Stmt:=inClass qd 6
def gU (aP aS aT aG:Addr):List (Str × V):=[("place_names",V.ref aP),("start_state",V.ref aS),("taken_by",V.ref aT),("given_by",V.ref aG)]
theorem BA:(("start_state" : Str) == "place_names") = false:=by decide +kernel
theorem Cd:(("taken_by" : Str) == "place_names") = false:=by decide +kernel
theorem Cq:(("given_by" : Str) == "place_names") = false:=by decide +kernel
theorem Cc:(("taken_by" : Str) == "start_state") = false:=by decide +kernel
theorem BQ:(("given_by" : Str) == "start_state") = false:=by decide +kernel
theorem Cv:(("given_by" : Str) == "taken_by") = false:=by decide +kernel
theorem Aq (a b c d:Addr):(gU a b c d).lookup ("place_names" : Str) = some (V.ref a):=by simp [gU,List.lookup]
theorem Bd (a b c d:Addr):(gU a b c d).lookup ("start_state" : Str) = some (V.ref b):=by simp [gU,List.lookup,BA]
theorem rq (a b c d:Addr):(gU a b c d).lookup ("taken_by" : Str) = some (V.ref c):=by simp [gU,List.lookup,Cd,Cc]
theorem yL (a b c d:Addr):(gU a b c d).lookup ("given_by" : Str) = some (V.ref d):=by simp [gU,List.lookup,Cq,BQ,Cv]
theorem dJ (a b c d:Addr) {x:Str} (h1:(x == "place_names") = false) (h2:(x == "start_state") = false) (h3:(x == "taken_by") = false) (h4:(x == "given_by") = false):(gU a b c d).lookup x = none:=by
 simp [gU,List.lookup,h1,h2,h3,h4]
theorem Ai : ¬ (("place_names" : Str) = "start_state"):=by decide +kernel
theorem Bj : ¬ (("place_names" : Str) = "taken_by"):=by decide +kernel
theorem AJ : ¬ (("start_state" : Str) = "taken_by"):=by decide +kernel
theorem Bt : ¬ (("place_names" : Str) = "given_by"):=by decide +kernel
theorem Ck : ¬ (("start_state" : Str) = "given_by"):=by decide +kernel
theorem CK : ¬ (("taken_by" : Str) = "given_by"):=by decide +kernel
theorem sg (a b c d:Addr):aV "given_by" (V.ref d) (aV "taken_by" (V.ref c) (aV "start_state" (V.ref b) (aV "place_names" (V.ref a) []))) = gU a b c d:=by
 simp [aV,gU,Ai,Bj,AJ,Bt,Ck,CK]
structure iy (K:PySem.W.Frag) (C:Addr):Prop where
 cl:tL K C
 nP:bU K C "place_names"
 nS:bU K C "start_state"
 nT:bU K C "taken_by"
 nG:bU K C "given_by"
def fD (H:Hp) (sel:Mv→List Str) (ms:List Mv) (kvs:List (Key × V)):Prop:=Paired (fun (m:Mv) (kv:Key × V)=>kv.1 = Sum.inr m.1∧∃ t,kv.2 = .ref t∧H t = some (.tup (av (aQ (sel m))))) ms kvs
theorem fD.same {H H' : Hp} {sel:Mv→List Str} {ms:List Mv} {kvs:List (Key × V)} (s:∀ b xs,H b = some (.tup xs)→H' b = some (.tup xs)) (h:fD H sel ms kvs):fD H' sel ms kvs :=
 Paired.dh h fun m kv ⟨e,t,h1,h2⟩=>⟨e,t,h1,s _ _ h2⟩
theorem fD.keys {H:Hp} {sel:Mv→List Str} : ∀ {ms:List Mv} {kvs:List (Key × V)},fD H sel ms kvs→kvs.map (·.1) = (names ms).map Sum.inr
 | _,_,.nil=>rfl
 | _,_,.cons h t=>by
  rw [List.map_cons,h.1,fD.keys t]
  rfl
theorem fD.snoc {H:Hp} {sel:Mv→List Str} {ms:List Mv} {kvs:List (Key × V)} {m:Mv} {t:Addr} (h:fD H sel ms kvs) (ht:H t = some (.tup (av (aQ (sel m))))):fD H sel (ms ++ [m]) (kvs ++ [(Sum.inr m.1,.ref t)]) :=
 Paired.snoc h ⟨rfl,t,rfl,ht⟩
theorem fD.none {H:Hp} {sel:Mv→List Str} {ms:List Mv} {kvs:List (Key × V)} {x:Str} (h:fD H sel ms kvs) (hx:x ∉ names ms):cD kvs (Sum.inr x:Key) = .none:=by
 cases e:cD kvs (Sum.inr x:Key) with
 | none=>rfl
 | some v =>
  have:=qU e
  rw [h.keys] at this
  obtain ⟨y,hy,e2⟩:=List.mem_map.mp this
  cases e2
  exact absurd hy hx
theorem fD.get {H:Hp} {sel:Mv→List Str} {m:Mv} : ∀ {ms:List Mv} {kvs:List (Key × V)},fD H sel ms kvs→(names ms).Nodup→m ∈ ms→∃ t,cD kvs (Sum.inr m.1:Key) = some (.ref t)∧H t = some (.tup (av (aQ (sel m))))
 | _,_,.nil,_,h=>by simp at h
 | m' :: ms,_,.cons (b:=kv) h t,hn,hm=>by
  obtain ⟨e,u,e1,e2⟩:=h
  obtain ⟨n1,n2⟩:=List.nodup_cons.mp (show (m'.1 :: names ms).Nodup from hn)
  rcases List.mem_cons.mp hm with rfl | hm
  ·exact ⟨u,by rw [bM e,e1],e2⟩
  ·have ne : ¬ kv.1 = (Sum.inr m.1:Key):=fun z=>by
    rw [e] at z
    have z2:m'.1 = m.1:=by injection z
    exact n1 (by rw [z2];exact List.mem_map.mpr ⟨m,hm,rfl⟩)
   rw [bD ne]
   exact fD.get t n2 hm
structure oN (C:Addr) (H:Hp) (p:Addr) (ms:List Mv) (st:List Str):Prop where
 ob:∃ dx aP aS aT aG kT kG,H p = some (.ins C dx (gU aP aS aT aG))∧H aP = some (.tup (av (cF ms st)))∧H aS = some (.tup (av (aQ st)))∧H aT = some (.dK kT)∧H aG = some (.dK kG)∧fD H (·.2.1) ms kT∧fD H (·.2.2) ms kG
theorem oN.same {C:Addr} {H H' : Hp} {p:Addr} {ms:List Mv} {st:List Str} (s:au H H') (h:oN C H p ms st):oN C H' p ms st:=by
 obtain ⟨dx,aP,aS,aT,aG,kT,kG,h1,h2,h3,h4,h5,h6,h7⟩:=h
 exact ⟨dx,aP,aS,aT,aG,kT,kG,s _ _ h1,s _ _ h2,s _ _ h3,s _ _ h4,s _ _ h5,h6.same fun b xs e=>s _ _ e,h7.same fun b xs e=>s _ _ e⟩
def ix (p:Addr) (H H' : Hp):Prop:=∀ c o,H c = some o→c≠p→H' c = some o
theorem ix.refl (p:Addr) (H:Hp):ix p H H:=fun _ _ e _=>e
theorem ix.then {p:Addr} {H H1 H2:Hp} (b:ix p H H1) (s:au H1 H2):ix p H H2:=fun c o e n=>s c o (b c o e n)
theorem ix.put {p:Addr} {H H1:Hp} {o:HO} (b:ix p H H1):ix p H (upd H1 p o):=fun c u e n=>by rw [af n];exact b c u e n
theorem ix.new {p a:Addr} {H H1:Hp} {o:HO} (b:ix p H H1) (n:H a = none):ix p H (upd H1 a o):=fun c u e nc=>by rw [af (ak e n)];exact b c u e nc
theorem ix.free {p a:Addr} {H H1:Hp} (b:ix p H H1) (n:H1 a = none) (hp:a≠p):H a = none:=by
 cases e:H a with
 | none=>rfl
 | some o=>rw [b a o e hp] at n;cases n
theorem ix.seq {K:PySem.W.Frag} {p C dx a:Addr} {H H1:Hp} {fs:List (Str × V)} {xs:List V} (b:ix p H H1) (hp:H p = some (.ins C dx fs)) (h:aY K H a xs):aY K H1 a xs:=by
 rcases h with (h | ⟨o,h⟩) | h
 ·exact .inl (.inl (b _ _ h (aR h hp (by intro z;cases z))))
 ·exact .inl (.inr ⟨o,b _ _ h (aR h hp (by intro z;cases z))⟩)
 ·exact .inr h
theorem ix.mv {p C dx q:Addr} {H H1:Hp} {fs:List (Str × V)} {m:Mv} (b:ix p H H1) (hp:H p = some (.ins C dx fs)) (h:nX H m q):nX H1 m q:=by
 obtain ⟨l,g,h1,h2,h3⟩:=h
 exact ⟨l,g,b _ _ h1 (aR h1 hp (by intro z;cases z)),b _ _ h2 (aR h2 hp (by intro z;cases z)),b _ _ h3 (aR h3 hp (by intro z;cases z))⟩
structure Sound (ms:List Mv) (st:List Str):Prop where
 ml:ms.length≤12
 nn:(names ms).all isNm = true
 nd:(names ms).Nodup
 mv:∀ m ∈ ms,fv m.2.1 m.2.2 = true
 su:unlike st = true
 pl:(cF ms st).length≤12
theorem kF {ms:List Mv} {st:List Str} (h:fz ms st = true):Sound ms st:=by
 unfold fz at h
 obtain ⟨h1,h⟩:=Bool.and_eq_true_iff.mp h
 obtain ⟨h2,h⟩:=Bool.and_eq_true_iff.mp h
 obtain ⟨h3,h⟩:=Bool.and_eq_true_iff.mp h
 obtain ⟨h4,h5⟩:=Bool.and_eq_true_iff.mp h
 obtain ⟨h6,h7⟩:=Bool.and_eq_true_iff.mp (show ((names ms).all isNm && decide (names ms).Nodup) = true from h2)
 exact ⟨of_decide_eq_true h1,h6,of_decide_eq_true h7,fun m hm=>List.all_eq_true.mp h3 m hm,h4,of_decide_eq_true h5⟩
theorem gX {xs:List Str} (h:unlike xs = true):xs.Nodup:=of_decide_eq_true (Bool.and_eq_true_iff.mp h).2
theorem Sound.BB {ms:List Mv} {st:List Str} (h:Sound ms st):st.length≤12:=by
 refine Nat.le_trans (UfFin.fq (gX h.su) fun x hx=>?_) h.pl
 unfold cF
 exact cR.mpr (UfSet.nu.mpr (List.mem_append_left _ hx))
theorem ia {tk gv:List Str} (h:fv tk gv = true):unlike tk = true∧unlike gv = true∧1≤tk.length∧tk.length≤4∧gv.length≤4:=by
 unfold fv at h
 obtain ⟨h1,h⟩:=Bool.and_eq_true_iff.mp h
 obtain ⟨h2,h⟩:=Bool.and_eq_true_iff.mp h
 obtain ⟨h3,h⟩:=Bool.and_eq_true_iff.mp h
 obtain ⟨h4,h5⟩:=Bool.and_eq_true_iff.mp h
 exact ⟨h1,h2,of_decide_eq_true h3,of_decide_eq_true h4,of_decide_eq_true h5⟩
section
variable {P:Program} {w:World} {K:PySem.W.Frag} {mg:Str→Option Value} {base:Heap}
def tW (K:PySem.W.Frag) (C:Addr):Sp:=fun vs H Q _=>∃ (p dx a b:Addr) (ms:List Mv) (st:List Str),vs = [.ref p,.ref a,.ref b]∧H p = some (.ins C dx [])∧lO K H a ms∧aY K H b (av st)∧Fits ms st∧fz ms st = true ∧
 ∀ H',oN C H' p ms st→(∀ c o,H c = some o→c≠p→H' c = some o)→Q .non H'
theorem mV:aI ["self", "moves", "start", "name", "taken", "given"] ["self", "moves", "start"] (ai j9):=⟨rfl,rfl,rfl,by decide +kernel,rfl,by decide +kernel,by decide +kernel⟩
inductive Ca (C:Addr) (H:Hp) (p a b dx aP aS aT aG:Addr) (ms:List Mv) (st:List Str) (i:Nat) (σ:St) (H6:Hp):Prop
 | mk (kT kG:List (Key × V)) (v3 v4 v5:Option V) (q0:σ = [some (.ref p),some (.ref a),some (.ref b),v3,v4,v5]) (q1:H6 p = some (.ins C dx (gU aP aS aT aG))) (q2:H6 aP = some (.tup (av (cF ms st)))) (q3:H6 aS = some (.tup (av (aQ st)))) (q4:H6 aT = some (.dK kT)) (q5:H6 aG = some (.dK kG)) (q6:fD H6 (·.2.1) (ms.take i) kT) (q7:fD H6 (·.2.2) (ms.take i) kG) (q8:ix p H H6)
theorem Ca.but {C:Addr} {H:Hp} {p a b dx aP aS aT aG:Addr} {ms:List Mv} {st:List Str} {i:Nat} {σ:St} {H6:Hp} (h:Ca C H p a b dx aP aS aT aG ms st i σ H6):ix p H H6:=by
 cases h
 assumption
theorem yc {f C fN fU fM fP fK:Addr} {fd fdN fdU fdM fdP fdK:FuncData} (F:eZ K "__init__" "Net.__init__" j9 f fd) (T:Txt K mg) (CT:iy K C) (DN:Def K mg "is_name" cb ["thing"] fN fdN) (DU:Def K mg "are_unlike_names" dk ["things"] fU fdU)
  (DM:Def K mg "is_move" eh ["taken", "given"] fM fdM) (DP:Def K mg "places_of" d6 ["moves", "start"] fP fdP) (DK:Def K mg "makes_net" fi ["moves", "start"] fK fdK):aE P w K mg base bQ 5 f fd ["self", "moves", "start"] (tW K C):=by
 have GP:aE P w K mg base bQ 1 fP fdP ["moves", "start"] (j8 K):=mh DP.fn T
 have GK:aE P w K mg base bQ 4 fK fdK ["moves", "start"] (rC K):=vi DK.fn T DN DU DM DP
 refine F.ok mV (fun vs H Q E h=>?_) (fun cdv A outer s H vs Q E hr h=>?_)
 ·obtain ⟨p,dx,a,b,ms,st,rfl,_⟩:=h
  rfl
 ·obtain ⟨p,dx,a,b,ms,st,rfl,hp,ha,hb,hf,hmk,k⟩:=h
  have hu:=gm hr
  refine ⟨_,ah (cv (cN (bY (aK GK hr rfl DK.mg DK.fn.kp DK.bd .nil aX (aa (pv 1) (aa (pv 2) ag))))) lX bf)
   (ah (dD (pv 0) (ba bH rfl T.tup gf (aa (aK GP (hr.mono (by decide)) rfl DP.mg DP.fn.kp DP.bd .nil aX (aa (pv 1) (aa (pv 2) ag))) ag)) rfl)
   (ah (dD (pv 0) (ba bH rfl T.tup gf (aa (az dF rfl T.aQ dS (aa (pv 2) ag)) ag)) rfl)
   (ah (dD (pv 0) iT rfl)
   (ah (dD (pv 0) iT rfl)
   (aq (dZ PassesOwn.never rfl (br (pv 1)) (gI rfl (bc (aA (i:=3) mV.nd rfl (Or.inl rfl)) (bc (aA (i:=4) mV.nd rfl (Or.inl rfl)) (bc (aA (i:=5) mV.nd rfl (Or.inl rfl)) fe))))
    (ah (hJ hu (cM (pv 0) rfl) (pv 3) (ba bH rfl T.tup gf (aa (az dF rfl T.aQ dS (aa (pv 4) ag)) ag)) rfl)
    (aq (hJ hu (cM (pv 0) rfl) (pv 3) (ba bH rfl T.tup gf (aa (az dF rfl T.aQ dS (aa (pv 5) ag)) ag)) rfl))))))))),?_⟩
  clear hu
  dsimp only [eU,Cx.qB]
  have so:=kF hmk
  obtain ⟨qs,hq,hqp⟩:=id ha
  refine ⟨_,rfl,_,rfl,a,b,ms,st,rfl,ha,hb,hf,fun H1 s1=>⟨_,rfl,?_⟩⟩
  rw [hmk]
  refine bz ?_
  refine ⟨_,rfl,_,rfl,a,b,ms,st,rfl,ha.same s1,s1.seq hb,hf.sum,hf.oF,fun H2 q1 s2 nq1 hq1=>⟨q1,_,rfl,.inl ⟨aY.of hq1,fun aP nP=>?_⟩⟩⟩
  have sm2:au H H2:=s1.trans s2
  have hp2:=sm2 _ _ hp
  have pP:p≠aP:=ak hp2 nP
  refine ⟨_,rfl,p,C,dx,_,rfl,(by rw [af pP];exact hp2),CT.cl,CT.nP,(by show 0 < 1000;decide),?_⟩
  have b3:ix p H (upd (upd H2 aP (.tup (av (cF ms st)))) p (.ins C dx (aV "place_names" (V.ref aP) []))):=(((ix.refl p H).then sm2).new (sm2.free nP)).put
  have e3P:(upd (upd H2 aP (.tup (av (cF ms st)))) p (.ins C dx (aV "place_names" (V.ref aP) []))) aP = some (.tup (av (cF ms st))):=by rw [af pP.symm,ae]
  have e3p:(upd (upd H2 aP (.tup (av (cF ms st)))) p (.ins C dx (aV "place_names" (V.ref aP) []))) p = some (.ins C dx (aV "place_names" (V.ref aP) [])):=ae
  generalize upd (upd H2 aP (.tup (av (cF ms st)))) p (.ins C dx (aV "place_names" (V.ref aP) [])) = H3 at b3 e3P e3p ⊢
  refine ⟨_,rfl,b,st,rfl,b3.seq hp hb,by have:=so.BB;lia,fun q2 nq2=>⟨q2,_,rfl,.inl ⟨aY.of ae,fun aS nS=>?_⟩⟩⟩
  have p2:p≠q2:=ak e3p nq2
  have pS:p≠aS:=ak (by rw [af p2];exact e3p) nS
  have n2S:aS≠q2:=fun z=>by rw [z,ae] at nS;cases nS
  have nS3:H3 aS = none:=by rw [af n2S] at nS;exact nS
  refine ⟨_,rfl,p,C,dx,_,rfl,(by rw [af pS,af p2];exact e3p),CT.cl,CT.nS,(by show 1 < 1000;decide),?_⟩
  have b4:=(((b3.new (o:=.lst (av (aQ st))) (b3.free nq2 p2.symm)).new (o:=.tup (av (aQ st))) (b3.free nS3 pS.symm)).put (o:=.ins C dx (aV "start_state" (V.ref aS) (aV "place_names" (V.ref aP) []))))
  have PS:aP≠aS:=ak e3P nS3
  have P2:aP≠q2:=ak e3P nq2
  have e4P:(upd (upd (upd H3 q2 (.lst (av (aQ st)))) aS (.tup (av (aQ st)))) p (.ins C dx (aV "start_state" (V.ref aS) (aV "place_names" (V.ref aP) [])))) aP = some (.tup (av (cF ms st))):=by rw [af pP.symm,af PS,af P2];exact e3P
  have e4S:(upd (upd (upd H3 q2 (.lst (av (aQ st)))) aS (.tup (av (aQ st)))) p (.ins C dx (aV "start_state" (V.ref aS) (aV "place_names" (V.ref aP) [])))) aS = some (.tup (av (aQ st))):=by rw [af pS.symm,ae]
  have e4p:(upd (upd (upd H3 q2 (.lst (av (aQ st)))) aS (.tup (av (aQ st)))) p (.ins C dx (aV "start_state" (V.ref aS) (aV "place_names" (V.ref aP) [])))) p = some (.ins C dx (aV "start_state" (V.ref aS) (aV "place_names" (V.ref aP) []))):=ae
  generalize upd (upd (upd H3 q2 (.lst (av (aQ st)))) aS (.tup (av (aQ st)))) p (.ins C dx (aV "start_state" (V.ref aS) (aV "place_names" (V.ref aP) []))) = H4 at b4 e4P e4S e4p ⊢
  intro aT nT
  have pT:p≠aT:=ak e4p nT
  refine ⟨_,rfl,p,C,dx,_,rfl,(by rw [af pT];exact e4p),CT.cl,CT.nT,(by simp [aV,Ai]),?_⟩
  intro aG nG
  have pG:p≠aG:=fun z=>by rw [← z,ae] at nG;cases nG
  have GT:aG≠aT:=fun z=>by rw [z,af pT.symm,ae] at nG;cases nG
  have nG4:H4 aG = none:=by rw [af pG.symm,af GT] at nG;exact nG
  refine ⟨_,rfl,p,C,dx,_,rfl,(by rw [af pG];exact ae),CT.cl,CT.nG,(by simp [aV,Ai,Bj,AJ]),?_⟩
  rw [sg]
  have nT0:H aT = none:=b4.free nT pT.symm
  have nG0:H aG = none:=b4.free nG4 pG.symm
  have b5:=(((b4.new (o:=.dK []) nT0).put (o:=.ins C dx (aV "taken_by" (V.ref aT) (aV "start_state" (V.ref aS) (aV "place_names" (V.ref aP) []))))).new (o:=.dK []) nG0).put (o:=.ins C dx (gU aP aS aT aG))
  have PT:aP≠aT:=ak e4P nT
  have PG:aP≠aG:=ak e4P nG4
  have ST:aS≠aT:=ak e4S nT
  have SG:aS≠aG:=ak e4S nG4
  generalize hH5:upd (upd (upd (upd H4 aT (.dK [])) p (.ins C dx (aV "taken_by" (V.ref aT) (aV "start_state" (V.ref aS) (aV "place_names" (V.ref aP) []))))) aG (.dK [])) p (.ins C dx (gU aP aS aT aG)) = H5 at b5 ⊢
  have e5p:H5 p = some (.ins C dx (gU aP aS aT aG)):=by rw [← hH5,ae]
  have e5P:H5 aP = some (.tup (av (cF ms st))):=by rw [← hH5,af pP.symm,af PG,af pP.symm,af PT];exact e4P
  have e5S:H5 aS = some (.tup (av (aQ st))):=by rw [← hH5,af pS.symm,af SG,af pS.symm,af ST];exact e4S
  have e5T:H5 aT = some (.dK []):=by rw [← hH5,af pT.symm,af GT.symm,af pT.symm,ae]
  have e5G:H5 aG = some (.dK []):=by rw [← hH5,af pG.symm,ae]
  clear hH5
  have lq:qs.length = ms.length:=(Paired.length hqp).symm
  refine ⟨_,rfl,a,rfl,⟨_,b5.seq hp hq⟩,cO (K:=K) (a:=a) (xs:=qs.map V.ref) (Ca C H p a b dx aP aS aT aG ms st)
   ⟨[],[],none,none,none,rfl,e5p,e5P,e5S,e5T,e5G,.nil,.nil,b5⟩ (fun i σ H6 _ h=>h.but.seq hp hq) ?_ ?_⟩
  ·rintro i v σ H6 hi ⟨kT,kG,v3,v4,v5,rfl,e6p,e6P,e6S,e6T,e6G,dT,dG,b6⟩
   obtain ⟨q,hqi,rfl⟩:=dA hi
   obtain ⟨m,hm,hmv⟩:=bp hqp hqi
   obtain ⟨l,g,h1,h2,h3⟩:=b6.mv hp hmv
   have hmem:m ∈ ms:=List.mem_of_getElem? hm
   obtain ⟨_,_,_,tk4,gv4⟩:=ia (so.mv m hmem)
   have hnew:m.1 ∉ names (ms.take i):=fun z=>by
    have nd:=so.nd
    have e:names ms = names (ms.take i) ++ names (ms.drop i):=by
     unfold names
     rw [← List.map_append,List.take_append_drop]
    rw [e] at nd
    have hlt:i < ms.length:=(List.getElem?_eq_some_iff.mp hm).1
    have hin:m.1 ∈ names (ms.drop i):=by
     refine List.mem_map.mpr ⟨m,?_,rfl⟩
     refine List.mem_of_getElem? (i:=0) ?_
     rw [List.getElem?_drop]
     exact hm
    exact (List.nodup_append.mp nd).2.2 _ z _ hin rfl
   have lT:kT.length = (ms.take i).length:=(Paired.length dT).symm
   have lG:kG.length = (ms.take i).length:=(Paired.length dG).symm
   have l12:(ms.take i).length≤12:=by rw [List.length_take];have:=so.ml;lia
   refine ⟨q,_,rfl,cV.of h1,rfl,_,_,rfl,_,_,rfl,_,_,rfl,rfl,?_⟩
   refine ⟨_,rfl,l,m.2.1,rfl,aY.of h2,by lia,fun q3 n3=>⟨q3,_,rfl,.inl ⟨aY.of ae,fun t3 m3=>?_⟩⟩⟩
   have s7:au H6 (upd (upd H6 q3 (.lst (av (aQ m.2.1)))) t3 (.tup (av (aQ m.2.1)))):=(aj n3).trans (aj m3)
   have e7t:(upd (upd H6 q3 (.lst (av (aQ m.2.1)))) t3 (.tup (av (aQ m.2.1)))) t3 = some (.tup (av (aQ m.2.1))):=ae
   have nt6:H6 t3 = none:=(aj (o:=.lst (av (aQ m.2.1))) n3).free m3
   have b7:ix p H (upd (upd H6 q3 (.lst (av (aQ m.2.1)))) t3 (.tup (av (aQ m.2.1)))):=b6.then s7
   generalize upd (upd H6 q3 (.lst (av (aQ m.2.1)))) t3 (.tup (av (aQ m.2.1))) = H7 at s7 e7t b7 ⊢
   refine ⟨_,rfl,p,C,dx,_,_,rfl,s7 _ _ e6p,CT.cl,CT.nT,rq _ _ _ _,_,rfl,aT,_,rfl,jH.k (k:=Sum.inr m.1) (s7 _ _ e6T) (jh (by lia)),?_⟩
   have pk:putK kT (Sum.inr m.1:Key) (V.ref t3) = kT ++ [(Sum.inr m.1,V.ref t3)]:=fE _ (dT.none hnew)
   rw [pk]
   have tT:∀ {b:Addr} {xs:List V},H7 b = some (.tup xs)→b≠aT:=fun e=>aR e (s7 _ _ e6T) (by intro z;cases z)
   have e8T:(upd H7 aT (.dK (kT ++ [(Sum.inr m.1,V.ref t3)]))) aT = some (.dK (kT ++ [(Sum.inr m.1,V.ref t3)])):=ae
   have up8:∀ {b:Addr} {o:HO},b≠aT→H7 b = some o→(upd H7 aT (.dK (kT ++ [(Sum.inr m.1,V.ref t3)]))) b = some o:=fun n e=>by rw [af n];exact e
   have e8p:=up8 pT (s7 _ _ e6p)
   have e8P:=up8 PT (s7 _ _ e6P)
   have e8S:=up8 ST (s7 _ _ e6S)
   have e8G:=up8 GT (s7 _ _ e6G)
   have e8t:=up8 (tT e7t) e7t
   have dT8:fD (upd H7 aT (.dK (kT ++ [(Sum.inr m.1,V.ref t3)]))) (·.2.1) (ms.take i ++ [m]) (kT ++ [(Sum.inr m.1,V.ref t3)]):=(dT.same fun b xs e=>up8 (tT (s7 _ _ e)) (s7 _ _ e)).snoc e8t
   have dG8:fD (upd H7 aT (.dK (kT ++ [(Sum.inr m.1,V.ref t3)]))) (·.2.2) (ms.take i) kG:=dG.same fun b xs e=>up8 (tT (s7 _ _ e)) (s7 _ _ e)
   have e8g:=up8 (aR (s7 _ _ h3) (s7 _ _ e6T) (by intro z;cases z)) (s7 _ _ h3)
   have b8:ix p H (upd H7 aT (.dK (kT ++ [(Sum.inr m.1,V.ref t3)]))):=b7.new nT0
   generalize upd H7 aT (.dK (kT ++ [(Sum.inr m.1,V.ref t3)])) = H8 at e8T e8p e8P e8S e8G dT8 dG8 e8g b8 ⊢
   refine ⟨_,rfl,g,m.2.2,rfl,aY.of e8g,by lia,fun q4 n4=>⟨q4,_,rfl,.inl ⟨aY.of ae,fun t4 m4=>?_⟩⟩⟩
   have s9:au H8 (upd (upd H8 q4 (.lst (av (aQ m.2.2)))) t4 (.tup (av (aQ m.2.2)))):=(aj n4).trans (aj m4)
   have e9t:(upd (upd H8 q4 (.lst (av (aQ m.2.2)))) t4 (.tup (av (aQ m.2.2)))) t4 = some (.tup (av (aQ m.2.2))):=ae
   have b9:ix p H (upd (upd H8 q4 (.lst (av (aQ m.2.2)))) t4 (.tup (av (aQ m.2.2)))):=b8.then s9
   generalize upd (upd H8 q4 (.lst (av (aQ m.2.2)))) t4 (.tup (av (aQ m.2.2))) = H9 at s9 e9t b9 ⊢
   refine ⟨_,rfl,p,C,dx,_,_,rfl,s9 _ _ e8p,CT.cl,CT.nG,yL _ _ _ _,_,rfl,aG,_,rfl,jH.k (k:=Sum.inr m.1) (s9 _ _ e8G) (jh (by lia)),?_⟩
   have pk2:putK kG (Sum.inr m.1:Key) (V.ref t4) = kG ++ [(Sum.inr m.1,V.ref t4)]:=fE _ (dG.none hnew)
   rw [pk2]
   have tG:∀ {b:Addr} {xs:List V},H9 b = some (.tup xs)→b≠aG:=fun e=>aR e (s9 _ _ e8G) (by intro z;cases z)
   have up9:∀ {b:Addr} {o:HO},b≠aG→H9 b = some o→(upd H9 aG (.dK (kG ++ [(Sum.inr m.1,V.ref t4)]))) b = some o:=fun n e=>by rw [af n];exact e
   have tki:ms.take (i + 1) = ms.take i ++ [m]:=ar hm
   refine ⟨kT ++ [(Sum.inr m.1,V.ref t3)],kG ++ [(Sum.inr m.1,V.ref t4)],_,_,_,rfl,up9 pG (s9 _ _ e8p),up9 PG (s9 _ _ e8P),up9 SG (s9 _ _ e8S),up9 GT.symm (s9 _ _ e8T),ae,?_,?_,b9.new nG0⟩
   ·rw [tki]
    exact dT8.same fun b xs e=>up9 (tG (s9 _ _ e)) (s9 _ _ e)
   ·rw [tki]
    exact (dG8.same fun b xs e=>up9 (tG (s9 _ _ e)) (s9 _ _ e)).snoc (up9 (tG e9t) e9t)
  ·rintro σ H6 ⟨kT,kG,v3,v4,v5,rfl,e6p,e6P,e6S,e6T,e6G,dT,dG,b6⟩
   rw [List.length_map,lq,List.take_length] at dT dG
   exact k H6 ⟨dx,aP,aS,aT,aG,kT,kG,e6p,e6P,e6S,e6T,e6G,dT,dG⟩ b6
end
end Uf
end
section
namespace UfX
open PySem
theorem gK (o:Obj) (f):(o.mapFields f).dict = o.dict:=by
 obtain ⟨c,d,dt,sl⟩:=o;cases dt <;> rfl
inductive Exc (h:Heap) (e:Addr) (cls a0:Value) (dx:Option Addr) (hd:Option Addr):Prop
 | mk (oe:Obj) (vs:Array Value) (at_:h.get? e = some oe) (cl:oe.cls = cls) (dc:oe.dict = dx) (dt:oe.data = .fields vs) (first:vs[0]? = some a0) (none_:hd = none→vs[1]? = some .none)
   (some_:∀ T,hd = some T→vs[1]? = some (.ref T)∧T≠e∧∃ oT ts,h.get? T = some oT∧oT.data = .fields ts∧ts[3]? = some Value.none)
structure Step (fr:List Addr) (e:Addr) (hd:Option Addr) (h h' : Heap):Prop where
 keep:∀ b o,h.get? b = some o→b ∉ fr→b≠e→hd≠some b→h'.get? b = some o
 slot:∀ b o,h.get? b = some o→b ∈ fr→∃ sl,h'.get? b = some { o with slots:=sl }
 size:h.objs.size≤h'.objs.size
section
variable {M:Model} {A:Around} {E:Value→Shared→Prop} {s:Shared} {base:Heap} {env:Env} {outer:List Env} {L e:Addr} {Q:Unit→Shared→Prop}
theorem entry {oe:Obj} {vs:Array Value} {a0 head:Value} {b:Bool} (hfr:A.frames = some (env :: outer)) (hl:s.heap.FunFrames base (env :: outer)) (hf:env.frame = some L) (he:s.heap.get? e = some oe) (hdt:oe.data = .fields vs) (hsz:1 < vs.size) (h0:vs[0]? = some a0)
  (k:∀ h' T,Exc h' e oe.cls a0 oe.dict (some T)→s.heap.objs.size≤T→Step ((env :: outer).filterMap (·.frame)) e none s.heap h'→Q () { s with heap:=h' }) :
  wpAny M A (do
   let fo ← frameOf env
   let pl ← entryPlaceOf L b
   let nw ← EntryCells.newEntry head fo .none (rawInt L) .none pl
   setField (.ref e) 1 nw) (fun _ s'=>wpAny M A (setFlight (.ref e) none) Q E s') E s:=by
 have nof:∀ b o us,s.heap.get? b = some o→o.data = .fields us→b ∉ (env :: outer).filterMap (·.frame):=fun b o us h1 h2 hm=>by
  obtain ⟨_,o',ho',hn⟩:=hl.mem hm
  rw [h1] at ho'
  cases ho'
  exact hn us h2
 have nef:=nof e oe vs he hdt
 refine wpAny_bind (wpAny_frameOf_fun hfr hl hf fun h1 sl1=>?_)
 refine wpAny_bind (wpAny_entryPlaceOf fun pl ip=>?_)
 unfold EntryCells.newEntry
 unfold newFields
 refine wpAny_bind (wpAny_newObj_type ?_ (ip.sizeOk5 _ _ _ _ _))
 have he1:h1.get? e = some oe:=(sl1.2.1 e nef).trans he
 generalize hob:({ cls:=.type "traceback",dict:=none,data:=.fields ([head,.ref L,.none,rawInt L,.none] ++ (if pl.isEmpty then List.replicate 6 Value.none else pl)).toArray } : Obj) = ob
 have hobd:ob.data = .fields ([head,.ref L,.none,rawInt L,.none] ++ (if pl.isEmpty then List.replicate 6 Value.none else pl)).toArray:=by rw [← hob]
 have hobf:ob.isFreed = false:=Obj.isFreed_of_fields hobd
 have he2:(h1.push ob).get? e = some oe:=Heap.get?_push_of_some ob he1
 have hT2:(h1.push ob).get? h1.objs.size = some ob:=Heap.get?_push_size h1 hobf
 have hTe:h1.objs.size≠e:=Nat.ne_of_gt (Heap.lt_size he1)
 refine wpAny_setField he2 hdt hsz ?_
 show wpAny M A (setFlight (.ref e) none) Q E { s with heap:=(h1.push ob).update e (Obj.mapFields (·.setIfInBounds 1 (.ref h1.objs.size))) }
 have hd3:=Obj.data_mapFields hdt (·.setIfInBounds 1 (Value.ref h1.objs.size))
 have he3:=Heap.get?_update_self (Obj.mapFields (·.setIfInBounds 1 (Value.ref h1.objs.size))) he2 (Obj.isFreed_of_fields hd3)
 have hT3:=(Heap.get?_update_other (h1.push ob) (Obj.mapFields (·.setIfInBounds 1 (Value.ref h1.objs.size))) (Ne.symm hTe)).trans hT2
 unfold setFlight
 refine wpAny_bind (wpAny_field he3 hd3 (x:=.ref h1.objs.size) (by simp [hsz]) ?_)
 rw [if_pos (show (Value.ref h1.objs.size != Value.none) = true from by simp)]
 refine wpAny_setField hT3 hobd (by simp only [List.size_toArray,List.length_append,List.length_cons,List.length_nil];lia) (k _ h1.objs.size ?_ ?_ ?_)
 ·refine ⟨_,_,(Heap.get?_update_other _ _ hTe).trans he3,Obj.cls_mapFields _ _,gK _ _,hd3,?_,(fun z=>nomatch z),fun T hT=>?_⟩
  ·rw [Array.getElem?_setIfInBounds_ne (by decide)];exact h0
  ·cases hT
   refine ⟨by simp [hsz],hTe,_,_,Heap.get?_update_self _ hT3 (Obj.isFreed_of_fields (Obj.data_mapFields hobd _)),Obj.data_mapFields hobd _,?_⟩
   simp
 ·exact Nat.le_of_eq sl1.1.symm
 ·have other:∀ b o,b≠e→h1.get? b = some o→(((h1.push ob).update e (Obj.mapFields (·.setIfInBounds 1 (.ref h1.objs.size)))).update h1.objs.size (Obj.mapFields (·.setIfInBounds 3 ((none:Option Addr).elim Value.none fun f=>rawInt f)))).get? b = some o:=fun b o hbe hb=>by
   have hbT:h1.objs.size≠b:=Nat.ne_of_gt (Heap.lt_size hb)
   rw [Heap.get?_update_other _ _ hbT,Heap.get?_update_other _ _ (Ne.symm hbe)]
   exact Heap.get?_push_of_some _ hb
  refine ⟨fun b o hb hnf hbe _=>other b o hbe ((sl1.2.1 b hnf).trans hb),fun b o hb hm=>?_,?_⟩
  ·obtain ⟨sl,h2⟩:=sl1.2.2 b o hb
   exact ⟨sl,other b _ (fun z=>nef (z ▸ hm)) h2⟩
  ·rw [Heap.size_after_update,Heap.size_after_update,Heap.size_push,sl1.1]
   exact Nat.le_succ _
theorem leave {cls a0:Value} {dx hd:Option Addr} (hfr:A.frames = some (env :: outer)) (hl:s.heap.FunFrames base (env :: outer)) (hf:env.frame = some L) (x:Exc s.heap e cls a0 dx hd)
  (k:∀ h' T,Exc h' e cls a0 dx (some T)→s.heap.objs.size≤T→Step ((env :: outer).filterMap (·.frame)) e hd s.heap h'→Q () { s with heap:=h' }):wpAny M A («leaving» env (.ref e)) Q E s:=by
 obtain ⟨oe,vs,he,rfl,rfl,hdt,h0,hn,hs⟩:=x
 unfold «leaving» noteFrame
 simp only [hf]
 cases hd with
 | none =>
  have h1:=hn rfl
  refine wpAny_bind (wpAny_bind (wpAny_field he hdt h1 ?_))
  rw [if_neg (by decide)]
  exact entry hfr hl hf he hdt (Array.getElem?_eq_some_iff.mp h1).1 h0 k
 | some T =>
  obtain ⟨h1,hTe,oT,ts,hT,hTd,h3⟩:=hs T rfl
  refine wpAny_bind (wpAny_bind (wpAny_field he hdt h1 ?_))
  rw [if_pos (by simp:(Value.ref T != Value.none) = true)]
  refine wpAny_bind (wpAny_field hT hTd h3 ?_)
  rw [if_neg (by simp [rawInt] : ¬ ((Value.none == rawInt L) = true))]
  refine wpAny_bind (wpAny_setField hT hTd (Array.getElem?_eq_some_iff.mp h3).1 ?_)
  have other:∀ c,c≠T→(s.heap.update T (Obj.mapFields (·.setIfInBounds 3 Value.none))).get? c = s.heap.get? c:=fun _ hc=>Heap.get?_update_other _ _ (Ne.symm hc)
  have nT:∀ b o,s.heap.get? b = some o→(∀ us,o.data≠.fields us)→b≠T:=fun b o hb hnf z=>by
   subst z
   rw [hT] at hb
   cases hb
   exact hnf ts hTd
  refine entry hfr (hl.of_keeps fun b o hb hnf=>⟨o,(other b (nT b o hb hnf)).trans hb,rfl⟩) hf ((other e (Ne.symm hTe)).trans he) hdt (Array.getElem?_eq_some_iff.mp h1).1 h0 fun h' T' x1 x2 x3=>k h' T' x1 ?_ ?_
  ·rwa [Heap.size_after_update] at x2
  ·refine ⟨fun b o hb h1 h2 h3=>x3.keep b o ((other b fun z=>h3 (by rw [z])).trans hb) h1 h2 (fun z=>nomatch z),fun b o hb hm=>?_,?_⟩
   ·obtain ⟨_,o',ho',hn'⟩:=hl.mem hm
    have e' : o' = o:=Option.some.inj (ho'.symm.trans hb)
    subst e'
    exact x3.slot b o' ((other b (nT b o' hb hn')).trans hb) hm
   ·have:=x3.size
    rwa [Heap.size_after_update] at this
end
end UfX
end
section
namespace L2
open PySem PySem.Spec PyProof.Rows UfX
inductive Fly (P:Program) (w:World) (outer:List Env) (H:Hp) (s:Shared) (E:XK) (e:Value) (s' : Shared):Prop
 | mk (a T:Addr) (cls a0:Value) (dx:Option Addr) (H' : Hp) (he:e = .ref a) (os:s'.os = s.os) (bare:AllBare s'.gens) (un:Un (g9 outer) [] H H' s.heap s'.heap) (hok:ij P w H' s'.heap)
   (x:Exc s'.heap a cls a0 dx (some T)) (na:s.heap.get? a = none) (nT:s.heap.get? T = none) (ha:H' a = none) (hT:H' T = none) (q:E cls dx H')
abbrev rL (P:Program) (w:World):pA:=fun outer H s E e s'=>Fly P w outer H s E e s'
section
variable {P:Program} {w:World} {K:PySem.W.Frag} {mg:Str→Option Value} {base:Heap} {N:List Str} {qual:Str} {scope:Scope} {f:Addr} {cd:Value} {A:Around} {outer:List Env} {s:Shared} {H:Hp} {E:XK}
theorem yA {pins:List (Addr × Obj)} {σ:St} {H' : Hp} {s' : Shared} {a:Addr} {cls a0:Value} {dx hd:Option Addr} (I:Inv (eU (rL P w) P w K mg base N qual scope f cd A outer s H E) pins σ H' s')
  (x:Exc s'.heap a cls a0 dx hd) (ha:H' a = none) (na:s.heap.get? a = none) (hh:∀ T,hd = some T→H' T = none∧s.heap.get? T = none) (q:E cls dx H') :
  (eU (rL P w) P w K mg base N qual scope f cd A outer s H E).xe (.ref a) s':=by
 refine UfX.leave (base:=base) I.ok.frames I.stack rfl x fun h' T x1 lT st=>?_
 have b0:Un (g9 outer) [] H H' s.heap s'.heap:=I.base
 have fr:∀ b o,H' b = some o→b ∉ g9 (envOfC qual scope s.heap.objs.size f cd :: outer):=fun b o e hm=>by
  rw [I.jP b hm] at e
  cases e
 have kt:∀ b o u,H' b = some o→s'.heap.get? b = some u→h'.get? b = some u:=fun b o u e hu =>
  st.keep b u hu (fr b o e) (fun z=>by rw [z,ha] at e;cases e) fun z=>by rw [(hh b z).1] at e;cases e
 have old:∀ b o,s.heap.get? b = some o→b≠a∧hd≠some b:=fun b o e=>⟨fun z=>(by rw [z,na] at e;cases e),fun z=>(by rw [(hh b z).2] at e;cases e)⟩
 have nL:∀ b o,s.heap.get? b = some o→b≠s.heap.objs.size:=fun b o e z=>by
  have:=Heap.lt_size e
  rw [z] at this
  exact Nat.lt_irrefl _ this
 have mem:∀ b,b ∈ g9 (envOfC qual scope s.heap.objs.size f cd :: outer)→b = s.heap.objs.size∨b ∈ g9 outer:=fun b hb=>by
  unfold g9 at hb
  rw [List.filterMap_cons] at hb
  exact List.mem_cons.mp hb
 have sub:∀ b,b ∈ g9 outer→b ∈ g9 (envOfC qual scope s.heap.objs.size f cd :: outer):=fun b hb=>by
  unfold g9
  rw [List.filterMap_cons]
  exact List.mem_cons_of_mem _ hb
 refine ⟨a,T,cls,a0,dx,H',rfl,I.os,I.bare,⟨fun b o e n h1 h2=>?_,fun b o e n h1 h2=>?_,b0.free,fun b o e h2=>?_,b0.cz,b0.frzs,b0.tbls⟩,fun b o e=>(I.hok b o e).jf (fun c u hc hu=>?_) (fun _ z=>z) fun _ _ z=>z,x1,na,
  Heap.get?_none_of_le (Nat.le_trans I.sz lT),ha,I.hok.fresh lT,q⟩
 ·refine st.keep b o (b0.keep b o e n h1 h2) (fun hm=>?_) (old b o e).1 (old b o e).2
  rcases mem b hm with z | z
  ·exact nL b o e z
  ·exact h1 z
 ·obtain ⟨sl,h3⟩:=b0.slot b o e n h1 h2
  obtain ⟨sl2,h4⟩:=st.slot b _ h3 (sub b h1)
  exact ⟨sl2,h4⟩
 ·obtain ⟨o',h3⟩:=b0.there b o e h2
  by_cases hm:b ∈ g9 (envOfC qual scope s.heap.objs.size f cd :: outer)
  ·obtain ⟨sl,h4⟩:=st.slot b o' h3 hm
   exact ⟨_,h4⟩
  ·exact ⟨_,st.keep b o' h3 hm (old b o e).1 (old b o e).2⟩
 ·rcases hc with rfl | hc
  ·exact kt _ _ _ e hu
  ·exact kt _ _ _ hc hu
theorem yQ:Passes (rL P w) (eU (rL P w) P w K mg base N qual scope f cd A outer s H E) E:=fun pins σ H1 s1 e s' I h=>by
 obtain ⟨a,T,cls,a0,dx,H',rfl,os,bare,un,hok,x,na,nT,ha,hT,q⟩:=h
 have J:=I.uq os un hok bare fun b z=>absurd z (by simp)
 have b0:Un (g9 outer) [] H H1 s.heap s1.heap:=I.base
 have old:∀ b,s1.heap.get? b = none→s.heap.get? b = none:=fun b n=>by
  cases z:s.heap.get? b with
  | none=>rfl
  | some o =>
   obtain ⟨o',h3⟩:=b0.there b o z (by simp)
   rw [n] at h3
   cases h3
 exact yA J x ha (old a na) (fun T' z=>by cases z;exact ⟨hT,old T nT⟩) q
end
end L2
end
section
namespace UfX
open PySem
section
variable {P:Program} {w:World} {A:Around} {X:Value→Shared→Prop} {h:Heap} {gs:Array GenState} {dr:Drawn} {tk:Nat} {o:OsState}
variable {cn cq:Str} {C N:Addr} {bases tl root:List Value} {hasD:Bool} {sn:List Str} {subs:List Value} {ab:Bool} {col:Option Bool} {cdd:Option Addr} {l0 l1 l2 l3 l5:Option Value} {B nw ini:String}
theorem kZ (F:ExcBaseFacts B nw ini root) (T:OwnTail h root tl) {mN:Str→Option Value} {vs:List Value} {fI:Addr} {oI:Obj} {Q:Fin→Shared→Prop}
  (hC:h.get? C = some (excClassObj cn cq C N bases tl hasD sn subs ab col cdd l0 l1 l2 l3 l5 nw)) (hN:h.Ns N mN) (hi:mN "__init__" = some (.ref fI)) (hf:h.get? fI = some oI) (hfc:oI.cls = .type "function")
  (k:∀ h' e,Heap.MadeExcOf h h' e (.ref C) vs→h.objs.size≤e→wpAny (model P w) A (call (.ref fI) (.ref e :: vs)) (fun r s'=>r = .none∧Q (.done (.ret (.ref e))) s') X ⟨h',gs,dr,tk,o⟩) (hz:vs.length≤sizeLine) :
  wpAny (model P w) A (Builtin.«type.__call__» ⟨.ref C :: vs,[]⟩) Q X ⟨h,gs,dr,tk,o⟩:=by
 repeat (first | (with_reducible refine wpAny_loadPart_at hC ?_) | (with_reducible refine wpAny_madeBy_exc hC ?_) | wp_step)
 refine codeAny_call_builtin_code (Code.quiet_builtin _ F.quiet) (wpAny_check_new_subT F T hC (codeAny_exc_new_subT F T hC ?_ hz))
 show wpAny _ _ _ _ _ _
 generalize hob:({ cls:=.ref C,data:=.fields #[.ref h.objs.size,.none,.none,.none,.bool false,.none] } : Obj) = ob
 generalize htb:({ cls:=.type "tuple",data:=.seq vs.toArray } : Obj) = tb
 have kp:∀ b u,h.get? b = some u→((h.push tb).push ob).get? b = some u:=fun b u e=>Heap.get?_push_of_some ob (Heap.get?_push_of_some tb e)
 have C1:=kp _ _ hC
 have f1:=kp _ _ hf
 have N1:((h.push tb).push ob).Ns N mN:=by
  obtain ⟨on,es,ep,e,r⟩:=hN
  exact ⟨on,es,ep,kp _ _ e,r⟩
 have T1:=T.keeps kp
 have at_:((h.push tb).push ob).get? (h.objs.size + 1) = some ob:=by
  rw [← hob]
  exact Heap.get?_push_at (by rw [Heap.size_push]) rfl
 have tat:((h.push tb).push ob).get? h.objs.size = some tb:=by
  rw [← htb]
  exact Heap.get?_push_of_some _ (Heap.get?_push_at rfl rfl)
 have hself:(Value.ref C :: tl).contains (.ref C) = true:=by simp
 have ocls:ob.cls = .ref C:=by rw [← hob]
 unfold isInstance
 repeat (first | (with_reducible refine wpAny_loadPart_at at_ ?_;rw [ocls]) | (with_reducible refine wpAny_isSubtype_exc C1 ?_;rw [hself]) | wp_step)
 show wpAny _ _ (typeLookup (.ref C) _) _ _ _
 refine wpAny_typeLookup_tail C1 N1 T1 F.mroIs F.init.lookup ?_
 rw [hi]
 refine wpAny_holding (wpAny_bind ?_)
 unfold bindSpecial
 refine wpAny_bind (wpAny_typeOf (T := "function") ⟨_,f1,hfc⟩ ?_)
 rw [if_pos (by decide)]
 have made:Heap.MadeExcOf h ((h.push tb).push ob) (h.objs.size + 1) (.ref C) vs :=
  ⟨kp,Heap.get?_none_of_le (Nat.le_succ _),h.objs.size,by rw [at_,hob],Heap.get?_none_of_le (Nat.le_refl _),by rw [tat,htb]⟩
 refine wpAny_pure (wpAny_bind (wpAny_mono (k _ _ made (Nat.le_succ _)) (fun r s' hr=>?_) fun _ _ z=>z))
 obtain ⟨rfl,hq⟩:=hr
 wp_walk
 exact hq
theorem tN (F:ExcBaseFacts B nw ini root) (T:OwnTail h root tl) {mN:Str→Option Value} {vs:List Value} {fI:Addr} {oI:Obj} {Q:Value→Shared→Prop}
  (hC:h.get? C = some (excClassObj cn cq C N bases tl hasD sn subs ab col cdd l0 l1 l2 l3 l5 nw)) (hN:h.Ns N mN) (hi:mN "__init__" = some (.ref fI)) (hf:h.get? fI = some oI) (hfc:oI.cls = .type "function")
  (k:∀ h' e,Heap.MadeExcOf h h' e (.ref C) vs→h.objs.size≤e→wpAny (model P w) (A.under (.builtin "type.__call__" ⟨.ref C :: vs,[]⟩)) (call (.ref fI) (.ref e :: vs)) (fun r s'=>r = .none∧Q (.ref e) s') X ⟨h',gs,dr,tk,o⟩) (hz:vs.length≤sizeLine) :
  wpAny (model P w) A (call (.ref C) vs) Q X ⟨h,gs,dr,tk,o⟩:=by
 have q1:=tc_lookup
 have q2:=tc_bind (.ref C)
 have hT:(⟨h,gs,dr,tk,o⟩ : Shared).TypeIs (.ref C) "type":=⟨_,hC,rfl⟩
 refine wpAny_call (codeAny_of_tree ?_)
 show wpAny _ _ (callAny (.ref C) _) _ _ _
 repeat (any_goals (first | assumption | (with_reducible refine wpAny_loadPart_at hC ?_) | wp_step))
 exact ⟨rfl,codeAny_call_builtin_at (Code.quiet_builtin _ (by decide +kernel)) entry_typeCall (wpAny_check_type_call_sub hC (kZ F T hC hN hi hf hfc k hz))⟩
end
end UfX
end
section
namespace L2
open PySem PySem.Spec PyProof.Rows UfX
def gx (a:Addr) (cls:Value) (dx:Option Addr) (h:Heap):Prop:=∃ oe vs t0,h.get? a = some oe∧oe.cls = cls∧oe.dict = dx∧oe.data = .fields vs∧vs[0]? = some (.ref t0)∧vs[1]? = some Value.none
def iu (a:Addr) (cls:Value) (dx:Option Addr):HO:=.ext (gx a cls dx)
theorem gx.ok {P:Program} {w:World} {H:Hp} {h:Heap} {a:Addr} {cls:Value} {dx:Option Addr} (x:gx a cls dx h):bo P w H h a (iu a cls dx):=by
 refine ⟨x,?_,fun h1 h2 y k=>?_⟩
 ·obtain ⟨oe,_,_,e,_⟩:=x
  exact ⟨oe,e⟩
 ·obtain ⟨oe,vs,t0,e,r⟩:=y
  exact ⟨oe,vs,t0,k _ e,r⟩
theorem gx.exc {h:Heap} {a:Addr} {cls:Value} {dx:Option Addr} (x:gx a cls dx h):∃ a0,Exc h a cls a0 dx none:=by
 obtain ⟨oe,vs,t0,e,c,d,f,g,i⟩:=x
 exact ⟨_,oe,vs,e,c,d,f,g,(fun _=>i),fun T z=>nomatch z⟩
def del (H:Hp) (a:Addr):Hp:=fun b=>if b = a then none else H b
theorem vq {H:Hp} {a:Addr} : del H a a = none:=by unfold del;rw [if_pos rfl]
theorem gN {H:Hp} {a b:Addr} (h:b≠a):del H a b = H b:=by unfold del;rw [if_neg h]
theorem uk {H:Hp} {a b:Addr} {o:HO} (h:del H a b = some o):b≠a∧H b = some o:=by
 unfold del at h
 split at h
 ·cases h
 ·rename_i n
  exact ⟨n,h⟩
theorem iM {H:Hp} {a b:Addr} (h:H b = none):del H a b = none:=by
 unfold del
 split
 ·rfl
 ·exact h
section
variable {X:Cx} {pins:List (Addr × Obj)} {σ:St} {H:Hp} {s:Shared}
theorem Inv.AB {a:Addr} {φ:Heap→Prop} (I:Inv X pins σ H s) (e:H a = some (.ext φ)) (n0:X.H₀ a = none):Inv X pins σ (del H a) s:=by
 have ne:∀ {b o},H b = some o→o≠.ext φ→b≠a:=fun {b o} h1 h2 z=>h2 (by rw [z,e] at h1;exact (Option.some.inj h1).symm)
 have b0:=I.base
 refine ⟨I.ok,I.os,I.bare,⟨b0.keep,b0.slot,fun b o h1 h2 h3=>iM (b0.free b o h1 h2 h3),b0.there,fun b xs h=>?_,fun b o u h=>?_,fun b ps h=>?_⟩,I.loc,I.cell,iM I.free,fun x c h=>iM (I.freeC x c h),fun p hp=>?_,fun b o h=>?_,I.len⟩
 ·have h2:=b0.cz b xs h
  rw [gN (ne h2 (fun z=>nomatch z))]
  exact h2
 ·have h2:=b0.frzs b o u h
  rw [gN (ne h2 (fun z=>nomatch z))]
  exact h2
 ·obtain ⟨more,h2⟩:=b0.tbls b ps h
  refine ⟨more,?_⟩
  rw [gN (ne h2 (fun z=>nomatch z))]
  exact h2
 ·obtain ⟨h1,h2,h3⟩:=I.pin p hp
  exact ⟨h1,iM h2,h3⟩
 ·obtain ⟨h1,h2⟩:=uk h
  refine (I.hok b o h2).jf (fun _ _ _ z=>z) (fun c hc=>?_) fun c xs hc=>?_
  ·rw [gN (ne hc (fun z=>nomatch z))]
   exact hc
  ·rw [gN (ne hc (fun z=>nomatch z))]
   exact hc
structure wg (K:PySem.W.Frag) (C:Addr):Prop where
 ob:∃ cn cq N bases tl hasD sn subs ab col cdd l0 l1 l2 l3 l5 nw,K.lookup C = some (excClassObj cn cq C N bases tl hasD sn subs ab col cdd l0 l1 l2 l3 l5 nw)∧tl.contains (.type "BaseException") = true
def qS (X:Cx) (E:XK):Prop:=∀ (pins:List (Addr × Obj)) (σ:St) (H:Hp) (s' : Shared) (a:Addr) (cls a0:Value) (dx:Option Addr),Inv X pins σ H s'→Exc s'.heap a cls a0 dx none→H a = none→X.s₀.heap.get? a = none→E cls dx H→X.xe (.ref a) s'
def zg (X:Cx) (E:XK) (te:TE):TS:=fun _ σ H=>te σ H fun v H1=>∃ a C dx,v = .ref a∧H1 a = some (iu a (.ref C) dx)∧wg X.K C∧X.H₀ a = none∧E (.ref C) dx (del H1 a)
theorem uf {E:XK} {e:Expr} {te:TE} {pos:Pos} (hx:qS X E) (hc:X.calm = true) (hex:X.ex = []) (he:PE X e te):PS X (.Raise (some e) none pos) (zg X E te):=by
 intro pins s σ H D I h
 rw [arm_exec_Raise]
 refine wpAny_bind (wpAny_standAt ?_)
 unfold raiseStmt
 simp only [evalOpt,Option.map]
 refine wpAny_bind (wpAny_bind (wpAny_mono (he pins s σ H _ I h) (fun u s1 hu=>wpAny_bind (wpAny_standAt (wpAny_pure ?_))) fun _ _ z=>z))
 obtain ⟨v,H1,I1,rv,a,C,dx,rfl,ha,⟨cn,cq,N,bases,tl,hasD,sn,subs,ab,col,cdd,l0,l1,l2,l3,l5,nw,hC,hB⟩,n0,q⟩:=hu
 obtain rfl:u = Value.ref a:=rv
 have x:gx a (.ref C) dx s1.heap:=(I1.hok a _ ha).1
 have C1:=I1.eV _ _ hC
 have hcB:(Value.ref C :: tl).contains (.type "BaseException") = true:=by rw [List.contains_cons,hB,Bool.or_true]
 have fly:X.xe (.ref a) s1:=by
  obtain ⟨a0,ex⟩:=x.exc
  refine hx pins σ (del H1 a) s1 a (.ref C) a0 dx (I1.AB ha n0) ex vq ?_ q
  cases z:X.s₀.heap.get? a with
  | none=>rfl
  | some o =>
   have:=I1.base.free a o z n0 (by rw [hex];simp)
   rw [ha] at this
   cases this
 obtain ⟨oe,vs,t0,he1,hcl,_,hdt,_,hv1⟩:=x
 obtain ⟨hp,g,d,tk,os⟩:=s1
 repeat (first | (with_reducible refine wpAny_loadPart_at he1 ?_;rw [hcl]) | (with_reducible refine wpAny_loadPart_at C1 ?_) | (with_reducible refine wpAny_isSubtype_exc C1 ?_;rw [hcB]) | wp_step)
 rw [hdt]
 refine wpAny_pure ?_
 rw [hv1]
 refine wpAny_pure ?_
 rw [if_neg (by decide)]
 exact wpAny_pure (wpAny_raiseNew_none (I.ok.hd hc) fly)
end
section
variable {P:Program} {w:World} {K:PySem.W.Frag} {mg:Str→Option Value} {base:Heap} {N:List Str} {qual:Str} {scope:Scope} {f:Addr} {cd:Value} {A:Around} {outer:List Env} {s:Shared} {H:Hp} {E:XK}
theorem uz:qS (eU (rL P w) P w K mg base N qual scope f cd A outer s H E) E:=fun pins σ H' s' a cls a0 dx I x ha na q=>yA I x ha na (fun T z=>nomatch z) q
end
end L2
end
section
namespace L2
open PySem PySem.Spec PyProof.Rows UfX
abbrev mq:List Value:=[.type "ValueError",.type "Exception",.type "BaseException",.type "object"]
structure uX (K:PySem.W.Frag) (C N:Addr):Prop where
 ob:∃ cn cq bases tl hasD sn subs ab col cdd l0 l1 l2 l3 l5,K.lookup C = some (excClassObj cn cq C N bases tl hasD sn subs ab col cdd l0 l1 l2 l3 l5 "ValueError.__new__")∧PySem.W.tailIn K mq tl = true
theorem vm {H:Hp} {a:Addr} {o:HO} (h:H a = some o):upd H a o = H:=by
 funext b
 unfold upd
 split
 ·rename_i e
  rw [e,h]
 ·rfl
section
variable {X:Cx} {pins:List (Addr × Obj)} {σ:St} {H:Hp} {s:Shared}
theorem p6 {A:Around} {E:Value→Shared→Prop} {a C N:Addr} {dx:Option Addr} {us:List Value} {Q:Value→Shared→Prop} (I:Inv X pins σ H s) (ha:H a = some (iu a (.ref C) dx)) (T:uX X.K C N) (hz:us.length≤sizeLine)
  (h:∀ s',Inv X pins σ H s'→Q .none s'):wpAny (model X.prog X.w) A (call (.builtin "ValueError.__init__") (.ref a :: us)) Q E s:=by
 have F:=@PySem.F.excBase_ValueError
 obtain ⟨cn,cq,bases,tl,hasD,sn,subs,ab,col,cdd,l0,l1,l2,l3,l5,h1,h2⟩:=T.ob
 have T1:=PySem.W.tail_of_in I.eV h2
 have C1:=I.eV _ _ h1
 obtain ⟨oe,vs,t0,he,hcl,hdx,hdt,hv0,hv1⟩ : gx a (.ref C) dx s.heap:=(I.hok a _ ha).1
 refine wpAny_call (codeAny_call_builtin F.init.plain F.initEntry (wpAny_check_init_subT (E:=fun e s'=>E e s') F T1 C1 he hcl ?_))
 unfold Builtin.«BaseException.__init__»
 dsimp only
 rw [if_neg (by simp)]
 unfold newTuple Builtin.BaseException.bexcPut
 have hsz:0 < vs.size:=(Array.getElem?_eq_some_iff.mp hv0).1
 have he1:(s.heap.push { cls:=.type "tuple",data:=.seq us.toArray }).get? a = some oe:=Heap.get?_push_of_some _ he
 have fin:Q .none { s with heap:=(s.heap.push { cls:=.type "tuple",data:=.seq us.toArray }).update a (Obj.mapFields (·.setIfInBounds 0 (.ref s.heap.objs.size))) }:=by
  have hd1:=Obj.data_mapFields hdt (·.setIfInBounds 0 (Value.ref s.heap.objs.size))
  have he2:=Heap.get?_update_self (Obj.mapFields (·.setIfInBounds 0 (Value.ref s.heap.objs.size))) he1 (Obj.isFreed_of_fields hd1)
  have J:=I.write (x:=a) (e:=a) (o:=iu a (.ref C) dx) (t':=s.toks) (h':=(s.heap.push { cls:=.type "tuple",data:=.seq us.toArray }).update a (Obj.mapFields (·.setIfInBounds 0 (.ref s.heap.objs.size)))) (by rw [ha];exact True.intro) (.inl rfl)
   (fun b u hb z=>(Heap.get?_update_other _ _ (Ne.symm hb)).trans (Heap.get?_push_of_some _ z)) ⟨_,he2⟩
   (gx.ok ⟨_,_,s.heap.objs.size,he2,(Obj.cls_mapFields _ _).trans hcl,(gK _ _).trans hdx,hd1,by simp [hsz],by rw [Array.getElem?_setIfInBounds_ne (by decide)];exact hv1⟩)
  rw [vm ha] at J
  exact h _ J
 refine wpAny_bind (wpAny_newObj_type (wpAny_bind (wpAny_bind (wpAny_field he1 hdt hv0 (wpAny_bind (wpAny_setField he1 hdt hsz ?_))))) (by show us.toArray.size≤sizeLine;rw [List.size_toArray];exact hz))
 exact wpAny_letGo (wpAny_pure fin)
end
end L2
end
section
namespace UfRev
open PySem PySem.W PySem.Calls PyProof.Rows PyProof.V PySem.Spec
theorem wY:typeLookup (.type "list_reverseiterator") "__len__" = pure none:=by rw [typeLookup_type,builtinLookup_eq_fast];kernel_rfl
theorem uV:typeLookup (.type "list_reverseiterator") "__length_hint__" = pure (some (.builtin "list_reverseiterator.__length_hint__")):=by rw [typeLookup_type,builtinLookup_eq_fast];kernel_rfl
theorem wJ:isSubtype (.type "list_reverseiterator") (.type "list_reverseiterator") = pure true:=by rw [isSubtype_type];kernel_rfl
theorem sV:splitId "list_reverseiterator.__length_hint__" = some ("list_reverseiterator", "__length_hint__"):=by decide +kernel
section
variable {prog:Program} {w:World} {A:Around} {E:Value→Shared→Prop} {s:Shared}
theorem ug {r:Addr} {Q:Bool→Shared→Prop} (hT:s.TypeIs (.ref r) "list_reverseiterator") (h:Q false s):wpAny (model prog w) A (Builtin.List.listLengthHint (.ref r)) Q E s:=by
 unfold Builtin.List.listLengthHint
 refine wpAny_bind (wpAny_specialOf hT wY ?_)
 show wpAny _ A (specialOf (Value.ref r) (Str.ofString "__length_hint__") >>= _) _ _ _
 refine wpAny_bind (wpAny_specialOf hT uV ?_)
 dsimp only
 rw [sV]
 dsimp only
 refine wpAny_bind (wpAny_isInstance (T := "list_reverseiterator") (b:=true) hT wJ ?_)
 refine wpAny_ite_split (fun z=>absurd z (by decide)) (fun _=>?_)
 refine wpAny_ite_split (fun _=>?_) (fun z=>absurd (by decide +kernel) z)
 refine wpAny_ite_split (fun z=>absurd z (by decide)) (fun _=>?_)
 exact wpAny_pure h
def x6 (items:Array Value):Nat→Value→Prop:=fun i v=>items[items.size - 1 - i]? = some v
theorem xE {R:Result→Shared→Prop} {r l:Addr} {items:Array Value} (hh:A.handled = none) (hr:s.heap.IsRevIter r l ((items.size:Int) - 1)) (hl:s.heap.IsList l items) (hne:l≠r) (S:Addr) (hSr:S≠r) (hSl:S≠l) (res:Value) (c₀:Nat) (hS:s.heap.get? S = some { cls:=.type "list",data:=.seq #[] c₀ })
  (hR:∀ h' tk acc' c',(∀ b o,b≠S→b≠r→s.heap.get? b = some o→h'.get? b = some o)→h'.get? S = some { cls:=.type "list",dict:=none,data:=.seq acc' c',slots:=#[] }→ItemsOf (x6 items) acc' items.size→R (.ok (.ret res)) { s with heap:=h',toks:=tk }) (hn:items.size≤sizeLine) :
  wpAny (model prog w) A.in1 (Builtin.List.listExtendWith (.ref S) (.ref r) res)
   (fun fin s'=>match fin with | .done f=>R (.ok f) s' | .again c'=>c'.quiet = true∧codeAny (model prog w) A c' R s') (fun e s'=>R (.error e) s') s:=by
 have hSf:S ∉ [r,l]:=by simp only [List.mem_cons,List.not_mem_nil,or_false,not_or];exact ⟨hSr,hSl⟩
 have W:=Walks.listRev (prog:=prog) (w:=w) (A:=A.in1) hh r l hne items
 have st:0≤items.size∧s.heap.IsRevIter r l ((items.size:Int) - 1 - ((0:Nat):Int))∧s.heap.IsList l items:=⟨Nat.zero_le _,by simpa using hr,hl⟩
 have key:∀ (h:Heap) (c₁ tk:Nat),(0≤items.size∧h.IsRevIter r l ((items.size:Int) - 1 - ((0:Nat):Int))∧h.IsList l items)→(∀ b o,b≠S→s.heap.get? b = some o→h.get? b = some o) →
   h.get? S = some { cls:=.type "list",data:=.seq #[] c₁ }→codeAny (model prog w) A (.builtin "list.extend.loop" ⟨[.ref S,.ref r,res],[]⟩) R { s with heap:=h,toks:=tk }:=by
  intro h c₁ tk hst hk hS₁
  refine codeAny_extend_loopS W.toS hn S hSf res items.size 0 _ #[] c₁ rfl (Nat.zero_le _) hst hS₁ (ItemsOf.nil _) fun s' acc' c' hm hS' hacc=>?_
  rw [Moved.eq_with hm]
  refine hR s'.heap s'.toks acc' c' (fun b o hb hbr e=>hm.heap b o (fun hmem=>?_) (hk b o hb e)) hS' hacc
  rcases List.mem_cons.mp hmem with e' | hmem
  ·exact hb e'
  ·exact hbr (List.mem_singleton.mp hmem)
 have hT:s.TypeIs (.ref r) "list_reverseiterator":=hr.typeIs
 unfold Builtin.List.listExtendWith
 refine wpAny_bind (wpAny_typeOf (T := "list_reverseiterator") hT ?_)
 have h1:Builtin.List.listSameRef (.ref S) (.ref r) = false:=by simp [Builtin.List.listSameRef,hSr]
 have h2:(Value.type "list_reverseiterator" == Value.type "list") = false:=by decide
 have h3:(Value.type "list_reverseiterator" == Value.type "tuple") = false:=by decide
 simp only [h1,h2,h3,Bool.or_false,Bool.false_eq_true,if_false]
 refine wpAny_bind (wpAny_pyIter_revIter hr ?_)
 refine wpAny_bind (wpAny_holding (ug hT ?_))
 refine wpAny_ite_split (fun z=>absurd z (by decide)) (fun _=>wpAny_pure ⟨plainId_quiet PySem.F.plain_extend_loop _,key _ c₀ _ st (fun b o _ e=>e) hS⟩)
theorem kU {r l:Addr} {items:Array Value} {Q:Value→Shared→Prop} (hh:A.handled = none) (hr:s.heap.IsRevIter r l ((items.size:Int) - 1)) (hl:s.heap.IsList l items) (hne:l≠r) (hn:items.size≤sizeLine)
  (hQ:∀ h' tk acc' c',(∀ b o,b≠r→s.heap.get? b = some o→h'.get? b = some o)→h'.get? s.heap.objs.size = some { cls:=.type "list",dict:=none,data:=.seq acc' c',slots:=#[] }→ItemsOf (x6 items) acc' items.size→Q (.ref s.heap.objs.size) { s with heap:=h',toks:=tk }) :
  wpAny (model prog w) A (call (.type "list") [.ref r]) Q E s:=by
 refine callType_codes (Q₁:=fun obj s₁=>obj = .ref s.heap.objs.size∧s₁ = { s with heap:=s.heap.push { cls:=.type "list",data:=.seq #[] } }) PySem.F.called_list (PySem.F.typeCall_list_1 _) PySem.F.entry_list_init
  (code_list_new _ ⟨rfl,rfl⟩) fun obj s₁ h₁=>?_
 obtain ⟨rfl,rfl⟩:=h₁
 have hS:(s.heap.push { cls:=.type "list",data:=.seq #[] }).get? s.heap.objs.size = some { cls:=.type "list",data:=.seq #[] }:=Heap.get?_push_size _ rfl
 have rlt:r < s.heap.objs.size:=let ⟨_,y,_⟩:=hr;Heap.lt_size y
 have llt:l < s.heap.objs.size:=let ⟨_,y,_⟩:=hl;Heap.lt_size y
 refine ⟨⟨_,hS,rfl⟩,PySem.F.args_list_init_2 _ _,?_⟩
 show wpAny _ _ (do let old ← Builtin.List.listItems (.ref s.heap.objs.size);Builtin.List.listUpdate (.ref s.heap.objs.size) (fun _=>#[]);letGo old.toList.reverse;Builtin.List.listExtendWith (.ref s.heap.objs.size) (.ref r) .none) _ _ _
 refine wpAny_bind ?_
 unfold Builtin.List.listItems
 refine wpAny_bind (wpAny_seqItems hS rfl (wpAny_pure ?_))
 show wpAny _ _ (updateSeq s.heap.objs.size (fun _=>#[]) >>= fun _=>letGo (#[] : Array Value).toList.reverse >>= fun _=>Builtin.List.listExtendWith (.ref s.heap.objs.size) (.ref r) .none) _ _ _
 refine wpAny_bind (wpAny_updateSeq hS rfl ?_)
 have hS₂:=Heap.get?_update_self (Obj.mapSeq (fun _=>(#[] : Array Value))) hS rfl
 have oth:∀ b o,b≠s.heap.objs.size→(s.heap.push { cls:=.type "list",data:=.seq #[] }).get? b = some o→((s.heap.push { cls:=.type "list",data:=.seq #[] }).update s.heap.objs.size (Obj.mapSeq (fun _=>(#[] : Array Value)))).get? b = some o :=
  fun b o hb e=>(Heap.get?_update_other _ _ (Ne.symm hb)).trans e
 have up:∀ b o,s.heap.get? b = some o→((s.heap.push { cls:=.type "list",data:=.seq #[] }).update s.heap.objs.size (Obj.mapSeq (fun _=>(#[] : Array Value)))).get? b = some o:=fun b o e =>
  oth b o (Nat.ne_of_lt (Heap.lt_size e)) (Heap.get?_push_of_some _ e)
 refine wpAny_bind (wpAny_letGo ?_)
 refine xE (A:=A.in1) hh (hr.at fun o e=>up _ _ e) (hl.at fun o e=>up _ _ e) hne _ (Nat.ne_of_gt rlt) (Nat.ne_of_gt llt) .none _ hS₂ (fun h' tk acc' c' hk hS' hacc=>?_) hn
 exact ⟨rfl,hQ h' tk acc' c' (fun b o hb e=>hk b o (Nat.ne_of_lt (Heap.lt_size e)) hb (up b o e)) hS' hacc⟩
end
end UfRev
namespace L2
open PySem PySem.Spec PyProof.Rows UfSrt
theorem rW {its:List Value} {acc:Array Value} (h:ItemsOf (UfRev.x6 its.toArray) acc its.toArray.size):acc.toList = its.reverse:=by
 obtain ⟨h1,h2⟩:=h
 have h1:acc.size = its.length:=by rw [h1,List.size_toArray]
 refine List.ext_getElem? fun j=>?_
 rw [Array.getElem?_toList]
 by_cases hj:j < acc.size
 ·have e:acc[j]? = some acc[j]:=Array.getElem?_eq_getElem hj
  have:=h2 j _ e
  unfold UfRev.x6 at this
  rw [List.size_toArray] at this
  rw [e,List.getElem?_reverse (by lia),← this]
  simp
 ·rw [Array.getElem?_eq_none (by lia),List.getElem?_eq_none (by rw [List.length_reverse];lia)]
section
variable {X:Cx}
theorem boot_reversed:bootBuiltins "reversed" = some (.type "reversed"):=by decide +kernel
def v9 (K:PySem.W.Frag) (t:TA):TE:=fun σ H Q=>t σ H fun vs H1=>∃ l ys,vs = [.ref l]∧aY K H1 l ys∧∀ q,H1 q = none→Q (.ref q) (upd H1 q (.lst ys.reverse))
theorem qz {e:Expr} {t:TA} {p1 p2 pos pos2:Pos} (hc:X.calm = true) (hg:Gl X "list") (hm:X.mg "list" = none) (hb:bootBuiltins "list" = some (.type "list")) (hg2:Gl X "reversed") (hm2:X.mg "reversed" = none) (ha:PA X [e] t)
  (he:starEach [.Call (.Name "reversed" p2) [e] [] pos2] X.env = [(false,eval (.Call (.Name "reversed" p2) [e] [] pos2) X.env)]:=by rfl) (he2:starEach [e] X.env = [(false,eval e X.env)]:=by rfl) :
  PE X (.Call (.Name "list" p1) [.Call (.Name "reversed" p2) [e] [] pos2] [] pos) (v9 X.K t):=by
 intro pins s σ H Q I h
 refine wpAny_Call_Name_kw (iA I hg hm hb ?_)
 refine PyProof.Rows.callWith_type1 ?_ he rfl
 rw [he]
 refine Calls.spliced_cons ?_
 refine wpAny_Call_Name_kw (iA I hg2 hm2 boot_reversed ?_)
 refine PyProof.Rows.callWith_type1 (bx (ha pos2 pins s σ H _ I h) fun us s1 ⟨vs,H1,I1,r1,l,ys,ev,hl,q⟩=>?_) he2 rfl
 subst ev
 obtain ⟨u,rfl,ru⟩:=vals1 r1
 cases ru
 obtain ⟨its,rv,pl,hz⟩:=I1.list hl
 have hlen:=rv.length
 have lt:l < s1.heap.objs.size:=let ⟨_,y,_⟩:=pl.isList;Heap.lt_size y
 refine call_reversed_list pl.isList ?_
 refine Calls.spliced_nil ?_
 refine UfRev.kU (l:=l) (items:=its.toArray) (I.ok.hd hc) ⟨_,Heap.get?_push_size _ rfl,rfl,rfl⟩ (pl.isList.push _) (Nat.ne_of_lt lt) (by rw [List.size_toArray];lia) fun h' tk acc c k hq hit=>?_
 have hn:H1 (s1.heap.push (revObj l ((its.toArray.size:Int) - 1))).objs.size = none:=I1.hok.fresh (by rw [Heap.size_push];exact Nat.le_succ _)
 refine ⟨.ref _,upd H1 _ (.lst ys.reverse),I1.laid (t':=tk) (fun b o e=>k b o (Nat.ne_of_lt (Heap.lt_size e)) (Heap.get?_push_of_some _ e)) (by rw [Heap.size_push];exact Nat.le_succ _) ⟨by rw [List.length_reverse];exact hz,its.reverse,c,rv.reverse,?_⟩,rfl,q _ hn⟩
 rw [hq,← rW hit]
end
end L2
end
section
namespace Uf
open PySem L2 UfB
abbrev AE:Stmt:=top 33
abbrev gH:Stmt:=inClass AE 0
abbrev nQ:Stmt:=inClass AE 11
structure zN (K:PySem.W.Frag) (C:Addr):Prop where
 cl:tL K C
 nN:bU K C "base_net"
 nS:bU K C "spot_tuples"
 nO:bU K C "occurrence_tuples"
 nH:bU K C "numbers_there"
 nW:bU K C "own_bits"
 nG:bU K C "given_bits"
 nB:bU K C "beside_bits"
 nT:bU K C "taker_bits"
 nP:bU K C "place_bits"
structure AdF (fs:List (Str × V)) (aS aT aB aP:Addr):Prop where
 s:fs.lookup ("spot_tuples" : Str) = some (.ref aS)
 t:fs.lookup ("taker_bits" : Str) = some (.ref aT)
 b:fs.lookup ("beside_bits" : Str) = some (.ref aB)
 p:fs.lookup ("place_bits" : Str) = some (.ref aP)
def ji (pl:List (Str × Nat)):List (Key × V):=pl.map fun p=>(Sum.inr p.1,nat p.2)
abbrev iQ (H:Hp):List (Str × Option Nat)→List Addr→Prop:=Paired fun p q=>H q = some (.tup [.str p.1,gv p.2])
structure A9 (C:Addr) (H:Hp) (x dx:Addr) (fs:List (Str × V)) (aS aT aB aP:Addr) (W:rz):Prop where
 ins:H x = some (.ins C dx fs)
 sp:∃ qs,H aS = some (.lst (qs.map V.ref))∧iQ H W.sp qs
 tk:H aT = some (.lst (nats W.tk))
 be:H aB = some (.lst (nats W.be))
 pl:H aP = some (.dK (ji W.pl))
def kJ (as:List Addr) (H H' : Hp):Prop:=∀ c o,H c = some o→c ∉ as→H' c = some o
theorem x4 {pl:List (Str × Nat)} {x:Str} (h:x ∈ pl.map (·.1)):∃ m,cD (ji pl) (Sum.inr x:Key) = some (nat m):=by
 induction pl with
 | nil=>simp at h
 | cons p pl ih =>
  by_cases e:p.1 = x
  ·refine ⟨p.2,?_⟩
   show cD ((Sum.inr p.1,nat p.2) :: ji pl) _ = _
   exact bM (by rw [e])
  ·have h2:x ∈ pl.map (·.1):=by
    rcases List.mem_cons.mp h with z | z
    ·exact absurd z.symm e
    ·exact z
   obtain ⟨m,hm⟩:=ih h2
   refine ⟨m,?_⟩
   show cD ((Sum.inr p.1,nat p.2) :: ji pl) _ = _
   rw [bD (fun z=>e (Sum.inr.inj z))]
   exact hm
theorem wM {pl:List (Str × Nat)} {x:Str} {m n:Nat} (hn:(pl.map (·.1)).Nodup) (h:cD (ji pl) (Sum.inr x:Key) = some (nat m)):putK (ji pl) (Sum.inr x:Key) (nat (m ||| 2 ^ n)) = ji (jx pl x n):=by
 have e1:((ji pl).any fun kv=>decide (kv.1 = (Sum.inr x:Key))) = true:=by rw [gR,h];rfl
 unfold putK
 rw [if_pos e1]
 clear e1
 induction pl with
 | nil=>rfl
 | cons p pl ih =>
  obtain ⟨n1,n2⟩:=List.nodup_cons.mp (show (p.1 :: pl.map (·.1)).Nodup from hn)
  have h' : cD ((Sum.inr p.1,nat p.2) :: ji pl) (Sum.inr x:Key) = some (nat m):=h
  by_cases e:p.1 = x
  ·rw [bM (show ((Sum.inr p.1,nat p.2):Key × V).1 = Sum.inr x by rw [e])] at h'
   have em:p.2 = m:=by
    have:=Option.some.inj h'
    unfold nat at this
    have:=V.int.inj this
    lia
   have rest:(ji pl).map (fun kv=>if kv.1 = (Sum.inr x:Key) then (kv.1,nat (m ||| 2 ^ n)) else kv) = ji (jx pl x n):=by
    have e2:jx pl x n = pl:=by
     unfold jx
     conv=>rhs;rw [← List.map_id pl]
     refine List.map_congr_left fun q hq=>?_
     rw [if_neg (fun z=>n1 (by rw [e,← z];exact List.mem_map.mpr ⟨q,hq,rfl⟩))]
     rfl
    rw [e2]
    unfold ji
    rw [List.map_map]
    refine List.map_congr_left fun q hq=>?_
    show (if (Sum.inr q.1:Key) = Sum.inr x then _ else _) = _
    rw [if_neg (fun z=>n1 (by rw [e,← Sum.inr.inj z];exact List.mem_map.mpr ⟨q,hq,rfl⟩))]
   show (if (Sum.inr p.1:Key) = Sum.inr x then ((Sum.inr p.1:Key),nat (m ||| 2 ^ n)) else (Sum.inr p.1,nat p.2)) :: (ji pl).map (fun kv=>if kv.1 = (Sum.inr x:Key) then (kv.1,nat (m ||| 2 ^ n)) else kv) = ji ((if p.1 = x then (p.1,p.2 ||| 2 ^ n) else p) :: jx pl x n)
   rw [if_pos (by rw [e]),if_pos e,rest,em]
   rfl
  ·rw [bD (fun z=>e (Sum.inr.inj z))] at h'
   have:=ih n2 h'
   show (if (Sum.inr p.1:Key) = Sum.inr x then ((Sum.inr p.1:Key),nat (m ||| 2 ^ n)) else (Sum.inr p.1,nat p.2)) :: (ji pl).map (fun kv=>if kv.1 = (Sum.inr x:Key) then (kv.1,nat (m ||| 2 ^ n)) else kv) = ji ((if p.1 = x then (p.1,p.2 ||| 2 ^ n) else p) :: jx pl x n)
   rw [if_neg (fun z=>e (Sum.inr.inj z)),if_neg e,this]
   rfl
theorem ud {ks:List Nat} {j:Nat} (h:j < ks.length):(nats ks)[j]? = some (nat (ks.getD j 0)):=by
 unfold nats
 rw [List.getElem?_map,List.getElem?_eq_getElem h,List.getD_eq_getElem?_getD,List.getElem?_eq_getElem h]
 rfl
theorem iU (ks:List Nat):(nats ks).length = ks.length:=by unfold nats;rw [List.length_map]
theorem lZ (ks:List Nat) (k:Nat):nats ks ++ [nat k] = nats (ks ++ [k]):=by unfold nats;rw [List.map_append];rfl
theorem tO (ks:List Nat) (j k:Nat):(nats ks).set j (nat k) = nats (ks.set j k):=by unfold nats;rw [List.map_set]
theorem xO {n j:Nat} (h:j < n):wA n (j:Int) = some j:=by
 unfold wA
 rw [if_pos (by lia),if_pos (by lia),Int.toNat_natCast]
theorem qj (bs js:List Nat) (j n:Nat):eL bs (js ++ [j]) n = xN (eL bs js n) j n:=by
 unfold eL
 rw [List.foldl_append]
 rfl
theorem kJ.upd {as:List Addr} {H H' : Hp} {a:Addr} {o:HO} (h:kJ as H H') (ha:a ∈ as):kJ as H (upd H' a o):=fun c o' e n=>by
 rw [af (fun z=>n (by rw [z];exact ha))]
 exact h c o' e n
theorem kJ.same {as:List Addr} {H H' H'' : Hp} (h:kJ as H H') (s:au H' H''):kJ as H H'':=fun c o e n=>s _ _ (h c o e n)
theorem iQ.put {H:Hp} {a:Addr} {o:List V} {o' : HO} {l:List (Str × Option Nat)} {qs:List Addr} (h:iQ H l qs) (ha:H a = some (.lst o)):iQ (upd H a o') l qs :=
 Paired.dh h fun p q e=>by rw [af (aR e ha (fun z=>nomatch z))];exact e
theorem iQ.putD {H:Hp} {a:Addr} {o:List (Key × V)} {o' : HO} {l:List (Str × Option Nat)} {qs:List Addr} (h:iQ H l qs) (ha:H a = some (.dK o)):iQ (upd H a o') l qs :=
 Paired.dh h fun p q e=>by rw [af (aR e ha (fun z=>nomatch z))];exact e
section
variable {P:Program} {w:World} {K:PySem.W.Frag} {mg:Str→Option Value} {base:Heap}
def yo (C:Addr) (kind:List V→HO):Sp:=fun vs H Q _=>∃ (x dx pa aS aT aB aP:Addr) (fs:List (Str × V)) (W:rz) (g:Option Nat) (b:Nat) (xs:List Str),vs = [.ref x,.ref pa,gv g,nat b]∧AdF fs aS aT aB aP∧aS≠aT∧aS≠aB∧aT≠aB∧A9 C H x dx fs aS aT aB aP W ∧
 H pa = some (kind (av xs))∧pa ∉ [aS,aT,aB,aP]∧kA (W,b) xs∧∀ H',A9 C H' x dx fs aS aT aB aP (dz g (W,b) xs).1→kJ [aS,aT,aB,aP] H H'→Q .non H'
theorem oB:aI ["self", "places", "giver", "beside", "place", "number", "other"] ["self", "places", "giver", "beside"] (ai nQ):=⟨rfl,rfl,rfl,by decide +kernel,rfl,by decide +kernel,by decide +kernel⟩
inductive Bs (C:Addr) (H:Hp) (x dx pa aS aT aB aP:Addr) (fs:List (Str × V)) (W:rz) (g:Option Nat) (b:Nat) (xs:List Str) (i:Nat) (σ:St) (H2:Hp):Prop
 | mk (v4 v5 v6:Option V) (q0:σ = [some (.ref x),some (.ref pa),some (gv g),some (nat (dz g (W,b) (xs.take i)).2),v4,v5,v6]) (q1:A9 C H2 x dx fs aS aT aB aP (dz g (W,b) (xs.take i)).1) (q2:kJ [aS,aT,aB,aP] H H2)
theorem Bs.but {C:Addr} {H:Hp} {x dx pa aS aT aB aP:Addr} {fs:List (Str × V)} {W:rz} {g:Option Nat} {b:Nat} {xs:List Str} {i:Nat} {σ:St} {H2:Hp} (h:Bs C H x dx pa aS aT aB aP fs W g b xs i σ H2):kJ [aS,aT,aB,aP] H H2:=by
 cases h
 assumption
inductive AdJ (H5:Hp) (x pa aB ml:Addr) (g:Option Nat) (b n:Nat) (z:Str) (bs:List Nat) (i:Nat) (σ:St) (H6:Hp):Prop
 | mk (v6:Option V) (q0:σ = [some (.ref x),some (.ref pa),some (gv g),some (nat b),some (.str z),some (nat n),v6]) (q1:H6 = upd H5 aB (.lst (nats (eL bs ((mem b).take i) n))))
theorem xw {f C fM fB:Addr} {fd fdM fdB:FuncData} (F:eZ K "add_spots" "Web.add_spots" nQ f fd) (T:Txt K mg) (CT:zN K C) (DM:Def K mg "members" dQ ["bits"] fM fdM) (GM:aE P w K mg base bQ 1 fM fdM ["bits"] lU)
  (DB:Def K mg "bit" px ["number"] fB fdB) (GB:aE P w K mg base bQ 1 fB fdB ["number"] yx):aE P w K mg base bQ 2 f fd ["self", "places", "giver", "beside"] (yo C .tup):=by
 refine F.ok oB (fun vs H Q E h=>?_) (fun cdv A outer s H vs Q E hr h=>?_)
 ·obtain ⟨x,dx,pa,aS,aT,aB,aP,fs,W,g,b,xs,rfl,_⟩:=h
  rfl
 ·obtain ⟨x,dx,pa,aS,aT,aB,aP,fs,W,g,b,xs,rfl,fa,nST,nSB,nTB,hW,hpa,npa,hfit,kk⟩:=h
  have hsl:=PySem.sizeLine_eq
  have hu:=gm hr
  refine ⟨_,aq (dZ PassesOwn.never rfl (qJ (pv 1)) (aA (i:=4) oB.nd rfl (Or.inl rfl))
   (ah (aM (i:=5) oB.nd rfl (Or.inl rfl) (az bA rfl T.len dX (aa (cM (pv 0) rfl) ag)))
   (ah (bF (gL PySem.F.plainAttrs_list PySem.F.slot_list_append PySem.F.type_list_append bE (cM (pv 0) rfl) (aa (dI (aa (pv 4) (aa (pv 2) ag))) ag)))
   (ah (bF (gL PySem.F.plainAttrs_list PySem.F.slot_list_append PySem.F.type_list_append bE (cM (pv 0) rfl) (aa aw ag)))
   (ah (bF (gL PySem.F.plainAttrs_list PySem.F.slot_list_append PySem.F.type_list_append bE (cM (pv 0) rfl) (aa (pv 3) ag)))
   (ah (dZ PassesOwn.never rfl (br (aK GM hr rfl DM.mg DM.fn.kp DM.bd .nil aX (aa (pv 3) ag))) (aA (i:=6) oB.nd rfl (Or.inl rfl))
    (aq (qv (aU vD (cP hU (cM (pv 0) rfl) (pv 6) (fun _ _=>rfl)) (aK GB hr rfl DB.mg DB.fn.kp DB.bd .nil aX (aa (pv 5) ag))) (zp (cM (pv 0) rfl) (pv 6) set_list))))
   (ah (hJ hu (cM (pv 0) rfl) (pv 4) (aU vD (fg hu (cM (pv 0) rfl) (pv 4) (fun _ _=>rfl)) (aK GB hr rfl DB.mg DB.fn.kp DB.bd .nil aX (aa (pv 5) ag))) rfl)
   (aq (aM (i:=3) oB.nd rfl (Or.inl rfl) (aU vD (pv 3) (aK GB hr rfl DB.mg DB.fn.kp DB.bd .nil aX (aa (pv 5) ag)))))))))))),?_⟩
  clear hu
  dsimp only [eU,Cx.qB]
  have nT:pa≠aS∧pa≠aT∧pa≠aB∧pa≠aP:=by simpa using npa
  refine ⟨_,rfl,pa,rfl,⟨_,cV.of hpa⟩,xY (K:=K) (a:=pa) (xs:=av xs) (Bs C H x dx pa aS aT aB aP fs W g b xs)
   ⟨none,none,none,rfl,hW,fun _ _ z _=>z⟩ (fun i σ H2 _ h=>cV.of (h.but pa _ hpa npa)) ?_ ?_⟩
  ·rintro i v σ H2 hi ⟨v4,v5,v6,rfl,hA,but⟩
   obtain ⟨z,hz,rfl⟩:=cB hi
   have hil:=(List.getElem?_eq_some_iff.mp hz).1
   have etk:=ar hz
   have fit:kA (dz g (W,b) (xs.take i)) (z :: xs.drop (i + 1)):=by
    refine kA.vo (g:=g) ?_
    have e:xs.take i ++ z :: xs.drop (i + 1) = xs:=by
     have:=List.take_append_drop (i + 1) xs
     rw [etk,List.append_assoc] at this
     exact this
    rw [e]
    exact hfit
   have ep:dz g (W,b) (xs.take (i + 1)) = jr g (dz g (W,b) (xs.take i)) z:=by rw [etk,oC]
   have goal:∀ H',A9 C H' x dx fs aS aT aB aP (jr g (dz g (W,b) (xs.take i)) z).1→kJ [aS,aT,aB,aP] H H'→∀ v4 v5 v6,Bs C H x dx pa aS aT aB aP fs W g b xs (i + 1) [some (.ref x),some (.ref pa),some (gv g),some (nat (jr g (dz g (W,b) (xs.take i)) z).2),v4,v5,v6] H':=fun H' h1 h2 v4 v5 v6=>⟨v4,v5,v6,by rw [ep],by rw [ep];exact h1,h2⟩
   generalize dz g (W,b) (xs.take i) = p at hA fit goal ⊢
   clear ep etk hi hz hil
   obtain ⟨⟨sp,tk,be,pl⟩,b1⟩:=p
   obtain ⟨ins,⟨qs,hS,hq⟩,hT,hB,hP⟩:=hA
   have lq:qs.length = sp.length:=(Paired.length hq).symm
   have f1:tk.length = sp.length:=fit.tk
   have f2:be.length = sp.length:=fit.be
   have f3:b1 < 2 ^ sp.length:=fit.lt
   have f4:sp.length + (z :: xs.drop (i + 1)).length≤250:=fit.oF
   rw [List.length_cons] at f4
   have f5:z ∈ pl.map (·.1):=fit.key z List.mem_cons_self
   have f6:(pl.map (·.1)).Nodup:=fit.nd
   have f7:pl.length≤12:=fit.sm
   dsimp only at hS hq hT hB hP
   refine ⟨_,rfl,x,C,dx,_,_,rfl,ins,CT.cl,CT.nS,fa.s,_,sp.length,rfl,.inl ⟨_,aY.of hS,by rw [List.length_map,lq]⟩,?_⟩
   refine ⟨_,rfl,x,C,dx,_,_,rfl,ins,CT.cl,CT.nS,fa.s,.inl ⟨rfl,_,aY.of hS⟩,_,rfl,_,rfl,by show 2≤sizeLine;lia,fun q nq=>?_⟩
   have s3:au H2 (upd H2 q (.tup [.str z,gv g])):=aj nq
   have hq3:(upd H2 q (.tup [.str z,gv g])) q = some (.tup [.str z,gv g]):=ae
   generalize upd H2 q (.tup [.str z,gv g]) = H3 at s3 hq3 ⊢
   have hS3:=s3 _ _ hS
   have sq3:iQ H3 (sp ++ [(z,g)]) (qs ++ [q]):=Paired.snoc (Paired.dh hq fun p q e=>s3 _ _ e) hq3
   refine ⟨aS,_,_,rfl,rfl,hS3,by rw [List.length_map];lia,?_⟩
   have es:qs.map V.ref ++ [V.ref q] = (qs ++ [q]).map V.ref:=by rw [List.map_append];rfl
   rw [es]
   have xS:x≠aS:=aR ins hS (fun z=>nomatch z)
   have xT:x≠aT:=aR ins hT (fun z=>nomatch z)
   have xB:x≠aB:=aR ins hB (fun z=>nomatch z)
   have xP:x≠aP:=aR ins hP (fun z=>nomatch z)
   have SP:aS≠aP:=aR hS hP (fun z=>nomatch z)
   have TP:aT≠aP:=aR hT hP (fun z=>nomatch z)
   have BP:aB≠aP:=aR hB hP (fun z=>nomatch z)
   have b4:kJ [aS,aT,aB,aP] H (upd H3 aS (.lst ((qs ++ [q]).map V.ref))):=(but.same s3).upd (by simp)
   have i4:(upd H3 aS (.lst ((qs ++ [q]).map V.ref))) x = some (.ins C dx fs):=by rw [af xS];exact s3 _ _ ins
   have S4:(upd H3 aS (.lst ((qs ++ [q]).map V.ref))) aS = some (.lst ((qs ++ [q]).map V.ref)):=ae
   have T4:(upd H3 aS (.lst ((qs ++ [q]).map V.ref))) aT = some (.lst (nats tk)):=by rw [af nST.symm];exact s3 _ _ hT
   have B4:(upd H3 aS (.lst ((qs ++ [q]).map V.ref))) aB = some (.lst (nats be)):=by rw [af nSB.symm];exact s3 _ _ hB
   have P4:(upd H3 aS (.lst ((qs ++ [q]).map V.ref))) aP = some (.dK (ji pl)):=by rw [af SP.symm];exact s3 _ _ hP
   have q4:=iQ.put (o':=.lst ((qs ++ [q]).map V.ref)) sq3 hS3
   generalize upd H3 aS (.lst ((qs ++ [q]).map V.ref)) = H4 at b4 i4 S4 T4 B4 P4 q4 ⊢
   refine ⟨_,rfl,x,C,dx,_,_,rfl,i4,CT.cl,CT.nT,fa.t,.inl ⟨rfl,_,aY.of T4⟩,aT,_,_,rfl,rfl,T4,by rw [iU];lia,?_⟩
   have et:nats tk ++ [V.int 0] = nats (tk ++ [0]):=lZ tk 0
   rw [et]
   have b5:=b4.upd (a:=aT) (o:=.lst (nats (tk ++ [0]))) (by simp)
   have i5:(upd H4 aT (.lst (nats (tk ++ [0])))) x = some (.ins C dx fs):=by rw [af xT];exact i4
   have S5:(upd H4 aT (.lst (nats (tk ++ [0])))) aS = some (.lst ((qs ++ [q]).map V.ref)):=by rw [af nST];exact S4
   have T5:(upd H4 aT (.lst (nats (tk ++ [0])))) aT = some (.lst (nats (tk ++ [0]))):=ae
   have B5:(upd H4 aT (.lst (nats (tk ++ [0])))) aB = some (.lst (nats be)):=by rw [af nTB.symm];exact B4
   have P5:(upd H4 aT (.lst (nats (tk ++ [0])))) aP = some (.dK (ji pl)):=by rw [af TP.symm];exact P4
   have q5:=iQ.put (o':=.lst (nats (tk ++ [0]))) q4 T4
   generalize upd H4 aT (.lst (nats (tk ++ [0]))) = H5 at b5 i5 S5 T5 B5 P5 q5 ⊢
   refine ⟨_,rfl,x,C,dx,_,_,rfl,i5,CT.cl,CT.nB,fa.b,.inl ⟨rfl,_,aY.of B5⟩,_,rfl,aB,_,_,rfl,rfl,B5,by rw [iU];lia,?_⟩
   rw [lZ]
   have b6:=b5.upd (a:=aB) (o:=.lst (nats (be ++ [b1]))) (by simp)
   have i6:(upd H5 aB (.lst (nats (be ++ [b1])))) x = some (.ins C dx fs):=by rw [af xB];exact i5
   have S6:(upd H5 aB (.lst (nats (be ++ [b1])))) aS = some (.lst ((qs ++ [q]).map V.ref)):=by rw [af nSB];exact S5
   have T6:(upd H5 aB (.lst (nats (be ++ [b1])))) aT = some (.lst (nats (tk ++ [0]))):=by rw [af nTB];exact T5
   have B6:(upd H5 aB (.lst (nats (be ++ [b1])))) aB = some (.lst (nats (be ++ [b1]))):=ae
   have P6:(upd H5 aB (.lst (nats (be ++ [b1])))) aP = some (.dK (ji pl)):=by rw [af BP.symm];exact P5
   have q6:=iQ.put (o':=.lst (nats (be ++ [b1]))) q5 B5
   generalize upd H5 aB (.lst (nats (be ++ [b1]))) = H6 at b6 i6 S6 T6 B6 P6 q6 ⊢
   have b256:b1 < 2 ^ 256:=Nat.lt_of_lt_of_le f3 (Nat.pow_le_pow_right (by decide) (by lia))
   refine ⟨_,rfl,b1,rfl,b256,fun H7 ml s7 nml hml=>?_⟩
   have mB:ml≠aB:=(ak B6 nml).symm
   have b7:=b6.same s7
   have i7:=s7 _ _ i6
   have S7:=s7 _ _ S6
   have T7:=s7 _ _ T6
   have B7:=s7 _ _ B6
   have P7:=s7 _ _ P6
   have q7:iQ H7 (sp ++ [(z,g)]) (qs ++ [q]):=Paired.dh q6 fun p q e=>s7 _ _ e
   clear s7 nml
   refine ⟨ml,rfl,⟨_,aY.of hml⟩,cO (K:=K) (a:=ml) (xs:=nats (mem b1)) (AdJ H7 x pa aB ml g b1 sp.length z (be ++ [b1]))
    ⟨_,rfl,?_⟩ (fun j σ H8 _ h=>?_) ?_ ?_⟩
   ·show H7 = upd H7 aB (.lst (nats (be ++ [b1])))
    rw [vm B7]
   ·obtain ⟨v6,_,rfl⟩:=h
    refine aY.of ?_
    rw [af mB]
    exact hml
   ·rintro j v σ H8 hj ⟨v6,rfl,rfl⟩
    obtain ⟨k,hk,rfl⟩ : ∃ k,(mem b1)[j]? = some k∧v = nat k:=by
     unfold nats at hj
     rw [List.getElem?_map] at hj
     obtain ⟨k,e1,e2⟩:=Option.map_eq_some_iff.mp hj
     exact ⟨k,e1,e2.symm⟩
    have kl:k < sp.length:=Ab f3 (List.mem_of_getElem? hk)
    have ol:(eL (be ++ [b1]) ((mem b1).take j) sp.length).length = sp.length + 1:=by rw [jy,List.length_append,f2];rfl
    have e8:(upd H7 aB (.lst (nats (eL (be ++ [b1]) ((mem b1).take j) sp.length)))) aB = some (.lst (nats (eL (be ++ [b1]) ((mem b1).take j) sp.length))):=ae
    have i8:(upd H7 aB (.lst (nats (eL (be ++ [b1]) ((mem b1).take j) sp.length)))) x = some (.ins C dx fs):=by rw [af xB];exact i7
    refine ⟨_,rfl,x,C,dx,_,_,rfl,i8,CT.cl,CT.nB,fa.b,_,rfl,aB,_,_,_,rfl,rfl,aY.of e8,cj (ud (by rw [ol];lia)),_,rfl,sp.length,rfl,by lia,_,_,rfl,rfl,?_⟩
    dsimp only [nat]
    rw [mG]
    refine ⟨_,rfl,x,C,dx,_,_,rfl,i8,CT.cl,CT.nB,fa.b,_,rfl,aB,_,_,k,rfl,rfl,e8,xO (by rw [iU,ol];lia),?_⟩
    refine ⟨_,rfl,?_⟩
    rw [xm,ar hk,qj]
    have:=tO (eL (be ++ [b1]) ((mem b1).take j) sp.length) k ((eL (be ++ [b1]) ((mem b1).take j) sp.length).getD k 0 ||| 2 ^ sp.length)
    unfold nat at this
    rw [this]
    rfl
   ·rintro σ H8 ⟨v6,rfl,rfl⟩
    rw [iU,List.take_length]
    generalize hbe:eL (be ++ [b1]) (mem b1) sp.length = be2
    have b8:=b7.upd (a:=aB) (o:=.lst (nats be2)) (by simp)
    have i8:(upd H7 aB (.lst (nats be2))) x = some (.ins C dx fs):=by rw [af xB];exact i7
    have S8:(upd H7 aB (.lst (nats be2))) aS = some (.lst ((qs ++ [q]).map V.ref)):=by rw [af nSB];exact S7
    have T8:(upd H7 aB (.lst (nats be2))) aT = some (.lst (nats (tk ++ [0]))):=by rw [af nTB];exact T7
    have B8:(upd H7 aB (.lst (nats be2))) aB = some (.lst (nats be2)):=ae
    have P8:(upd H7 aB (.lst (nats be2))) aP = some (.dK (ji pl)):=by rw [af BP.symm];exact P7
    have q8:=iQ.put (o':=.lst (nats be2)) q7 B7
    generalize upd H7 aB (.lst (nats be2)) = H8 at b8 i8 S8 T8 B8 P8 q8 ⊢
    obtain ⟨m,hm⟩:=x4 f5
    have dg:eX H8 aP (V.str z) (some (nat m)):=by rw [← hm];exact eX.k (k:=Sum.inr z) P8
    refine ⟨_,rfl,x,C,dx,_,_,rfl,i8,CT.cl,CT.nP,fa.p,_,rfl,aP,nat m,rfl,dg,_,rfl,sp.length,rfl,by lia,_,_,rfl,rfl,?_⟩
    dsimp only [nat]
    rw [mG]
    refine ⟨_,rfl,x,C,dx,_,_,rfl,i8,CT.cl,CT.nP,fa.p,_,rfl,aP,_,rfl,jH.k (k:=Sum.inr z) P8 (by unfold ji;rw [List.length_map];lia),?_⟩
    have pk:=wM (n:=sp.length) f6 hm
    unfold nat at pk
    rw [pk]
    refine ⟨_,rfl,_,rfl,sp.length,rfl,by lia,_,_,rfl,rfl,?_⟩
    dsimp only [nat]
    rw [mG]
    refine goal _ ⟨?_,⟨qs ++ [q],?_,?_⟩,?_,?_,?_⟩ (b8.upd (by simp)) _ _ _
    ·rw [af xP];exact i8
    ·rw [af SP];exact S8
    ·exact iQ.putD q8 P8
    ·rw [af TP];exact T8
    ·rw [af BP,B8,← hbe];rfl
    ·exact ae
  ·rintro σ H2 ⟨v4,v5,v6,rfl,hA,but⟩
   rw [ao,List.take_length] at hA
   exact kk H2 hA but
end
end Uf
end
section
namespace Uf
open PySem L2 UfSrt
structure eR (K:PySem.W.Frag) (C:Addr) (x q:Str) (st:Stmt) (ps:List Str) (f:Addr) (fd:FuncData):Prop where
 fn:eZ K x q st f fd
 mt:Meth K C x f
 bd:Binds K fd ps []
structure bR (C:Addr) (H:Hp) (p:Addr) (ms:List Mv) (st:List Str):Prop where
 at' : oN C H p ms st
 so:Sound ms st
theorem bR.same {C:Addr} {H H' : Hp} {p:Addr} {ms:List Mv} {st:List Str} (s:au H H') (h:bR C H p ms st):bR C H' p ms st:=⟨h.at'.same s,h.so⟩
theorem Sound.isNm {ms:List Mv} {st:List Str} (h:Sound ms st) {m:Mv} (hm:m ∈ ms):Uf.isNm m.1 = true:=List.all_eq_true.mp h.nn _ (List.mem_map.mpr ⟨m,hm,rfl⟩)
theorem kK {x:Str} (h:isNm x = true):x.length≤8:=by
 unfold isNm at h
 have:=(Bool.and_eq_true_iff.mp (Bool.and_eq_true_iff.mp h).2).1
 exact of_decide_eq_true this
section
variable {P:Program} {w:World} {K:PySem.W.Frag} {mg:Str→Option Value} {base:Heap}
def qf (C:Addr):Sp:=fun vs H Q _=>∃ (p:Addr) (ms:List Mv) (st:List Str),vs = [.ref p]∧bR C H p ms st∧∀ H' q,au H H'→H q = none→H' q = some (.lst (av (aQ (names ms))))→Q (.ref q) H'
theorem zA:aI ["self"] ["self"] (ai iR):=⟨rfl,rfl,rfl,by decide +kernel,rfl,by decide +kernel,by decide +kernel⟩
theorem xF {f C:Addr} {fd:FuncData} (F:eZ K "moves" "Net.moves" iR f fd) (T:Txt K mg) (CT:iy K C):aE P w K mg base bQ 1 f fd ["self"] (qf C):=by
 refine F.ok zA (fun vs H Q E h=>?_) (fun cdv A outer s H vs Q E hr h=>?_)
 ·obtain ⟨p,ms,st,rfl,_⟩:=h
  rfl
 ·obtain ⟨p,ms,st,rfl,N,k⟩:=h
  obtain ⟨dx,aP,aS,aT,aG,kT,kG,h1,h2,h3,h4,h5,h6,h7⟩:=N.at'.ob
  refine ⟨_,aq (aJ (az (qr rfl) rfl T.aQ dS (aa (cM (pv 0) rfl) ag))),?_⟩
  refine ⟨_,rfl,p,C,dx,_,_,rfl,h1,CT.cl,CT.nT,rq _ _ _ _,aT,kT,names ms,rfl,.inl h4,h6.keys,?_,fun q nq=>k _ q (aj nq) nq ae⟩
  have:=N.so.ml
  unfold names
  rw [List.length_map]
  lia
def mL (C:Addr):Sp:=fun vs H Q _=>∃ (p:Addr) (ms:List Mv) (st:List Str),vs = [.ref p]∧bR C H p ms st∧∀ q,H q = some (.tup (av (aQ st)))→Q (.ref q) H
theorem xG:aI ["self"] ["self"] (ai gg):=⟨rfl,rfl,rfl,by decide +kernel,rfl,by decide +kernel,by decide +kernel⟩
theorem u7 {f C:Addr} {fd:FuncData} (F:eZ K "start" "Net.start" gg f fd) (CT:iy K C):aE P w K mg base bQ 1 f fd ["self"] (mL C):=by
 refine F.ok xG (fun vs H Q E h=>?_) (fun cdv A outer s H vs Q E hr h=>?_)
 ·obtain ⟨p,ms,st,rfl,_⟩:=h
  rfl
 ·obtain ⟨p,ms,st,rfl,N,k⟩:=h
  obtain ⟨dx,aP,aS,aT,aG,kT,kG,h1,h2,h3,h4,h5,h6,h7⟩:=N.at'.ob
  refine ⟨_,aq (aJ (cM (pv 0) rfl)),?_⟩
  exact ⟨_,rfl,p,C,dx,_,_,rfl,h1,CT.cl,CT.nS,Bd _ _ _ _,k aS h3⟩
def qk (C:Addr):Sp:=fun vs H Q _=>∃ (p:Addr) (ms:List Mv) (st:List Str) (m:Mv),vs = [.ref p,.str m.1]∧bR C H p ms st∧m ∈ ms∧∀ H',au H H'→Q .non H'
theorem zE:aI ["self", "move"] ["self", "move"] (ai iG):=⟨rfl,rfl,rfl,by decide +kernel,rfl,by decide +kernel,by decide +kernel⟩
theorem rJ {f C fN:Addr} {fd fdN:FuncData} (F:eZ K "must_have" "Net.must_have" iG f fd) (T:Txt K mg) (CT:iy K C) (DN:Def K mg "is_name" cb ["thing"] fN fdN):aE P w K mg base bQ 2 f fd ["self", "move"] (qk C):=by
 have GN:aE P w K mg base bQ 1 fN fdN ["thing"] ki:=lK DN.fn T
 refine F.ok zE (fun vs H Q E h=>?_) (fun cdv A outer s H vs Q E hr h=>?_)
 ·obtain ⟨p,ms,st,m,rfl,_⟩:=h
  rfl
 ·obtain ⟨p,ms,st,m,rfl,N,hm,k⟩:=h
  have hu:=gm hr
  refine ⟨_,aq (cv (PW.pt (pw_or (cN (bY (aK GN hr rfl DN.mg DN.fn.kp DN.bd .nil aX (aa (pv 1) ag)))) (pw_or1 (gC (gY hu (pv 1) (cM (pv 0) rfl)))))) lX bf),?_⟩
  clear hu
  dsimp only [eU,Cx.qB]
  have hnm:=N.so.isNm hm
  refine ⟨_,rfl,m.1,rfl,by have:=kK hnm;lia,fun H1 s1=>⟨_,rfl,?_⟩⟩
  obtain ⟨dx,aP,aS,aT,aG,kT,kG,h1,h2,h3,h4,h5,h6,h7⟩:=(N.at'.same s1).ob
  rw [hnm]
  refine bz ?_
  obtain ⟨t,e,_⟩:=h6.get N.so.nd hm
  refine ⟨_,rfl,_,rfl,p,C,dx,_,_,rfl,h1,CT.cl,CT.nT,rq _ _ _ _,aT,_,rfl,eX.k (k:=Sum.inr m.1) h4,_,rfl,?_⟩
  rw [e]
  refine bz ?_
  exact k H1 s1
def jW (C:Addr) (sel:Mv→List Str):Sp:=fun vs H Q _=>∃ (p:Addr) (ms:List Mv) (st:List Str) (m:Mv),vs = [.ref p,.str m.1]∧bR C H p ms st∧m ∈ ms∧∀ H' q,au H H'→H q = none→H' q = some (.lst (av (aQ (sel m))))→Q (.ref q) H'
theorem xV:aI ["self", "move"] ["self", "move"] (ai fh):=⟨rfl,rfl,rfl,by decide +kernel,rfl,by decide +kernel,by decide +kernel⟩
theorem xJ:aI ["self", "move"] ["self", "move"] (ai fZ):=⟨rfl,rfl,rfl,by decide +kernel,rfl,by decide +kernel,by decide +kernel⟩
theorem yF:(("must_have" : Str) == "place_names") = false:=by decide +kernel
theorem yC:(("must_have" : Str) == "start_state") = false:=by decide +kernel
theorem yy:(("must_have" : Str) == "taken_by") = false:=by decide +kernel
theorem yl:(("must_have" : Str) == "given_by") = false:=by decide +kernel
theorem uC {f C fN fH:Addr} {fd fdN fdH:FuncData} (F:eZ K "takes" "Net.takes" fh f fd) (T:Txt K mg) (CT:iy K C) (DN:Def K mg "is_name" cb ["thing"] fN fdN) (DH:eR K C "must_have" "Net.must_have" iG ["self", "move"] fH fdH) :
  aE P w K mg base bQ 3 f fd ["self", "move"] (jW C (·.2.1)):=by
 have GH:aE P w K mg base bQ 2 fH fdH ["self", "move"] (qk C):=rJ DH.fn T CT DN
 refine F.ok xV (fun vs H Q E h=>?_) (fun cdv A outer s H vs Q E hr h=>?_)
 ·obtain ⟨p,ms,st,m,rfl,_⟩:=h
  rfl
 ·obtain ⟨p,ms,st,m,rfl,N,hm,k⟩:=h
  have hu:=gm hr
  refine ⟨_,ah (bF (eY (pv 0) CT.cl DH.mt GH hr DH.bd .nil aX (aa (pv 1) ag))) (aq (aJ (ba bu rfl T.lst dY (aa (fg hu (cM (pv 0) rfl) (pv 1) (fun _ _=>rfl)) ag)))),?_⟩
  clear hu
  dsimp only [eU,Cx.qB]
  obtain ⟨dx,aP,aS,aT,aG,kT,kG,h1,h2,h3,h4,h5,h6,h7⟩:=N.at'.ob
  refine ⟨_,rfl,p,dx,_,rfl,h1,dJ _ _ _ _ yF yC yy yl,_,rfl,p,ms,st,m,rfl,N,hm,fun H1 s1=>?_⟩
  obtain ⟨t,e,ht⟩:=(h6.same fun b xs e=>s1 _ _ e).get N.so.nd hm
  refine ⟨_,rfl,p,C,dx,_,_,rfl,s1 _ _ h1,CT.cl,CT.nT,rq _ _ _ _,_,rfl,aT,_,rfl,(by rw [← e];exact eX.k (k:=Sum.inr m.1) (s1 _ _ h4)),t,_,rfl,.inr (cV.of ht),fun q nq=>?_⟩
  exact k _ q (s1.trans (aj nq)) (s1.free nq) ae
theorem uE {f C fN fH:Addr} {fd fdN fdH:FuncData} (F:eZ K "gives" "Net.gives" fZ f fd) (T:Txt K mg) (CT:iy K C) (DN:Def K mg "is_name" cb ["thing"] fN fdN) (DH:eR K C "must_have" "Net.must_have" iG ["self", "move"] fH fdH) :
  aE P w K mg base bQ 3 f fd ["self", "move"] (jW C (·.2.2)):=by
 have GH:aE P w K mg base bQ 2 fH fdH ["self", "move"] (qk C):=rJ DH.fn T CT DN
 refine F.ok xJ (fun vs H Q E h=>?_) (fun cdv A outer s H vs Q E hr h=>?_)
 ·obtain ⟨p,ms,st,m,rfl,_⟩:=h
  rfl
 ·obtain ⟨p,ms,st,m,rfl,N,hm,k⟩:=h
  have hu:=gm hr
  refine ⟨_,ah (bF (eY (pv 0) CT.cl DH.mt GH hr DH.bd .nil aX (aa (pv 1) ag))) (aq (aJ (ba bu rfl T.lst dY (aa (fg hu (cM (pv 0) rfl) (pv 1) (fun _ _=>rfl)) ag)))),?_⟩
  clear hu
  dsimp only [eU,Cx.qB]
  obtain ⟨dx,aP,aS,aT,aG,kT,kG,h1,h2,h3,h4,h5,h6,h7⟩:=N.at'.ob
  refine ⟨_,rfl,p,dx,_,rfl,h1,dJ _ _ _ _ yF yC yy yl,_,rfl,p,ms,st,m,rfl,N,hm,fun H1 s1=>?_⟩
  obtain ⟨t,e,ht⟩:=(h7.same fun b xs e=>s1 _ _ e).get N.so.nd hm
  refine ⟨_,rfl,p,C,dx,_,_,rfl,s1 _ _ h1,CT.cl,CT.nG,yL _ _ _ _,_,rfl,aG,_,rfl,(by rw [← e];exact eX.k (k:=Sum.inr m.1) (s1 _ _ h5)),t,_,rfl,.inr (cV.of ht),fun q nq=>?_⟩
  exact k _ q (s1.trans (aj nq)) (s1.free nq) ae
end
end Uf
end
section
namespace Uf
open PySem L2 UfSrt
abbrev fj:Stmt:=top 24
abbrev dO:Stmt:=top 25
abbrev ee:Stmt:=top 26
abbrev lj:Stmt:=top 27
abbrev dW:Stmt:=top 28
abbrev gW:Stmt:=top 29
abbrev gF:Stmt:=top 30
abbrev cX:Stmt:=top 31
def bL (tk s:List Str):Bool:=tk.any fun x=>!decide (x ∈ s)
def second (tk gv s:List Str):Bool:=gv.any fun x=>decide (x ∈ s) && !decide (x ∈ tk)
def behind (tk gv s:List Str):List Str:=aQ ((s.filter fun x=>!decide (x ∈ tk)) ++ gv)
theorem o2 {xs ys:List Str} (p:xs.Perm ys) (f:Str→Bool):xs.any f = ys.any f:=by
 rw [Bool.eq_iff_iff,List.any_eq_true,List.any_eq_true]
 exact ⟨fun ⟨x,h,e⟩=>⟨x,p.mem_iff.mp h,e⟩,fun ⟨x,h,e⟩=>⟨x,p.mem_iff.mpr h,e⟩⟩
theorem r6 (tk s:List Str):bL (aQ tk) s = bL tk s:=o2 (de tk) _
theorem p3 (tk gv s:List Str):second (aQ tk) (aQ gv) s = second tk gv s:=by
 unfold second
 rw [o2 (de gv)]
 congr 1
 funext x
 rw [decide_eq_decide.mpr (cR (xs:=tk) (x:=x))]
theorem pW (tk gv s:List Str):behind (aQ tk) (aQ gv) s = behind tk gv s:=by
 unfold behind
 refine rS ?_
 have e:(s.filter fun x=>!decide (x ∈ aQ tk)) = s.filter fun x=>!decide (x ∈ tk):=by
  congr 1
  funext x
  rw [decide_eq_decide.mpr (cR (xs:=tk) (x:=x))]
 rw [e]
 exact (de gv).append_left _
theorem eK (xs:List Str):(av xs).all fF = true:=by
 unfold av
 rw [List.all_map,List.all_eq_true]
 intro x _
 rfl
theorem jd (x:Str) (xs:List Str):zt (.str x) (av xs) = decide (x ∈ xs):=by
 unfold zt av
 rw [List.any_map,Bool.eq_iff_iff,List.any_eq_true,decide_eq_true_eq]
 constructor
 ·rintro ⟨y,hy,e⟩
  have e' : rD (.str y) (.str x) = true:=e
  have:y = x:=by simpa [rD] using e'
  rw [← this]
  exact hy
 ·intro h
  exact ⟨x,h,by show rD (.str x) (.str x) = true;simp [rD]⟩
section
variable {P:Program} {w:World} {K:PySem.W.Frag} {mg:Str→Option Value} {base:Heap}
def jw (K:PySem.W.Frag) (C:Addr) (g:Mv→List Str→Bool):Sp:=fun vs H Q _=>∃ (p a:Addr) (ms:List Mv) (st s:List Str) (m:Mv),vs = [.ref p,.ref a,.str m.1]∧bR C H p ms st∧m ∈ ms∧cV K H a (av s)∧s.length≤200∧∀ H',au H H'→Q (.bl (g m s)) H'
theorem dU {K:PySem.W.Frag} {H H' : Hp} {a:Addr} {xs:List V} (e:au H H') (h:cV K H a xs):cV K H' a xs:=by
 rcases h with (h | ⟨o,h⟩) | h
 ·exact .inl (.inl (e _ _ h))
 ·exact .inl (.inr ⟨o,e _ _ h⟩)
 ·exact .inr h
theorem vw:(("takes" : Str) == "place_names") = false:=by decide +kernel
theorem wd:(("takes" : Str) == "start_state") = false:=by decide +kernel
theorem uH:(("takes" : Str) == "taken_by") = false:=by decide +kernel
theorem uN:(("takes" : Str) == "given_by") = false:=by decide +kernel
theorem yB:(("gives" : Str) == "place_names") = false:=by decide +kernel
theorem yq:(("gives" : Str) == "start_state") = false:=by decide +kernel
theorem yK:(("gives" : Str) == "taken_by") = false:=by decide +kernel
theorem ym:(("gives" : Str) == "given_by") = false:=by decide +kernel
theorem xy:aI ["net", "state", "move"] ["net", "state", "move"] (ai fj):=⟨rfl,rfl,rfl,by decide +kernel,rfl,by decide +kernel,by decide +kernel⟩
theorem uZ {f C fT:Addr} {fd fdT:FuncData} (F:eZ K "lacks_bead" "lacks_bead" fj f fd) (T:Txt K mg) (hany:mg "any" = none) (CT:iy K C) (DT:eR K C "takes" "Net.takes" fh ["self", "move"] fT fdT) (GT:aE P w K mg base bQ 3 fT fdT ["self", "move"] (jW C (·.2.1))) :
  aE P w K mg base bQ 4 f fd ["net", "state", "move"] (jw K C fun m s=>bL m.2.1 s):=by
 refine F.ok xy (fun vs H Q E h=>?_) (fun cdv A outer s H vs Q E hr h=>?_)
 ·obtain ⟨p,a,ms,st,s,m,rfl,_⟩:=h
  rfl
 ·obtain ⟨p,a,ms,st,s',m,rfl,N,hm,ha,hz,k⟩:=h
  refine ⟨_,aq (aJ (az (jX rfl) rfl hany uL (aa (cG (N:=["place", "state"]) (n:=1) (ci:=[1]) rfl (br (eY (pv 0) CT.cl DT.mt GT hr DT.bd .nil aX (aa (pv 2) ag)))
    (nj.of (so:=ai fj) (N0:=["net", "state", "move"]) ⟨rfl,by decide +kernel,by decide +kernel,by decide +kernel,rfl,rfl,by decide +kernel,by decide +kernel⟩)
    (fun z=>⟨aA (i:=0) (cJ (N:=["place", "state"]) (by decide +kernel)) rfl (Or.inl rfl),cT,d4 eC (pv 0) (pv 1) (by with_unfolding_all rfl)⟩)) ag))),?_⟩
  obtain ⟨dx,aP,aS,aT,aG,kT,kG,h1,_⟩:=N.at'.ob
  obtain ⟨_,_,_,tk4,gv4⟩:=ia (N.so.mv m hm)
  refine ⟨_,rfl,p,dx,_,rfl,h1,dJ _ _ _ _ vw wd uH uN,_,rfl,p,ms,st,m,rfl,N,hm,fun H1 q s1 nq hq=>?_⟩
  refine ⟨q,rfl,⟨_,aY.of hq⟩,fun z D hD=>bK (a:=q) (xs:=av (aQ m.2.1)) (fun i ys H2=>ys = ((aQ m.2.1).take i).map (fun x=>V.bl (!decide (x ∈ s')))∧H2 D = some (.lst ys)∧au H1 H2) ⟨rfl,ae,aj hD⟩ (fun i ys H2 _ p=>aY.of (p.2.2 _ _ hq)) ?_ ?_⟩
  ·rintro i v ys H2 hi ⟨rfl,hys,sm⟩
   obtain ⟨x,hx,rfl⟩:=cB hi
   refine ⟨_,rfl,_,rfl,a,av s',rfl,.inr (dU (s1.trans sm) ha),rfl,eK s',hys,?_,?_,ae,aH sm hD⟩
   ·rw [List.length_map,List.length_take,d8,sizeLine_eq]
    lia
   ·rw [ar hx,List.map_append,jd]
    rfl
  ·rintro ys H2 ⟨rfl,hys,sm⟩
   rw [ao,List.take_length] at hys
   refine ⟨D,(aQ m.2.1).map fun x=>!decide (x ∈ s'),rfl,aY.of (by rw [hys,List.map_map];rfl),?_⟩
   have e:bL m.2.1 s' = ((aQ m.2.1).map fun x=>!decide (x ∈ s')).any id:=by
    rw [← r6,List.any_map]
    rfl
   rw [← e]
   exact k H2 (s1.trans sm)
theorem nM:aI ["net", "state", "move", "taken"] ["net", "state", "move"] (ai dO):=⟨rfl,rfl,rfl,by decide +kernel,rfl,by decide +kernel,by decide +kernel⟩
theorem rV {f C fT fG:Addr} {fd fdT fdG:FuncData} (F:eZ K "gives_second" "gives_second" dO f fd) (T:Txt K mg) (hany:mg "any" = none) (CT:iy K C) (DT:eR K C "takes" "Net.takes" fh ["self", "move"] fT fdT) (GT:aE P w K mg base bQ 3 fT fdT ["self", "move"] (jW C (·.2.1)))
  (DG:eR K C "gives" "Net.gives" fZ ["self", "move"] fG fdG) (GG:aE P w K mg base bQ 3 fG fdG ["self", "move"] (jW C (·.2.2))) :
  aE P w K mg base bQ 4 f fd ["net", "state", "move"] (jw K C fun m s=>second m.2.1 m.2.2 s):=by
 refine F.ok nM (fun vs H Q E h=>?_) (fun cdv A outer s H vs Q E hr h=>?_)
 ·obtain ⟨p,a,ms,st,s,m,rfl,_⟩:=h
  rfl
 ·obtain ⟨p,a,ms,st,s',m,rfl,N,hm,ha,hz,k⟩:=h
  refine ⟨_,ah (aM (i:=3) nM.nd rfl (Or.inr rfl) (eY (pv 0) CT.cl DT.mt GT hr DT.bd .nil aX (aa (pv 2) ag)))
   (aq (aJ (az (jX rfl) rfl hany uL (aa (cG (N:=["place", "state", "taken"]) (n:=1) (ci:=[1,3]) rfl (br (eY (pv 0) CT.cl DG.mt GG hr DG.bd .nil aX (aa (pv 2) ag)))
    (nj.of (so:=ai dO) (N0:=["net", "state", "move", "taken"]) ⟨rfl,by decide +kernel,by decide +kernel,by decide +kernel,rfl,rfl,by decide +kernel,by decide +kernel⟩)
    (fun z=>⟨aA (i:=0) (cJ (N:=["place", "state", "taken"]) (by decide +kernel)) rfl (Or.inl rfl),cT,m7 (d4 lV (pv 0) (pv 1) (by with_unfolding_all rfl)) (mH (d4 eC (pv 0) (pv 2) (by with_unfolding_all rfl)))⟩)) ag)))),?_⟩
  obtain ⟨dx,aP,aS,aT,aG,kT,kG,h1,_⟩:=N.at'.ob
  obtain ⟨_,_,_,tk4,gv4⟩:=ia (N.so.mv m hm)
  refine ⟨_,rfl,p,dx,_,rfl,h1,dJ _ _ _ _ vw wd uH uN,_,rfl,p,ms,st,m,rfl,N,hm,fun H1 q s1 nq hq=>?_⟩
  refine ⟨_,rfl,p,dx,_,rfl,s1 _ _ h1,dJ _ _ _ _ yB yq yK ym,_,rfl,p,ms,st,m,rfl,N.same s1,hm,fun H2 q2 s2 nq2 hq2=>?_⟩
  refine ⟨q2,rfl,⟨_,aY.of hq2⟩,fun z D hD=>bK (a:=q2) (xs:=av (aQ m.2.2)) (fun i ys H3=>ys = ((aQ m.2.2).take i).map (fun x=>V.bl (decide (x ∈ s') && !decide (x ∈ aQ m.2.1)))∧H3 D = some (.lst ys)∧au H2 H3) ⟨rfl,ae,aj hD⟩ (fun i ys H3 _ p=>aY.of (p.2.2 _ _ hq2)) ?_ ?_⟩
  ·rintro i v ys H3 hi ⟨rfl,hys,sm⟩
   obtain ⟨x,hx,rfl⟩:=cB hi
   have hlen:(((aQ m.2.2).take i).map (fun x=>V.bl (decide (x ∈ s') && !decide (x ∈ aQ m.2.1)))).length < sizeLine:=by
    rw [List.length_map,List.length_take,d8,sizeLine_eq]
    lia
   refine ⟨_,rfl,_,rfl,a,av s',rfl,.inr (dU (s1.trans (s2.trans sm)) ha),rfl,eK s',_,rfl,?_⟩
   show if zt (V.str x) (av s') = true then _ else _
   rw [jd]
   cases c1:decide (x ∈ s') with
   | false =>
    refine bz ⟨hys,hlen,?_,ae,aH sm hD⟩
    rw [ar hx,List.map_append]
    simp [c1]
   | true =>
    refine bN ⟨_,rfl,_,rfl,q,av (aQ m.2.1),rfl,.inl (aY.of (sm _ _ (s2 _ _ hq))),rfl,eK _,hys,hlen,?_,ae,aH sm hD⟩
    rw [ar hx,List.map_append,jd]
    simp [c1]
  ·rintro ys H3 ⟨rfl,hys,sm⟩
   rw [ao,List.take_length] at hys
   refine ⟨D,(aQ m.2.2).map fun x=>decide (x ∈ s') && !decide (x ∈ aQ m.2.1),rfl,aY.of (by rw [hys,List.map_map];rfl),?_⟩
   have e:second m.2.1 m.2.2 s' = ((aQ m.2.2).map fun x=>decide (x ∈ s') && !decide (x ∈ aQ m.2.1)).any id:=by
    rw [← p3,List.any_map]
    rfl
   rw [← e]
   exact k H3 (s1.trans (s2.trans sm))
end
end Uf
end
section
namespace Uf
open PySem L2 UfSrt
def wj (ms:List Mv) (x:Str):List Str:=((ms.find? fun m=>decide (m.1 = x)).map (·.2.1)).getD []
def xR (ms:List Mv) (x:Str):List Str:=((ms.find? fun m=>decide (m.1 = x)).map (·.2.2)).getD []
theorem find_name:∀ {ms:List Mv} {m:Mv},(names ms).Nodup→m ∈ ms→(ms.find? fun n=>decide (n.1 = m.1)) = some m
 | [],_,_,h=>by simp at h
 | n :: ms,m,hn,h=>by
  obtain ⟨n1,n2⟩:=List.nodup_cons.mp (show (n.1 :: names ms).Nodup from hn)
  rcases List.mem_cons.mp h with rfl | h
  ·simp
  ·have ne : ¬ n.1 = m.1:=fun z=>n1 (by rw [z];exact List.mem_map.mpr ⟨m,h,rfl⟩)
   rw [List.find?_cons]
   simp only [ne,decide_false]
   exact find_name n2 h
theorem cY {ms:List Mv} {m:Mv} (hn:(names ms).Nodup) (h:m ∈ ms):wj ms m.1 = m.2.1:=by unfold wj;rw [find_name hn h];rfl
theorem eA {ms:List Mv} {m:Mv} (hn:(names ms).Nodup) (h:m ∈ ms):xR ms m.1 = m.2.2:=by unfold xR;rw [find_name hn h];rfl
def cK (ms:List Mv) (s:List Str) (x:Str):Bool:=bL (wj ms x) s
def fk (ms:List Mv) (s:List Str) (x:Str):Bool:=second (wj ms x) (xR ms x) s
def cu (ms:List Mv) (s:List Str) (x:Str):List Str:=behind (wj ms x) (xR ms x) s
def iF (ms:List Mv) (s:List Str):List Str:=((aQ (names ms)).filter fun x=>!cK ms s x).filter fun x=>!fk ms s x
def cU (ms:List Mv) (s:List Str):Option Str:=(aQ (names ms)).find? fun x=>!cK ms s x && fk ms s x
theorem cQ {ms:List Mv} {x:Str} (h:x ∈ aQ (names ms)):∃ m ∈ ms,m.1 = x:=by
 obtain ⟨m,hm,e⟩:=List.mem_map.mp (cR.mp h)
 exact ⟨m,hm,e⟩
section
variable {P:Program} {w:World} {K:PySem.W.Frag} {mg:Str→Option Value} {base:Heap}
def pd (K:PySem.W.Frag) (C:Addr):Sp:=fun vs H Q _=>∃ (p a:Addr) (ms:List Mv) (st s:List Str) (m:Mv),vs = [.ref p,.ref a,.str m.1]∧bR C H p ms st∧m ∈ ms∧cV K H a (av s)∧s.length≤50 ∧
 ∀ H' q,au H H'→H q = none→H' q = some (.tup (av (behind m.2.1 m.2.2 s)))→Q (.ref q) H'
theorem kC:aI ["net", "state", "move", "taken", "left"] ["net", "state", "move"] (ai ee):=⟨rfl,rfl,rfl,by decide +kernel,rfl,by decide +kernel,by decide +kernel⟩
theorem tH {f C fT fG:Addr} {fd fdT fdG:FuncData} (F:eZ K "state_behind" "state_behind" ee f fd) (T:Txt K mg) (CT:iy K C) (DT:eR K C "takes" "Net.takes" fh ["self", "move"] fT fdT) (GT:aE P w K mg base bQ 3 fT fdT ["self", "move"] (jW C (·.2.1)))
  (DG:eR K C "gives" "Net.gives" fZ ["self", "move"] fG fdG) (GG:aE P w K mg base bQ 3 fG fdG ["self", "move"] (jW C (·.2.2))) :
  aE P w K mg base bQ 4 f fd ["net", "state", "move"] (pd K C):=by
 refine F.ok kC (fun vs H Q E h=>?_) (fun cdv A outer s H vs Q E hr h=>?_)
 ·obtain ⟨p,a,ms,st,s,m,rfl,_⟩:=h
  rfl
 ·obtain ⟨p,a,ms,st,s',m,rfl,N,hm,ha,hz,k⟩:=h
  refine ⟨_,ah (aM (i:=3) kC.nd rfl (Or.inr rfl) (eY (pv 0) CT.cl DT.mt GT hr DT.bd .nil aX (aa (pv 2) ag)))
   (ah (jR (j:=4) (N:=["place", "taken"]) (n:=1) (ci:=[3]) rfl kC.nd rfl rfl (qJ (pv 1))
    (nj.of (so:=ai ee) (N0:=["net", "state", "move", "taken", "left"]) ⟨rfl,by decide +kernel,by decide +kernel,by decide +kernel,rfl,rfl,by decide +kernel,by decide +kernel⟩)
    (fun z=>⟨aA (i:=0) (cJ (N:=["place", "taken"]) (by decide +kernel)) rfl (Or.inl rfl),iW (bJ eC (pv 0) (pv 1) (by with_unfolding_all rfl)),pv 0⟩))
   (aq (aJ (ba bH rfl T.tup gf (aa (az dF rfl T.aQ dS (aa (aU jj (pv 4) (eY (pv 0) CT.cl DG.mt GG hr DG.bd .nil aX (aa (pv 2) ag))) ag)) ag))))),?_⟩
  obtain ⟨dx,aP,aS,aT,aG,kT,kG,h1,_⟩:=N.at'.ob
  obtain ⟨_,_,_,tk4,gv4⟩:=ia (N.so.mv m hm)
  refine ⟨_,rfl,p,dx,_,rfl,h1,dJ _ _ _ _ vw wd uH uN,_,rfl,p,ms,st,m,rfl,N,hm,fun H1 q s1 nq hq=>?_⟩
  refine ⟨_,rfl,a,rfl,⟨_,dU s1 ha⟩,fun z D hD=>nz (a:=a) (xs:=av s') (fun i ys H2=>ys = av ((s'.take i).filter fun x=>!decide (x ∈ aQ m.2.1))∧H2 D = some (.lst ys)∧au H1 H2) ⟨rfl,ae,aj hD⟩ (fun i ys H2 _ p=>dU (s1.trans p.2.2) ha) ?_ ?_⟩
  ·rintro i v ys H2 hi ⟨rfl,hys,sm⟩
   obtain ⟨x,hx,rfl⟩:=cB hi
   have hlen:(av ((s'.take i).filter fun x=>!decide (x ∈ aQ m.2.1))).length < sizeLine:=by
    rw [ao,sizeLine_eq]
    have:=List.length_filter_le (fun x=>!decide (x ∈ aQ m.2.1)) (s'.take i)
    rw [List.length_take] at this
    lia
   refine ⟨_,rfl,_,rfl,q,av (aQ m.2.1),rfl,.inl (aY.of (sm _ _ hq)),rfl,eK _,_,rfl,?_⟩
   show if (!zt (V.str x) (av (aQ m.2.1))) = true then _ else _
   rw [jd]
   cases c1:decide (x ∈ aQ m.2.1) with
   | true =>
    refine bz ⟨?_,hys,sm⟩
    rw [ar hx,List.filter_append]
    simp [c1]
   | false =>
    refine bN ⟨_,rfl,hys,hlen,?_,ae,aH sm hD⟩
    rw [ar hx,List.filter_append]
    unfold av
    simp [c1]
  ·rintro ys H2 ⟨rfl,hys,sm⟩
   rw [ao,List.take_length] at hys
   refine ⟨_,rfl,_,rfl,p,dx,_,rfl,(s1.trans sm) _ _ h1,dJ _ _ _ _ yB yq yK ym,_,rfl,p,ms,st,m,rfl,N.same (s1.trans sm),hm,fun H3 q2 s3 nq2 hq2=>?_⟩
   have lf:(s'.filter fun x=>!decide (x ∈ aQ m.2.1)).length≤50:=Nat.le_trans (List.length_filter_le _ _) hz
   have hsl:=PySem.sizeLine_eq
   refine ⟨D,q2,_,_,rfl,rfl,s3 _ _ hys,hq2,?_,fun q3 nq3=>?_⟩
   ·rw [ao,ao,d8]
    dsimp only
    lia
   have e1:av (s'.filter fun x=>!decide (x ∈ aQ m.2.1)) ++ av (aQ m.2.2) = av ((s'.filter fun x=>!decide (x ∈ aQ m.2.1)) ++ aQ m.2.2):=by unfold av;rw [List.map_append]
   rw [e1]
   refine ⟨q3,_,rfl,aY.of ae,?_,fun q4 nq4=>⟨q4,_,rfl,.inl ⟨aY.of ae,fun q5 nq5=>?_⟩⟩⟩
   ·rw [List.length_append,d8]
    lia
   have s5:=(aj (o:=.lst (av ((s'.filter fun x=>!decide (x ∈ aQ m.2.1)) ++ aQ m.2.2))) nq3).trans (aj (o:=.lst (av (aQ ((s'.filter fun x=>!decide (x ∈ aQ m.2.1)) ++ aQ m.2.2)))) nq4)
   have sA:au H H3:=s1.trans (sm.trans s3)
   refine k _ q5 ((sA.trans s5).trans (aj nq5)) ((sA.trans s5).free nq5) ?_
   rw [ae,← pW]
   rfl
def yt (K:PySem.W.Frag) (C:Addr):Sp:=fun vs H Q _=>∃ (p a:Addr) (ms:List Mv) (st s:List Str),vs = [.ref p,.ref a]∧bR C H p ms st∧cV K H a (av s)∧s.length≤50 ∧
 ∀ H' q,au H H'→H q = none→H' q = some (.lst (av (iF ms s)))→Q (.ref q) H'
theorem yG:aI ["net", "state", "supplied"] ["net", "state"] (ai lj):=⟨rfl,rfl,rfl,by decide +kernel,rfl,by decide +kernel,by decide +kernel⟩
theorem yk:(("moves" : Str) == "place_names") = false:=by decide +kernel
theorem yO:(("moves" : Str) == "start_state") = false:=by decide +kernel
theorem yR:(("moves" : Str) == "taken_by") = false:=by decide +kernel
theorem yH:(("moves" : Str) == "given_by") = false:=by decide +kernel
theorem zi {f C fM fL fS:Addr} {fd fdM fdL fdS:FuncData} (F:eZ K "may" "may" lj f fd) (CT:iy K C) (DM:eR K C "moves" "Net.moves" iR ["self"] fM fdM) (GM:aE P w K mg base bQ 1 fM fdM ["self"] (qf C))
  (DL:Def K mg "lacks_bead" fj ["net", "state", "move"] fL fdL) (GL:aE P w K mg base bQ 4 fL fdL ["net", "state", "move"] (jw K C fun m s=>bL m.2.1 s))
  (DS:Def K mg "gives_second" dO ["net", "state", "move"] fS fdS) (GS:aE P w K mg base bQ 4 fS fdS ["net", "state", "move"] (jw K C fun m s=>second m.2.1 m.2.2 s)) :
  aE P w K mg base bQ 5 f fd ["net", "state"] (yt K C):=by
 refine F.ok yG (fun vs H Q E h=>?_) (fun cdv A outer s H vs Q E hr h=>?_)
 ·obtain ⟨p,a,ms,st,s,rfl,_⟩:=h
  rfl
 ·obtain ⟨p,a,ms,st,s',rfl,N,ha,hz,k⟩:=h
  refine ⟨_,ah (jR (j:=2) (N:=["move", "net", "state"]) (n:=1) (ci:=[0,1]) rfl yG.nd rfl rfl (br (fu (pv 0) CT.cl DM.mt GM (hr.mono (by decide)) DM.bd .nil aX))
    (nj.of (so:=ai lj) (N0:=["net", "state", "supplied"]) ⟨rfl,by decide +kernel,by decide +kernel,by decide +kernel,rfl,rfl,by decide +kernel,by decide +kernel⟩)
    (fun z=>⟨aA (i:=0) (cJ (N:=["move", "net", "state"]) (by decide +kernel)) rfl (Or.inl rfl),iW (cN (bY (aK GL hr rfl DL.mg DL.fn.kp DL.bd .nil aX (aa (pv 1) (aa (pv 2) (aa (pv 0) ag)))))),pv 0⟩))
   (aq (aJ (cG (N:=["move", "net", "state"]) (n:=1) (ci:=[0,1]) rfl (br (pv 2))
    (nj.of (so:=ai lj) (N0:=["net", "state", "supplied"]) ⟨rfl,by decide +kernel,by decide +kernel,by decide +kernel,rfl,rfl,by decide +kernel,by decide +kernel⟩)
    (fun z=>⟨aA (i:=0) (cJ (N:=["move", "net", "state"]) (by decide +kernel)) rfl (Or.inl rfl),iW (cN (bY (aK GS hr rfl DS.mg DS.fn.kp DS.bd .nil aX (aa (pv 1) (aa (pv 2) (aa (pv 0) ag)))))),pv 0⟩)))),?_⟩
  obtain ⟨dx,aP,aS,aT,aG,kT,kG,h1,_⟩:=N.at'.ob
  have l12:(names ms).length≤12:=by unfold names;rw [List.length_map];exact N.so.ml
  have hsl:=PySem.sizeLine_eq
  refine ⟨_,rfl,p,dx,_,rfl,h1,dJ _ _ _ _ yk yO yR yH,p,ms,st,rfl,N,fun H1 q s1 nq hq=>?_⟩
  refine ⟨q,rfl,⟨_,aY.of hq⟩,fun z D hD=>bK (a:=q) (xs:=av (aQ (names ms))) (fun i ys H2=>ys = av (((aQ (names ms)).take i).filter fun x=>!cK ms s' x)∧H2 D = some (.lst ys)∧au H1 H2) ⟨rfl,ae,aj hD⟩ (fun i ys H2 _ p=>aY.of (p.2.2 _ _ hq)) ?_ ?_⟩
  ·rintro i v ys H2 hi ⟨rfl,hys,sm⟩
   obtain ⟨x,hx,rfl⟩:=cB hi
   obtain ⟨m,hm,rfl⟩:=cQ (List.mem_of_getElem? hx)
   have hlen:(av (((aQ (names ms)).take i).filter fun x=>!cK ms s' x)).length < sizeLine:=by
    rw [ao,hsl]
    have:=List.length_filter_le (fun x=>!cK ms s' x) ((aQ (names ms)).take i)
    rw [List.length_take,d8] at this
    lia
   refine ⟨_,rfl,_,rfl,_,rfl,p,a,ms,st,s',m,rfl,N.same (s1.trans sm),hm,dU (s1.trans sm) ha,by lia,fun H3 s3=>⟨_,rfl,?_⟩⟩
   have el:bL m.2.1 s' = cK ms s' m.1:=by unfold cK;rw [cY N.so.nd hm]
   show if (!bL m.2.1 s') = true then _ else _
   rw [el]
   cases c1:cK ms s' m.1 with
   | true =>
    refine bz ⟨?_,s3 _ _ hys,sm.trans s3⟩
    rw [ar hx,List.filter_append]
    simp [c1]
   | false =>
    refine bN ⟨_,rfl,s3 _ _ hys,hlen,?_,ae,aH (sm.trans s3) hD⟩
    rw [ar hx,List.filter_append]
    unfold av
    simp [c1]
  ·rintro ys H2 ⟨rfl,hys,sm⟩
   rw [ao,List.take_length] at hys
   generalize hL:(aQ (names ms)).filter (fun x=>!cK ms s' x) = L at hys
   have LL:L.length≤12:=by
    rw [← hL]
    have:=List.length_filter_le (fun x=>!cK ms s' x) (aQ (names ms))
    rw [d8] at this
    lia
   have Lm:∀ x ∈ L,∃ m ∈ ms,m.1 = x:=fun x hx=>by
    rw [← hL] at hx
    exact cQ (List.mem_filter.mp hx).1
   have sA:au H H2:=s1.trans sm
   refine ⟨_,rfl,D,rfl,⟨_,aY.of hys⟩,fun z D2 hD2=>bK (a:=D) (xs:=av L) (fun i ys H3=>ys = av ((L.take i).filter fun x=>!fk ms s' x)∧H3 D2 = some (.lst ys)∧au H2 H3) ⟨rfl,ae,aj hD2⟩ (fun i ys H3 _ p=>aY.of (p.2.2 _ _ hys)) ?_ ?_⟩
   ·rintro i v ys H3 hi ⟨rfl,hys3,sm3⟩
    obtain ⟨x,hx,rfl⟩:=cB hi
    obtain ⟨m,hm,rfl⟩:=Lm x (List.mem_of_getElem? hx)
    have hlen:(av ((L.take i).filter fun x=>!fk ms s' x)).length < sizeLine:=by
     rw [ao,hsl]
     have:=List.length_filter_le (fun x=>!fk ms s' x) (L.take i)
     rw [List.length_take] at this
     lia
    refine ⟨_,rfl,_,rfl,_,rfl,p,a,ms,st,s',m,rfl,N.same (sA.trans sm3),hm,dU (sA.trans sm3) ha,by lia,fun H4 s4=>⟨_,rfl,?_⟩⟩
    have el:second m.2.1 m.2.2 s' = fk ms s' m.1:=by unfold fk;rw [cY N.so.nd hm,eA N.so.nd hm]
    show if (!second m.2.1 m.2.2 s') = true then _ else _
    rw [el]
    cases c1:fk ms s' m.1 with
    | true =>
     refine bz ⟨?_,s4 _ _ hys3,sm3.trans s4⟩
     rw [ar hx,List.filter_append]
     simp [c1]
    | false =>
     refine bN ⟨_,rfl,s4 _ _ hys3,hlen,?_,ae,aH (sm3.trans s4) hD2⟩
     rw [ar hx,List.filter_append]
     unfold av
     simp [c1]
   ·rintro ys H3 ⟨rfl,hys3,sm3⟩
    rw [ao,List.take_length] at hys3
    refine k H3 D2 (sA.trans sm3) (sA.free hD2) ?_
    rw [hys3,← hL]
    rfl
end
end Uf
end
section
namespace UfBfs
variable {σ μ:Type} [DecidableEq σ]
structure G (σ μ:Type) where
 may:σ→List μ
 nxt:σ→μ→σ
 bad:σ→Option μ
inductive ck (g:G σ μ) (s:σ):List μ→σ→Prop where
 | nil:ck g s [] s
 | snoc {r:List μ} {t:σ} {m:μ} : ck g s r t→m ∈ g.may t→ck g s (r ++ [m]) (g.nxt t m)
def At (g:G σ μ) (s:σ) (k:Nat) (t:σ):Prop:=∃ r,r.length = k∧ck g s r t
theorem At.zero (g:G σ μ) (s:σ):At g s 0 s:=⟨[],rfl,.nil⟩
theorem At.succ {g:G σ μ} {s t:σ} {k:Nat} {m:μ} (h:At g s k t) (hm:m ∈ g.may t):At g s (k + 1) (g.nxt t m):=by
 obtain ⟨r,hl,hr⟩:=h
 exact ⟨r ++ [m],by simp [hl],.snoc hr hm⟩
theorem At.inv {g:G σ μ} {s t:σ} {k:Nat} (h:At g s (k + 1) t):∃ u m,At g s k u∧m ∈ g.may u∧t = g.nxt u m:=by
 obtain ⟨r,hl,hr⟩:=h
 cases hr with
 | nil=>simp at hl
 | snoc hr hm=>exact ⟨_,_,⟨_,by simpa using hl,hr⟩,hm,rfl⟩
theorem At.rO {g:G σ μ} {s t:σ} (h:At g s 0 t):t = s:=by
 obtain ⟨r,hl,hr⟩:=h
 cases hr with
 | nil=>rfl
 | snoc hr hm=>simp at hl
def Told (g:G σ μ) (s:σ):Option (List μ)→Prop
 | none=>∀ k t,At g s k t→g.bad t = none
 | some row=>∃ r t m,row = r ++ [m]∧ck g s r t∧g.bad t = some m∧∀ k u,At g s k u→g.bad u≠none→r.length≤k
abbrev bO (σ μ:Type):=List (σ × Option (σ × μ))
def look (w:bO σ μ) (t:σ):Option (Option (σ × μ)):=(w.find? fun p=>decide (p.1 = t)).map (·.2)
theorem lF {w:bO σ μ} {t:σ} : look w t = none ↔ t ∉ w.map (·.1):=by
 unfold look
 rw [Option.map_eq_none_iff,List.find?_eq_none]
 constructor
 ·intro h hm
  obtain ⟨p,hp,e⟩:=List.mem_map.mp hm
  exact absurd (decide_eq_true e) (by simpa using h p hp)
 ·intro h p hp
  simp only [decide_eq_true_eq]
  intro e
  exact h (List.mem_map.mpr ⟨p,hp,e⟩)
theorem gO {w v:bO σ μ} {t:σ} : look (w ++ v) t = (look w t).or (look v t):=by
 unfold look
 rw [List.find?_append]
 cases List.find? (fun p=>decide (p.1 = t)) w <;> simp
theorem dN {w:bO σ μ} {t u:σ} {x:Option (σ × μ)} {y:Option (σ × μ)} (h:look w t = some y):look (w ++ [(u,x)]) t = some y:=by
 rw [gO,h];rfl
theorem iq {w:bO σ μ} {u:σ} {x:Option (σ × μ)} (h:look w u = none):look (w ++ [(u,x)]) u = some x:=by
 rw [gO,h]
 simp [look]
def gM (g:G σ μ) (t:σ) (acc:bO σ μ × List σ) (m:μ):bO σ μ × List σ :=
 if (look acc.1 (g.nxt t m)).isSome then acc else (acc.1 ++ [(g.nxt t m,some (t,m))],acc.2 ++ [g.nxt t m])
def tryAll (g:G σ μ) (acc:bO σ μ × List σ) (t:σ):bO σ μ × List σ:=(g.may t).foldl (gM g t) acc
def d3 (g:G σ μ) (ts:List σ) (w:bO σ μ):bO σ μ × List σ:=ts.foldl (tryAll g) (w,[])
def pairs (g:G σ μ) (ts:List σ):List (σ × μ):=ts.flatMap fun t=>(g.may t).map fun m=>(t,m)
theorem n5 (g:G σ μ):∀ (ts:List σ) (acc:bO σ μ × List σ),ts.foldl (tryAll g) acc = (pairs g ts).foldl (fun a p=>gM g p.1 a p.2) acc
 | [],acc=>rfl
 | t :: ts,acc=>by
  rw [List.foldl_cons,n5 g ts]
  unfold pairs
  rw [List.flatMap_cons,List.foldl_append,List.foldl_map]
  rfl
theorem jk {g:G σ μ} {ts:List σ} {p:σ × μ} : p ∈ pairs g ts ↔ p.1 ∈ ts∧p.2 ∈ g.may p.1:=by
 unfold pairs
 rw [List.mem_flatMap]
 constructor
 ·rintro ⟨t,ht,hm⟩
  obtain ⟨m,hm',rfl⟩:=List.mem_map.mp hm
  exact ⟨ht,hm'⟩
 ·rintro ⟨h1,h2⟩
  exact ⟨p.1,h1,List.mem_map.mpr ⟨p.2,h2,rfl⟩⟩
structure CD (g:G σ μ) (w0:bO σ μ) (done:List (σ × μ)) (w:bO σ μ) (r:List σ):Prop where
 old:∀ t x,look w0 t = some x→look w t = some x
 new:∀ t ∈ r,look w0 t = none∧∃ p ∈ done,t = g.nxt p.1 p.2∧look w t = some (some p)
 only:∀ t x,look w t = some x→look w0 t = some x∨t ∈ r
 full:∀ p ∈ done,∃ x,look w (g.nxt p.1 p.2) = some x
 keys:w.map (·.1) = w0.map (·.1) ++ r
 nd:(w0.map (·.1)).Nodup→(w.map (·.1)).Nodup
theorem ky (g:G σ μ) (w0:bO σ μ):∀ (ps done:List (σ × μ)) (w:bO σ μ) (r:List σ),CD g w0 done w r →
  CD g w0 (done ++ ps) (ps.foldl (fun a p=>gM g p.1 a p.2) (w,r)).1 (ps.foldl (fun a p=>gM g p.1 a p.2) (w,r)).2
 | [],done,w,r,h=>by simpa using h
 | p :: ps,done,w,r,h=>by
  rw [List.foldl_cons]
  have e:done ++ p :: ps = (done ++ [p]) ++ ps:=by simp
  rw [e]
  cases hl:look w (g.nxt p.1 p.2) with
  | some x =>
   have e1:gM g p.1 (w,r) p.2 = (w,r):=by unfold gM;rw [if_pos (by rw [hl];rfl)]
   rw [e1]
   refine ky g w0 ps (done ++ [p]) w r ⟨h.old,fun t ht=>?_,h.only,fun q hq=>?_,h.keys,h.nd⟩
   ·obtain ⟨h1,q,hq,h2,h3⟩:=h.new t ht
    exact ⟨h1,q,List.mem_append_left _ hq,h2,h3⟩
   ·rcases List.mem_append.mp hq with hq | hq
    ·exact h.full q hq
    ·have:q = p:=by simpa using hq
     subst this
     exact ⟨x,hl⟩
  | none =>
   have e1:gM g p.1 (w,r) p.2 = (w ++ [(g.nxt p.1 p.2,some p)],r ++ [g.nxt p.1 p.2]):=by
    unfold gM
    rw [if_neg (by rw [hl];simp)]
   rw [e1]
   have hw0:look w0 (g.nxt p.1 p.2) = none:=by
    cases q:look w0 (g.nxt p.1 p.2) with
    | none=>rfl
    | some x=>rw [h.old _ _ q] at hl;cases hl
   refine ky g w0 ps (done ++ [p]) _ _ ⟨fun t x q=>dN (h.old t x q),fun t ht=>?_,fun t x q=>?_,fun q hq=>?_,?_,fun hn=>?_⟩
   ·rcases List.mem_append.mp ht with ht | ht
    ·obtain ⟨h1,q,hq,h2,h3⟩:=h.new t ht
     exact ⟨h1,q,List.mem_append_left _ hq,h2,dN h3⟩
    ·have:t = g.nxt p.1 p.2:=by simpa using ht
     subst this
     exact ⟨hw0,p,by simp,rfl,iq hl⟩
   ·cases q0:look w t with
    | some y =>
     rw [dN q0] at q
     have e2:y = x:=Option.some.inj q
     subst e2
     rcases h.only t y q0 with z | z
     ·exact .inl z
     ·exact .inr (List.mem_append_left _ z)
    | none =>
     rw [gO,q0] at q
     by_cases ht:g.nxt p.1 p.2 = t
     ·exact .inr (by simp [ht])
     ·simp [look,ht] at q
   ·rcases List.mem_append.mp hq with hq | hq
    ·obtain ⟨x,hx⟩:=h.full q hq
     exact ⟨x,dN hx⟩
    ·have:q = p:=by simpa using hq
     subst this
     exact ⟨_,iq hl⟩
   ·rw [List.map_append,h.keys]
    simp
   ·rw [List.map_append]
    have hk:=lF.mp hl
    refine List.nodup_append.mpr ⟨h.nd hn,by simp,fun a ha b hb=>?_⟩
    have:b = g.nxt p.1 p.2:=by simpa using hb
    subst this
    rintro rfl
    exact hk ha
theorem lP (g:G σ μ) (ts:List σ) (w:bO σ μ):CD g w (pairs g ts) (d3 g ts w).1 (d3 g ts w).2:=by
 have h:=ky g w (pairs g ts) [] w [] ⟨fun _ _ q=>q,fun t ht=>by simp at ht,fun _ _ q=>.inl q,fun p hp=>by simp at hp,by simp,id⟩
 unfold d3
 rw [n5]
 simpa using h
def d9 (g:G σ μ) (s:σ) (k:Nat) (t:σ):Prop:=At g s k t∧∀ j,At g s j t→k≤j
theorem d9.uniq {g:G σ μ} {s t:σ} {k j:Nat} (h:d9 g s k t) (h' : d9 g s j t):k = j:=Nat.le_antisymm (h.2 j h'.1) (h'.2 k h.1)
theorem At.dist {g:G σ μ} {s t:σ} : ∀ {k:Nat},At g s k t→∃ j,j≤k∧d9 g s j t:=by
 intro k
 induction k using Nat.strongRecOn with
 | ind k ih =>
  intro h
  by_cases hm:∀ j,At g s j t→k≤j
  ·exact ⟨k,Nat.le_refl _,h,hm⟩
  ·have ⟨j,hj⟩:=Classical.not_forall.mp hm
   have ⟨hj1,hj2⟩:=Classical.not_imp.mp hj
   obtain ⟨i,hi,hd⟩:=ih j (by lia) hj1
   exact ⟨i,by lia,hd⟩
theorem d9.pred {g:G σ μ} {s t:σ} {k:Nat} (h:d9 g s (k + 1) t):∃ u m,d9 g s k u∧m ∈ g.may u∧t = g.nxt u m:=by
 obtain ⟨u,m,hu,hm,e⟩:=h.1.inv
 refine ⟨u,m,⟨hu,fun j hj=>?_⟩,hm,e⟩
 have:=h.2 (j + 1) (by rw [e];exact hj.succ hm)
 lia
structure Good (g:G σ μ) (s:σ) (L:Nat) (w:bO σ μ) (ts:List σ):Prop where
 root:look w s = some none
 way:∀ t x,look w t = some x→∃ k,k≤L∧d9 g s k t∧(match x with | none=>t = s | some (u,m)=>∃ j,k = j + 1∧d9 g s j u∧m ∈ g.may u∧t = g.nxt u m)
 all:∀ k t,k≤L→d9 g s k t→∃ x,look w t = some x
 ts:∀ t,t ∈ ts ↔ d9 g s L t
 fine:∀ k t,k < L→d9 g s k t→g.bad t = none
theorem Good.start (g:G σ μ) (s:σ):Good g s 0 [(s,none)] [s]:=by
 have d0:d9 g s 0 s:=⟨At.zero g s,fun _ _=>Nat.zero_le _⟩
 refine ⟨by simp [look],fun t x h=>?_,fun k t hk h=>?_,fun t=>?_,fun k t hk=>absurd hk (Nat.not_lt_zero _)⟩
 ·by_cases ht:s = t
  ·subst ht
   have:x = none:=by simpa [look] using h.symm
   subst this
   exact ⟨0,Nat.le_refl _,d0,rfl⟩
  ·simp [look,ht] at h
 ·have:k = 0:=by lia
  subst this
  have:=h.1.rO
  subst this
  exact ⟨none,by simp [look]⟩
 ·constructor
  ·intro h
   have:t = s:=by simpa using h
   subst this
   exact d0
  ·intro h
   have:=h.1.rO
   simp [this]
theorem Good.next {g:G σ μ} {s:σ} {L:Nat} {w:bO σ μ} {ts:List σ} (h:Good g s L w ts) (hb:∀ t ∈ ts,g.bad t = none):Good g s (L + 1) (d3 g ts w).1 (d3 g ts w).2:=by
 have lv:=lP g ts w
 have hnew:∀ t ∈ (d3 g ts w).2,d9 g s (L + 1) t∧∃ p:σ × μ,d9 g s L p.1∧p.2 ∈ g.may p.1∧t = g.nxt p.1 p.2∧look (d3 g ts w).1 t = some (some p):=fun t ht=>by
  obtain ⟨h0,p,hp,e,hl⟩:=lv.new t ht
  obtain ⟨p1,p2⟩:=jk.mp hp
  have dp:=(h.ts p.1).mp p1
  have at1:At g s (L + 1) t:=by rw [e];exact dp.1.succ p2
  refine ⟨⟨at1,fun j hj=>?_⟩,p,dp,p2,e,hl⟩
  obtain ⟨i,hi,di⟩:=hj.dist
  by_cases hiL:i≤L
  ·obtain ⟨x,hx⟩:=h.all i t hiL di
   rw [h0] at hx
   cases hx
  ·lia
 refine ⟨lv.old _ _ h.root,fun t x hx=>?_,fun k t hk hd=>?_,fun t=>⟨fun ht=>(hnew t ht).1,fun hd=>?_⟩,fun k t hk hd=>?_⟩
 ·rcases lv.only t x hx with q | q
  ·obtain ⟨k,hk,hd,hx⟩:=h.way t x q
   exact ⟨k,by lia,hd,hx⟩
  ·obtain ⟨hd,p,dp,pm,e,hl⟩:=hnew t q
   rw [hl] at hx
   cases hx
   exact ⟨L + 1,Nat.le_refl _,hd,L,rfl,dp,pm,e⟩
 ·by_cases hkL:k≤L
  ·obtain ⟨x,hx⟩:=h.all k t hkL hd
   exact ⟨x,lv.old _ _ hx⟩
  ·have:k = L + 1:=by lia
   subst this
   obtain ⟨u,m,du,hm,e⟩:=hd.pred
   rw [e]
   exact lv.full (u,m) (jk.mpr ⟨(h.ts u).mpr du,hm⟩)
 ·obtain ⟨u,m,du,hm,e⟩:=hd.pred
  obtain ⟨x,hx⟩:=lv.full (u,m) (jk.mpr ⟨(h.ts u).mpr du,hm⟩)
  rw [← e] at hx
  rcases lv.only t x hx with q | q
  ·obtain ⟨k,hk,hd',_⟩:=h.way t x q
   have:=hd.uniq hd'
   lia
  ·exact q
 ·by_cases hkL:k < L
  ·exact h.fine k t hkL hd
  ·have:k = L:=by lia
   subst this
   exact hb t ((h.ts t).mpr hd)
theorem Good.none {g:G σ μ} {s:σ} {L:Nat} {w:bO σ μ} (h:Good g s L w []):Told g s (none:Option (List μ)):=by
 have far:∀ d k t,k = L + d→¬ d9 g s k t:=by
  intro d
  induction d with
  | zero =>
   rintro k t rfl hd
   have:=(h.ts t).mpr hd
   simp at this
  | succ d ih =>
   rintro k t rfl hd
   obtain ⟨u,_,du,_⟩:=d9.pred (k:=L + d) hd
   exact ih _ u rfl du
 intro k t hk
 obtain ⟨j,_,dj⟩:=hk.dist
 by_cases hj:j < L
 ·exact h.fine j t hj dj
 ·exact absurd dj (far (j - L) j t (by lia))
def ff (w:bO σ μ):Nat→σ→List μ
 | 0,_=>[]
 | n + 1,t=>match look w t with
  | some (some (u,m))=>ff w n u ++ [m]
  | _=>[]
theorem Good.row {g:G σ μ} {s:σ} {L:Nat} {w:bO σ μ} {ts:List σ} (h:Good g s L w ts):∀ (k:Nat) (t:σ),k≤L→d9 g s k t→ck g s (ff w k t) t∧(ff w k t).length = k
 | 0,t,_,hd=>by
  have:=hd.1.rO
  subst this
  exact ⟨.nil,rfl⟩
 | k + 1,t,hk,hd=>by
  obtain ⟨x,hx⟩:=h.all (k + 1) t hk hd
  obtain ⟨j,hj,hd',hm⟩:=h.way t x hx
  have e:j = k + 1:=hd'.uniq hd
  subst e
  cases x with
  | none =>
   have:t = s:=hm
   subst this
   have:=hd.2 0 (At.zero g t)
   lia
  | some um =>
   obtain ⟨u,m⟩:=um
   obtain ⟨i,ei,du,hmay,et⟩:=hm
   have:i = k:=by lia
   subst this
   obtain ⟨q1,q2⟩:=Good.row h i u (by lia) du
   unfold ff
   rw [hx]
   dsimp only
   refine ⟨?_,by simp [q2]⟩
   rw [et]
   exact .snoc q1 hmay
theorem Good.some {g:G σ μ} {s t:σ} {L:Nat} {w:bO σ μ} {ts:List σ} {m:μ} (h:Good g s L w ts) (ht:t ∈ ts) (hb:g.bad t = some m):Told g s (some (ff w L t ++ [m])):=by
 have hd:=(h.ts t).mp ht
 obtain ⟨q1,q2⟩:=h.row L t (Nat.le_refl _) hd
 refine ⟨_,t,m,rfl,q1,hb,fun k u hk hu=>?_⟩
 rw [q2]
 obtain ⟨j,hj,dj⟩:=hk.dist
 by_cases hjL:j < L
 ·exact absurd (h.fine j u hjL dj) hu
 ·lia
end UfBfs
end
section
namespace UfBfs
variable {σ μ:Type} [DecidableEq σ]
structure QI (g:G σ μ) (s:σ) (k:Nat) (ws:List (σ × Nat)):Prop where
 nd:(ws.map (·.1)).Nodup
 dist:∀ p ∈ ws,d9 g s p.2 p.1
 mono:ws.Pairwise fun p q=>p.2≤q.2
 head:ws[0]? = some (s,0)
 closed:∀ p ∈ ws.take k,∀ m ∈ g.may p.1,g.nxt p.1 m ∈ ws.map (·.1)
 fine:∀ p ∈ ws.take k,g.bad p.1 = none
 near:∀ q,ws[k]? = some q→∀ p ∈ ws,p.2≤q.2 + 1
theorem QI.start (g:G σ μ) (s:σ):QI g s 0 [(s,0)]:=by
 refine ⟨by simp,fun p hp=>?_,by simp,rfl,fun p hp=>by simp at hp,fun p hp=>by simp at hp,fun q hq p hp=>?_⟩
 ·have:p = (s,0):=by simpa using hp
  subst this
  exact ⟨At.zero g s,fun _ _=>Nat.zero_le _⟩
 ·have:p = (s,0):=by simpa using hp
  subst this
  exact Nat.zero_le _
theorem QI.qx {g:G σ μ} {s:σ} {k:Nat} {ws:List (σ × Nat)} {q:σ × Nat} (h:QI g s k ws) (hq:ws[k]? = some q):∀ (i:Nat) (u:σ),d9 g s i u→i < q.2→(u,i) ∈ ws.take k
 | 0,u,hd,hi=>by
  have:=hd.1.rO
  subst this
  have hk:0 < k:=by
   cases k with
   | zero =>
    rw [h.head] at hq
    cases hq
    exact absurd hi (Nat.lt_irrefl _)
   | succ k=>lia
  have:(ws.take k)[0]? = some (u,0):=by rw [List.getElem?_take_of_lt hk];exact h.head
  exact List.mem_of_getElem? this
 | i + 1,u,hd,hi=>by
  obtain ⟨v,m,dv,hm,e⟩:=hd.pred
  have hv:=QI.qx h hq i v dv (by lia)
  have hu:=h.closed _ hv m hm
  rw [← e] at hu
  obtain ⟨p,hp,e2⟩:=List.mem_map.mp hu
  obtain ⟨u',d⟩:=p
  have e2:u' = u:=e2
  subst e2
  have ed:d = i + 1:=(h.dist _ hp).uniq hd
  subst ed
  obtain ⟨j,hj⟩:=List.mem_iff_getElem?.mp hp
  have hjk:j < k:=by
   by_cases hjk:j < k
   ·exact hjk
   ·exfalso
    by_cases hjk2:j = k
    ·subst hjk2
     rw [hq] at hj
     cases hj
     exact absurd hi (Nat.lt_irrefl _)
    ·obtain ⟨hk',ek⟩:=List.getElem?_eq_some_iff.mp hq
     obtain ⟨hj',ej⟩:=List.getElem?_eq_some_iff.mp hj
     have:=List.pairwise_iff_getElem.mp h.mono k j hk' hj' (by lia)
     rw [ek,ej] at this
     have this:q.2≤i + 1:=this
     lia
  have:(ws.take k)[j]? = some (u',i + 1):=by rw [List.getElem?_take_of_lt hjk];exact hj
  exact List.mem_of_getElem? this
def addQ (g:G σ μ) (t:σ) (d:Nat) (ws:List (σ × Nat)) (m:μ):List (σ × Nat):=if g.nxt t m ∈ ws.map (·.1) then ws else ws ++ [(g.nxt t m,d + 1)]
theorem rP {g:G σ μ} {t:σ} {d:Nat} {ws:List (σ × Nat)} {m:μ} {k:Nat} (h:k≤ws.length):(addQ g t d ws m).take k = ws.take k:=by
 unfold addQ
 split
 ·rfl
 ·rw [List.take_append_of_le_length h]
theorem QI.add {g:G σ μ} {s t:σ} {k d:Nat} {ws:List (σ × Nat)} {m:μ} (h:QI g s k ws) (hq:ws[k]? = some (t,d)) (hm:m ∈ g.may t):QI g s k (addQ g t d ws m):=by
 have hk:k < ws.length:=(List.getElem?_eq_some_iff.mp hq).1
 by_cases hin:g.nxt t m ∈ ws.map (·.1)
 ·have e:addQ g t d ws m = ws:=by unfold addQ;rw [if_pos hin]
  rw [e];exact h
 ·have e:addQ g t d ws m = ws ++ [(g.nxt t m,d + 1)]:=by unfold addQ;rw [if_neg hin]
  have hmem:(t,d) ∈ ws:=List.mem_of_getElem? hq
  have at1:At g s (d + 1) (g.nxt t m):=(h.dist _ hmem).1.succ hm
  have dn:d9 g s (d + 1) (g.nxt t m):=by
   refine ⟨at1,fun j hj=>?_⟩
   obtain ⟨i,hi,di⟩:=hj.dist
   by_cases hid:i≤d
   ·exfalso
    cases i with
    | zero =>
     have:=di.1.rO
     rw [this] at hin
     exact hin (List.mem_map.mpr ⟨(s,0),List.mem_of_getElem? h.head,rfl⟩)
    | succ i =>
     obtain ⟨v,m',dv,hm',ev⟩:=di.pred
     have hv:=h.qx hq i v dv (by show i < d;lia)
     have:=h.closed _ hv m' hm'
     rw [← ev] at this
     exact hin this
   ·lia
  have tk:=rP (g:=g) (t:=t) (d:=d) (m:=m) (Nat.le_of_lt hk)
  rw [e] at tk
  rw [e]
  refine ⟨?_,fun p hp=>?_,?_,?_,fun p hp m' hm'=>?_,fun p hp=>?_,fun q hq' p hp=>?_⟩
  ·rw [List.map_append]
   refine List.nodup_append.mpr ⟨h.nd,by simp,fun a ha b hb=>?_⟩
   have:b = g.nxt t m:=by simpa using hb
   subst this
   rintro rfl
   exact hin ha
  ·rcases List.mem_append.mp hp with hp | hp
   ·exact h.dist p hp
   ·have:p = (g.nxt t m,d + 1):=by simpa using hp
    subst this
    exact dn
  ·refine List.pairwise_append.mpr ⟨h.mono,by simp,fun a ha b hb=>?_⟩
   have:b = (g.nxt t m,d + 1):=by simpa using hb
   subst this
   exact h.near _ hq a ha
  ·rw [List.getElem?_append_left (by lia)];exact h.head
  ·rw [tk] at hp
   rw [List.map_append]
   exact List.mem_append_left _ (h.closed p hp m' hm')
  ·rw [tk] at hp
   exact h.fine p hp
  ·rw [List.getElem?_append_left hk,hq] at hq'
   cases hq'
   rcases List.mem_append.mp hp with hp | hp
   ·exact h.near _ hq p hp
   ·have:p = (g.nxt t m,d + 1):=by simpa using hp
    subst this
    exact Nat.le_refl _
theorem QI.step {g:G σ μ} {s t:σ} {k d:Nat} {ws:List (σ × Nat)} (h:QI g s k ws) (hq:ws[k]? = some (t,d)) (hb:g.bad t = none) (hc:∀ m ∈ g.may t,g.nxt t m ∈ ws.map (·.1)):QI g s (k + 1) ws:=by
 have hk:k < ws.length:=(List.getElem?_eq_some_iff.mp hq).1
 have tk:ws.take (k + 1) = ws.take k ++ [(t,d)]:=by rw [List.take_add_one,hq];rfl
 refine ⟨h.nd,h.dist,h.mono,h.head,fun p hp=>?_,fun p hp=>?_,fun q hq' p hp=>?_⟩
 ·rw [tk] at hp
  rcases List.mem_append.mp hp with hp | hp
  ·exact h.closed p hp
  ·have:p = (t,d):=by simpa using hp
   subst this
   exact hc
 ·rw [tk] at hp
  rcases List.mem_append.mp hp with hp | hp
  ·exact h.fine p hp
  ·have:p = (t,d):=by simpa using hp
   subst this
   exact hb
 ·have h1:=h.near _ hq p hp
  obtain ⟨hk1,e1⟩:=List.getElem?_eq_some_iff.mp hq
  obtain ⟨hk2,e2⟩:=List.getElem?_eq_some_iff.mp hq'
  have:=List.pairwise_iff_getElem.mp h.mono k (k + 1) hk1 hk2 (by lia)
  rw [e1,e2] at this
  have this:d≤q.2:=this
  have h1:p.2≤d + 1:=h1
  lia
theorem QI.done {g:G σ μ} {s:σ} {ws:List (σ × Nat)} (h:QI g s ws.length ws):∀ k t,At g s k t→g.bad t = none:=by
 have tk:ws.take ws.length = ws:=List.take_length
 have all:∀ k t,At g s k t→t ∈ ws.map (·.1):=by
  intro k
  induction k with
  | zero =>
   intro t ht
   have:=ht.rO
   subst this
   exact List.mem_map.mpr ⟨(t,0),List.mem_of_getElem? h.head,rfl⟩
  | succ k ih =>
   intro t ht
   obtain ⟨u,m,hu,hm,e⟩:=ht.inv
   obtain ⟨p,hp,e2⟩:=List.mem_map.mp (ih u hu)
   rw [e,← e2]
   exact h.closed p (by rw [tk];exact hp) m (by rw [e2];exact hm)
 intro k t ht
 obtain ⟨p,hp,e⟩:=List.mem_map.mp (all k t ht)
 rw [← e]
 exact h.fine p (by rw [tk];exact hp)
theorem QI.found {g:G σ μ} {s t:σ} {k d:Nat} {ws:List (σ × Nat)} (h:QI g s k ws) (hq:ws[k]? = some (t,d)):At g s d t∧∀ j u,At g s j u→g.bad u≠none→d≤j:=by
 refine ⟨(h.dist _ (List.mem_of_getElem? hq)).1,fun j u hj hu=>?_⟩
 obtain ⟨i,hi,di⟩:=hj.dist
 by_cases hid:i < d
 ·exact absurd (h.fine _ (h.qx hq i u di hid)) hu
 ·lia
end UfBfs
end
section
namespace Uf
open PySem L2 UfSrt
def Cz:Option Str→V
 | some x=>.str x
 | none=>.non
theorem xU {L:List Str} {p:Str→Bool} {i:Nat} {x:Str} (hx:L[i]? = some x) (hp:p x = true) (hb:∀ y ∈ L.take i,p y = false):L.find? p = some x:=by
 have e:L = L.take i ++ (x :: L.drop (i + 1)):=by
  have hi:=(List.getElem?_eq_some_iff.mp hx).1
  have e2:L.drop i = x :: L.drop (i + 1):=by
   rw [List.drop_eq_getElem_cons hi]
   rw [List.getElem?_eq_getElem hi] at hx
   rw [Option.some.inj hx]
  rw [← e2,List.take_append_drop]
 rw [e,List.find?_append]
 have n:(L.take i).find? p = none:=List.find?_eq_none.mpr fun y hy=>by rw [hb y hy];simp
 rw [n]
 simp [hp]
section
variable {P:Program} {w:World} {K:PySem.W.Frag} {mg:Str→Option Value} {base:Heap}
def lz (K:PySem.W.Frag) (C:Addr):Sp:=fun vs H Q _=>∃ (p a:Addr) (ms:List Mv) (st s:List Str),vs = [.ref p,.ref a]∧bR C H p ms st∧cV K H a (av s)∧s.length≤50∧∀ H',au H H'→Q (Cz (cU ms s)) H'
theorem lA:aI ["net", "state", "move"] ["net", "state"] (ai dW):=⟨rfl,rfl,rfl,by decide +kernel,rfl,by decide +kernel,by decide +kernel⟩
theorem pI {f C fM fL fS:Addr} {fd fdM fdL fdS:FuncData} (F:eZ K "crowder" "crowder" dW f fd) (CT:iy K C) (DM:eR K C "moves" "Net.moves" iR ["self"] fM fdM) (GM:aE P w K mg base bQ 1 fM fdM ["self"] (qf C))
  (DL:Def K mg "lacks_bead" fj ["net", "state", "move"] fL fdL) (GL:aE P w K mg base bQ 4 fL fdL ["net", "state", "move"] (jw K C fun m s=>bL m.2.1 s))
  (DS:Def K mg "gives_second" dO ["net", "state", "move"] fS fdS) (GS:aE P w K mg base bQ 4 fS fdS ["net", "state", "move"] (jw K C fun m s=>second m.2.1 m.2.2 s)) :
  aE P w K mg base bQ 5 f fd ["net", "state"] (lz K C):=by
 refine F.ok lA (fun vs H Q E h=>?_) (fun cdv A outer s H vs Q E hr h=>?_)
 ·obtain ⟨p,a,ms,st,s,rfl,_⟩:=h
  rfl
 ·obtain ⟨p,a,ms,st,s',rfl,N,ha,hz,k⟩:=h
  refine ⟨_,ah (dZ PassesOwn.never rfl (br (fu (pv 0) CT.cl DM.mt GM (hr.mono (by decide)) DM.bd .nil aX)) (aA (i:=2) lA.nd rfl (Or.inl rfl))
    (aq (cv (PW.pt (pw_and (cN (bY (aK GL hr rfl DL.mg DL.fn.kp DL.bd .nil aX (aa (pv 0) (aa (pv 1) (aa (pv 2) ag)))))) (pw_and1 (bY (aK GS hr rfl DS.mg DS.fn.kp DS.bd .nil aX (aa (pv 0) (aa (pv 1) (aa (pv 2) ag)))))))) (aq (aJ (pv 2))) bf)))
   (aq (aJ jl)),?_⟩
  obtain ⟨dx,aP,aS,aT,aG,kT,kG,h1,_⟩:=N.at'.ob
  refine ⟨_,rfl,p,dx,_,rfl,h1,dJ _ _ _ _ yk yO yR yH,p,ms,st,rfl,N,fun H1 q s1 nq hq=>?_⟩
  refine ⟨q,rfl,⟨_,aY.of hq⟩,cO (K:=K) (a:=q) (xs:=av (aQ (names ms))) (fun i σ H2=>∃ v:Option V,σ = [some (.ref p),some (.ref a),v]∧au H1 H2∧∀ y ∈ (aQ (names ms)).take i,(!cK ms s' y && fk ms s' y) = false)
   ⟨none,rfl,au.refl _,fun y hy=>by simp at hy⟩ (fun i σ H2 _ ⟨_,_,sm,_⟩=>aY.of (sm _ _ hq)) ?_ ?_⟩
  ·rintro i v σ H2 hi ⟨v0,rfl,sm,hb⟩
   obtain ⟨x,hx,rfl⟩:=cB hi
   obtain ⟨m,hm,rfl⟩:=cQ (List.mem_of_getElem? hx)
   have sA:au H H2:=s1.trans sm
   refine ⟨_,rfl,_,rfl,_,rfl,p,a,ms,st,s',m,rfl,N.same sA,hm,dU sA ha,by lia,fun H3 s3=>⟨_,rfl,?_⟩⟩
   have el:bL m.2.1 s' = cK ms s' m.1:=by unfold cK;rw [cY N.so.nd hm]
   have es:second m.2.1 m.2.2 s' = fk ms s' m.1:=by unfold fk;rw [cY N.so.nd hm,eA N.so.nd hm]
   show if (!bL m.2.1 s') = true then _ else _
   rw [el]
   have more:(!cK ms s' m.1 && fk ms s' m.1) = false→∀ y ∈ (aQ (names ms)).take (i + 1),(!cK ms s' y && fk ms s' y) = false:=fun e y hy=>by
    rw [ar hx] at hy
    rcases List.mem_append.mp hy with hy | hy
    ·exact hb y hy
    ·have:y = m.1:=by simpa using hy
     rw [this]
     exact e
   cases c1:cK ms s' m.1 with
   | true =>
    refine bz ?_
    refine bz ?_
    exact ⟨_,rfl,sm.trans s3,more (by rw [c1];rfl)⟩
   | false =>
    refine bN ?_
    refine ⟨_,rfl,_,rfl,_,rfl,p,a,ms,st,s',m,rfl,N.same (sA.trans s3),hm,dU (sA.trans s3) ha,by lia,fun H4 s4=>⟨_,rfl,?_⟩⟩
    show if second m.2.1 m.2.2 s' = true then _ else _
    rw [es]
    cases c2:fk ms s' m.1 with
    | false =>
     refine bz ?_
     exact ⟨_,rfl,(sm.trans s3).trans s4,more (by rw [c1,c2];rfl)⟩
    | true =>
     refine bN ?_
     refine ⟨_,rfl,?_⟩
     have e:cU ms s' = some m.1:=xU hx (by rw [c1,c2];rfl) hb
     have q1:=k H4 (sA.trans (s3.trans s4))
     rw [e] at q1
     exact q1
  ·rintro σ H2 ⟨v0,rfl,sm,hb⟩
   rw [ao,List.take_length] at hb
   have e:cU ms s' = none:=List.find?_eq_none.mpr fun y hy=>by rw [hb y hy];simp
   have q1:=k H2 (s1.trans sm)
   rw [e] at q1
   exact q1
end
end Uf
end
section
namespace Uf
open PySem L2 UfSrt UfFin
def graph (ms:List Mv):UfBfs.G (List Str) Str:=⟨iF ms,cu ms,cU ms⟩
def dR (t:List Str):List Key:=t.map Sum.inr
theorem d7 (t:List Str):(dR t).map kV = av t:=by
 unfold dR av
 rw [List.map_map]
 rfl
theorem iN:∀ {t u:List Str},dR t = dR u→t = u
 | [],[],_=>rfl
 | [],_ :: _,h=>by simp [dR] at h
 | _ :: _,[],h=>by simp [dR] at h
 | x :: t,y :: u,h=>by
  unfold dR at h
  rw [List.map_cons,List.map_cons] at h
  obtain ⟨h1,h2⟩:=List.cons.inj h
  have e:x = y:=by injection h1
  rw [e,iN (t:=t) (u:=u) h2]
def kE (H:Hp) (a:Addr) (ts:List (List Str)):Prop:=∃ qs:List Addr,H a = some (.lst (qs.map V.ref))∧Paired (fun t q=>H q = some (.tup (av t))) ts qs
def pF (H:Hp) (x:Option (List Str × Str)) (v:V):Prop:=match x with
 | none=>v = .non
 | some (u,m)=>∃ q b,v = .ref q∧H q = some (.tup [.ref b,.str m])∧H b = some (.tup (av u))
def mS (H H' : Hp):Prop:=∀ b xs,H b = some (.tup xs)→H' b = some (.tup xs)
theorem _root_.L2.au.cz {H H' : Hp} (s:au H H'):mS H H':=fun b xs e=>s b _ e
theorem gz {H:Hp} {a:Addr} {o u:HO} (e:H a = some o) (n:∀ xs,o≠.tup xs):mS H (upd H a u):=fun b xs q=>by
 rw [af (aR q e (fun z=>n xs z.symm))]
 exact q
theorem pF.cz {H H' : Hp} {x:Option (List Str × Str)} {v:V} (s:mS H H') (h:pF H x v):pF H' x v:=by
 cases x with
 | none=>exact h
 | some p =>
  obtain ⟨q,b,h1,h2,h3⟩:=h
  exact ⟨q,b,h1,s _ _ h2,s _ _ h3⟩
abbrev WP (H:Hp):UfBfs.bO (List Str) Str→List (List Key × V)→Prop:=Paired fun p kv=>kv.1 = dR p.1∧pF H p.2 kv.2
def iB (H:Hp) (d:Addr) (w:UfBfs.bO (List Str) Str):Prop:=∃ kvs,H d = some (.dT kvs)∧WP H w kvs
theorem WP.cz {H H' : Hp} {w:UfBfs.bO (List Str) Str} {kvs:List (List Key × V)} (s:mS H H') (h:WP H w kvs):WP H' w kvs:=Paired.dh h fun _ _ z=>⟨z.1,z.2.cz s⟩
theorem WP.none {H:Hp} {t:List Str} : ∀ {w:UfBfs.bO (List Str) Str} {kvs:List (List Key × V)},WP H w kvs→UfBfs.look w t = none→cD kvs (dR t) = .none
 | _,_,.nil,_=>rfl
 | p :: w,kv :: kvs,.cons h r,e=>by
  by_cases ht:p.1 = t
  ·simp [UfBfs.look,ht] at e
  ·have e' : UfBfs.look w t = Option.none:=by simpa [UfBfs.look,ht] using e
   rw [bD (fun z=>ht (iN (h.1.symm.trans z)))]
   exact WP.none r e'
theorem WP.some {H:Hp} {t:List Str} {x:Option (List Str × Str)} : ∀ {w:UfBfs.bO (List Str) Str} {kvs:List (List Key × V)},WP H w kvs→UfBfs.look w t = some x→∃ v,cD kvs (dR t) = .some v∧pF H x v
 | _,_,.nil,e=>by simp [UfBfs.look] at e
 | p :: w,kv :: kvs,.cons h r,e=>by
  by_cases ht:p.1 = t
  ·have e' : p.2 = x:=by simpa [UfBfs.look,ht] using e
   refine ⟨kv.2,bM (by rw [h.1,ht]),?_⟩
   rw [← e']
   exact h.2
  ·have e' : UfBfs.look w t = Option.some x:=by simpa [UfBfs.look,ht] using e
   rw [bD (fun z=>ht (iN (h.1.symm.trans z)))]
   exact WP.some r e'
structure fO (ms:List Mv) (st t:List Str):Prop where
 ris:dw t
 sub:∀ x ∈ t,x ∈ cF ms st
theorem oA (ms:List Mv) (st:List Str):dw (cF ms st):=dw.aQ (UfSet.kI _)
theorem fO.len {ms:List Mv} {st t:List Str} (so:Sound ms st) (h:fO ms st t):t.length≤12:=Nat.le_trans (fq h.ris.nd h.sub) so.pl
theorem j0 {ms:List Mv} {st:List Str} (so:Sound ms st) {l:List (List Str)} (hn:l.Nodup) (h:∀ t ∈ l,fO ms st t):l.length≤4096:=by
 have h1:=fq hn fun t ht=>(h t ht).ris.xI (oA ms st) (h t ht).sub
 rw [pb] at h1
 refine Nat.le_trans h1 (Nat.le_trans (Nat.pow_le_pow_right (by decide) so.pl) (by decide))
theorem nF {ms:List Mv} {st:List Str} {x:Str} : x ∈ cF ms st ↔ x ∈ st∨∃ m ∈ ms,x ∈ m.2.1∨x ∈ m.2.2:=by
 unfold cF
 rw [cR,UfSet.nu,List.mem_append]
 unfold jn
 rw [List.mem_flatMap]
 simp only [List.mem_append]
theorem iD {ms:List Mv} {st:List Str} (so:Sound ms st):fO ms st (aQ st):=⟨dw.aQ (gX so.su),fun x hx=>nF.mpr (.inl (cR.mp hx))⟩
theorem jL {ms:List Mv} {t:List Str} {x:Str} : x ∈ iF ms t ↔ x ∈ names ms∧cK ms t x = false∧fk ms t x = false:=by
 unfold iF
 rw [List.mem_filter,List.mem_filter,cR]
 simp [and_assoc]
theorem lH {ms:List Mv} {st t:List Str} {m:Mv} (so:Sound ms st) (h:fO ms st t) (hm:m ∈ ms) (hs:second m.2.1 m.2.2 t = false):fO ms st (behind m.2.1 m.2.2 t):=by
 obtain ⟨_,u2,_⟩:=ia (so.mv m hm)
 have gn:m.2.2.Nodup:=gX u2
 refine ⟨dw.aQ (List.nodup_append.mpr ⟨h.ris.nd.sublist List.filter_sublist,gn,fun a ha b hb=>?_⟩),fun x hx=>?_⟩
 ·rintro rfl
  obtain ⟨h1,h2⟩:=List.mem_filter.mp ha
  have h3:second m.2.1 m.2.2 t = true:=List.any_eq_true.mpr ⟨a,hb,by simp at h2;simp [h1,h2]⟩
  rw [hs] at h3
  cases h3
 ·unfold behind at hx
  rcases List.mem_append.mp (cR.mp hx) with z | z
  ·exact h.sub x (List.mem_filter.mp z).1
  ·exact nF.mpr (.inr ⟨m,hm,.inr z⟩)
theorem jV {ms:List Mv} {st t:List Str} {x:Str} (so:Sound ms st) (h:fO ms st t) (hx:x ∈ iF ms t):∃ m ∈ ms,m.1 = x∧bL m.2.1 t = false∧second m.2.1 m.2.2 t = false∧cu ms t x = behind m.2.1 m.2.2 t∧fO ms st (cu ms t x):=by
 obtain ⟨h1,h2,h3⟩:=jL.mp hx
 obtain ⟨m,hm,rfl⟩:=List.mem_map.mp h1
 unfold cK at h2
 unfold fk at h3
 rw [cY so.nd hm] at h2 h3
 rw [eA so.nd hm] at h3
 have e:cu ms t m.1 = behind m.2.1 m.2.2 t:=by
  unfold cu
  rw [cY so.nd hm,eA so.nd hm]
 exact ⟨m,hm,rfl,h2,h3,e,by rw [e];exact lH so h hm h3⟩
theorem bR.but {C:Addr} {H H' : Hp} {p d:Addr} {ms:List Mv} {st:List Str} {kvs:List (List Key × V)} (hd:H d = some (.dT kvs)) (b:ix d H H') (h:bR C H p ms st):bR C H' p ms st:=by
 obtain ⟨⟨dx,aP,aS,aT,aG,kT,kG,h1,h2,h3,h4,h5,h6,h7⟩,so⟩:=h
 have up:∀ {c:Addr} {o:HO},H c = some o→(∀ k,o≠.dT k)→H' c = some o:=fun e n=>b _ _ e (aR e hd (n _))
 exact ⟨⟨dx,aP,aS,aT,aG,kT,kG,up h1 (fun _ z=>nomatch z),up h2 (fun _ z=>nomatch z),up h3 (fun _ z=>nomatch z),up h4 (fun _ z=>nomatch z),up h5 (fun _ z=>nomatch z),h6.same fun c xs e=>up e (fun _ z=>nomatch z),h7.same fun c xs e=>up e (fun _ z=>nomatch z)⟩,so⟩
structure Acc (ms:List Mv) (st:List Str) (acc:UfBfs.bO (List Str) Str × List (List Str)):Prop where
 nd:(acc.1.map (·.1)).Nodup
 fine:∀ t ∈ acc.1.map (·.1),fO ms st t
 len:acc.2.length≤acc.1.length
theorem Acc.try {ms:List Mv} {st t:List Str} {acc:UfBfs.bO (List Str) Str × List (List Str)} {m:Str} (h:Acc ms st acc) (hf:fO ms st (cu ms t m)):Acc ms st (UfBfs.gM (graph ms) t acc m):=by
 unfold UfBfs.gM
 show Acc ms st (if (UfBfs.look acc.1 (cu ms t m)).isSome = true then acc else (acc.1 ++ [(cu ms t m,some (t,m))],acc.2 ++ [cu ms t m]))
 cases e:UfBfs.look acc.1 (cu ms t m) with
 | some x=>exact h
 | none =>
  have hn:=UfBfs.lF.mp e
  refine ⟨?_,fun u hu=>?_,by have:=h.len;simp;lia⟩
  ·show ((acc.1 ++ [(cu ms t m,some (t,m))]).map (·.1)).Nodup
   rw [List.map_append]
   refine List.nodup_append.mpr ⟨h.nd,by simp,fun a ha b hb=>?_⟩
   have:b = cu ms t m:=by simpa using hb
   subst this
   rintro rfl
   exact hn ha
  ·have hu:u ∈ (acc.1 ++ [(cu ms t m,some (t,m))]).map (·.1):=hu
   rw [List.map_append] at hu
   rcases List.mem_append.mp hu with z | z
   ·exact h.fine u z
   ·have:u = cu ms t m:=by simpa using z
    rw [this]
    exact hf
theorem Acc.oF {ms:List Mv} {st:List Str} {acc:UfBfs.bO (List Str) Str × List (List Str)} (so:Sound ms st) (h:Acc ms st acc):acc.1.length≤4096:=by
 have:=j0 so h.nd h.fine
 rw [List.length_map] at this
 exact this
section
variable {P:Program} {w:World} {K:PySem.W.Frag} {mg:Str→Option Value} {base:Heap}
def qQ (C:Addr):Sp:=fun vs H Q _=>∃ (p a d:Addr) (ms:List Mv) (st:List Str) (ts:List (List Str)) (wy:UfBfs.bO (List Str) Str),vs = [.ref p,.ref a,.ref d]∧bR C H p ms st∧kE H a ts∧iB H d wy∧(∀ t ∈ ts,fO ms st t)∧Acc ms st (wy,[]) ∧
 ∀ H' q,ix d H H'→H q = none→kE H' q (UfBfs.d3 (graph ms) ts wy).2→iB H' d (UfBfs.d3 (graph ms) ts wy).1→Acc ms st (UfBfs.d3 (graph ms) ts wy)→Q (.ref q) H'
theorem iK:aI ["net", "states", "ways", "reached", "state", "move", "behind"] ["net", "states", "ways"] (ai gW):=⟨rfl,rfl,rfl,by decide +kernel,rfl,by decide +kernel,by decide +kernel⟩
inductive Cr (H:Hp) (p a d r:Addr) (ms:List Mv) (st:List Str) (ts:List (List Str)) (wy:UfBfs.bO (List Str) Str) (i:Nat) (σ:St) (H2:Hp):Prop
 | mk (v4 v5 v6:Option V) (acc:UfBfs.bO (List Str) Str × List (List Str)) (q0:acc = (ts.take i).foldl (UfBfs.tryAll (graph ms)) (wy,[])) (q1:σ = [some (.ref p),some (.ref a),some (.ref d),some (.ref r),v4,v5,v6]) (q2:ix d H H2) (q3:kE H2 r acc.2) (q4:iB H2 d acc.1) (q5:Acc ms st acc)
inductive Bu (H:Hp) (p a d r tq q:Addr) (ms:List Mv) (st t:List Str) (acc:UfBfs.bO (List Str) Str × List (List Str)) (j:Nat) (σ:St) (H4:Hp):Prop
 | mk (v5 v6:Option V) (acc' : UfBfs.bO (List Str) Str × List (List Str)) (q0:acc' = ((iF ms t).take j).foldl (UfBfs.gM (graph ms) t) acc) (q1:σ = [some (.ref p),some (.ref a),some (.ref d),some (.ref r),some (.ref tq),v5,v6]) (q2:ix d H H4) (q3:H4 q = some (.lst (av (iF ms t)))) (q4:kE H4 r acc'.2) (q5:iB H4 d acc'.1) (q6:Acc ms st acc')
theorem Cr.but {H:Hp} {p a d r:Addr} {ms:List Mv} {st:List Str} {ts:List (List Str)} {wy:UfBfs.bO (List Str) Str} {i:Nat} {σ:St} {H2:Hp} (h:Cr H p a d r ms st ts wy i σ H2):ix d H H2:=by
 cases h
 assumption
theorem Bu.at_ {H:Hp} {p a d r tq q:Addr} {ms:List Mv} {st t:List Str} {acc:UfBfs.bO (List Str) Str × List (List Str)} {j:Nat} {σ:St} {H4:Hp} (h:Bu H p a d r tq q ms st t acc j σ H4):H4 q = some (.lst (av (iF ms t))):=by
 cases h
 assumption
theorem vC {f C fM fB:Addr} {fd fdM fdB:FuncData} (F:eZ K "newly_reached" "newly_reached" gW f fd)
  (DM:Def K mg "may" lj ["net", "state"] fM fdM) (GM:aE P w K mg base bQ 5 fM fdM ["net", "state"] (yt K C))
  (DB:Def K mg "state_behind" ee ["net", "state", "move"] fB fdB) (GB:aE P w K mg base bQ 4 fB fdB ["net", "state", "move"] (pd K C)) :
  aE P w K mg base bQ 6 f fd ["net", "states", "ways"] (qQ C):=by
 refine F.ok iK (fun vs H Q E h=>?_) (fun cdv A outer s H vs Q E hr h=>?_)
 ·obtain ⟨p,a,d,ms,st,ts,wy,rfl,_⟩:=h
  rfl
 ·obtain ⟨p,a,d,ms,st,ts,wy,rfl,N,⟨qs,hq,hp⟩,⟨kvs0,hd0,wp0⟩,hts,ac0,k⟩:=h
  have hu:=gm hr
  refine ⟨_,ah (aM (i:=3) iK.nd rfl (Or.inl rfl) (bZ ag))
   (ah (dZ PassesOwn.never rfl (br (pv 1)) (aA (i:=4) iK.nd rfl (Or.inl rfl))
    (aq (dZ PassesOwn.never rfl (br (aK GM hr rfl DM.mg DM.fn.kp DM.bd .nil aX (aa (pv 0) (aa (pv 4) ag)))) (aA (i:=5) iK.nd rfl (Or.inl rfl))
     (ah (aM (i:=6) iK.nd rfl (Or.inl rfl) (aK GB (hr.mono (by decide)) rfl DB.mg DB.fn.kp DB.bd .nil aX (aa (pv 0) (aa (pv 4) (aa (pv 5) ag)))))
      (aq (cv (gC (gY hu (pv 6) (pv 2)))
       (ah (hJ hu (pv 2) (pv 6) (dI (aa (pv 4) (aa (pv 5) ag))) rfl)
        (aq (bF (gL PySem.F.plainAttrs_list PySem.F.slot_list_append PySem.F.type_list_append bE (pv 3) (aa (pv 6) ag))))) bf))))))
   (aq (aJ (pv 3)))),?_⟩
  clear hu
  dsimp only [eU,Cx.qB]
  refine ⟨Nat.zero_le _,fun r nr=>?_⟩
  have s0:au H (upd H r (.lst [])):=aj nr
  have so:=N.so
  have hsl:=PySem.sizeLine_eq
  have nda:a≠d:=aR hq hd0 (fun z=>nomatch z)
  refine ⟨_,rfl,a,rfl,⟨_,aY.of (s0 _ _ hq)⟩,cO (K:=K) (a:=a) (xs:=qs.map V.ref) (Cr H p a d r ms st ts wy)
   ⟨none,none,none,(wy,[]),rfl,rfl,fun c o e _=>s0 _ _ e,⟨[],ae,.nil⟩,⟨kvs0,s0 _ _ hd0,wp0.cz s0.cz⟩,ac0⟩ (fun i σ H2 _ h=>aY.of (h.but _ _ hq nda)) ?_ ?_⟩
  ·rintro i v σ H2 hi ⟨v4,v5,v6,acc,ea,rfl,b2,S2,W2,ac2⟩
   obtain ⟨tq,hqi,rfl⟩:=dA hi
   obtain ⟨t,ht,htq⟩:=bp hp hqi
   have hft:fO ms st t:=hts t (List.mem_of_getElem? ht)
   have ntd:tq≠d:=aR htq hd0 (fun z=>nomatch z)
   have htq2:=b2 _ _ htq ntd
   refine ⟨_,rfl,_,rfl,p,tq,ms,st,t,rfl,N.but hd0 b2,cV.of htq2,by have:=hft.len so;lia,fun H3 q s3 nq hq3=>?_⟩
   obtain ⟨rs2,hr2,hrp2⟩:=S2
   obtain ⟨kvs2,hd2,wp2⟩:=W2
   have nqd:d≠q:=ak hd2 nq
   have nqr:r≠q:=ak hr2 nq
   have ets:ts.take (i + 1) = ts.take i ++ [t]:=ar ht
   refine ⟨q,rfl,⟨_,aY.of hq3⟩,cO (K:=K) (a:=q) (xs:=av (iF ms t)) (Bu H p a d r tq q ms st t acc)
    ⟨v5,v6,acc,rfl,rfl,b2.then s3,hq3,⟨rs2,s3 _ _ hr2,Paired.dh hrp2 fun _ _ e=>s3 _ _ e⟩,⟨kvs2,s3 _ _ hd2,wp2.cz s3.cz⟩,ac2⟩ (fun j σ H4 _ h=>aY.of h.at_) ?_ ?_⟩
   ·rintro j v σ H4 hj ⟨v5,v6,acc',ea',rfl,b4,hq4,S4,W4,ac4⟩
    obtain ⟨x,hx,rfl⟩:=cB hj
    obtain ⟨m,hm,rfl,_,hsec,eb,hfb⟩:=jV so hft (List.mem_of_getElem? hx)
    refine ⟨_,rfl,_,rfl,_,rfl,p,tq,ms,st,t,m,rfl,N.but hd0 b4,hm,cV.of (b4 _ _ htq ntd),by have:=hft.len so;lia,fun H5 q5 s5 nq5 hq5=>?_⟩
    obtain ⟨rs4,hr4,hrp4⟩:=S4
    obtain ⟨kvs4,hd4,wp4⟩:=W4
    have hd5:=s5 _ _ hd4
    have hr5:=s5 _ _ hr4
    have wp5:WP H5 acc'.1 kvs4:=wp4.cz s5.cz
    have hrp5:=Paired.dh hrp4 fun t q (e:H4 q = some (.tup (av t)))=>s5 q _ e
    have hq5k:H5 q5 = some (.tup ((dR (cu ms t m.1)).map kV)):=by rw [d7,eb];exact hq5
    have etk:(iF ms t).take (j + 1) = (iF ms t).take j ++ [m.1]:=ar hx
    have efold:((iF ms t).take (j + 1)).foldl (UfBfs.gM (graph ms) t) acc = UfBfs.gM (graph ms) t acc' m.1:=by rw [etk,List.foldl_append,← ea'];rfl
    have oF:=ac4.oF so
    have lkv:kvs4.length = acc'.1.length:=(Paired.length wp4).symm
    have lrs:rs4.length = acc'.2.length:=(Paired.length hrp4).symm
    have al:=ac4.len
    refine ⟨_,rfl,_,rfl,d,_,rfl,eX.t hd5 hq5k,_,rfl,?_⟩
    cases hl:UfBfs.look acc'.1 (cu ms t m.1) with
    | some y =>
     obtain ⟨v,hv,_⟩:=wp5.some hl
     rw [hv]
     refine bz ?_
     have e1:UfBfs.gM (graph ms) t acc' m.1 = acc':=by
      unfold UfBfs.gM
      exact if_pos (by show (UfBfs.look acc'.1 (cu ms t m.1)).isSome = true;rw [hl];rfl)
     exact ⟨_,_,acc',by rw [efold,e1],rfl,b4.then s5,s5 _ _ hq4,⟨rs4,hr5,hrp5⟩,⟨kvs4,hd5,wp5⟩,ac4⟩
    | none =>
     rw [wp5.none hl]
     refine bN ?_
     have e1:UfBfs.gM (graph ms) t acc' m.1 = (acc'.1 ++ [(cu ms t m.1,some (t,m.1))],acc'.2 ++ [cu ms t m.1]):=by
      unfold UfBfs.gM
      exact if_neg (by show ¬ (UfBfs.look acc'.1 (cu ms t m.1)).isSome = true;rw [hl];simp)
     refine ⟨_,rfl,_,rfl,by show 2≤sizeLine;lia,fun q6 nq6=>?_⟩
     have s6:au H5 (upd H5 q6 (.tup [.ref tq,.str m.1])):=aj nq6
     have hd6:=s6 _ _ hd5
     have hr6:=s6 _ _ hr5
     have h6:(upd H5 q6 (.tup [.ref tq,.str m.1])) q6 = some (.tup [.ref tq,.str m.1]):=ae
     have b6:ix d H (upd H5 q6 (.tup [.ref tq,.str m.1])):=(b4.then s5).then s6
     have wp6:=wp5.cz s6.cz
     have hrp6:=Paired.dh hrp5 fun t q (e:H5 q = some (.tup (av t)))=>s6 q _ e
     have hq6k:=s6 _ _ hq5k
     have hq6:=s6 _ _ hq5
     have hqq6:=s6 _ _ (s5 _ _ hq4)
     have htq6:=b6 _ _ htq ntd
     generalize upd H5 q6 (.tup [.ref tq,.str m.1]) = H6 at s6 hd6 hr6 h6 b6 wp6 hrp6 hq6k hq6 hqq6 htq6 ⊢
     refine ⟨_,rfl,_,rfl,d,_,rfl,jH.t hd6 hq6k (by lia),?_⟩
     have pk:putK kvs4 (dR (cu ms t m.1)) (V.ref q6) = kvs4 ++ [(dR (cu ms t m.1),V.ref q6)]:=fE _ (wp5.none hl)
     rw [pk]
     have t7:mS H6 (upd H6 d (.dT (kvs4 ++ [(dR (cu ms t m.1),V.ref q6)]))):=gz hd6 (fun _ z=>nomatch z)
     have nrd:r≠d:=aR hr6 hd6 (fun z=>nomatch z)
     have nqd6:q≠d:=aR hqq6 hd6 (fun z=>nomatch z)
     have hr7:(upd H6 d (.dT (kvs4 ++ [(dR (cu ms t m.1),V.ref q6)]))) r = some (.lst (rs4.map V.ref)):=by rw [af nrd];exact hr6
     refine ⟨_,rfl,.inl ⟨rfl,_,aY.of hr7⟩,_,rfl,r,_,_,rfl,rfl,hr7,by rw [List.length_map];lia,?_⟩
     have hd7:(upd H6 d (.dT (kvs4 ++ [(dR (cu ms t m.1),V.ref q6)]))) d = some (.dT (kvs4 ++ [(dR (cu ms t m.1),V.ref q6)])):=ae
     have hq7:(upd H6 d (.dT (kvs4 ++ [(dR (cu ms t m.1),V.ref q6)]))) q = some (.lst (av (iF ms t))):=by rw [af nqd6];exact hqq6
     have b7:ix d H (upd H6 d (.dT (kvs4 ++ [(dR (cu ms t m.1),V.ref q6)]))):=b6.put
     have w7:WP (upd H6 d (.dT (kvs4 ++ [(dR (cu ms t m.1),V.ref q6)]))) (acc'.1 ++ [(cu ms t m.1,some (t,m.1))]) (kvs4 ++ [(dR (cu ms t m.1),V.ref q6)]) :=
      Paired.snoc (wp6.cz t7) ⟨rfl,q6,tq,rfl,t7 _ _ h6,t7 _ _ htq6⟩
     have r7:=Paired.snoc (Paired.dh hrp6 fun t q (e:H6 q = some (.tup (av t)))=>t7 q _ e) (a:=cu ms t m.1) (b:=q5) (by have z:=t7 _ _ hq6;rw [← eb] at z;exact z)
     generalize upd H6 d (.dT (kvs4 ++ [(dR (cu ms t m.1),V.ref q6)])) = H7 at t7 hr7 hd7 hq7 b7 w7 r7 ⊢
     have t8:mS H7 (upd H7 r (.lst (rs4.map V.ref ++ [V.ref q5]))):=gz hr7 (fun _ z=>nomatch z)
     have nqr7:q≠r:=fun z=>nqr z.symm
     refine ⟨_,_,(acc'.1 ++ [(cu ms t m.1,some (t,m.1))],acc'.2 ++ [cu ms t m.1]),by rw [efold,e1],rfl,b7.new nr,by rw [af nqr7];exact hq7,⟨rs4 ++ [q5],by rw [ae,List.map_append];rfl,Paired.dh r7 fun t q (e:H7 q = some (.tup (av t)))=>t8 q _ e⟩,⟨_,by rw [af nrd.symm];exact hd7,w7.cz t8⟩,?_⟩
     have:=ac4.try (t:=t) (m:=m.1) hfb
     rw [e1] at this
     exact this
   ·rintro σ H4 ⟨v5,v6,acc',ea',rfl,b4,hq4,S4,W4,ac4⟩
    rw [ao,List.take_length] at ea'
    refine ⟨_,_,_,acc',?_,rfl,b4,S4,W4,ac4⟩
    rw [ets,List.foldl_append,← ea,ea']
    rfl
  ·rintro σ H2 ⟨v4,v5,v6,acc,ea,rfl,b2,S2,W2,ac2⟩
   have el:(qs.map V.ref).length = ts.length:=by rw [List.length_map,← Paired.length hp]
   rw [el,List.take_length] at ea
   have e:acc = UfBfs.d3 (graph ms) ts wy:=ea
   subst e
   exact ⟨_,rfl,k H2 r b2 nr S2 W2 ac2⟩
end
end Uf
end
section
namespace Uf
open PySem L2 UfSrt UfFin
section
variable {P:Program} {w:World} {K:PySem.W.Frag} {mg:Str→Option Value} {base:Heap}
def qL:Sp:=fun vs H Q _=>∃ (d a:Addr) (t s:List Str) (wy:UfBfs.bO (List Str) Str) (g:UfBfs.G (List Str) Str) (L k:Nat) (ts:List (List Str)),vs = [.ref d,.ref a]∧iB H d wy∧H a = some (.tup (av t))∧UfBfs.Good g s L wy ts∧k≤L∧L≤5000∧UfBfs.d9 g s k t ∧
 ∀ H' q,au H H'→H q = none→H' q = some (.lst (av (UfBfs.ff wy k t)))→Q (.ref q) H'
theorem jQ:aI ["ways", "state", "row", "way"] ["ways", "state"] (ai gF):=⟨rfl,rfl,rfl,by decide +kernel,rfl,by decide +kernel,by decide +kernel⟩
theorem vR {f:Addr} {fd:FuncData} (F:eZ K "row_by_ways" "row_by_ways" gF f fd) (T:Txt K mg) (hrev:mg "reversed" = none):aE P w K mg base bQ 1 f fd ["ways", "state"] qL:=by
 refine F.ok jQ (fun vs H Q E h=>?_) (fun cdv A outer s H vs Q E hr h=>?_)
 ·obtain ⟨d,a,t,s,wy,g,L,k,ts,rfl,_⟩:=h
  rfl
 ·obtain ⟨d,a,t,s0,wy,g,L,k,ts,rfl,⟨kvs,hd,wp⟩,ha,good,hkL,hL,hdist,kk⟩:=h
  have hu:=gm hr
  have hsl:=PySem.sizeLine_eq
  refine ⟨_,ah (aM (i:=2) jQ.nd rfl (Or.inl rfl) (bZ ag))
   (ah (aM (i:=3) jQ.nd rfl (Or.inl rfl) (fg hu (pv 0) (pv 1) (fun _ _=>rfl)))
   (ah (iL PassesOwn.never (gC (mJ (pv 3)))
    (ah (bF (gL PySem.F.plainAttrs_list PySem.F.slot_list_append PySem.F.type_list_append bE (pv 2) (aa (cP dC (pv 3) aw (fun _ _=>rfl)) ag)))
    (aq (aM (i:=3) jQ.nd rfl (Or.inl rfl) (fg hu (pv 0) (cP dC (pv 3) aw (fun _ _=>rfl)) (fun _ _=>rfl))))))
   (aq (aJ (qz rfl rfl T.lst dY rfl hrev (aa (pv 2) ag)))))),?_⟩
  clear hu
  dsimp only [eU,Cx.qB]
  refine ⟨Nat.zero_le _,fun r nr=>?_⟩
  have sm0:au H (upd H r (.lst [])):=aj nr
  have ndr:d≠r:=ak hd nr
  obtain ⟨x0,hx0⟩:=good.all k t hkL hdist
  obtain ⟨v0,hv0,wv0⟩:=(wp.cz sm0.cz).some hx0
  have ha0:(upd H r (.lst [])) a = some (.tup ((dR t).map kV)):=by rw [d7];exact sm0 _ _ ha
  refine ⟨_,rfl,_,rfl,d,v0,rfl,(by rw [← hv0];exact eX.t (sm0 _ _ hd) ha0),?_⟩
  refine ⟨fun m σ H2=>∃ (u:List Str) (x:Option (List Str × Str)) (v:V) (rl:List Str),m≤k∧UfBfs.d9 g s0 m u∧UfBfs.look wy u = some x∧pF H2 x v∧σ = [some (.ref d),some (.ref a),some (.ref r),some v]∧au H H2∧H2 r = some (.lst (av rl))∧rl.length + m = k∧UfBfs.ff wy k t = UfBfs.ff wy m u ++ rl.reverse,
   ⟨k,t,x0,v0,[],Nat.le_refl _,hdist,hx0,wv0,rfl,sm0,ae,by simp,by simp⟩,?_⟩
  rintro m σ H2 ⟨u,x,v,rl,hmk,hdu,hxu,wv,rfl,sm,hr2,hlen,erow⟩
  obtain ⟨k',hk',hd',hway⟩:=good.way u x hxu
  have ek:k' = m:=hd'.uniq hdu
  subst ek
  refine ⟨_,rfl,_,rfl,?_⟩
  cases x with
  | none =>
   have ev:v = .non:=wv
   subst ev
   refine bz ?_
   have eu:u = s0:=hway
   subst eu
   have h0:k' = 0:=by
    have:=hdu.2 0 (UfBfs.At.zero g u)
    lia
   subst h0
   have e2:UfBfs.ff wy k t = rl.reverse:=by rw [erow];rfl
   refine ⟨_,rfl,r,av rl,rfl,aY.of hr2,fun q nq=>?_⟩
   refine kk _ q (sm.trans (aj nq)) (sm.free nq) ?_
   rw [ae,e2]
   unfold av
   rw [List.map_reverse]
  | some um =>
   obtain ⟨u',m'⟩:=um
   obtain ⟨q,b,ev,hq,hb⟩:=wv
   subst ev
   obtain ⟨j,ej,hdj,hmay,eu⟩:=hway
   subst ej
   refine bN ?_
   obtain ⟨x',hx'⟩:=good.all j u' (by lia) hdj
   refine ⟨fun σ' H'=>∃ (u:List Str) (x:Option (List Str × Str)) (v:V) (rl:List Str),j≤k∧UfBfs.d9 g s0 j u∧UfBfs.look wy u = some x∧pF H' x v∧σ' = [some (.ref d),some (.ref a),some (.ref r),some v]∧au H H'∧H' r = some (.lst (av rl))∧rl.length + j = k∧UfBfs.ff wy k t = UfBfs.ff wy j u ++ rl.reverse,
    fun σ' H' h=>⟨j,Nat.lt_succ_self _,h⟩,?_⟩
   refine ⟨_,rfl,.inl ⟨rfl,_,aY.of hr2⟩,_,rfl,q,_,1,_,rfl,rfl,cV.of hq,cj (j:=1) rfl,r,_,_,rfl,rfl,hr2,(by rw [ao];lia),?_⟩
   have t3:mS H2 (upd H2 r (.lst (av rl ++ [V.str m']))):=gz hr2 (fun _ z=>nomatch z)
   have sm3:au H (upd H2 r (.lst (av rl ++ [V.str m']))):=aH sm nr
   have hb3:(upd H2 r (.lst (av rl ++ [V.str m']))) b = some (.tup ((dR u').map kV)):=by rw [d7];exact t3 _ _ hb
   obtain ⟨v',hv',wv'⟩:=((wp.cz sm.cz).cz t3).some hx'
   refine ⟨_,rfl,_,rfl,q,_,0,_,rfl,rfl,cV.of (t3 _ _ hq),cj (j:=0) rfl,d,v',rfl,(by rw [← hv'];exact eX.t (sm3 _ _ hd) hb3),?_⟩
   refine ⟨u',x',v',rl ++ [m'],by lia,hdj,hx',wv',rfl,sm3,?_,by simp;lia,?_⟩
   ·rw [ae]
    unfold av
    simp
   ·rw [erow]
    have e3:UfBfs.ff wy (j + 1) u = UfBfs.ff wy j u' ++ [m']:=by
     simp only [UfBfs.ff,hxu]
    rw [e3]
    simp
end
end Uf
end
section
namespace Uf
open PySem L2 UfSrt UfFin
theorem uQ:(("start" : Str) == "place_names") = false:=by decide +kernel
theorem ub:(("start" : Str) == "start_state") = false:=by decide +kernel
theorem uY:(("start" : Str) == "taken_by") = false:=by decide +kernel
theorem vd:(("start" : Str) == "given_by") = false:=by decide +kernel
section
variable {P:Program} {w:World} {K:PySem.W.Frag} {mg:Str→Option Value} {base:Heap}
def km (C:Addr):Sp:=fun vs H Q _=>∃ (p:Addr) (ms:List Mv) (st:List Str),vs = [.ref p]∧bR C H p ms st ∧
 (∀ H',au H H'→UfBfs.Told (graph ms) (aQ st) none→Q .non H')∧∀ H' q row,au H H'→UfBfs.Told (graph ms) (aQ st) (some row)→row.length≤5001→H q = none→H' q = some (.lst (av row))→Q (.ref q) H'
theorem dH:aI ["net", "ways", "states", "state", "move"] ["net"] (ai cX):=⟨rfl,rfl,rfl,by decide +kernel,rfl,by decide +kernel,by decide +kernel⟩
theorem oE {f C fS fC fN fR:Addr} {fd fdS fdC fdN fdR:FuncData} (F:eZ K "crowding" "crowding" cX f fd) (CT:iy K C) (DS:eR K C "start" "Net.start" gg ["self"] fS fdS) (GS:aE P w K mg base bQ 1 fS fdS ["self"] (mL C))
  (DC:Def K mg "crowder" dW ["net", "state"] fC fdC) (GC:aE P w K mg base bQ 5 fC fdC ["net", "state"] (lz K C))
  (DN:Def K mg "newly_reached" gW ["net", "states", "ways"] fN fdN) (GN:aE P w K mg base bQ 6 fN fdN ["net", "states", "ways"] (qQ C))
  (DR:Def K mg "row_by_ways" gF ["ways", "state"] fR fdR) (GR:aE P w K mg base bQ 1 fR fdR ["ways", "state"] qL) :
  aE P w K mg base bQ 7 f fd ["net"] (km C):=by
 refine F.ok dH (fun vs H Q E h=>?_) (fun cdv A outer s H vs Q E hr h=>?_)
 ·obtain ⟨p,ms,st,rfl,_⟩:=h
  rfl
 ·obtain ⟨p,ms,st,rfl,N,kn,ks⟩:=h
  have hu:=gm hr
  have hr1:bX 1 _:=hr.mono (by decide)
  have hr5:bX 5 _:=hr.mono (by decide)
  refine ⟨_,ah (aM (i:=1) dH.nd rfl (Or.inl rfl) (lQ hu (fu (pv 0) CT.cl DS.mt GS hr1 DS.bd .nil aX) jl))
   (ah (aM (i:=2) dH.nd rfl (Or.inl rfl) (bZ (aa (fu (pv 0) CT.cl DS.mt GS hr1 DS.bd .nil aX) ag)))
   (ah (iL PassesOwn.never (oU (pv 2) (fun _=>rfl))
    (ah (dZ PassesOwn.never rfl (br (pv 2)) (aA (i:=3) dH.nd rfl (Or.inl rfl))
     (ah (aM (i:=4) dH.nd rfl (Or.inl rfl) (aK GC hr5 rfl DC.mg DC.fn.kp DC.bd .nil aX (aa (pv 0) (aa (pv 3) ag))))
      (aq (cv (gC (mJ (pv 4))) (aq (aJ (aU jj (aK GR hr1 rfl DR.mg DR.fn.kp DR.bd .nil aX (aa (pv 1) (aa (pv 3) ag))) (bZ (aa (pv 4) ag))))) bf))))
    (aq (aM (i:=2) dH.nd rfl (Or.inl rfl) (aK GN hr rfl DN.mg DN.fn.kp DN.bd .nil aX (aa (pv 0) (aa (pv 2) (aa (pv 1) ag))))))))
   (aq (aJ jl)))),?_⟩
  clear hu
  dsimp only [eU,Cx.qB]
  have so:=N.so
  have hsl:=PySem.sizeLine_eq
  intro d nd
  have sd:au H (upd H d (.dT [])):=aj nd
  have N1:=N.same sd
  obtain ⟨dx,aP,aS,aT,aG,kT,kG,h1,_⟩:=N1.at'.ob
  refine ⟨_,rfl,p,dx,_,rfl,h1,dJ _ _ _ _ uQ ub uY vd,p,ms,st,rfl,N1,fun q hq=>?_⟩
  refine ⟨ae,dR (aQ st),q,rfl,(by rw [d7];exact hq),?_⟩
  have nqd:q≠d:=aR hq ae (fun z=>nomatch z)
  have s2:au H (upd (upd H d (.dT [])) d (.dT [(dR (aQ st),V.non)])):=aH sd nd
  have hd2:(upd (upd H d (.dT [])) d (.dT [(dR (aQ st),V.non)])) d = some (.dT [(dR (aQ st),V.non)]):=ae
  have hq2:(upd (upd H d (.dT [])) d (.dT [(dR (aQ st),V.non)])) q = some (.tup (av (aQ st))):=by rw [af nqd];exact hq
  generalize upd (upd H d (.dT [])) d (.dT [(dR (aQ st),V.non)]) = H2 at s2 hd2 hq2 ⊢
  have N2:=N.same s2
  obtain ⟨dx2,aP2,aS2,aT2,aG2,kT2,kG2,h2,_⟩:=N2.at'.ob
  refine ⟨_,rfl,p,dx2,_,rfl,h2,dJ _ _ _ _ uQ ub uY vd,p,ms,st,rfl,N2,fun q' hq'=>⟨by show 1≤sizeLine;lia,fun a na=>?_⟩⟩
  have s3:au H2 (upd H2 a (.lst [.ref q'])):=aj na
  have fs:=iD so
  have hsf:∀ t ∈ [aQ st],fO ms st t:=fun t ht=>by
   have e:t = aQ st:=by simpa using ht
   rw [e]
   exact fs
  have ac0:Acc ms st ([(aQ st,none)],[]):=⟨by simp,hsf,by simp⟩
  refine ⟨fun m σ H4=>∃ (L:Nat) (wy:UfBfs.bO (List Str) Str) (ts:List (List Str)) (a:Addr) (v3 v4:Option V),σ = [some (.ref p),some (.ref d),some (.ref a),v3,v4]∧au H H4∧H a = none∧kE H4 a ts∧iB H4 d wy∧UfBfs.Good (graph ms) (aQ st) L wy ts∧Acc ms st (wy,[])∧(∀ t ∈ ts,fO ms st t)∧(ts≠[]→L + 1≤wy.length)∧m = 2 * (5000 - wy.length) + (if ts = [] then 0 else 1),
   ⟨_,0,[(aQ st,none)],[aQ st],a,none,none,rfl,s2.trans s3,s2.free na,⟨[q'],ae,.cons (s3 _ _ hq') .nil⟩,⟨_,s3 _ _ hd2,.cons ⟨rfl,rfl⟩ .nil⟩,UfBfs.Good.start _ _,ac0,hsf,fun _=>by simp,rfl⟩,?_⟩
  rintro m σ H4 ⟨L,wy,ts,a,v3,v4,rfl,s4,na4,S4,W4,good,ac,hf,hL,em⟩
  obtain ⟨qs,ha4,hp4⟩:=id S4
  refine ⟨_,rfl,_,.inl ⟨_,aY.of ha4,rfl⟩,?_⟩
  have oF:wy.length≤4096:=ac.oF so
  by_cases hts:ts = []
  ·subst hts
   cases hp4
   refine bz ?_
   exact kn H4 s4 good.none
  ·have eq:(!(qs.map V.ref).isEmpty) = true:=by
    cases hp4 with
    | nil=>exact absurd rfl hts
    | cons _ _=>rfl
   rw [eq]
   refine bN ?_
   have hL':=hL hts
   refine ⟨fun σ' H'=>∃ m',m' < m∧∃ (L:Nat) (wy:UfBfs.bO (List Str) Str) (ts:List (List Str)) (a:Addr) (v3 v4:Option V),σ' = [some (.ref p),some (.ref d),some (.ref a),v3,v4]∧au H H'∧H a = none∧kE H' a ts∧iB H' d wy∧UfBfs.Good (graph ms) (aQ st) L wy ts∧Acc ms st (wy,[])∧(∀ t ∈ ts,fO ms st t)∧(ts≠[]→L + 1≤wy.length)∧m' = 2 * (5000 - wy.length) + (if ts = [] then 0 else 1),
    fun σ' H' h=>h,?_⟩
   refine ⟨_,rfl,a,rfl,⟨_,aY.of ha4⟩,cO (K:=K) (a:=a) (xs:=qs.map V.ref) (fun i σ H5=>∃ (v3 v4:Option V),σ = [some (.ref p),some (.ref d),some (.ref a),v3,v4]∧au H4 H5∧∀ u ∈ ts.take i,cU ms u = none)
    ⟨v3,v4,rfl,au.refl _,fun u hu=>by simp at hu⟩ (fun i σ H5 _ ⟨_,_,_,s5,_⟩=>aY.of (s5 _ _ ha4)) ?_ ?_⟩
   ·rintro i v σ H5 hi ⟨v3,v4,rfl,s5,hbad⟩
    obtain ⟨tq,hqi,rfl⟩:=dA hi
    obtain ⟨t,ht,htq⟩:=bp hp4 hqi
    have hmt:t ∈ ts:=List.mem_of_getElem? ht
    have hft:fO ms st t:=hf t hmt
    refine ⟨_,rfl,_,rfl,p,tq,ms,st,t,rfl,N.same (s4.trans s5),cV.of (s5 _ _ htq),by have:=hft.len so;lia,fun H6 s6=>?_⟩
    refine ⟨_,rfl,_,rfl,?_⟩
    cases hc:cU ms t with
    | none =>
     refine bz ?_
     refine ⟨_,_,rfl,s5.trans s6,fun u hu=>?_⟩
     rw [ar ht] at hu
     rcases List.mem_append.mp hu with z | z
     ·exact hbad u z
     ·have e:u = t:=by simpa using z
      rw [e]
      exact hc
    | some x =>
     refine bN ?_
     have s46:=s5.trans s6
     obtain ⟨kvs4,hd4,wp4⟩:=id W4
     refine ⟨_,rfl,_,rfl,d,tq,t,aQ st,wy,graph ms,L,L,ts,rfl,⟨kvs4,s46 _ _ hd4,wp4.cz s46.cz⟩,s46 _ _ htq,good,Nat.le_refl _,by lia,(good.ts t).mp hmt,fun H7 q7 s7 nq7 hq7=>?_⟩
     refine ⟨_,rfl,by show 1≤sizeLine;lia,fun q8 nq8=>?_⟩
     have n78:q7≠q8:=ak hq7 nq8
     have told:=good.some hmt (show (graph ms).bad t = some x from hc)
     obtain ⟨q1,q2⟩:=good.row L t (Nat.le_refl _) ((good.ts t).mp hmt)
     refine ⟨q7,q8,_,_,rfl,rfl,(by rw [af n78];exact hq7),ae,?_,fun q9 nq9=>?_⟩
     ·rw [ao,q2]
      show L + 1≤sizeLine
      lia
     have s8:au H7 (upd H7 q8 (.lst [V.str x])):=aj nq8
     have sA:=(s4.trans s46).trans (s7.trans s8)
     refine ks _ q9 _ (sA.trans (aj nq9)) told (by rw [List.length_append,q2];show L + 1≤5001;lia) (sA.free nq9) ?_
     rw [ae]
     unfold av
     rw [List.map_append]
     rfl
   ·rintro σ H5 ⟨v3,v4,rfl,s5,hbad⟩
    have el:(qs.map V.ref).length = ts.length:=by rw [List.length_map,← Paired.length hp4]
    rw [el,List.take_length] at hbad
    obtain ⟨kvs4,hd4,wp4⟩:=id W4
    refine ⟨_,rfl,_,rfl,_,rfl,p,a,d,ms,st,ts,wy,rfl,N.same (s4.trans s5),⟨qs,s5 _ _ ha4,Paired.dh hp4 fun _ _ e=>s5 _ _ e⟩,⟨kvs4,s5 _ _ hd4,wp4.cz s5.cz⟩,hf,ac,fun H6 q6 b6 nq6 S6 W6 ac6=>?_⟩
    have lv:=UfBfs.lP (graph ms) ts wy
    have gn:=good.next hbad
    have sB:au H H6:=fun c o e=>b6 c o ((s4.trans s5) c o e) (ak e nd)
    have lk:(UfBfs.d3 (graph ms) ts wy).1.length = wy.length + (UfBfs.d3 (graph ms) ts wy).2.length:=by
     have:=congrArg List.length lv.keys
     rw [List.length_append,List.length_map,List.length_map] at this
     exact this
    have few6:=ac6.oF so
    refine ⟨_,?_,L + 1,(UfBfs.d3 (graph ms) ts wy).1,(UfBfs.d3 (graph ms) ts wy).2,q6,_,_,rfl,sB,(s4.trans s5).free nq6,S6,W6,gn,⟨ac6.nd,ac6.fine,Nat.zero_le _⟩,fun t ht=>?_,fun hne=>?_,rfl⟩
    ·rw [em,if_neg hts]
     by_cases h0:(UfBfs.d3 (graph ms) ts wy).2 = []
     ·rw [if_pos h0,lk,h0]
      simp
     ·rw [if_neg h0]
      have:=List.length_pos_iff.mpr h0
      lia
    ·refine ac6.fine t ?_
     rw [lv.keys]
     exact List.mem_append_right _ ht
    ·have:=List.length_pos_iff.mpr hne
     lia
end
end Uf
end
section
namespace L2
open PySem PySem.Spec PyProof.Rows UfX
section
variable {X:Cx}
def vk (K:PySem.W.Frag) (t:TA):TE:=fun σ H Q=>t σ H fun vs H1=>∃ a C N dx r,vs = .ref a :: r∧r.length≤100∧H1 a = some (iu a (.ref C) dx)∧uX K C N∧Q .non H1
structure wu (K:PySem.W.Frag) (B:Addr):Prop where
 sp:PySem.W.specialIn K (.ref B) "__getattribute__" = some (some (.builtin "type.__getattribute__"))
 rd:PySem.W.readsIn K B (.type "type") = true
 fc:PySem.W.findCls K (.ref B) (.type "type") "__init__" = some (.val (.builtin "ValueError.__init__"))
theorem pY {pl:Sem Bool} {x:Str} {B:Addr} {p apos pos:Pos} {e:Expr} {es:List Expr} {t:TA} (hg:Gl X x) (hm:X.mg x = some (.ref B)) (hb:wu X.K B) (ha:PA X (e :: es) t) (hd:(x == ("__debug__" : Str)) = false:=by decide)
  (hst:starEach (e :: es) X.env = (false,eval e X.env) :: starEach es X.env:=by rfl) (hpl:(backTo pos (starEach es X.env)).any (·.1) = false:=by rfl)
  (ht:eval (.Call (.Attribute (.Name x p) "__init__" apos) (e :: es) [] pos) X.env = (do
   let ov ← eval (.Name x p) X.env
   standAt apos.atName
   let (f,first) ← holding [ov] (getMethod ov "__init__" pl)
   callWith pos f first (backTo pos (starEach (e :: es) X.env)) (backToKw pos (keywordEach [] X.env))):=by rfl) :
  PE X (.Call (.Attribute (.Name x p) "__init__" apos) (e :: es) [] pos) (vk X.K t):=by
 intro pins s σ H Q I h
 refine PySem.W.methodCall_KW (pl:=pl) (gZ I hg hm ?_ hd) ht
 refine PySem.W.method_cls I.eV hb.sp (PySem.W.cls_value I.eV hb.rd hb.fc rfl ?_)
 have I1:=I.tok (s.toks + 1)
 have hA:=ha pos pins _ σ H _ I1 h
 dsimp only
 rw [hst] at hA ⊢
 refine Calls.callWith_builtin (by show (false || (backTo pos (starEach es X.env)).any (·.1)) = false;rw [hpl] <;> rfl) (Calls.evalArgs_plain ?_)
 refine bx hA fun us s2 ⟨vs,H2,I2,r2,a,C,N,dx,r,ev,hr,h2,T,q⟩=>?_
 subst ev
 cases r2 with
 | cons r0 rr =>
  obtain rfl:=r0
  have hl:_ = _:=Vals.length rr
  refine p6 I2 h2 T (by rw [← hl,sizeLine_eq];lia) fun s' I'=>⟨.non,H2,I',rfl,q⟩
end
end L2
end
section
namespace L2
open PySem PySem.Spec PyProof.Rows UfX Builtin Builtin.ObjectAttr
def bw:List Value→Bool
 | .ref _ :: r=>bw r
 | l=>l == mq
theorem oH (self:Value):refuseLoop self "__setattr__" mq = pure ():=by kernel_rfl
theorem kD (self:Value):∀ {l:List Value},bw l = true→refuseLoop self "__setattr__" l = pure ()
 | [],e=>by simp [bw] at e
 | .ref c :: r,e=>by rw [refuseLoop_ref];exact kD self e
 | .type n :: r,e=>by rw [beq_iff_eq.mp (show ((.type n :: r:List Value) == mq) = true from e)];exact oH self
 | .none :: r,e=>by simp [bw] at e
 | .ellipsis :: r,e=>by simp [bw] at e
 | .notImplemented :: r,e=>by simp [bw] at e
 | .bool _ :: r,e=>by simp [bw] at e
 | .int _ _ :: r,e=>by simp [bw] at e
 | .float _ _ :: r,e=>by simp [bw] at e
 | .str _ _ :: r,e=>by simp [bw] at e
 | .bytes _ _ :: r,e=>by simp [bw] at e
 | .builtin _ :: r,e=>by simp [bw] at e
theorem rh:∀ {l:List Value},bw l = true→l.contains (.type "object") = true
 | [],e=>by simp [bw] at e
 | .ref c :: r,e=>by rw [List.contains_cons,rh (l:=r) e,Bool.or_true]
 | .type n :: r,e=>by rw [beq_iff_eq.mp (show ((.type n :: r:List Value) == mq) = true from e)];decide
 | .none :: r,e=>by simp [bw] at e
 | .ellipsis :: r,e=>by simp [bw] at e
 | .notImplemented :: r,e=>by simp [bw] at e
 | .bool _ :: r,e=>by simp [bw] at e
 | .int _ _ :: r,e=>by simp [bw] at e
 | .float _ _ :: r,e=>by simp [bw] at e
 | .str _ _ :: r,e=>by simp [bw] at e
 | .bytes _ _ :: r,e=>by simp [bw] at e
 | .builtin _ :: r,e=>by simp [bw] at e
structure wq (K:PySem.W.Frag) (C:Addr) (f:Str):Prop where
 sa:PySem.W.findIn K (.ref C) "__setattr__" = some (some (.builtin "object.__setattr__"))
 mr:((PySem.W.clsIn K C).any fun cd=>bw cd.mro) = true
 tk:PySem.W.takerIn K C f = some none
 hd:PySem.W.hasDictIn K C = true
section
variable {P:Program} {w:World} {A:Around} {K:PySem.W.Frag} {s:Shared} {R:Result→Shared→Prop} {x C:Addr}
theorem xk {ox:Obj} {od:Option Obj} {name:Str} {tk:Tok} {v:Value} (X:K.In s.heap) (J:PySem.W.InstAt s.heap x ox C od) (S:wq K C name)
  (h:∀ b,wpAny (model P w) A.in1 (storeInOwnDict (.ref x) (.ref C) (.str name tk) name v b)
   (fun fin s'=>match fin with | .done f=>R (.ok f) s' | .again c'=>c'.quiet = true∧codeAny (model P w) A c' R s') (fun e s'=>R (.error e) s') s) :
  codeAny (model P w) A (.call (.builtin "object.__setattr__") ⟨[.ref x,.str name tk,v],[]⟩) R s:=by
 have G:=PySem.F.store_object
 obtain ⟨cd,hc,hm⟩:=PySem.W.any_some S.mr
 have ne:cd.mro.isEmpty = false:=by
  cases q:cd.mro with
  | nil=>rw [q] at hm;simp [bw] at hm
  | cons _ _=>rfl
 have isO:PySem.W.Looks (model P w) s.heap (isInstance (.ref x) (.type "object")) true:=J.type.andThen (PySem.W.looks_mroIn X (by
  unfold PySem.W.mroIn
  rw [hc,Option.bind_some,if_neg (by rw [ne];decide),rh hm]))
 refine codeAny_call_builtin G.slot.plain G.entry (@PySem.W.check_slot (model P w) _ _ s "object.__setattr__" "object" "__setattr__" (.ref x) [.str name tk,v] [] _ G.kind G.split isO (G.args (.ref x) (.str name tk) v) ?_)
 obtain ⟨attr,ha,hr⟩:=Option.bind_eq_some_iff.mp S.tk
 have lm:PySem.W.Looks (model P w) s.heap (mroOf (.ref C)) cd.mro:=(PySem.W.looks_clsIn X hc).andThen .now
 have lt:PySem.W.Looks (model P w) s.heap (storeTaker? attr) none:=by
  cases attr with
  | none=>exact .now
  | some a =>
   obtain ⟨b,hb,hbn⟩:=Option.map_eq_some_iff.mp hr
   refine (PySem.W.looks_takesIn X hb).andThen ?_
   cases b with
   | true=>cases hbn
   | false=>exact .now
 rw [PySem.W.osa_eq,refuse_eq]
 refine wpAny_bind (wpAny_bind (J.type.here (wpAny_bind (lm.here ?_))))
 rw [kD _ hm]
 exact wpAny_pure (wpAny_bind (J.type.here (wpAny_bind ((PySem.W.looks_findIn X ha).here (wpAny_bind (lt.here (h _)))))))
end
end L2
end
section
namespace L2
open PySem PySem.Spec PyProof.Rows UfX Builtin Builtin.ObjectAttr
section
variable {X:Cx} {pins:List (Addr × Obj)} {σ:St} {H:Hp} {s:Shared} {A:Around} {E:Value→Shared→Prop}
theorem sY {a C:Addr} {f:Str} {y:V} {u:Value} {Q:Unit→Shared→Prop} (I:Inv X pins σ H s) (ha:H a = some (iu a (.ref C) none)) (S:wq X.K C f) (ry:RelV y u)
  (h:∀ dx s',H dx = none→dx≠a→Inv X pins σ (upd (upd H dx (.xd [(f,y)])) a (iu a (.ref C) (some dx))) s'→Q () s'):wpAny (model X.prog X.w) A (setAttr (.ref a) f u) Q E s:=by
 obtain ⟨oe,vs,t0,he,hcl,hdx,hdt,hv0,hv1⟩ : gx a (.ref C) none s.heap:=(I.hok a _ ha).1
 obtain ⟨oc,odi,oda,osl⟩:=oe
 dsimp only at hcl hdx hdt
 subst hcl hdx hdt
 have J:PySem.W.InstAt s.heap a ⟨.ref C,none,.fields vs,osl⟩ C none:=⟨he,rfl,rfl,True.intro⟩
 obtain ⟨cd,hc,hd⟩:=PySem.W.any_some S.hd
 refine PySem.W.set_plain I.eV J S.sa (xk (s:={ s with toks:=s.toks + 1 }) I.eV J S fun b=>?_)
 refine wpAny_bind (wpAny_pure (wpAny_bind (wpAny_bind (wpAny_loadPart he (wpAny_bind (PySem.W.Looks.here (s:={ s with toks:=s.toks + 1 }) (PySem.W.looks_clsIn I.eV hc) ?_))))))
 rw [hd]
 refine wpAny_bind (wpAny_alloc ?_)
 have e1:(s.heap.push PySem.W.emptyDict).get? a = some ⟨.ref C,none,.fields vs,osl⟩:=Heap.get?_push_of_some _ he
 refine wpAny_bind (wpAny_update e1 ?_)
 have na:s.heap.objs.size≠a:=Nat.ne_of_gt (Heap.lt_size he)
 have e2:(s.heap.push PySem.W.emptyDict).get? s.heap.objs.size = some PySem.W.emptyDict:=Heap.get?_push_size s.heap rfl
 have e3:((s.heap.push PySem.W.emptyDict).update a fun o=>{ o with dict:=some s.heap.objs.size }).get? s.heap.objs.size = some PySem.W.emptyDict:=(Heap.get?_update_other _ _ (Ne.symm na)).trans e2
 have e4:((s.heap.push PySem.W.emptyDict).update a fun o=>{ o with dict:=some s.heap.objs.size }).Ns s.heap.objs.size (fun _=>none):=⟨PySem.W.emptyDict,#[],_,e3,rfl,(fun e he=>absurd he (by simp)),fun _=>rfl⟩
 have e5:((s.heap.push PySem.W.emptyDict).update a fun o=>{ o with dict:=some s.heap.objs.size }).get? a = some ⟨.ref C,some s.heap.objs.size,.fields vs,osl⟩:=Heap.get?_update_self _ e1 rfl
 refine wpAny_pure (a:=some s.heap.objs.size) (wpAny_bind (wpAny_pure (wpAny_bind ?_)))
 refine wpAny_nsSet1 (s:=⟨(s.heap.push PySem.W.emptyDict).update a fun o=>{ o with dict:=some s.heap.objs.size },s.gens,s.drawn,s.toks + 1,s.os⟩) (Heap.Ns1.of_empty e4) fun h' hn2 hs2=>?_
 have hw:PySem.Within (fun _:Str=>(none:Option Value)) []:=fun y hy=>absurd rfl hy
 obtain ⟨oD,esD,epD,hoD,hdD,hcD⟩:=hn2.count (PySem.Within.cons f u hw)
 refine wpAny_bind (wpAny_lookBehind hoD (by rw [hdD];exact pastItsLine_dict (Nat.le_trans hcD (by rw [List.length_cons,sizeLine_eq];simp))) ?_)
 have nf:oD.isFreed = false:=(Heap.get?_some_iff.mp hoD).2
 have I1:=I.laid (a:=s.heap.objs.size) (o:=.xd [(f,y)]) (h':=s.heap.push oD) (t':=s.toks) (fun b q z=>Heap.get?_push_of_some _ z) (Nat.le_refl _) ⟨_,hn2.at fun o z=>by
  rw [hoD] at z
  cases z
  exact Heap.get?_push_size s.heap nf,fun g=>by
   show gc (List.lookup g [(f,y)]) (if g = f then some u else none)
   rw [List.lookup_cons]
   by_cases q:g = f
   ·rw [if_pos q,q,beq_self_eq_true]
    exact ry
   ·rw [if_neg q,show (g == f) = false from by simpa using q]
    exact True.intro⟩
 have h5:h'.get? a = some ⟨.ref C,some s.heap.objs.size,.fields vs,osl⟩:=(hs2.2 a (Ne.symm na)).trans e5
 have I2:=I1.write (x:=a) (e:=a) (o:=iu a (.ref C) (some s.heap.objs.size)) (h':=h') (t':=s.toks + 1 + 1) (by rw [af (Ne.symm na),ha];exact True.intro) (.inl rfl) (fun b q hb z=>by
  have z:(s.heap.push oD).get? b = some q:=z
  by_cases hbd:b = s.heap.objs.size
  ·subst hbd
   rw [Heap.get?_push_size s.heap nf] at z
   cases z
   exact hoD
  ·rw [hs2.2 b hbd,Heap.get?_update_other _ _ (Ne.symm hb)]
   have z2:s.heap.get? b = some q:=by rwa [Heap.get?_push_ne _ _ _ hbd] at z
   exact Heap.get?_push_of_some _ z2) ⟨_,h5⟩ (gx.ok ⟨_,vs,t0,h5,rfl,rfl,rfl,hv0,hv1⟩)
 exact wpAny_pure (h _ _ (I.hok.fresh (Nat.le_refl _)) na I2)
def wR (K:PySem.W.Frag) (te ta:TE) (f:Str):TS:=fun D σ H=>te σ H fun y H1=>ta σ H1 fun x H2=>∃ a C,x = .ref a∧H2 a = some (iu a (.ref C) none)∧wq K C f∧∀ dx,H2 dx = none→dx≠a→D.nx σ (upd (upd H2 dx (.xd [(f,y)])) a (iu a (.ref C) (some dx)))
theorem rR {o value:Expr} {f:Str} {ta tv:TE} {pos pos' : Pos} (ha:PE X o ta) (hv:PE X value tv) (hs:swapsWith value (some (.Attribute o f pos')) pos.line X.env = pure false):PS X (.Assign [.Attribute o f pos'] value pos) (wR X.K tv ta f):=by
 intro pins s σ H D I h
 refine plainObj_wpAny_Assign_Attribute (bx (hv pins s σ H _ I h) fun u s1 hu=>?_) hs
 obtain ⟨y,H1,I1,ry,q⟩:=hu
 refine bx (ha pins s1 σ H1 _ I1 q) fun ov s2 ho=>?_
 obtain ⟨x,H2,I2,rx,a,C,ex,ea,S,q2⟩:=ho
 subst ex
 obtain rfl:ov = Value.ref a:=rx
 exact sY I2 ea S ry fun dx s3 h1 h2 I3=>⟨σ,_,I3,q2 dx h1 h2⟩
end
end L2
end
section
namespace L2
open PySem PySem.Spec PyProof.Rows UfX
section
variable {X:Cx}
end
end L2
end
section
namespace L2
open PySem PySem.Spec PyProof.Rows UfX
theorem pR {K:PySem.W.Frag} {h:Heap} {N:Addr} {m:Str→Option Value} {n:Str} {v:Value} (X:K.In h) (G:h.Ns N m) (e:PySem.W.nsIn K N n = some (some v)):m n = some v:=by
 obtain ⟨o,es,ep,ho,hd,_,hf⟩:=G
 unfold PySem.W.nsIn at e
 split at e
 ·rename_i c d es' n' sl q
  have z:=X _ _ q
  rw [ho] at z
  cases z
  cases hd
  split at e
  ·rename_i en he
   cases e
   rw [← hf]
   unfold nsFind findBy
   rw [← Array.find?_toList,he]
   rfl
  ·split at e <;> cases e
 ·cases e
structure Bp (K:PySem.W.Frag) (C N f:Addr):Prop where
 exc:uX K C N
 ns:PySem.W.nsOkIn K N = true
 ini:PySem.W.nsIn K N "__init__" = some (some (.ref f))
 fn:∃ o,K.lookup f = some o∧o.cls = .type "function"
 kp:PySem.W.keepIn K (.ref C) = true
def yV (C:Addr) (sp:Sp) (dvs:List V) (E:XK) (t:TA):TE:=fun σ H Q=>t σ H fun vs H1=>vs.length≤100∧∀ x,H1 x = none→sp (.ref x :: (vs ++ dvs)) (upd H1 x (iu x (.ref C) none)) (fun v H2=>v = .non∧Q (.ref x) H2) E
section
variable {X:Cx} {CX:pA} {k:Nat} {f C N:Addr} {fd:FuncData} {ps:List Str} {sp:Sp} {dvs:List V} {ds:List Value} {E:XK} {x:Str} {p pos:Pos} {e:Expr} {es:List Expr} {t:TA}
theorem rT {pins:List (Addr × Obj)} {σ:St} {H:Hp} {s:Shared} {Q:VK} {us:List Value} {vs:List V} (M:Bp X.K C N f) (F:aE X.prog X.w X.K X.mg X.base CX k f fd ps sp) (hr:bX (k + 1) X.A) (hb:Binds X.K fd ps ds) (hd:Vals dvs ds)
  (hx:Passes CX X E) (I:Inv X pins σ H s) (r:Vals vs us) (hz:vs.length≤100)
  (h:∀ x,H x = none→sp (.ref x :: (vs ++ dvs)) (upd H x (iu x (.ref C) none)) (fun v H2=>v = .non∧Q (.ref x) H2) E) :
  wpAny (model X.prog X.w) X.A (call (.ref C) us) (EP X pins σ Q) X.xe s:=by
 obtain ⟨cn,cq,bases,tl,hasD,sn,subs,ab,col,cdd,l0,l1,l2,l3,l5,h1,h2⟩:=M.exc.ob
 obtain ⟨oI,hf,hfc⟩:=M.fn
 have KX:=I.eV
 have G:=Heap.Ns.of_isNs (PySem.W.isNs_of_in KX M.ns)
 have hl0:_ = _:=Vals.length r
 obtain ⟨hp,gs,dr,tk,os⟩:=id s
 refine tN (h:=s.heap) (gs:=s.gens) (dr:=s.drawn) (tk:=s.toks) (o:=s.os) PySem.F.excBase_ValueError (PySem.W.tail_of_in KX h2) (KX _ _ h1) G (pR KX G M.ini) (KX _ _ hf) hfc (fun h' a made le=>?_) (by rw [← hl0,sizeLine_eq];lia)
 obtain ⟨t0,he,ht0,htup⟩:=made.there
 have is:gx a (.ref C) none h':=⟨_,_,t0,he,rfl,rfl,rfl,rfl,rfl⟩
 have I2:=I.laid (a:=a) (o:=iu a (.ref C) none) (h':=h') (t':=s.toks) made.keeps le is.ok
 have hq:=h a (I.hok.fresh le)
 have r2:Vals (V.ref a :: (vs ++ dvs)) (Value.ref a :: (us ++ ds)):=.cons rfl (r.append hd)
 have hl:(Value.ref a :: us ++ ds).length = ps.length:=by
  have e:=r2.length
  rw [F.len _ _ _ _ hq] at e
  exact e.symm
 refine wpAny_call (codeAny_mono (F.run _ X.stack _ _ ⟨Value.ref a :: us,[]⟩ (Value.ref a :: (us ++ ds)) _ _ E (hr.make C us []) (I2.wQ.make C us []) (hb _ (Value.ref a :: us) I2.eV hl) r2 hq) fun r s' hq'=>?_)
 cases r with
 | error e=>exact hx pins σ _ _ e s' I2 hq'
 | ok fl =>
  cases fl with
  | ret u =>
   obtain ⟨v,H',I3,rv,ev,q3⟩:=I2.after hq'
   subst ev
   exact ⟨rv,⟨V.ref a,H',I3,rfl,q3⟩⟩
  | next=>exact False.elim hq'
  | brk=>exact False.elim hq'
  | cont=>exact False.elim hq'
theorem vQ (M:Bp X.K C N f) (F:aE X.prog X.w X.K X.mg X.base CX k f fd ps sp) (hr:bX (k + 1) X.A) (hg:Gl X x) (hm:X.mg x = some (.ref C)) (hb:Binds X.K fd ps ds) (hd:Vals dvs ds) (hx:Passes CX X E)
  (ha:PA X (e :: es) t) (hdb:(x == ("__debug__" : Str)) = false:=by decide) (he:starEach (e :: es) X.env = (false,eval e X.env) :: starEach es X.env:=by rfl) (hpl:(backTo pos (starEach es X.env)).any (·.1) = false:=by rfl) :
  PE X (.Call (.Name x p) (e :: es) [] pos) (yV C sp dvs E t):=by
 intro pins s σ H Q I h
 refine wpAny_Call_Name_kw (gZ I hg hm ?_ hdb)
 refine PySem.W.callWith_K (h₀:=X.base) I.ok.mod.kin M.kp (bx (ha pos pins s σ H _ I h) fun us s1 hu=>?_) he hpl
 obtain ⟨vs,H1,I1,r,hz,q⟩:=hu
 exact ⟨I1.eV,rT M F hr hb hd hx I1 r hz q⟩
end
end L2
end
section
namespace L2
open PySem PySem.Spec PyProof.Rows UfX
section
variable {X:Cx} {pins:List (Addr × Obj)} {σ:St} {H:Hp} {s:Shared}
theorem Inv.flew {a:Addr} {hd:Option Addr} {oa:Obj} {va:Array Value} {h' : Heap} (I:Inv X pins σ H s) (st:UfX.Step (g9 X.stack) a hd s.heap h') (ea:s.heap.get? a = some oa) (da:oa.data = .fields va) (ha:H a = none) (na:X.s₀.heap.get? a = none)
  (hh:∀ T,hd = some T→H T = none∧X.s₀.heap.get? T = none∧∃ oT vT,s.heap.get? T = some oT∧oT.data = .fields vT)
  (pa:∀ p ∈ X.pn ++ pins,p.1≠a∧hd≠some p.1) (hex:X.ex = []):Inv X pins σ H { s with heap:=h' }:=by
 have b0:=I.base
 have fr:∀ b o,H b = some o→b ∉ g9 X.stack:=fun b o e hm=>by
  rw [I.jP b hm] at e
  cases e
 have kt:∀ b o u,H b = some o→s.heap.get? b = some u→h'.get? b = some u:=fun b o u e hu =>
  st.keep b u hu (fr b o e) (fun z=>by rw [z,ha] at e;cases e) fun z=>by rw [(hh b z).1] at e;cases e
 have old:∀ b o,X.s₀.heap.get? b = some o→b≠a∧hd≠some b:=fun b o e=>⟨fun z=>(by rw [z,na] at e;cases e),fun z=>(by rw [(hh b z).2.1] at e;cases e)⟩
 have sub:∀ b,b ∈ X.fs→b ∈ g9 X.stack:=fun b hb=>by
  rcases I.ok.stk with e | ⟨e,hf⟩
  ·rw [e];exact hb
  ·rw [e]
   unfold g9
   rw [List.filterMap_cons,hf]
   exact List.mem_cons_of_mem _ hb
 have nf:∀ b o,s.heap.get? b = some o→(∀ vs,o.data≠.fields vs)→b≠a∧hd≠some b:=fun b o e hn=>⟨fun z=>(by
  rw [z,ea] at e
  cases e
  exact hn _ da),fun z=>(by
  obtain ⟨oT,vT,h1,h2⟩:=(hh b z).2.2
  rw [h1] at e
  cases e
  exact hn _ h2)⟩
 have vo:∀ b o,s.heap.get? b = some o→(∀ vs,o.data≠.fields vs)→∃ sl,h'.get? b = some { o with slots:=sl }:=fun b o e hn=>by
  by_cases hm:b ∈ g9 X.stack
  ·exact st.slot b o e hm
  ·exact ⟨o.slots,st.keep b o e hm (nf b o e hn).1 (nf b o e hn).2⟩
 have nL:∀ b o,X.s₀.heap.get? b = some o→b≠X.env.locals:=fun b o e z=>by
  have h1:=Heap.lt_size e
  have h2:=I.ok.above
  rw [z] at h1
  exact absurd (Nat.lt_of_lt_of_le h1 h2) (Nat.lt_irrefl _)
 have cellK:∀ c v,s.heap.IsCell c v→h'.IsCell c v:=fun c v hc=>by
  obtain ⟨o,ho,hd'⟩:=hc
  obtain ⟨sl,h1⟩:=vo c o ho (fun vs z=>by rw [hd'] at z;cases z)
  exact ⟨_,h1,hd'⟩
 refine ⟨I.ok,I.os,I.bare,⟨fun b o e n h1 h2=>?_,fun b o e n h1 h2=>?_,b0.free,fun b o e h2=>?_,b0.cz,b0.frzs,b0.tbls⟩,?_,fun x c e=>?_,I.free,I.freeC,fun p hp=>?_,fun b o e=>(I.hok b o e).jf (fun c u hc hu=>?_) (fun _ z=>z) fun _ _ z=>z,I.len⟩
 ·refine st.keep b o (b0.keep b o e n h1 h2) (fun hm=>?_) (old b o e).1 (old b o e).2
  rcases List.mem_cons.mp (I.kH b hm) with z | z
  ·exact nL b o e z
  ·exact h1 z
 ·obtain ⟨sl,h3⟩:=b0.slot b o e n h1 h2
  obtain ⟨sl2,h4⟩:=st.slot b _ h3 (sub b h1)
  exact ⟨sl2,h4⟩
 ·obtain ⟨o',h3⟩:=b0.there b o e h2
  by_cases hm:b ∈ g9 X.stack
  ·obtain ⟨sl,h4⟩:=st.slot b o' h3 hm
   exact ⟨_,h4⟩
  ·exact ⟨_,st.keep b o' h3 hm (old b o e).1 (old b o e).2⟩
 ·obtain ⟨m,⟨o,es,ep,ho,hd',r⟩,hl⟩:=I.loc
  obtain ⟨sl,h1⟩:=vo _ o ho (fun vs z=>by rw [hd'] at z;cases z)
  refine ⟨m,⟨_,es,ep,h1,hd',r⟩,fun i x v e1 e2 e3=>?_⟩
  obtain ⟨u,ru,hk⟩:=hl i x v e1 e2 e3
  refine ⟨u,ru,?_⟩
  rcases hk with hk | ⟨hk,c,hc1,hc2⟩
  ·exact .inl hk
  ·exact .inr ⟨hk,c,hc1,cellK c _ hc2⟩
 ·obtain ⟨v,hv⟩:=I.cell x c e
  exact ⟨v,cellK c v hv⟩
 ·obtain ⟨h1,h2,h3,h4,h5⟩:=I.pin p hp
  refine ⟨st.keep _ _ h1 (fun hm=>?_) (pa p hp).1 (pa p hp).2,h2,h3,h4,h5⟩
  rcases List.mem_cons.mp (I.kH _ hm) with z | z
  ·exact h3 z
  ·exact h4 z
 ·rcases hc with rfl | hc
  ·exact kt _ _ _ e hu
  ·exact kt _ _ _ hc hu
end
end L2
end
section
namespace UfX
open PySem
section
variable {M:Model} {A:Around} {E:Value→Shared→Prop} {s:Shared} {base:Heap} {env:Env} {outer:List Env} {L e:Addr} {Q:Unit→Shared→Prop}
theorem land {cls a0:Value} {dx hd:Option Addr} (hfr:A.frames = some (env :: outer)) (hl:s.heap.FunFrames base (env :: outer)) (hf:env.frame = some L) (x:Exc s.heap e cls a0 dx hd)
  (k:∀ h' T,Exc h' e cls a0 dx (some T)→s.heap.objs.size≤T→Step ((env :: outer).filterMap (·.frame)) e hd s.heap h'→Q () { s with heap:=h' }):wpAny M A (noteFrame (.ref e) env) (fun _ s'=>wpAny M A (setFlight (.ref e) none) Q E s') E s:=by
 obtain ⟨oe,vs,he,rfl,rfl,hdt,h0,hn,hs⟩:=x
 unfold noteFrame
 simp only [hf]
 cases hd with
 | none =>
  have h1:=hn rfl
  refine wpAny_bind (wpAny_field he hdt h1 ?_)
  rw [if_neg (by decide)]
  exact entry hfr hl hf he hdt (Array.getElem?_eq_some_iff.mp h1).1 h0 k
 | some T =>
  obtain ⟨h1,hTe,oT,ts,hT,hTd,h3⟩:=hs T rfl
  refine wpAny_bind (wpAny_field he hdt h1 ?_)
  rw [if_pos (by simp:(Value.ref T != Value.none) = true)]
  refine wpAny_bind (wpAny_field hT hTd h3 ?_)
  rw [if_neg (by simp [rawInt] : ¬ ((Value.none == rawInt L) = true))]
  refine wpAny_bind (wpAny_setField hT hTd (Array.getElem?_eq_some_iff.mp h3).1 ?_)
  have other:∀ c,c≠T→(s.heap.update T (Obj.mapFields (·.setIfInBounds 3 Value.none))).get? c = s.heap.get? c:=fun _ hc=>Heap.get?_update_other _ _ (Ne.symm hc)
  have nT:∀ b o,s.heap.get? b = some o→(∀ us,o.data≠.fields us)→b≠T:=fun b o hb hnf z=>by
   subst z
   rw [hT] at hb
   cases hb
   exact hnf ts hTd
  refine entry hfr (hl.of_keeps fun b o hb hnf=>⟨o,(other b (nT b o hb hnf)).trans hb,rfl⟩) hf ((other e (Ne.symm hTe)).trans he) hdt (Array.getElem?_eq_some_iff.mp h1).1 h0 fun h' T' x1 x2 x3=>k h' T' x1 ?_ ?_
  ·rwa [Heap.size_after_update] at x2
  ·refine ⟨fun b o hb h1 h2 h3=>x3.keep b o ((other b fun z=>h3 (by rw [z])).trans hb) h1 h2 (fun z=>nomatch z),fun b o hb hm=>?_,?_⟩
   ·obtain ⟨_,o',ho',hn'⟩:=hl.mem hm
    have e' : o' = o:=Option.some.inj (ho'.symm.trans hb)
    subst e'
    exact x3.slot b o' ((other b (nT b o' hb hn')).trans hb) hm
   ·have:=x3.size
    rwa [Heap.size_after_update] at this
theorem again {cls a0:Value} {dx:Option Addr} {T:Addr} {fr:List Addr} (x:Exc s.heap e cls a0 dx (some T)) (hfr:T ∉ fr) (k:∀ h',Exc h' e cls a0 dx (some T)→Step fr e (some T) s.heap h'→Q () { s with heap:=h' }):wpAny M A (setFlight (.ref e) none) Q E s:=by
 obtain ⟨oe,vs,he,rfl,rfl,hdt,h0,hn,hs⟩:=x
 obtain ⟨h1,hTe,oT,ts,hT,hTd,h3⟩:=hs T rfl
 unfold setFlight
 refine wpAny_bind (wpAny_field he hdt h1 ?_)
 rw [if_pos (by simp:(Value.ref T != Value.none) = true)]
 have i3:3 < ts.size:=(Array.getElem?_eq_some_iff.mp h3).1
 refine wpAny_setField hT hTd i3 (k _ ?_ ?_)
 ·refine ⟨oe,vs,(Heap.get?_update_other _ _ hTe).trans he,rfl,rfl,hdt,h0,(fun z=>nomatch z),fun T' z=>?_⟩
  cases z
  exact ⟨h1,hTe,_,_,Heap.get?_update_self _ hT (Obj.isFreed_of_fields (Obj.data_mapFields hTd _)),Obj.data_mapFields hTd _,by simp [i3]⟩
 ·refine ⟨fun b o hb _ _ hb'=>(Heap.get?_update_other _ _ fun z=>hb' (by rw [z])).trans hb,fun b o hb hm=>?_,?_⟩
  ·have ne:T≠b:=fun z=>hfr (by rw [z];exact hm)
   exact ⟨o.slots,(Heap.get?_update_other _ _ ne).trans hb⟩
  ·rw [Heap.size_after_update]
   exact Nat.le_refl _
theorem tj {h:Heap} {gs:Array GenState} {dr:Drawn} {tk:Nat} {o:OsState} {C B N NB:Addr} {oe:Obj} {cn cq bn bq:Str} {bases tl bases' tl' : List Value} {hasD hasD' : Bool} {sn sn' : List Str} {subs subs' : List Value} {ab ab' : Bool} {col col' : Option Bool}
  {cdd cdd' : Option Addr} {l0 l1 l2 l3 l5 m0 m1 m2 m3 m5:Option Value} {nw nw' : String} {R:Bool→Shared→Prop} (hC:h.get? C = some (excClassObj cn cq C N bases tl hasD sn subs ab col cdd l0 l1 l2 l3 l5 nw)) (hB:h.get? B = some (excClassObj bn bq B NB bases' tl' hasD' sn' subs' ab' col' cdd' m0 m1 m2 m3 m5 nw'))
  (he:h.get? e = some oe) (hcl:oe.cls = .ref C) (hbb:tl'.contains (.type "BaseException") = true) (hsub:(Value.ref C :: tl).contains (.ref B) = true) (hq:R true ⟨h,gs,dr,tk,o⟩):wpAny M A (excMatches (.ref e) (.ref B)) R E ⟨h,gs,dr,tk,o⟩:=by
 have hcB:(Value.ref B :: tl').contains (.type "BaseException") = true:=by rw [List.contains_cons,hbb,Bool.or_true]
 have q:=tc_notTuple
 unfold excMatches
 repeat (first | (with_reducible refine wpAny_loadPart_at he ?_;rw [hcl]) | (with_reducible refine wpAny_loadPart_at hB ?_) | (with_reducible refine wpAny_isSubtype_exc hB ?_;rw [hcB]) | (with_reducible refine wpAny_isSubtype_exc hC ?_;rw [hsub]) | wp_step)
 exact hq
end
end UfX
end
section
namespace L2
open PySem PySem.Spec PyProof.Rows UfX
def eJ (a:Addr) (cls:Value) (dx:Option Addr) (h:Heap):Prop:=∃ oe vs,h.get? a = some oe∧oe.cls = cls∧oe.dict = dx∧oe.data = .fields vs
def cS (a:Addr) (cls:Value) (dx:Option Addr):HO:=.ext (eJ a cls dx)
theorem eJ.ok {P:Program} {w:World} {H:Hp} {h:Heap} {a:Addr} {cls:Value} {dx:Option Addr} (x:eJ a cls dx h):bo P w H h a (cS a cls dx):=by
 refine ⟨x,?_,fun h1 h2 y k=>?_⟩
 ·obtain ⟨oe,_,e,_⟩:=x
  exact ⟨oe,e⟩
 ·obtain ⟨oe,vs,e,r⟩:=y
  exact ⟨oe,vs,k _ e,r⟩
section
variable {X:Cx} {pins:List (Addr × Obj)} {σ:St} {H:Hp} {s:Shared}
theorem Inv.AR {a:Addr} {φ:Heap→Prop} (I:Inv X pins σ H s) (ha:H a = none) (na:X.s₀.heap.get? a = none) (aL:a≠X.env.locals) (aC:∀ x c,X.env.cells.lookup x = some c→c≠a) (aP:∀ p ∈ X.pn ++ pins,p.1≠a)
  (ok:bo X.prog X.w (upd H a (.ext φ)) s.heap a (.ext φ)):Inv X pins σ (upd H a (.ext φ)) s:=by
 have b0:=I.base
 have up:∀ b o,H b = some o→upd H a (.ext φ) b = some o:=fun b o e=>by
  rw [af (fun z=>by rw [z,ha] at e;cases e)]
  exact e
 refine ⟨I.ok,I.os,I.bare,⟨b0.keep,b0.slot,fun b o h1 h2 h3=>?_,b0.there,fun b xs h=>up _ _ (b0.cz b xs h),fun b o u h=>up _ _ (b0.frzs b o u h),fun b ps h=>?_⟩,I.loc,I.cell,?_,fun x c h=>?_,fun p hp=>?_,fun b o h=>?_,I.len⟩
 ·rw [af (fun z=>by rw [z,na] at h1;cases h1)]
  exact b0.free b o h1 h2 h3
 ·obtain ⟨more,h2⟩:=b0.tbls b ps h
  exact ⟨more,up _ _ h2⟩
 ·rw [af (Ne.symm aL)]
  exact I.free
 ·rw [af (aC x c h)]
  exact I.freeC x c h
 ·obtain ⟨h1,h2,h3⟩:=I.pin p hp
  refine ⟨h1,?_,h3⟩
  rw [af (aP p hp)]
  exact h2
 ·by_cases z:b = a
  ·subst z
   rw [ae] at h
   cases h
   exact ok
  ·rw [af z] at h
   exact (I.hok b o h).jf (fun _ _ _ q=>q) (fun c hc=>up _ _ hc) fun c xs hc=>up _ _ hc
theorem tK {M:Model} {A:Around} {E:Value→Shared→Prop} {i:Nat} {x:Str} {v:V} {Q:Unit→Shared→Prop} (I:Inv X pins (σ.set i (some v)) H s) (hN:X.N.Nodup) (hi:X.N[i]? = some x) (hk:X.env.scope.names.lookup x = some .local) (hz:i < σ.length)
  (h:∀ s',Inv X pins (σ.set i none) H s'→Q () s'):wpAny M A (unbindName X.env x) Q E s:=by
 obtain ⟨m,hn,hl⟩:=id I.loc
 have uK:=I.uK
 obtain ⟨u,_,hu⟩:=hl i x v hi (by rw [List.getElem?_set_self hz]) (.inl hk)
 have hm:m x = some u:=by
  rcases hu with ⟨_,e⟩ | ⟨k,_⟩
  ·exact e
  ·have k' : X.env.scope.names.lookup x = some .cell∨X.env.scope.names.lookup x = some .free:=k
   rw [hk] at k'
   rcases k' with k' | k' <;> cases k'
 refine wpAny_unbindName_local hk hn hm (by rw [I.ok.kind];rfl) fun h' uu hn' hs=>h _ ?_
 have low:∀ b o,X.s₀.heap.get? b = some o→b≠X.env.locals:=fun b o e=>Nat.ne_of_lt (Nat.lt_of_lt_of_le (Heap.lt_size e) I.ok.above)
 obtain ⟨oL,_,_,hoL,_⟩:=id hn
 refine ⟨I.ok,I.os,I.bare,⟨fun b o e n hb hx=>?_,fun b o e n hb hx=>?_,I.base.free,fun b o e hx=>?_,I.base.cz,I.base.frzs,I.base.tbls⟩,⟨_,hn',fun j y v' e1 e2 e3=>?_⟩,fun y c e=>?_,I.free,I.freeC,fun p hp=>?_,fun b ob e=>(I.hok b ob e).jf (fun c w' hc q=>(hs.2 c ?_).trans q) (fun _ q=>q) fun _ _ q=>q,?_⟩
 ·exact (hs.2 b (low b o e)).trans (I.base.keep b o e n hb hx)
 ·obtain ⟨sl,e1⟩:=I.base.slot b o e n hb hx
  exact ⟨sl,(hs.2 b (low b o e)).trans e1⟩
 ·obtain ⟨o',e1⟩:=I.base.there b o e hx
  exact ⟨o',(hs.2 b (low b o e)).trans e1⟩
 ·by_cases hj:j = i
  ·subst hj
   rw [List.getElem?_set_self hz] at e2
   cases e2
  ·rw [List.getElem?_set_ne (Ne.symm hj)] at e2
   obtain ⟨u',r',q⟩:=hl j y v' e1 (by rw [List.getElem?_set_ne (Ne.symm hj)];exact e2) e3
   refine ⟨u',r',?_⟩
   rcases q with ⟨k,e⟩ | ⟨k,c,e,z⟩
   ·refine .inl ⟨k,?_⟩
    have:y≠x:=fun e=>hj (ku hN e1 (e ▸ hi))
    simp [this,e]
   ·exact .inr ⟨k,c,e,z.sameBut hs (uK y c e)⟩
 ·obtain ⟨w',z⟩:=I.cell y c e
  exact ⟨w',z.sameBut hs (uK y c e)⟩
 ·obtain ⟨h1,h2,h3,h4⟩:=I.pin p hp
  exact ⟨(hs.2 _ h3).trans h1,h2,h3,h4⟩
 ·rintro rfl
  rcases hc with z | hc
  ·rw [← z,I.free] at e;cases e
  ·rw [I.free] at hc;cases hc
 ·have:=I.len
  rw [List.length_set] at this ⊢
  exact this
end
end L2
end
section
namespace L2
open PySem PySem.Spec PyProof.Rows UfX
abbrev Cx.held (X:Cx) (a:Addr):Cx:={ X with A:=X.A.mark (some (.ref a)),calm:=false,xe:=fun _ _=>False }
theorem Cx.Ok.held {X:Cx} (ok:X.Ok) (a:Addr):(X.held a).Ok :=
 ⟨ok.mod,ok.kind,ok.glob,ok.blt,ok.above,ok.inj,ok.has,ok.cab,(fun z=>nomatch z),ok.frames,ok.stk,ok.exf,ok.bs,ok.bsz,ok.noex,ok.exfs,ok.ic,ok.frf⟩
def xq (X:Cx) (pins:List (Addr × Obj)) (D:Ends) (hs:List ExceptHandler):Value→Shared→Prop:=fun e s1=>wpAny (model X.prog X.w) X.A (noteFrame e X.env) (fun _ s2=>wpAny (model X.prog X.w) X.A (setFlight e none) (fun _ s3 =>
 wpAny (model X.prog X.w) X.A (handleBy e X.env hs) (SP X pins D) X.xe s3) X.xe s2) X.xe s1
abbrev Cx.ie (X:Cx) (pins:List (Addr × Obj)) (D:Ends) (hs:List ExceptHandler):Cx:={ X with pn:=X.pn ++ pins,xe:=xq X pins D hs }
section
variable {X:Cx} {pins pins' : List (Addr × Obj)} {σ:St} {H:Hp} {s:Shared} {a:Addr} {D:Ends} {hs:List ExceptHandler}
theorem Inv.held (I:Inv X pins σ H s) (a:Addr):Inv (X.held a) pins σ H s:=⟨I.ok.held a,I.os,I.bare,I.base,I.loc,I.cell,I.free,I.freeC,I.pin,I.hok,I.len⟩
theorem Inv.mK (I:Inv (X.held a) pins σ H s) (ok:X.Ok):Inv X pins σ H s:=⟨ok,I.os,I.bare,I.base,I.loc,I.cell,I.free,I.freeC,I.pin,I.hok,I.len⟩
theorem Cx.Ok.ie (ok:X.Ok):(X.ie pins D hs).Ok:=⟨ok.mod,ok.kind,ok.glob,ok.blt,ok.above,ok.inj,ok.has,ok.cab,ok.hd,ok.frames,ok.stk,ok.exf,ok.bs,ok.bsz,ok.noex,ok.exfs,ok.ic,ok.frf⟩
theorem Cx.Ok.fQ (ok:(X.ie pins D hs).Ok):X.Ok:=⟨ok.mod,ok.kind,ok.glob,ok.blt,ok.above,ok.inj,ok.has,ok.cab,ok.hd,ok.frames,ok.stk,ok.exf,ok.bs,ok.bsz,ok.noex,ok.exfs,ok.ic,ok.frf⟩
theorem Inv.ie (I:Inv X pins σ H s):Inv (X.ie pins D hs) [] σ H s:=⟨I.ok.ie,I.os,I.bare,I.base,I.loc,I.cell,I.free,I.freeC,(fun p hp=>I.pin p (by rwa [List.append_nil] at hp)),I.hok,I.len⟩
theorem Inv.fQ (I:Inv (X.ie pins D hs) pins' σ H s):Inv X pins σ H s:=⟨I.ok.fQ,I.os,I.bare,I.base,I.loc,I.cell,I.free,I.freeC,(fun p hp=>I.pin p (List.mem_append_left _ hp)),I.hok,I.len⟩
structure qe (K:PySem.W.Frag) (C B:Addr):Prop where
 c:∃ cn cq N bases tl hasD sn subs ab col cdd l0 l1 l2 l3 l5 nw,K.lookup C = some (excClassObj cn cq C N bases tl hasD sn subs ab col cdd l0 l1 l2 l3 l5 nw)∧(Value.ref C :: tl).contains (.ref B) = true
 b:wg K B
abbrev ly (i:Nat) (D:Ends):Ends:={ nx:=fun σ H=>D.nx (σ.set i none) H,rt:=D.rt,bk:=fun σ H=>D.bk (σ.set i none) H,ct:=fun σ H=>D.ct (σ.set i none) H }
end
end L2
end
section
namespace L2
open PySem PySem.Spec PyProof.Rows UfX
section
variable {X:Cx} {pins:List (Addr × Obj)} {D:Ends} {B:Addr} {i:Nat} {n cn:Str} {np hpos:Pos} {b0:Stmt} {suite:List Stmt} {th:Addr→TS}
theorem yY {body:List Stmt} {tb:Ends→TS} {pos:Pos} (hb:∀ (D:Ends) (pins:List (Addr × Obj)),nv (X.ie pins D [.ExceptHandler (some (.Name cn np)) (some n) (b0 :: suite) hpos]) body (tb D)) :
  PS X (.Try body [.ExceptHandler (some (.Name cn np)) (some n) (b0 :: suite) hpos] [] [] pos) (fun D σ H=>tb D D σ H):=by
 intro pins s σ H D I h
 rw [arm_exec_Try]
 refine wpAny_bind (wpAny_standAt (wpAny_tryStmt_except ?_))
 refine wpAny_mono (hb D pins [] s σ H D I.ie h) (fun f s1 hf=>?_) fun _ _ z=>z
 cases f with
 | next=>obtain ⟨σ',H5,K1,z⟩:=hf;exact wpAny_pure ⟨σ',H5,K1.fQ,z⟩
 | brk=>obtain ⟨σ',H5,K1,z⟩:=hf;exact ⟨σ',H5,K1.fQ,z⟩
 | cont=>obtain ⟨σ',H5,K1,z⟩:=hf;exact ⟨σ',H5,K1.fQ,z⟩
 | ret u=>obtain ⟨v,σ',H5,K1,rv,z⟩:=hf;exact ⟨v,σ',H5,K1.fQ,rv,z⟩
end
end L2
end
section
namespace L2
open PySem PySem.Spec PyProof.Rows UfX
section
variable {P:Program} {w:World} {A:Around} {E:Value→Shared→Prop} {h:Heap} {gs:Array GenState} {dr:Drawn} {tk:Nat} {o:OsState} {K:PySem.W.Frag} {x C:Addr} {ox:Obj} {od:Option Obj} {name:Str} {expr fill:Bool} {Q:Value→Shared→Prop}
theorem tm {t:Tok} {v:Value} (X:K.In h) (J:PySem.W.InstAt h x ox C od) (hga:PySem.W.findIn K (.ref C) "__getattribute__" = some (some (.builtin "BaseException.__getattribute__"))) (hgn:PySem.W.findIn K (.ref C) "__getattr__" = some none)
  (k:codeAny (model P w) A (.call (.builtin "BaseException.__getattribute__") ⟨[.ref x,.str name t],[]⟩) (fun r s'=>∃ u,r = .ok (.ret u)∧PySem.W.handedIn u = true∧Q u s') ⟨h,gs,dr,tk,o⟩) :
  wpAny (model P w) A (getAttrBy (.ref x) (.str name t) fill expr) Q E ⟨h,gs,dr,tk,o⟩:=by
 have L0:=J.type (M:=model P w)
 have L1:=PySem.W.looks_findIn (M:=model P w) X hga
 have L2:=PySem.W.looks_findIn (M:=model P w) X hgn
 have f3:=PySem.F.attrBase_ValueError.ga.bind (.ref x)
 have g0:(expr && onTheHeap (Value.builtin "BaseException.__getattribute__")) = false:=by cases expr <;> rfl
 have g2:(Value.builtin "BaseException.__getattribute__" == Value.builtin "object.__getattribute__") = false:=by decide +kernel
 have g1:(onTheHeap (Value.ref C) && Value.builtin "BaseException.__getattribute__" == Value.builtin "object.__getattribute__") = false:=by rw [g2];rfl
 repeat (any_goals (first | assumption | (with_reducible refine L0.at ?_) | (with_reducible refine L1.at ?_) | (with_reducible refine L2.at ?_) | wp_step))
 refine codeAny_mono k fun r s' hr=>?_
 obtain ⟨u,rfl,hu,q⟩:=hr
 show wpAny _ _ (handedOut u) _ _ _
 rw [PySem.W.handedOut_of hu]
 exact wpAny_pure q
theorem uM {t:Tok} {v:Value} {R:Result→Shared→Prop} (X:K.In h) (J:PySem.W.InstAt h x ox C od) (hm:PySem.W.mroIn K C (.type "BaseException") = some true) (hf:PySem.W.findObj K C od name = some (.value v)) (q:R (.ok (.ret v)) ⟨h,gs,dr,tk,o⟩) :
  codeAny (model P w) A (.call (.builtin "BaseException.__getattribute__") ⟨[.ref x,.str name t],[]⟩) R ⟨h,gs,dr,tk,o⟩:=by
 have L0:=J.type (M:=model P w)
 have L1:=PySem.W.looks_find (M:=model P w) X J hf
 have isB:PySem.W.Looks (model P w) h (isInstance (.ref x) (.type "BaseException")) true:=J.type.andThen (PySem.W.looks_mroIn X hm)
 refine codeAny_call_builtin PySem.F.attrBase_ValueError.ga.plain PySem.F.entry_bexc_ga (@PySem.W.check_slot (model P w) _ _ ⟨h,gs,dr,tk,o⟩ "BaseException.__getattribute__" "BaseException" "__getattribute__" (.ref x) [.str name t] [] _ (by decide +kernel) (by decide +kernel) isB (PySem.F.args_bexc_ga (.ref x) (.str name t)) ?_)
 unfold Builtin.«object.__getattribute__»
 repeat (any_goals (first | assumption | (with_reducible refine L0.at ?_) | (with_reducible refine L1.at ?_) | wp_step))
end
end L2
end
section
namespace L2
open PySem PySem.Spec PyProof.Rows UfX
structure zq (K:PySem.W.Frag) (C:Addr) (f:Str):Prop where
 ga:PySem.W.findIn K (.ref C) "__getattribute__" = some (some (.builtin "BaseException.__getattribute__"))
 gn:PySem.W.findIn K (.ref C) "__getattr__" = some none
 hm:PySem.W.mroIn K C (.type "BaseException") = some true
 hd:PySem.W.hasDictIn K C = true
 no:PySem.W.findIn K (.ref C) f = some none
section
variable {X:Cx} {pins:List (Addr × Obj)} {σ:St} {H:Hp} {s:Shared} {A:Around} {E:Value→Shared→Prop}
end
section
variable {X:Cx}
end
end L2
end
section
namespace L2
open PySem PySem.Spec PyProof.Rows UfX
section
variable {X:Cx} {pins:List (Addr × Obj)} {σ:St} {H:Hp} {s:Shared} {A:Around} {E:Value→Shared→Prop}
theorem o7 {a C dx r:Addr} {f:Str} {fs:List (Str × V)} {expr:Bool} {Q:Value→Shared→Prop} (I:Inv X pins σ H s) (ha:H a = some (cS a (.ref C) (some dx))) (hx:H dx = some (.xd fs)) (G:zq X.K C f) (hl:fs.lookup f = some (.ref r))
  (h:∀ s',Inv X pins σ H s'→Q (.ref r) s'):wpAny (model X.prog X.w) A (getAttr (.ref a) f expr) Q E s:=by
 obtain ⟨oe,vs,he,hcl,hdx,hdt⟩ : eJ a (.ref C) (some dx) s.heap:=(I.hok a _ ha).1
 obtain ⟨mA,hn,hr⟩ : ∃ mA,s.heap.Ns1 dx mA∧∀ f,gc (fs.lookup f) (mA f):=I.hok dx _ hx
 have q0:=hr f
 rw [hl] at q0
 have hm:mA f = some (.ref r):=by
  cases q:mA f with
  | none=>rw [q] at q0;exact False.elim q0
  | some u =>
   rw [q] at q0
   have e:u = Value.ref r:=q0
   rw [e]
 obtain ⟨od,ho,hlk⟩:=jg hn
 obtain ⟨oc,odi,oda,osl⟩:=oe
 dsimp only at hcl hdx hdt
 subst hcl hdx hdt
 have J:PySem.W.InstAt s.heap a ⟨.ref C,some dx,.fields vs,osl⟩ C (some od):=⟨he,rfl,rfl,ho⟩
 have hf:=PySem.W.findObj_own (K:=X.K) (C:=C) (name:=f) (od:=od) (v:=.ref r) G.hd G.no rfl (by rw [hlk,hm])
 obtain ⟨hh,g,d,tk,os⟩:=s
 unfold getAttr
 refine wpAny_bind (wpAny_mkText ?_)
 exact tm (v:=.ref r) I.eV J G.ga G.gn (uM I.eV J G.hm hf ⟨_,rfl,rfl,h _ (I.tok _)⟩)
end
section
variable {X:Cx}
def uv (K:PySem.W.Frag) (ta:TE) (f:Str):TE:=fun σ H Q=>ta σ H fun x H1=>∃ a C dx fs r,x = .ref a∧H1 a = some (cS a (.ref C) (some dx))∧H1 dx = some (.xd fs)∧zq K C f∧fs.lookup f = some (.ref r)∧Q (.ref r) H1
theorem pD {e:Expr} {f:Str} {ta:TE} {pos:Pos} (he:PE X e ta) (hb:attributeBase e f X.env (eval e X.env) = eval e X.env):PE X (.Attribute e f pos) (uv X.K ta f):=by
 intro pins s σ H Q I h
 refine rm hb (bx (he pins s σ H _ I h) fun u s1 hu=>?_)
 obtain ⟨x,H1,I1,rx,a,C,dx,fs,r,ex,ea,ed,G,hl,q⟩:=hu
 subst ex
 obtain rfl:u = Value.ref a:=rx
 exact o7 I1 ea ed G hl fun s2 I2=>⟨.ref r,H1,I2,rfl,q⟩
end
theorem jD {n:Nat} : ∀ (ts:List Str) (k:Nat) (acc:Str),(∀ t ∈ ts,t.length≤n)→(PySem.textFrom k acc ts).length≤acc.length + (n + 2) * ts.length
 | [],k,acc,_=>by simp [PySem.textFrom]
 | t :: ts,k,acc,h=>by
  have h1:=jD ts (k + 1) (acc ++ (if k > 0 then ", " else "" : String) ++ t) fun x hx=>h x (List.mem_cons_of_mem _ hx)
  have h2:=h t (List.mem_cons_self ..)
  have h3:(Str.ofString (if k > 0 then ", " else "")).length≤2:=by split <;> decide
  unfold PySem.textFrom
  rw [strLen_append,strLen_append] at h1
  rw [List.length_cons,Nat.mul_succ]
  lia
end L2
end
section
namespace L2
open PySem PySem.Spec PyProof.Rows UfX Uf PySem.StrLaws
section
variable {X:Cx}
def zw (A:Around) (te:TE):TE:=fun σ H Q=>te σ H fun v H1=>∃ a xs,v = .ref a∧H1 a = some (.lst (av xs))∧xs≠[]∧(∀ x ∈ xs,x.length≤8∧∀ c ∈ x.cps.toList,c < 16 ^ 8)∧xs.length≤10000∧A.guards = some []∧A.units < cLine∧∀ y,Q (.str y) H1
theorem mw:∀ {xs:List Str} {its:List Value},Vals (av xs) its→∀ (i:Nat) (y:Value),its[i]? = some y→∃ x t,xs[i]? = some x∧y = .str x t
 | [],_,.nil,i,y,h=>by simp at h
 | x :: xs,u :: us,.cons r rs,0,y,h=>by
  obtain ⟨t,e⟩:=(show ∃ t,u = Value.str x t from r)
  have e2:u = y:=by simpa using h
  exact ⟨x,t,rfl,by rw [← e2,e]⟩
 | x :: xs,u :: us,.cons r rs,i + 1,y,h=>by
  have h2:us[i]? = some y:=by simpa using h
  obtain ⟨z,t,e1,e2⟩:=mw rs i y h2
  exact ⟨z,t,by simpa using e1,e2⟩
theorem vZ {c1:Str} {j1 p1 p2 pos} {e:Expr} {te:TE} (he:PE X e te) (h1:c1.length≤100:=by decide) :
  PE X (.JoinedStr [.Constant (.str c1) j1 p1,.FormattedValue e 114 none p2] pos) (zw X.A te):=by
 intro pins s σ H Q I h
 refine wpAny_JoinedStr ?_
 refine Calls.Constant_str ⟨c1,_,rfl,by rw [strLen_append,sizeLine_eq];show 0 + c1.length≤_;lia,?_⟩
 refine wpAny_FormattedValue_repr (bx (he pins _ σ H _ (I.tok _) h) fun u s1 hu=>?_)
 obtain ⟨v,H1,I1,rv,a,xs,rfl,ha,hne,hx,hl,hg,hun,q⟩:=hu
 obtain rfl:u = Value.ref a:=rv
 obtain ⟨z,its,n,r,hlen,eo⟩:=I1.qg ha
 have lts:its.length = xs.length:=by rw [← hlen];unfold av;rw [List.length_map]
 obtain ⟨y0,l0,rfl⟩ : ∃ y0 l0,its = y0 :: l0:=by
  cases its with
  | nil=>exact absurd (List.length_eq_zero_iff.mp lts.symm) hne
  | cons y0 l0=>exact ⟨y0,l0,rfl⟩
 have rl:∀ t ∈ xs.map reprText,t.length≤82:=fun t ht=>by
  obtain ⟨x,hx1,rfl⟩:=List.mem_map.mp ht
  have:=reprText_len x (hx x hx1).2
  have:=(hx x hx1).1
  lia
 have big:(listText (xs.map reprText)).length≤900000:=by
  unfold listText
  have:=jD (n:=82) (xs.map reprText) 0 "[" rl
  rw [List.length_map] at this
  rw [strLen_append]
  have e1:("[" : Str).length = 1:=by decide
  have e2:("]" : Str).length = 1:=by decide
  have e3:(82 + 2) * xs.length≤(82 + 2) * 10000:=Nat.mul_le_mul_left _ hl
  lia
 refine wpAny_pyReprObj_list (ts:=xs.map reprText) (x:=y0) (l:=l0) (g:=[]) ⟨_,eo,rfl⟩ hg (fun v rest kw hm=>by simp at hm) hun eo rfl (by rw [List.length_map,List.size_toArray];lia) (fun i y hy=>?_) (fun h' u tk hk=>?_) (by rw [sizeLine_eq];lia)
 ·rw [List.getElem?_toArray] at hy
  obtain ⟨x,t,e1,rfl⟩:=mw r i y hy
  refine ⟨reprText x,by rw [List.getElem?_map,e1];rfl,ReprIs.str x t (by rw [sizeLine_eq];have:=rl (reprText x) (List.mem_map.mpr ⟨x,List.mem_of_getElem? e1,rfl⟩);lia)⟩
 ·have I2:Inv X pins σ H1 { s1 with heap:=h',toks:=tk }:=I1.kept hk
  have ln:((Str.empty ++ c1) ++ listText (xs.map reprText)).length≤sizeLine:=by
   rw [strLen_append,strLen_append,sizeLine_eq]
   show 0 + c1.length + _≤_
   lia
  refine wpAny_formatField_str ⟨_,_,rfl,ln,ln,?_⟩ ⟨_,_,rfl,ln,ln,?_⟩ (by rw [sizeLine_eq];lia)
  ·exact ⟨.str _,H1,I2.tok _,⟨_,rfl⟩,q _⟩
  ·exact ⟨.str _,H1,I2.tok _,⟨_,rfl⟩,q _⟩
end
end L2
end
section
namespace L2
open PySem PySem.Spec PyProof.Rows UfX
section
variable {P:Program} {w:World} {A:Around} {E:Value→Shared→Prop} {h:Heap} {gs:Array GenState} {dr:Drawn} {tk:Nat} {o:OsState} {K:PySem.W.Frag} {x C:Addr} {ox:Obj} {od:Option Obj}
theorem sZ {t:Tok} {R:Result→Shared→Prop} (X:K.In h) (J:PySem.W.InstAt h x ox C od) (hm:PySem.W.mroIn K C (.type "BaseException") = some true) (ho:PySem.W.mroIn K C (.type "object") = some true)
  (hf:PySem.W.findObj K C od "__class__" = some (.bind (.builtin "getset_descriptor.__get__") (.builtin "object.__class__"))) (q:R (.ok (.ret (.ref C))) ⟨h,gs,dr,tk,o⟩) :
  codeAny (model P w) A (.call (.builtin "BaseException.__getattribute__") ⟨[.ref x,.str "__class__" t],[]⟩) R ⟨h,gs,dr,tk,o⟩:=by
 have L0:=J.type (M:=model P w)
 have L1:=PySem.W.looks_find (M:=model P w) X J hf
 have isB:PySem.W.Looks (model P w) h (isInstance (.ref x) (.type "BaseException")) true:=J.type.andThen (PySem.W.looks_mroIn X hm)
 refine codeAny_call_builtin PySem.F.attrBase_ValueError.ga.plain PySem.F.entry_bexc_ga (@PySem.W.check_slot (model P w) _ _ ⟨h,gs,dr,tk,o⟩ "BaseException.__getattribute__" "BaseException" "__getattribute__" (.ref x) [.str "__class__" t] [] _ (by decide +kernel) (by decide +kernel) isB (PySem.F.args_bexc_ga (.ref x) (.str "__class__" t)) ?_)
 unfold Builtin.«object.__getattribute__»
 repeat (any_goals (first | assumption | (with_reducible refine L0.at ?_) | (with_reducible refine L1.at ?_) | wp_step))
 exact PySem.W.class_get (s:=⟨h,gs,dr,tk,o⟩) (ox:=ox) (od:=od) X J ho (wpAny_pure q)
theorem qp {t:Tok} {Q:Option Value→Shared→Prop} {name:Str} (X:K.In h) (J:PySem.W.InstAt h x ox C od) (hga:PySem.W.findIn K (.ref C) "__getattribute__" = some (some (.builtin "BaseException.__getattribute__"))) (hgn:PySem.W.findIn K (.ref C) "__getattr__" = some none)
  (k:codeAny (model P w) A (.call (.builtin "BaseException.__getattribute__") ⟨[.ref x,.str name t],[]⟩) (fun r s'=>∃ u,r = .ok (.ret u)∧PySem.W.handedIn u = true∧Q (some u) s') ⟨h,gs,dr,tk,o⟩) :
  wpAny (model P w) A (getAttrBy? (.ref x) (.str name t)) Q E ⟨h,gs,dr,tk,o⟩:=by
 have L0:=J.type (M:=model P w)
 have L1:=PySem.W.looks_findIn (M:=model P w) X hga
 have L2:=PySem.W.looks_findIn (M:=model P w) X hgn
 have f3:=PySem.F.attrBase_ValueError.ga.bind (.ref x)
 have g2:(Value.builtin "BaseException.__getattribute__" == Value.builtin "object.__getattribute__") = false:=by decide +kernel
 have g1:(onTheHeap (Value.ref C) && Value.builtin "BaseException.__getattribute__" == Value.builtin "object.__getattribute__") = false:=by rw [g2];rfl
 unfold getAttrBy?
 repeat (any_goals (first | assumption | (with_reducible refine L0.at ?_) | (with_reducible refine L1.at ?_) | (with_reducible refine L2.at ?_) | wp_step))
 refine codeAny_mono k fun r s' hr=>?_
 obtain ⟨u,rfl,hu,q⟩:=hr
 show wpAny _ _ (handedOut u) _ _ _
 rw [PySem.W.handedOut_of hu]
 exact wpAny_pure (wpAny_pure q)
end
structure sN (K:PySem.W.Frag) (C:Addr):Prop where
 ga:PySem.W.findIn K (.ref C) "__getattribute__" = some (some (.builtin "BaseException.__getattribute__"))
 gn:PySem.W.findIn K (.ref C) "__getattr__" = some none
 hm:PySem.W.mroIn K C (.type "BaseException") = some true
 ho:PySem.W.mroIn K C (.type "object") = some true
 hd:PySem.W.hasDictIn K C = true
 cl:PySem.W.findIn K (.ref C) "__class__" = some (some (.builtin "object.__class__"))
 gt:PySem.W.specialIn K (.builtin "object.__class__") "__get__" = some (some (.builtin "getset_descriptor.__get__"))
 tk:PySem.W.takesIn K (.builtin "object.__class__") = some true
theorem n9 {K:PySem.W.Frag} {x C:Addr} {ox od:Obj} (G:sN K C):PySem.W.KitX K (.ref x) (.ref C) (fun h=>PySem.W.InstAt h x ox C (some od)) where
 ty:=fun _ _ _ J=>J.type
 it:=fun _ _ X _=>by
  obtain ⟨cd,hc,_⟩:=PySem.W.any_some G.hd
  unfold PySem.W.clsIn at hc
  split at hc
  ·rename_i c' d' cd' sl' lo
   intro A' Q' E' s' k q
   unfold isType loadHead
   exact wpAny_bind (wpAny_loadPart (k _ _ (X _ _ lo)) (wpAny_pure q))
  ·cases hc
 ne:=fun h tp dd its n sl X htp=>by
  obtain ⟨cd,hc,_⟩:=PySem.W.any_some G.hd
  refine Bool.eq_false_iff.mpr fun q=>?_
  have e:C = tp:=Value.ref.inj (beq_iff_eq.mp q)
  subst e
  unfold PySem.W.clsIn at hc
  split at hc
  ·rename_i c' d' cd' sl' lo
   have z:=(X _ _ lo).symm.trans htp
   cases z
  ·cases hc
 ca:=fun {prog w A E Q s} X J k=>by
  have hf:PySem.W.findObj K C (some od) "__class__" = some (.bind (.builtin "getset_descriptor.__get__") (.builtin "object.__class__")):=PySem.W.findObj_data (by obtain ⟨cd,hc,_⟩:=PySem.W.any_some G.hd;rw [hc];rfl) G.cl G.gt G.tk
  obtain ⟨h,gs,dr,tk,o⟩:=s
  unfold getAttr?
  exact wpAny_bind (wpAny_mkText (qp X J G.ga G.gn (sZ X J G.hm G.ho hf ⟨_,rfl,rfl,k⟩)))
section
variable {X:Cx} {pins:List (Addr × Obj)} {σ:St} {H:Hp} {s:Shared} {A:Around} {E:Value→Shared→Prop}
theorem lB {a C dx:Addr} {fs:List (Str × V)} (I:Inv X pins σ H s) (ha:H a = some (cS a (.ref C) (some dx))) (hx:H dx = some (.xd fs)):∃ ox od,PySem.W.InstAt s.heap a ox C (some od):=by
 obtain ⟨oe,vs,he,hcl,hdx,hdt⟩ : eJ a (.ref C) (some dx) s.heap:=(I.hok a _ ha).1
 obtain ⟨mA,hn,_⟩ : ∃ mA,s.heap.Ns1 dx mA∧∀ f,gc (fs.lookup f) (mA f):=I.hok dx _ hx
 obtain ⟨od,ho,_⟩:=jg hn
 obtain ⟨oc,odi,oda,osl⟩:=oe
 dsimp only at hcl hdx hdt
 subst hcl hdx hdt
 exact ⟨_,od,he,rfl,rfl,ho⟩
theorem se {a C dx:Addr} {fs:List (Str × V)} {c:Value} {b:Bool} {Q:Value→Shared→Prop} (I:Inv X pins σ H s) (ha:H a = some (cS a (.ref C) (some dx))) (hx:H dx = some (.xd fs)) (G:sN X.K C) (e:PySem.W.kitOne X.K (.ref C) c = some b)
  (h:∀ s',Inv X pins σ H s'→Q (.bool b) s'):wpAny (model X.prog X.w) A (call (.builtin "isinstance") [.ref a,c]) Q E s:=by
 obtain ⟨ox,od,J⟩:=lB I ha hx
 exact PySem.W.kia_one (n9 G) I.eV J e (fun z=>nomatch z) fun tk=>h _ (I.tok tk)
theorem pK {a C dx tp:Addr} {fs:List (Str × V)} {dd:Option Addr} {its:List Value} {n:Nat} {sl:Array (Option Value)} {b:Bool} {Q:Value→Shared→Prop} (I:Inv X pins σ H s) (ha:H a = some (cS a (.ref C) (some dx))) (hx:H dx = some (.xd fs)) (G:sN X.K C)
  (ht:s.heap.get? tp = some ⟨.type "tuple",dd,.seq its.toArray n,sl⟩) (e:PySem.W.kitAny X.K (.ref C) its = some b) (h:∀ s',Inv X pins σ H s'→Q (.bool b) s'):wpAny (model X.prog X.w) A (call (.builtin "isinstance") [.ref a,.ref tp]) Q E s:=by
 obtain ⟨ox,od,J⟩:=lB I ha hx
 exact PySem.W.kia_tup (n9 G) I.eV J ht e (fun z=>nomatch z) fun tk=>h _ (I.tok tk)
end
end L2
end
section
namespace L2
open PySem PySem.Spec PyProof.Rows UfX
def o5:V→Value
 | .ref a=>.ref a
 | .ty n=>.type n
 | _=>.none
theorem ra {c:V} {u:Value} (r:RelV c u) (h:o5 c≠.none):u = o5 c:=by
 cases c <;> first | exact absurd rfl h | exact r
theorem oM:∀ {cs:List V} {us:List Value},Vals cs us→(∀ c ∈ cs,o5 c≠.none)→us = cs.map o5
 | _,_,.nil,_=>rfl
 | _,_,.cons r t,h=>by
  rw [List.map_cons,← ra r (h _ List.mem_cons_self),← oM t fun c hc=>h c (List.mem_cons_of_mem _ hc)]
def yS (K:PySem.W.Frag):List V→Hp→VK→Prop:=fun xs H Q=>∃ a C dx fs c b,xs = [.ref a,c]∧H a = some (cS a (.ref C) (some dx))∧H dx = some (.xd fs)∧sN K C∧Q (.bl b) H ∧
 ((o5 c≠.none∧PySem.W.kitOne K (.ref C) (o5 c) = some b)∨∃ tp cs,c = .ref tp∧H tp = some (.tup cs)∧(∀ d ∈ cs,o5 d≠.none)∧PySem.W.kitAny K (.ref C) (cs.map o5) = some b)
section
variable {X:Cx}
theorem gh:eQ X (.builtin "isinstance") (yS X.K):=by
 intro pins s σ H xs us Q I r h
 obtain ⟨a,C,dx,fs,c,b,rfl,ha,hx,G,q,hc⟩:=h
 cases r with
 | cons r0 r1 =>
  cases r1 with
  | cons r2 r3 =>
   cases r3
   obtain rfl:=r0
   rcases hc with ⟨hn,e⟩ | ⟨tp,cs,rfl,ht,hn,e⟩
   ·rw [ra r2 hn]
    exact se I ha hx G e fun s' I'=>⟨.bl b,H,I',rfl,q⟩
   ·obtain rfl:=r2
    obtain ⟨_,its,rv,ob,h1,h2,n,h3⟩:=(show bo X.prog X.w H s.heap tp (.tup cs) from I.hok tp _ ht)
    obtain ⟨oc,odi,oda,osl⟩:=ob
    dsimp only at h2 h3
    subst h2 h3
    refine pK I ha hx G h1 ?_ fun s' I'=>⟨.bl b,H,I',rfl,q⟩
    rw [oM rv hn]
    exact e
end
end L2
end
section
namespace UfX
open PySem
inductive ExcF (h:Heap) (e:Addr) (cls a0:Value) (dx:Option Addr) (T:Addr):Prop
 | mk (oe:Obj) (vs:Array Value) (at_:h.get? e = some oe) (cl:oe.cls = cls) (dc:oe.dict = dx) (dt:oe.data = .fields vs) (first:vs[0]? = some a0) (tr:vs[1]? = some (.ref T)) (ne:T≠e)
   (oT:Obj) (ts:Array Value) (hT:h.get? T = some oT) (hTd:oT.data = .fields ts) (sz:3 < ts.size)
section
variable {M:Model} {A:Around} {E:Value→Shared→Prop} {s:Shared} {base:Heap} {env cenv:Env} {outer:List Env} {L e:Addr} {Q:Unit→Shared→Prop}
end
end UfX
end
section
namespace L2
open PySem PySem.Spec PyProof.Rows UfX
section
variable {P:Program} {w:World} {K:PySem.W.Frag} {mg:Str→Option Value} {base:Heap} {N:List Str} {qual:Str} {scope:Scope} {f:Addr} {cd:Value} {A:Around} {outer:List Env} {s:Shared} {H:Hp} {E:XK}
end
end L2
end
section
namespace L2
open PySem PySem.Spec PyProof.Rows UfX
section
variable {P:Program} {w:World} {K:PySem.W.Frag} {mg:Str→Option Value} {base:Heap} {N N2:List Str} {qual:Str} {scope sc:Scope} {f:Addr} {cd:Value} {A:Around} {outer:List Env} {s:Shared} {H:Hp} {E:XK}
end
section
variable {prog:Program} {w:World} {A:Around} {R:Result→Shared→Prop} {s:Shared}
end
section
variable {X:Cx} {N:List Str} {n:Nat} {ci:List Nat} {sc:Scope}
end
end L2
end
section
namespace L2
open PySem
theorem eZ.Cj {P:PySem.Program} {w:PySem.World} {K:PySem.W.Frag} {mg:PySem.Str→Option PySem.Value} {base:PySem.Heap} {x qual:PySem.Str} {st:PySem.Stmt} {f:PySem.Addr} {fd:PySem.FuncData} {N ps:List PySem.Str} {k:Nat} {sp:Sp} (F:eZ K x qual st f fd) (S:aI N ps (ai st)) (len:∀ vs H Q E,sp vs H Q E→vs.length = ps.length)
  (hbody:∀ (cdv:PySem.Value) (A:PySem.Around) (outer:List PySem.Env) (s:PySem.Shared) (H:Hp) (vs:List V) (Q:VK) (E:XK),bX k (A.deeper (PyProof.Rows.envOfC qual (ai st) s.heap.objs.size f cdv))→sp vs H Q E →
   ∃ t,nv (eU (rL P w) P w K mg base N qual (ai st) f cdv A outer s H E) (aD st) t∧t { nx:=fun _ H'=>Q .non H',rt:=Q } (start N vs) H):aE P w K mg base (rL P w) (k + 1) f fd ps sp:=by
 obtain ⟨oc,od,kV,doc,pm,an,cdv,ct,osl,rfl,lk,hcd⟩:=F.ex
 exact yn lk hcd S len fun A outer s H vs Q E hr hsp=>hbody cdv A outer s H vs Q E hr hsp
end L2
namespace Uf
open PySem L2 UfSrt UfFin
abbrev eD:Stmt:=inClass (top 12) 0
theorem zU:bootBuiltins "dict" = some (.type "dict"):=by decide +kernel
structure rK (row:List Str):Prop where
 ne:row≠[]
 nm:∀ x ∈ row,isNm x = true
 le:row.length≤10000
theorem sQ:∀ c ∈ wD.cps.toList,c < 16 ^ 8:=by decide +kernel
theorem rK.small {row:List Str} (h:rK row):∀ x ∈ row,x.length≤8∧∀ c ∈ x.cps.toList,c < 16 ^ 8:=fun x hx=>by
 have hn:=h.nm x hx
 refine ⟨kK hn,fun c hc=>?_⟩
 unfold isNm at hn
 have h1:=(Bool.and_eq_true_iff.mp (Bool.and_eq_true_iff.mp hn).2).2
 have h2:=of_decide_eq_true (List.all_eq_true.mp h1 c hc)
 exact sQ c h2
theorem oo {ms:List Mv} {s:List Str} : ∀ {r:List Str} {t:List Str},UfBfs.ck (graph ms) s r t→∀ x ∈ r,x ∈ names ms:=by
 intro r t h
 induction h with
 | nil=>intro x hx;simp at hx
 | snoc _ hm ih =>
  intro x hx
  rcases List.mem_append.mp hx with hx | hx
  ·exact ih x hx
  ·rw [List.mem_singleton.mp hx]
   exact (jL.mp hm).1
theorem uW {ms:List Mv} {st row:List Str} (so:Sound ms st) (h:UfBfs.Told (graph ms) (aQ st) (some row)) (hl:row.length≤5001):rK row:=by
 obtain ⟨r,t,m,rfl,hr,hb,_⟩:=h
 have hm:m ∈ names ms:=by
  have h2:m ∈ aQ (names ms):=List.mem_of_find?_eq_some hb
  exact cR.mp h2
 refine ⟨by simp,fun x hx=>?_,by lia⟩
 have hx:x ∈ names ms:=by
  rcases List.mem_append.mp hx with hx | hx
  ·exact oo hr x hx
  ·rw [List.mem_singleton.mp hx];exact hm
 exact List.all_eq_true.mp so.nn x hx
section
variable {P:Program} {w:World} {K:PySem.W.Frag} {mg:Str→Option Value} {base:Heap}
def yP (C:Addr):Sp:=fun vs H Q _=>∃ a l row,vs = [.ref a,.ref l]∧H l = some (.lst (av row))∧rK row∧H a = some (iu a (.ref C) none)∧∀ q dx,H q = none→(upd H q (.lst (av row))) dx = none→dx≠a→Q .non (upd (upd (upd H q (.lst (av row))) dx (.xd [("row",.ref q)])) a (iu a (.ref C) (some dx)))
theorem Ap:aI ["self", "row"] ["self", "row"] (ai eD):=⟨rfl,rfl,rfl,by decide +kernel,rfl,by decide +kernel,by decide +kernel⟩
theorem oW {f C N NE:Addr} {fd:FuncData} (F:eZ K "__init__" "Crowded.__init__" eD f fd) (TX:Txt K mg) (mgE:mg "NetError" = some (.ref NE)) (hb:wu K NE) (T:uX K C N) (S:wq K C "row"):aE P w K mg base bQ 1 f fd ["self", "row"] (yP C):=by
 refine F.ok Ap (fun vs H Q E h=>?_) (fun cdv A outer s H vs Q E hr h=>?_)
 ·obtain ⟨a,l,row,rfl,_⟩:=h
  rfl
 ·obtain ⟨a,l,row,rfl,hl,ok,ha,k⟩:=h
  refine ⟨_,ah (bF (pY rfl mgE hb (aa (pv 0) (aa (vZ (pv 1)) ag)))) (aq (rR (pv 0) (ba bu rfl TX.lst dY (aa (pv 1) ag)) rfl)),?_⟩
  refine ⟨_,rfl,_,rfl,l,row,rfl,hl,ok.ne,ok.small,ok.le,hr.gd,hr.qa,fun y=>⟨a,C,N,_,_,rfl,by simp,ha,T,_,rfl,l,_,rfl,.inl (aY.of hl),fun q nq=>?_⟩⟩
  refine ⟨_,rfl,a,C,rfl,by rw [af (ak ha nq)];exact ha,S,fun dx h1 h2=>k q dx nq h1 h2⟩
def zY (H:Hp) (E:XK) (C:Addr) (row:List Str):Prop:=∀ H' dx q,au H H'→H q = none→H' dx = some (.xd [("row",.ref q)])→H' q = some (.lst (av row))→E (.ref C) (some dx) H'
structure yw (P:Program) (w:World) (K:PySem.W.Frag) (mg:Str→Option Value) (base:Heap) (C N f:Addr) (fd:FuncData):Prop where
 mx:Bp K C N f
 gl:mg "Crowded" = some (.ref C)
 bd:Binds K fd ["self", "row"] []
 ok:aE P w K mg base bQ 1 f fd ["self", "row"] (yP C)
 ec:wg K C
end
end Uf
end
section
namespace Uf
open PySem L2 UfSrt UfFin UfB
def Ae (p aS aO aN aW aG aB aT aP:Addr):List (Str × V):=aV "place_bits" (.ref aP) (aV "taker_bits" (.ref aT) (aV "beside_bits" (.ref aB) (aV "given_bits" (.ref aG) (aV "own_bits" (.ref aW) (aV "numbers_there" (.ref aN) (aV "occurrence_tuples" (.ref aO) (aV "spot_tuples" (.ref aS) (aV "base_net" (.ref p) []))))))))
theorem y8 (p aS aO aN aW aG aB aT aP:Addr):AdF (Ae p aS aO aN aW aG aB aT aP) aS aT aB aP:=by
 unfold Ae
 refine ⟨?_,?_,?_,?_⟩
 ·rw [ay,if_neg (by decide +kernel),ay,if_neg (by decide +kernel),ay,if_neg (by decide +kernel),ay,if_neg (by decide +kernel),ay,if_neg (by decide +kernel),ay,if_neg (by decide +kernel),ay,if_neg (by decide +kernel),ay,if_pos rfl]
 ·rw [ay,if_neg (by decide +kernel),ay,if_pos rfl]
 ·rw [ay,if_neg (by decide +kernel),ay,if_neg (by decide +kernel),ay,if_pos rfl]
 ·rw [ay,if_pos rfl]
theorem zX (p aS aO aN aW aG aB aT aP:Addr):(Ae p aS aO aN aW aG aB aT aP).lookup ("add_spots" : Str) = none:=by
 unfold Ae
 rw [ay,if_neg (by decide +kernel),ay,if_neg (by decide +kernel),ay,if_neg (by decide +kernel),ay,if_neg (by decide +kernel),ay,if_neg (by decide +kernel),ay,if_neg (by decide +kernel),ay,if_neg (by decide +kernel),ay,if_neg (by decide +kernel),ay,if_neg (by decide +kernel)]
 rfl
theorem oO (f:Str) (v:V):∀ fs:List (Str × V),(aV f v fs).length≤fs.length + 1
 | []=>by simp [aV]
 | (g,x) :: r=>by
  have:=oO f v r
  unfold aV
  split <;> simp <;> lia
structure WI (H0:Hp) (x dx C:Addr) (fs:List (Str × V)) (new:List (Addr × HO)) (H:Hp):Prop where
 ins:H x = some (.ins C dx fs)
 old:∀ c o,H0 c = some o→c≠x→H c = some o
 here:∀ p ∈ new,H p.1 = some p.2
 nx:∀ p ∈ new,p.1≠x
 fr:∀ p ∈ new,H0 p.1 = none
 nd:(new.map (·.1)).Nodup
 len:fs.length≤new.length + 1
theorem WI.put {H0:Hp} {x dx C a:Addr} {fs:List (Str × V)} {new:List (Addr × HO)} {H:Hp} {o:HO} (f:Str) (h:WI H0 x dx C fs new H) (ha:H a = none) :
  WI H0 x dx C (aV f (.ref a) fs) ((a,o) :: new) (upd (upd H a o) x (.ins C dx (aV f (.ref a) fs))):=by
 have ax:a≠x:=(ak h.ins ha).symm
 refine ⟨ae,fun c u e n=>?_,fun p hp=>?_,fun p hp=>?_,fun p hp=>?_,?_,?_⟩
 ·have e2:=h.old c u e n
  rw [af n,af (ak e2 ha)]
  exact e2
 ·rcases List.mem_cons.mp hp with rfl | hp
  ·rw [af ax];exact ae
  ·have e2:=h.here p hp
   rw [af (h.nx p hp),af (ak e2 ha)]
   exact e2
 ·rcases List.mem_cons.mp hp with rfl | hp
  ·exact ax
  ·exact h.nx p hp
 ·rcases List.mem_cons.mp hp with rfl | hp
  ·cases q:H0 a with
   | none=>rfl
   | some u =>
    have:=h.old a u q ax
    rw [ha] at this
    cases this
  ·exact h.fr p hp
 ·refine List.nodup_cons.mpr ⟨fun hm=>?_,h.nd⟩
  obtain ⟨p,hp,e⟩:=List.mem_map.mp hm
  have:=h.here p hp
  rw [e,ha] at this
  cases this
 ·have:=oO f (.ref a) fs
  have:=h.len
  rw [List.length_cons]
  lia
theorem WI.same {H0:Hp} {x dx C:Addr} {fs:List (Str × V)} {new:List (Addr × HO)} {H H' : Hp} (h:WI H0 x dx C fs new H) (s:au H H'):WI H0 x dx C fs new H' :=
 ⟨s _ _ h.ins,fun c o e n=>s _ _ (h.old c o e n),fun p hp=>s _ _ (h.here p hp),h.nx,h.fr,h.nd,h.len⟩
theorem bR.Bf {C D x dx p:Addr} {H H' : Hp} {ms:List Mv} {st:List Str} (N:bR C H p ms st) (hx:H x = some (.ins D dx [])) (b:∀ c o,H c = some o→c≠x→H' c = some o):bR C H' p ms st:=by
 obtain ⟨dn,aP,aS,aT,aG,kT,kG,h1,h2,h3,h4,h5,h6,h7⟩:=N.at'.ob
 have tp:∀ c xs,H c = some (.tup xs)→H' c = some (.tup xs):=fun c xs e=>b c _ e (aR e hx (fun z=>nomatch z))
 refine ⟨⟨⟨dn,aP,aS,aT,aG,kT,kG,b _ _ h1 (aR h1 hx (fun z=>by injection z with _ _ z3;cases z3)),tp _ _ h2,tp _ _ h3,b _ _ h4 (aR h4 hx (fun z=>nomatch z)),b _ _ h5 (aR h5 hx (fun z=>nomatch z)),h6.same tp,h7.same tp⟩⟩,N.so⟩
inductive zB (CW:Addr) (H:Hp) (x p:Addr) (W:rz):Prop
 | mk (dx aS aO aN aW aG aB aT aP:Addr) (hA:A9 CW H x dx (Ae p aS aO aN aW aG aB aT aP) aS aT aB aP W) (hO:H aO = some (.lst [])) (hN:H aN = some (.dK [])) (hW:H aW = some (.lst [])) (hG:H aG = some (.lst [])) (nd : [aP,aT,aB,aG,aW,aN,aO,aS].Nodup)
theorem rp (ms:List Mv) (st:List Str):(cF ms st).Nodup:=by
 unfold cF
 exact (de _).nodup_iff.mpr (UfSet.kI _)
theorem vj {ms:List Mv} {st:List Str} {y:Str} (h:y ∈ st):y ∈ cF ms st:=cR.mpr (UfSet.nu.mpr (List.mem_append_left _ h))
def W0 (ms:List Mv) (st:List Str):rz:=⟨[],[],[],(cF ms st).map fun x=>(x,0)⟩
section
variable {P:Program} {w:World} {K:PySem.W.Frag} {mg:Str→Option Value} {base:Heap}
def qW (C CW CR:Addr):Sp:=fun vs H Q E=>∃ (x dx p:Addr) (ms:List Mv) (st:List Str),vs = [.ref x,.ref p]∧H x = some (.ins CW dx [])∧bR C H p ms st ∧
 (∀ row,UfBfs.Told (graph ms) (aQ st) (some row)→row.length≤5001→zY H E CR row) ∧
 (UfBfs.Told (graph ms) (aQ st) none→∀ H',zB CW H' x p (dz none (W0 ms st,0) (aQ st)).1→(∀ c o,H c = some o→c≠x→H' c = some o)→Q .non H')
theorem rG:aI ["self", "net", "row"] ["self", "net"] (ai gH):=⟨rfl,rfl,rfl,by decide +kernel,rfl,by decide +kernel,by decide +kernel⟩
def uI (C:Addr):Sp:=fun vs H Q _=>∃ (p:Addr) (ms:List Mv) (st:List Str),vs = [.ref p]∧bR C H p ms st∧∀ H' q,au H H'→H q = none→H' q = some (.lst (av (cF ms st)))→Q (.ref q) H'
theorem Ah:aI ["self"] ["self"] (ai jE):=⟨rfl,rfl,rfl,by decide +kernel,rfl,by decide +kernel,by decide +kernel⟩
theorem xb {f C:Addr} {fd:FuncData} (F:eZ K "places" "Net.places" jE f fd) (T:Txt K mg) (CT:iy K C):aE P w K mg base bQ 1 f fd ["self"] (uI C):=by
 refine F.ok Ah (fun vs H Q E h=>?_) (fun cdv A outer s H vs Q E hr h=>?_)
 ·obtain ⟨p,ms,st,rfl,_⟩:=h
  rfl
 ·obtain ⟨p,ms,st,rfl,N,k⟩:=h
  obtain ⟨dx,aP,aS,aT,aG,kT,kG,h1,h2,h3,h4,h5,h6,h7⟩:=N.at'.ob
  refine ⟨_,aq (aJ (ba bu rfl T.lst dY (aa (cM (pv 0) rfl) ag))),?_⟩
  exact ⟨_,rfl,p,C,dx,_,_,rfl,h1,CT.cl,CT.nP,Aq _ _ _ _,aP,_,rfl,.inr (cV.of h2),fun q nq=>k _ q (aj nq) nq ae⟩
theorem Ba:(("places" : Str) == "place_names") = false:=by decide +kernel
theorem AV:(("places" : Str) == "start_state") = false:=by decide +kernel
theorem A4:(("places" : Str) == "taken_by") = false:=by decide +kernel
theorem Be:(("places" : Str) == "given_by") = false:=by decide +kernel
theorem we {f C CW CR NR fR fC fP fS fA:Addr} {fd fdR fdC fdP fdS fdA:FuncData} (F:eZ K "__init__" "Web.__init__" gH f fd) (T:Txt K mg) (dct:mg "dict" = none) (NC:iy K C) (CT:zN K CW) (XR:yw P w K mg base CR NR fR fdR)
  (DC:Def K mg "crowding" cX ["net"] fC fdC) (GC:aE P w K mg base bQ 7 fC fdC ["net"] (km C))
  (DP:eR K C "places" "Net.places" jE ["self"] fP fdP) (GP:aE P w K mg base bQ 1 fP fdP ["self"] (uI C))
  (DS:eR K C "start" "Net.start" gg ["self"] fS fdS) (GS:aE P w K mg base bQ 1 fS fdS ["self"] (mL C))
  (DA:eR K CW "add_spots" "Web.add_spots" nQ ["self", "places", "giver", "beside"] fA fdA) (GA:aE P w K mg base bQ 2 fA fdA ["self", "places", "giver", "beside"] (yo CW .tup)) :
  aE P w K mg base (rL P w) 8 f fd ["self", "net"] (qW C CW CR):=by
 refine F.Cj rG (fun vs H Q E h=>?_) (fun cdv A outer s H vs Q E hr h=>?_)
 ·obtain ⟨x,dx,p,ms,st,rfl,_⟩:=h
  rfl
 ·obtain ⟨x,dx,p,ms,st,rfl,hx,N,kr,kk⟩:=h
  have hsl:=PySem.sizeLine_eq
  have hr1:bX 1 _:=hr.mono (by decide)
  have hr2:bX 2 _:=hr.mono (by decide)
  refine ⟨_,ah (aM (i:=2) rG.nd rfl (Or.inl rfl) (aK GC hr rfl DC.mg DC.fn.kp DC.bd .nil aX (aa (pv 1) ag)))
   (ah (cv (gC (mJ (pv 2))) (aq (uf uz rfl rfl (vQ XR.mx XR.ok hr2 rfl XR.gl XR.bd .nil aX (aa (pv 2) ag)))) bf)
   (ah (dD (pv 0) (pv 1) rfl)
   (ah (dD (pv 0) (bZ ag) rfl)
   (ah (dD (pv 0) (bZ ag) rfl)
   (ah (dD (pv 0) iT rfl)
   (ah (dD (pv 0) (bZ ag) rfl)
   (ah (dD (pv 0) (bZ ag) rfl)
   (ah (dD (pv 0) (bZ ag) rfl)
   (ah (dD (pv 0) (bZ ag) rfl)
   (ah (dD (pv 0) (ba (ql rfl) rfl dct zU (aa (cG (N:=["place"]) (n:=1) (ci:=[]) rfl (br (fu (pv 1) NC.cl DP.mt GP hr1 DP.bd .nil aX)) (nj.of (so:=ai gH) (N0:=["self", "net", "row"]) ⟨rfl,by decide +kernel,by decide +kernel,by decide +kernel,rfl,rfl,by decide +kernel,by decide +kernel⟩) (fun z=>⟨aA (i:=0) (cJ (N:=["place"]) (by decide +kernel)) rfl (Or.inl rfl),cT,dI (aa (pv 0) (aa aw ag))⟩)) ag)) rfl)
   (aq (bF (eY (pv 0) CT.cl DA.mt GA hr2 DA.bd .nil aX (aa (fu (pv 1) NC.cl DS.mt GS hr1 DS.bd .nil aX) (aa jl (aa aw ag)))))))))))))))),?_⟩
  refine ⟨_,rfl,p,ms,st,rfl,N,fun H1 s1 hto=>?_,fun H1 l row s1 hto hlen nl hl=>?_⟩
  ·refine ⟨_,rfl,_,rfl,?_⟩
   refine bz ?_
   refine ⟨_,rfl,_,rfl,x,CW,dx,_,rfl,s1 _ _ hx,CT.cl,CT.nN,(by show 0 < 1000;decide),?_⟩
   have w0:WI H x dx CW (aV "base_net" (V.ref p) []) [] (upd H1 x (.ins CW dx (aV "base_net" (V.ref p) []))):=⟨ae,fun c o e n=>by rw [af n];exact s1 _ _ e,fun q hq=>by simp at hq,fun q hq=>by simp at hq,fun q hq=>by simp at hq,.nil,by show 1≤0 + 1;decide⟩
   generalize upd H1 x (.ins CW dx (aV "base_net" (V.ref p) [])) = G0 at w0 ⊢
   generalize hf0:aV "base_net" (V.ref p) [] = f0 at w0 ⊢
   refine ⟨Nat.zero_le _,fun aS naS=>⟨_,rfl,x,CW,dx,_,rfl,(by rw [af (ak w0.ins naS)];exact w0.ins),CT.cl,CT.nS,Nat.lt_of_le_of_lt w0.len (by show 0 + 1 < 1000;decide),?_⟩⟩
   have w1:=w0.put (o:=.lst []) "spot_tuples" naS
   generalize upd (upd G0 aS (.lst [])) x (.ins CW dx (aV "spot_tuples" (V.ref aS) f0)) = G1 at w1 ⊢
   generalize hf1:aV "spot_tuples" (V.ref aS) f0 = f1 at w1 ⊢
   refine ⟨Nat.zero_le _,fun aO naO=>⟨_,rfl,x,CW,dx,_,rfl,(by rw [af (ak w1.ins naO)];exact w1.ins),CT.cl,CT.nO,Nat.lt_of_le_of_lt w1.len (by show 1 + 1 < 1000;decide),?_⟩⟩
   have w2:=w1.put (o:=.lst []) "occurrence_tuples" naO
   generalize upd (upd G1 aO (.lst [])) x (.ins CW dx (aV "occurrence_tuples" (V.ref aO) f1)) = G2 at w2 ⊢
   generalize hf2:aV "occurrence_tuples" (V.ref aO) f1 = f2 at w2 ⊢
   refine fun aN naN=>⟨_,rfl,x,CW,dx,_,rfl,(by rw [af (ak w2.ins naN)];exact w2.ins),CT.cl,CT.nH,Nat.lt_of_le_of_lt w2.len (by show 2 + 1 < 1000;decide),?_⟩
   have w3:=w2.put (o:=.dK []) "numbers_there" naN
   generalize upd (upd G2 aN (.dK [])) x (.ins CW dx (aV "numbers_there" (V.ref aN) f2)) = G3 at w3 ⊢
   generalize hf3:aV "numbers_there" (V.ref aN) f2 = f3 at w3 ⊢
   refine ⟨Nat.zero_le _,fun aW naW=>⟨_,rfl,x,CW,dx,_,rfl,(by rw [af (ak w3.ins naW)];exact w3.ins),CT.cl,CT.nW,Nat.lt_of_le_of_lt w3.len (by show 3 + 1 < 1000;decide),?_⟩⟩
   have w4:=w3.put (o:=.lst []) "own_bits" naW
   generalize upd (upd G3 aW (.lst [])) x (.ins CW dx (aV "own_bits" (V.ref aW) f3)) = G4 at w4 ⊢
   generalize hf4:aV "own_bits" (V.ref aW) f3 = f4 at w4 ⊢
   refine ⟨Nat.zero_le _,fun aG naG=>⟨_,rfl,x,CW,dx,_,rfl,(by rw [af (ak w4.ins naG)];exact w4.ins),CT.cl,CT.nG,Nat.lt_of_le_of_lt w4.len (by show 4 + 1 < 1000;decide),?_⟩⟩
   have w5:=w4.put (o:=.lst []) "given_bits" naG
   generalize upd (upd G4 aG (.lst [])) x (.ins CW dx (aV "given_bits" (V.ref aG) f4)) = G5 at w5 ⊢
   generalize hf5:aV "given_bits" (V.ref aG) f4 = f5 at w5 ⊢
   refine ⟨Nat.zero_le _,fun aB naB=>⟨_,rfl,x,CW,dx,_,rfl,(by rw [af (ak w5.ins naB)];exact w5.ins),CT.cl,CT.nB,Nat.lt_of_le_of_lt w5.len (by show 5 + 1 < 1000;decide),?_⟩⟩
   have w6:=w5.put (o:=.lst []) "beside_bits" naB
   generalize upd (upd G5 aB (.lst [])) x (.ins CW dx (aV "beside_bits" (V.ref aB) f5)) = G6 at w6 ⊢
   generalize hf6:aV "beside_bits" (V.ref aB) f5 = f6 at w6 ⊢
   refine ⟨Nat.zero_le _,fun aT naT=>⟨_,rfl,x,CW,dx,_,rfl,(by rw [af (ak w6.ins naT)];exact w6.ins),CT.cl,CT.nT,Nat.lt_of_le_of_lt w6.len (by show 6 + 1 < 1000;decide),?_⟩⟩
   have w7:=w6.put (o:=.lst []) "taker_bits" naT
   generalize upd (upd G6 aT (.lst [])) x (.ins CW dx (aV "taker_bits" (V.ref aT) f6)) = G7 at w7 ⊢
   generalize hf7:aV "taker_bits" (V.ref aT) f6 = f7 at w7 ⊢
   have N7:bR C G7 p ms st:=N.Bf hx w7.old
   obtain ⟨dn,bP,bS,bT,bG,kT,kG,h1,_⟩:=N7.at'.ob
   refine ⟨_,rfl,p,dn,_,rfl,h1,dJ _ _ _ _ Ba AV A4 Be,p,ms,st,rfl,N7,fun G8 q s8 nq hq=>?_⟩
   have w8:=w7.same s8
   have so:=N.so
   have lp:=so.pl
   refine ⟨q,rfl,⟨_,aY.of hq⟩,fun z D hD=>bK (a:=q) (xs:=av (cF ms st)) (fun j ys H10=>∃ qs:List Addr,ys = qs.map V.ref∧H10 D = some (.lst ys)∧au G8 H10∧u6 H10 (((cF ms st).take j).map fun x=>(x,V.int 0)) qs∧qs.length = j) ⟨[],rfl,ae,aj hD,.nil,rfl⟩ (fun j ys H10 _ ⟨_,_,_,s10,_⟩=>aY.of (s10 _ _ hq)) ?_ ?_⟩
   ·rintro j v ys H10 hj ⟨qs,rfl,hys,s10,pq,lq⟩
    obtain ⟨y,hy,rfl⟩:=cB hj
    have hjl:=(List.getElem?_eq_some_iff.mp hy).1
    refine ⟨_,rfl,by show 2≤sizeLine;lia,fun t nt=>?_⟩
    have s11:au H10 (upd H10 t (.tup [.str y,.int 0])):=aj nt
    have ht:(upd H10 t (.tup [.str y,.int 0])) t = some (.tup [.str y,.int 0]):=ae
    generalize upd H10 t (.tup [.str y,.int 0]) = H11 at s11 ht ⊢
    have hys':=s11 _ _ hys
    refine ⟨hys',by rw [List.length_map];lia,qs ++ [t],by rw [List.map_append];rfl,ae,aH (s10.trans s11) hD,?_,by rw [List.length_append,lq];rfl⟩
    rw [ar hy,List.map_append]
    refine Paired.snoc (Paired.dh pq fun a b e=>?_) ?_
    ·rw [af (aR (s11 _ _ e) hys' (fun z=>nomatch z))]
     exact s11 _ _ e
    ·show (upd H11 D _) t = some (.tup [.str y,.int 0])
     rw [af (aR ht hys' (fun z=>nomatch z))]
     exact ht
   ·rintro ys H10 ⟨qs,rfl,hys,s10,pq,lq⟩
    rw [ao,List.take_length] at pq
    have w9:=w8.same s10
    refine ⟨D,qs,_,rfl,hys,pq,by rw [List.length_map];lia,?_,fun aP naP=>?_⟩
    ·rw [List.map_map]
     show ((cF ms st).map id).Nodup
     rw [List.map_id]
     exact rp ms st
    have ek:keyed ((cF ms st).map fun x=>(x,V.int 0)) = ji (W0 ms st).pl:=by
     unfold keyed ji W0
     rw [List.map_map,List.map_map]
     rfl
    rw [ek]
    refine ⟨_,rfl,x,CW,dx,_,rfl,(by rw [af (ak w9.ins naP)];exact w9.ins),CT.cl,CT.nP,Nat.lt_of_le_of_lt w9.len (by show 7 + 1 < 1000;decide),?_⟩
    have w10:=w9.put (o:=.dK (ji (W0 ms st).pl)) "place_bits" naP
    have ef:aV "place_bits" (V.ref aP) f7 = Ae p aS aO aN aW aG aB aT aP:=by rw [← hf7,← hf6,← hf5,← hf4,← hf3,← hf2,← hf1,← hf0];rfl
    rw [ef] at w10
    rw [ef]
    generalize upd (upd H10 aP (.dK (ji (W0 ms st).pl))) x (.ins CW dx (Ae p aS aO aN aW aG aB aT aP)) = G9 at w10 ⊢
    have N9:bR C G9 p ms st:=N.Bf hx w10.old
    obtain ⟨dn,bP,bS,bT,bG,kT,kG,h1,_⟩:=N9.at'.ob
    have nd:=w10.nd
    have nd : [aP,aT,aB,aG,aW,aN,aO,aS].Nodup:=nd
    have nd2:=nd
    simp only [List.nodup_cons,List.mem_cons,List.not_mem_nil,or_false,not_or] at nd2
    obtain ⟨⟨a1,a2,a3,a4,a5,a6,a7⟩,⟨t1,t2,t3,t4,t5,t6⟩,⟨c1,c2,c3,c4,c5⟩,⟨g1,g2,g3,g4⟩,⟨k1,k2,k3⟩,⟨l1,l2⟩,m1,_⟩:=nd2
    have eP:G9 aP = some (.dK (ji (W0 ms st).pl)):=w10.here (aP,_) (by simp)
    have eT:G9 aT = some (.lst []):=w10.here (aT,_) (by simp)
    have eB:G9 aB = some (.lst []):=w10.here (aB,_) (by simp)
    have eG:G9 aG = some (.lst []):=w10.here (aG,_) (by simp)
    have eW:G9 aW = some (.lst []):=w10.here (aW,_) (by simp)
    have eN:G9 aN = some (.dK []):=w10.here (aN,_) (by simp)
    have eO:G9 aO = some (.lst []):=w10.here (aO,_) (by simp)
    have eS:G9 aS = some (.lst []):=w10.here (aS,_) (by simp)
    refine ⟨_,rfl,x,dx,_,rfl,w10.ins,zX _ _ _ _ _ _ _ _ _,_,rfl,p,dn,_,rfl,h1,dJ _ _ _ _ uQ ub uY vd,p,ms,st,rfl,N9,fun sa hsa=>?_⟩
    refine ⟨x,dx,sa,aS,aT,aB,aP,_,W0 ms st,none,0,aQ st,rfl,y8 _ _ _ _ _ _ _ _ _,Ne.symm t6,Ne.symm c5,t1,⟨w10.ins,⟨[],eS,.nil⟩,eT,eB,eP⟩,hsa,?_,?_,fun H' hA' but'=>?_⟩
    ·simp only [List.mem_cons,List.not_mem_nil,or_false,not_or]
     exact ⟨aR hsa eS (fun z=>nomatch z),aR hsa eT (fun z=>nomatch z),aR hsa eB (fun z=>nomatch z),aR hsa eP (fun z=>nomatch z)⟩
    ·refine ⟨rfl,rfl,by show 0 < 2 ^ 0;decide,?_,fun y hy=>?_,?_,?_⟩
     ·show 0 + (aQ st).length≤250
      rw [d8]
      have:=so.BB
      lia
     ·show y ∈ ((cF ms st).map fun x=>(x,0)).map (·.1)
      rw [List.map_map]
      exact List.mem_map.mpr ⟨y,vj (cR.mp hy),rfl⟩
     ·show (((cF ms st).map fun x=>(x,0)).map (·.1)).Nodup
      rw [List.map_map]
      show ((cF ms st).map id).Nodup
      rw [List.map_id]
      exact rp ms st
     ·show ((cF ms st).map fun x=>(x,0)).length≤12
      rw [List.length_map]
      exact lp
    ·have keep:∀ c o,G9 c = some o→c≠aS→c≠aT→c≠aB→c≠aP→H' c = some o:=fun c o e q1 q2 q3 q4=>but' c o e (by simp only [List.mem_cons,List.not_mem_nil,or_false,not_or];exact ⟨q1,q2,q3,q4⟩)
     refine kk hto H' ⟨dx,aS,aO,aN,aW,aG,aB,aT,aP,hA',keep _ _ eO m1 (Ne.symm t5) (Ne.symm c4) (Ne.symm a6),keep _ _ eN l2 (Ne.symm t4) (Ne.symm c3) (Ne.symm a5),keep _ _ eW k3 (Ne.symm t3) (Ne.symm c2) (Ne.symm a4),keep _ _ eG g4 (Ne.symm t2) (Ne.symm c1) (Ne.symm a3),nd⟩ fun c o e n=>?_
     have fr:∀ a o,(a,o) ∈ _→c≠a:=fun a o ha z=>by
      have:=w10.fr (a,o) ha
      rw [z] at e
      rw [this] at e
      cases e
     refine keep c o (w10.old c o e n) (fr aS (.lst []) (by simp)) (fr aT (.lst []) (by simp)) (fr aB (.lst []) (by simp)) (fr aP (.dK (ji (W0 ms st).pl)) (by simp))
  ·refine ⟨_,rfl,_,rfl,?_⟩
   refine bN ?_
   refine ⟨_,rfl,by simp,fun y hy=>?_⟩
   have ok:=uW N.so hto hlen
   refine ⟨y,l,row,rfl,by rw [af (ak hl hy)];exact hl,ok,ae,fun q d hq hd hdy=>⟨rfl,y,CR,some d,rfl,ae,XR.ec,s1.free hy,?_⟩⟩
   have qy:q≠y:=fun z=>by rw [z,ae] at hq;cases hq
   have dq:d≠q:=fun z=>by rw [z,ae] at hd;cases hd
   have hq1:H1 q = none:=by rw [af qy] at hq;exact hq
   have hd1:H1 d = none:=by rw [af dq,af hdy] at hd;exact hd
   refine kr row hto hlen _ d q (fun b o e=>?_) (s1.free hq1) ?_ ?_
   ·have e1:=s1 b o e
    have n1:b≠y:=ak e1 hy
    rw [gN n1,af n1,af (ak e1 hd1),af (ak e1 hq1),af n1]
    exact e1
   ·rw [gN hdy,af hdy,ae]
   ·rw [gN qy,af qy,af (Ne.symm dq),ae]
end
end Uf
end
section
namespace Uf
open PySem L2 UfSrt UfFin
end Uf
end
section
namespace UfStr
open PySem PySem.Builtin PySem.Builtin.Str PySem.StrLaws
theorem jM {x y:PySem.Str} (h:x.cps.toList = y.cps.toList):x = y:=by
 cases x with
 | mk a =>
  cases y with
  | mk b =>
   have:a = b:=Array.toList_inj.mp h
   rw [this]
theorem jt (x y:PySem.Str):(x ++ y).cps.toList = x.cps.toList ++ y.cps.toList:=by
 show (x.cps ++ y.cps).toList = _
 simp
theorem dE (x:PySem.Str):x.length = x.cps.toList.length:=by simp [PySem.Str.length]
end UfStr
namespace L2
open PySem PySem.Spec PyProof.Rows UfSrt
section
variable {X:Cx}
end
end L2
end
section
namespace L2
open PySem PySem.Spec PyProof.Rows
section
variable {X:Cx}
theorem xA:hX X (binaryOp .Mult) (fun x y H Q=>∃ (z:Str) (n:Int),x = .str z∧y = .int n∧1≤n∧n≤8∧z.length = 1∧Q (.str (oy z n.toNat)) H):=by
 intro pins s σ H x y v u Q I rx ry h
 obtain ⟨z,n,rfl,rfl,hn,hn2,hz,q⟩:=h
 obtain ⟨t,rfl⟩:=rx
 obtain ⟨t',rfl⟩:=ry
 have hsl:=sizeLine_eq
 have h3:n = 1∨n = 2∨n = 3∨n = 4∨n = 5∨n = 6∨n = 7∨n = 8:=by omega
 have e2:z.cps.size = 1:=hz
 refine PySem.P.mul_str (by rw [decide_eq_false (by omega),decide_eq_false (by omega)];rfl) (fun h1 _=>?_) (fun h1 _=>?_) ?_
 ·rw [hz]
  rcases h3 with rfl | rfl | rfl | rfl | rfl | rfl | rfl | rfl <;> decide
 ·rw [hz]
  rcases h3 with rfl | rfl | rfl | rfl | rfl | rfl | rfl | rfl <;> decide
 ·by_cases h1:n = 1
  ·subst h1
   rw [if_neg (by decide),if_pos (by rfl)]
   refine ⟨.str (oy z 1),H,I,⟨t,?_⟩,q⟩
   rw [uF]
  ·have e:((n:Int) == 1 || z.length == 0) = false:=by
    rw [hz]
    have:(n == 1) = false:=beq_eq_false_iff_ne.mpr h1
    rw [this]
    rfl
   rw [if_neg (by omega),if_neg (by rw [e];exact Bool.false_ne_true)]
   refine ⟨?_,.str (oy z n.toNat),H,I.tok _,⟨_,rfl⟩,q⟩
   rcases h3 with rfl | rfl | rfl | rfl | rfl | rfl | rfl | rfl <;>
   ·show ((List.replicate _ z.cps).foldl (· ++ ·) #[]).size≤_
    simp [List.replicate,List.foldl,e2]
    omega
end
end L2
namespace Uf
open PySem L2 UfSrt UfStr PySem.Builtin PySem.Builtin.Str PySem.StrLaws
abbrev yz:Stmt:=top 50
abbrev jC:Stmt:=top 51
theorem lM (x:PySem.Str) {a b:Nat} (hab:a≤b) (hb:b≤x.length):Txt.slice x (some (a:Int)) (some (b:Int)) = strSub x a b:=by
 refine UfStr.jM ?_
 rw [strSub_toList]
 have:=sliceText_nat x hab hb
 rw [show Txt.slice x (some (a:Int)) (some (b:Int)) = sliceText x (some (a:Int)) (some (b:Int)) from rfl,this]
theorem nJ (x:PySem.Str) {b:Nat} (hb:b≤x.length):(Txt.slice x none (some (b:Int))).cps.toList = x.cps.toList.take b:=by
 have:Txt.slice x none (some (b:Int)) = strSub x 0 b:=by
  rw [← lM x (Nat.zero_le b) hb]
  unfold Txt.slice
  rw [sliceIdx_none_lo]
  rfl
 rw [this,strSub_toList,List.drop_zero,Nat.sub_zero]
theorem uA (x:PySem.Str) {a:Nat} (ha:a≤x.length):(Txt.slice x (some (a:Int)) none).cps.toList = x.cps.toList.drop a:=by
 have:Txt.slice x (some (a:Int)) none = strSub x a x.length:=by
  rw [← lM x ha (Nat.le_refl _)]
  unfold Txt.slice
  rw [sliceIdx_none_hi]
 rw [this,strSub_toList]
 refine List.take_of_length_le ?_
 rw [List.length_drop,UfStr.dE]
 omega
theorem foldl_rep (c:Nat):∀ (n:Nat) (acc:Array Nat),((List.replicate n #[c]).foldl (· ++ ·) acc).toList = acc.toList ++ List.replicate n c
 | 0,acc=>by simp
 | n + 1,acc=>by
  rw [List.replicate_succ,List.foldl_cons,foldl_rep c n,List.replicate_succ]
  simp
theorem qE (c n:Nat):(oy (⟨#[c]⟩ : PySem.Str) n).cps.toList = List.replicate n c:=by
 unfold oy
 rw [foldl_rep]
 rfl
def steps:List Int:=[1,3,5,7,9,11,15,17,19,21,23,25]
def jT:List Nat:=[109,110,111,112,113,114,115]
def uD (k:Nat) (seed:Int):List Nat :=
 let one:=97 + ((seed / 36 + steps.getD (seed / 3 % 12).toNat 0 * k) % 26).toNat
 if seed % 3 = 0 then [one]
 else if seed % 3 = 1 then
  let stem:=jT.take (seed / 36 % 8).toNat
  let spot:=(seed / 288 % ((stem.length:Int) + 1)).toNat
  stem.take spot ++ one :: stem.drop spot
 else List.replicate (1 + (seed / 36 + 5 * k) % 12 % 8).toNat (97 + ((seed / 36 + 5 * k) % 12 / 8).toNat)
def dB (k:Nat) (seed:Int):PySem.Str:=⟨(uD k seed).toArray⟩
theorem eM (k:Nat) (seed:Int):(dB k seed).cps.toList = uD k seed:=by unfold dB;simp
theorem wZ {seed:Int} : steps.getD (seed / 3 % 12).toNat 0 ∈ steps:=by
 have h:(seed / 3 % 12).toNat < 12:=by omega
 rw [List.getD_eq_getElem?_getD,List.getElem?_eq_getElem (show _ < steps.length from h)]
 exact List.getElem_mem _
theorem one_inj {q s:Int} {k j:Nat} (hs:s ∈ steps) (hk:k < 6) (hj:j < 6) (e:(q + s * k) % 26 = (q + s * j) % 26):k = j:=by
 unfold steps at hs
 simp only [List.mem_cons,List.not_mem_nil,or_false] at hs
 rcases hs with rfl | rfl | rfl | rfl | rfl | rfl | rfl | rfl | rfl | rfl | rfl | rfl <;> omega
theorem xD {k j:Nat} {seed:Int} (hk:k < 6) (hj:j < 6) (e:uD k seed = uD j seed):k = j:=by
 have hs:=wZ (seed:=seed)
 unfold uD at e
 dsimp only at e
 by_cases h0:seed % 3 = 0
 ·rw [if_pos h0,if_pos h0] at e
  have e1:=(List.cons.inj e).1
  exact one_inj (q:=seed / 36) hs hk hj (by generalize (seed / 36 + steps.getD (seed / 3 % 12).toNat 0 * (k:Int)) = A at e1 ⊢;generalize (seed / 36 + steps.getD (seed / 3 % 12).toNat 0 * (j:Int)) = B at e1 ⊢;omega)
 ·rw [if_neg h0,if_neg h0] at e
  by_cases h1:seed % 3 = 1
  ·rw [if_pos h1,if_pos h1] at e
   have e1:=(List.cons.inj (List.append_cancel_left e)).1
   exact one_inj (q:=seed / 36) hs hk hj (by generalize (seed / 36 + steps.getD (seed / 3 % 12).toNat 0 * (k:Int)) = A at e1 ⊢;generalize (seed / 36 + steps.getD (seed / 3 % 12).toNat 0 * (j:Int)) = B at e1 ⊢;omega)
  ·rw [if_neg h1,if_neg h1] at e
   have l:=congrArg List.length e
   rw [List.length_replicate,List.length_replicate] at l
   have hd:=congrArg List.head? e
   have n1:∃ n,(1 + (seed / 36 + 5 * (k:Int)) % 12 % 8).toNat = n + 1:=⟨((seed / 36 + 5 * (k:Int)) % 12 % 8).toNat,by omega⟩
   have n2:∃ n,(1 + (seed / 36 + 5 * (j:Int)) % 12 % 8).toNat = n + 1:=⟨((seed / 36 + 5 * (j:Int)) % 12 % 8).toNat,by omega⟩
   obtain ⟨a,ea⟩:=n1
   obtain ⟨b,eb⟩:=n2
   rw [ea,eb,List.replicate_succ,List.replicate_succ] at hd
   simp only [List.head?_cons,Option.some.injEq] at hd
   omega
theorem zS (k:Nat) (seed:Int):1≤(uD k seed).length∧(uD k seed).length≤8∧∀ c ∈ uD k seed,97≤c∧c≤122:=by
 have hst:∀ c ∈ jT,97≤c∧c≤122:=by decide
 unfold uD
 dsimp only
 by_cases h0:seed % 3 = 0
 ·rw [if_pos h0]
  refine ⟨by simp,by simp,fun c hc=>?_⟩
  have:=List.mem_singleton.mp hc
  omega
 ·rw [if_neg h0]
  by_cases h1:seed % 3 = 1
  ·rw [if_pos h1]
   have l7:(jT.take (seed / 36 % 8).toNat).length≤7:=by rw [List.length_take];show min _ 7≤7;omega
   generalize hS:jT.take (seed / 36 % 8).toNat = S at l7
   generalize (seed / 288 % ((S.length:Int) + 1)).toNat = sp
   have lt:(S.take sp ++ S.drop sp).length = S.length:=by rw [List.take_append_drop]
   rw [List.length_append] at lt
   refine ⟨by rw [List.length_append,List.length_cons];omega,by rw [List.length_append,List.length_cons];omega,fun c hc=>?_⟩
   have inS:∀ c ∈ S,97≤c∧c≤122:=fun c hc=>hst c (by rw [← hS] at hc;exact List.mem_of_mem_take hc)
   rcases List.mem_append.mp hc with hc | hc
   ·exact inS c (List.mem_of_mem_take hc)
   ·rcases List.mem_cons.mp hc with rfl | hc
    ·omega
    ·exact inS c (List.mem_of_mem_drop hc)
  ·rw [if_neg h1]
   rw [List.length_replicate]
   refine ⟨by omega,by omega,fun c hc=>?_⟩
   have:=List.eq_of_mem_replicate hc
   omega
theorem yd:∀ k < 26,97 + k ∈ wD.cps.toList:=by decide +kernel
theorem rn (k:Nat) (seed:Int):isNm (dB k seed) = true:=by
 obtain ⟨h1,h2,h3⟩:=zS k seed
 unfold isNm
 rw [eM,show (dB k seed).length = (uD k seed).length by rw [UfStr.dE,eM],decide_eq_true h1,decide_eq_true h2,Bool.true_and,Bool.true_and]
 refine List.all_eq_true.mpr fun c hc=>decide_eq_true ?_
 obtain ⟨a,b⟩:=h3 c hc
 have:=yd (c - 97) (by omega)
 rw [show 97 + (c - 97) = c by omega] at this
 exact this
theorem uO {k j:Nat} {seed:Int} (hk:k < 6) (hj:j < 6) (e:dB k seed = dB j seed):k = j :=
 xD hk hj (by rw [← eM,← eM,e])
end Uf
end
section
namespace Uf
open PySem L2 UfSrt UfStr
structure Txt2 (mg:PySem.Str→Option Value):Prop where
 rng:mg "range" = none
 enm:mg "enumerate" = none
 any:mg "any" = none
theorem jN {α:Type} {xs:List α} {i:Int} (d:α) (h0:0≤i) (h1:i < xs.length):tY xs i = some (xs.getD i.toNat d):=by
 unfold tY wA
 rw [if_pos h0,if_pos h1]
 show xs[i.toNat]? = _
 have h2:i.toNat < xs.length:=by lia
 rw [List.getElem?_eq_getElem h2,List.getD_eq_getElem?_getD,List.getElem?_eq_getElem h2]
 rfl
theorem getD_map {α β:Type} (f:α→β) (xs:List α) (i:Nat) (d:α):(xs.map f).getD i (f d) = f (xs.getD i d):=by
 rw [List.getD_eq_getElem?_getD,List.getElem?_map,List.getD_eq_getElem?_getD]
 cases xs[i]? <;> rfl
theorem qV {xs:List PySem.Str} {i:Int} (h0:0≤i) (h1:i < xs.length):tY (av xs) i = some (.str (xs.getD i.toNat "")):=by
 rw [jN (V.str "") h0 (by rw [ao];exact h1)]
 unfold av
 rw [getD_map V.str]
theorem ph {xs:List Int} {i:Int} (h0:0≤i) (h1:i < xs.length):tY (xs.map V.int) i = some (.int (xs.getD i.toNat 0)):=by
 rw [jN (V.int 0) h0 (by rw [List.length_map];exact h1),getD_map V.int]
section
variable {P:Program} {w:World} {K:PySem.W.Frag} {mg:PySem.Str→Option Value} {base:Heap}
def u9 (K:PySem.W.Frag):Sp:=fun vs H Q _=>∃ (a:Addr) (ns:List Int) (k:Nat),vs = [.ref a,.int k]∧aY K H a (ns.map V.int)∧ns.length≤63∧Q (.int (ns.getD k 0)) H
theorem zu:aI ["_law_script", "_law_k"] ["_law_script", "_law_k"] (ai yz):=⟨rfl,rfl,rfl,by decide +kernel,rfl,by decide +kernel,by decide +kernel⟩
theorem xv {f:Addr} {fd:FuncData} (F:eZ K "_law_at" "_law_at" yz f fd) (T:Txt K mg):aE P w K mg base bQ 1 f fd ["_law_script", "_law_k"] (u9 K):=by
 refine F.ok zu (fun vs H Q E h=>?_) (fun cdv A outer s H vs Q E hr h=>?_)
 ·obtain ⟨a,ns,k,rfl,_⟩:=h
  rfl
 ·obtain ⟨a,ns,k,rfl,ha,hz,kk⟩:=h
  refine ⟨_,ah (cv (bJ vO (pv 1) (az bA rfl T.len dX (aa (pv 0) ag)) (cA _)) (aq (aJ (cP hU (pv 0) (pv 1) (fun _ _=>rfl)))) bf)
   (aq (aJ aw)),?_⟩
  refine ⟨_,rfl,_,rfl,_,ns.length,rfl,.inl ⟨_,ha,by rw [List.length_map]⟩,_,_,rfl,rfl,_,rfl,?_⟩
  by_cases h:k < ns.length
  ·rw [decide_eq_true (show ((k:Nat):Int) < ((ns.length:Nat):Int) by lia)]
   refine bN ?_
   refine ⟨_,rfl,_,rfl,a,_,_,_,rfl,rfl,ha,ph (by lia) (by lia),?_⟩
   exact kk
  ·rw [decide_eq_false (show ¬ ((k:Nat):Int) < ((ns.length:Nat):Int) by lia)]
   refine bz ?_
   have e:ns.getD k 0 = 0:=by rw [List.getD_eq_getElem?_getD,List.getElem?_eq_none (by lia)];rfl
   rw [e] at kk
   exact kk
def tZ:Sp:=fun vs H Q _=>∃ (k:Nat) (seed:Int),vs = [.int k,.int seed]∧k < 12∧∀ H',au H H'→Q (.str (dB k seed)) H'
theorem iz:aI ["_law_k", "_law_seed", "_law_letters", "_law_step", "_law_one", "_law_stem", "_law_spot", "_law_turn"] ["_law_k", "_law_seed"] (ai jC):=⟨rfl,rfl,rfl,by decide +kernel,rfl,by decide +kernel,by decide +kernel⟩
theorem xx:("abcdefghijklmnopqrstuvwxyz" : PySem.Str).cps.toList.length = 26:=by decide +kernel
theorem xj:∀ i < 26,("abcdefghijklmnopqrstuvwxyz" : PySem.Str).cps.toList.getD i 0 = 97 + i:=by decide +kernel
theorem tf:("mnopqrs" : PySem.Str).cps.toList = jT:=by decide +kernel
theorem pf:("ab" : PySem.Str).cps.toList = [97,98]:=by decide +kernel
structure si (X:Cx) (ss:List Stmt) (t:TS):Prop where
 h:nv X ss t
theorem oP {X:Cx} {st:Stmt} {t u:TS} {rest:List Stmt} (h1:PS X st t) (h2:si X rest u):si X (st :: rest) (yb t u):=⟨ah h1 h2.h⟩
theorem CZ {X:Cx} {st:Stmt} {t:TS} (h1:PS X st t):si X [st] t:=⟨aq h1⟩
structure Bo (X:Cx) (es:List Expr) (t:TA):Prop where
 h:PA X es t
theorem jJ {X:Cx} {n:_} {k p} {es:List Expr} {u:TA} (h2:Bo X es u):Bo X (.Constant (.int n) k p :: es) (yI (tC (.int n)) u):=⟨aa aw h2.h rfl⟩
theorem BC {X:Cx} : Bo X [] zr:=⟨ag⟩
structure Bl (X:Cx) (e:Expr) (t:TE):Prop where
 h:PE X e t
theorem BJ {X:Cx} {es:List Expr} {t:TA} {pos} (h:Bo X es t):Bl X (.List es pos) (AL t):=⟨bZ h.h⟩
theorem bix {X:Cx} {a b:Expr} {ta tb:TE} {pos} {r:R2} (hr:AI X r) (ha:Bl X a ta) (hb:PE X b tb) (hs:qP b):Bl X (.Subscript a b pos) (AW r ta tb):=⟨cP hr ha.h hb hs⟩
structure PSB (X:Cx) (s:Stmt) (t:TS):Prop where
 h:PS X s t
theorem B0 {X:Cx} {pos:Pos} {i:Nat} {x:PySem.Str} {a b:Expr} {te:TE} {pos' : Pos} {p2} (hN:X.N.Nodup) (hi:X.N[i]? = some x) (hx:Loc X.env.scope x) (he:Bl X (.Subscript a b p2) te) (hs:swapsWith (.Subscript a b p2) (some (.Name x pos')) pos.line X.env = pure false) (hf:X.fn x = true∨X.env.scope.names.lookup x = some .local):PSB X (.Assign [.Name x pos'] (.Subscript a b p2) pos) (wI te (ir i)):=⟨aM hN hi hx he.h hs hf⟩
theorem zZ {X:Cx} {st:Stmt} {t u:TS} {rest:List Stmt} (h1:PSB X st t) (h2:si X rest u):si X (st :: rest) (yb t u):=⟨ah h1.h h2.h⟩
theorem wL {f:Addr} {fd:FuncData} (F:eZ K "_law_name" "_law_name" jC f fd) (T:Txt K mg):aE P w K mg base bQ 1 f fd ["_law_k", "_law_seed"] tZ:=by
 refine F.ok iz (fun vs H Q E h=>?_) (fun cdv A outer s H vs Q E hr h=>?_)
 ·obtain ⟨k,seed,rfl,_⟩:=h
  rfl
 ·obtain ⟨k,seed,rfl,hk,kk⟩:=h
  have hsl:=PySem.sizeLine_eq
  refine ⟨_,si.h (oP (aM (i:=2) iz.nd rfl (Or.inl rfl) gj)
   (zZ (B0 (i:=3) iz.nd rfl (Or.inl rfl) (bix hU (BJ (jJ (jJ (jJ (jJ (jJ (jJ (jJ (jJ (jJ (jJ (jJ (jJ BC))))))))))))) (aU dy (aU ez (pv 1) aw) aw) (fun _ _=>rfl)) rfl (.inl rfl))
   (oP (aM (i:=4) iz.nd rfl (Or.inl rfl) (cP ua (pv 2) (aU dy (aU gy (aU ez (pv 1) aw) (aU qm (pv 3) (pv 0))) aw) (fun _ _=>rfl)))
   (oP (cv (bJ iP (aU dy (pv 1) aw) aw (cA _)) (aq (aJ (pv 4))) bf)
   (oP (cv (bJ iP (aU dy (pv 1) aw) aw (cA _)) (ah (aM (i:=5) iz.nd rfl (Or.inl rfl) (ft pB gj iV (fY (aU dy (aU ez (pv 1) aw) aw))))
    (ah (aM (i:=6) iz.nd rfl (Or.inl rfl) (aU dy (aU ez (pv 1) aw) (aU gy (az bA rfl T.len dX (aa (pv 5) ag)) aw)))
    (aq (aJ (aU jZ (aU jZ (ft pB (pv 5) iV (fY (pv 6))) (pv 4)) (ft pB (pv 5) (fY (pv 6)) iV)))))) bf)
   (oP (aM (i:=7) iz.nd rfl (Or.inl rfl) (aU dy (aU gy (aU ez (pv 1) aw) (aU qm aw (pv 0))) aw))
   (CZ (aJ (aU xA (cP ua gj (aU ez (pv 7) aw) (fun _ _=>rfl)) (aU gy aw (aU dy (pv 7) aw))))))))))),?_⟩
  refine ⟨by show 12≤sizeLine;lia,fun r nr=>?_⟩
  have s1:au H (upd H r (.lst (steps.map V.int))):=aj nr
  have h1:(upd H r (.lst (steps.map V.int))) r = some (.lst (steps.map V.int)):=ae
  refine ⟨_,rfl,_,_,rfl,rfl,⟨by decide,by decide⟩,_,_,rfl,rfl,(by show (0:Int) < 12;decide),r,_,_,_,rfl,rfl,aY.of h1,ph (Int.emod_nonneg _ (by decide)) (Int.emod_lt_of_pos _ (by decide)),?_⟩
  have i0:(0:Int)≤(seed / 36 + steps.getD (seed / 3 % 12).toNat 0 * (k:Int)) % 26:=Int.emod_nonneg _ (by decide)
  have i1:(seed / 36 + steps.getD (seed / 3 % 12).toNat 0 * (k:Int)) % 26 < 26:=Int.emod_lt_of_pos _ (by decide)
  refine ⟨_,rfl,_,rfl,_,_,rfl,rfl,⟨by decide,by decide⟩,_,rfl,_,rfl,_,_,rfl,rfl,.inr ⟨by lia,by lia⟩,_,_,rfl,rfl,_,_,rfl,rfl,(by show (0:Int) < 26;decide),_,_,_,rfl,rfl,(by show 26≤sizeLine;lia),jN 0 i0 (by rw [xx];exact i1),?_⟩
  rw [xj _ (by lia)]
  have e0:=eM k seed
  unfold uD at e0
  dsimp only at e0
  generalize hone:97 + ((seed / 36 + steps.getD (seed / 3 % 12).toNat 0 * (k:Int)) % 26).toNat = one at e0 ⊢
  refine ⟨_,rfl,_,_,rfl,rfl,(by show (0:Int) < 3;decide),rfl,_,rfl,?_⟩
  by_cases c0:seed % 3 = 0
  ·rw [decide_eq_true (show V.int (seed % 3) = V.int 0 by rw [c0])]
   refine bN ?_
   refine ⟨_,rfl,?_⟩
   rw [if_pos c0] at e0
   have e:(⟨#[one]⟩ : PySem.Str) = dB k seed:=UfStr.jM e0.symm
   rw [e]
   exact kk _ s1
  rw [decide_eq_false (show ¬ V.int (seed % 3) = V.int 0 by simp [c0])]
  refine bz ?_
  rw [if_neg c0] at e0
  refine ⟨_,rfl,_,_,rfl,rfl,(by show (0:Int) < 3;decide),rfl,_,rfl,?_⟩
  by_cases c1:seed % 3 = 1
  ·rw [decide_eq_true (show V.int (seed % 3) = V.int 1 by rw [c1])]
   refine bN ?_
   rw [if_pos c1] at e0
   obtain ⟨n,en⟩:=Int.eq_ofNat_of_zero_le (show (0:Int)≤seed / 36 % 8 from Int.emod_nonneg _ (by decide))
   have n8:n < 8:=by have:seed / 36 % 8 < 8:=Int.emod_lt_of_pos _ (by decide);lia
   refine ⟨_,rfl,_,_,rfl,rfl,⟨by decide,by decide⟩,_,_,rfl,rfl,(by show (0:Int) < 8;decide),_,rfl,_,rfl,(by show 7≤sizeLine;lia),?_⟩
   have sc:(Txt.slice ("mnopqrs" : PySem.Str) none (some (seed / 36 % 8))).cps.toList = jT.take n:=by rw [en,nJ _ (by show n≤7;lia),tf]
   rw [en,Int.toNat_natCast] at e0
   generalize Txt.slice ("mnopqrs" : PySem.Str) none (some (seed / 36 % 8)) = stem at sc ⊢
   have ls:stem.length = (jT.take n).length:=by rw [UfStr.dE,sc]
   have l7:stem.length≤7:=by rw [ls,List.length_take];show min _ 7≤7;lia
   rw [← ls] at e0
   refine ⟨_,rfl,_,_,rfl,rfl,⟨by decide,by decide⟩,_,rfl,_,stem.length,rfl,⟨by lia,rfl⟩,_,_,rfl,rfl,_,_,rfl,rfl,(by lia),?_⟩
   obtain ⟨m,em⟩:=Int.eq_ofNat_of_zero_le (show (0:Int)≤seed / 288 % ((stem.length:Int) + 1) from Int.emod_nonneg _ (by lia))
   have hm:m≤stem.length:=by have:seed / 288 % ((stem.length:Int) + 1) < (stem.length:Int) + 1:=Int.emod_lt_of_pos _ (by lia);lia
   rw [em,Int.toNat_natCast] at e0
   dsimp only [ir]
   rw [em]
   have a1:=nJ stem hm
   have a2:=uA stem hm
   refine ⟨_,rfl,_,rfl,_,rfl,_,rfl,by lia,_,rfl,_,_,rfl,rfl,?_,_,rfl,_,rfl,_,rfl,_,rfl,by lia,_,_,rfl,rfl,?_,?_⟩
   ·rw [UfStr.dE,a1,List.length_take]
    show _ + 1≤sizeLine
    lia
   ·rw [UfStr.dE,UfStr.dE,UfStr.jt,a1,a2,List.length_append,List.length_take,List.length_drop,← UfStr.dE]
    show _ + 1 + _≤sizeLine
    lia
   have e:(Txt.slice stem none (some (m:Int)) ++ (⟨#[one]⟩ : PySem.Str)) ++ Txt.slice stem (some (m:Int)) none = dB k seed:=by
    refine UfStr.jM ?_
    rw [e0,UfStr.jt,UfStr.jt,a1,a2,sc,List.append_assoc]
    rfl
   rw [e]
   exact kk _ s1
  rw [decide_eq_false (show ¬ V.int (seed % 3) = V.int 1 by simp [c1])]
  refine bz ?_
  rw [if_neg c1] at e0
  refine ⟨_,rfl,_,_,rfl,rfl,⟨by decide,by decide⟩,_,rfl,_,_,rfl,rfl,.inl ⟨by decide,by decide⟩,_,_,rfl,rfl,_,_,rfl,rfl,(by show (0:Int) < 12;decide),?_⟩
  have t0:(0:Int)≤(seed / 36 + 5 * (k:Int)) % 12:=Int.emod_nonneg _ (by decide)
  have t1:(seed / 36 + 5 * (k:Int)) % 12 < 12:=Int.emod_lt_of_pos _ (by decide)
  dsimp only [ir]
  generalize (seed / 36 + 5 * (k:Int)) % 12 = tu at t0 t1 e0 ⊢
  refine ⟨_,rfl,_,_,rfl,rfl,⟨by decide,by decide⟩,_,_,_,rfl,rfl,(by show 2≤sizeLine;lia),jN 0 (show (0:Int)≤tu / 8 by lia) (by rw [pf];show tu / 8 < 2;lia),_,rfl,_,_,rfl,rfl,(by show (0:Int) < 8;decide),_,_,rfl,rfl,_,_,rfl,rfl,by lia,by lia,rfl,?_⟩
  have eg:("ab" : PySem.Str).cps.toList.getD (tu / 8).toNat 0 = 97 + (tu / 8).toNat:=by
   rw [pf]
   have:(tu / 8).toNat = 0∨(tu / 8).toNat = 1:=by lia
   rcases this with h | h <;> rw [h] <;> rfl
  rw [eg]
  have e:oy (⟨#[97 + (tu / 8).toNat]⟩ : PySem.Str) (1 + tu % 8).toNat = dB k seed:=by
   refine UfStr.jM ?_
   rw [qE,e0]
  rw [e]
  exact kk _ s1
end
end Uf
end
section
namespace L2
open PySem PySem.Spec PyProof.Rows UfSrt
section
variable {X:Cx} {pins:List (Addr × Obj)} {σ:St} {H:Hp} {s:Shared}
theorem Inv.sq {h' : Heap} {t' : Nat} {ch:List Addr} {T:Addr} {u:HO} (I:Inv X pins σ H s) (hch:∀ b ∈ ch,gA X pins H b) (k:∀ b o,b ∉ ch→s.heap.get? b = some o→h'.get? b = some o) (hT:s.heap.objs.size≤T)
  (new:bo X.prog X.w (upd H T u) h' T u):Inv X pins σ (upd H T u) { s with heap:=h',toks:=t' }:=by
 have hn:H T = none:=I.hok.fresh hT
 have nch:∀ b v,H b = some v→b ∉ ch:=fun b v e z=>by rw [(hch b z).1] at e;cases e
 have nT:∀ b o,s.heap.get? b = some o→b≠T:=fun b o e=>Nat.ne_of_lt (Nat.lt_of_lt_of_le (Heap.lt_size e) hT)
 refine I.step (g':=s.gens) (d':=s.drawn) (ch:=ch) (fun b hb=>⟨(hch b hb).2.2.2.1,(hch b hb).2.1,(hch b hb).2.2.2.2.1,(hch b hb).2.2.2.2.2⟩) (fun b o _ _ hc e _=>k b o hc e) (fun b o _ _ hc e _=>⟨o.slots,k b o hc e⟩) (fun b o _ e n=>by rw [af (nT b o e)];exact n)
  (fun b o hc e=>⟨o,k b o hc e⟩) (fun b xs e=>by rw [af (ak e hn)];exact e) (fun b o v e=>by rw [af (ak e hn)];exact e) (fun b ps e=>⟨#[],by rw [af (ak e hn),e];simp⟩) (fun m hm=>?_) (fun b v e=>?_) I.bare
 ·obtain ⟨o,es,ep,ho,r⟩:=hm
  exact ⟨o,es,ep,k _ o (fun z=>(hch _ z).2.1 rfl) ho,r⟩
 ·by_cases hb:b = T
  ·subst hb
   rw [ae] at e
   cases e
   exact new
  ·rw [af hb] at e
   refine (I.hok b v e).jf (fun c w hc q=>k c w ?_ q) (fun c q=>by rw [af (ak q hn)];exact q) fun c xs q=>by rw [af (ak q hn)];exact q
   rcases hc with z | z
   ·rw [z];exact nch b v e
   ·exact nch c _ z
end
def CJ (K:PySem.W.Frag) (l:Addr):It :=
 ⟨fun i H=>∃ xs x,aY K H l xs∧xs[i]? = some x,fun i H x H'=>∃ p v,x = .ref p∧H p = none∧H' = upd H p (.tup [.int (i:Int),v])∧∀ xs,aY K H l xs→xs[i]? = some v,fun i H=>∃ xs,aY K H l xs∧xs.length≤i⟩
theorem tw {P:Program} {w:World} {K:PySem.W.Frag} {elts:List Expr} {x1} {pos:Pos} {l e it:Addr} (hne:e≠it) :
  Turn P w K (.Tuple elts x1 pos) (CJ K l) [e,it] e (fun i h=>(∃ old,IsEnum h e it i old)∧h.IsListIter it l i) where
 mem:=by simp
 obj:=fun i h st b hb=>by
  obtain ⟨⟨old,he⟩,o,e2,c,d⟩:=st
  rcases List.mem_cons.mp hb with z | hb
  ·subst z
   exact ⟨_,he,fun v z=>by
    have z' : Data.fields _ = Data.cell v:=z
    cases z'⟩
  ·have z:b = it:=by simpa using hb
   subst z
   exact ⟨o,e2,fun v z=>by rw [d] at z;cases z⟩
 keep:=fun i h h' st k=>⟨let ⟨old,he⟩:=st.1;⟨old,k e (by simp) _ he⟩,st.2.at fun o q=>k it (by simp) o q⟩
 item:=by
  intro X hP hw hK hc i pins s σ H E I hf st hg
  subst hP hw hK
  obtain ⟨xs,x,hq,hx⟩:=hg
  obtain ⟨its,rv,p,hz⟩:=I.list hq
  obtain ⟨u,hu,ru⟩:=rv.get hx
  obtain ⟨⟨old,he⟩,hit⟩:=st
  refine wpAny_pyNext_enum_item he hit p.isList (x:=u) (by simpa using hu) hne fun h1 ho hit1 hT hsz hk=>?_
  refine ⟨.ref s.heap.objs.size,rfl,wpAny_letOwnedTupleGo_enum ho fun h2 he2 hs2=>?_⟩
  have elt:e < s.heap.objs.size:=Heap.lt_size he
  have ilt:it < s.heap.objs.size:=by obtain ⟨_,y,_⟩:=hit;exact Heap.lt_size y
  have kk:∀ b o,b ∉ [e,it]→s.heap.get? b = some o→h2.get? b = some o:=fun b o hb q=>by
   have n1:b≠e:=fun z=>hb (by simp [z])
   have n2:b≠it:=fun z=>hb (by simp [z])
   exact (hs2.2 b n1).trans (hk b o n1 n2 q)
  have hT2:h2.get? s.heap.objs.size = some { cls:=.type "tuple",data:=.seq #[.int i s.toks,u] }:=(hs2.2 _ (Nat.ne_of_gt elt)).trans hT
  have hn:=I.hok.fresh (Nat.le_refl s.heap.objs.size)
  refine ⟨.ref s.heap.objs.size,upd H s.heap.objs.size (.tup [.int (i:Int),x]),I.sq (t':=s.toks + 1) hf kk (Nat.le_refl _) ⟨by show 2≤sizeLine;rw [sizeLine_eq];decide,[.int i s.toks,u],.cons ⟨_,rfl⟩ (.cons ru .nil),_,hT2,rfl,_,rfl⟩,rfl,⟨_,x,rfl,hn,rfl,fun ys hy=>by rw [I.oK hy hq];exact hx⟩,⟨⟨_,by simpa using he2⟩,hit1.at fun o q=>(hs2.2 it (Ne.symm hne)).trans q⟩,fun b hb=>?_⟩
  have nb:b≠s.heap.objs.size:=by
   rcases List.mem_cons.mp hb with z | hb
   ·rw [z];exact Nat.ne_of_lt elt
   ·have z:b = it:=by simpa using hb
    rw [z];exact Nat.ne_of_lt ilt
  rw [af nb]
  exact (hf b hb).1
 done:=by
  intro X hP hw hK hc i pins s σ H E I hf st hg
  subst hP hw hK
  obtain ⟨xs,hq,hx⟩:=hg
  obtain ⟨its,rv,p,hz⟩:=I.list hq
  obtain ⟨⟨old,he⟩,hit⟩:=st
  obtain ⟨f0,f1,f2,f3,f4,f5⟩:=hf it (by simp)
  have hl:=rv.length
  exact wpAny_pyNext_enum_end (I.ok.hd hc) he hit p.isList (by simp;lia) fun h' eb=>⟨rfl,I.turned (t':=s.toks) (fun b o hb e=>eb b o hb e) f0 f1 f3 f4 f5⟩
 self:=fun _ _ _ _ _ st h=>let ⟨⟨_,he⟩,_⟩:=st;wpAny_pyIter_enum he h
section
variable {X:Cx} {elts:List Expr} {x1:Nat} {tpos:Pos}
theorem boot_enumerate:bootBuiltins "enumerate" = some (.type "enumerate"):=by decide +kernel
def Bh (K:PySem.W.Frag) (ta:TA):TI:=fun σ H R=>ta σ H fun vs H1=>∃ l,vs = [.ref l]∧(∃ xs,aY K H1 l xs)∧R (CJ K l) H1
theorem xp {a:Expr} {ta:TA} {p pos:Pos} (hg:Gl X "enumerate") (hm:X.mg "enumerate" = none) (ha:PA X [a] ta) (hs:starEach [a] X.env = [(false,eval a X.env)]:=by rfl):PI X (.Tuple elts x1 tpos) (.Call (.Name "enumerate" p) [a] [] pos) (Bh X.K ta):=by
 intro pins s σ H R I h
 refine Call_ (iA I hg hm boot_enumerate (PyProof.Rows.callWith_type1 (bx (ha pos pins s σ H _ I h) fun us s1 ⟨vs,H1,I1,r1,q1⟩=>?_) hs rfl))
 obtain ⟨l,e,⟨xs,hq⟩,q⟩:=q1
 subst e
 cases r1 with
 | cons r rr =>
  cases rr
  cases r
  obtain ⟨its,rv,pl,hz⟩:=I1.list hq
  refine call_enumerate_list pl.isList fun h' he hit hsz hk=>?_
  refine wpAny_pyIter_enum he ?_
  have hne:s1.heap.objs.size + 1≠s1.heap.objs.size:=Nat.succ_ne_self _
  have I2:Inv X pins σ H1 { s1 with heap:=h' }:=I1.kept (t':=s1.toks) hk
  refine ⟨s1.heap.objs.size + 1,[s1.heap.objs.size + 1,s1.heap.objs.size],_,_,H1,rfl,I2,tw hne,⟨⟨_,he⟩,hit⟩,fun b hb=>?_,q⟩
  have hb2:s1.heap.objs.size≤b:=by
   rcases List.mem_cons.mp hb with z | hb
   ·rw [z];exact Nat.le_succ _
   ·have z:b = s1.heap.objs.size:=by simpa using hb
    rw [z];exact Nat.le_refl _
  exact I1.sF hb2 (I1.hok.fresh hb2)
end
end L2
end
section
namespace Uf
open PySem L2 UfSrt UfStr
abbrev gT:Stmt:=top 52
theorem m9 {t u:TS} {D:Ends} {σ:St} {H:Hp} (Mid:St→Hp→Prop) (h2:∀ σ1 H1,Mid σ1 H1→u D σ1 H1) (h1:∀ N:St→Hp→Prop,(∀ σ1 H1,Mid σ1 H1→N σ1 H1)→t { D with nx:=N } σ H):yb t u D σ H:=h1 (u D) h2
theorem nU (xs:List PySem.Str) (k:Nat):kL (av xs) none (some ((k:Nat):Int)) = av (xs.take k):=by
 unfold kL
 rw [HT.vH,HT.mI,List.drop_zero,Nat.sub_zero,← List.take_eq_take_min]
 unfold av
 rw [List.map_take]
theorem eF (xs:List PySem.Str) (x:PySem.Str):av xs ++ [V.str x] = av (xs ++ [x]):=by unfold av;rw [List.map_append];rfl
structure oh (L T G:List PySem.Str):Prop where
 tn:T.Nodup
 gn:G.Nodup
 t1:1≤T.length
 t4:T.length≤4
 g4:G.length≤4
 ti:∀ x ∈ T,x ∈ L
 gi:∀ x ∈ G,x ∈ L
structure Sub (M T:List PySem.Str):Prop where
 nd:T.Nodup
 inn:∀ x ∈ T,x ∈ M
theorem Sub.skip {L T:List PySem.Str} {i:Nat} (h:Sub (L.take i) T):Sub (L.take (i + 1)) T:=⟨h.nd,fun x hx=>List.take_subset_take_left L (Nat.le_succ i) (h.inn x hx)⟩
theorem Sub.add {L T:List PySem.Str} {i:Nat} {z:PySem.Str} (hL:L.Nodup) (h:Sub (L.take i) T) (hz:L[i]? = some z):Sub (L.take (i + 1)) (T ++ [z]):=by
 have e:=ar hz
 have hn:(L.take (i + 1)).Nodup:=hL.sublist (List.take_sublist _ _)
 rw [e] at hn ⊢
 obtain ⟨_,_,h3⟩:=List.nodup_append.mp hn
 refine ⟨List.nodup_append.mpr ⟨h.nd,by simp,fun a ha b hb=>?_⟩,fun x hx=>?_⟩
 ·exact h3 a (h.inn a ha) b hb
 ·rcases List.mem_append.mp hx with hx | hx
  ·exact List.mem_append_left _ (h.inn x hx)
  ·exact List.mem_append_right _ hx
theorem Sub.len {M T:List PySem.Str} (h:Sub M T):T.length≤M.length:=UfFin.fq h.nd h.inn
section
variable {P:Program} {w:World} {K:PySem.W.Frag} {mg:PySem.Str→Option Value} {base:Heap}
def rE (K:PySem.W.Frag):Sp:=fun vs H Q _=>∃ (c:Int) (b:Addr) (L:List PySem.Str),vs = [.int c,.ref b]∧aY K H b (av L)∧L.Nodup∧1≤L.length∧L.length≤12 ∧
 ∀ H' t l g T G,au H H'→H t = none→H l = none→H g = none→H' t = some (.tup [.ref l,.ref g])→H' l = some (.lst (av T))→H' g = some (.lst (av G))→oh L T G→Q (.ref t) H'
theorem h9:aI ["_law_cell", "_law_names", "_law_digits", "_law_takes", "_law_gives", "_law_name_here"] ["_law_cell", "_law_names"] (ai gT):=⟨rfl,rfl,rfl,by decide +kernel,rfl,by decide +kernel,by decide +kernel⟩
inductive BH (H:Hp) (c:Int) (b tk gk:Addr) (L:List PySem.Str) (i:Nat) (σ:St) (H2:Hp):Prop
 | mk (dg:Int) (T G:List PySem.Str) (v5:Option V) (q0:σ = [some (.int c),some (.ref b),some (.int dg),some (.ref tk),some (.ref gk),v5]) (q1:au H H2) (q2:H2 tk = some (.lst (av T))) (q3:H2 gk = some (.lst (av G))) (q4:Sub (L.take i) T) (q5:Sub (L.take i) G)
theorem BH.same {H:Hp} {c:Int} {b tk gk:Addr} {L:List PySem.Str} {i:Nat} {σ:St} {H2:Hp} (h:BH H c b tk gk L i σ H2):au H H2:=by
 cases h
 assumption
inductive LsT (H:Hp) (c dg:Int) (b tk gk:Addr) (z:PySem.Str) (M G:List PySem.Str) (σ:St) (H2:Hp):Prop
 | mk (T:List PySem.Str) (q0:σ = [some (.int c),some (.ref b),some (.int dg),some (.ref tk),some (.ref gk),some (.str z)]) (q1:au H H2) (q2:H2 tk = some (.lst (av T))) (q3:H2 gk = some (.lst (av G))) (q4:Sub M T)
inductive LsG (H:Hp) (c dg:Int) (b tk gk:Addr) (z:PySem.Str) (M T:List PySem.Str) (σ:St) (H2:Hp):Prop
 | mk (G:List PySem.Str) (q0:σ = [some (.int c),some (.ref b),some (.int dg),some (.ref tk),some (.ref gk),some (.str z)]) (q1:au H H2) (q2:H2 tk = some (.lst (av T))) (q3:H2 gk = some (.lst (av G))) (q4:Sub M G)
inductive LsE (H:Hp) (c dg:Int) (b tk gk:Addr) (v5:Option V) (L G:List PySem.Str) (σ:St) (H2:Hp):Prop
 | mk (T:List PySem.Str) (q0:σ = [some (.int c),some (.ref b),some (.int dg),some (.ref tk),some (.ref gk),v5]) (q1:au H H2) (q2:H2 tk = some (.lst (av T))) (q3:H2 gk = some (.lst (av G))) (q4:Sub L T) (q5:1≤T.length)
theorem uU {f:Addr} {fd:FuncData} (F:eZ K "_law_loose_step" "_law_loose_step" gT f fd) (T0:Txt K mg):aE P w K mg base bQ 1 f fd ["_law_cell", "_law_names"] (rE K):=by
 refine F.ok h9 (fun vs H Q E h=>?_) (fun cdv A outer s H vs Q E hr h=>?_)
 ·obtain ⟨c,b,L,rfl,_⟩:=h
  rfl
 ·obtain ⟨c,b,L,rfl,hb,hL,hL1,hL2,kk⟩:=h
  have hsl:=PySem.sizeLine_eq
  have hu0:=hr.qa
  refine ⟨_,ah (aM (i:=2) h9.nd rfl (Or.inl rfl) (aU dy (aU gy (aU qm (pv 0) aw) aw) aw))
   (ah (aM (i:=3) h9.nd rfl (Or.inl rfl) (bZ ag))
   (ah (aM (i:=4) h9.nd rfl (Or.inl rfl) (bZ ag))
   (ah (dZ PassesOwn.never rfl (br (pv 1)) (aA (i:=5) h9.nd rfl (Or.inl rfl))
    (ah (cv (PW.pt (pw_or (bJ iP (aU dy (pv 2) aw) aw (cA _)) (pw_or1 (bJ iP (aU dy (pv 2) aw) aw (cA _))))) (aq (bF (gL PySem.F.plainAttrs_list PySem.F.slot_list_append PySem.F.type_list_append bE (pv 3) (aa (pv 5) ag)))) bf)
    (ah (cv (PW.pt (pw_or (bJ iP (aU dy (pv 2) aw) aw (cA _)) (pw_or1 (bJ iP (aU dy (pv 2) aw) aw (cA _))))) (aq (bF (gL PySem.F.plainAttrs_list PySem.F.slot_list_append PySem.F.type_list_append bE (pv 4) (aa (pv 5) ag)))) bf)
    (aq (aM (i:=2) h9.nd rfl (Or.inl rfl) (aU ez (pv 2) aw))))))
   (ah (cv (bJ eq_nil (pv 3) (bZ ag) (cA _)) (aq (bF (gL PySem.F.plainAttrs_list PySem.F.slot_list_append PySem.F.type_list_append bE (pv 3) (aa (cP hU (pv 1) (aU dy (pv 2) (az bA rfl T0.len dX (aa (pv 1) ag))) (fun _ _=>rfl)) ag)))) bf)
   (aq (aJ (dI (aa (ft mU (pv 3) iV (fY aw)) (aa (ft mU (pv 4) iV (fY aw)) ag))))))))),?_⟩
  refine ⟨_,rfl,_,_,rfl,rfl,.inr ⟨by decide,by decide⟩,_,_,rfl,rfl,_,_,rfl,rfl,(by show (0:Int) < 2147483647;decide),?_⟩
  refine ⟨Nat.zero_le _,fun tk ntk=>?_⟩
  have s1:au H (upd H tk (.lst [])):=aj ntk
  have h1:(upd H tk (.lst [])) tk = some (.lst (av [])):=ae
  generalize upd H tk (.lst []) = H1 at s1 h1 ⊢
  refine ⟨Nat.zero_le _,fun gk ngk=>?_⟩
  have s2:au H1 (upd H1 gk (.lst [])):=aj ngk
  have h2:(upd H1 gk (.lst [])) gk = some (.lst (av [])):=ae
  have ntg:tk≠gk:=ak h1 ngk
  have ngk0:H gk = none:=s1.free ngk
  have h12:=s2 _ _ h1
  have s02:=s1.trans s2
  generalize upd H1 gk (.lst []) = H2 at s2 h2 h12 s02 ⊢
  have sub0:Sub (L.take 0) []:=⟨.nil,fun x hx=>by simp at hx⟩
  refine ⟨_,rfl,b,rfl,⟨_,s02.seq hb⟩,cO (K:=K) (a:=b) (xs:=av L) (BH H c b tk gk L) ⟨_,[],[],none,rfl,s02,h12,h2,sub0,sub0⟩ (fun i σ H3 _ h=>h.same.seq hb) ?_ ?_⟩
  ·rintro i v σ H3 hi ⟨dg,T,G,v5,rfl,s3,ht,hg,sT,sG⟩
   obtain ⟨z,hz,rfl⟩:=cB hi
   have lT:=sT.len
   have lG:=sG.len
   rw [List.length_take] at lT lG
   dsimp only [ir]
   refine m9 (LsT H c dg b tk gk z (L.take (i + 1)) G) ?_ (fun N hN=>?_)
   ·rintro σ1 H4 ⟨T',rfl,s4,ht4,hg4,sT'⟩
    refine m9 (LsG H c dg b tk gk z (L.take (i + 1)) T') ?_ (fun N hN=>?_)
    ·rintro σ2 H5 ⟨G',rfl,s5,ht5,hg5,sG'⟩
     refine ⟨_,rfl,_,_,rfl,rfl,⟨by decide,by decide⟩,?_⟩
     exact ⟨_,T',G',_,rfl,s5,ht5,hg5,sT',sG'⟩
    ·have yes:N [some (.int c),some (.ref b),some (.int dg),some (.ref tk),some (.ref gk),some (.str z)] (upd H4 gk (.lst (av G ++ [V.str z]))):=hN _ _ ⟨G ++ [z],rfl,aH s4 ngk0,by rw [af ntg];exact ht4,by rw [ae,eF],sG.add hL hz⟩
     have no:N [some (.int c),some (.ref b),some (.int dg),some (.ref tk),some (.ref gk),some (.str z)] H4:=hN _ _ ⟨G,rfl,s4,ht4,hg4,sG.skip⟩
     have put:∀ {R:Prop},(R = (N [some (.int c),some (.ref b),some (.int dg),some (.ref tk),some (.ref gk),some (.str z)] (upd H4 gk (.lst (av G ++ [V.str z])))))→R:=fun e=>by rw [e];exact yes
     refine ⟨_,rfl,_,_,rfl,rfl,(by show (0:Int) < 7;decide),rfl,_,rfl,?_⟩
     refine vS (fun _=>?_) (fun _=>?_)
     ·refine bN ?_
      exact ⟨_,rfl,.inl ⟨rfl,_,aY.of hg4⟩,_,rfl,gk,_,_,rfl,rfl,hg4,by rw [ao];lia,yes⟩
     ·refine ⟨_,rfl,_,_,rfl,rfl,(by show (0:Int) < 7;decide),rfl,_,rfl,?_⟩
      refine vS (fun _=>?_) (fun _=>?_)
      ·exact ⟨_,rfl,.inl ⟨rfl,_,aY.of hg4⟩,_,rfl,gk,_,_,rfl,rfl,hg4,by rw [ao];lia,yes⟩
      ·exact no
   ·have yes:N [some (.int c),some (.ref b),some (.int dg),some (.ref tk),some (.ref gk),some (.str z)] (upd H3 tk (.lst (av T ++ [V.str z]))):=hN _ _ ⟨T ++ [z],rfl,aH s3 ntk,by rw [ae,eF],by rw [af ntg.symm];exact hg,sT.add hL hz⟩
    have no:N [some (.int c),some (.ref b),some (.int dg),some (.ref tk),some (.ref gk),some (.str z)] H3:=hN _ _ ⟨T,rfl,s3,ht,hg,sT.skip⟩
    refine ⟨_,rfl,_,_,rfl,rfl,(by show (0:Int) < 7;decide),rfl,_,rfl,?_⟩
    refine vS (fun _=>?_) (fun _=>?_)
    ·refine bN ?_
     exact ⟨_,rfl,.inl ⟨rfl,_,aY.of ht⟩,_,rfl,tk,_,_,rfl,rfl,ht,by rw [ao];lia,yes⟩
    ·refine ⟨_,rfl,_,_,rfl,rfl,(by show (0:Int) < 7;decide),rfl,_,rfl,?_⟩
     refine vS (fun _=>?_) (fun _=>?_)
     ·exact ⟨_,rfl,.inl ⟨rfl,_,aY.of ht⟩,_,rfl,tk,_,_,rfl,rfl,ht,by rw [ao];lia,yes⟩
     ·exact no
  ·rintro σ H3 ⟨dg,T,G,v5,rfl,s3,ht,hg,sT,sG⟩
   rw [ao,List.take_length] at sT sG
   dsimp only
   refine m9 (LsE H c dg b tk gk v5 L G) ?_ (fun N hN=>?_)
   ·rintro σ1 H4 ⟨T',rfl,s4,ht4,hg4,sT',lT'⟩
    refine ⟨_,rfl,_,rfl,tk,_,rfl,aY.of ht4,fun l nl=>?_⟩
    rw [show kL (av T') none (some 4) = av (T'.take 4) from nU T' 4]
    have s5:au H4 (upd H4 l (.lst (av (T'.take 4)))):=aj nl
    have h5:(upd H4 l (.lst (av (T'.take 4)))) l = some (.lst (av (T'.take 4))):=ae
    have hg5:=s5 _ _ hg4
    generalize upd H4 l (.lst (av (T'.take 4))) = H5 at s5 h5 hg5 ⊢
    refine ⟨_,rfl,_,rfl,gk,_,rfl,aY.of hg5,fun g ng=>?_⟩
    rw [show kL (av G) none (some 4) = av (G.take 4) from nU G 4]
    have s6:au H5 (upd H5 g (.lst (av (G.take 4)))):=aj ng
    have h6:(upd H5 g (.lst (av (G.take 4)))) g = some (.lst (av (G.take 4))):=ae
    have h56:=s6 _ _ h5
    generalize upd H5 g (.lst (av (G.take 4))) = H6 at s6 h6 h56 ⊢
    refine ⟨by show 2≤sizeLine;lia,fun t nt=>?_⟩
    have s7:au H6 (upd H6 t (.tup [.ref l,.ref g])):=aj nt
    refine kk _ t l g (T'.take 4) (G.take 4) (s4.trans (s5.trans (s6.trans s7))) ((s4.trans (s5.trans s6)).free nt) (s4.free nl) ((s4.trans s5).free ng) ae (s7 _ _ h56) (s7 _ _ h6) ⟨sT'.nd.sublist (List.take_sublist _ _),sG.nd.sublist (List.take_sublist _ _),by rw [List.length_take];lia,by rw [List.length_take];lia,by rw [List.length_take];lia,fun x hx=>sT'.inn x (List.mem_of_mem_take hx),fun x hx=>sG.inn x (List.mem_of_mem_take hx)⟩
   ·refine ⟨_,rfl,Nat.zero_le _,fun e ne=>?_⟩
    have s4:au H3 (upd H3 e (.lst [])):=aj ne
    have h4:(upd H3 e (.lst [])) e = some (.lst []):=ae
    have ht4:=s4 _ _ ht
    have hg4:=s4 _ _ hg
    have s04:=s3.trans s4
    generalize upd H3 e (.lst []) = H4 at s4 h4 ht4 hg4 s04 ⊢
    refine ⟨tk,e,_,rfl,rfl,hu0,aY.of ht4,aY.of h4,_,rfl,?_⟩
    cases T with
    | nil =>
     refine bN ?_
     have i0:(0:Int)≤dg % (L.length:Int):=Int.emod_nonneg _ (by lia)
     have i1:dg % (L.length:Int) < (L.length:Int):=Int.emod_lt_of_pos _ (by lia)
     refine ⟨_,rfl,.inl ⟨rfl,_,aY.of ht4⟩,_,rfl,_,rfl,_,rfl,_,L.length,rfl,.inl ⟨_,s04.seq hb,(ao L).symm⟩,_,_,rfl,rfl,(by lia),b,_,_,_,rfl,rfl,s04.seq hb,qV i0 i1,tk,_,_,rfl,rfl,ht4,by show 0 < sizeLine;lia,?_⟩
     have hlt:(dg % (L.length:Int)).toNat < L.length:=by lia
     refine hN _ _ ⟨[L.getD (dg % (L.length:Int)).toNat ""],rfl,aH s04 ntk,ae,by rw [af ntg.symm];exact hg4,⟨by simp,fun x hx=>?_⟩,by simp⟩
     rw [List.mem_singleton.mp hx,List.getD_eq_getElem?_getD,List.getElem?_eq_getElem hlt]
     exact List.getElem_mem _
    | cons a T =>
     refine bz ?_
     exact hN _ _ ⟨a :: T,rfl,s04,ht4,hg4,sT,by simp⟩
end
end Uf
end
section
namespace L2
open PySem PySem.Spec PyProof.Rows UfSrt
section
variable {K:PySem.W.Frag} {n:Nat} {ci:List Nat} {g:TG} {tt:TT} {te:TE} {σ:St} {H:Hp} {D:Addr} {Q:VK}
theorem jU {lo:Int} {m:Nat} (Pv:Nat→List V→Hp→Prop) (h0:Pv 0 [] (upd H D (.lst [])))
  (hs:∀ i ys H,i < m→Pv i ys H→g (.int (lo + i)) (oz n ci σ) H fun σ2 H2=>tt σ2 H2 fun b H3=>if b = true then te σ2 H3 fun y H4=>H4 D = some (.lst ys)∧ys.length < sizeLine∧Pv (i + 1) (ys ++ [y]) (upd H4 D (.lst (ys ++ [y]))) else Pv (i + 1) ys H3)
  (hd:∀ ys H,Pv m ys H→Q (.ref D) H) :
  gP n ci (Br lo m) g tt te σ H D Q:=by
 unfold gP
 refine ⟨m,Pv,h0,fun i ys H hi p=>?_⟩
 by_cases hlt:i < m
 ·refine .inr ⟨hlt,hlt,fun v H' y=>?_⟩
  obtain ⟨e,rfl⟩:=y
  subst e
  exact hs i ys _ hlt p
 ·have e:i = m:=by lia
  subst e
  exact .inl ⟨Nat.le_refl _,hd ys H p⟩
theorem tE {a:Addr} {xs:List V} (Pv:Nat→List V→Hp→Prop) (h0:Pv 0 [] (upd H D (.lst []))) (hl:∀ i ys H,i≤xs.length→Pv i ys H→aY K H a xs)
  (hs:∀ i x p ys H,xs[i]? = some x→Pv i ys H→H p = none→g (.ref p) (oz n ci σ) (upd H p (.tup [.int (i:Int),x])) fun σ2 H2=>tt σ2 H2 fun b H3=>if b = true then te σ2 H3 fun y H4=>H4 D = some (.lst ys)∧ys.length < sizeLine∧Pv (i + 1) (ys ++ [y]) (upd H4 D (.lst (ys ++ [y]))) else Pv (i + 1) ys H3)
  (hd:∀ ys H,Pv xs.length ys H→Q (.ref D) H) :
  gP n ci (CJ K a) g tt te σ H D Q:=by
 unfold gP
 refine ⟨xs.length,Pv,h0,fun i ys H hi p=>?_⟩
 have q:=hl i ys H hi p
 by_cases hlt:i < xs.length
 ·refine .inr ⟨hlt,⟨xs,xs[i],q,by simp [hlt]⟩,fun x H' y=>?_⟩
  obtain ⟨pp,v,rfl,hn,rfl,hv⟩:=y
  exact hs i v pp ys _ (hv xs q) p hn
 ·have e:i = xs.length:=by lia
  subst e
  exact .inl ⟨⟨xs,q,Nat.le_refl _⟩,hd ys H p⟩
end
end L2
namespace Uf
open PySem L2 UfSrt UfStr UfFin
abbrev iX:Stmt:=top 53
abbrev gp:Stmt:=top 54
theorem p9 (ns:List Int) (lo hi:Nat):∃ cs:List Int,kL (ns.map V.int) (some ((lo:Nat):Int)) (some ((hi:Nat):Int)) = cs.map V.int∧cs.length≤hi - lo:=by
 refine ⟨(ns.drop (HT.kS ns.length 0 (some ((lo:Nat):Int)))).take (HT.kS ns.length ns.length (some ((hi:Nat):Int)) - HT.kS ns.length 0 (some ((lo:Nat):Int))),?_,?_⟩
 ·unfold kL
  rw [List.length_map,List.map_take,List.map_drop]
 ·rw [List.length_take]
  have e1:HT.kS ns.length 0 (some ((lo:Nat):Int)) = min lo ns.length:=HT.mI _ _ lo
  have e2:HT.kS ns.length ns.length (some ((hi:Nat):Int)) = min hi ns.length:=HT.mI _ _ hi
  rw [e1,e2,List.length_drop]
  lia
def ju (H:Hp) (a:Addr) (ms:List Mv):Prop:=∃ qs:List Addr,H a = some (.lst (qs.map V.ref))∧Paired (nX H) ms qs
theorem ju.same {H H' : Hp} {a:Addr} {ms:List Mv} (s:au H H') (h:ju H a ms):ju H' a ms:=by
 obtain ⟨qs,h1,h2⟩:=h
 exact ⟨qs,s _ _ h1,Paired.dh h2 fun m q ⟨l,g,e1,e2,e3⟩=>⟨l,g,s _ _ e1,s _ _ e2,s _ _ e3⟩⟩
theorem fb {xs:List PySem.Str} (h:∀ x ∈ xs,isNm x = true) (hl:xs.length≤200):Short xs:=⟨hl,fun x hx=>by have:=kK (h x hx);lia⟩
theorem gb {xs:List PySem.Str} (h:∀ x ∈ xs,isNm x = true) (hn:xs.Nodup):unlike xs = true:=by
 unfold unlike
 rw [List.all_eq_true.mpr h,decide_eq_true hn]
 rfl
structure mO (ms:List Mv) (S:List PySem.Str):Prop where
 net:fz ms S = true
 fit:Fits ms S
theorem vK {ms:List Mv} {S L:List PySem.Str} (lms:ms.length≤6) (hnm:∀ x ∈ names ms,isNm x = true) (hnd:(names ms).Nodup) (hL:∀ x ∈ L,isNm x = true) (lL:L.length≤6) (he:∀ m ∈ ms,oh L m.2.1 m.2.2) (hS:Sub L S):mO ms S:=by
 have mv:∀ m ∈ ms,fv m.2.1 m.2.2 = true:=fun m hm=>by
  have h:=he m hm
  unfold fv
  rw [gb (fun x hx=>hL x (h.ti x hx)) h.tn,gb (fun x hx=>hL x (h.gi x hx)) h.gn,decide_eq_true h.t1,decide_eq_true h.t4,decide_eq_true h.g4]
  rfl
 have hdd:∀ x ∈ UfSet.dd (S ++ jn ms),x ∈ L:=fun x hx=>by
  rcases List.mem_append.mp (UfSet.nu.mp hx) with z | z
  ·exact hS.inn x z
  ·unfold jn at z
   obtain ⟨m,hm,hxm⟩:=List.mem_flatMap.mp z
   rcases List.mem_append.mp hxm with z | z
   ·exact (he m hm).ti x z
   ·exact (he m hm).gi x z
 have ldd:(UfSet.dd (S ++ jn ms)).length≤6:=Nat.le_trans (fq (UfSet.kI _) hdd) lL
 have lS:S.length≤6:=Nat.le_trans hS.len lL
 have lpl:∀ l:List Mv,(∀ m ∈ l,oh L m.2.1 m.2.2)→(jn l).length≤8 * l.length:=fun l=>by
  induction l with
  | nil=>intro _;exact Nat.le_refl _
  | cons m r ih =>
   intro hl
   have h1:=ih fun m hm=>hl m (List.mem_cons_of_mem _ hm)
   have a1:=(hl m List.mem_cons_self).t4
   have a2:=(hl m List.mem_cons_self).g4
   unfold jn at h1 ⊢
   rw [List.flatMap_cons,List.length_append,List.length_append,List.length_cons]
   lia
 have lp:=lpl ms he
 have ln:(names ms).length = ms.length:=by unfold names;rw [List.length_map]
 constructor
 ·unfold fz
  rw [decide_eq_true (show ms.length≤12 by lia),gb hnm hnd,List.all_eq_true.mpr mv,gb (fun x hx=>hL x (hS.inn x hx)) hS.nd,decide_eq_true (show (cF ms S).length≤12 by unfold cF;rw [d8];lia)]
  rfl
 ·refine ⟨fb hnm (by lia),fun m hm=>?_,fun m hm=>?_,fb (fun x hx=>hL x (hS.inn x hx)) (by lia),by rw [List.length_append];lia,by lia⟩
  ·exact fb (fun x hx=>hL x ((he m hm).ti x hx)) (by have:=(he m hm).t4;lia)
  ·exact fb (fun x hx=>hL x ((he m hm).gi x hx)) (by have:=(he m hm).g4;lia)
def iS (seed:Int):List PySem.Str:=(List.range 6).map fun k=>dB k seed
theorem r9 (seed:Int) {j:Nat} (h:j < 6):(List.range (j + 1)).map (fun k=>dB k seed) = (List.range j).map (fun k=>dB k seed) ++ [dB j seed]:=by rw [List.range_succ,List.map_append];rfl
theorem jc (seed:Int):∀ (n:Nat),n≤6→((List.range n).map fun k=>dB k seed).Nodup
 | 0,_=>by simp
 | n + 1,h=>by
  rw [List.range_succ,List.map_append]
  refine List.nodup_append.mpr ⟨jc seed n (by lia),by simp,fun a ha b hb e=>?_⟩
  obtain ⟨k,hk,rfl⟩:=List.mem_map.mp ha
  have eb:b = dB n seed:=by simpa using hb
  have:=List.mem_range.mp hk
  have:=uO (by lia) (by lia) (e.trans eb)
  lia
theorem AM (seed:Int):∀ x ∈ iS seed,isNm x = true:=fun x hx=>by
 obtain ⟨k,_,rfl⟩:=List.mem_map.mp hx
 exact rn k seed
theorem jo (seed:Int):(iS seed).length = 6:=by unfold iS;rw [List.length_map,List.length_range]
theorem wx (seed:Int) {j:Nat} (h:j < 6):(iS seed)[j]? = some (dB j seed):=by
 unfold iS
 rw [List.getElem?_map,List.getElem?_range h]
 rfl
section
variable {P:Program} {w:World} {K:PySem.W.Frag} {mg:PySem.Str→Option Value} {base:Heap}
def vL (C:Addr):Sp:=fun vs H Q _=>∃ (d a l:Addr) (ms:List Mv) (S:List PySem.Str),vs = [.ref d]∧H d = some (.tup [.ref a,.ref l])∧ju H a ms∧H l = some (.lst (av S))∧mO ms S∧∀ H' p,au H H'→bR C H' p ms S→Q (.ref p) H'
theorem zm:aI ["_law_drawn"] ["_law_drawn"] (ai iX):=⟨rfl,rfl,rfl,by decide +kernel,rfl,by decide +kernel,by decide +kernel⟩
theorem xK {f C fI:Addr} {fd fdI:FuncData} (F:eZ K "_law_made" "_law_made" iX f fd) (T:Txt K mg) (mgC:mg "Net" = some (.ref C)) (M:Mk K C fI) (bI:Binds K fdI ["self", "moves", "start"] []) (GI:aE P w K mg base bQ 5 fI fdI ["self", "moves", "start"] (tW K C)):aE P w K mg base bQ 7 f fd ["_law_drawn"] (vL C):=by
 refine F.ok zm (fun vs H Q E h=>?_) (fun cdv A outer s H vs Q E hr h=>?_)
 ·obtain ⟨d,a,l,ms,S,rfl,_⟩:=h
  rfl
 ·obtain ⟨d,a,l,ms,S,rfl,hd,hrow,hl,ok,kk⟩:=h
  have hsl:=PySem.sizeLine_eq
  refine ⟨_,aq (aJ (xf M GI hr rfl mgC bI .nil aX (aa (cG (N:=["_law_name_here", "_law_takes", "_law_gives"]) (n:=3) (ci:=[]) rfl (br (cP dC (pv 0) aw (fun _ _=>rfl))) (nj.of (so:=ai iX) (N0:=["_law_drawn"]) ⟨rfl,by decide +kernel,by decide +kernel,by decide +kernel,rfl,rfl,by decide +kernel,by decide +kernel⟩) (fun z=>⟨(gI rfl (bc (aA (i:=0) (cJ (N:=["_law_name_here", "_law_takes", "_law_gives"]) (by decide +kernel)) rfl (Or.inl rfl)) (bc (aA (i:=1) (cJ (N:=["_law_name_here", "_law_takes", "_law_gives"]) (by decide +kernel)) rfl (Or.inl rfl)) (bc (aA (i:=2) (cJ (N:=["_law_name_here", "_law_takes", "_law_gives"]) (by decide +kernel)) rfl (Or.inl rfl)) fe)))),cT,dI (aa (pv 0) (aa (ba bu rfl T.lst dY (aa (pv 1) ag)) (aa (ba bu rfl T.lst dY (aa (pv 2) ag)) ag)))⟩)) (aa (ba bu rfl T.lst dY (aa (cP dC (pv 0) aw (fun _ _=>rfl)) ag)) ag)))),?_⟩
  obtain ⟨qs,hqs,pqs⟩:=id hrow
  have lqs:=Paired.length pqs
  have so:=kF ok.net
  have lm:=so.ml
  refine ⟨_,rfl,d,_,0,_,rfl,rfl,cV.of hd,cj (j:=0) rfl,a,rfl,⟨_,aY.of hqs⟩,fun z D hD=>bK (a:=a) (xs:=qs.map V.ref) (fun j ys H4=>∃ qs' : List Addr,ys = qs'.map V.ref∧H4 D = some (.lst ys)∧au H H4∧Paired (fun (m:Mv) q=>∃ l g,H4 q = some (.tup [.str m.1,.ref l,.ref g])∧l≠D∧g≠D∧H4 l = some (.lst (av m.2.1))∧H4 g = some (.lst (av m.2.2))) (ms.take j) qs') ⟨[],rfl,ae,aj hD,.nil⟩ (fun j ys H4 _ ⟨_,_,_,s4,_⟩=>aY.of (s4 _ _ hqs)) ?_ ?_⟩
  ·rintro j v ys H4 hj ⟨qs',rfl,hys,s4,pq⟩
   obtain ⟨q,hq,rfl⟩:=dA hj
   obtain ⟨m,hm,l',g',e1,e2,e3⟩:=bp pqs hq
   refine ⟨q,_,rfl,cV.of (s4 _ _ e1),rfl,_,_,rfl,_,_,rfl,_,_,rfl,rfl,?_⟩
   refine ⟨_,rfl,_,rfl,l',_,rfl,.inl (aY.of (s4 _ _ e2)),fun l1 nl1=>?_⟩
   have s5:au H4 (upd H4 l1 (.lst (av m.2.1))):=aj nl1
   have hl1:(upd H4 l1 (.lst (av m.2.1))) l1 = some (.lst (av m.2.1)):=ae
   have nl1D:l1≠D:=(ak hys nl1).symm
   generalize upd H4 l1 (.lst (av m.2.1)) = H5 at s5 hl1 ⊢
   refine ⟨_,rfl,g',_,rfl,.inl (aY.of ((s4.trans s5) _ _ e3)),fun g1 ng1=>?_⟩
   have s6:au H5 (upd H5 g1 (.lst (av m.2.2))):=aj ng1
   have hg1:(upd H5 g1 (.lst (av m.2.2))) g1 = some (.lst (av m.2.2)):=ae
   have ng1D:g1≠D:=(ak (s5 _ _ hys) ng1).symm
   generalize upd H5 g1 (.lst (av m.2.2)) = H6 at s6 hg1 ⊢
   refine ⟨by show 3≤sizeLine;lia,fun t nt=>?_⟩
   have s7:au H6 (upd H6 t (.tup [.str m.1,.ref l1,.ref g1])):=aj nt
   have ht:(upd H6 t (.tup [.str m.1,.ref l1,.ref g1])) t = some (.tup [.str m.1,.ref l1,.ref g1]):=ae
   have s47:=s5.trans (s6.trans s7)
   have hys7:=s47 _ _ hys
   have hl17:=(s6.trans s7) _ _ hl1
   have hg17:=s7 _ _ hg1
   have lq:=Paired.length pq
   rw [List.length_take] at lq
   generalize upd H6 t (.tup [.str m.1,.ref l1,.ref g1]) = H7 at s7 ht s47 hys7 hl17 hg17 ⊢
   refine ⟨hys7,(by rw [List.length_map];lia),qs' ++ [t],by rw [List.map_append];rfl,ae,aH (s4.trans s47) hD,?_⟩
   rw [ar hm]
   refine Paired.snoc (Paired.dh pq fun m q ⟨l,g,e1,e2,e3,e4,e5⟩=>⟨l,g,?_,e2,e3,?_,?_⟩) ⟨l1,g1,?_,nl1D,ng1D,?_,?_⟩
   ·rw [af (aR (s47 _ _ e1) hys7 (fun z=>nomatch z))];exact s47 _ _ e1
   ·rw [af e2];exact s47 _ _ e4
   ·rw [af e3];exact s47 _ _ e5
   ·rw [af (aR ht hys7 (fun z=>nomatch z))];exact ht
   ·rw [af nl1D];exact hl17
   ·rw [af ng1D];exact hg17
  ·rintro ys H4 ⟨qh,rfl,hD4,s4,pq⟩
   rw [List.length_map,← lqs,List.take_length] at pq
   refine ⟨_,rfl,d,_,1,_,rfl,rfl,cV.of (s4 _ _ hd),cj (j:=1) rfl,l,av S,rfl,.inl (aY.of (s4 _ _ hl)),fun be nbe=>?_⟩
   have s5:au H4 (upd H4 be (.lst (av S))):=aj nbe
   have hbe:(upd H4 be (.lst (av S))) be = some (.lst (av S)):=ae
   generalize upd H4 be (.lst (av S)) = H5 at s5 hbe ⊢
   intro x dx nx ndx nex
   have sn:au H5 (upd (upd H5 dx (.own x)) x (.ins C dx [])):=fun b o e=>by
    rw [af (ak e nx),af (ak e ndx)]
    exact e
   refine ⟨x,dx,D,be,ms,S,rfl,ae,⟨qh,aY.of ((s5.trans sn) _ _ hD4),Paired.dh pq fun m q ⟨l,g,e1,_,_,e6,e7⟩=>⟨l,g,(s5.trans sn) _ _ e1,(s5.trans sn) _ _ e6,(s5.trans sn) _ _ e7⟩⟩,aY.of (sn _ _ hbe),ok.fit,ok.net,fun H7 NA kp=>⟨rfl,?_⟩⟩
   have s57:au H5 H7:=fun b o e=>kp b o (sn b o e) (ak e nx)
   exact kk H7 x (s4.trans (s5.trans s57)) ⟨NA,so⟩
end
end Uf
end
section
namespace Uf
open PySem L2 UfSrt UfStr UfFin
def yr (L:List PySem.Str) (H:Hp) (D:Addr) (e:List PySem.Str × List PySem.Str) (q:Addr):Prop:=∃ l g,H q = some (.tup [.ref l,.ref g])∧l≠D∧g≠D∧H l = some (.lst (av e.1))∧H g = some (.lst (av e.2))∧oh L e.1 e.2
def rowsOf (seed:Int) (Es:List (List PySem.Str × List PySem.Str)):List Mv:=(Es.zipIdx).map fun p=>(dB p.2 seed,p.1.1,p.1.2)
theorem tI (seed:Int) (Es:List (List PySem.Str × List PySem.Str)) (e:List PySem.Str × List PySem.Str):rowsOf seed (Es ++ [e]) = rowsOf seed Es ++ [(dB Es.length seed,e.1,e.2)]:=by
 unfold rowsOf
 rw [List.zipIdx_append,List.map_append,Nat.zero_add]
 rfl
theorem ko (seed:Int) (Es:List (List PySem.Str × List PySem.Str)):names (rowsOf seed Es) = (List.range Es.length).map fun k=>dB k seed:=by
 have e:names (rowsOf seed Es) = ((Es.zipIdx).map Prod.snd).map fun k=>dB k seed:=by
  unfold names rowsOf
  rw [List.map_map,List.map_map]
  rfl
 rw [e,List.zipIdx_map_snd,List.range_eq_range']
theorem uc {seed:Int} {Es:List (List PySem.Str × List PySem.Str)} {m:Mv} (h:m ∈ rowsOf seed Es):(m.2.1,m.2.2) ∈ Es:=by
 unfold rowsOf at h
 obtain ⟨p,hp,rfl⟩:=List.mem_map.mp h
 exact List.fst_mem_of_mem_zipIdx hp
section
variable {P:Program} {w:World} {K:PySem.W.Frag} {mg:PySem.Str→Option Value} {base:Heap}
def wz (K:PySem.W.Frag):Sp:=fun vs H Q _=>∃ (a:Addr) (ns:List Int),vs = [.ref a]∧aY K H a (ns.map V.int)∧ns.length≤63 ∧
 ∀ H' d rl bl ms S,au H H'→H' d = some (.tup [.ref rl,.ref bl])→ju H' rl ms→H' bl = some (.lst (av S))→mO ms S→Q (.ref d) H'
theorem kQ:aI ["_law_script", "_law_seed", "_law_names", "_law_steps", "_law_beads"] ["_law_script"] (ai gp):=⟨rfl,rfl,rfl,by decide +kernel,rfl,by decide +kernel,by decide +kernel⟩
theorem wX {f fA fN fL:Addr} {fd fdA fdN fdL:FuncData} (F:eZ K "_law_wild" "_law_wild" gp f fd) (T:Txt K mg) (T2:Txt2 mg)
  (DA:Def K mg "_law_at" yz ["_law_script", "_law_k"] fA fdA) (GA:aE P w K mg base bQ 1 fA fdA ["_law_script", "_law_k"] (u9 K))
  (DN:Def K mg "_law_name" jC ["_law_k", "_law_seed"] fN fdN) (GN:aE P w K mg base bQ 1 fN fdN ["_law_k", "_law_seed"] tZ)
  (DL:Def K mg "_law_loose_step" gT ["_law_cell", "_law_names"] fL fdL) (GL:aE P w K mg base bQ 1 fL fdL ["_law_cell", "_law_names"] (rE K)) :
  aE P w K mg base bQ 2 f fd ["_law_script"] (wz K):=by
 refine F.ok kQ (fun vs H Q E h=>?_) (fun cdv A outer s H vs Q E hr h=>?_)
 ·obtain ⟨a,ns,rfl,_⟩:=h
  rfl
 ·obtain ⟨a,ns,rfl,ha,hz,kk⟩:=h
  have hsl:=PySem.sizeLine_eq
  refine ⟨_,ah (aM (i:=1) kQ.nd rfl (Or.inr rfl) (aK GA hr rfl DA.mg DA.fn.kp DA.bd .nil aX (aa (pv 0) (aa aw ag))))
   (ah (aM (i:=2) kQ.nd rfl (Or.inr rfl) (cG (N:=["_law_k", "_law_seed"]) (n:=1) (ci:=[1]) rfl (my rfl T2.rng (aa aw ag))
    (nj.of (so:=ai gp) (N0:=["_law_script", "_law_seed", "_law_names", "_law_steps", "_law_beads"]) ⟨rfl,by decide +kernel,by decide +kernel,by decide +kernel,rfl,rfl,by decide +kernel,by decide +kernel⟩)
    (fun z=>⟨aA (i:=0) (cJ (N:=["_law_k", "_law_seed"]) (by decide +kernel)) rfl (Or.inl rfl),cT,aK GN hr rfl DN.mg DN.fn.kp DN.bd .nil aX (aa (pv 0) (aa (pv 1) ag))⟩)))
   (ah (jR (j:=3) (N:=["_law_cell", "_law_names"]) (n:=1) (ci:=[2]) rfl kQ.nd rfl rfl (br (ft mU (pv 0) (fY aw) (fY aw)))
    (nj.of (so:=ai gp) (N0:=["_law_script", "_law_seed", "_law_names", "_law_steps", "_law_beads"]) ⟨rfl,by decide +kernel,by decide +kernel,by decide +kernel,rfl,rfl,by decide +kernel,by decide +kernel⟩)
    (fun z=>⟨aA (i:=0) (cJ (N:=["_law_cell", "_law_names"]) (by decide +kernel)) rfl (Or.inl rfl),cT,aK GL hr rfl DL.mg DL.fn.kp DL.bd .nil aX (aa (pv 0) (aa (pv 1) ag))⟩))
   (ah (jR (j:=4) (N:=["_law_k", "_law_names", "_law_script"]) (n:=1) (ci:=[2,0]) rfl kQ.nd rfl rfl (my rfl T2.rng (aa aw ag))
    (nj.of (so:=ai gp) (N0:=["_law_script", "_law_seed", "_law_names", "_law_steps", "_law_beads"]) ⟨rfl,by decide +kernel,by decide +kernel,by decide +kernel,rfl,rfl,by decide +kernel,by decide +kernel⟩)
    (fun z=>⟨aA (i:=0) (cJ (N:=["_law_k", "_law_names", "_law_script"]) (by decide +kernel)) rfl (Or.inl rfl),iW (bJ iP (aU uB (aU zy (aU ez (aK GA hr rfl DA.mg DA.fn.kp DA.bd .nil aX (aa (pv 2) (aa aw ag))) aw) (pv 0)) aw) aw (cA _)),cP hU (pv 1) (pv 0) (fun _ _=>rfl)⟩))
   (aq (aJ (dI (aa (cG (N:=["_law_k", "_law_ends", "_law_seed"]) (n:=2) (ci:=[1]) rfl (xp rfl T2.enm (aa (pv 3) ag))
    (nj.of (so:=ai gp) (N0:=["_law_script", "_law_seed", "_law_names", "_law_steps", "_law_beads"]) ⟨rfl,by decide +kernel,by decide +kernel,by decide +kernel,rfl,rfl,by decide +kernel,by decide +kernel⟩)
    (fun z=>⟨(gI rfl (bc (aA (i:=0) (cJ (N:=["_law_k", "_law_ends", "_law_seed"]) (by decide +kernel)) rfl (Or.inl rfl)) (bc (aA (i:=1) (cJ (N:=["_law_k", "_law_ends", "_law_seed"]) (by decide +kernel)) rfl (Or.inl rfl)) fe))),cT,dI (aa (aK GN hr rfl DN.mg DN.fn.kp DN.bd .nil aX (aa (pv 0) (aa (aU ez (pv 2) aw) ag))) (aa (cP dC (pv 1) aw (fun _ _=>rfl)) (aa (cP dC (pv 1) aw (fun _ _=>rfl)) ag)))⟩)) (aa (pv 4) ag)))))))),?_⟩
  refine ⟨_,rfl,a,ns,1,rfl,ha,hz,?_⟩
  generalize ns.getD 1 0 = seed
  refine ⟨_,rfl,by decide,by decide,fun z D hD=>jU (lo:=0) (m:=6) (fun j ys H1=>ys = av ((List.range j).map fun k=>dB k seed)∧H1 D = some (.lst ys)∧au H H1) ⟨rfl,ae,aj hD⟩ ?_ ?_⟩
  ·rintro j ys H1 hj ⟨rfl,hys,s1⟩
   rw [show (0:Int) + (j:Int) = j from Int.zero_add _]
   refine ⟨_,rfl,_,rfl,j,seed,rfl,by lia,fun H2 s2=>⟨s2 _ _ hys,by rw [ao,List.length_map,List.length_range];lia,?_,ae,aH (s1.trans s2) hD⟩⟩
   rw [r9 seed hj,← eF]
  rintro ys H1 ⟨rfl,hys,s1⟩
  have hP:H1 D = some (.lst (av (iS seed))):=hys
  clear hys
  obtain ⟨cs,ecs,lcs⟩:=p9 ns 3 9
  have ecs:kL (ns.map V.int) (some (3:Int)) (some (9:Int)) = cs.map V.int:=ecs
  refine ⟨_,rfl,_,rfl,_,rfl,a,_,rfl,s1.seq ha,fun q3 n3=>?_⟩
  rw [ecs]
  have s2:au H1 (upd H1 q3 (.lst (cs.map V.int))):=aj n3
  have hq3:(upd H1 q3 (.lst (cs.map V.int))) q3 = some (.lst (cs.map V.int)):=ae
  have hP2:=s2 _ _ hP
  have s02:=s1.trans s2
  generalize upd H1 q3 (.lst (cs.map V.int)) = H2 at s2 hq3 hP2 s02 ⊢
  refine ⟨q3,rfl,⟨_,aY.of hq3⟩,fun z2 D2 hD2=>bK (a:=q3) (xs:=cs.map V.int) (fun j ys H4=>∃ (qs:List Addr) (Es:List (List PySem.Str × List PySem.Str)),ys = qs.map V.ref∧Es.length = j∧H4 D2 = some (.lst ys)∧au H2 H4∧Paired (yr (iS seed) H4 D2) Es qs) ⟨[],[],rfl,rfl,ae,aj hD2,.nil⟩ (fun j ys H4 _ ⟨_,_,_,_,_,s4,_⟩=>aY.of (s4 _ _ hq3)) ?_ ?_⟩
  ·rintro j v ys H4 hj ⟨qs,Es,rfl,lE,hys,s4,pq⟩
   have hjl:j < cs.length:=by
    have:=(List.getElem?_eq_some_iff.mp hj).1
    rwa [List.length_map] at this
   obtain ⟨ce,rfl⟩ : ∃ z,v = V.int z:=by
    rw [List.getElem?_map] at hj
    cases e:cs[j]? with
    | none=>rw [e] at hj;cases hj
    | some z=>rw [e] at hj;exact ⟨z,(Option.some.inj hj).symm⟩
   have lq:=Paired.length pq
   refine ⟨_,rfl,_,rfl,ce,D,iS seed,rfl,aY.of (s4 _ _ hP2),jc seed 6 (Nat.le_refl _),by rw [jo];decide,by rw [jo];decide,fun H5 t l g Tk G s5 nt nl ng ht hl hg he=>?_⟩
   have hys5:=s5 _ _ hys
   have lD:l≠D2:=(ak hys nl).symm
   have gD:g≠D2:=(ak hys ng).symm
   refine ⟨hys5,by rw [List.length_map];lia,qs ++ [t],Es ++ [(Tk,G)],by rw [List.map_append];rfl,by rw [List.length_append,lE];rfl,ae,aH (s4.trans s5) hD2,?_⟩
   refine Paired.snoc (Paired.dh pq fun e q ⟨l,g,e1,n1,n2,e2,e3,e4⟩=>⟨l,g,?_,n1,n2,?_,?_,e4⟩) ⟨l,g,?_,lD,gD,?_,?_,he⟩
   ·rw [af (aR (s5 _ _ e1) hys5 (fun z=>nomatch z))];exact s5 _ _ e1
   ·rw [af n1];exact s5 _ _ e2
   ·rw [af n2];exact s5 _ _ e3
   ·rw [af (aR ht hys5 (fun z=>nomatch z))];exact ht
   ·rw [af lD];exact hl
   ·rw [af gD];exact hg
  rintro ys H4 ⟨qs,Es,rfl,lE,hys,s4,pE⟩
  rw [List.length_map] at lE
  have hP4:=s4 _ _ hP2
  have s04:=s02.trans s4
  refine ⟨_,rfl,by decide,by decide,fun z3 D3 hD3=>jU (lo:=0) (m:=6) (fun j ys H6=>∃ S:List PySem.Str,ys = av S∧Sub ((iS seed).take j) S∧H6 D3 = some (.lst ys)∧au H4 H6) ⟨[],rfl,⟨.nil,fun x hx=>by simp at hx⟩,ae,aj hD3⟩ ?_ ?_⟩
  ·rintro j ys H6 hj ⟨S,rfl,sS,hys6,s6⟩
   rw [show (0:Int) + (j:Int) = j from Int.zero_add _]
   have lS:=sS.len
   rw [List.length_take,jo] at lS
   refine ⟨_,rfl,a,ns,2,rfl,(s04.trans s6).seq ha,hz,_,_,rfl,rfl,⟨by decide,by decide⟩,_,rfl,_,_,rfl,rfl,(by lia),_,_,rfl,rfl,rfl,_,rfl,?_⟩
   refine vS (fun _=>?_) (fun _=>?_)
   ·refine ⟨_,rfl,_,rfl,D,_,_,_,rfl,rfl,aY.of (s6 _ _ hP4),qV (by lia) (by rw [jo];lia),hys6,by rw [ao];lia,S ++ [dB j seed],?_,sS.add (jc seed 6 (Nat.le_refl _)) (wx seed hj),ae,aH s6 hD3⟩
    have e:(iS seed).getD ((j:Nat):Int).toNat "" = dB j seed:=by rw [Int.toNat_natCast,List.getD_eq_getElem?_getD,wx seed hj];rfl
    rw [e,eF]
   ·exact ⟨S,rfl,sS.skip,hys6,s6⟩
  rintro ys H6 ⟨S,rfl,sS,hS6,s6⟩
  have sS:Sub (iS seed) S:=by rw [List.take_of_length_le (by rw [jo];exact Nat.le_refl _)] at sS;exact sS
  have pE6:Paired (yr (iS seed) H6 D2) Es qs:=Paired.dh pE fun e q ⟨l,g,e1,n1,n2,e2,e3,e4⟩=>⟨l,g,s6 _ _ e1,n1,n2,s6 _ _ e2,s6 _ _ e3,e4⟩
  have hD26:=s6 _ _ hys
  have lq:=Paired.length pE
  refine ⟨_,rfl,D2,rfl,⟨_,aY.of hD26⟩,fun z4 D4 hD4=>tE (a:=D2) (xs:=qs.map V.ref) (fun j ys H8=>∃ rs:List Addr,ys = rs.map V.ref∧rs.length = j∧H8 D4 = some (.lst ys)∧au H6 H8∧Paired (fun (m:Mv) q=>∃ l g,H8 q = some (.tup [.str m.1,.ref l,.ref g])∧l≠D4∧g≠D4∧H8 l = some (.lst (av m.2.1))∧H8 g = some (.lst (av m.2.2))) (rowsOf (seed / 10007) (Es.take j)) rs) ⟨[],rfl,rfl,ae,aj hD4,.nil⟩ (fun j ys H8 _ ⟨_,_,_,_,s8,_⟩=>aY.of (s8 _ _ hD26)) ?_ ?_⟩
  ·rintro j v tp ys H8 hj ⟨rs,rfl,lr,hys8,s8,pq⟩ ntp
   obtain ⟨q,hq,rfl⟩:=dA hj
   obtain ⟨e,he,l,g,e1,_,_,e2,e3,_⟩:=bp pE6 hq
   have hjl:j < Es.length:=(List.getElem?_eq_some_iff.mp he).1
   have lD:l≠D4:=ak e2 hD4
   have gD:g≠D4:=ak e3 hD4
   have s9:au H8 (upd H8 tp (.tup [.int (j:Int),.ref q])):=aj ntp
   refine ⟨tp,_,rfl,cV.of ae,rfl,_,_,rfl,_,_,rfl,rfl,?_⟩
   generalize upd H8 tp (.tup [.int (j:Int),.ref q]) = H9 at s9 ⊢
   refine ⟨_,rfl,_,rfl,_,_,rfl,rfl,⟨by decide,by decide⟩,j,seed / 10007,rfl,by lia,fun H10 s10=>?_⟩
   have s610:=s8.trans (s9.trans s10)
   refine ⟨_,rfl,q,_,0,_,rfl,rfl,cV.of (s610 _ _ e1),cj (j:=0) rfl,_,rfl,q,_,1,_,rfl,rfl,cV.of (s610 _ _ e1),cj (j:=1) rfl,by show 3≤sizeLine;lia,fun t nt=>?_⟩
   have s11:au H10 (upd H10 t (.tup [.str (dB j (seed / 10007)),.ref l,.ref g])):=aj nt
   have ht:(upd H10 t (.tup [.str (dB j (seed / 10007)),.ref l,.ref g])) t = some (.tup [.str (dB j (seed / 10007)),.ref l,.ref g]):=ae
   generalize upd H10 t (.tup [.str (dB j (seed / 10007)),.ref l,.ref g]) = H11 at s11 ht ⊢
   have s811:=s9.trans (s10.trans s11)
   have hys11:=s811 _ _ hys8
   refine ⟨hys11,by rw [List.length_map];lia,rs ++ [t],by rw [List.map_append];rfl,by rw [List.length_append,lr];rfl,ae,aH (s8.trans s811) hD4,?_⟩
   rw [ar he,tI]
   refine Paired.snoc (Paired.dh pq fun m q ⟨l,g,e1,n1,n2,e2,e3⟩=>⟨l,g,?_,n1,n2,?_,?_⟩) ⟨l,g,?_,lD,gD,?_,?_⟩
   ·rw [af (aR (s811 _ _ e1) hys11 (fun z=>nomatch z))];exact s811 _ _ e1
   ·rw [af n1];exact s811 _ _ e2
   ·rw [af n2];exact s811 _ _ e3
   ·have el:(Es.take j).length = j:=by rw [List.length_take];lia
    rw [af (aR ht hys11 (fun z=>nomatch z)),el];exact ht
   ·rw [af lD];exact (s610.trans s11) _ _ e2
   ·rw [af gD];exact (s610.trans s11) _ _ e3
  rintro ys H8 ⟨rs,rfl,lr,hys8,s8,pq⟩
  rw [List.length_map,← lq,List.take_length] at pq
  refine ⟨_,rfl,by show 2≤sizeLine;lia,fun d nd=>?_⟩
  have s9:au H8 (upd H8 d (.tup [.ref D4,.ref D3])):=aj nd
  refine kk _ d D4 D3 (rowsOf (seed / 10007) Es) S (s04.trans (s6.trans (s8.trans s9))) ae ⟨rs,s9 _ _ hys8,Paired.dh pq fun m q ⟨l,g,e1,_,_,e2,e3⟩=>⟨l,g,s9 _ _ e1,s9 _ _ e2,s9 _ _ e3⟩⟩ ((s8.trans s9) _ _ hS6) ?_
  have ln:(rowsOf (seed / 10007) Es).length = Es.length:=by unfold rowsOf;rw [List.length_map,List.length_zipIdx]
  refine vK (L:=iS seed) (by lia) (fun x hx=>?_) ?_ (AM seed) (by rw [jo];exact Nat.le_refl _) (fun m hm=>?_) sS
  ·rw [ko] at hx
   obtain ⟨k,_,rfl⟩:=List.mem_map.mp hx
   exact rn k _
  ·rw [ko]
   exact jc _ _ (by lia)
  ·have hE:∀ e ∈ Es,oh (iS seed) e.1 e.2:=fun e hE=>by
    obtain ⟨k,hk⟩:=List.mem_iff_getElem?.mp hE
    have hkl:=(List.getElem?_eq_some_iff.mp hk).1
    have hq:qs[k]? = some (qs[k]'(by lia)):=List.getElem?_eq_getElem (by lia)
    obtain ⟨e',he',_,_,_,_,_,_,_,h8⟩:=bp pE hq
    rw [hk] at he'
    cases he'
    exact h8
   exact hE _ (uc hm)
end
end Uf
end
section
namespace Uf
open PySem L2 UfSrt UfFin
abbrev gB:Stmt:=top 55
theorem o9 {tk s:List Str} (hs:s.Nodup) (ht:tk.Nodup):decide ((s.length:Int) - ((s.filter fun x=>!decide (x ∈ tk)).length:Int) < (tk.length:Int)) = bL tk s:=by
 have e1:s.length = (s.filter fun x=>decide (x ∈ tk)).length + (s.filter fun x=>!decide (x ∈ tk)).length:=by
  induction s with
  | nil=>rfl
  | cons a r ih =>
   have ih:=ih (List.nodup_cons.mp hs).2
   rw [List.filter_cons,List.filter_cons]
   cases c:decide (a ∈ tk) <;> simp <;> lia
 have e2:(s.filter fun x=>decide (x ∈ tk)).length = (tk.filter fun x=>decide (x ∈ s)).length:=by
  refine ((List.perm_ext_iff_of_nodup (hs.sublist List.filter_sublist) (ht.sublist List.filter_sublist)).mpr fun x=>?_).length_eq
  rw [List.mem_filter,List.mem_filter]
  simp [and_comm]
 have le:=List.length_filter_le (fun x=>decide (x ∈ s)) tk
 cases h:bL tk s with
 | true =>
  refine decide_eq_true ?_
  unfold bL at h
  obtain ⟨x,hx,hn⟩:=List.any_eq_true.mp h
  have ne:(tk.filter fun x=>decide (x ∈ s)).length≠tk.length:=fun z=>by
   have:=List.length_filter_eq_length_iff.mp z x hx
   simp [this] at hn
  lia
 | false =>
  refine decide_eq_false ?_
  unfold bL at h
  have e:(tk.filter fun x=>decide (x ∈ s)).length = tk.length:=List.length_filter_eq_length_iff.mpr fun x hx=>by
   have:=List.any_eq_false.mp h x hx
   simpa using this
  lia
theorem og (tk gv s:List Str):(gv.map fun x=>decide (x ∈ s.filter fun y=>!decide (y ∈ tk))).any id = second tk gv s:=by
 unfold second
 rw [List.any_map]
 congr 1
 funext x
 show decide _ = _
 rw [Bool.eq_iff_iff]
 simp [List.mem_filter]
theorem vV {xs:List Str} {p:Str→Bool} {i n:Nat} (h:xs.length≤n) (hn:n≤1000):(av ((xs.take i).filter p)).length < sizeLine:=by
 have hsl:=PySem.sizeLine_eq
 rw [ao]
 have:=List.length_filter_le p (xs.take i)
 rw [List.length_take] at this
 lia
section
variable {P:Program} {w:World} {K:PySem.W.Frag} {mg:Str→Option Value} {base:Heap}
structure j4 (H:Hp) (e:Addr) (tk gv:List Str):Prop where
 ob:∃ l g,H e = some (.tup [.ref l,.ref g])∧H l = some (.lst (av tk))∧H g = some (.lst (av gv))
theorem j4.same {H H' : Hp} {e:Addr} {tk gv:List Str} (s:au H H') (h:j4 H e tk gv):j4 H' e tk gv:=by
 obtain ⟨l,g,h1,h2,h3⟩:=h.ob
 exact ⟨l,g,s _ _ h1,s _ _ h2,s _ _ h3⟩
def uy:Sp:=fun vs H Q _=>∃ (e ab:Addr) (tk gv s:List Str),vs = [.ref e,.ref ab]∧j4 H e tk gv∧fv tk gv = true∧H ab = some (.tup (av s))∧s.Nodup∧s.length≤50 ∧
 (bL tk s = true→∀ H' t,au H H'→H' t = some (.tup [.str "held",.ref ab])→Q (.ref t) H') ∧
 (bL tk s = false→second tk gv s = true→∀ H' t,au H H'→H' t = some (.tup [.str "full",.ref ab])→Q (.ref t) H') ∧
 (bL tk s = false→second tk gv s = false→∀ H' t q,au H H'→H' q = some (.tup (av (behind tk gv s)))→H' t = some (.tup [.str "done",.ref q])→Q (.ref t) H')
theorem yM:aI ["_law_ends", "_law_beads", "_law_rest"] ["_law_ends", "_law_beads"] (ai gB):=⟨rfl,rfl,rfl,by decide +kernel,rfl,by decide +kernel,by decide +kernel⟩
theorem Af {f:Addr} {fd:FuncData} (F:eZ K "_law_behind" "_law_behind" gB f fd) (T:Txt K mg) (T2:Txt2 mg):aE P w K mg base bQ 1 f fd ["_law_ends", "_law_beads"] uy:=by
 refine F.ok yM (fun vs H Q E h=>?_) (fun cdv A outer s H vs Q E hr h=>?_)
 ·obtain ⟨e,ab,tk,gv,s,rfl,_⟩:=h
  rfl
 ·obtain ⟨e,ab,tk,gv,s',rfl,hst,hmv,ha,hn,hz,k1,k2,k3⟩:=h
  have hsl:=PySem.sizeLine_eq
  obtain ⟨l,g,he,hl,hg⟩:=hst.ob
  obtain ⟨u1,u2,_,tk4,gv4⟩:=ia hmv
  refine ⟨_,ah (aM (i:=2) yM.nd rfl (Or.inr rfl) (cG (N:=["_law_place", "_law_ends"]) (n:=1) (ci:=[0]) rfl (qJ (pv 1))
     (nj.of (so:=ai gB) (N0:=["_law_ends", "_law_beads", "_law_rest"]) ⟨rfl,by decide +kernel,by decide +kernel,by decide +kernel,rfl,rfl,by decide +kernel,by decide +kernel⟩)
     (fun z=>⟨aA (i:=0) (cJ (N:=["_law_place", "_law_ends"]) (by decide +kernel)) rfl (Or.inl rfl),iW (bJ eC (pv 0) (cP dC (pv 1) aw (fun _ _=>rfl)) (by with_unfolding_all rfl)),pv 0⟩)))
   (ah (cv (bJ vO (aU pM (az bA rfl T.len dX (aa (pv 1) ag)) (az bA rfl T.len dX (aa (pv 2) ag))) (az bA rfl T.len dX (aa (cP dC (pv 0) aw (fun _ _=>rfl)) ag)) (cA _)) (aq (aJ (dI (aa gj (aa (pv 1) ag))))) bf)
   (ah (cv (bY (az (jX rfl) rfl T2.any uL (aa (cG (N:=["_law_place", "_law_rest"]) (n:=1) (ci:=[2]) rfl (br (cP dC (pv 0) aw (fun _ _=>rfl)))
     (nj.of (so:=ai gB) (N0:=["_law_ends", "_law_beads", "_law_rest"]) ⟨rfl,by decide +kernel,by decide +kernel,by decide +kernel,rfl,rfl,by decide +kernel,by decide +kernel⟩)
     (fun z=>⟨aA (i:=0) (cJ (N:=["_law_place", "_law_rest"]) (by decide +kernel)) rfl (Or.inl rfl),cT,d4 lV (pv 0) (pv 1) (by with_unfolding_all rfl)⟩)) ag))) (aq (aJ (dI (aa gj (aa (pv 1) ag))))) bf)
   (aq (aJ (dI (aa gj (aa (ba bH rfl T.tup gf (aa (az dF rfl T.aQ dS (aa (aU jj (pv 2) (cP dC (pv 0) aw (fun _ _=>rfl))) ag)) ag)) ag))))))),?_⟩
  refine ⟨_,rfl,ab,rfl,⟨_,cV.of ha⟩,fun z D1 hD1=>nz (a:=ab) (xs:=av s') (fun i ys H2=>ys = av ((s'.take i).filter fun x=>!decide (x ∈ tk))∧H2 D1 = some (.lst ys)∧au H H2) ⟨rfl,ae,aj hD1⟩ (fun i ys H2 _ p=>cV.of (p.2.2 _ _ ha)) ?_ ?_⟩
  ·rintro i v ys H2 hi ⟨rfl,hys,sm⟩
   obtain ⟨x,hx,rfl⟩:=cB hi
   refine ⟨_,rfl,_,rfl,e,_,0,_,rfl,rfl,cV.of (sm _ _ he),cj (j:=0) rfl,l,av tk,rfl,.inl (aY.of (sm _ _ hl)),rfl,eK _,_,rfl,?_⟩
   show if (!zt (V.str x) (av tk)) = true then _ else _
   rw [jd]
   cases c1:decide (x ∈ tk) with
   | true =>
    refine bz ⟨?_,hys,sm⟩
    rw [ar hx,List.filter_append]
    simp [c1]
   | false =>
    refine bN ⟨_,rfl,hys,vV hz (by decide),?_,ae,aH sm hD1⟩
    rw [ar hx,List.filter_append]
    unfold av
    simp [c1]
  rintro ys H2 ⟨rfl,hys,sm⟩
  rw [ao,List.take_length] at hys
  have lf:(s'.filter fun x=>!decide (x ∈ tk)).length≤50:=Nat.le_trans (List.length_filter_le _ _) hz
  have lk:=o9 hn (gX u1)
  have sr:=og tk gv s'
  generalize hrest:(s'.filter fun x=>!decide (x ∈ tk)) = rest at hys lf lk sr
  refine ⟨_,rfl,_,s'.length,rfl,.inr ⟨_,cV.of (sm _ _ ha),(ao _).symm⟩,_,rfl,_,rest.length,rfl,.inl ⟨_,aY.of hys,(ao _).symm⟩,_,_,rfl,rfl,_,rfl,e,_,0,_,rfl,rfl,cV.of (sm _ _ he),cj (j:=0) rfl,_,tk.length,rfl,.inl ⟨_,aY.of (sm _ _ hl),(ao _).symm⟩,_,_,rfl,rfl,_,rfl,?_⟩
  rw [lk]
  cases c1:bL tk s' with
  | true =>
   refine bN ?_
   refine ⟨_,rfl,by show 2≤sizeLine;lia,fun t nt=>k1 c1 _ t (sm.trans (aj nt)) ae⟩
  | false =>
   refine bz ?_
   refine ⟨_,rfl,e,_,1,_,rfl,rfl,cV.of (sm _ _ he),cj (j:=1) rfl,g,rfl,⟨_,aY.of (sm _ _ hg)⟩,fun z D2 hD2=>bK (a:=g) (xs:=av gv) (fun i ys H4=>ys = ((gv.take i).map fun x=>V.bl (decide (x ∈ rest)))∧H4 D2 = some (.lst ys)∧au H2 H4) ⟨rfl,ae,aj hD2⟩ (fun i ys H4 _ p=>aY.of ((sm.trans p.2.2) _ _ hg)) ?_ ?_⟩
   ·rintro i v ys H4 hi ⟨rfl,hys4,sm4⟩
    obtain ⟨x,hx,rfl⟩:=cB hi
    refine ⟨_,rfl,_,rfl,D1,av rest,rfl,.inl (aY.of (sm4 _ _ hys)),rfl,eK _,hys4,?_,?_,ae,aH sm4 hD2⟩
    ·rw [List.length_map,List.length_take]
     lia
    ·rw [ar hx,List.map_append,jd]
     rfl
   rintro ys H4 ⟨rfl,hys4,sm4⟩
   rw [ao,List.take_length] at hys4
   refine ⟨D2,gv.map fun x=>decide (x ∈ rest),rfl,aY.of (by rw [hys4,List.map_map];rfl),_,rfl,?_⟩
   rw [sr]
   have sB:=sm.trans sm4
   cases c2:second tk gv s' with
   | true =>
    refine bN ?_
    refine ⟨_,rfl,by show 2≤sizeLine;lia,fun t nt=>k2 c1 c2 _ t (sB.trans (aj nt)) ae⟩
   | false =>
    refine bz ?_
    refine ⟨_,rfl,_,rfl,e,_,1,_,rfl,rfl,cV.of (sB _ _ he),cj (j:=1) rfl,D1,g,_,_,rfl,rfl,sm4 _ _ hys,sB _ _ hg,by rw [ao,ao];lia,fun q3 nq3=>?_⟩
    have e1:av rest ++ av gv = av (rest ++ gv):=by unfold av;rw [List.map_append]
    rw [e1]
    refine ⟨q3,_,rfl,aY.of ae,by rw [List.length_append];lia,fun q4 nq4=>⟨q4,_,rfl,.inl ⟨aY.of ae,fun q5 nq5=>?_⟩⟩⟩
    have s5:=((aj (o:=.lst (av (rest ++ gv))) nq3).trans (aj (o:=.lst (av (aQ (rest ++ gv)))) nq4)).trans (aj (o:=.tup (av (aQ (rest ++ gv)))) nq5)
    have hq5:(upd (upd (upd H4 q3 (.lst (av (rest ++ gv)))) q4 (.lst (av (aQ (rest ++ gv))))) q5 (.tup (av (aQ (rest ++ gv))))) q5 = some (.tup (av (aQ (rest ++ gv)))):=ae
    generalize upd (upd (upd H4 q3 (.lst (av (rest ++ gv)))) q4 (.lst (av (aQ (rest ++ gv))))) q5 (.tup (av (aQ (rest ++ gv)))) = H5 at s5 hq5 ⊢
    refine ⟨by show 2≤sizeLine;lia,fun t nt=>?_⟩
    have s6:au H5 (upd H5 t (.tup [.str "done",.ref q5])):=aj nt
    refine k3 c1 c2 _ t q5 (sB.trans (s5.trans s6)) ?_ ae
    rw [s6 _ _ hq5,← hrest]
    rfl
end
end Uf
end
section
namespace L2
open PySem PySem.Spec PyProof.Rows UfSrt
def Au (a:Addr) (o:Obj) (kvs:List (Key × V)):It :=
 ⟨fun i H=>H a = some (.frz o (.dK kvs))∧i < kvs.length,fun i H x H'=>H' = H∧∃ k v,kvs[i]? = some (k,v)∧x = v,fun i H=>H a = some (.frz o (.dK kvs))∧i = kvs.length⟩
theorem rQ {P:Program} {w:World} {K:PySem.W.Frag} {tg:Expr} {a it:Addr} {o:Obj} {kvs:List (Key × V)} {es:Array DictEntry} {ep:Nat} (hd:o.data = .dict es ep) :
  Turn P w K tg (Au a o kvs) [it] it (fun i h=>h.IsValIter it a i kvs.length ep) where
 mem:=by simp
 obj:=fun i h st b hb=>by
  have e:b = it:=by simpa using hb
  subst e
  obtain ⟨o,e,c,d⟩:=st
  exact ⟨o,e,fun v z=>by rw [d] at z;cases z⟩
 keep:=fun i h h' st k=>st.at fun o e=>k it (by simp) o e
 item:=by
  intro X hP hw hK hc i pins s σ H E I hf st hg
  subst hP hw hK
  obtain ⟨he,hi⟩:=hg
  obtain ⟨vs,rel,hat,lo,hz⟩:=uh I he hd
  obtain ⟨f0,f1,f2,f3,f4,f5⟩:=hf it (by simp)
  have hne:a≠it:=fun z=>by rw [z,f0] at he;cases he
  have hl:kvs.length = vs.length:=rel.length
  have W:=Walks.dictValues (prog:=X.prog) (w:=X.w) (knd:=aZ X.prog X.w) (I.ok.hd hc) it a hne vs ep
  refine W.item i s _ _ (by lia) ⟨(by rw [← hl];exact st),hat⟩ fun v h' tk hP st' kk=>?_
  obtain ⟨k,hx⟩:=hP
  obtain ⟨⟨k',v'⟩,hkv,hrel⟩:=gS rel hx
  have I1:Inv X pins σ H { s with heap:=h',toks:=tk }:=I.turned (fun b o hb e=>kk b o (by simpa using hb) e) f0 f1 f3 f4 f5
  obtain ⟨oi,e1,c1,d1⟩:=id st'.1
  exact ⟨v,rfl,nI (s:={ s with heap:=h',toks:=tk }) e1 c1 d1 (by decide) ⟨v',H,I1,hrel.2,⟨rfl,k',v',hkv,rfl⟩,(by rw [hl];exact st'.1),fun b hb=>(hf b hb).1⟩⟩
 done:=by
  intro X hP hw hK hc i pins s σ H E I hf st hg
  subst hP hw hK
  obtain ⟨he,hi⟩:=hg
  obtain ⟨vs,rel,hat,lo,hz⟩:=uh I he hd
  obtain ⟨f0,f1,f2,f3,f4,f5⟩:=hf it (by simp)
  have hne:a≠it:=fun z=>by rw [z,f0] at he;cases he
  have hl:kvs.length = vs.length:=rel.length
  have W:=Walks.dictValues (prog:=X.prog) (w:=X.w) (knd:=aZ X.prog X.w) (I.ok.hd hc) it a hne vs ep
  subst hi
  rw [hl] at st
  exact W.done s _ _ ⟨st,hat⟩ fun h' tk kk=>⟨rfl,I.turned (fun b o hb e=>kk b o (by simpa using hb) e) f0 f1 f3 f4 f5⟩
 self:=fun _ _ _ _ _ st h=>wpAny_pyIter_valiter st h
section
variable {X:Cx} {tg:Expr}
def Bi (tl:TE):TI:=fun σ H R=>tl σ H fun x H1=>∃ a o kvs,x = .ref a∧H1 a = some (.frz o (.dK kvs))∧R (Au a o kvs) H1
theorem xi {l:Expr} {tl:TE} {apos cpos:Pos} (hl:PE X l tl) (hbase:attributeBase l "values" X.env (eval l X.env) = eval l X.env:=by rfl) (hline:(apos.endLine == cpos.line) = true:=by rfl):PI X tg (.Call (.Attribute l "values" apos) [] [] cpos) (Bi tl):=by
 intro pins s σ H R I h
 refine wpAny_Call_method0_late hbase hline (bx (hl pins s σ H _ I h) fun v s1 ⟨x,H1,I1,r1,a,o,kvs,e,ea,q⟩=>?_)
 subst e
 cases r1
 obtain ⟨ho,z,y,vs,rel,dd⟩:=(show bo X.prog X.w H1 s1.heap a (.frz o (.dK kvs)) from I1.hok a _ ea)
 obtain ⟨ep,hat⟩:=dd.dictAt
 obtain ⟨o',es,ho',hc',hd',_⟩:=id hat
 have ho2:=ho
 rw [ho] at ho'
 cases ho'
 have hl:kvs.length = vs.length:=rel.length
 refine ⟨"dict", "dict.values",PySem.F.plainAttrs_dict,PySem.F.slot_dict_values,PySem.F.type_dict_values,dd.typeIs,?_,Calls.callWith_builtin rfl (PySem.evalArgs_none ?_)⟩
 ·exact (zH I1 (.inl ⟨kvs,.inr ⟨o,ea⟩⟩)).2.1
 refine call_meetsIn PySem.F.slot_dict_values dd.typeIs PySem.F.entry_dict_values (PySem.F.args_dict_values_1 _) (meets_dict_values _ a y) ⟨⟨vs,dd⟩,?_⟩
 refine wpAny_pyIter_values (kvs:=vs) (ep:=ep) (knd:=aZ X.prog X.w) (v:=s1.heap.objs.size) (d:=a) ⟨_,Heap.get?_push_size _ rfl,rfl,rfl⟩ (hat.at' fun o e=>Heap.get?_push_of_some _ e) ?_
 refine ⟨_,[_],_,_,H1,rfl,I1.kept (t':=s1.toks) fun b o e=>Heap.get?_push_of_some _ (Heap.get?_push_of_some _ e),rQ (kvs:=kvs) hd',(by rw [hl];exact ⟨_,Heap.get?_push_size _ rfl,rfl,rfl⟩),fun b hb=>?_,q⟩
 have e:=List.mem_singleton.mp hb
 subst e
 exact I1.sF (by rw [Heap.size_push];exact Nat.le_succ _) (I1.hok.fresh (by rw [Heap.size_push];exact Nat.le_succ _))
end
theorem vp {a:Addr} {o:Obj} {kvs:List (Key × V)} {g:TG} {tb:TS} {D:Ends} {σ:St} {H:Hp} (Pv:Nat→St→Hp→Prop) (h0:Pv 0 σ H) (hl:∀ i σ H,i≤kvs.length→Pv i σ H→H a = some (.frz o (.dK kvs)))
  (hs:∀ i k v σ H,kvs[i]? = some (k,v)→Pv i σ H→g v σ H fun σ2 H2=>tb { D with nx:=Pv (i + 1),ct:=Pv (i + 1),bk:=D.nx } σ2 H2) (hd:∀ σ H,Pv kvs.length σ H→D.nx σ H) :
  ∃ W:Nat→Nat→St→Hp→Prop,(∃ m,W 0 m σ H)∧∀ i m σ H,W i m σ H →
   ((Au a o kvs).stop i H∧D.nx σ H)∨((Au a o kvs).go i H∧∃ N:St→Hp→Prop,(∀ σ' H',N σ' H'→∃ m',m' < m∧W (i + 1) m' σ' H')∧∀ x H',(Au a o kvs).yld i H x H'→g x σ H' fun σ2 H2=>tb { D with nx:=N,ct:=N,bk:=D.nx } σ2 H2):=by
 refine ⟨fun i m σ H=>m = kvs.length - i∧i≤kvs.length∧Pv i σ H,⟨kvs.length,by simp,Nat.zero_le _,h0⟩,?_⟩
 rintro i m σ H ⟨rfl,hi,p⟩
 have q:=hl i σ H hi p
 by_cases hlt:i < kvs.length
 ·refine .inr ⟨⟨q,hlt⟩,Pv (i + 1),fun σ' H' p'=>⟨kvs.length - (i + 1),by lia,rfl,hlt,p'⟩,fun x H' y=>?_⟩
  obtain ⟨e,k,v,hkv,rfl⟩:=y
  subst e
  exact hs i k _ σ _ hkv p
 ·have e:i = kvs.length:=by lia
  subst e
  exact .inl ⟨⟨q,rfl⟩,hd σ H p⟩
end L2
end
section
namespace Uf
open PySem L2 UfSrt UfFin
abbrev gq:Stmt:=top 56
abbrev gr:Stmt:=top 57
abbrev gu:Stmt:=top 58
abbrev mT:Stmt:=top 59
def vc (H:Hp) (m:Mv) (v:V):Prop:=∃ t l g,v = .ref t∧H t = some (.tup [.ref l,.ref g])∧H l = some (.lst (av m.2.1))∧H g = some (.lst (av m.2.2))
theorem vc.same {H H' : Hp} {m:Mv} {v:V} (s:au H H') (h:vc H m v):vc H' m v:=by
 obtain ⟨t,l,g,h1,h2,h3,h4⟩:=h
 exact ⟨t,l,g,h1,s _ _ h2,s _ _ h3,s _ _ h4⟩
abbrev MP (H:Hp):List Mv→List (Key × V)→Prop:=Paired fun m kv=>kv.1 = Sum.inr m.1∧vc H m kv.2
theorem MP.same {H H' : Hp} {ms:List Mv} {kvs:List (Key × V)} (s:au H H') (h:MP H ms kvs):MP H' ms kvs:=Paired.dh h fun _ _ z=>⟨z.1,z.2.same s⟩
theorem MP.put {H:Hp} {d:Addr} {o:HO} {kv0:List (Key × V)} {ms:List Mv} {kvs:List (Key × V)} (hd:H d = some (.dK kv0)) (h:MP H ms kvs):MP (upd H d o) ms kvs:=Paired.dh h fun _ _ ⟨z,t,l,g,h1,h2,h3,h4⟩ =>
 ⟨z,t,l,g,h1,by rw [af (aR h2 hd (fun z=>nomatch z))];exact h2,by rw [af (aR h3 hd (fun z=>nomatch z))];exact h3,by rw [af (aR h4 hd (fun z=>nomatch z))];exact h4⟩
theorem MP.keys {H:Hp} : ∀ {ms:List Mv} {kvs:List (Key × V)},MP H ms kvs→kvs.map (·.1) = (names ms).map Sum.inr
 | _,_,.nil=>rfl
 | _,_,.cons h t=>by
  rw [List.map_cons,h.1,MP.keys t]
  rfl
theorem MP.none {H:Hp} {ms:List Mv} {kvs:List (Key × V)} {x:Str} (h:MP H ms kvs) (hx:x ∉ names ms):cD kvs (Sum.inr x:Key) = .none:=by
 cases e:cD kvs (Sum.inr x:Key) with
 | none=>rfl
 | some v =>
  have:=qU e
  rw [h.keys] at this
  obtain ⟨y,hy,e2⟩:=List.mem_map.mp this
  cases e2
  exact absurd hy hx
theorem MP.get {H:Hp} {m:Mv} : ∀ {ms:List Mv} {kvs:List (Key × V)},MP H ms kvs→(names ms).Nodup→m ∈ ms→∃ v,cD kvs (Sum.inr m.1:Key) = .some v∧vc H m v
 | _,_,.nil,_,h=>by simp at h
 | m' :: ms,_,.cons (b:=kv) h t,hn,hm=>by
  obtain ⟨n1,n2⟩:=List.nodup_cons.mp (show (m'.1 :: names ms).Nodup from hn)
  rcases List.mem_cons.mp hm with rfl | hm
  ·exact ⟨kv.2,bM h.1,h.2⟩
  ·have ne : ¬ kv.1 = (Sum.inr m.1:Key):=fun z=>by
    rw [h.1] at z
    have z2:m'.1 = m.1:=by injection z
    exact n1 (by rw [z2];exact List.mem_map.mpr ⟨m,hm,rfl⟩)
   rw [bD ne]
   exact MP.get t n2 hm
def gQ (H:Hp) (d:Addr) (ms:List Mv):Prop:=∃ o kvs,H d = some (.frz o (.dK kvs))∧MP H ms kvs
theorem gQ.same {H H' : Hp} {d:Addr} {ms:List Mv} (s:au H H') (h:gQ H d ms):gQ H' d ms:=by
 obtain ⟨o,kvs,h1,h2⟩:=h
 exact ⟨o,kvs,s _ _ h1,h2.same s⟩
theorem gQ.get {H:Hp} {d:Addr} {ms:List Mv} {m:Mv} (h:gQ H d ms) (hn:(names ms).Nodup) (hm:m ∈ ms):∃ v,eX H d (.str m.1) (some v)∧vc H m v:=by
 obtain ⟨o,kvs,h1,h2⟩:=h
 obtain ⟨v,h3,h4⟩:=h2.get hn hm
 exact ⟨v,.inl ⟨kvs,Sum.inr m.1,.inr ⟨o,h1⟩,rfl,h3.symm⟩,h4⟩
abbrev FP:List (List Str × Nat)→List (List Key × V)→Prop:=Paired fun p kv=>kv.1 = dR p.1∧kv.2 = .int (p.2:Nat)
theorem FP.none {t:List Str} : ∀ {ws:List (List Str × Nat)} {kvs:List (List Key × V)},FP ws kvs→t ∉ ws.map (·.1)→cD kvs (dR t) = .none
 | _,_,.nil,_=>rfl
 | p :: ws,kv :: kvs,.cons h r,e=>by
  have ht : ¬ p.1 = t:=fun z=>e (by simp [z])
  rw [bD (fun z=>ht (iN (h.1.symm.trans z)))]
  exact FP.none r fun z=>e (List.mem_cons_of_mem _ z)
theorem FP.some {t:List Str} {d:Nat} : ∀ {ws:List (List Str × Nat)} {kvs:List (List Key × V)},FP ws kvs→(ws.map (·.1)).Nodup→(t,d) ∈ ws→cD kvs (dR t) = .some (.int (d:Nat))
 | _,_,.nil,_,e=>by simp at e
 | p :: ws,kv :: kvs,.cons h r,hn,e=>by
  obtain ⟨n1,n2⟩:=List.nodup_cons.mp (show (p.1 :: ws.map (·.1)).Nodup from hn)
  rcases List.mem_cons.mp e with z | z
  ·subst z
   rw [bM h.1,h.2]
  ·have ht : ¬ p.1 = t:=fun y=>n1 (by rw [y];exact List.mem_map.mpr ⟨(t,d),z,rfl⟩)
   rw [bD (fun z=>ht (iN (h.1.symm.trans z)))]
   exact FP.some r n2 z
theorem FP.there {t:List Str} {ws:List (List Str × Nat)} {kvs:List (List Key × V)} (h:FP ws kvs) (hn:(ws.map (·.1)).Nodup) (ht:t ∈ ws.map (·.1)):∃ d:Nat,cD kvs (dR t) = .some (.int (d:Nat)):=by
 obtain ⟨p,hp,rfl⟩:=List.mem_map.mp ht
 exact ⟨p.2,h.some hn hp⟩
theorem j2 {ms:List Mv} {t:List Str} (hn:(names ms).Nodup):cU ms t = none ↔ ∀ m ∈ ms,¬ (bL m.2.1 t = false∧second m.2.1 m.2.2 t = true):=by
 unfold cU
 rw [List.find?_eq_none]
 constructor
 ·intro h m hm ⟨h1,h2⟩
  refine h m.1 (cR.mpr (List.mem_map.mpr ⟨m,hm,rfl⟩)) ?_
  unfold cK fk
  rw [cY hn hm,eA hn hm,h1,h2]
  rfl
 ·intro h x hx
  obtain ⟨m,hm,rfl⟩:=cQ hx
  unfold cK fk
  rw [cY hn hm,eA hn hm]
  intro z
  obtain ⟨z1,z2⟩:=Bool.and_eq_true_iff.mp z
  exact h m hm ⟨by simpa using z1,z2⟩
theorem pN {ms:List Mv} {t:List Str} {x:Str} (hn:(names ms).Nodup) (h:cU ms t = some x):∃ m ∈ ms,m.1 = x∧bL m.2.1 t = false∧second m.2.1 m.2.2 t = true:=by
 have h1:=List.find?_some h
 have h2:=List.mem_of_find?_eq_some h
 obtain ⟨m,hm,rfl⟩:=cQ h2
 unfold cK fk at h1
 rw [cY hn hm,eA hn hm] at h1
 obtain ⟨z1,z2⟩:=Bool.and_eq_true_iff.mp h1
 exact ⟨m,hm,rfl,by simpa using z1,z2⟩
theorem rA {ms:List Mv} {t:List Str} {m:Mv} (hn:(names ms).Nodup) (hm:m ∈ ms):m.1 ∈ iF ms t ↔ bL m.2.1 t = false∧second m.2.1 m.2.2 t = false:=by
 rw [jL]
 unfold cK fk
 rw [cY hn hm,eA hn hm]
 exact ⟨fun h=>h.2,fun h=>⟨List.mem_map.mpr ⟨m,hm,rfl⟩,h⟩⟩
theorem uG {ms:List Mv} {t:List Str} {m:Mv} (hn:(names ms).Nodup) (hm:m ∈ ms):cu ms t m.1 = behind m.2.1 m.2.2 t:=by
 unfold cu
 rw [cY hn hm,eA hn hm]
theorem B3:decide (V.str ("held" : Str) = V.str ("full" : Str)) = false:=by decide +kernel
theorem Cp:decide (V.str ("done" : Str) = V.str ("full" : Str)) = false:=by decide +kernel
theorem BK:decide (V.str ("full" : Str) = V.str ("full" : Str)) = true:=by decide +kernel
theorem vc.step {H:Hp} {m:Mv} {v:V} (h:vc H m v):∃ t,v = .ref t∧j4 H t m.2.1 m.2.2:=by
 obtain ⟨t,l,g,h1,h2,h3,h4⟩:=h
 exact ⟨t,h1,l,g,h2,h3,h4⟩
section
variable {P:Program} {w:World} {K:PySem.W.Frag} {mg:Str→Option Value} {base:Heap}
def qZ:Sp:=fun vs H Q _=>∃ (dm as:Addr) (ms:List Mv) (st:List Str),vs = [.ref dm,.ref as]∧gQ H dm ms∧Sound ms st∧H as = some (.tup (av (aQ st))) ∧
 (∀ H',au H H'→(∀ k t,UfBfs.At (graph ms) (aQ st) k t→cU ms t = none)→Q .non H') ∧
 (∀ H' (dd:Nat) t,au H H'→UfBfs.At (graph ms) (aQ st) dd t→cU ms t≠none→(∀ j u,UfBfs.At (graph ms) (aQ st) j u→cU ms u≠none→dd≤j)→Q (.int ((dd:Nat) + 1)) H')
theorem d5:aI ["_law_moves", "_law_start", "_law_far", "_law_waiting", "_law_at_here", "_law_here", "_law_ends", "_law_word", "_law_there"] ["_law_moves", "_law_start"] (ai gq):=⟨rfl,rfl,rfl,by decide +kernel,rfl,by decide +kernel,by decide +kernel⟩
structure mC (ms:List Mv) (st:List Str) (H H2:Hp) (d a:Addr) (k:Nat) (ws:List (List Str × Nat)):Prop where
 sm:au H H2
 fd:∃ kvs,H2 d = some (.dT kvs)∧FP ws kvs
 wt:kE H2 a (ws.map (·.1))
 qi:UfBfs.QI (graph ms) (aQ st) k ws
 fine:∀ t ∈ ws.map (·.1),fO ms st t
theorem mC.then {ms:List Mv} {st:List Str} {H H2 H3:Hp} {d a:Addr} {k:Nat} {ws:List (List Str × Nat)} (h:mC ms st H H2 d a k ws) (s:au H2 H3):mC ms st H H3 d a k ws:=by
 obtain ⟨sm,⟨kvs,h1,h2⟩,⟨qs,h3,h4⟩,qi,fine⟩:=h
 exact ⟨sm.trans s,⟨kvs,s _ _ h1,h2⟩,⟨qs,s _ _ h3,Paired.dh h4 fun _ _ e=>s _ _ e⟩,qi,fine⟩
theorem mC.oF {ms:List Mv} {st:List Str} {H H2:Hp} {d a:Addr} {k:Nat} {ws:List (List Str × Nat)} (so:Sound ms st) (h:mC ms st H H2 d a k ws):ws.length≤4096:=by
 have:=j0 so h.qi.nd h.fine
 rwa [List.length_map] at this
inductive LeI (ms:List Mv) (st:List Str) (H:Hp) (dm as d a:Addr) (m:Nat) (σ:St) (H4:Hp):Prop
 | mk (k:Nat) (ws:List (List Str × Nat)) (v5 v6 v7 v8:Option V) (q0:σ = [some (.ref dm),some (.ref as),some (.ref d),some (.ref a),some (.int k),v5,v6,v7,v8]) (q1:mC ms st H H4 d a k ws) (q2:k≤ws.length) (q3:m = 5000 - k)
inductive Bm (ms:List Mv) (st:List Str) (H:Hp) (dm as d a tq:Addr) (k dd:Nat) (t' : List Str) (j:Nat) (σ:St) (H5:Hp):Prop
 | mk (ws:List (List Str × Nat)) (v6 v7 v8:Option V) (q0:σ = [some (.ref dm),some (.ref as),some (.ref d),some (.ref a),some (.int ((k:Nat) + 1)),some (.ref tq),v6,v7,v8]) (q1:mC ms st H H5 d a k ws) (q2:k < ws.length) (q3:ws[k]? = some (t',dd)) (q4:H5 tq = some (.tup (av t')))
   (q5:∀ m ∈ ms.take j,¬ (bL m.2.1 t' = false∧second m.2.1 m.2.2 t' = true)) (q6:∀ m ∈ ms.take j,bL m.2.1 t' = false→second m.2.1 m.2.2 t' = false→behind m.2.1 m.2.2 t' ∈ ws.map (·.1))
theorem Bm.sm {ms:List Mv} {st:List Str} {H:Hp} {dm as d a tq:Addr} {k dd:Nat} {t' : List Str} {j:Nat} {σ:St} {H5:Hp} (h:Bm ms st H dm as d a tq k dd t' j σ H5):au H H5:=by
 cases h with
 | mk _ _ _ _ _ q1=>exact q1.sm
theorem wc {f fB:Addr} {fd fdB:FuncData} (F:eZ K "_law_least" "_law_least" gq f fd) (T:Txt K mg) (DB:Def K mg "_law_behind" gB ["_law_ends", "_law_beads"] fB fdB) (GB:aE P w K mg base bQ 1 fB fdB ["_law_ends", "_law_beads"] uy) :
  aE P w K mg base bQ 2 f fd ["_law_moves", "_law_start"] qZ:=by
 refine F.ok d5 (fun vs H Q E h=>?_) (fun cdv A outer s H vs Q E hr h=>?_)
 ·obtain ⟨dm,as,ms,st,rfl,_⟩:=h
  rfl
 ·obtain ⟨dm,as,ms,st,rfl,D,so,has,kn,ks⟩:=h
  have hsl:=PySem.sizeLine_eq
  have hu:=gm hr
  refine ⟨_,ah (aM (i:=2) d5.nd rfl (Or.inl rfl) (lQ hu (pv 1) aw))
   (ah (aM (i:=3) d5.nd rfl (Or.inl rfl) (bZ (aa (pv 1) ag)))
   (ah (aM (i:=4) d5.nd rfl (Or.inl rfl) aw)
   (ah (iL PassesOwn.never (bJ vO (pv 4) (az bA rfl T.len dX (aa (pv 3) ag)) (cA _))
    (ah (aM (i:=5) d5.nd rfl (Or.inl rfl) (cP hU (pv 3) (pv 4) (fun _ _=>rfl)))
    (ah (aM (i:=4) d5.nd rfl (Or.inl rfl) (aU gy (pv 4) aw))
    (aq (dZ PassesOwn.never rfl (xi (pv 0)) (aA (i:=6) d5.nd rfl (Or.inl rfl))
     (ah (qv (aK GB hr rfl DB.mg DB.fn.kp DB.bd .nil aX (aa (pv 6) (aa (pv 5) ag))) (gI rfl (bc (aA (i:=7) d5.nd rfl (Or.inl rfl)) (bc (aA (i:=8) d5.nd rfl (Or.inl rfl)) fe))))
     (ah (cv (bJ iP (pv 7) gj (cA _)) (aq (aJ (aU gy (fg hu (pv 2) (pv 5) (fun _ _=>rfl)) aw))) bf)
     (aq (cv (gC (gY hu (pv 8) (pv 2)))
      (ah (hJ hu (pv 2) (pv 8) (aU gy (fg hu (pv 2) (pv 5) (fun _ _=>rfl)) aw) rfl)
      (aq (bF (gL PySem.F.plainAttrs_list PySem.F.slot_list_append PySem.F.type_list_append bE (pv 3) (aa (pv 8) ag))))) bf)))))))))
   (aq (aJ jl))))),?_⟩
  clear hu
  dsimp only [eU,Cx.qB]
  intro d nd
  have sd:au H (upd H d (.dT [])):=aj nd
  refine ⟨_,rfl,ae,dR (aQ st),as,rfl,(by rw [d7];exact sd _ _ has),?_⟩
  have s2:au H (upd (upd H d (.dT [])) d (.dT [(dR (aQ st),V.int 0)])):=aH sd nd
  have hd2:(upd (upd H d (.dT [])) d (.dT [(dR (aQ st),V.int 0)])) d = some (.dT [(dR (aQ st),V.int 0)]):=ae
  generalize upd (upd H d (.dT [])) d (.dT [(dR (aQ st),V.int 0)]) = H2 at s2 hd2 ⊢
  refine ⟨_,rfl,by show 1≤sizeLine;lia,fun a na=>?_⟩
  have s3:au H2 (upd H2 a (.lst [.ref as])):=aj na
  have na0:H a = none:=s2.free na
  have fs:=iD so
  have nnd:=so.nd
  obtain ⟨om,kvm,hdm,mpm⟩:=id D
  have I0:mC ms st H (upd H2 a (.lst [.ref as])) d a 0 [(aQ st,0)]:=⟨s2.trans s3,⟨_,s3 _ _ hd2,.cons ⟨rfl,rfl⟩ .nil⟩,⟨[as],ae,.cons ((s2.trans s3) _ _ has) .nil⟩,UfBfs.QI.start _ _,fun t ht=>by
   have e:t = aQ st:=by simpa using ht
   rw [e];exact fs⟩
  refine ⟨LeI ms st H dm as d a,⟨_,0,_,none,none,none,none,rfl,I0,by simp,rfl⟩,?_⟩
  rintro m σ H4 ⟨k,ws,v5,v6,v7,v8,rfl,I4,hk,em⟩
  obtain ⟨qs,ha4,hp4⟩:=I4.wt
  have oF:=I4.oF so
  have lq:qs.length = ws.length:=by rw [← Paired.length hp4,List.length_map]
  refine ⟨_,rfl,_,rfl,_,ws.length,rfl,.inl ⟨_,aY.of ha4,by rw [List.length_map,lq]⟩,_,_,rfl,rfl,_,rfl,?_⟩
  by_cases hlt:k < ws.length
  ·rw [decide_eq_true (show ((k:Nat):Int) < ((ws.length:Nat):Int) by lia)]
   refine bN ?_
   refine ⟨fun σ' H'=>∃ m',m' < m∧LeI ms st H dm as d a m' σ' H',fun σ' H' h=>h,?_⟩
   obtain ⟨⟨t,dd⟩,htd⟩ : ∃ p,ws[k]? = some p:=⟨ws[k],List.getElem?_eq_getElem hlt⟩
   have hqk:qs[k]? = some qs[k]:=List.getElem?_eq_getElem (by lia)
   obtain ⟨t',ht',htq⟩:=bp hp4 hqk
   have et:t' = t:=by
    rw [List.getElem?_map,htd] at ht'
    exact (Option.some.inj ht').symm
   subst et
   generalize qs[k] = tq at hqk htq
   have hft:fO ms st t':=I4.fine t' (List.mem_map.mpr ⟨(t',dd),List.mem_of_getElem? htd,rfl⟩)
   have l12:=hft.len so
   have tnd:t'.Nodup:=hft.ris.nd
   refine ⟨_,rfl,_,rfl,a,_,_,_,rfl,rfl,aY.of ha4,cj (j:=k) (by rw [List.getElem?_map,hqk];rfl),?_⟩
   refine ⟨_,rfl,_,_,rfl,rfl,?_⟩
   have s04:=I4.sm
   refine ⟨_,rfl,dm,om,kvm,rfl,s04 _ _ hdm,vp (a:=dm) (o:=om) (kvs:=kvm) (Bm ms st H dm as d a tq k dd t')
    ⟨ws,v6,v7,v8,rfl,I4,hlt,htd,htq,fun m hm=>by simp at hm,fun m hm=>by simp at hm⟩ (fun j σ H5 _ h=>h.sm _ _ hdm) ?_ ?_⟩
   ·rintro j kx vx σ H5 hj ⟨ws,v6,v7,v8,rfl,I5,hlt5,htd5,htq5,hnf,hmy⟩
    obtain ⟨m,hmj,_,hmv0⟩:=bp mpm hj
    obtain ⟨te,rfl,hse⟩:=vc.step hmv0
    have hse5:=hse.same I5.sm
    have hm:m ∈ ms:=List.mem_of_getElem? hmj
    have hmv:=so.mv m hm
    have etk:ms.take (j + 1) = ms.take j ++ [m]:=ar hmj
    have mem1:∀ {x:Mv},x ∈ ms.take (j + 1)→x ∈ ms.take j∨x = m:=fun hx=>by
     rw [etk] at hx
     rcases List.mem_append.mp hx with z | z
     ·exact .inl z
     ·exact .inr (by simpa using z)
    have skip:∀ {ws' : List (List Str × Nat)} {H' : Hp} {v6 v7 v8:Option V},mC ms st H H' d a k ws'→k < ws'.length→ws'[k]? = some (t',dd)→H' tq = some (.tup (av t'))→(∀ x ∈ ws.map (·.1),x ∈ ws'.map (·.1))→¬ (bL m.2.1 t' = false∧second m.2.1 m.2.2 t' = true)→(bL m.2.1 t' = false→second m.2.1 m.2.2 t' = false→behind m.2.1 m.2.2 t' ∈ ws'.map (·.1)) →
      Bm ms st H dm as d a tq k dd t' (j + 1) [some (.ref dm),some (.ref as),some (.ref d),some (.ref a),some (.int ((k:Nat) + 1)),some (.ref tq),v6,v7,v8] H':=fun {ws' H' v6 v7 v8} I' h1 h2 h3 hsub h4 h5 =>
     ⟨ws',_,_,_,rfl,I',h1,h2,h3,fun x hx=>(mem1 hx).elim (fun z=>hnf x z) (fun z=>by rw [z];exact h4),fun x hx e1 e2=>(mem1 hx).elim (fun z=>hsub _ (hmy x z e1 e2)) (fun z=>by rw [z] at e1 e2 ⊢;exact h5 e1 e2)⟩
    have inws:t' ∈ ws.map (·.1):=List.mem_map.mpr ⟨(t',dd),List.mem_of_getElem? htd5,rfl⟩
    refine ⟨_,rfl,_,rfl,te,tq,m.2.1,m.2.2,t',rfl,hse5,hmv,htq5,tnd,by lia,fun c1 H6 t6 s6 ht6=>?_,fun c1 c2 H6 t6 s6 ht6=>?_,fun c1 c2 H6 t6 q6 s6 hq6 ht6=>?_⟩
    ·have I6:=I5.then s6
     have htq6:=s6 _ _ htq5
     obtain ⟨kvs6,hd6,fp6⟩:=I6.fd
     have htk6:H6 tq = some (.tup ((dR t').map kV)):=by rw [d7];exact htq6
     refine ⟨t6,_,rfl,cV.of ht6,rfl,_,_,rfl,_,_,rfl,rfl,?_⟩
     refine ⟨_,rfl,rfl,_,rfl,?_⟩
     rw [B3]
     refine bz ?_
     refine ⟨_,rfl,_,rfl,d,_,rfl,eX.t hd6 htk6,_,rfl,?_⟩
     obtain ⟨e,he⟩:=fp6.there I6.qi.nd inws
     rw [he]
     refine bz ?_
     exact skip I6 hlt5 htd5 htq6 (fun _ z=>z) (fun z=>by rw [c1] at z;cases z.1) (fun z=>by rw [c1] at z;cases z)
    ·have I6:=I5.then s6
     have htq6:=s6 _ _ htq5
     obtain ⟨kvs6,hd6,fp6⟩:=I6.fd
     have htk6:H6 tq = some (.tup ((dR t').map kV)):=by rw [d7];exact htq6
     have hget:cD kvs6 (dR t') = some (.int (dd:Nat)):=fp6.some I6.qi.nd (List.mem_of_getElem? htd5)
     refine ⟨t6,_,rfl,cV.of ht6,rfl,_,_,rfl,_,_,rfl,rfl,?_⟩
     refine ⟨_,rfl,rfl,_,rfl,?_⟩
     rw [BK]
     refine bN ?_
     refine ⟨_,rfl,_,rfl,d,_,rfl,(by rw [← hget];exact eX.t hd6 htk6),_,_,rfl,rfl,?_⟩
     obtain ⟨f1,f2⟩:=I6.qi.found htd5
     refine ks H6 dd t' I6.sm f1 (fun z=>(j2 nnd).mp z m hm ⟨c1,c2⟩) f2
    ·have I6:=I5.then s6
     have htq6:=s6 _ _ htq5
     obtain ⟨kvs6,hd6,fp6⟩:=I6.fd
     have htk6:H6 tq = some (.tup ((dR t').map kV)):=by rw [d7];exact htq6
     have hget:cD kvs6 (dR t') = some (.int (dd:Nat)):=fp6.some I6.qi.nd (List.mem_of_getElem? htd5)
     have hq6k:H6 q6 = some (.tup ((dR (behind m.2.1 m.2.2 t')).map kV)):=by rw [d7];exact hq6
     refine ⟨t6,_,rfl,cV.of ht6,rfl,_,_,rfl,_,_,rfl,rfl,?_⟩
     refine ⟨_,rfl,rfl,_,rfl,?_⟩
     rw [Cp]
     refine bz ?_
     refine ⟨_,rfl,_,rfl,d,_,rfl,eX.t hd6 hq6k,_,rfl,?_⟩
     by_cases hin:behind m.2.1 m.2.2 t' ∈ ws.map (·.1)
     ·obtain ⟨e,he⟩:=fp6.there I6.qi.nd hin
      rw [he]
      refine bz ?_
      exact skip I6 hlt5 htd5 htq6 (fun _ z=>z) (fun z=>by rw [c2] at z;cases z.2) (fun _ _=>hin)
     ·rw [fp6.none hin]
      refine bN ?_
      have lkv:kvs6.length = ws.length:=(Paired.length fp6).symm
      have few6:=I6.oF so
      refine ⟨_,rfl,_,rfl,d,_,rfl,(by rw [← hget];exact eX.t hd6 htk6),_,_,rfl,rfl,_,rfl,_,rfl,d,_,rfl,jH.t hd6 hq6k (by lia),?_⟩
      have pk:putK kvs6 (dR (behind m.2.1 m.2.2 t')) (V.int ((dd:Nat) + 1)) = kvs6 ++ [(dR (behind m.2.1 m.2.2 t'),V.int ((dd:Nat) + 1))]:=fE _ (fp6.none hin)
      rw [pk]
      obtain ⟨qs8,ha8,hp8⟩:=I6.wt
      have t9:mS H6 (upd H6 d (.dT (kvs6 ++ [(dR (behind m.2.1 m.2.2 t'),V.int ((dd:Nat) + 1))]))):=gz hd6 (fun _ z=>nomatch z)
      have s9:au H (upd H6 d (.dT (kvs6 ++ [(dR (behind m.2.1 m.2.2 t'),V.int ((dd:Nat) + 1))]))):=aH I6.sm nd
      have nad:a≠d:=aR ha8 hd6 (fun z=>nomatch z)
      have ha9:(upd H6 d (.dT (kvs6 ++ [(dR (behind m.2.1 m.2.2 t'),V.int ((dd:Nat) + 1))]))) a = some (.lst (qs8.map V.ref)):=by rw [af nad];exact ha8
      have hd9:(upd H6 d (.dT (kvs6 ++ [(dR (behind m.2.1 m.2.2 t'),V.int ((dd:Nat) + 1))]))) d = some (.dT (kvs6 ++ [(dR (behind m.2.1 m.2.2 t'),V.int ((dd:Nat) + 1))])):=ae
      have htq9:=t9 _ _ htq6
      have hq9:=t9 _ _ hq6
      have hp9:=Paired.dh hp8 fun t q (e:H6 q = some (.tup (av t)))=>t9 q _ e
      generalize upd H6 d (.dT (kvs6 ++ [(dR (behind m.2.1 m.2.2 t'),V.int ((dd:Nat) + 1))])) = H9 at t9 s9 ha9 hd9 htq9 hq9 hp9 ⊢
      have lq8:qs8.length = ws.length:=by rw [← Paired.length hp8,List.length_map]
      refine ⟨_,rfl,.inl ⟨rfl,_,aY.of ha9⟩,_,rfl,a,_,_,rfl,rfl,ha9,(by rw [List.length_map];lia),?_⟩
      have t11:mS H9 (upd H9 a (.lst (qs8.map V.ref ++ [V.ref q6]))):=gz ha9 (fun _ z=>nomatch z)
      have hmay:m.1 ∈ (graph ms).may t':=(rA nnd hm).mpr ⟨c1,c2⟩
      have eq:=UfBfs.QI.add I6.qi htd5 hmay
      have enx:(graph ms).nxt t' m.1 = behind m.2.1 m.2.2 t':=uG nnd hm
      have ead:UfBfs.addQ (graph ms) t' dd ws m.1 = ws ++ [(behind m.2.1 m.2.2 t',dd + 1)]:=by
       unfold UfBfs.addQ
       rw [enx,if_neg hin]
      rw [ead] at eq
      have hfb:fO ms st (behind m.2.1 m.2.2 t'):=lH so hft hm c2
      refine skip (ws':=ws ++ [(behind m.2.1 m.2.2 t',dd + 1)]) ⟨aH s9 na0,⟨_,by rw [af nad.symm];exact hd9,Paired.snoc fp6 ⟨rfl,by simp⟩⟩,⟨qs8 ++ [q6],by rw [ae,List.map_append];rfl,?_⟩,eq,fun u hu=>?_⟩ (by simp;lia) (by rw [List.getElem?_append_left hlt5];exact htd5) (t11 _ _ htq9) (fun x hx=>by rw [List.map_append];exact List.mem_append_left _ hx) (fun z=>by rw [c2] at z;cases z.2) (fun _ _=>by simp)
      ·rw [List.map_append]
       exact Paired.snoc (Paired.dh hp9 fun t q (e:H9 q = some (.tup (av t)))=>t11 q _ e) (t11 _ _ hq9)
      ·rw [List.map_append] at hu
       rcases List.mem_append.mp hu with z | z
       ·exact I6.fine u z
       ·have e:u = behind m.2.1 m.2.2 t':=by simpa using z
        rw [e]
        exact hfb
   ·rintro σ H5 ⟨ws,v6,v7,v8,rfl,I5,hlt5,htd5,htq5,hnf,hmy⟩
    have el:kvm.length = ms.length:=(Paired.length mpm).symm
    rw [el,List.take_length] at hnf hmy
    refine ⟨5000 - (k + 1),by have:=I5.oF so;lia,k + 1,ws,_,_,_,_,rfl,⟨I5.sm,I5.fd,I5.wt,I5.qi.step htd5 ((j2 nnd).mpr hnf) fun x hx=>?_,I5.fine⟩,hlt5,rfl⟩
    obtain ⟨h1,h2,h3⟩:=jL.mp hx
    obtain ⟨m,hm,rfl⟩:=List.mem_map.mp h1
    obtain ⟨e1,e2⟩:=(rA nnd hm).mp hx
    show cu ms t' m.1 ∈ _
    rw [uG nnd hm]
    exact hmy m hm e1 e2
  ·rw [decide_eq_false (show ¬ ((k:Nat):Int) < ((ws.length:Nat):Int) by lia)]
   refine bz ?_
   have ek:k = ws.length:=by lia
   subst ek
   exact kn H4 I4.sm I4.qi.done
end
end Uf
end
section
namespace L2
open PySem PySem.Spec PyProof.Rows UfSrt
theorem zv {xs:List V} {p:V→Bool} {i:Nat} {x:V} (h:xs.all p = true) (e:xs[i]? = some x):p x = true:=List.all_eq_true.mp h x (List.mem_of_getElem? e)
theorem jK {xs:List V} {us:List Value} (r:Vals xs us) {i:Nat} {u:Value} (e:us[i]? = some u):∃ x,xs[i]? = some x∧RelV x u:=by
 have hl:=r.length
 have hi:=(List.getElem?_eq_some_iff.mp e).1
 have h1:xs[i]? = some xs[i]:=List.getElem?_eq_getElem (by lia)
 obtain ⟨w,h2,h3⟩:=r.get h1
 rw [e] at h2
 cases h2
 exact ⟨_,h1,h3⟩
section
variable {X:Cx}
inductive Alike (K:PySem.W.Frag) (H:Hp):V→V→Prop
 | flat {v:V} : fF v = true→Alike K H v v
 | tup {p q:Addr} {ts:List V} : cV K H p ts→cV K H q ts→ts.all fF = true→Alike K H (.ref p) (.ref q)
theorem oY {v:V} (h:fF v = true):rD v v = true:=by
 cases v <;> first | rfl | exact absurd (show false = true from h) Bool.false_ne_true | (simp [rD])
theorem tX {pins:List (Addr × Obj)} {s:Shared} {σ:St} {H:Hp} {A:Around} {x y:V} {u v:Value} (I:Inv X pins σ H s) (h:Alike X.K H x y) (rx:RelV x u) (ry:RelV y v) (hu:A.units < cLine):SeqAt.EqAt A s u v true:=by
 cases h with
 | flat f =>
  have:=qt (A:=A) (s:=s) rx ry f f
  rwa [oY f] at this
 | @tup p q ts h1 h2 f =>
  cases rx
  cases ry
  by_cases e:p = q
  ·subst e
   exact SeqAt.EqAt.same _
  ·obtain ⟨its,r1,p1,_⟩:=I.tuple h1
   obtain ⟨its2,r2,p2,_⟩:=I.tuple h2
   have l1:=r1.length
   have l2:=r2.length
   have:=SeqAt.RcAt.tuples (A:=A) (e:=fun _=>true) p1 p2 hu fun j h1 h2=>by
    have h1' : j < its.length:=by simpa using h1
    have h2' : j < its2.length:=by simpa using h2
    obtain ⟨w,e1,e2⟩:=jK r1 (List.getElem?_eq_getElem h1')
    obtain ⟨w',e3,e4⟩:=jK r2 (List.getElem?_eq_getElem h2')
    rw [e1] at e3
    cases e3
    have fw:=zv f e1
    have:=qt (A:=A.in1) (s:=s) e2 e4 fw fw
    rwa [oY fw] at this
   have e5:((List.range (min its.toArray.size its2.toArray.size)).all (fun _=>true) && its.toArray.size == its2.toArray.size) = true:=by
    rw [List.size_toArray,List.size_toArray,← l1,← l2]
    simp
   rw [e5] at this
   exact .of_refs e this
theorem o6 {pins:List (Addr × Obj)} {s:Shared} {σ:St} {H:Hp} {A:Around} {xs ys:List V} {us vs:List Value} (I:Inv X pins σ H s) (h:Paired (Alike X.K H) xs ys) (rx:Vals xs us) (ry:Vals ys vs) (hu:A.units < cLine) :
  ∀ j (h1:j < us.toArray.size) (h2:j < vs.toArray.size),SeqAt.EqAt A s us.toArray[j] vs.toArray[j] true:=fun j h1 h2=>by
 have h1' : j < us.length:=by simpa using h1
 have h2' : j < vs.length:=by simpa using h2
 obtain ⟨w,e1,e2⟩:=jK rx (List.getElem?_eq_getElem h1')
 obtain ⟨w',e3,e4⟩:=jK ry (List.getElem?_eq_getElem h2')
 obtain ⟨a,e5,e6⟩:=gS h e3
 rw [e1] at e5
 cases e5
 exact tX I e6 e2 e4 hu
def zF (K:PySem.W.Frag) (b:Bool) (A:Around):R2:=fun x y H Q=>∃ p q xs ys,x = .ref p∧y = .ref q∧A.units + 1 < cLine∧aY K H p xs∧aY K H q ys∧Paired (Alike K H) xs ys∧Q (.bl b) H
theorem uP:hX X (compareOp .Eq) (zF X.K true X.A):=by
 intro pins s σ H x y v u Q I rx ry h
 obtain ⟨p,q,xs,ys,rfl,rfl,hu,hp,hq,hal,k⟩:=h
 cases rx
 cases ry
 obtain ⟨its,r1,p1,_⟩:=I.list hp
 obtain ⟨its2,r2,p2,_⟩:=I.list hq
 have l1:=r1.length
 have l2:=r2.length
 have l3:=Paired.length hal
 refine SeqAt.RcAt.lists (e:=fun _=>true) p1.isList p2.isList (by simp;lia) (by lia) (o6 (A:=X.A.in1) I hal r1 r2 hu) X.prog X.w X.xe _ ⟨.bl true,H,I,?_,k⟩
 show Value.bool _ = Value.bool true
 simp
theorem kh {K:PySem.W.Frag} {H:Hp} : ∀ {xs:List V},xs.all fF = true→Paired (Alike K H) xs xs
 | [],_=>.nil
 | x :: xs,h=>by
  rw [List.all_cons,Bool.and_eq_true] at h
  exact .cons (.flat h.1) (kh h.2)
end
theorem aE.calm {P:Program} {w:World} {K:PySem.W.Frag} {mg:Str→Option Value} {base:Heap} {k:Nat} {f:Addr} {fd:FuncData} {ps:List Str} {sp:Sp} (F:aE P w K mg base (rL P w) k f fd ps sp) :
  aE P w K mg base (fun _ _ _ _ _ _=>False) k f fd ps (fun vs H Q _=>sp vs H Q fun _ _ _=>False) :=
 ⟨fun vs H Q E h=>F.len vs H Q _ h,fun A outer s H args us vs Q E hr he hb hv hs=>codeAny_mono (F.run A outer s H args us vs Q (fun _ _ _=>False) hr he hb hv hs) fun r s' h=>by
  cases r with
  | error e =>
   obtain ⟨_,_,_,_,_,_,_,_,_,_,_,_,_,_,_,_,q⟩:=h
   exact q
  | ok fl=>cases fl <;> exact h⟩
end L2
end
section
namespace UfBfs
variable {σ μ:Type} [DecidableEq σ]
theorem ck.inv {g:G σ μ} {s u:σ} {r:List μ} {m:μ} (h:ck g s (r ++ [m]) u):∃ t,ck g s r t∧m ∈ g.may t∧u = g.nxt t m:=by
 generalize hr:r ++ [m] = r' at h
 cases h with
 | nil=>simp at hr
 | snoc h1 h2 =>
  obtain ⟨e1,e2⟩:=List.append_inj' hr rfl
  simp at e2
  subst e1 e2
  exact ⟨_,h1,h2,rfl⟩
theorem ck.pre {g:G σ μ} {s:σ} : ∀ {r2:List μ} {r1:List μ} {u:σ},ck g s (r1 ++ r2.reverse) u→∃ t,ck g s r1 t
 | [],r1,u,h=>⟨u,by simpa using h⟩
 | m :: r2,r1,u,h=>by
  rw [List.reverse_cons,← List.append_assoc] at h
  obtain ⟨t,h1,_⟩:=h.inv
  exact ck.pre h1
theorem ck.take {g:G σ μ} {s u:σ} {r:List μ} (h:ck g s r u) (i:Nat):∃ t,ck g s (r.take i) t:=by
 have e:r = r.take i ++ (r.drop i).reverse.reverse:=by rw [List.reverse_reverse,List.take_append_drop]
 rw [e] at h
 exact ck.pre h
theorem ck.det {g:G σ μ} {s:σ} {r:List μ} {t:σ} (h:ck g s r t):∀ {u:σ},ck g s r u→t = u:=by
 induction h with
 | nil =>
  intro u hu
  generalize hr:([] : List μ) = r' at hu
  cases hu with
  | nil=>rfl
  | snoc _ _=>simp at hr
 | snoc h1 h2 ih =>
  intro u hu
  obtain ⟨t',h3,_,rfl⟩:=hu.inv
  rw [ih h3]
end UfBfs
namespace Uf
open PySem L2 UfSrt UfFin
theorem qH {ms:List Mv} {st:List Str} (so:Sound ms st) {r:List Str} {t:List Str} (h:UfBfs.ck (graph ms) (aQ st) r t):fO ms st t:=by
 induction h with
 | nil=>exact iD so
 | snoc _ h2 ih=>exact (jV so ih h2).choose_spec.2.2.2.2.2
def qX (n i:Nat):List Str:=if i≤n then List.replicate i ("done" : Str) else List.replicate n ("done" : Str) ++ [("full" : Str)]
theorem zO {n i:Nat} (h:i < n):qX n (i + 1) = qX n i ++ [("done" : Str)]:=by
 unfold qX
 rw [if_pos (by lia),if_pos (by lia),List.replicate_succ']
theorem yW (n:Nat):qX n (n + 1) = qX n n ++ [("full" : Str)]:=by
 unfold qX
 rw [if_neg (by lia),if_pos (Nat.le_refl _)]
theorem wF {n i:Nat} : (qX n i).length≤n + 1:=by
 unfold qX
 split
 ·rw [List.length_replicate];lia
 ·rw [List.length_append,List.length_replicate];exact Nat.le_refl _
section
variable {P:Program} {w:World} {K:PySem.W.Frag} {mg:Str→Option Value} {base:Heap}
def qT:Sp:=fun vs H Q _=>∃ (a dm as:Addr) (ms:List Mv) (st r:List Str) (x:Str) (t:List Str),vs = [.ref dm,.ref as,.ref a]∧H a = some (.lst (av (r ++ [x])))∧gQ H dm ms∧Sound ms st∧H as = some (.tup (av (aQ st)))∧r.length≤5000 ∧
 UfBfs.ck (graph ms) (aQ st) r t∧cU ms t = some x∧∀ H',au H H'→Q (.bl true) H'
theorem hV:aI ["_law_moves", "_law_start", "_law_row", "_law_words", "_law_beads", "_law_name_here", "_law_word"] ["_law_moves", "_law_start", "_law_row"] (ai gr):=⟨rfl,rfl,rfl,by decide +kernel,rfl,by decide +kernel,by decide +kernel⟩
inductive Cs (H:Hp) (dm as a wa:Addr) (ms:List Mv) (st r:List Str) (i:Nat) (σ:St) (H2:Hp):Prop
 | mk (v5 v6:Option V) (q:Addr) (q0:σ = [some (.ref dm),some (.ref as),some (.ref a),some (.ref wa),some (.ref q),v5,v6]) (q1:au H H2) (q2:H2 wa = some (.lst (av (qX r.length i)))) (q3:i≤r.length→∃ u,H2 q = some (.tup (av u))∧UfBfs.ck (graph ms) (aQ st) (r.take i) u)
theorem Cs.same {H:Hp} {dm as a wa:Addr} {ms:List Mv} {st r:List Str} {i:Nat} {σ:St} {H2:Hp} (h:Cs H dm as a wa ms st r i σ H2):au H H2:=by
 cases h
 assumption
theorem tP {f fB:Addr} {fd fdB:FuncData} (F:eZ K "_law_shows" "_law_shows" gr f fd) (T:Txt K mg) (DB:Def K mg "_law_behind" gB ["_law_ends", "_law_beads"] fB fdB) (GB:aE P w K mg base bQ 1 fB fdB ["_law_ends", "_law_beads"] uy) :
  aE P w K mg base bQ 2 f fd ["_law_moves", "_law_start", "_law_row"] qT:=by
 refine F.ok hV (fun vs H Q E h=>?_) (fun cdv A outer s H vs Q E hr h=>?_)
 ·obtain ⟨a,dm,as,ms,st,r,x,t,rfl,_⟩:=h
  rfl
 ·obtain ⟨a,dm,as,ms,st,r,x,t,rfl,ha,D,so,has,hr5,hle,hcr,kk⟩:=h
  have hsl:=PySem.sizeLine_eq
  have hu:=gm hr
  have hu0:=hr.qa
  refine ⟨_,ah (aM (i:=3) hV.nd rfl (Or.inl rfl) (bZ ag))
   (ah (aM (i:=4) hV.nd rfl (Or.inl rfl) (pv 1))
   (ah (dZ PassesOwn.never rfl (br (pv 2)) (aA (i:=5) hV.nd rfl (Or.inl rfl))
    (ah (cv (gC (gY hu (pv 5) (pv 0))) (aq (aJ iY)) bf)
    (ah (qv (aK GB hr rfl DB.mg DB.fn.kp DB.bd .nil aX (aa (fg hu (pv 0) (pv 5) (fun _ _=>rfl)) (aa (pv 4) ag))) (gI rfl (bc (aA (i:=6) hV.nd rfl (Or.inl rfl)) (bc (aA (i:=4) hV.nd rfl (Or.inl rfl)) fe))))
    (aq (bF (gL PySem.F.plainAttrs_list PySem.F.slot_list_append PySem.F.type_list_append bE (pv 3) (aa (pv 6) ag)))))))
   (aq (aJ (d4 uP (pv 3) (aU jj (aU zD (bZ (aa gj ag)) (aU pM (az bA rfl T.len dX (aa (pv 2) ag)) aw)) (bZ (aa gj ag))) (cA _)))))),?_⟩
  clear hu
  dsimp only [eU,Cx.qB]
  have nnd:=so.nd
  have l1:(r ++ [x]).length = r.length + 1:=by simp
  refine ⟨Nat.zero_le _,fun wa nwa=>?_⟩
  have s1:au H (upd H wa (.lst [])):=aj nwa
  have h1:(upd H wa (.lst [])) wa = some (.lst (av (qX r.length 0))):=by rw [ae];unfold qX;rw [if_pos (Nat.zero_le _)];rfl
  generalize upd H wa (.lst []) = H1 at s1 h1 ⊢
  refine ⟨_,rfl,?_⟩
  refine ⟨_,rfl,a,rfl,⟨_,aY.of (s1 _ _ ha)⟩,cO (K:=K) (a:=a) (xs:=av (r ++ [x])) (Cs H dm as a wa ms st r) ⟨none,none,as,rfl,s1,h1,fun _=>⟨aQ st,s1 _ _ has,.nil⟩⟩ (fun i σ H2 _ h=>aY.of (h.same _ _ ha)) ?_ ?_⟩
  ·rintro i v σ H2 hi ⟨v5,v6,q,rfl,sm,hw,hiu⟩
   obtain ⟨y,hy,rfl⟩:=cB hi
   have hil:i < r.length + 1:=by
    have:=(List.getElem?_eq_some_iff.mp hy).1
    rwa [l1] at this
   obtain ⟨u,hq,hlu⟩:=hiu (by lia)
   have hfu:=qH so hlu
   have l12:=hfu.len so
   have lw:=wF (n:=r.length) (i:=i)
   rcases Nat.lt_or_eq_of_le (show i≤r.length by lia) with hlt | heq
   ·obtain ⟨u',hu'⟩:=hle.take (i + 1)
    rw [ar (List.getElem?_eq_getElem hlt)] at hu'
    obtain ⟨u2,hl2,hmay,eu'⟩:=hu'.inv
    have e2:=hlu.det hl2
    subst e2
    obtain ⟨m,hm,hmy,c1,c2,eb,hfb⟩:=jV so hfu hmay
    have ey:y = m.1:=by
     rw [List.getElem?_append_left hlt,List.getElem?_eq_getElem hlt] at hy
     rw [hmy]
     exact (Option.some.inj hy).symm
    subst ey
    obtain ⟨vv,dg,mv⟩:=(D.same sm).get nnd hm
    obtain ⟨te,rfl,hse⟩:=vc.step mv
    refine ⟨_,rfl,_,rfl,dm,_,rfl,dg,_,rfl,?_⟩
    refine bz ?_
    refine ⟨_,rfl,_,rfl,dm,_,rfl,dg,_,rfl,te,q,m.2.1,m.2.2,u,rfl,hse,so.mv m hm,hq,hfu.ris.nd,by lia,(fun c=>absurd (c1.symm.trans c) (by simp)),(fun _ c=>absurd (c2.symm.trans c) (by simp)),fun _ _ H3 t3 q3 s3 hq3 ht3=>?_⟩
    refine ⟨t3,_,rfl,cV.of ht3,rfl,_,_,rfl,_,_,rfl,rfl,?_⟩
    refine ⟨_,rfl,.inl ⟨rfl,_,aY.of (s3 _ _ hw)⟩,_,rfl,wa,_,_,rfl,rfl,s3 _ _ hw,by rw [ao];lia,?_⟩
    refine ⟨_,_,q3,rfl,aH (sm.trans s3) nwa,by rw [ae,eF,zO hlt],fun _=>⟨behind m.2.1 m.2.2 u,?_,?_⟩⟩
    ·rw [af (aR hq3 (s3 _ _ hw) (fun z=>nomatch z))]
     exact hq3
    ·rw [ar (List.getElem?_eq_getElem hlt)]
     have e3:=UfBfs.ck.snoc hlu hmay
     have e4:(graph ms).nxt u r[i] = behind m.2.1 m.2.2 u:=eb
     rw [e4] at e3
     exact e3
   ·subst heq
    rw [List.take_length] at hlu
    have e2:=hle.det hlu
    subst e2
    obtain ⟨m,hm,hmy,c1,c2⟩:=pN nnd hcr
    have ey:y = m.1:=by
     rw [List.getElem?_append_right (Nat.le_refl _),Nat.sub_self] at hy
     rw [hmy]
     exact (Option.some.inj hy).symm
    subst ey
    obtain ⟨vv,dg,mv⟩:=(D.same sm).get nnd hm
    obtain ⟨te,rfl,hse⟩:=vc.step mv
    refine ⟨_,rfl,_,rfl,dm,_,rfl,dg,_,rfl,?_⟩
    refine bz ?_
    refine ⟨_,rfl,_,rfl,dm,_,rfl,dg,_,rfl,te,q,m.2.1,m.2.2,t,rfl,hse,so.mv m hm,hq,hfu.ris.nd,by lia,(fun c=>absurd (c1.symm.trans c) (by simp)),fun _ _ H3 t3 s3 ht3=>?_,fun _ c=>absurd (c2.symm.trans c) (by simp)⟩
    refine ⟨t3,_,rfl,cV.of ht3,rfl,_,_,rfl,_,_,rfl,rfl,?_⟩
    refine ⟨_,rfl,.inl ⟨rfl,_,aY.of (s3 _ _ hw)⟩,_,rfl,wa,_,_,rfl,rfl,s3 _ _ hw,by rw [ao];lia,?_⟩
    exact ⟨_,_,q,rfl,aH (sm.trans s3) nwa,by rw [ae,eF,yW],fun c=>absurd c (by lia)⟩
  ·rintro σ H2 ⟨v5,v6,q,rfl,sm,hw,_⟩
   rw [ao,l1] at hw
   refine ⟨_,rfl,by show 1≤sizeLine;lia,fun l nl=>?_⟩
   have s3:au H2 (upd H2 l (.lst [V.str "done"])):=aj nl
   have h3:(upd H2 l (.lst [V.str "done"])) l = some (.lst [V.str "done"]):=ae
   generalize upd H2 l (.lst [V.str "done"]) = H3 at s3 h3 ⊢
   refine ⟨_,rfl,_,r.length + 1,rfl,.inl ⟨_,aY.of (s3 _ _ (sm _ _ ha)),by rw [ao,l1]⟩,_,_,rfl,rfl,l,_,_,rfl,rfl,h3,by lia,by lia,?_,fun l2 nl2=>?_⟩
   ·show 1 * _≤sizeLine
    lia
   have er:(((r.length + 1:Nat):Int) - 1).toNat = r.length:=by lia
   rw [er]
   have ef:(List.replicate r.length [V.str "done"]).flatten = av (List.replicate r.length "done"):=by
    unfold av
    rw [List.map_replicate]
    induction r.length with
    | zero=>rfl
    | succ n ih=>rw [List.replicate_succ,List.flatten_cons,ih,List.replicate_succ];rfl
   rw [ef]
   have s4:au H3 (upd H3 l2 (.lst (av (List.replicate r.length "done")))):=aj nl2
   have h4:(upd H3 l2 (.lst (av (List.replicate r.length "done")))) l2 = some (.lst (av (List.replicate r.length "done"))):=ae
   generalize upd H3 l2 (.lst (av (List.replicate r.length "done"))) = H4 at s4 h4 ⊢
   refine ⟨by show 1≤sizeLine;lia,fun l3 nl3=>?_⟩
   have s5:au H4 (upd H4 l3 (.lst [V.str "full"])):=aj nl3
   have h5:(upd H4 l3 (.lst [V.str "full"])) l3 = some (.lst [V.str "full"]):=ae
   have h45:=s5 _ _ h4
   generalize upd H4 l3 (.lst [V.str "full"]) = H5 at s5 h5 h45 ⊢
   refine ⟨l2,l3,_,_,rfl,rfl,h45,h5,by rw [ao,List.length_replicate];show _ + 1≤_;lia,fun l4 nl4=>?_⟩
   have ew:av (List.replicate r.length "done") ++ [V.str "full"] = av (qX r.length (r.length + 1)):=by
    rw [eF]
    unfold qX
    rw [if_neg (by lia)]
   rw [ew]
   have s6:au H5 (upd H5 l4 (.lst (av (qX r.length (r.length + 1))))):=aj nl4
   have s26:=s3.trans (s4.trans (s5.trans s6))
   refine ⟨wa,l4,_,_,rfl,rfl,?_,aY.of (s26 _ _ hw),aY.of ae,kh (eK _),?_⟩
   ·exact gm hr
   ·exact kk _ (sm.trans s26)
end
end Uf
end
section
namespace L2
open PySem PySem.Spec PyProof.Rows UfX
def kN (CX:pA) (X:Cx) (σ:St) (E:XK):Prop:=∀ (pins:List (Addr × Obj)) (H:Hp) (s:Shared) (e:Value) (s' : Shared),Inv X pins σ H s→CX X.stack H s E e s'→X.xe e s'
def xo (X:Cx) (B:Addr) (i:Nat) (th:Addr→TS) (D:Ends) (σ:St):XK:=fun cls dx H=>∃ C,cls = .ref C∧qe X.K C B∧∀ a,H a = none→th a (ly i D) (σ.set i (some (.ref a))) (upd H a (cS a (.ref C) dx))
section
variable {X:Cx} {pins:List (Addr × Obj)} {D:Ends} {B:Addr} {i:Nat} {n cn:Str} {np hpos:Pos} {b0:Stmt} {suite:List Stmt} {th:Addr→TS}
theorem AH (hst:X.stack = X.env :: X.outer) (hfr:X.env.frame = some X.env.locals) (hex:X.ex = []) (hN:X.N.Nodup) (hi:X.N[i]? = some n) (hk:X.env.scope.names.lookup n = some .local) (hg:Gl X cn) (hm:X.mg cn = some (.ref B)) (hd:(cn == ("__debug__" : Str)) = false)
  (hsu:∀ a,nv (X.held a) (b0 :: suite) (th a)) :
  ∀ σ:St,kN (rL X.prog X.w) (X.ie pins D [.ExceptHandler (some (.Name cn np)) (some n) (b0 :: suite) hpos]) σ (xo X B i th D σ):=fun σ pins' H1 s1 e s' I h=>by
 obtain ⟨a,T,cls,a0,dx,H',rfl,os,bare,un,hok,x,na,nT,ha,hT,C,rfl,U,q⟩:=h
 have J:=(I.uq os un hok bare fun b z=>absurd z (by simp)).fQ
 have up:∀ b,s1.heap.get? b = none→X.s₀.heap.get? b = none:=fun b hb=>by
  cases z:X.s₀.heap.get? b with
  | none=>rfl
  | some o =>
   obtain ⟨o',h3⟩:=I.base.there b o z (by show b ∉ X.ex;rw [hex];simp)
   rw [hb] at h3
   cases h3
 have pa:∀ b,s1.heap.get? b = none→∀ p ∈ X.pn ++ pins,p.1≠b:=fun b hb p hp z=>by
  have:=(I.pin p (List.mem_append_left _ hp)).1
  rw [z,hb] at this
  cases this
 obtain ⟨oa,va,hoa,_,_,hda,_,_,hsT⟩:=id x
 obtain ⟨_,_,oT,vT,hoT,hdT,_⟩:=hsT T rfl
 have hst' : X.A.frames = some (X.env :: X.outer):=by rw [← hst];exact J.ok.frames
 have hff:s'.heap.FunFrames X.base (X.env :: X.outer):=by rw [← hst];exact J.stack
 refine UfX.land (base:=X.base) hst' hff hfr x fun h2 T2 x2 lT st=>?_
 have st1:UfX.Step (g9 X.stack) a (some T) s'.heap h2:=by rw [hst];exact st
 have J1:=J.flew st1 hoa hda ha (up a na) (fun T' z=>by cases z;exact ⟨hT,up T nT,oT,vT,hoT,hdT⟩) (fun p hp=>⟨pa a na p hp,fun z=>pa T nT p hp (Option.some.inj z).symm⟩) hex
 have hT2:H' T2 = none:=J.hok.fresh lT
 have uT2:X.s₀.heap.get? T2 = none:=Heap.get?_none_of_le (Nat.le_trans J.sz lT)
 obtain ⟨⟨cn1,cq,N,bases,tl,hasD,sn,subs,ab,col,cdd,l0,l1,l2,l3,l5,nw,hC,hsub⟩,⟨bn,bq,NB,bases',tl',hasD',sn',subs',ab',col',cdd',m0,m1,m2,m3,m5,nw',hB,hbb⟩⟩:=U
 obtain ⟨oa2,va2,hoa2,hcl2,hdx2,hda2,h02,hn2,hs2⟩:=id x2
 refine wpAny_handleBy_cons (codeAny_handlers_test (Calls.Name_function_global J1.ok.kind hg (Calls.loadGlobal_global (by rw [J1.ok.glob];exact J1.mod.glob.keeps J1.bk) hm ?_) hd)) (fun z=>nomatch z)
 refine UfX.tj (J1.eV _ _ hC) (J1.eV _ _ hB) hoa2 hcl2 hbb hsub (codeAny_handlers_suite_as ?_)
 have nTf:T2 ∉ g9 X.stack:=fun hm2=>by
  obtain ⟨_,o,ho,hnf⟩:=J1.stack.mem hm2
  obtain ⟨_,_,oT2,vT2,hoT2,hdT2,_⟩:=hs2 T2 rfl
  rw [hoT2] at ho
  cases ho
  exact hnf _ hdT2
 refine UfX.again (fr:=g9 X.stack) x2 nTf fun h3 x3 st3=>?_
 obtain ⟨_,_,oT2,vT2,hoT2,hdT2,_⟩:=hs2 T2 rfl
 have J2:=J1.flew st3 hoa2 hda2 ha (up a na) (fun T' z=>by cases z;exact ⟨hT2,uT2,oT2,vT2,hoT2,hdT2⟩) (fun p hp=>⟨pa a na p hp,fun z=>by
  have e1:=(J.pin p hp).1
  rw [← Option.some.inj z] at e1
  exact absurd (Nat.lt_of_lt_of_le (Heap.lt_size e1) lT) (Nat.lt_irrefl _)⟩) hex
 obtain ⟨oa3,va3,hoa3,hcl3,hdx3,hda3,_,_,_⟩:=id x3
 have aL:a≠X.env.locals:=fun z=>by
  obtain ⟨m,⟨o,es,ep,ho,hd',_⟩,_⟩:=J2.loc
  rw [← z] at ho
  have ho:h3.get? a = some o:=ho
  rw [hoa3] at ho
  cases ho
  rw [hda3] at hd'
  cases hd'
 have aC:∀ y c,X.env.cells.lookup y = some c→c≠a:=fun y c hy z=>by
  obtain ⟨v,o,ho,hd'⟩:=J2.cell y c hy
  rw [z] at ho
  have ho:h3.get? a = some o:=ho
  rw [hoa3] at ho
  cases ho
  rw [hda3] at hd'
  cases hd'
 have J3:=J2.AR (a:=a) (φ:=eJ a (.ref C) dx) ha (up a na) aL aC (pa a na) (eJ.ok ⟨oa3,va3,hoa3,hcl3,hdx3,hda3⟩)
 have J4:=J3
 refine iJ J4 hN hi (Or.inl hk) (v:=.ref a) rfl (fun s5 I5=>?_) (.inr hk)
 have run:=hsu a pins s5 _ _ (ly i D) (I5.held a) (q a ha)
 have behind:∀ {σ' : St} {H5:Hp} {s6:Shared} {R:Shared→Prop},Inv X pins σ' H5 s6→(∀ s7,Inv X pins (σ'.set i none) H5 s7→R s7) →
   wpAny (model X.prog X.w) X.A (do bindName X.env n .none;unbindBehindTheSuite X.env n hpos) (fun _ s7=>R s7) X.xe s6:=fun {σ' H5 s6 R} K1 k1=>by
  have lt:i < σ'.length:=by rw [K1.len];exact (List.getElem?_eq_some_iff.mp hi).1
  refine wpAny_bind (wpAny_bindName (iJ K1 hN hi (Or.inl hk) (v:=.non) rfl (fun s7 K2=>?_) (.inr hk)))
  exact wpAny_onRaise (tK K2 hN hi hk lt fun s8 K3=>k1 s8 K3)
 refine wpAny_mono run (fun f s6 hf=>?_) fun _ _ z=>False.elim z
 have ok:=J4.ok
 cases f with
 | next=>obtain ⟨σ',H5,K1,z⟩:=hf;exact behind (K1.mK ok) fun s7 K2=>⟨_,_,K2,z⟩
 | brk=>obtain ⟨σ',H5,K1,z⟩:=hf;exact behind (K1.mK ok) fun s7 K2=>⟨_,_,K2,z⟩
 | cont=>obtain ⟨σ',H5,K1,z⟩:=hf;exact behind (K1.mK ok) fun s7 K2=>⟨_,_,K2,z⟩
 | ret u=>obtain ⟨v,σ',H5,K1,rv,z⟩:=hf;exact behind (K1.mK ok) fun s7 K2=>⟨v,_,_,K2,rv,z⟩
end
section
variable {X:Cx} {CX:pA} {k:Nat} {f C:Addr} {fd:FuncData} {ps:List Str} {sp:Sp} {dvs:List V} {ds:List Value} {E:XK} {x m:Str} {p pos apos:Pos} {e o:Expr} {es:List Expr} {ta:TE} {t:TA}
theorem sE {pins:List (Addr × Obj)} {σ:St} {H:Hp} {s:Shared} {Q:VK} {us:List Value} {vs:List V} (M:Mk X.K C f) (F:aE X.prog X.w X.K X.mg X.base CX k f fd ps sp) (hr:bX (k + 1) X.A) (hb:Binds X.K fd ps ds) (hd:Vals dvs ds)
  (hx:kN CX X σ E) (I:Inv X pins σ H s) (r:Vals vs us)
  (h:∀ x dx,H x = none→H dx = none→dx≠x→sp (.ref x :: (vs ++ dvs)) (upd (upd H dx (.own x)) x (.ins C dx [])) (fun v H2=>v = .non∧Q (.ref x) H2) E) :
  wpAny (model X.prog X.w) X.A (call (.ref C) us) (EP X pins σ Q) X.xe s:=by
 have hq:=h (s.heap.objs.size + 1) s.heap.objs.size (I.hok.fresh (Nat.le_succ _)) (I.hok.fresh (Nat.le_refl _)) (Nat.ne_of_lt (Nat.lt_succ_self _))
 have I2:=Inv.made (C:=C) I
 have r2:Vals (V.ref (s.heap.objs.size + 1) :: (vs ++ dvs)) (Value.ref (s.heap.objs.size + 1) :: (us ++ ds)):=.cons rfl (r.append hd)
 have hl:(Value.ref (s.heap.objs.size + 1) :: us ++ ds).length = ps.length:=by
  have e:=r2.length
  rw [F.len _ _ _ _ hq] at e
  exact e.symm
 refine wpAny_call (o3 (f:=f) I.eV M.makes M.init (beq_iff_eq.mp M.fn) (codeAny_mono (F.run _ X.stack _ _ ⟨Value.ref (s.heap.objs.size + 1) :: us,[]⟩ (Value.ref (s.heap.objs.size + 1) :: (us ++ ds)) _ _ E (hr.make C us [])
  (I2.wQ.make C us []) (hb _ (Value.ref (s.heap.objs.size + 1) :: us) I2.eV hl) r2 hq) fun r s' hq'=>?_))
 cases r with
 | error e=>exact hx pins _ _ e s' I2 hq'
 | ok fl =>
  cases fl with
  | ret u =>
   obtain ⟨v,H',I3,rv,ev,q3⟩:=I2.after hq'
   subst ev
   exact ⟨rv,⟨V.ref (s.heap.objs.size + 1),H',I3,rfl,q3⟩⟩
  | next=>exact False.elim hq'
  | brk=>exact False.elim hq'
  | cont=>exact False.elim hq'
theorem vt {E:St→XK} (M:Mk X.K C f) (F:aE X.prog X.w X.K X.mg X.base CX k f fd ps sp) (hr:bX (k + 1) X.A) (hg:Gl X x) (hm:X.mg x = some (.ref C)) (hb:Binds X.K fd ps ds) (hd:Vals dvs ds) (hx:∀ σ,kN CX X σ (E σ))
  (ha:PA X (e :: es) t) (hdb:(x == ("__debug__" : Str)) = false:=by decide) (he:starEach (e :: es) X.env = (false,eval e X.env) :: starEach es X.env:=by rfl) (hpl:(backTo pos (starEach es X.env)).any (·.1) = false:=by rfl) :
  PE X (.Call (.Name x p) (e :: es) [] pos) (fun σ H Q=>yv C sp dvs (E σ) t σ H Q):=by
 intro pins s σ H Q I h
 refine wpAny_Call_Name_kw (gZ I hg hm ?_ hdb)
 refine PySem.W.callWith_K (h₀:=X.base) I.ok.mod.kin M.kp (bx (ha pos pins s σ H _ I h) fun us s1 ⟨vs,H1,I1,r,q⟩=>⟨I1.eV,?_⟩) he hpl
 exact sE M F hr hb hd (hx σ) I1 r q
end
end L2
end
section
namespace Uf
open PySem L2 UfSrt UfFin
theorem Cf:bootBuiltins "ValueError" = some (.type "ValueError"):=by decide +kernel
structure yg (mg:Str→Option Value) (NE CR CL CF CH CE CO CC CA CM CN CP CW CS CX CY CI:Addr):Prop where
 ne:mg "NetError" = some (.ref NE)
 cr:mg "Crowded" = some (.ref CR)
 cl:mg "Clash" = some (.ref CL)
 cf:mg "Full" = some (.ref CF)
 ch:mg "Held" = some (.ref CH)
 ce:mg "NoName" = some (.ref CE)
 co:mg "NoNet" = some (.ref CO)
 cc:mg "NoOccurrence" = some (.ref CC)
 ca:mg "Apart" = some (.ref CA)
 cm:mg "Misfit" = some (.ref CM)
 cn:mg "NoMove" = some (.ref CN)
 cp:mg "NoPlace" = some (.ref CP)
 cw:mg "NoRow" = some (.ref CW)
 cs:mg "NoSpot" = some (.ref CS)
 cx:mg "NoText" = some (.ref CX)
 cy:mg "TooMany" = some (.ref CY)
 ci:mg "Twice" = some (.ref CI)
 ve:mg "ValueError" = none
structure uo (K:PySem.W.Frag) (NE CR CL CF CH CE CO CC CA CM CN CP CW CS CX CY CI:Addr):Prop where
 un:qe K CR NE
 ei:sN K CR
 eg:zq K CR "row"
 k0:PySem.W.kitOne K (.ref CR) (.ref CR) = some true
 kv:PySem.W.kitOne K (.ref CR) (.type "ValueError") = some true
 ka:PySem.W.kitAny K (.ref CR) [.ref CL,.ref CF,.ref CH,.ref CE,.ref CO,.ref CC,.ref CA,.ref CM] = some false
 kb:PySem.W.kitAny K (.ref CR) [.ref CN,.ref CP,.ref CW,.ref CS,.ref CX,.ref CY,.ref CI] = some false
section
variable {P:Program} {w:World} {K:PySem.W.Frag} {mg:Str→Option Value} {base:Heap}
def rf (C:Addr):Sp:=fun vs H Q _=>∃ (d p rl bl:Addr) (ms:List Mv) (S:List Str),vs = [.ref d,.ref p]∧H d = some (.tup [.ref rl,.ref bl])∧ju H rl ms∧H bl = some (.lst (av S))∧mO ms S∧bR C H p ms S∧∀ H',au H H'→Q (.bl true) H'
theorem dP:aI ["_law_drawn", "_law_net", "_law_moves", "_law_name_here", "_law_takes", "_law_gives", "_law_start", "_law_least_here", "_law_row", "e"] ["_law_drawn", "_law_net"] (ai gu):=⟨rfl,rfl,rfl,by decide +kernel,rfl,by decide +kernel,by decide +kernel⟩
inductive BS (H:Hp) (d p mo:Addr) (ms:List Mv) (i:Nat) (σ:St) (H2:Hp):Prop
 | mk (v3 v4 v5:Option V) (kvs:List (Key × V)) (q0:σ = [some (.ref d),some (.ref p),some (.ref mo),v3,v4,v5,none,none,none,none]) (q1:au H H2) (q2:H2 mo = some (.dK kvs)) (q3:MP H2 (ms.take i) kvs)
theorem BS.same {H:Hp} {d p mo:Addr} {ms:List Mv} {i:Nat} {σ:St} {H2:Hp} (h:BS H d p mo ms i σ H2):au H H2:=by
 cases h
 assumption
theorem vn {f C CW fW NE CR CL CF CH CE CO CC CA CM CN CP CQ CS CX CY CI fL fS:Addr} {fd fdW fdL fdS:FuncData} (F:eZ K "_law_web_right" "_law_web_right" gu f fd) (T:Txt K mg) (M:yg mg NE CR CL CF CH CE CO CC CA CM CN CP CQ CS CX CY CI) (KR:uo K NE CR CL CF CH CE CO CC CA CM CN CP CQ CS CX CY CI)
  (mgW:mg "Web" = some (.ref CW)) (MW:Mk K CW fW) (bW:Binds K fdW ["self", "net"] []) (GW:aE P w K mg base (rL P w) 8 fW fdW ["self", "net"] (qW C CW CR))
  (DL:Def K mg "_law_least" gq ["_law_moves", "_law_start"] fL fdL) (GL:aE P w K mg base bQ 2 fL fdL ["_law_moves", "_law_start"] qZ)
  (DS:Def K mg "_law_shows" gr ["_law_moves", "_law_start", "_law_row"] fS fdS) (GS:aE P w K mg base bQ 2 fS fdS ["_law_moves", "_law_start", "_law_row"] qT) :
  aE P w K mg base (rL P w) 10 f fd ["_law_drawn", "_law_net"] (rf C):=by
 refine F.Cj dP (fun vs H Q E h=>?_) (fun cdv A outer s H vs Q E hr h=>?_)
 ·obtain ⟨d,p,rl,bl,ms,S,rfl,_⟩:=h
  rfl
 ·obtain ⟨d,p,rl,bl,ms,S,rfl,hd,hrow,hbl,ok,N,kk⟩:=h
  have hsl:=PySem.sizeLine_eq
  have hu:=gm hr
  have hr2:bX 2 _:=hr.mono (by decide)
  refine ⟨_,ah (aM (i:=2) dP.nd rfl (Or.inl rfl) iT)
   (ah (dZ PassesOwn.leaving rfl (br (cP dC (pv 0) aw (fun _ _=>rfl))) (gI rfl (bc (aA (i:=3) dP.nd rfl (Or.inl rfl)) (bc (aA (i:=4) dP.nd rfl (Or.inl rfl)) (bc (aA (i:=5) dP.nd rfl (Or.inl rfl)) fe))))
    (aq (hJ hu (pv 2) (pv 3) (dI (aa (pv 4) (aa (pv 5) ag))) rfl)))
   (ah (aM (i:=6) dP.nd rfl (Or.inl rfl) (ba bH rfl T.tup gf (aa (az dF rfl T.aQ dS (aa (cP dC (pv 0) aw (fun _ _=>rfl)) ag)) ag)))
   (ah (aM (i:=7) dP.nd rfl (Or.inl rfl) (aK GL hr2 rfl DL.mg DL.fn.kp DL.bd .nil aX (aa (zJ (pv 2)) (aa (pv 6) ag))))
   (ah (aM (i:=8) dP.nd rfl (Or.inl rfl) jl)
   (ah (yY (fun D pins=>aq (bF (vt MW GW hr rfl mgW bW .nil
    (AH (i:=9) rfl rfl rfl dP.nd rfl rfl rfl M.ne rfl (fun xa =>
     ah (cv (PW.pt (pw_or (cN (bY (az gh rfl T.isi lN (aa (pv 9) (aa (bj (v:=.ref CR) rfl M.cr rfl) ag))))) (pw_or1 (bY (az gh rfl T.isi lN (aa (pv 9) (aa (dI (aa (bj (v:=.ref CL) rfl M.cl rfl) (aa (bj (v:=.ref CF) rfl M.cf rfl) (aa (bj (v:=.ref CH) rfl M.ch rfl) (aa (bj (v:=.ref CE) rfl M.ce rfl) (aa (bj (v:=.ref CO) rfl M.co rfl) (aa (bj (v:=.ref CC) rfl M.cc rfl) (aa (bj (v:=.ref CA) rfl M.ca rfl) (aa (bj (v:=.ref CM) rfl M.cm rfl) ag))))))))) ag))))))) (aq (aJ iY)) bf)
     (ah (cv (PW.pt (pw_or (bY (az gh rfl T.isi lN (aa (pv 9) (aa (dI (aa (bj (v:=.ref CN) rfl M.cn rfl) (aa (bj (v:=.ref CP) rfl M.cp rfl) (aa (bj (v:=.ref CQ) rfl M.cw rfl) (aa (bj (v:=.ref CS) rfl M.cs rfl) (aa (bj (v:=.ref CX) rfl M.cx rfl) (aa (bj (v:=.ref CY) rfl M.cy rfl) (aa (bj (v:=.ref CI) rfl M.ci rfl) ag)))))))) ag)))) (pw_or1 (cN (bY (az gh rfl T.isi lN (aa (pv 9) (aa (mX (v:=.ty "ValueError") rfl M.ve Cf rfl) ag)))))))) (aq (aJ iY)) bf)
     (aq (aM (i:=8) dP.nd rfl (Or.inl rfl) (pD (pv 9) rfl))))))
    (aa (pv 1) ag)))))
   (ah (cv (gC (vP (pv 7))) (aq (aJ (yZ (vP (pv 8))))) bf)
   (ah (cv (PW.pt (pw_or (cN (bY (az oQ rfl T.isi lN (aa (pv 8) (aa (mX (v:=.ty "list") rfl T.lst dY rfl) ag))))) (pw_or (bJ A5 (az bA rfl T.len dX (aa (pv 8) ag)) (pv 7) (cA _)) (pw_or1 (cN (bY (aK GS hr2 rfl DS.mg DS.fn.kp DS.bd .nil aX (aa (pv 2) (aa (pv 6) (aa (pv 8) ag)))))))))) (aq (aJ iY)) bf)
   (ah (bF (vf PySem.F.plainAttrs_list PySem.F.slot_list_clear PySem.F.type_list_clear tU (pv 8)))
   (aq (aJ iY)))))))))),?_⟩
  clear hu
  dsimp only [eU,Cx.qB]
  intro mo nmo
  have s1:au H (upd H mo (.dK [])):=aj nmo
  have h1:(upd H mo (.dK [])) mo = some (.dK []):=ae
  generalize upd H mo (.dK []) = H1 at s1 h1 ⊢
  obtain ⟨qs,hqs,pqs⟩:=id hrow
  have lqs:=Paired.length pqs
  have so:=kF ok.net
  have lm:=so.ml
  refine ⟨_,rfl,d,_,0,_,rfl,rfl,cV.of (s1 _ _ hd),cj (j:=0) rfl,rl,rfl,⟨_,aY.of (s1 _ _ hqs)⟩,cO (K:=K) (a:=rl) (xs:=qs.map V.ref) (BS H d p mo ms) ⟨none,none,none,[],rfl,s1,h1,.nil⟩ (fun i σ H2 _ h=>aY.of (h.same _ _ hqs)) ?_ ?_⟩
  ·rintro i v σ H2 hi ⟨v3,v4,v5,kvs,rfl,s2,hmo,mp⟩
   obtain ⟨q,hq,rfl⟩:=dA hi
   obtain ⟨m,hm,l,g,e1,e2,e3⟩:=bp pqs hq
   refine ⟨q,_,rfl,cV.of (s2 _ _ e1),rfl,_,_,rfl,_,_,rfl,_,_,rfl,rfl,?_⟩
   refine ⟨_,rfl,_,rfl,by show 2≤sizeLine;lia,fun t nt=>?_⟩
   have s3:au H2 (upd H2 t (.tup [.ref l,.ref g])):=aj nt
   have ht:(upd H2 t (.tup [.ref l,.ref g])) t = some (.tup [.ref l,.ref g]):=ae
   generalize upd H2 t (.tup [.ref l,.ref g]) = H3 at s3 ht ⊢
   have hmo3:=s3 _ _ hmo
   have lkv:kvs.length = (ms.take i).length:=(Paired.length mp).symm
   refine ⟨_,rfl,_,rfl,mo,_,rfl,jH.k (k:=Sum.inr m.1) hmo3 (jh (by rw [lkv,List.length_take];lia)),?_⟩
   have hnew:m.1 ∉ names (ms.take i):=fun z=>by
    have nd:=so.nd
    have e:names ms = names (ms.take i) ++ names (ms.drop i):=by
     unfold names
     rw [← List.map_append,List.take_append_drop]
    rw [e] at nd
    have hin:m.1 ∈ names (ms.drop i):=by
     refine List.mem_map.mpr ⟨m,?_,rfl⟩
     refine List.mem_of_getElem? (i:=0) ?_
     rw [List.getElem?_drop]
     exact hm
    exact (List.nodup_append.mp nd).2.2 _ z _ hin rfl
   have pk:putK kvs (Sum.inr m.1:Key) (V.ref t) = kvs ++ [(Sum.inr m.1,V.ref t)]:=fE _ (mp.none hnew)
   rw [pk]
   refine ⟨_,_,_,_,rfl,aH (s2.trans s3) nmo,ae,?_⟩
   rw [ar hm]
   refine Paired.snoc ((mp.same s3).put hmo3) ⟨rfl,t,l,g,rfl,?_,?_,?_⟩
   ·rw [af (aR ht hmo3 (fun z=>nomatch z))];exact ht
   ·have e2':=(s2.trans s3) _ _ e2
    rw [af (aR e2' hmo3 (fun z=>nomatch z))];exact e2'
   ·have e3':=(s2.trans s3) _ _ e3
    rw [af (aR e3' hmo3 (fun z=>nomatch z))];exact e3'
  rintro σ H2 ⟨v3,v4,v5,kvs,rfl,s2,hmo,mp⟩
  rw [List.length_map,← lqs,List.take_length] at mp
  refine ⟨_,rfl,d,_,1,_,rfl,rfl,cV.of (s2 _ _ hd),cj (j:=1) rfl,bl,S,rfl,aY.of (s2 _ _ hbl),by have:=so.BB;lia,fun q2 nq2=>⟨q2,_,rfl,.inl ⟨aY.of ae,fun as nas=>?_⟩⟩⟩
  have s3:=(aj (o:=.lst (av (aQ S))) nq2).trans (aj (o:=.tup (av (aQ S))) nas)
  have has:(upd (upd H2 q2 (.lst (av (aQ S)))) as (.tup (av (aQ S)))) as = some (.tup (av (aQ S))):=ae
  generalize upd (upd H2 q2 (.lst (av (aQ S)))) as (.tup (av (aQ S))) = H3 at s3 has ⊢
  have hmo3:=s3 _ _ hmo
  refine ⟨_,rfl,mo,kvs,rfl,hmo3,fun o=>?_⟩
  have f4:(upd H3 mo (.frz o (.dK kvs))) mo = some (.frz o (.dK kvs)):=ae
  have mp4:=MP.put (o:=.frz o (.dK kvs)) hmo3 (mp.same s3)
  have s4:au H (upd H3 mo (.frz o (.dK kvs))):=aH (s2.trans s3) nmo
  have has4:(upd H3 mo (.frz o (.dK kvs))) as = some (.tup (av (aQ S))):=by rw [af (aR has hmo3 (fun z=>nomatch z))];exact has
  generalize upd H3 mo (.frz o (.dK kvs)) = H4 at f4 mp4 s4 has4 ⊢
  have D4:gQ H4 mo ms:=⟨o,kvs,f4,mp4⟩
  have N4:bR C H4 p ms S:=N.same s4
  refine ⟨_,rfl,mo,as,ms,S,rfl,D4,so,has4,fun H5 s5 hno=>?_,fun H5 dd t s5 hat hbad hmin=>?_⟩
  ·refine ⟨_,rfl,fun x dx nx ndx nex=>?_⟩
   have sn:au H5 (upd (upd H5 dx (.own x)) x (.ins CW dx [])):=fun b o e=>by
    rw [af (ak e nx),af (ak e ndx)]
    exact e
   refine ⟨x,dx,p,ms,S,rfl,ae,(N4.same s5).same sn,fun row hr _=>?_,fun _ H6 _ keep=>⟨rfl,?_⟩⟩
   ·exfalso
    obtain ⟨r,t,m,rfl,hl,hb,_⟩:=hr
    have h0:=hno r.length t ⟨r,rfl,hl⟩
    have hb:cU ms t = some m:=hb
    rw [h0] at hb
    cases hb
   ·have s6:au H5 H6:=fun b o e=>keep b o (sn b o e) (ak e nx)
    refine ⟨_,rfl,_,rfl,?_⟩
    refine bN ?_
    refine ⟨_,rfl,?_⟩
    exact kk H6 (s4.trans (s5.trans s6))
  ·refine ⟨_,rfl,fun x dx nx ndx nex=>?_⟩
   have sn:au H5 (upd (upd H5 dx (.own x)) x (.ins CW dx [])):=fun b o e=>by
    rw [af (ak e nx),af (ak e ndx)]
    exact e
   refine ⟨x,dx,p,ms,S,rfl,ae,(N4.same s5).same sn,fun row hr hl5=>?_,fun hn=>absurd (hn dd t hat) hbad⟩
   intro H6 dx6 q6 s6 nq6 hx6 hq6
   have nq5:H5 q6 = none:=sn.free nq6
   have s56:=sn.trans s6
   obtain ⟨r,t2,m,rfl,hl,hb,hmin2⟩:=hr
   have edd:r.length = dd:=by
    have a1:=hmin2 dd t hat hbad
    have a2:=hmin r.length t2 ⟨r,rfl,hl⟩ (by have hb:cU ms t2 = some m:=hb;rw [hb];simp)
    lia
   refine ⟨CR,rfl,KR.un,fun e ne=>?_⟩
   have s7:au H6 (upd H6 e (cS e (.ref CR) (some dx6))):=aj ne
   have he:(upd H6 e (cS e (.ref CR) (some dx6))) e = some (cS e (.ref CR) (some dx6)):=ae
   have hx7:=s7 _ _ hx6
   have hq7:=s7 _ _ hq6
   generalize upd H6 e (cS e (.ref CR) (some dx6)) = H7 at s7 he hx7 hq7 ⊢
   refine ⟨_,rfl,e,CR,dx6,_,_,true,rfl,he,hx7,KR.ei,?_,.inl ⟨(fun z=>nomatch z),KR.k0⟩⟩
   refine ⟨_,rfl,?_⟩
   refine bz ?_
   refine ⟨_,rfl,by show 8≤sizeLine;lia,fun tp ntp=>?_⟩
   have s8:au H7 (upd H7 tp (.tup [.ref CL,.ref CF,.ref CH,.ref CE,.ref CO,.ref CC,.ref CA,.ref CM])):=aj ntp
   have htp:(upd H7 tp (.tup [.ref CL,.ref CF,.ref CH,.ref CE,.ref CO,.ref CC,.ref CA,.ref CM])) tp = some (.tup [.ref CL,.ref CF,.ref CH,.ref CE,.ref CO,.ref CC,.ref CA,.ref CM]):=ae
   generalize upd H7 tp (.tup [.ref CL,.ref CF,.ref CH,.ref CE,.ref CO,.ref CC,.ref CA,.ref CM]) = H8 at s8 htp ⊢
   refine ⟨e,CR,dx6,_,_,false,rfl,s8 _ _ he,s8 _ _ hx7,KR.ei,?_,.inr ⟨tp,_,rfl,htp,(fun d hd=>by simp at hd;rcases hd with rfl | rfl | rfl | rfl | rfl | rfl | rfl | rfl <;> exact fun z=>nomatch z),KR.ka⟩⟩
   refine ⟨_,rfl,?_⟩
   refine bz ?_
   refine ⟨_,rfl,by show 7≤sizeLine;lia,fun tp2 ntp2=>?_⟩
   have s9:au H8 (upd H8 tp2 (.tup [.ref CN,.ref CP,.ref CQ,.ref CS,.ref CX,.ref CY,.ref CI])):=aj ntp2
   have htp2:(upd H8 tp2 (.tup [.ref CN,.ref CP,.ref CQ,.ref CS,.ref CX,.ref CY,.ref CI])) tp2 = some (.tup [.ref CN,.ref CP,.ref CQ,.ref CS,.ref CX,.ref CY,.ref CI]):=ae
   generalize upd H8 tp2 (.tup [.ref CN,.ref CP,.ref CQ,.ref CS,.ref CX,.ref CY,.ref CI]) = H9 at s9 htp2 ⊢
   have he9:=(s8.trans s9) _ _ he
   have hx9:=(s8.trans s9) _ _ hx7
   have hq9:=(s8.trans s9) _ _ hq7
   refine ⟨e,CR,dx6,_,_,false,rfl,he9,hx9,KR.ei,?_,.inr ⟨tp2,_,rfl,htp2,(fun d hd=>by simp at hd;rcases hd with rfl | rfl | rfl | rfl | rfl | rfl | rfl <;> exact fun z=>nomatch z),KR.kb⟩⟩
   refine ⟨_,rfl,?_⟩
   refine bz ?_
   refine ⟨_,rfl,e,CR,dx6,_,_,true,rfl,he9,hx9,KR.ei,?_,.inl ⟨(fun z=>nomatch z),KR.kv⟩⟩
   refine ⟨_,rfl,?_⟩
   refine bz ?_
   refine ⟨_,rfl,e,CR,dx6,_,q6,rfl,he9,hx9,KR.eg,by simp [List.lookup],?_⟩
   have s59:=s56.trans (s7.trans (s8.trans s9))
   have s09:=s4.trans (s5.trans s59)
   have s49:=s5.trans s59
   have l1:(r ++ [m]).length = dd + 1:=by rw [List.length_append,edd];rfl
   refine ⟨_,rfl,_,rfl,?_⟩
   refine bz ?_
   refine ⟨_,rfl,_, "list",_,true,rfl,iw.lst hq9,(by rfl),true,rfl,?_⟩
   refine bz ?_
   refine ⟨_,rfl,_,dd + 1,rfl,.inl ⟨_,aY.of hq9,by rw [ao,l1]⟩,_,rfl,rfl,_,rfl,?_⟩
   refine Aw (by simp) ?_
   have r5:r.length≤5000:=by rw [List.length_append] at hl5;exact Nat.le_of_succ_le_succ hl5
   refine ⟨_,rfl,_,rfl,_,rfl,q6,mo,as,ms,S,r,m,t2,rfl,hq9,D4.same s49,so,s49 _ _ has4,r5,hl,hb,fun H10 s10=>⟨_,rfl,?_⟩⟩
   refine bz ?_
   refine ⟨_,rfl,.inl ⟨rfl,_,aY.of (s10 _ _ hq9)⟩,q6,_,rfl,rfl,s10 _ _ hq9,?_⟩
   exact kk _ (aH (s09.trans s10) (s4.free (s5.free nq5)))
def rF (K:PySem.W.Frag):Sp:=fun vs H Q _=>∃ (a:Addr) (ns:List Int),vs = [.ref a]∧aY K H a (ns.map V.int)∧ns.length≤63∧∀ H',Q (.bl true) H'
theorem wm:aI ["_law_script", "_law_drawn", "_law_net"] ["_law_script"] (ai mT):=⟨rfl,rfl,rfl,by decide +kernel,rfl,by decide +kernel,by decide +kernel⟩
theorem zT {f C fWi fMa fRi:Addr} {fd fdWi fdMa fdRi:FuncData} (F:eZ K "law" "law" mT f fd)
  (DWi:Def K mg "_law_wild" gp ["_law_script"] fWi fdWi) (GWi:aE P w K mg base bQ 2 fWi fdWi ["_law_script"] (wz K))
  (DMa:Def K mg "_law_made" iX ["_law_drawn"] fMa fdMa) (GMa:aE P w K mg base bQ 7 fMa fdMa ["_law_drawn"] (vL C))
  (DRi:Def K mg "_law_web_right" gu ["_law_drawn", "_law_net"] fRi fdRi) (GRi:aE P w K mg base (rL P w) 10 fRi fdRi ["_law_drawn", "_law_net"] (rf C)) :
  aE P w K mg base (rL P w) 11 f fd ["_law_script"] (rF K):=by
 refine F.Cj wm (fun vs H Q E h=>?_) (fun cdv A outer s H vs Q E hr h=>?_)
 ·obtain ⟨a,ns,rfl,_⟩:=h
  rfl
 ·obtain ⟨a,ns,rfl,ha,hz,kk⟩:=h
  have hr2:bX 2 _:=hr.mono (by decide)
  have hr7:bX 7 _:=hr.mono (by decide)
  refine ⟨_,ah (aM (i:=1) wm.nd rfl (Or.inl rfl) (aK GWi hr2 rfl DWi.mg DWi.fn.kp DWi.bd .nil aX (aa (pv 0) ag)))
   (ah (aM (i:=2) wm.nd rfl (Or.inl rfl) (aK GMa hr7 rfl DMa.mg DMa.fn.kp DMa.bd .nil aX (aa (pv 1) ag)))
   (aq (aJ (m7 (aK GRi hr rfl DRi.mg DRi.fn.kp DRi.bd .nil yQ (aa (pv 1) (aa (pv 2) ag))) (mH (aK GRi hr rfl DRi.mg DRi.fn.kp DRi.bd .nil yQ (aa (pv 1) (aa (pv 2) ag)))))))),?_⟩
  refine ⟨_,rfl,a,ns,rfl,ha,hz,fun H1 d rl bl ms S s1 hd hrow hbl ok=>?_⟩
  refine ⟨_,rfl,d,rl,bl,ms,S,rfl,hd,hrow,hbl,ok,fun H2 p s2 N=>?_⟩
  refine ⟨_,rfl,_,rfl,d,p,rl,bl,ms,S,rfl,s2 _ _ hd,hrow.same s2,s2 _ _ hbl,ok,N,fun H3 s3=>⟨_,rfl,?_⟩⟩
  refine bN ?_
  have s23:=s2.trans s3
  exact ⟨_,rfl,_,rfl,d,p,rl,bl,ms,S,rfl,s23 _ _ hd,hrow.same s23,s23 _ _ hbl,ok,N.same s3,fun H4 _=>kk H4⟩
end
end Uf
end
section
namespace Uf
open PySem L2 UfSrt PyProof.Rows
theorem la {us:List Value} (h:us.length = 1):∃ a,us = [a]:=List.length_eq_one_iff.mp h
theorem gJ {us:List Value} (h:us.length = 2):∃ a b,us = [a,b]:=match us,h with | [a,b],_=>⟨a,b,rfl⟩
theorem sh {us:List Value} (h:us.length = 3):∃ a b c,us = [a,b,c]:=match us,h with | [a,b,c],_=>⟨a,b,c,rfl⟩
theorem Cy {us:List Value} (h:us.length = 4):∃ a b c d,us = [a,b,c,d]:=match us,h with | [a,b,c,d],_=>⟨a,b,c,d,rfl⟩
theorem all_mk {l:PySem.W.OpenLaw} {w:World} {K:PySem.W.Frag} {h:Heap} {mg:Str→Option Value} {fa C CW CR NR NE NNE CL CF CH CE CO CC CA CM CN CP CQ CS CX CY CI:Addr} (X:K.In h) (G:h.Ns mainGlobals mg) (hfa:mg "law" = some (.ref fa))
  {f1:Addr} {od1 an1:Option Addr} {sl1:Array (Option Value)} {oc1 kV1 dc1 pm1 cd1 ct1:Value}
  {f2:Addr} {od2 an2:Option Addr} {sl2:Array (Option Value)} {oc2 kV2 dc2 pm2 cd2 ct2:Value}
  {f3:Addr} {od3 an3:Option Addr} {sl3:Array (Option Value)} {oc3 kV3 dc3 pm3 cd3 ct3:Value}
  {f4:Addr} {od4 an4:Option Addr} {sl4:Array (Option Value)} {oc4 kV4 dc4 pm4 cd4 ct4:Value}
  {f5:Addr} {od5 an5:Option Addr} {sl5:Array (Option Value)} {oc5 kV5 dc5 pm5 cd5 ct5:Value}
  {f6:Addr} {od6 an6:Option Addr} {sl6:Array (Option Value)} {oc6 kV6 dc6 pm6 cd6 ct6:Value}
  {f7:Addr} {od7 an7:Option Addr} {sl7:Array (Option Value)} {oc7 kV7 dc7 pm7 cd7 ct7:Value}
  {f8:Addr} {od8 an8:Option Addr} {sl8:Array (Option Value)} {oc8 kV8 dc8 pm8 cd8 ct8:Value}
  {f9:Addr} {od9 an9:Option Addr} {sl9:Array (Option Value)} {oc9 kV9 dc9 pm9 cd9 ct9:Value}
  {f10:Addr} {od10 an10:Option Addr} {sl10:Array (Option Value)} {oc10 kV10 dc10 pm10 cd10 ct10:Value}
  {f11:Addr} {od11 an11:Option Addr} {sl11:Array (Option Value)} {oc11 kV11 dc11 pm11 cd11 ct11:Value}
  {f12:Addr} {od12 an12:Option Addr} {sl12:Array (Option Value)} {oc12 kV12 dc12 pm12 cd12 ct12:Value}
  {f13:Addr} {od13 an13:Option Addr} {sl13:Array (Option Value)} {oc13 kV13 dc13 pm13 cd13 ct13:Value}
  {f14:Addr} {od14 an14:Option Addr} {sl14:Array (Option Value)} {oc14 kV14 dc14 pm14 cd14 ct14:Value}
  {f15:Addr} {od15 an15:Option Addr} {sl15:Array (Option Value)} {oc15 kV15 dc15 pm15 cd15 ct15:Value}
  {f16:Addr} {od16 an16:Option Addr} {sl16:Array (Option Value)} {oc16 kV16 dc16 pm16 cd16 ct16:Value}
  {f17:Addr} {od17 an17:Option Addr} {sl17:Array (Option Value)} {oc17 kV17 dc17 pm17 cd17 ct17:Value}
  {f18:Addr} {od18 an18:Option Addr} {sl18:Array (Option Value)} {oc18 kV18 dc18 pm18 cd18 ct18:Value}
  {f19:Addr} {od19 an19:Option Addr} {sl19:Array (Option Value)} {oc19 kV19 dc19 pm19 cd19 ct19:Value}
  {f20:Addr} {od20 an20:Option Addr} {sl20:Array (Option Value)} {oc20 kV20 dc20 pm20 cd20 ct20:Value}
  {f21:Addr} {od21 an21:Option Addr} {sl21:Array (Option Value)} {oc21 kV21 dc21 pm21 cd21 ct21:Value}
  {f22:Addr} {od22 an22:Option Addr} {sl22:Array (Option Value)} {oc22 kV22 dc22 pm22 cd22 ct22:Value}
  {f23:Addr} {od23 an23:Option Addr} {sl23:Array (Option Value)} {oc23 kV23 dc23 pm23 cd23 ct23:Value}
  {f24:Addr} {od24 an24:Option Addr} {sl24:Array (Option Value)} {oc24 kV24 dc24 pm24 cd24 ct24:Value}
  {f25:Addr} {od25 an25:Option Addr} {sl25:Array (Option Value)} {oc25 kV25 dc25 pm25 cd25 ct25:Value}
  {f26:Addr} {od26 an26:Option Addr} {sl26:Array (Option Value)} {oc26 kV26 dc26 pm26 cd26 ct26:Value}
  {f27:Addr} {od27 an27:Option Addr} {sl27:Array (Option Value)} {oc27 kV27 dc27 pm27 cd27 ct27:Value}
  {f28:Addr} {od28 an28:Option Addr} {sl28:Array (Option Value)} {oc28 kV28 dc28 pm28 cd28 ct28:Value}
  {f29:Addr} {od29 an29:Option Addr} {sl29:Array (Option Value)} {oc29 kV29 dc29 pm29 cd29 ct29:Value}
  {f30:Addr} {od30 an30:Option Addr} {sl30:Array (Option Value)} {oc30 kV30 dc30 pm30 cd30 ct30:Value}
  {f31:Addr} {od31 an31:Option Addr} {sl31:Array (Option Value)} {oc31 kV31 dc31 pm31 cd31 ct31:Value}
  {f32:Addr} {od32 an32:Option Addr} {sl32:Array (Option Value)} {oc32 kV32 dc32 pm32 cd32 ct32:Value}
  {f33:Addr} {od33 an33:Option Addr} {sl33:Array (Option Value)} {oc33 kV33 dc33 pm33 cd33 ct33:Value}
  {f34:Addr} {od34 an34:Option Addr} {sl34:Array (Option Value)} {oc34 kV34 dc34 pm34 cd34 ct34:Value}
  {f35:Addr} {od35 an35:Option Addr} {sl35:Array (Option Value)} {kV35 dc35 pm35 cd35 ct35:Value}
  {tk1 tk2 tk3 tk4 tk5 tk6 tk7:PySem.Tok}
  {cnCR:Str} {cqCR:Str} {basesCR:List Value} {tlCR:List Value} {hasDCR:Bool} {snCR:List Str} {subsCR:List Value} {abCR:Bool} {colCR:Option Bool} {cddCR:Option Addr} {l0CR:Option Value} {l1CR:Option Value} {l2CR:Option Value} {l3CR:Option Value} {l5CR:Option Value}
  {cnNE:Str} {cqNE:Str} {basesNE:List Value} {tlNE:List Value} {hasDNE:Bool} {snNE:List Str} {subsNE:List Value} {abNE:Bool} {colNE:Option Bool} {cddNE:Option Addr} {l0NE:Option Value} {l1NE:Option Value} {l2NE:Option Value} {l3NE:Option Value} {l5NE:Option Value} {nwNE:String}
  (aC:PySem.W.nsIn K mainGlobals "Net" = some (some (.ref C)))
  (aW:PySem.W.nsIn K mainGlobals "Web" = some (some (.ref CW)))
  (gCR:PySem.W.nsIn K mainGlobals "Crowded" = some (some (.ref CR)))
  (gNE:PySem.W.nsIn K mainGlobals "NetError" = some (some (.ref NE)))
  (gCL:PySem.W.nsIn K mainGlobals "Clash" = some (some (.ref CL)))
  (gCF:PySem.W.nsIn K mainGlobals "Full" = some (some (.ref CF)))
  (gCH:PySem.W.nsIn K mainGlobals "Held" = some (some (.ref CH)))
  (gCE:PySem.W.nsIn K mainGlobals "NoName" = some (some (.ref CE)))
  (gCO:PySem.W.nsIn K mainGlobals "NoNet" = some (some (.ref CO)))
  (gCC:PySem.W.nsIn K mainGlobals "NoOccurrence" = some (some (.ref CC)))
  (gCA:PySem.W.nsIn K mainGlobals "Apart" = some (some (.ref CA)))
  (gCM:PySem.W.nsIn K mainGlobals "Misfit" = some (some (.ref CM)))
  (gCN:PySem.W.nsIn K mainGlobals "NoMove" = some (some (.ref CN)))
  (gCP:PySem.W.nsIn K mainGlobals "NoPlace" = some (some (.ref CP)))
  (gCQ:PySem.W.nsIn K mainGlobals "NoRow" = some (some (.ref CQ)))
  (gCS:PySem.W.nsIn K mainGlobals "NoSpot" = some (some (.ref CS)))
  (gCX:PySem.W.nsIn K mainGlobals "NoText" = some (some (.ref CX)))
  (gCY:PySem.W.nsIn K mainGlobals "TooMany" = some (some (.ref CY)))
  (gCI:PySem.W.nsIn K mainGlobals "Twice" = some (some (.ref CI)))
  (a1:PySem.W.nsIn K mainGlobals "bit" = some (some (.ref f1)))
  (a2:PySem.W.nsIn K mainGlobals "members" = some (some (.ref f2)))
  (a3:PySem.W.nsIn K mainGlobals "lacks_bead" = some (some (.ref f3)))
  (a4:PySem.W.nsIn K mainGlobals "gives_second" = some (some (.ref f4)))
  (a5:PySem.W.nsIn K mainGlobals "state_behind" = some (some (.ref f5)))
  (a6:PySem.W.nsIn K mainGlobals "may" = some (some (.ref f6)))
  (a7:PySem.W.nsIn K mainGlobals "crowder" = some (some (.ref f7)))
  (a8:PySem.W.nsIn K mainGlobals "newly_reached" = some (some (.ref f8)))
  (a9:PySem.W.nsIn K mainGlobals "row_by_ways" = some (some (.ref f9)))
  (a10:PySem.W.nsIn K mainGlobals "crowding" = some (some (.ref f10)))
  (a11:PySem.W.nsIn K mainGlobals "is_name" = some (some (.ref f11)))
  (a12:PySem.W.nsIn K mainGlobals "are_unlike_names" = some (some (.ref f12)))
  (a13:PySem.W.nsIn K mainGlobals "is_move" = some (some (.ref f13)))
  (a14:PySem.W.nsIn K mainGlobals "places_of" = some (some (.ref f14)))
  (a15:PySem.W.nsIn K mainGlobals "makes_net" = some (some (.ref f15)))
  (a16:PySem.W.nsIn K mainGlobals "_law_at" = some (some (.ref f16)))
  (a17:PySem.W.nsIn K mainGlobals "_law_name" = some (some (.ref f17)))
  (a18:PySem.W.nsIn K mainGlobals "_law_loose_step" = some (some (.ref f18)))
  (a19:PySem.W.nsIn K mainGlobals "_law_made" = some (some (.ref f19)))
  (a20:PySem.W.nsIn K mainGlobals "_law_wild" = some (some (.ref f20)))
  (a21:PySem.W.nsIn K mainGlobals "_law_behind" = some (some (.ref f21)))
  (a22:PySem.W.nsIn K mainGlobals "_law_least" = some (some (.ref f22)))
  (a23:PySem.W.nsIn K mainGlobals "_law_shows" = some (some (.ref f23)))
  (a24:PySem.W.nsIn K mainGlobals "_law_web_right" = some (some (.ref f24)))
  (a25:PySem.W.nsIn K mainGlobals "law" = some (some (.ref f25)))
  (a26:PySem.W.findIn K (.ref C) "__init__" = some (some (.ref f26)))
  (i26:PySem.W.isFn K (.ref f26) = true)
  (a27:PySem.W.findIn K (.ref C) "places" = some (some (.ref f27)))
  (i27:PySem.W.isFn K (.ref f27) = true)
  (a28:PySem.W.findIn K (.ref C) "moves" = some (some (.ref f28)))
  (i28:PySem.W.isFn K (.ref f28) = true)
  (a29:PySem.W.findIn K (.ref C) "start" = some (some (.ref f29)))
  (i29:PySem.W.isFn K (.ref f29) = true)
  (a30:PySem.W.findIn K (.ref C) "must_have" = some (some (.ref f30)))
  (i30:PySem.W.isFn K (.ref f30) = true)
  (a31:PySem.W.findIn K (.ref C) "takes" = some (some (.ref f31)))
  (i31:PySem.W.isFn K (.ref f31) = true)
  (a32:PySem.W.findIn K (.ref C) "gives" = some (some (.ref f32)))
  (i32:PySem.W.isFn K (.ref f32) = true)
  (a33:PySem.W.findIn K (.ref CW) "__init__" = some (some (.ref f33)))
  (i33:PySem.W.isFn K (.ref f33) = true)
  (a34:PySem.W.findIn K (.ref CW) "add_spots" = some (some (.ref f34)))
  (i34:PySem.W.isFn K (.ref f34) = true)
  (oCR:K.lookup CR = some (excClassObj cnCR cqCR CR NR basesCR tlCR hasDCR snCR subsCR abCR colCR cddCR l0CR l1CR l2CR l3CR l5CR "ValueError.__new__"))
  (oNE:K.lookup NE = some (excClassObj cnNE cqNE NE NNE basesNE tlNE hasDNE snNE subsNE abNE colNE cddNE l0NE l1NE l2NE l3NE l5NE nwNE))
  (a35:PySem.W.nsIn K NR "__init__" = some (some (.ref f35)))
  (l1:K.lookup f1 = some ⟨oc1,od1,.func (PySem.W.fnOf "bit" "bit" (aF px) (aD px) (ai px) .none kV1 dc1 pm1 an1 cd1 ct1),sl1⟩)
  (c1:PySem.W.codeIn K cd1 "bit" = true)
  (k1:PySem.W.keepIn K (.ref f1) = true)
  (l2:K.lookup f2 = some ⟨oc2,od2,.func (PySem.W.fnOf "members" "members" (aF dQ) (aD dQ) (ai dQ) .none kV2 dc2 pm2 an2 cd2 ct2),sl2⟩)
  (c2:PySem.W.codeIn K cd2 "members" = true)
  (k2:PySem.W.keepIn K (.ref f2) = true)
  (l3:K.lookup f3 = some ⟨oc3,od3,.func (PySem.W.fnOf "lacks_bead" "lacks_bead" (aF fj) (aD fj) (ai fj) .none kV3 dc3 pm3 an3 cd3 ct3),sl3⟩)
  (c3:PySem.W.codeIn K cd3 "lacks_bead" = true)
  (k3:PySem.W.keepIn K (.ref f3) = true)
  (l4:K.lookup f4 = some ⟨oc4,od4,.func (PySem.W.fnOf "gives_second" "gives_second" (aF dO) (aD dO) (ai dO) .none kV4 dc4 pm4 an4 cd4 ct4),sl4⟩)
  (c4:PySem.W.codeIn K cd4 "gives_second" = true)
  (k4:PySem.W.keepIn K (.ref f4) = true)
  (l5:K.lookup f5 = some ⟨oc5,od5,.func (PySem.W.fnOf "state_behind" "state_behind" (aF ee) (aD ee) (ai ee) .none kV5 dc5 pm5 an5 cd5 ct5),sl5⟩)
  (c5:PySem.W.codeIn K cd5 "state_behind" = true)
  (k5:PySem.W.keepIn K (.ref f5) = true)
  (l6:K.lookup f6 = some ⟨oc6,od6,.func (PySem.W.fnOf "may" "may" (aF lj) (aD lj) (ai lj) .none kV6 dc6 pm6 an6 cd6 ct6),sl6⟩)
  (c6:PySem.W.codeIn K cd6 "may" = true)
  (k6:PySem.W.keepIn K (.ref f6) = true)
  (l7:K.lookup f7 = some ⟨oc7,od7,.func (PySem.W.fnOf "crowder" "crowder" (aF dW) (aD dW) (ai dW) .none kV7 dc7 pm7 an7 cd7 ct7),sl7⟩)
  (c7:PySem.W.codeIn K cd7 "crowder" = true)
  (k7:PySem.W.keepIn K (.ref f7) = true)
  (l8:K.lookup f8 = some ⟨oc8,od8,.func (PySem.W.fnOf "newly_reached" "newly_reached" (aF gW) (aD gW) (ai gW) .none kV8 dc8 pm8 an8 cd8 ct8),sl8⟩)
  (c8:PySem.W.codeIn K cd8 "newly_reached" = true)
  (k8:PySem.W.keepIn K (.ref f8) = true)
  (l9:K.lookup f9 = some ⟨oc9,od9,.func (PySem.W.fnOf "row_by_ways" "row_by_ways" (aF gF) (aD gF) (ai gF) .none kV9 dc9 pm9 an9 cd9 ct9),sl9⟩)
  (c9:PySem.W.codeIn K cd9 "row_by_ways" = true)
  (k9:PySem.W.keepIn K (.ref f9) = true)
  (l10:K.lookup f10 = some ⟨oc10,od10,.func (PySem.W.fnOf "crowding" "crowding" (aF cX) (aD cX) (ai cX) .none kV10 dc10 pm10 an10 cd10 ct10),sl10⟩)
  (c10:PySem.W.codeIn K cd10 "crowding" = true)
  (k10:PySem.W.keepIn K (.ref f10) = true)
  (l11:K.lookup f11 = some ⟨oc11,od11,.func (PySem.W.fnOf "is_name" "is_name" (aF cb) (aD cb) (ai cb) .none kV11 dc11 pm11 an11 cd11 ct11),sl11⟩)
  (c11:PySem.W.codeIn K cd11 "is_name" = true)
  (k11:PySem.W.keepIn K (.ref f11) = true)
  (l12:K.lookup f12 = some ⟨oc12,od12,.func (PySem.W.fnOf "are_unlike_names" "are_unlike_names" (aF dk) (aD dk) (ai dk) .none kV12 dc12 pm12 an12 cd12 ct12),sl12⟩)
  (c12:PySem.W.codeIn K cd12 "are_unlike_names" = true)
  (k12:PySem.W.keepIn K (.ref f12) = true)
  (l13:K.lookup f13 = some ⟨oc13,od13,.func (PySem.W.fnOf "is_move" "is_move" (aF eh) (aD eh) (ai eh) .none kV13 dc13 pm13 an13 cd13 ct13),sl13⟩)
  (c13:PySem.W.codeIn K cd13 "is_move" = true)
  (k13:PySem.W.keepIn K (.ref f13) = true)
  (l14:K.lookup f14 = some ⟨oc14,od14,.func (PySem.W.fnOf "places_of" "places_of" (aF d6) (aD d6) (ai d6) .none kV14 dc14 pm14 an14 cd14 ct14),sl14⟩)
  (c14:PySem.W.codeIn K cd14 "places_of" = true)
  (k14:PySem.W.keepIn K (.ref f14) = true)
  (l15:K.lookup f15 = some ⟨oc15,od15,.func (PySem.W.fnOf "makes_net" "makes_net" (aF fi) (aD fi) (ai fi) .none kV15 dc15 pm15 an15 cd15 ct15),sl15⟩)
  (c15:PySem.W.codeIn K cd15 "makes_net" = true)
  (k15:PySem.W.keepIn K (.ref f15) = true)
  (l16:K.lookup f16 = some ⟨oc16,od16,.func (PySem.W.fnOf "_law_at" "_law_at" (aF yz) (aD yz) (ai yz) .none kV16 dc16 pm16 an16 cd16 ct16),sl16⟩)
  (c16:PySem.W.codeIn K cd16 "_law_at" = true)
  (k16:PySem.W.keepIn K (.ref f16) = true)
  (l17:K.lookup f17 = some ⟨oc17,od17,.func (PySem.W.fnOf "_law_name" "_law_name" (aF jC) (aD jC) (ai jC) .none kV17 dc17 pm17 an17 cd17 ct17),sl17⟩)
  (c17:PySem.W.codeIn K cd17 "_law_name" = true)
  (k17:PySem.W.keepIn K (.ref f17) = true)
  (l18:K.lookup f18 = some ⟨oc18,od18,.func (PySem.W.fnOf "_law_loose_step" "_law_loose_step" (aF gT) (aD gT) (ai gT) .none kV18 dc18 pm18 an18 cd18 ct18),sl18⟩)
  (c18:PySem.W.codeIn K cd18 "_law_loose_step" = true)
  (k18:PySem.W.keepIn K (.ref f18) = true)
  (l19:K.lookup f19 = some ⟨oc19,od19,.func (PySem.W.fnOf "_law_made" "_law_made" (aF iX) (aD iX) (ai iX) .none kV19 dc19 pm19 an19 cd19 ct19),sl19⟩)
  (c19:PySem.W.codeIn K cd19 "_law_made" = true)
  (k19:PySem.W.keepIn K (.ref f19) = true)
  (l20:K.lookup f20 = some ⟨oc20,od20,.func (PySem.W.fnOf "_law_wild" "_law_wild" (aF gp) (aD gp) (ai gp) .none kV20 dc20 pm20 an20 cd20 ct20),sl20⟩)
  (c20:PySem.W.codeIn K cd20 "_law_wild" = true)
  (k20:PySem.W.keepIn K (.ref f20) = true)
  (l21:K.lookup f21 = some ⟨oc21,od21,.func (PySem.W.fnOf "_law_behind" "_law_behind" (aF gB) (aD gB) (ai gB) .none kV21 dc21 pm21 an21 cd21 ct21),sl21⟩)
  (c21:PySem.W.codeIn K cd21 "_law_behind" = true)
  (k21:PySem.W.keepIn K (.ref f21) = true)
  (l22:K.lookup f22 = some ⟨oc22,od22,.func (PySem.W.fnOf "_law_least" "_law_least" (aF gq) (aD gq) (ai gq) .none kV22 dc22 pm22 an22 cd22 ct22),sl22⟩)
  (c22:PySem.W.codeIn K cd22 "_law_least" = true)
  (k22:PySem.W.keepIn K (.ref f22) = true)
  (l23:K.lookup f23 = some ⟨oc23,od23,.func (PySem.W.fnOf "_law_shows" "_law_shows" (aF gr) (aD gr) (ai gr) .none kV23 dc23 pm23 an23 cd23 ct23),sl23⟩)
  (c23:PySem.W.codeIn K cd23 "_law_shows" = true)
  (k23:PySem.W.keepIn K (.ref f23) = true)
  (l24:K.lookup f24 = some ⟨oc24,od24,.func (PySem.W.fnOf "_law_web_right" "_law_web_right" (aF gu) (aD gu) (ai gu) .none kV24 dc24 pm24 an24 cd24 ct24),sl24⟩)
  (c24:PySem.W.codeIn K cd24 "_law_web_right" = true)
  (k24:PySem.W.keepIn K (.ref f24) = true)
  (l25:K.lookup f25 = some ⟨oc25,od25,.func (PySem.W.fnOf "law" "law" (aF mT) (aD mT) (ai mT) .none kV25 dc25 pm25 an25 cd25 ct25),sl25⟩)
  (c25:PySem.W.codeIn K cd25 "law" = true)
  (k25:PySem.W.keepIn K (.ref f25) = true)
  (l26:K.lookup f26 = some ⟨oc26,od26,.func (PySem.W.fnOf "__init__" "Net.__init__" (aF j9) (aD j9) (ai j9) .none kV26 dc26 pm26 an26 cd26 ct26),sl26⟩)
  (c26:PySem.W.codeIn K cd26 "Net.__init__" = true)
  (k26:PySem.W.keepIn K (.ref f26) = true)
  (l27:K.lookup f27 = some ⟨oc27,od27,.func (PySem.W.fnOf "places" "Net.places" (aF jE) (aD jE) (ai jE) .none kV27 dc27 pm27 an27 cd27 ct27),sl27⟩)
  (c27:PySem.W.codeIn K cd27 "Net.places" = true)
  (k27:PySem.W.keepIn K (.ref f27) = true)
  (l28:K.lookup f28 = some ⟨oc28,od28,.func (PySem.W.fnOf "moves" "Net.moves" (aF iR) (aD iR) (ai iR) .none kV28 dc28 pm28 an28 cd28 ct28),sl28⟩)
  (c28:PySem.W.codeIn K cd28 "Net.moves" = true)
  (k28:PySem.W.keepIn K (.ref f28) = true)
  (l29:K.lookup f29 = some ⟨oc29,od29,.func (PySem.W.fnOf "start" "Net.start" (aF gg) (aD gg) (ai gg) .none kV29 dc29 pm29 an29 cd29 ct29),sl29⟩)
  (c29:PySem.W.codeIn K cd29 "Net.start" = true)
  (k29:PySem.W.keepIn K (.ref f29) = true)
  (l30:K.lookup f30 = some ⟨oc30,od30,.func (PySem.W.fnOf "must_have" "Net.must_have" (aF iG) (aD iG) (ai iG) .none kV30 dc30 pm30 an30 cd30 ct30),sl30⟩)
  (c30:PySem.W.codeIn K cd30 "Net.must_have" = true)
  (k30:PySem.W.keepIn K (.ref f30) = true)
  (l31:K.lookup f31 = some ⟨oc31,od31,.func (PySem.W.fnOf "takes" "Net.takes" (aF fh) (aD fh) (ai fh) .none kV31 dc31 pm31 an31 cd31 ct31),sl31⟩)
  (c31:PySem.W.codeIn K cd31 "Net.takes" = true)
  (k31:PySem.W.keepIn K (.ref f31) = true)
  (l32:K.lookup f32 = some ⟨oc32,od32,.func (PySem.W.fnOf "gives" "Net.gives" (aF fZ) (aD fZ) (ai fZ) .none kV32 dc32 pm32 an32 cd32 ct32),sl32⟩)
  (c32:PySem.W.codeIn K cd32 "Net.gives" = true)
  (k32:PySem.W.keepIn K (.ref f32) = true)
  (l33:K.lookup f33 = some ⟨oc33,od33,.func (PySem.W.fnOf "__init__" "Web.__init__" (aF gH) (aD gH) (ai gH) .none kV33 dc33 pm33 an33 cd33 ct33),sl33⟩)
  (c33:PySem.W.codeIn K cd33 "Web.__init__" = true)
  (k33:PySem.W.keepIn K (.ref f33) = true)
  (l34:K.lookup f34 = some ⟨oc34,od34,.func (PySem.W.fnOf "add_spots" "Web.add_spots" (aF nQ) (aD nQ) (ai nQ) .none kV34 dc34 pm34 an34 cd34 ct34),sl34⟩)
  (c34:PySem.W.codeIn K cd34 "Web.add_spots" = true)
  (k34:PySem.W.keepIn K (.ref f34) = true)
  (l35:K.lookup f35 = some ⟨.type "function",od35,.func (PySem.W.fnOf "__init__" "Crowded.__init__" (aF eD) (aD eD) (ai eD) .none kV35 dc35 pm35 an35 cd35 ct35),sl35⟩)
  (c35:PySem.W.codeIn K cd35 "Crowded.__init__" = true)
  (k35:PySem.W.keepIn K (.ref f35) = true)
  (pg:PySem.W.plainGet K C Str.empty = true)
  (hd:PySem.W.hasDictIn K C = true)
  (po:PySem.W.plainOver K C = true)
  (sa:PySem.W.findIn K (.ref C) "__setattr__" = some (some (.builtin "object.__setattr__")))
  (mk:PySem.W.makesIn K C = true)
  (kc:PySem.W.keepIn K (.ref C) = true)
  (pgW:PySem.W.plainGet K CW Str.empty = true)
  (hdW:PySem.W.hasDictIn K CW = true)
  (poW:PySem.W.plainOver K CW = true)
  (saW:PySem.W.findIn K (.ref CW) "__setattr__" = some (some (.builtin "object.__setattr__")))
  (mkW:PySem.W.makesIn K CW = true)
  (kcW:PySem.W.keepIn K (.ref CW) = true)
  (wN:PySem.W.findIn K (.ref CW) "base_net" = some none)
  (wS:PySem.W.findIn K (.ref CW) "spot_tuples" = some none)
  (wO:PySem.W.findIn K (.ref CW) "occurrence_tuples" = some none)
  (wH:PySem.W.findIn K (.ref CW) "numbers_there" = some none)
  (wW:PySem.W.findIn K (.ref CW) "own_bits" = some none)
  (wG:PySem.W.findIn K (.ref CW) "given_bits" = some none)
  (wB:PySem.W.findIn K (.ref CW) "beside_bits" = some none)
  (wT:PySem.W.findIn K (.ref CW) "taker_bits" = some none)
  (wP:PySem.W.findIn K (.ref CW) "place_bits" = some none)
  (nP:PySem.W.findIn K (.ref C) "place_names" = some none)
  (nS:PySem.W.findIn K (.ref C) "start_state" = some none)
  (nT:PySem.W.findIn K (.ref C) "taken_by" = some none)
  (nG:PySem.W.findIn K (.ref C) "given_by" = some none)
  (z1:PySem.W.nsIn K mainGlobals "all" = some none)
  (z2:PySem.W.nsIn K mainGlobals "len" = some none)
  (z3:PySem.W.nsIn K mainGlobals "set" = some none)
  (z4:PySem.W.nsIn K mainGlobals "list" = some none)
  (z5:PySem.W.nsIn K mainGlobals "tuple" = some none)
  (z6:PySem.W.nsIn K mainGlobals "str" = some none)
  (z7:PySem.W.nsIn K mainGlobals "sorted" = some none)
  (z8:PySem.W.nsIn K mainGlobals "isinstance" = some none)
  (z9:PySem.W.nsIn K mainGlobals "range" = some none)
  (z10:PySem.W.nsIn K mainGlobals "enumerate" = some none)
  (z11:PySem.W.nsIn K mainGlobals "any" = some none)
  (z12:PySem.W.nsIn K mainGlobals "reversed" = some none)
  (z13:PySem.W.nsIn K mainGlobals "dict" = some none)
  (z14:PySem.W.nsIn K mainGlobals "ValueError" = some none)
  (y1:PySem.W.nsIn K mainGlobals "LETTERS" = some (some (.str wD tk1)))
  (y2:PySem.W.nsIn K mainGlobals "LONGEST_NAME" = some (some (.int 8 tk2)))
  (y3:PySem.W.nsIn K mainGlobals "MOST_PLACES" = some (some (.int 12 tk3)))
  (y4:PySem.W.nsIn K mainGlobals "MOST_MOVES" = some (some (.int 12 tk4)))
  (y5:PySem.W.nsIn K mainGlobals "LEAST_TAKEN" = some (some (.int 1 tk5)))
  (y6:PySem.W.nsIn K mainGlobals "MOST_TAKEN" = some (some (.int 4 tk6)))
  (y7:PySem.W.nsIn K mainGlobals "MOST_GIVEN" = some (some (.int 4 tk7)))
  (bNE:PySem.W.specialIn K (.ref NE) "__getattribute__" = some (some (.builtin "type.__getattribute__")))
  (rNE:PySem.W.readsIn K NE (.type "type") = true)
  (fNE:PySem.W.findCls K (.ref NE) (.type "type") "__init__" = some (.val (.builtin "ValueError.__init__")))
  (hNE:tlNE.contains (.type "BaseException") = true)
  (xc:PySem.W.specialIn K (.builtin "object.__class__") "__get__" = some (some (.builtin "getset_descriptor.__get__")))
  (xt:PySem.W.takesIn K (.builtin "object.__class__") = some true)
  (taCR:PySem.W.tailIn K mq tlCR = true)
  (noCR:PySem.W.nsOkIn K NR = true)
  (kpCR:PySem.W.keepIn K (.ref CR) = true)
  (hdCR:PySem.W.hasDictIn K CR = true)
  (coCR:tlCR.contains (.type "BaseException") = true)
  (unCR:(Value.ref CR :: tlCR).contains (.ref NE) = true)
  (gaCR:PySem.W.findIn K (.ref CR) "__getattribute__" = some (some (.builtin "BaseException.__getattribute__")))
  (gnCR:PySem.W.findIn K (.ref CR) "__getattr__" = some none)
  (hmCR:PySem.W.mroIn K CR (.type "BaseException") = some true)
  (hoCR:PySem.W.mroIn K CR (.type "object") = some true)
  (clCR:PySem.W.findIn K (.ref CR) "__class__" = some (some (.builtin "object.__class__")))
  (qvCR:PySem.W.kitOne K (.ref CR) (.type "ValueError") = some true)
  (q0CR:PySem.W.kitOne K (.ref CR) (.ref CR) = some true)
  (saCR:PySem.W.findIn K (.ref CR) "__setattr__" = some (some (.builtin "object.__setattr__")))
  (mrCR:((PySem.W.clsIn K CR).any fun cd=>bw cd.mro) = true)
  (tkCR:PySem.W.takerIn K CR "row" = some none)
  (naCR:PySem.W.findIn K (.ref CR) "row" = some none)
  (qaCR:PySem.W.kitAny K (.ref CR) [.ref CL,.ref CF,.ref CH,.ref CE,.ref CO,.ref CC,.ref CA,.ref CM] = some false)
  (qbCR:PySem.W.kitAny K (.ref CR) [.ref CN,.ref CP,.ref CQ,.ref CS,.ref CX,.ref CY,.ref CI] = some false) :
  ∃ fd:FuncData,(∀ (s:Shared) (v:Value),BindsTo s fd ⟨[v],[]⟩ [("_law_script",v)])∧∀ base:Heap,K.In base→base.Ns mainGlobals mg→aE l.prog w K mg base bQ 11 fa fd ["_law_script"] (rF K):=by
 have e:=hfa.symm.trans (PySem.W.mg_of X G a25)
 cases e
 have T:Txt K mg:=⟨PySem.W.mg_none_of X G z1,PySem.W.mg_none_of X G z2,PySem.W.mg_none_of X G z3,PySem.W.mg_none_of X G z4,PySem.W.mg_none_of X G z5,PySem.W.mg_none_of X G z6,PySem.W.mg_none_of X G z7,PySem.W.mg_none_of X G z8,⟨_,PySem.W.mg_of X G y1⟩,⟨_,PySem.W.mg_of X G y2⟩,⟨_,PySem.W.mg_of X G y3⟩,⟨_,PySem.W.mg_of X G y4⟩,⟨_,PySem.W.mg_of X G y5⟩,⟨_,PySem.W.mg_of X G y6⟩,⟨_,PySem.W.mg_of X G y7⟩⟩
 have T2:Txt2 mg:=⟨PySem.W.mg_none_of X G z9,PySem.W.mg_none_of X G z10,PySem.W.mg_none_of X G z11⟩
 have NC:iy K C:=⟨⟨pg,hd,po,sa⟩,nP,nS,nT,nG⟩
 have WC:zN K CW:=⟨⟨pgW,hdW,poW,saW⟩,wN,wS,wO,wH,wW,wG,wB,wT,wP⟩
 have M27:yg mg NE CR CL CF CH CE CO CC CA CM CN CP CQ CS CX CY CI:=⟨PySem.W.mg_of X G gNE,PySem.W.mg_of X G gCR,PySem.W.mg_of X G gCL,PySem.W.mg_of X G gCF,PySem.W.mg_of X G gCH,PySem.W.mg_of X G gCE,PySem.W.mg_of X G gCO,PySem.W.mg_of X G gCC,PySem.W.mg_of X G gCA,PySem.W.mg_of X G gCM,PySem.W.mg_of X G gCN,PySem.W.mg_of X G gCP,PySem.W.mg_of X G gCQ,PySem.W.mg_of X G gCS,PySem.W.mg_of X G gCX,PySem.W.mg_of X G gCY,PySem.W.mg_of X G gCI,PySem.W.mg_none_of X G z14⟩
 have F1:=bb (st:=px) l1 c1 k1
 have b1:=F1.binds (ps:=["number"]) fun _ _ _ _ _ _ us hl=>by obtain ⟨a0,rfl⟩:=la hl;rfl
 have D1:Def K mg "bit" px ["number"] f1 _:=⟨F1,PySem.W.mg_of X G a1,b1⟩
 have F2:=bb (st:=dQ) l2 c2 k2
 have b2:=F2.binds (ps:=["bits"]) fun _ _ _ _ _ _ us hl=>by obtain ⟨a0,rfl⟩:=la hl;rfl
 have D2:Def K mg "members" dQ ["bits"] f2 _:=⟨F2,PySem.W.mg_of X G a2,b2⟩
 have F3:=bb (st:=fj) l3 c3 k3
 have b3:=F3.binds (ps:=["net", "state", "move"]) fun _ _ _ _ _ _ us hl=>by obtain ⟨a0,a1,a2,rfl⟩:=sh hl;rfl
 have D3:Def K mg "lacks_bead" fj ["net", "state", "move"] f3 _:=⟨F3,PySem.W.mg_of X G a3,b3⟩
 have F4:=bb (st:=dO) l4 c4 k4
 have b4:=F4.binds (ps:=["net", "state", "move"]) fun _ _ _ _ _ _ us hl=>by obtain ⟨a0,a1,a2,rfl⟩:=sh hl;rfl
 have D4:Def K mg "gives_second" dO ["net", "state", "move"] f4 _:=⟨F4,PySem.W.mg_of X G a4,b4⟩
 have F5:=bb (st:=ee) l5 c5 k5
 have b5:=F5.binds (ps:=["net", "state", "move"]) fun _ _ _ _ _ _ us hl=>by obtain ⟨a0,a1,a2,rfl⟩:=sh hl;rfl
 have D5:Def K mg "state_behind" ee ["net", "state", "move"] f5 _:=⟨F5,PySem.W.mg_of X G a5,b5⟩
 have F6:=bb (st:=lj) l6 c6 k6
 have b6:=F6.binds (ps:=["net", "state"]) fun _ _ _ _ _ _ us hl=>by obtain ⟨a0,a1,rfl⟩:=gJ hl;rfl
 have D6:Def K mg "may" lj ["net", "state"] f6 _:=⟨F6,PySem.W.mg_of X G a6,b6⟩
 have F7:=bb (st:=dW) l7 c7 k7
 have b7:=F7.binds (ps:=["net", "state"]) fun _ _ _ _ _ _ us hl=>by obtain ⟨a0,a1,rfl⟩:=gJ hl;rfl
 have D7:Def K mg "crowder" dW ["net", "state"] f7 _:=⟨F7,PySem.W.mg_of X G a7,b7⟩
 have F8:=bb (st:=gW) l8 c8 k8
 have b8:=F8.binds (ps:=["net", "states", "ways"]) fun _ _ _ _ _ _ us hl=>by obtain ⟨a0,a1,a2,rfl⟩:=sh hl;rfl
 have D8:Def K mg "newly_reached" gW ["net", "states", "ways"] f8 _:=⟨F8,PySem.W.mg_of X G a8,b8⟩
 have F9:=bb (st:=gF) l9 c9 k9
 have b9:=F9.binds (ps:=["ways", "state"]) fun _ _ _ _ _ _ us hl=>by obtain ⟨a0,a1,rfl⟩:=gJ hl;rfl
 have D9:Def K mg "row_by_ways" gF ["ways", "state"] f9 _:=⟨F9,PySem.W.mg_of X G a9,b9⟩
 have F10:=bb (st:=cX) l10 c10 k10
 have b10:=F10.binds (ps:=["net"]) fun _ _ _ _ _ _ us hl=>by obtain ⟨a0,rfl⟩:=la hl;rfl
 have D10:Def K mg "crowding" cX ["net"] f10 _:=⟨F10,PySem.W.mg_of X G a10,b10⟩
 have F11:=bb (st:=cb) l11 c11 k11
 have b11:=F11.binds (ps:=["thing"]) fun _ _ _ _ _ _ us hl=>by obtain ⟨a0,rfl⟩:=la hl;rfl
 have D11:Def K mg "is_name" cb ["thing"] f11 _:=⟨F11,PySem.W.mg_of X G a11,b11⟩
 have F12:=bb (st:=dk) l12 c12 k12
 have b12:=F12.binds (ps:=["things"]) fun _ _ _ _ _ _ us hl=>by obtain ⟨a0,rfl⟩:=la hl;rfl
 have D12:Def K mg "are_unlike_names" dk ["things"] f12 _:=⟨F12,PySem.W.mg_of X G a12,b12⟩
 have F13:=bb (st:=eh) l13 c13 k13
 have b13:=F13.binds (ps:=["taken", "given"]) fun _ _ _ _ _ _ us hl=>by obtain ⟨a0,a1,rfl⟩:=gJ hl;rfl
 have D13:Def K mg "is_move" eh ["taken", "given"] f13 _:=⟨F13,PySem.W.mg_of X G a13,b13⟩
 have F14:=bb (st:=d6) l14 c14 k14
 have b14:=F14.binds (ps:=["moves", "start"]) fun _ _ _ _ _ _ us hl=>by obtain ⟨a0,a1,rfl⟩:=gJ hl;rfl
 have D14:Def K mg "places_of" d6 ["moves", "start"] f14 _:=⟨F14,PySem.W.mg_of X G a14,b14⟩
 have F15:=bb (st:=fi) l15 c15 k15
 have b15:=F15.binds (ps:=["moves", "start"]) fun _ _ _ _ _ _ us hl=>by obtain ⟨a0,a1,rfl⟩:=gJ hl;rfl
 have D15:Def K mg "makes_net" fi ["moves", "start"] f15 _:=⟨F15,PySem.W.mg_of X G a15,b15⟩
 have F16:=bb (st:=yz) l16 c16 k16
 have b16:=F16.binds (ps:=["_law_script", "_law_k"]) fun _ _ _ _ _ _ us hl=>by obtain ⟨a0,a1,rfl⟩:=gJ hl;rfl
 have D16:Def K mg "_law_at" yz ["_law_script", "_law_k"] f16 _:=⟨F16,PySem.W.mg_of X G a16,b16⟩
 have F17:=bb (st:=jC) l17 c17 k17
 have b17:=F17.binds (ps:=["_law_k", "_law_seed"]) fun _ _ _ _ _ _ us hl=>by obtain ⟨a0,a1,rfl⟩:=gJ hl;rfl
 have D17:Def K mg "_law_name" jC ["_law_k", "_law_seed"] f17 _:=⟨F17,PySem.W.mg_of X G a17,b17⟩
 have F18:=bb (st:=gT) l18 c18 k18
 have b18:=F18.binds (ps:=["_law_cell", "_law_names"]) fun _ _ _ _ _ _ us hl=>by obtain ⟨a0,a1,rfl⟩:=gJ hl;rfl
 have D18:Def K mg "_law_loose_step" gT ["_law_cell", "_law_names"] f18 _:=⟨F18,PySem.W.mg_of X G a18,b18⟩
 have F19:=bb (st:=iX) l19 c19 k19
 have b19:=F19.binds (ps:=["_law_drawn"]) fun _ _ _ _ _ _ us hl=>by obtain ⟨a0,rfl⟩:=la hl;rfl
 have D19:Def K mg "_law_made" iX ["_law_drawn"] f19 _:=⟨F19,PySem.W.mg_of X G a19,b19⟩
 have F20:=bb (st:=gp) l20 c20 k20
 have b20:=F20.binds (ps:=["_law_script"]) fun _ _ _ _ _ _ us hl=>by obtain ⟨a0,rfl⟩:=la hl;rfl
 have D20:Def K mg "_law_wild" gp ["_law_script"] f20 _:=⟨F20,PySem.W.mg_of X G a20,b20⟩
 have F21:=bb (st:=gB) l21 c21 k21
 have b21:=F21.binds (ps:=["_law_ends", "_law_beads"]) fun _ _ _ _ _ _ us hl=>by obtain ⟨a0,a1,rfl⟩:=gJ hl;rfl
 have D21:Def K mg "_law_behind" gB ["_law_ends", "_law_beads"] f21 _:=⟨F21,PySem.W.mg_of X G a21,b21⟩
 have F22:=bb (st:=gq) l22 c22 k22
 have b22:=F22.binds (ps:=["_law_moves", "_law_start"]) fun _ _ _ _ _ _ us hl=>by obtain ⟨a0,a1,rfl⟩:=gJ hl;rfl
 have D22:Def K mg "_law_least" gq ["_law_moves", "_law_start"] f22 _:=⟨F22,PySem.W.mg_of X G a22,b22⟩
 have F23:=bb (st:=gr) l23 c23 k23
 have b23:=F23.binds (ps:=["_law_moves", "_law_start", "_law_row"]) fun _ _ _ _ _ _ us hl=>by obtain ⟨a0,a1,a2,rfl⟩:=sh hl;rfl
 have D23:Def K mg "_law_shows" gr ["_law_moves", "_law_start", "_law_row"] f23 _:=⟨F23,PySem.W.mg_of X G a23,b23⟩
 have F24:=bb (st:=gu) l24 c24 k24
 have b24:=F24.binds (ps:=["_law_drawn", "_law_net"]) fun _ _ _ _ _ _ us hl=>by obtain ⟨a0,a1,rfl⟩:=gJ hl;rfl
 have D24:Def K mg "_law_web_right" gu ["_law_drawn", "_law_net"] f24 _:=⟨F24,PySem.W.mg_of X G a24,b24⟩
 have F25:=bb (st:=mT) l25 c25 k25
 have F26:=bb (st:=j9) l26 c26 k26
 have b26:=F26.binds (ps:=["self", "moves", "start"]) fun _ _ _ _ _ _ us hl=>by obtain ⟨a0,a1,a2,rfl⟩:=sh hl;rfl
 have D26:eR K C "__init__" "Net.__init__" j9 ["self", "moves", "start"] f26 _:=⟨F26,⟨a26,i26,k26⟩,b26⟩
 have F27:=bb (st:=jE) l27 c27 k27
 have b27:=F27.binds (ps:=["self"]) fun _ _ _ _ _ _ us hl=>by obtain ⟨a0,rfl⟩:=la hl;rfl
 have D27:eR K C "places" "Net.places" jE ["self"] f27 _:=⟨F27,⟨a27,i27,k27⟩,b27⟩
 have F28:=bb (st:=iR) l28 c28 k28
 have b28:=F28.binds (ps:=["self"]) fun _ _ _ _ _ _ us hl=>by obtain ⟨a0,rfl⟩:=la hl;rfl
 have D28:eR K C "moves" "Net.moves" iR ["self"] f28 _:=⟨F28,⟨a28,i28,k28⟩,b28⟩
 have F29:=bb (st:=gg) l29 c29 k29
 have b29:=F29.binds (ps:=["self"]) fun _ _ _ _ _ _ us hl=>by obtain ⟨a0,rfl⟩:=la hl;rfl
 have D29:eR K C "start" "Net.start" gg ["self"] f29 _:=⟨F29,⟨a29,i29,k29⟩,b29⟩
 have F30:=bb (st:=iG) l30 c30 k30
 have b30:=F30.binds (ps:=["self", "move"]) fun _ _ _ _ _ _ us hl=>by obtain ⟨a0,a1,rfl⟩:=gJ hl;rfl
 have D30:eR K C "must_have" "Net.must_have" iG ["self", "move"] f30 _:=⟨F30,⟨a30,i30,k30⟩,b30⟩
 have F31:=bb (st:=fh) l31 c31 k31
 have b31:=F31.binds (ps:=["self", "move"]) fun _ _ _ _ _ _ us hl=>by obtain ⟨a0,a1,rfl⟩:=gJ hl;rfl
 have D31:eR K C "takes" "Net.takes" fh ["self", "move"] f31 _:=⟨F31,⟨a31,i31,k31⟩,b31⟩
 have F32:=bb (st:=fZ) l32 c32 k32
 have b32:=F32.binds (ps:=["self", "move"]) fun _ _ _ _ _ _ us hl=>by obtain ⟨a0,a1,rfl⟩:=gJ hl;rfl
 have D32:eR K C "gives" "Net.gives" fZ ["self", "move"] f32 _:=⟨F32,⟨a32,i32,k32⟩,b32⟩
 have F33:=bb (st:=gH) l33 c33 k33
 have b33:=F33.binds (ps:=["self", "net"]) fun _ _ _ _ _ _ us hl=>by obtain ⟨a0,a1,rfl⟩:=gJ hl;rfl
 have D33:eR K CW "__init__" "Web.__init__" gH ["self", "net"] f33 _:=⟨F33,⟨a33,i33,k33⟩,b33⟩
 have F34:=bb (st:=nQ) l34 c34 k34
 have b34:=F34.binds (ps:=["self", "places", "giver", "beside"]) fun _ _ _ _ _ _ us hl=>by obtain ⟨a0,a1,a2,a3,rfl⟩:=Cy hl;rfl
 have D34:eR K CW "add_spots" "Web.add_spots" nQ ["self", "places", "giver", "beside"] f34 _:=⟨F34,⟨a34,i34,k34⟩,b34⟩
 have F35:=bb (st:=eD) l35 c35 k35
 have b35:=F35.binds (ps:=["self", "row"]) fun _ _ _ _ _ _ us hl=>by obtain ⟨a0,a1,rfl⟩:=gJ hl;rfl
 have BNE:wu K NE:=⟨bNE,rNE,fNE⟩
 have ENE:wg K NE:=⟨_,_,_,_,_,_,_,_,_,_,_,_,_,_,_,_,_,oNE,hNE⟩
 have TCR:uX K CR NR:=⟨_,_,_,_,_,_,_,_,_,_,_,_,_,_,_,oCR,taCR⟩
 have ECR:wg K CR:=⟨_,_,_,_,_,_,_,_,_,_,_,_,_,_,_,_,_,oCR,coCR⟩
 have SCR:wq K CR "row":=⟨saCR,mrCR,tkCR,hdCR⟩
 have WCR:Bp K CR NR f35:=⟨TCR,noCR,a35,⟨_,l35,rfl⟩,kpCR⟩
 have UCR:qe K CR NE:=⟨⟨_,_,_,_,_,_,_,_,_,_,_,_,_,_,_,_,_,oCR,unCR⟩,ENE⟩
 have ICR:sN K CR:=⟨gaCR,gnCR,hmCR,hoCR,hdCR,clCR,xc,xt⟩
 have QCR:uo K NE CR CL CF CH CE CO CC CA CM CN CP CQ CS CX CY CI:=⟨UCR,ICR,⟨gaCR,gnCR,hmCR,hdCR,naCR⟩,q0CR,qvCR,qaCR,qbCR⟩
 refine ⟨PySem.W.fnOf "law" "law" (aF mT) (aD mT) (ai mT) .none kV25 dc25 pm25 an25 cd25 ct25,fun s v=>.of_eq rfl,fun base _ _=>?_⟩
 have GI:=yc (P:=l.prog) (w:=w) (mg:=mg) (base:=base) F26 T NC D11 D12 D13 D14 D15
 have GPl:=xb (P:=l.prog) (w:=w) (mg:=mg) (base:=base) F27 T NC
 have GM:=xF (P:=l.prog) (w:=w) (mg:=mg) (base:=base) F28 T NC
 have GS:=u7 (P:=l.prog) (w:=w) (mg:=mg) (base:=base) F29 NC
 have GT:=uC (P:=l.prog) (w:=w) (mg:=mg) (base:=base) F31 T NC D11 D30
 have GG:=uE (P:=l.prog) (w:=w) (mg:=mg) (base:=base) F32 T NC D11 D30
 have GL:=uZ (P:=l.prog) (w:=w) (mg:=mg) (base:=base) F3 T T2.any NC D31 GT
 have GSe:=rV (P:=l.prog) (w:=w) (mg:=mg) (base:=base) F4 T T2.any NC D31 GT D32 GG
 have GB:=tH (P:=l.prog) (w:=w) (mg:=mg) (base:=base) F5 T NC D31 GT D32 GG
 have GMay:=zi (P:=l.prog) (w:=w) (mg:=mg) (base:=base) F6 NC D28 GM D3 GL D4 GSe
 have GCd:=pI (P:=l.prog) (w:=w) (mg:=mg) (base:=base) F7 NC D28 GM D3 GL D4 GSe
 have GN:=vC (P:=l.prog) (w:=w) (mg:=mg) (base:=base) F8 D6 GMay D5 GB
 have GR:=vR (P:=l.prog) (w:=w) (mg:=mg) (base:=base) F9 T (PySem.W.mg_none_of X G z12)
 have GCr:=oE (P:=l.prog) (w:=w) (mg:=mg) (base:=base) F10 NC D29 GS D7 GCd D8 GN D9 GR
 have GBi:=zR (P:=l.prog) (w:=w) (mg:=mg) (base:=base) F1
 have GMe:=pH (P:=l.prog) (w:=w) (mg:=mg) (base:=base) F2
 have GAd:=xw (P:=l.prog) (w:=w) (mg:=mg) (base:=base) F34 T WC D2 GMe D1 GBi
 have XCR:=oW (P:=l.prog) (w:=w) (mg:=mg) (base:=base) F35 T M27.ne BNE TCR SCR
 have YCR:yw l.prog w K mg base CR NR f35 _:=⟨WCR,PySem.W.mg_of X G gCR,b35,XCR,ECR⟩
 have GWi:=we (C:=C) (CW:=CW) F33 T (PySem.W.mg_none_of X G z13) NC WC YCR D10 GCr D27 GPl D29 GS D34 GAd
 have GAt:=xv (P:=l.prog) (w:=w) (mg:=mg) (base:=base) F16 T
 have GNa:=wL (P:=l.prog) (w:=w) (mg:=mg) (base:=base) F17 T
 have GLo:=uU (P:=l.prog) (w:=w) (mg:=mg) (base:=base) F18 T
 have GMa:=xK (P:=l.prog) (w:=w) (mg:=mg) (base:=base) F19 T (PySem.W.mg_of X G aC) ⟨mk,a26,i26,kc⟩ b26 GI
 have GWl:=wX (P:=l.prog) (w:=w) (mg:=mg) (base:=base) F20 T T2 D16 GAt D17 GNa D18 GLo
 have GBe:=Af (P:=l.prog) (w:=w) (mg:=mg) (base:=base) F21 T T2
 have GLe:=wc (P:=l.prog) (w:=w) (mg:=mg) (base:=base) F22 T D21 GBe
 have GSh:=tP (P:=l.prog) (w:=w) (mg:=mg) (base:=base) F23 T D21 GBe
 have GRi:=vn F24 T M27 QCR (PySem.W.mg_of X G aW) ⟨mkW,a33,i33,kcW⟩ b33 GWi D22 GLe D23 GSh
 have GLw:=zT F25 D20 GWl D19 GMa D24 GRi
 exact GLw.calm.imp fun vs H Q E h=>h
theorem walk {l:PySem.W.OpenLaw} {q:Program} {loose:List Str} {XP:(Str→Option Value)→Heap→Prop} {YP:World→Heap→Prop} {d:DefRec} {K:Params→PySem.W.Frag} (hn:l.most = some 63) (hdf:d.params.defaults = [])
  (hY:∀ (w:World) (h:Heap),YP w h→(K w.params).In h)
  (F:∀ (w:World) (mg:Str→Option Value) (fa:Addr) (h:Heap),(K w.params).In h→h.Ns mainGlobals mg→mg d.name = some (.ref fa) →
   ∃ fd:FuncData,(∀ (s:Shared) (u:Value),BindsTo s fd ⟨[u],[]⟩ [("_law_script",u)])∧∀ base:Heap,(K w.params).In base→base.Ns mainGlobals mg→aE l.prog w (K w.params) mg base bQ 11 fa fd ["_law_script"] (rF (K w.params))) :
  PySem.W.WalkO q loose XP YP l.row.toRowW d [] (fun f vs=>PySem.call f vs) :=
 L2.xg (n:=63) (k:=11) (x := "_law_script") (CX:=fun _=>bQ) (sp:=fun w=>rF (K w.params)) hn (by decide) hdf ⟨rfl,by decide,by decide,rfl⟩ hY F (fun _ _ a ns hl _ hS=>⟨a,ns,rfl,hS,hl,fun _=>rfl⟩) fun _ _ _ _ _ z=>z
end Uf
end
section
open PySem PySem.W PyProof.Rows
namespace PySem.W.Fast
def tw12066814286027902718:=()
def tw6589645302826576638:=()
def tw4404893462583073886:=()
def tw12689823907355157598:=()
def tw18297981056121894718:=()
def tw12018418846038096766:=()
def tw10315585244262430654:=()
def tw7721834963783376158:=()
def tw13602548831275807006:=()
def tw13549133567219837214:=()
def tw4123373172814210398:=()
def tw12020714387095983454:=()
def tw5761984537485555102:=()
def tw14603812451154073054:=()
def tw10906264553474291230:=()
def tw10681374017554835710:=()
def tw18423618753018665566:=()
def tw1729868609853535838:=()
def tw597393599833586270:=()
def tw1026744011429395038:=()
def tw9018392507507145086:=()
def tw9527221926873421534:=()
def tw8662218735550399934:=()
def tw194026985510602526:=()
def tw14848197264277584734:=()
def tw13941730942690803326:=()
def tw10031398947438926462:=()
def tw8826190688073408607:=()
def tw10537352465259789119:=()
def tw17579207868839042879:=()
def tw476004392903034687:=()
def tw13676195983866199935:=()
def tw17610651229546507487:=()
def tw3673763173281336543:=()
def tw15848073459293603775:=()
def tw7461473363135075615:=()
def tw15252470769860931999:=()
def tw18441730469193231551:=()
def tw15511763515863611583:=()
def tw16473431453417195039:=()
def tw16434347077687889439:=()
def tw10959490675109187103:=()
def tw8285680962952288799:=()
def tw8547084732456805983:=()
def tw14372718904571617887:=()
def tw5136345898003951935:=()
def tw1225720925699434943:=()
def tw3218971424702725567:=()
def tw6133560308211023295:=()
def tw6033924305835942687:=()
def tw455262721864779263:=()
def tw5088862884347562495:=()
def tw422076017500180991:=()
def tw17582408324681655807:=()
def tw9916002367456084543:=()
def tw12070684658932188735:=()
def tw17415424547078901311:=()
def tw16378961718399728255:=()
def tw13542462403594086367:=()
def tw6171334207544516575:=()
def tw1988447125935653567:=()
def tw8551805799990079519:=()
def tw13057151182643978271:=()
def tw6660502918647586652:=()
def tw7840770488547025468:=()
def tw6814977449362208380:=()
def tw14622882253150378620:=()
def tw10517299111344905916:=()
def tw17792733520168742588:=()
def tw11764341519403983900:=()
def tw3410528337730936700:=()
def tw9375622716121887004:=()
def tw3154693104449912828:=()
def tw11396377323306392700:=()
def tw14623665318218486300:=()
def tw12227035686611602972:=()
def tw15864282205277930140:=()
def tw18122946101504794268:=()
def tw14437238553352390012:=()
def tw15126538067513755356:=()
def tw6685929658783122876:=()
def tw11026783095285557821:=()
def tw9360629476335093565:=()
def tw5209433498516532381:=()
def tw4697373661900363933:=()
def tw12757336421650463005:=()
def tw10879227726508457245:=()
def tw12105664873652785437:=()
def tw2112566642488819709:=()
def tw6403125899562800477:=()
def tw1795724827781695677:=()
def tw15737079582617409725:=()
def tw13170498321940200637:=()
def tw12014758324793935389:=()
def tw11388239306628612349:=()
def tw10634125873520887101:=()
def tw16070014364764253853:=()
def tw4663566149682681565:=()
def tw4007920519200752061:=()
def tw6267069948551587922:=()
def tw7435811923134071282:=()
def tw16487006367804946930:=()
def tw9809150569210692146:=()
def tw15871560301154231570:=()
def tw14345297761749098770:=()
def tw15579660450709244530:=()
def tw1184490562947267186:=()
def tw4282307057455484530:=()
def tw18258400721958832530:=()
def tw696395867569765778:=()
def tw14138412459977692914:=()
def tw13077723553817920242:=()
def tw7834907455748009842:=()
def tw17596110478077686706:=()
def tw14607581791434006514:=()
def tw2364871757698400242:=()
def tw12920184574659638322:=()
def tw14554850937378210930:=()
def tw2438891458981592914:=()
def tw9812479738483174290:=()
def tw5850202408779544594:=()
def tw17972481138151114770:=()
def tw2717891851863531890:=()
def tw3272382195615510947:=()
def tw14731144037166347747:=()
def tw9805808435568127459:=()
def tw11433241593542980131:=()
def tw6982442258883785379:=()
def tw8518083814682704963:=()
def tw11037950018068758659:=()
def tw11817229386256109411:=()
def tw10006896719844274435:=()
def tw7538445780815900643:=()
def tw5373907837304635363:=()
def tw10791126686257841123:=()
def tw285835508234074435:=()
def tw9586915352673565059:=()
def tw14285752015591006435:=()
def tw10291755048332963171:=()
def tw13697358185768905059:=()
def tw7577260942616637744:=()
def tw18087164361998935056:=()
def tw321762319403821072:=()
def tw15706931101265005936:=()
def tw6313459342597532752:=()
def tw17117264074560106928:=()
def tw15538129481271277040:=()
def tw6140365426472292848:=()
def tw9406731497310758384:=()
def tw3742856445771888848:=()
def tw7158865494171349200:=()
def tw11953322008379871792:=()
def tw4549915367087581744:=()
def tw8769482501556534608:=()
def tw5998699796500981072:=()
def tw6221534275712676176:=()
def tw12276991882013166992:=()
def tw3250288277830964976:=()
def tw11787066143472392656:=()
def tw1721320278678053392:=()
def tw230034708210711184:=()
def tw15135740815824405488:=()
def tw2039732276331795152:=()
def tw778999366216468176:=()
def tw550434730023247632:=()
def tw7792930288142092449:=()
def tw120031823791760545:=()
def tw16195800769964464353:=()
def tw7933470139466944737:=()
def tw18158054659856669985:=()
def tw15248689432771547425:=()
def tw7156704294402321761:=()
def tw11750411294978571617:=()
def tw5980840969097692929:=()
def tw17713364505716199233:=()
def tw2986046340049497985:=()
def tw6585299539021085345:=()
def tw11777965778844673697:=()
def tw2482025663186708193:=()
def tw13812043616829001441:=()
def tw11978498868861836417:=()
def tw5369192850659140449:=()
def tw16701171119316923585:=()
def tw2862768133280310593:=()
def tw303936530882477441:=()
def tw11661428281758127254:=()
def tw1811971434296345462:=()
def tw13891328465709470582:=()
def tw9995077853248300246:=()
def tw1062738253845660598:=()
def tw11151302702331823382:=()
def tw7106077386000151830:=()
def tw8424344773383306518:=()
def tw12462959757636816214:=()
def tw1059821184966695094:=()
def tw12762654447687212278:=()
def tw17111027139197682998:=()
def tw731134719726381366:=()
def tw8509429671917700758:=()
def tw9480391438260850326:=()
def tw3492788284864962326:=()
def tw9699205950023746326:=()
def tw2133210389393459990:=()
def tw18074575801881163670:=()
def tw15844586170051550838:=()
def tw3523441416357442166:=()
def tw264839814067483670:=()
def tw12386657556314392375:=()
def tw8882371774018981687:=()
def tw490197486163287191:=()
def tw13169765720632266967:=()
def tw17497579715588635575:=()
def tw6787108936268938167:=()
def tw14878298956694692119:=()
def tw8044526343859630359:=()
def tw12105782657328736599:=()
def tw5760968727489120311:=()
def tw11530578011260704823:=()
def tw298106021716793527:=()
def tw7266822824292653239:=()
def tw9307704856243841271:=()
def tw4708777042153351831:=()
def tw11393234590771860119:=()
def tw5547984464791179927:=()
def tw4479716197859202423:=()
def tw17847837911547723127:=()
def tw4763957804076461783:=()
def tw7306808790828923319:=()
def tw1670282612192674583:=()
def tw7442664034156174167:=()
def tw13957216695405279799:=()
def tw11750192565054364279:=()
def tw3349092200753289847:=()
def tw1071164552356747828:=()
def tw2644944881068431636:=()
def tw8355613947879006900:=()
def tw11366070878467605972:=()
def tw5679906866960243508:=()
def tw5044882142992962356:=()
def tw16872306447703879188:=()
def tw11806630188025982548:=()
def tw13692005269330039380:=()
def tw13059334092115553204:=()
def tw11223893183795624596:=()
def tw3163351330464891540:=()
def tw17151933513949021172:=()
def tw6036940667531992116:=()
def tw902059786725615380:=()
def tw1132134691596039956:=()
def tw1239581826510734100:=()
def tw675382618501088084:=()
def tw8715353456027434164:=()
def tw17172777748494937332:=()
def tw2126129336887774164:=()
def tw12237498066727637364:=()
def tw10371529929340300436:=()
def tw8264882768079883829:=()
def tw17785715647466353941:=()
def tw15811938219217991285:=()
def tw12559558396980073877:=()
def tw1159350276244617685:=()
def tw13565213507976080181:=()
def tw11554140793072066357:=()
def tw14212715443205288469:=()
def tw5071383636450252373:=()
def tw7261106999331638197:=()
def tw12422961511784595445:=()
def tw6201448642325570549:=()
def tw14760068956396389365:=()
def tw729616016553525365:=()
def tw6248388480428433237:=()
def tw12883118621602146485:=()
def tw13352552638095385845:=()
def tw6301577487864749077:=()
def tw10961843646526599541:=()
def tw17831440017329601909:=()
def tw18420744488255122517:=()
def tw6184342686620407893:=()
def tw11082100370265392565:=()
def tw3916496419160251829:=()
def tw5962217355800249130:=()
def tw12311377804225168522:=()
def tw14745342314361320586:=()
def tw5372776740645224298:=()
def tw4270918070864418666:=()
def tw4013194783574842634:=()
def tw587572767617676554:=()
def tw14581775086178334026:=()
def tw11700455019774710826:=()
def tw17052017805398911018:=()
def tw18411952790208787498:=()
def tw15704145431381624938:=()
def tw8697150919785363626:=()
def tw9216407393702782122:=()
def tw9372592564950296810:=()
def tw6881831062000465482:=()
def tw15510275185723556138:=()
def tw12794415622333679242:=()
def tw17705440139672509066:=()
def tw14775851266542969194:=()
def tw15807147402049999562:=()
def tw11946040738260346570:=()
def tw2189584594487547594:=()
def tw11463846669328987850:=()
def tw2503478384944919306:=()
def tw18137341794663582474:=()
def tw9414802913303127530:=()
def tw5075157933534533450:=()
def tw10094719749374552906:=()
def tw17906803482983151146:=()
def tw4408997040829605546:=()
def tw7870593027474491050:=()
def tw10083609562646149130:=()
def tw776744968607002011:=()
def tw158295722841264315:=()
def tw157447395501591739:=()
def tw1812507317866587451:=()
def tw5251748932465567035:=()
def tw6141701805550132603:=()
def tw8860008046620154715:=()
def tw4214214695018333755:=()
def tw11490235307106769883:=()
def tw4389300494089923611:=()
def tw8782709728756424571:=()
def tw4925322455286424507:=()
def tw14238642656376891323:=()
def tw8725720452859960315:=()
def tw17587428088091432283:=()
def tw12996890708597827931:=()
def tw4130722789364338747:=()
def tw4913572103855749736:=()
def tw9903210199556642408:=()
def tw2072169450378221512:=()
def tw593789857363578888:=()
def tw12734835892856772616:=()
def tw675128044196567048:=()
def tw18331667801775127560:=()
def tw18002031325671115848:=()
def tw12012862420823754888:=()
def tw14179487471926170760:=()
def tw11023385744500326536:=()
def tw4096171149045673832:=()
def tw15530172930944517448:=()
def tw9380898335054706728:=()
def tw14123774680142032936:=()
def tw16203676125212951592:=()
def tw16288473904229623176:=()
def tw10351017761915735144:=()
def tw5879565407188916328:=()
def tw8577924234629109864:=()
def tw13432700396346187272:=()
def tw14279618371595891208:=()
def tw17682990283596901960:=()
def tw7217103988768150152:=()
def tw7411206957681769096:=()
def tw220221241180978952:=()
def tw14230691589752009480:=()
def tw477197516574887688:=()
def tw14272625036284732904:=()
def tw15683375078237832057:=()
def tw2713999880001925049:=()
def tw6193108553159654329:=()
def tw3116589115272582137:=()
def tw209518402492990457:=()
def tw13040423491312360505:=()
def tw17571361745440365977:=()
def tw2450844255013305465:=()
def tw16877701164877378681:=()
def tw8858581002677205113:=()
def tw13605622319699241145:=()
def tw4277179914834767033:=()
def tw14862985206397361689:=()
def tw14954652787516680441:=()
def tw9426489117636681369:=()
def tw5629294110886882969:=()
def tw17390939457952984441:=()
def tw6510803615492743609:=()
def tw7231266376075167513:=()
def tw3012815039788393977:=()
def tw9827097773225184825:=()
def tw2769971072699865721:=()
def tw7098383461230940121:=()
def tw11502999827037819929:=()
def tw12977436221685049369:=()
def tw5798130201762270009:=()
def tw11586373563868579566:=()
def tw15835483374270510542:=()
def tw13460722111437259214:=()
def tw6815894167818950446:=()
def tw8684358978344911726:=()
def tw13064959346618903470:=()
def tw17361079361779956366:=()
def tw2048682069131862734:=()
def tw4889871684113905774:=()
def tw10807363713277925198:=()
def tw9376584224699211662:=()
def tw10015172668012854286:=()
def tw14354275542264223822:=()
def tw457973498127106126:=()
def tw282196056617969742:=()
def tw15021765642264436142:=()
def tw4972523931945854382:=()
def tw13931727653682420878:=()
def tw5284393480304460270:=()
def tw6542201977973725390:=()
def tw6396208205781661230:=()
def tw6336251154558664974:=()
def tw12349710304350435598:=()
def tw2722121077758844526:=()
def tw6254179045399621359:=()
def tw11152496129553369903:=()
def tw11555236640830266959:=()
def tw13800359842521307791:=()
def tw4123197462848675599:=()
def tw6042706178539239247:=()
def tw13363400114116886415:=()
def tw13650956658135571759:=()
def tw10623447272020230447:=()
def tw13316443452841673007:=()
def tw15788055049962623055:=()
def tw17296247864692064335:=()
def tw2059527665851043311:=()
def tw12758439328191383023:=()
def tw5667982041969736239:=()
def tw4452765692494162479:=()
def tw12679959182211680591:=()
def tw4102095702460979535:=()
def tw8855629345314854575:=()
def tw14110942356390927023:=()
def tw10525656850049311119:=()
def tw4342412862454880655:=()
def tw6944675911768315372:=()
def tw12260108712629751340:=()
def tw16562120861548495404:=()
def tw8629026919343273580:=()
def tw14455160120822361836:=()
def tw7593310329692757804:=()
def tw6778156948292585996:=()
def tw12698941614678062668:=()
def tw5044930006048619212:=()
def tw11927824265273734924:=()
def tw15899230325233278060:=()
def tw1091450123613016172:=()
def tw9325443238548626252:=()
def tw5798814033787048108:=()
def tw5863364329444666316:=()
def tw271227627618719692:=()
def tw13753471237053193228:=()
def tw1578092042249774092:=()
def tw6627197870990076940:=()
def tw12525100018370618732:=()
def tw16192383818477348940:=()
def tw16423306844167269804:=()
def tw177704757916004492:=()
def tw2490979900802127533:=()
def tw12874175194403044077:=()
def tw6040814192904411597:=()
def tw5655502412114951981:=()
def tw1366183283207383853:=()
def tw252956867540926989:=()
def tw11648317190782792557:=()
def tw17174270645534861165:=()
def tw18105343710565440077:=()
def tw5011324976259635789:=()
def tw2873316109220880301:=()
def tw15944774363914038925:=()
def tw8969781832175501293:=()
def tw16523817768075146957:=()
def tw14934132261579583533:=()
def tw18213920194693911309:=()
def tw13342624365236691053:=()
def tw3862421648678837069:=()
def tw6345023692930150221:=()
def tw12033472544505167693:=()
def tw15650139321425009549:=()
def tw1422922669113883885:=()
def tw9030892198536575949:=()
def tw7878975535203886093:=()
def tw3333263185045117293:=()
def tw12283316226122480045:=()
def tw7757833201129677602:=()
def tw12088242301883435138:=()
def tw2258659695690117986:=()
def tw8101729766917181410:=()
def tw761026573081004066:=()
def tw1033684373528176674:=()
def tw16576400937324021858:=()
def tw14305931275683106370:=()
def tw10952654071541136674:=()
def tw5711493165505463938:=()
def tw11365296373935936866:=()
def tw10158549083044927842:=()
def tw18225594686487251650:=()
def tw569634986790891202:=()
def tw4177627872916361762:=()
def tw924299911362376578:=()
def tw5070059458530214498:=()
def tw13424757118882856898:=()
def tw12548686757371381698:=()
def tw7627126189770155123:=()
def tw5204499386976877395:=()
def tw17307092198928725235:=()
def tw17200745500334037971:=()
def tw7202652322031744019:=()
def tw14428934242883782675:=()
def tw7661471079529331059:=()
def tw9175685687965840531:=()
def tw14541046824109058547:=()
def tw346839249905452531:=()
def tw4122283823111043283:=()
def tw14621010614461531347:=()
def tw12627525790773120211:=()
def tw10398996012959433267:=()
def tw9327374405658496563:=()
def tw10289289185370294899:=()
def tw18266318199309274515:=()
def tw17610319412617680275:=()
def tw14303984104991221491:=()
def tw8021518442900237843:=()
def tw5846601536545796627:=()
def tw7500100065233503827:=()
def tw8941180852903638611:=()
def tw1542960710848830035:=()
def tw17666886723929110227:=()
def tw14142858983193745107:=()
def tw9281741276990552115:=()
def tw2973025346638141760:=()
def tw10032585578648776352:=()
def tw562769569954754464:=()
def tw5881383831875419040:=()
def tw12536219749687379648:=()
def tw6002789119308000064:=()
def tw7249146100652445568:=()
def tw4179635900038039424:=()
def tw2793669017989307616:=()
def tw13680715458674355424:=()
def tw5921460455680646080:=()
def tw7414336412630060096:=()
def tw13057953933572049312:=()
def tw11519059145780692384:=()
def tw9492535611064518112:=()
def tw6276233058687963665:=()
def tw16258168071441154929:=()
def tw314924982966962769:=()
def tw3250106086555694801:=()
def tw5451850865577225041:=()
def tw17629626116703616849:=()
def tw8029142745128339409:=()
def tw4628018106751450417:=()
def tw7369874661401686033:=()
def tw9732123139091492881:=()
def tw1652151817123476849:=()
def tw4433561544456435793:=()
def tw3988145746091516337:=()
def tw11820403765020011057:=()
def tw12602813940142256753:=()
def tw15275095067183514961:=()
def tw332549671482693009:=()
def tw15134995815514736369:=()
def tw2184699491998552881:=()
def tw5695198112561553510:=()
def tw5868727665290387910:=()
def tw8458451832971209158:=()
def tw13782244893475919366:=()
def tw3608499144938654278:=()
def tw3194093690787153190:=()
def tw8980990994613871910:=()
def tw5668701320270145894:=()
def tw4710833262479339206:=()
def tw5549760677621606150:=()
def tw10531022886183112166:=()
def tw16430718665005041542:=()
def tw18359153931141801574:=()
def tw8301518754774410182:=()
def tw1568263139264851622:=()
def tw11372347826868926182:=()
def tw6471293936248711238:=()
def tw9740763196457431110:=()
def tw8472114325362431782:=()
def tw9292294258200754982:=()
def tw9054395982462623878:=()
def tw13242170505902109542:=()
def tw76410476313270470:=()
def tw11990011037816002470:=()
def tw666939578349802406:=()
def tw14531707474870072646:=()
def tw12218214328460341286:=()
def tw8872056593360672199:=()
def tw17123024314541723815:=()
def tw17523407331501203623:=()
def tw11839818620267742727:=()
def tw3539884749707449927:=()
def tw14637361677579145511:=()
def tw17559359001357930119:=()
def tw13275956281868316007:=()
def tw3019368079147512167:=()
def tw13269594474973011783:=()
def tw17702382859715122055:=()
def tw8360117953381148551:=()
def tw17447329193159444359:=()
def tw9842443077092952679:=()
def tw5854356767713603527:=()
def tw12174135710373516231:=()
def tw13455026823033456295:=()
def tw6787865438276604935:=()
def tw17546227563129429063:=()
def tw10051689733609459495:=()
def tw3267798410146121927:=()
def tw10813258908719041447:=()
def tw16128287082638061543:=()
def tw7743574658881379655:=()
def tw3782792928657134631:=()
def tw14519634906343959396:=()
def tw3663669358603095972:=()
def tw51425051332738020:=()
def tw2293798779384238404:=()
def tw1264702077813994884:=()
def tw16979860243139996036:=()
def tw17344948716862465412:=()
def tw18205204338198416484:=()
def tw8224180388226285668:=()
def tw4846463835758354660:=()
def tw7633794968388641348:=()
def tw15318273698852190852:=()
def tw16337934473643205988:=()
def tw6622281066900493668:=()
def tw4828055761551162788:=()
def tw10846902492459641604:=()
def tw13109597893727279652:=()
def tw12412615750920583044:=()
def tw14656816340979295844:=()
def tw9589939696281846724:=()
def tw13778997624373508772:=()
def tw3909238457825905380:=()
def tw13461162419767518276:=()
def tw2578091553338565700:=()
def tw1005795755815687300:=()
def tw9191904921594136421:=()
def tw18000135551319767237:=()
def tw11560813945549706501:=()
def tw10459952662926806341:=()
def tw11426178553127936037:=()
def tw12969771881763115045:=()
def tw14031090439546907013:=()
def tw17666629273151722661:=()
def tw3187645920522263781:=()
def tw16202160664751374917:=()
def tw12411656337568999045:=()
def tw7903586773410043525:=()
def tw6546640326382524773:=()
def tw10157965666088790789:=()
def tw15439130942618491365:=()
def tw1684835520963067429:=()
def tw6927909745341287365:=()
def tw10657175882204854714:=()
def tw9454549151624249114:=()
def tw12995549143734237978:=()
def tw17741283877414845946:=()
def tw3505759463970336602:=()
def tw4972579145566280378:=()
def tw11240539595873752090:=()
def tw13996355227881457690:=()
def tw13062203411589324826:=()
def tw16899629946091136026:=()
def tw15923818551242003194:=()
def tw2210961512751240954:=()
def tw14893733305694590042:=()
def tw133842268780717882:=()
def tw2185975617315693370:=()
def tw9394004993354265754:=()
def tw15862457183682383930:=()
def tw4831331724211725722:=()
def tw16492800740876332442:=()
def tw16440303801752627322:=()
def tw11777155501131324538:=()
def tw4757986347984784506:=()
def tw6685145090422739066:=()
def tw5326080023724939802:=()
def tw12036014140496194810:=()
def tw6017663629909708442:=()
def tw7970951861802639738:=()
def tw10899502114790681306:=()
def tw1750929930553666266:=()
def tw17665709144910692058:=()
def tw606604069348353131:=()
def tw11200425239185439563:=()
def tw6470773355574825803:=()
def tw10493351154318833899:=()
def tw12531892529850644715:=()
def tw5299189597502917867:=()
def tw5534749023219959755:=()
def tw4751814287572324299:=()
def tw12444932403243124075:=()
def tw5825926722204494251:=()
def tw8461208414043439243:=()
def tw1236188527805771915:=()
def tw101108006896450763:=()
def tw7622284123901954251:=()
def tw8748982216893884971:=()
def tw5617633864807378187:=()
def tw2315517418540231051:=()
def tw17320643686834261515:=()
def tw9483954301142369803:=()
def tw13548084233506301451:=()
def tw15269275123525226411:=()
def tw4779114537161820139:=()
def tw10138817459011303115:=()
def tw11121300624085783736:=()
def tw14930702688253303320:=()
def tw16979832933125351960:=()
def tw13968638099707637400:=()
def tw1754647606759697112:=()
def tw4230918736732511960:=()
def tw7652542367989123512:=()
def tw5066775929558951352:=()
def tw14221661892651677112:=()
def tw535285535254755096:=()
def tw17179462439940004632:=()
def tw1395299472940609304:=()
def tw9644548988604264280:=()
def tw9182101893102126648:=()
def tw16689178746719368152:=()
def tw16752523825042119352:=()
def tw9094906644071710520:=()
def tw12990229958555402392:=()
def tw16788439326138463448:=()
def tw3236661005183555800:=()
def tw6878611545584605464:=()
def tw17947368405893205272:=()
def tw12560311540289031160:=()
def tw15495936432820715928:=()
def tw16984199017564572120:=()
def tw16326414453041237225:=()
def tw7352626150045453545:=()
def tw12683803059010324105:=()
def tw14176746594816654025:=()
def tw11935389064265585065:=()
def tw4121820882780514729:=()
def tw16167929075695738633:=()
def tw16679970209912087305:=()
def tw1053423940506654185:=()
def tw13425703381006914025:=()
def tw9902812401696765769:=()
def tw4324386478212427657:=()
def tw16588145857895536233:=()
def tw17492278529020995177:=()
def tw11420434963575677961:=()
def tw1845216723783455817:=()
def tw18169216504720277353:=()
def tw15714077975864518857:=()
def tw8962294596351137705:=()
def tw462440440211646377:=()
def tw8778414375802521577:=()
def tw17583404590069337065:=()
def tw16505437860557390153:=()
def tw16877355651701700649:=()
def tw8162925194363079721:=()
def tw3242171953981882181:=()
end PySem.W.Fast
set_option maxRecDepth 100000 in
set_option maxHeartbeats 0 in
theorem PySem.Challenge.cw_unfoldnet_k27_nets_that_crowd_holds : PySem.Challenge.rw_unfoldnet_k27_nets_that_crowd.Holds := by
 w_on;o_law;k_head;(case hw=>w_witness2)
 k_fill
 refine Uf.walk (l:=PySem.Challenge.rw_unfoldnet_k27_nets_that_crowd) rfl rfl (fun w h Y=>PySem.W.kIn_of Y) ?F
 case F =>
  intro w mg fa h KX G hmg
  refine' Uf.all_mk KX G hmg ?aC ?aW ?gCR ?gNE ?gCL ?gCF ?gCH ?gCE ?gCO ?gCC ?gCA ?gCM ?gCN ?gCP ?gCQ ?gCS ?gCX ?gCY ?gCI ?a1 ?a2 ?a3 ?a4 ?a5 ?a6 ?a7 ?a8 ?a9 ?a10 ?a11 ?a12 ?a13 ?a14 ?a15 ?a16 ?a17 ?a18 ?a19 ?a20 ?a21 ?a22 ?a23 ?a24 ?a25 ?a26 ?i26 ?a27 ?i27 ?a28 ?i28 ?a29 ?i29 ?a30 ?i30 ?a31 ?i31 ?a32 ?i32 ?a33 ?i33 ?a34 ?i34 ?oCR ?oNE ?a35 ?l1 ?c1 ?k1 ?l2 ?c2 ?k2 ?l3 ?c3 ?k3 ?l4 ?c4 ?k4 ?l5 ?c5 ?k5 ?l6 ?c6 ?k6 ?l7 ?c7 ?k7 ?l8 ?c8 ?k8 ?l9 ?c9 ?k9 ?l10 ?c10 ?k10 ?l11 ?c11 ?k11 ?l12 ?c12 ?k12 ?l13 ?c13 ?k13 ?l14 ?c14 ?k14 ?l15 ?c15 ?k15 ?l16 ?c16 ?k16 ?l17 ?c17 ?k17 ?l18 ?c18 ?k18 ?l19 ?c19 ?k19 ?l20 ?c20 ?k20 ?l21 ?c21 ?k21 ?l22 ?c22 ?k22 ?l23 ?c23 ?k23 ?l24 ?c24 ?k24 ?l25 ?c25 ?k25 ?l26 ?c26 ?k26 ?l27 ?c27 ?k27 ?l28 ?c28 ?k28 ?l29 ?c29 ?k29 ?l30 ?c30 ?k30 ?l31 ?c31 ?k31 ?l32 ?c32 ?k32 ?l33 ?c33 ?k33 ?l34 ?c34 ?k34 ?l35 ?c35 ?k35 ?pg ?hd ?po ?sa ?mk ?kc ?pgW ?hdW ?poW ?saW ?mkW ?kcW ?wN ?wS ?wO ?wH ?wW ?wG ?wB ?wT ?wP ?nP ?nS ?nT ?nG ?z1 ?z2 ?z3 ?z4 ?z5 ?z6 ?z7 ?z8 ?z9 ?z10 ?z11 ?z12 ?z13 ?z14 ?y1 ?y2 ?y3 ?y4 ?y5 ?y6 ?y7 ?bNE ?rNE ?fNE ?hNE ?xc ?xt ?taCR ?noCR ?kpCR ?hdCR ?coCR ?unCR ?gaCR ?gnCR ?hmCR ?hoCR ?clCR ?qvCR ?q0CR ?saCR ?mrCR ?tkCR ?naCR ?qaCR ?qbCR
  (case aC=>k_is);(case aW=>k_is);(case gCR=>k_is);(case gNE=>k_is);(case gCL=>k_is);(case gCF=>k_is)
  (case gCH=>k_is);(case gCE=>k_is);(case gCO=>k_is);(case gCC=>k_is);(case gCA=>k_is);(case gCM=>k_is)
  (case gCN=>k_is);(case gCP=>k_is);(case gCQ=>k_is);(case gCS=>k_is);(case gCX=>k_is);(case gCY=>k_is)
  (case gCI=>k_is);(case a1=>k_is);(case a2=>k_is);(case a3=>k_is);(case a4=>k_is);(case a5=>k_is)
  (case a6=>k_is);(case a7=>k_is);(case a8=>k_is);(case a9=>k_is);(case a10=>k_is);(case a11=>k_is)
  (case a12=>k_is);(case a13=>k_is);(case a14=>k_is);(case a15=>k_is);(case a16=>k_is);(case a17=>k_is)
  (case a18=>k_is);(case a19=>k_is);(case a20=>k_is);(case a21=>k_is);(case a22=>k_is);(case a23=>k_is)
  (case a24=>k_is);(case a25=>k_is);(case a26=>k_is);(case i26=>k_is);(case a27=>k_is);(case i27=>k_is)
  (case a28=>k_is);(case i28=>k_is);(case a29=>k_is);(case i29=>k_is);(case a30=>k_is);(case i30=>k_is)
  (case a31=>k_is);(case i31=>k_is);(case a32=>k_is);(case i32=>k_is);(case a33=>k_is);(case i33=>k_is)
  (case a34=>k_is);(case i34=>k_is);(case oCR=>k_is);(case oNE=>k_is);(case a35=>k_is);(case l1=>k_is)
  (case c1=>k_is);(case k1=>k_is);(case l2=>k_is);(case c2=>k_is);(case k2=>k_is);(case l3=>k_is)
  (case c3=>k_is);(case k3=>k_is);(case l4=>k_is);(case c4=>k_is);(case k4=>k_is);(case l5=>k_is)
  (case c5=>k_is);(case k5=>k_is);(case l6=>k_is);(case c6=>k_is);(case k6=>k_is);(case l7=>k_is)
  (case c7=>k_is);(case k7=>k_is);(case l8=>k_is);(case c8=>k_is);(case k8=>k_is);(case l9=>k_is)
  (case c9=>k_is);(case k9=>k_is);(case l10=>k_is);(case c10=>k_is);(case k10=>k_is);(case l11=>k_is)
  (case c11=>k_is);(case k11=>k_is);(case l12=>k_is);(case c12=>k_is);(case k12=>k_is);(case l13=>k_is)
  (case c13=>k_is);(case k13=>k_is);(case l14=>k_is);(case c14=>k_is);(case k14=>k_is);(case l15=>k_is)
  (case c15=>k_is);(case k15=>k_is);(case l16=>k_is);(case c16=>k_is);(case k16=>k_is);(case l17=>k_is)
  (case c17=>k_is);(case k17=>k_is);(case l18=>k_is);(case c18=>k_is);(case k18=>k_is);(case l19=>k_is)
  (case c19=>k_is);(case k19=>k_is);(case l20=>k_is);(case c20=>k_is);(case k20=>k_is);(case l21=>k_is)
  (case c21=>k_is);(case k21=>k_is);(case l22=>k_is);(case c22=>k_is);(case k22=>k_is);(case l23=>k_is)
  (case c23=>k_is);(case k23=>k_is);(case l24=>k_is);(case c24=>k_is);(case k24=>k_is);(case l25=>k_is)
  (case c25=>k_is);(case k25=>k_is);(case l26=>k_is);(case c26=>k_is);(case k26=>k_is);(case l27=>k_is)
  (case c27=>k_is);(case k27=>k_is);(case l28=>k_is);(case c28=>k_is);(case k28=>k_is);(case l29=>k_is)
  (case c29=>k_is);(case k29=>k_is);(case l30=>k_is);(case c30=>k_is);(case k30=>k_is);(case l31=>k_is)
  (case c31=>k_is);(case k31=>k_is);(case l32=>k_is);(case c32=>k_is);(case k32=>k_is);(case l33=>k_is)
  (case c33=>k_is);(case k33=>k_is);(case l34=>k_is);(case c34=>k_is);(case k34=>k_is);(case l35=>k_is)
  (case c35=>k_is);(case k35=>k_is);(case pg=>k_is);(case hd=>k_is);(case po=>k_is);(case sa=>k_is)
  (case mk=>k_is);(case kc=>k_is);(case pgW=>k_is);(case hdW=>k_is);(case poW=>k_is);(case saW=>k_is)
  (case mkW=>k_is);(case kcW=>k_is);(case wN=>k_is);(case wS=>k_is);(case wO=>k_is);(case wH=>k_is)
  (case wW=>k_is);(case wG=>k_is);(case wB=>k_is);(case wT=>k_is);(case wP=>k_is);(case nP=>k_is)
  (case nS=>k_is);(case nT=>k_is);(case nG=>k_is);(case z1=>k_is);(case z2=>k_is);(case z3=>k_is)
  (case z4=>k_is);(case z5=>k_is);(case z6=>k_is);(case z7=>k_is);(case z8=>k_is);(case z9=>k_is)
  (case z10=>k_is);(case z11=>k_is);(case z12=>k_is);(case z13=>k_is);(case z14=>k_is);(case y1=>k_is)
  (case y2=>k_is);(case y3=>k_is);(case y4=>k_is);(case y5=>k_is);(case y6=>k_is);(case y7=>k_is)
  (case bNE=>k_is);(case rNE=>k_is);(case fNE=>k_is);(case hNE=>(first | rfl | kernel_rfl | decide +kernel | k_is));(case xc=>k_is);(case xt=>k_is)
  (case taCR=>(first | rfl | kernel_rfl | decide +kernel | k_is));(case noCR=>(first | rfl | kernel_rfl | decide +kernel | k_is));(case kpCR=>k_is);(case hdCR=>k_is);(case coCR=>(first | rfl | kernel_rfl | decide +kernel | k_is));(case unCR=>(first | rfl | kernel_rfl | decide +kernel | k_is))
  (case gaCR=>k_is);(case gnCR=>k_is);(case hmCR=>k_is);(case hoCR=>k_is);(case clCR=>k_is);(case qvCR=>(first | rfl | kernel_rfl | decide +kernel | k_is))
  (case q0CR=>(first | rfl | kernel_rfl | decide +kernel | k_is));(case saCR=>k_is);(case mrCR=>(first | rfl | kernel_rfl | decide +kernel | k_is));(case tkCR=>k_is);(case naCR=>k_is);(case qaCR=>(first | rfl | kernel_rfl | decide +kernel | k_is))
  (case qbCR=>(first | rfl | kernel_rfl | decide +kernel | k_is))
end
