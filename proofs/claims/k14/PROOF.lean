import PyProof.Rows.All
import Wide.All
import OpenK.AllK
import Wide.FinOn
import Lean
import PyProof.EqAt
import PyProof.EqKinds
import PyProof.TupleCall
import PyProof.SetKind
import PyProof.DictKinds
import PyProof.CompFree
import PyProof.FactsAll.set_1
import PyProof.Seq
import PyProof.Walks
import PyProof.CollectWalk
import PyProof.WalkLemmas
import PyProof.Rows.TmSorted
import PyProof.Rows.StrMeet
import PyProof.Rows.SortStr
import PyProof.Rows.SetFrom
import KE.KDictList
import PyProof.NeKinds
import PyProof.Rows.TupDisplay
import PyProof.StrOps2
import PyProof.StrBlockH
import PyProof.WalksEnum
import PyProof.EnumMake
import KE.KRevIter
import PyProof.FitsBits
import KE.RegMulBits
import PySem.Challenge.RW_unfoldnet_k14_whole_crowding
set_option Elab.async false
set_option linter.all false
set_option maxRecDepth 100000
set_option maxHeartbeats 8000000
variable{P prog:PySem.Program}{w:PySem.World}{K:PySem.W.Frag}{mg:PySem.Str->Option PySem.Value}{base:PySem.Heap}{A:PySem.Around}{E:PySem.Value->PySem.Shared->Prop}{s:PySem.Shared}
def yd:=@PySem.wpAny_bind
def ye:=@PySem.Heap.get?_push_of_some
def yf:=@List.length_map
def yg:=@List.getElem?_eq_getElem
def yh:=@PySem.Heap.lt_size
def yi:=@Nat.le_refl
def yj:=@PySem.wpAny_pure
def yk:=@List.map_append
def yl:=@List.getD_eq_getElem?_getD
def ym:=@PySem.Heap.get?_push_size
def yn:=@Nat.ne_of_lt
def yo:=@List.mem_append
def yp:=@List.length_append
def yq:=@List.mem_of_getElem?
def yr:=@List.mem_cons
def yt:=@if_neg
def yv:=@Bool.false_ne_true
def yw:=@List.size_toArray
def yx:=@List.mem_map
def yy:=@decide_eq_true
def yz:=@List.getElem?_eq_some_iff
def yA:=@Bool.and_eq_true_iff
def yB:=@List.length_take
def yC:=@Nat.zero_le
def yD:=@Nat.lt_of_lt_of_le
def yE:=@List.nodup_append
def yF:=@if_pos
def yG:=@PySem.Paired.length
def yH:=@List.take_length
def yI:=@Nat.le_trans
def yJ:=@PySem.PassesOwn.never
def yK:=@PySem.sizeLine_eq
def yL:=@decide_eq_false
def yM:=@List.mem_cons_of_mem
def yN:=@List.filter_append
def yO:=@PySem.F.plainAttrs_list
def yP:=@List.mem_append_right
def yQ:=@List.length_cons
def yR:=@List.getElem?_map
def yS:=@PySem.F.slot_list_append
def yT:=@PySem.F.type_list_append
def yU:=@List.mem_append_left
def yV:=@Option.some.inj
def yW:=@List.mem_cons_self
def yX:=@List.map_cons
def yY:=@Array.getElem?_toList
def yZ:=@PySem.Heap.SameBut.update
def y8:=@PySem.sizeLine_eq
def y9:=@List.length_filter_le
def zc:=@Nat.lt_irrefl
def zd:=@PySem.wpAny_truthy_bool
def ze:=@List.take_append_drop
def zf:=@PySem.W.kia_one
def zg:=@PySem.wpAny_Call_Name_kw
def zh:=@List.mem_singleton
def zi:=@PySem.W.mg_none_of
def zj:=@PySem.Heap.size_push
def zl:=@of_decide_eq_true
def zm:=@List.mem_filter
def zp:=@List.nodup_cons
def zq:=@List.getElem?_append_left
def zr:=@PySem.Heap.get?_update_self
def zt:=@PySem.F.called_set
def zu:=@PySem.Paired.snoc
def zv:=@PySem.wpAny_mono
def zw:=@congrArg
def zx:=@Int.toNat_natCast
def zy:=@PySem.wpAny_newObj_type
def zz:=@Nat.lt_succ_of_lt
def zA:=@PyProof.Rows.callWith_type1
def zB:=@Array.length_toList
def zC:=@PySem.wpAny_setEntries_of
def zD:=@Nat.lt_succ_self
def zE:=@List.lookup_cons
def zF:=@PySem.wpAny_setField
def zG:=@List.any_cons
def zH:=@List.eq_nil_of_length_eq_zero
def zI:=@beq_eq_false_iff_ne
def zJ:=@PySem.mem_of_lookup
def zK:=@List.getElem_mem
def zL:=@PySem.Heap.get?_update_other
def zM:=@PyProof.Rows.F.plain_set_update_loop
def zN:=@Int.emod_lt_of_pos
def zO:=@PySem.wpAny_passesOwn
def zP:=@List.find?_cons
def zQ:=@PySem.builtinLookup_eq_fast
def zR:=@PySem.wpAny_ite_split
def zS:=@PySem.wpAny_setState_of
def zT:=@List.append_assoc
def zU:=@PySem.Around.under_plainId
def zV:=@Nat.le_succ
def zW:=@Nat.ne_of_gt
def zX:=@PySem.codeAny_mono
def zY:=@PySem.wpAny_askSetting
def zZ:=@List.not_mem_nil
def z0:=@List.all_eq_true
def Aa:=@List.length_pos_iff
def Ab:=@PySem.wpAny_getItem_str_slice
def Ac:=@Ne.symm
def Ad:=@Bool.eq_iff_iff
def Ae:=@PySem.W.callWith_K
def Af:=@PySem.codeAny_builtin
def Ag:=@List.foldl_cons
def Ah:=@Int.emod_nonneg
def Ai:=@List.take_of_length_le
def Aj:=@List.mem_range
def Ak:=@Nat.le_of_lt
def Al:=@List.length_singleton
def Am:=@PySem.wpAny_fieldsOf
def An:=@List.getElem?_eq_none
def Ao:=@Bool.and_eq_true
def Ap:=@List.any_eq_true
def Aq:=@PySem.wpAny_call_entry
def Ar:=@decide_eq_decide
def As:=@List.filter_cons
def Au:=@PySem.Calls.Name_function_global
def Av:=@List.getElem?_append_right
def Aw:=@PySem.wpAny_holding
def Ax:=@PySem.plainId_quiet
def Ay:=@PySem.W.mg_of
def Az:=@PySem.typeLookup_type
def AA:=@PySem.F.plain_extend_loop
def AB:=@List.drop_eq_getElem_cons
def AD:=@List.pairwise_iff_getElem
def AE:=@PySem.Calls.spliced_cons
def AF:=@List.getElem?_take_of_lt
def AG:=@Bool.false_eq_true
def AH:=@PyProof.Rows.F.entry_set_update_loop
def AI:=@List.map_map
def AJ:=@List.find?_eq_none
def AK:=@PySem.wpAny_pyIter_list
def AL:=@PySem.fits_of_scanBound
def AM:=@List.pairwise_map
def AN:=@decide_eq_true_eq
def AO:=@List.all_cons
def AQ:=@Bool.true_and
def AR:=@List.length_drop
def AS:=@PySem.wpAny_execs_nil
def AU:=@List.append_nil
def AV:=@PySem.wpAny_specialOf
def AW:=@PySem.wpAny_newFunctionEnv
def AX:=@List.length_eraseIdx
def AY:=@List.all_map
def AZ:=@PySem.post_val_or_str
def A0:=@List.mem_of_mem_take
def A1:=@List.mem_of_mem_drop
def A3:=@Int.mul_le_mul_of_nonneg_left
def A4:=@PySem.W.plainGet_of
def A5:=@List.filter_sublist
def A6:=@PySem.isSubtype_type
def A7:=@PySem.tupleKind_room_in1
def A8:=@PySem.Calls.spliced_nil
def A9:=@List.take_sublist
def Ba:=@List.reverse_cons
def Bb:=@List.foldl_append
def Bc:=@List.length_range
def Bd:=@PySem.wpAny_Name
def Be:=@beq_iff_eq
def Bf:=@PySem.wpAny_call
def Bg:=@if_true
def Bh:=@List.getElem_inj
def Bi:=@if_false
def Bj:=@PySem.wpAny_comprehension_free
def Bk:=@PySem.wpAny_isInstance
def Bl:=@or_false
def Bm:=@List.any_map
def Bn:=@PySem.Txt.slice_le
def Bo:=@List.mem_flatMap
def Bp:=@PySem.Calls.loadGlobal_global
def Bq:=@List.getElem?_replicate
def Br:=@Option.bind_eq_some_iff
def Bs:=@PySem.wpAny_callSpecial?_slot
def Bt:=@PySem.F.plain_list_iadd
def Bu:=@List.of_mem_zip
def Bv:=@PySem.wpAny_updateSeq
def Bw:=@Nat.min_eq_left
def Bx:=@List.getElem?_set_self
def By:=@PySem.W.cellsFrom_some
def Bz:=@List.drop_of_length_le
def BB:=@List.range_succ_eq_map
def BC:=@List.length_eq_one_iff
def BD:=@PySem.W.methodCall_KW
def BE:=@List.length_replicate
def BF:=@PySem.wpAny_seqItems
def BG:=@PySem.F.slot_set_iter
def BH:=@PySem.F.plain_set_new
def BI:=@PySem.Walks.dictKeys
def BJ:=@List.lookup_cons_self
def BK:=@List.getElem?_set_ne
def BL:=@Nat.not_succ_le_self
def BM:=@Bool.or_false
def BN:=@Option.bind_eq_bind
def BO:=@List.flatMap_append
def BP:=@List.length_reverse
def BQ:=@PySem.W.codeHd_of_K
def BR:=@Array.toList_append
def BS:=@List.map_nil
section
namespace L2
open PySem PySem.Spec PyProof.Rows
abbrev Key:=Sum Int Str
def iC:Key->Value->Bool
 |.inl k,v=>Value.isInt k v
 |.inr x,v=>Value.isStrOf x v
def xZ(w:World):Key->Int
 |.inl k=>hashInt k
 |.inr x=>hashStr w x
def aX:∀{k:Key} {v:Value},iC k v=true->(∃i t,k=Sum.inl i/\v=Value.int i t)\/(∃x t,k=Sum.inr x/\v=Value.str x t)
 |.inl i,v,h=>by
  obtain⟨t,e⟩:=Value.isInt_shape (k:=i) (v:=v) h
  exact .inl ⟨i,t,rfl,e⟩
 |.inr x,v,h=>by
  obtain⟨t,e⟩:=Value.isStrOf_shape (x:=x) (v:=v) h
  exact .inr ⟨x,t,rfl,e⟩
def pQ(i:Int)(t:Tok):iC (.inl i) (.int i t)=true:=by simp[iC,Value.isInt]
def qa(x:Str)(t:Tok):iC (.inr x) (.str x t)=true:=by simp[iC,Value.isStrOf]
def vw(a b:Int):decide ((Sum.inl a:Key)=Sum.inl b)=(a==b):=by
 by_cases e:a=b
 ·subst e;simp
 ·have h:¬(Sum.inl a:Key)=Sum.inl b:=λq=>e (Sum.inl.inj q)
  rw[yL h]
  exact(zI.mpr e).symm
def va(a b:Str):decide ((Sum.inr a:Key)=Sum.inr b)=decide (a=b):=by
 by_cases e:a=b
 ·subst e;simp
 ·have h:¬(Sum.inr a:Key)=Sum.inr b:=λq=>e (Sum.inr.inj q)
  rw[yL h,yL e]
def vB(a:Int)(b:Str):decide ((Sum.inl a:Key)=Sum.inr b)=false:=yL (λq=>nomatch q)
def vy(a:Str)(b:Int):decide ((Sum.inr a:Key)=Sum.inl b)=false:=yL (λq=>nomatch q)
def aR(prog:Program)(w:World):PySem.KeyKind prog w Key where
 is:=iC
 hash:=xZ w
 inj:=λv a b ha hb=>by
  rcases aX ha with⟨i,t,rfl,rfl⟩|⟨x,t,rfl,rfl⟩
  ·rcases aX hb with⟨j,u,rfl,e⟩|⟨y,u,rfl,e⟩
   ·injection e with e1 _;rw[e1]
   ·exact nomatch e
  ·rcases aX hb with⟨j,u,rfl,e⟩|⟨y,u,rfl,e⟩
   ·exact nomatch e
   ·injection e with e1 _;rw[e1]
 byValue:=λk v h=>by
  rcases aX h with⟨i,t,rfl,rfl⟩|⟨x,t,rfl,rfl⟩ <;> rfl
 pyHash:=λhv h=>by
  rcases aX hv with⟨i,t,rfl,rfl⟩|⟨x,t,rfl,rfl⟩
  ·exact wpAny_pyHash_int h
  ·exact wpAny_pyHash_str h
 eqBool:=λhu hv h=>by
  rcases aX hu with⟨i,t,rfl,rfl⟩|⟨x,t,rfl,rfl⟩
  ·rcases aX hv with⟨j,u,rfl,rfl⟩|⟨y,u,rfl,rfl⟩
   ·rw[vw]at h;exact wpAny_eqBool_int h
   ·rw[vB]at h;exact SeqAt.EqAt.int_str i t y u _ _ _ _ h
  ·rcases aX hv with⟨j,u,rfl,rfl⟩|⟨y,u,rfl,rfl⟩
   ·rw[vy]at h;exact SeqAt.EqAt.str_int x t j u _ _ _ _ h
   ·rw[va]at h;exact wpAny_eqBool_str h
 «strs»:=λk x t v h=>by
  rcases aX h with⟨i,u,rfl,e⟩|⟨y,u,rfl,e⟩
  ·exact nomatch e
  ·injection e with e1 _
   subst e1
   cases v <;> rfl
def iB(prog:Program)(w:World)(k:Key)(v:Value):(aR prog w).is k v=iC k v:=rfl
def lX(prog:Program)(w:World)(i:Int)(t:Tok):(aR prog w).is (.inl i) (.int i t)=true:=pQ i t
def lN(prog:Program)(w:World)(x:Str)(t:Tok):(aR prog w).is (.inr x) (.str x t)=true:=qa x t
end L2
namespace L2
open PySem PySem.Spec PyProof.Rows
inductive V where
 |non|bl (b:Bool)|int (i:Int)|str (x:Str)|byt (b:Array UInt8)|flt (b:UInt64)|ref (a:Addr)|ty (n:String)
 deriving DecidableEq
def RelV:V->Value->Prop
 |.non,u=>u=Value.none
 |.bl b,u=>u=Value.bool b
 |.int i,u=>∃t,u=Value.int i t
 |.str x,u=>∃t,u=Value.str x t
 |.byt b,u=>∃t,u=Value.bytes b t
 |.flt b,u=>∃t,u=Value.float b t
 |.ref a,u=>u=Value.ref a
 |.ty n,u=>u=Value.type n
abbrev Vals:List V->List Value->Prop:=Paired RelV
theorem Vals.length{xs:List V}{us:List Value}(r:Vals xs us):xs.length=us.length:=yG r
theorem Vals.get:∀{xs:List V} {us:List Value} {i:Nat} {x:V},Vals xs us->xs[i]?=some x->∃u,us[i]?=some u/\RelV x u
 |_,_,_,_,.nil,e=>by simp at e
 |_,_,0,_,.cons r _,e=>by simp at e;subst e;exact⟨_,rfl,r⟩
 |_,_,i+1,x,.cons _ t,e=>by
  obtain⟨u,h1,h2⟩:=Vals.get (i:=i) (x:=x) t (by simpa using e)
  exact⟨u,by simpa using h1,h2⟩
theorem Vals.append:∀{xs ys:List V} {us ws:List Value},Vals xs us->Vals ys ws->Vals (xs++ys) (us++ws)
 |_,_,_,_,.nil,s=>s
 |_,_,_,_,.cons r t,s=>.cons r (Vals.append t s)
theorem Vals.take:∀{xs:List V} {us:List Value} (n:Nat),Vals xs us->Vals (xs.take n) (us.take n)
 |_,_,0,_=>.nil
 |_,_,_+1,.nil=>.nil
 |_,_,n+1,.cons r t=>.cons r (Vals.take n t)
theorem Vals.drop:∀{xs:List V} {us:List Value} (n:Nat),Vals xs us->Vals (xs.drop n) (us.drop n)
 |_,_,0,r=>r
 |_,_,_+1,.nil=>.nil
 |_,_,n+1,.cons _ t=>Vals.drop n t
def fi:Option V->Option Value->Prop
 |some v,some u=>RelV v u
 |none,none=>True
 |_,_=>False
def KV{κ:Type}:List (κ×V)->List (κ×Value)->Prop:=Paired λ(p:κ×V) (q:κ×Value)=>p.1=q.1/\RelV p.2 q.2
def kV:Key->V
 |.inl i=>.int i
 |.inr x=>.str x
inductive HO where
 |lst (xs:List V)
 |tup (xs:List V)
 |dK (kvs:List (Key×V))|dT (kvs:List (List Key×V))
 |set (S:Int->Bool) (n:Nat)
 |ins (C dx:Addr) (fs:List (Str×V))
 |own (x:Addr)
 |xd (fs:List (Str×V))
 |met (f x:Addr)
 |rng (lo hi:Int)
 |frz (o:Obj) (u:HO)
 |tbl (ps:Array Value)
 |ext (φ:Heap->Prop)
abbrev Hp:=Addr->Option HO
def upd(H:Hp)(a:Addr)(o:HO):Hp:=λb=>if b=a then some o else H b
def ab{H:Hp}{a:Addr}{o:HO}:upd H a o a=some o:=by unfold upd;rw[if_pos rfl]
def ai{H:Hp}{a b:Addr}{o:HO}(h:b≠a):upd H a o b=H b:=by unfold upd;rw[if_neg h]
def aN{H:Hp}{a b:Addr}{o u:HO}(h:H a=some o)(h':H b=some u)(d:o≠u):a≠b:=by
 intro e;subst e;rw[h]at h';exact d (yV h')
def ak{H:Hp}{a b:Addr}{o:HO}(h:H a=some o)(h':H b=none):a≠b:=by
 intro e;subst e;rw[h]at h';cases h'
def vh(oc:Obj)(q:Str):Prop:=∃vs t,oc.data=.fields vs/\vs[1]?=some (.str q t)
def jb(pos:Pos)(q:Str):Array Value:=#[.str q pos.line,.str q pos.col]
def og(H:Hp)(h:Heap)(a:Addr)(ps:Array Value):Prop:=∃(pos:Pos) (q:Str) (qs:Array Value),ps=jb pos q/\h.get? a=some { cls:=.none,data:=.fields qs }/\TriplesOk qs.toList /\
 (codeAmong pos qs.toList=none\/∃c oc,codeAmong pos qs.toList=some (.ref c)/\H c=some (.frz oc (.own c))/\vh oc q)
section
variable (P:Program)(w:World)
def aY(H:Hp)(h:Heap)(a:Addr):HO->Prop
 |.lst xs=>xs.length<=sizeLine/\∃(its:List Value) (n:Nat),Vals xs its/\h.get? a=some { cls:=.type "list",data:=.seq its.toArray n }
 |.tup xs=>xs.length<=sizeLine/\∃its:List Value,Vals xs its/\IsTup h a its.toArray
 |.dK kvs=>kvs.length<=sizeLine/\(a==sysModules)=false/\∃vs,KV kvs vs/\h.DictOf (aR P w) a vs
 |.dT kvs=>kvs.length<=sizeLine/\(a==sysModules)=false/\∃xs:List (List Key×Addr×Value),
   Paired (λ(p:List Key×V) (q:List Key×Addr×Value)=>p.1=q.1/\H q.2.1=some (.tup (p.1.map kV))/\RelV p.2 q.2.2) kvs xs /\
   ∃o es ep,h.get? a=some o/\o.ExactDict/\o.data=.dict es ep/\es.toList=xs.map (entryOfKey (tupleKind (aR P w)))/\(xs.map (·.1)).Nodup
 |.set S n=>h.SetOf (intKind P w) a S n
 |.ins C dx fs=>H dx=some (.own a)/\fs.length<=1000/\dx≠a/\h.get? a=some (PySem.W.instObj C dx) /\
   ∃mA,h.Ns1 dx mA/\(∀f,fi (fs.lookup f) (mA f))/\PySem.Within mA (fs.map (·.1))
 |.own _=>∃o,h.get? a=some o
 |.xd fs=>∃mA,h.Ns1 a mA/\∀f,fi (fs.lookup f) (mA f)
 |.rng lo hi=>∃t u v,h.get? a=some { cls:=.type "range",data:=.fields #[.int lo t,.int hi u,.int 1 v] }
 |.frz o u=>h.get? a=some o/\aY H h a u
 |.tbl ps=>og H h a ps
 |.met f x=>h.get? a=some (PySem.W.methodObj (.ref f) (.ref x))
 |.ext φ=>φ h/\(∃o,h.get? a=some o)/\∀h1 h2:Heap,φ h1->(∀o,h1.get? a=some o->h2.get? a=some o)->φ h2
def fe(H:Hp)(h:Heap):Prop:=∀a o,H a=some o->aY P w H h a o
end
section
variable {P:Program}{w:World}{H H':Hp}{h h':Heap}{a:Addr}{o:HO}
theorem aY.lt(x:aY P w H h a o):a<h.objs.size:=by
 cases o with
 |lst xs=>obtain⟨_,_,_,_,e⟩:=x;exact yh e
 |tup xs=>obtain⟨_,_,_,p⟩:=x;exact p.lt
 |dK kvs=>obtain⟨_,_,_,_,o,_,_,e,_⟩:=x;exact yh e
 |dT kvs=>obtain⟨_,_,_,_,o,_,_,e,_⟩:=x;exact yh e
 |set S n=>obtain⟨o,_,_,_,e,_⟩:=x;exact yh e
 |ins C dx fs=>obtain⟨_,_,_,e,_⟩:=x;exact yh e
 |own y=>obtain⟨_,e⟩:=x;exact yh e
 |xd fs=>obtain⟨_,⟨_,_,_,e,_⟩,_⟩:=x;exact yh e
 |rng lo hi=>obtain⟨_,_,_,e⟩:=x;exact yh e
 |frz ob u=>obtain⟨e,_⟩:=x;exact yh e
 |tbl ps=>obtain⟨_,_,_,_,e,_⟩:=x;exact yh e
 |met f y=>exact yh (show h.get? a=some _ from x)
 |ext φ=>obtain⟨_,⟨_,e⟩,_⟩:=x;exact yh e
theorem Paired.dy{α β:Type}{F G:α->β->Prop}:∀{l₁:List α} {l₂:List β},Paired F l₁ l₂->(∀a b,F a b->G a b)->Paired G l₁ l₂
 |_,_,.nil,_=>.nil
 |_,_,.cons r t,f=>.cons (f _ _ r) (Paired.dy t f)
def aY.iZ(x:aY P w H h a o)(k:∀b u,(b=a\/H b=some (.own a))->h.get? b=some u->h'.get? b=some u)
  (ho:∀b,H b=some (.own a)->H' b=some (.own a)) (ht:∀b xs,H b=some (.tup xs)->H' b=some (.tup xs))
  (hf:∀b o u,H b=some (.frz o u)->(∃vs,o.data=.fields vs)->H' b=some (.frz o u):=by exactλ_ _ _ q _=>q):aY P w H' h' a o:=by
 induction o with
 |lst xs=>obtain⟨z,its,n,r,e⟩:=x;exact⟨z,its,n,r,k _ _ (.inl rfl) e⟩
 |tup xs=>obtain⟨z,its,r,ob,e,c⟩:=x;exact⟨z,its,r,ob,k _ _ (.inl rfl) e,c⟩
 |dK kvs=>obtain⟨z,y,vs,r,ob,es,ep,e,c⟩:=x;exact⟨z,y,vs,r,ob,es,ep,k _ _ (.inl rfl) e,c⟩
 |dT kvs =>
  obtain⟨z,y,xs,r,ob,es,ep,e,c⟩:=x
  exact⟨z,y,xs,Paired.dy r λp q z=>⟨z.1,ht _ _ z.2.1,z.2.2⟩,ob,es,ep,k _ _ (.inl rfl) e,c⟩
 |set S n=>obtain⟨ob,es,ep,t,e,c⟩:=x;exact⟨ob,es,ep,t,k _ _ (.inl rfl) e,c⟩
 |ins C dx fs =>
  obtain⟨d,z,ne,e,mA,⟨od,es,ep,e2,c⟩,r⟩:=x
  exact⟨ho _ d,z,ne,k _ _ (.inl rfl) e,mA,⟨od,es,ep,k _ _ (.inr d) e2,c⟩,r⟩
 |own y=>obtain⟨ob,e⟩:=x;exact⟨ob,k _ _ (.inl rfl) e⟩
 |xd fs=>obtain⟨mA,⟨od,es,ep,e,c⟩,r⟩:=x;exact⟨mA,⟨od,es,ep,k _ _ (.inl rfl) e,c⟩,r⟩
 |rng lo hi=>obtain⟨t,u,v,e⟩:=x;exact⟨t,u,v,k _ _ (.inl rfl) e⟩
 |frz ob u ih=>obtain⟨e,q⟩:=x;exact⟨k _ _ (.inl rfl) e,ih q⟩
 |tbl ps =>
  obtain⟨pos,q,qs,e1,e2,e3,e4⟩:=x
  exact⟨pos,q,qs,e1,k a _ (.inl rfl) e2,e3,e4.imp id λ⟨c,oc,a1,a2,a3⟩=>⟨c,oc,a1,hf _ _ _ a2 (let ⟨vs,_,d,_⟩:=a3;⟨vs,d⟩),a3⟩⟩
 |met f y =>
  have e:h.get? a=some (PySem.W.methodObj (.ref f) (.ref y)):=x
  show h'.get? a=some (PySem.W.methodObj (.ref f) (.ref y))
  exact k a _ (.inl rfl) e
 |ext φ=>obtain⟨p,⟨o,e⟩,st⟩:=x;exact⟨st _ _ p λo q=>k _ _ (.inl rfl) q,⟨o,k _ _ (.inl rfl) e⟩,st⟩
theorem fe.lt(x:fe P w H h)(e:H a=some o):a<h.objs.size:=(x a o e).lt
def fe.fresh(x:fe P w H h)(e:h.objs.size<=a):H a=none:=by
 cases q:H a with
 |none=>rfl
 |some u=>exact absurd (yD (x.lt q) e) (zc _)
def fe.kept(x:fe P w H h)(k:∀b u,h.get? b=some u->h'.get? b=some u):fe P w H h':=λa o e =>
 (x a o e).iZ (λb u _ q=>k b u q) (λ_ q=>q) λ_ _ q=>q
def fe.laid(x:fe P w H h)(k:∀b u,h.get? b=some u->h'.get? b=some u)(hp:h.objs.size<=a)(new:aY P w (upd H a o) h' a o):fe P w (upd H a o) h':=λb u e=>by
 have hn:=x.fresh hp
 by_cases hb:b=a
 ·subst hb;rw[ab]at e;cases e;exact new
 ·rw[ai hb]at e
  exact(x b u e).iZ (λc v _ q=>k c v q) (λc q=>by rw[ai (ak q hn)];exact q) (λc xs q=>by rw[ai (ak q hn)];exact q) λc _ _ q _=>by rw[ai (ak q hn)];exact q
end
def Rd(H:Hp)(a:Addr)(u:HO):Prop:=H a=some u\/∃o,H a=some (.frz o u)
def Rd.ok{P:Program}{w:World}{H:Hp}{h:Heap}{a:Addr}{u:HO}(r:Rd H a u)(x:fe P w H h):aY P w H h a u:=by
 rcases r with r|⟨o,r⟩
 ·exact x a u r
 ·obtain⟨_,q⟩:=x a _ r
  exact q
def wb:Option HO->Prop
 |some (.lst _)=>True
 |some (.dK _)=>True
 |some (.dT _)=>True
 |some (.set _ _)=>True
 |some (.ins _ _ _)=>True
 |some (.ext _)=>True
 |_=>False
section
variable {P:Program}{w:World}{H:Hp}{h h':Heap}{x e:Addr}{o':HO}
def fe.write(ok:fe P w H h)(mu:wb (H x))(he:e=x\/H e=some (.own x))(k:∀b u,b≠e->h.get? b=some u->h'.get? b=some u)(heo:∃u,h'.get? e=some u)
  (new:aY P w (upd H x o') h' x o'):fe P w (upd H x o') h':=λb u q=>by
 have nown:∀c y,H c=some (.own y)->c≠x:=λc y r z=>by subst z;rw[r]at mu;exact mu
 have ntup:∀c xs,H c=some (.tup xs)->c≠x:=λc xs r z=>by subst z;rw[r]at mu;exact mu
 by_cases hb:b=x
 ·subst hb;rw[ab]at q;cases q;exact new
 ·rw[ai hb]at q
  by_cases hbe:b=e
  ·have q':H b=some (.own x):=by
    rcases he with z|z
    ·exact absurd (hbe.trans z) hb
    ·rw[hbe];exact z
   rw[q]at q';cases q'
   obtain⟨v,hv⟩:=heo
   exact⟨v,by rw[hbe];exact hv⟩
  ·refine(ok b u q).iZ (λc v hc r=>k c v ?_ r) (λc r=>by rw[ai (nown c b r)];exact r) (λc xs r=>by rw[ai (ntup c xs r)];exact r) λc oo uu r _=>by rw[ai (λz=>by subst z;rw[r]at mu;exact mu)];exact r
   rcases hc with rfl|hc
   ·exact hbe
   ·rintro rfl
    rcases he with z|z
    ·exact nown c b hc z
    ·rw[hc]at z;cases z;exact hb rfl
end
structure Un(fs ex:List Addr)(H H':Hp)(h h':Heap):Prop where
 keep:∀b o,h.get? b=some o->H b=none->b∉fs->b∉ex->h'.get? b=some o
 slot:∀b o,h.get? b=some o->H b=none->b∈fs->b∉ex->∃sl,h'.get? b=some { o with slots:=sl }
 free:∀b o,h.get? b=some o->H b=none->b∉ex->H' b=none
 there:∀b o,h.get? b=some o->b∉ex->∃o',h'.get? b=some o'
 bR:∀b xs,H b=some (.tup xs)->H' b=some (.tup xs)
 frzs:∀b o u,H b=some (.frz o u)->H' b=some (.frz o u)
 tbls:∀b ps,H b=some (.tbl ps)->∃more,H' b=some (.tbl (ps++more))
section
variable {fs fs' ex ex':List Addr}{H H1 H2:Hp}{h h1 h2 h':Heap}{a x e:Addr}{o:HO}
def Un.any(u:Un fs ex H H1 h h1){b:Addr}{ob:Obj}(q:h.get? b=some ob)(n:H b=none)(hx:b∉ex):∃sl,h1.get? b=some { ob with slots:=sl }:=by
 by_cases hb:b∈fs
 ·exact u.slot b ob q n hb hx
 ·exact⟨ob.slots,u.keep b ob q n hb hx⟩
def Un.kept(k:∀b u,h.get? b=some u->h'.get? b=some u):Un fs ex H H h h' :=
 ⟨λb ob q _ _ _=>k b ob q,λb ob q _ _ _=>⟨ob.slots,k b ob q⟩,λ_ _ _ n _=>n,λb ob q _=>⟨ob,k b ob q⟩,λ_ _ q=>q,λ_ _ _ q=>q,λ_ ps q=>⟨#[],by rw[q];simp⟩⟩
def Un.refl:Un fs ex H H h h:=Un.kept λ_ _ q=>q
def Un.laid(k:∀b u,h.get? b=some u->h'.get? b=some u)(hp:h.objs.size<=a)(hn:H a=none):Un fs ex H (upd H a o) h h' where
 keep:=λb u q _ _ _=>k b u q
 slot:=λb u q _ _ _=>⟨u.slots,k b u q⟩
 free:=λb u q n _=>by rw[ai (yn (yD (yh q) hp))];exact n
 there:=λb u q _=>⟨u,k b u q⟩
 bR:=λb xs q=>by rw[ai (ak q hn)];exact q
 frzs:=λb u xs q=>by rw[ai (ak q hn)];exact q
 tbls:=λb ps q=>⟨#[],by rw[ai (ak q hn),q];simp⟩
def Un.write(mu:wb (H x))(he:e=x\/H e=some (.own x))(k:∀b u,b≠e->h.get? b=some u->h'.get? b=some u)(heo:∃u,h'.get? e=some u):Un fs ex H (upd H x o) h h':=by
 have hx:∀b,H b=none->b≠x:=λb n z=>by subst z;rw[n]at mu;exact mu
 have hb:∀b,H b=none->b≠e:=λb n z=>by
  subst z
  rcases he with r|r
  ·exact hx b n r
  ·rw[n]at r;cases r
 have hm:∀b u,H b=some u->¬wb (some u)->b≠x:=λb u q nm z=>by subst z;rw[q]at mu;exact nm mu
 refine⟨λb u q n _ _=>k b u (hb b n) q,λb u q n _ _=>⟨u.slots,k b u (hb b n) q⟩,λb u q n _=>by rw[ai (hx b n)];exact n,λb u q _=>?_,
  λb xs q=>by rw[ai (hm b _ q λz=>z)];exact q,λb u xs q=>by rw[ai (hm b _ q λz=>z)];exact q,λb ps q=>⟨#[],by rw[ai (hm b _ q λz=>z),q];simp⟩⟩
 by_cases hbe:b=e
 ·subst hbe;exact heo
 ·exact⟨u,k b u hbe q⟩
end
def wY(h:Heap)(H:Hp):List Addr:=(List.range h.objs.size).filter λa=>(H a).isSome
def jh(h:Heap)(H:Hp):Heap:=PySem.W.hideAll h (wY h H)
def pj(h:Heap)(H:Hp):(jh h H).objs.size=h.objs.size:=PySem.W.hideAll_size _ _
def qh{h:Heap}{H:Hp}{b:Addr}{o:Obj}(e:h.get? b=some o)(n:H b=none):(jh h H).get? b=some o :=
 PySem.W.hideAll_get _ e λhm=>by
  have q:(H b).isSome=true:=(zm.mp hm).2
  rw[n]at q;simp at q
def tp{h:Heap}{H:Hp}{b:Addr}{o:Obj}(e:(jh h H).get? b=some o):h.get? b=some o/\H b=none:=by
 have e':h.get? b=some o:=PySem.W.of_hideAll (wY h H) e
 refine⟨e',?_⟩
 cases q:H b with
 |none=>rfl
 |some x =>
  have hm:b∈wY h H:=zm.mpr ⟨Aj.mpr (yh e'),by simp[q]⟩
  have z:(jh h H).get? b=none:=PySem.W.hideAll_none (wY h H) hm
  rw[z]at e;cases e
end L2
namespace L2
open PySem PySem.Spec PyProof.Rows
structure Mod(K:PySem.W.Frag)(mg:Str->Option Value)(base:Heap):Prop where
 kin:K.In base
 glob:base.Ns mainGlobals mg
 blt:∃mb,base.Ns builtinsNs mb/\∀x:Str,x≠"__name__"->mb x=bootBuiltins x
 nolimit:base.NoLimit
structure Cx where
 prog:Program
 w:World
 K:PySem.W.Frag
 mg:Str->Option Value
 base:Heap
 A:Around
 N:List Str
 s₀:Shared
 H₀:Hp
 env:Env
 outer:List Env
 stack:List Env
 ex:List Addr
 fn:Str->Bool
 calm:Bool
 pn:List (Addr×Obj)
 xe:Value->Shared->Prop
def kj(l:List Env):List Addr:=l.filterMap (·.frame)
abbrev Cx.fs(X:Cx):List Addr:=kj X.outer
def vR(sc:Scope)(x:Str):Prop:=sc.names.lookup x=some .local\/sc.names.lookup x=some .cell\/sc.names.lookup x=some .free
def Loc(sc:Scope)(x:Str):Prop:=sc.names.lookup x=some .local\/sc.names.lookup x=some .cell
def Look(env:Env)(h:Heap)(m:Str->Option Value)(x:Str)(u:Value):Prop :=
 (env.kindOf x=some .local/\m x=some u)\/((env.kindOf x=some .cell\/env.kindOf x=some .free)/\∃c,env.cells.lookup x=some c/\h.IsCell c (some u))
structure Cx.Ok(X:Cx):Prop where
 mod:Mod X.K X.mg X.base
 kind:X.env.scope.kind=.function
 glob:X.env.globals=mainGlobals
 blt:X.env.builtins=builtinsNs
 above:X.s₀.heap.objs.size<=X.env.locals
 inj:∀x y c,X.env.cells.lookup x=some c->X.env.cells.lookup y=some c->x=y
 has:∀x,(X.env.kindOf x=some .cell\/X.env.kindOf x=some .free)->∃c,X.env.cells.lookup x=some c
 cab:∀x c,X.fn x=true->X.env.cells.lookup x=some c->X.s₀.heap.objs.size<=c
 hd:X.calm=true->X.A.handled=none
 frames:X.A.frames=some X.stack
 stk:X.stack=X.outer\/(X.stack=X.env::X.outer/\X.env.frame=some X.env.locals)
 exf:∀b∈X.ex,b≠X.env.locals/\∀x c,X.env.cells.lookup x=some c->c≠b
 bs:∀b o,X.base.get? b=some o->X.s₀.heap.get? b=some o/\X.H₀ b=none
 bsz:X.base.objs.size<=X.s₀.heap.objs.size
 noex:∀b o,X.base.get? b=some o->b∉X.ex
 exfs:∀b∈X.ex,b∉X.fs
 fj:X.s₀.heap.FunFrames X.base X.outer
 frf:∀b∈X.fs,X.H₀ b=none
structure Inv(X:Cx)(pins:List (Addr×Obj))(σ:List (Option V))(H:Hp)(s:Shared):Prop where
 ok:X.Ok
 os:s.os=X.s₀.os
 bare:AllBare s.gens
 base:Un X.fs X.ex X.H₀ H X.s₀.heap s.heap
 loc:∃m,s.heap.Ns X.env.locals m/\∀(i:Nat) (x:Str) (v:V),X.N[i]?=some x->σ[i]?=some (some v)->vR X.env.scope x->∃u,RelV v u/\Look X.env s.heap m x u
 cell:∀x c,X.env.cells.lookup x=some c->∃v,s.heap.IsCell c v
 free:H X.env.locals=none
 freeC:∀x c,X.env.cells.lookup x=some c->H c=none
 pin:∀p∈X.pn++pins,s.heap.get? p.1=some p.2/\H p.1=none/\p.1≠X.env.locals/\p.1∉X.fs/\∀v,p.2.data≠.cell v
 hok:fe X.prog X.w H s.heap
 len:σ.length=X.N.length
section
variable {X:Cx}{pins:List (Addr×Obj)}{σ:List (Option V)}{H H':Hp}{s:Shared}{h':Heap}
def Cx.Ok.xB(ok:X.Ok){b:Addr}{o:Obj}(e:X.base.get? b=some o):b∉X.fs:=λhb=>by
 have:=(ok.fj.mem hb).1
 rw[e]at this;cases this
theorem Inv.bs(I:Inv X pins σ H s):∀b o,X.base.get? b=some o->s.heap.get? b=some o/\H b=none:=λb o e =>
 ⟨I.base.keep b o (I.ok.bs b o e).1 (I.ok.bs b o e).2 (I.ok.xB e) (I.ok.noex b o e),I.base.free b o (I.ok.bs b o e).1 (I.ok.bs b o e).2 (I.ok.noex b o e)⟩
def Inv.bk(I:Inv X pins σ H s):∀b o,X.base.get? b=some o->s.heap.get? b=some o:=λb o e=>(I.bs b o e).1
theorem Inv.mod(I:Inv X pins σ H s):Mod X.K X.mg X.base:=I.ok.mod
def Inv.gB(I:Inv X pins σ H s):X.K.In s.heap:=I.ok.mod.kin.keeps I.bk
theorem Inv.lt(I:Inv X pins σ H s):X.env.locals<s.heap.objs.size:=let ⟨_,hn,_⟩:=I.loc;hn.lt
def Inv.sz(I:Inv X pins σ H s):X.s₀.heap.objs.size<=s.heap.objs.size:=yI I.ok.above (Ak I.lt)
def Inv.xI(I:Inv X pins σ H s){a:Addr}(h:s.heap.objs.size<=a):a∉X.fs:=λhb=>by
 obtain⟨_,o,ho,_⟩:=I.ok.fj.mem hb
 exact absurd (yD (yh ho) (yI I.sz h)) (zc _)
def Inv.ud(I:Inv X pins σ H s):∀x c,X.env.cells.lookup x=some c->c≠X.env.locals:=λx c e z=>by
 obtain⟨v,o,ho,hd⟩:=I.cell x c e
 obtain⟨m,⟨o',es,ep,ho',hd',_⟩,_⟩:=I.loc
 rw[z,ho']at ho;cases ho;rw[hd']at hd;cases hd
theorem Inv.fj(I:Inv X pins σ H s):s.heap.FunFrames X.base X.outer:=by
 have all:∀(l:List Env),(∀b∈kj l,b∈X.fs)->X.s₀.heap.FunFrames X.base l->s.heap.FunFrames X.base l:=by
  intro l
  induction l with
  |nil=>intro _ _;trivial
  |cons env r ih =>
   intro hs hl
   obtain⟨hk,⟨L,o,hf,hn,ho,hd⟩,hr⟩:=hl
   have hL:L∈X.fs:=hs L (by unfold kj;rw[List.filterMap_cons,hf];exact List.mem_cons_self)
   obtain⟨sl,e⟩:=I.base.slot L o ho (I.ok.frf L hL) hL λz=>I.ok.exfs L z hL
   exact⟨hk,⟨L,_,hf,hn,e,hd⟩,ih (λb hb=>hs b (by unfold kj;rw[List.filterMap_cons,hf];exact List.mem_cons_of_mem _ hb)) hr⟩
 exact all X.outer (λ_ hb=>hb) I.ok.fj
theorem Inv.stack(I:Inv X pins σ H s):s.heap.FunFrames X.base X.stack:=by
 rcases I.ok.stk with e|⟨e,hf⟩
 ·rw[e];exact I.fj
 ·rw[e]
  obtain⟨m,hn,_⟩:=I.loc
  refine .cons (by rw[I.ok.kind];decide) hf hn ?_ I.fj
  exact Heap.get?_none_of_le (yI I.ok.bsz I.ok.above)
def Inv.jZ(I:Inv X pins σ H s):∀b∈kj X.stack,b∈X.env.locals::X.fs:=λb hb=>by
 rcases I.ok.stk with e|⟨e,hf⟩
 ·rw[e]at hb;exact yM _ hb
 ·rw[e]at hb
  unfold kj at hb
  rw[List.filterMap_cons,hf]at hb
  exact hb
def Inv.oq(I:Inv X pins σ H s):∀b∈kj X.stack,H b=none:=λb hb=>by
 rcases yr.mp (I.jZ b hb) with e|hb
 ·rw[e];exact I.free
 ·obtain⟨_,o,ho,_⟩:=I.ok.fj.mem hb
  exact I.base.free b o ho (I.ok.frf b hb) λz=>I.ok.exfs b z hb
def Inv.step{g':Array GenState}{t':Nat}{d':Drawn}{ch:List Addr}(I:Inv X pins σ H s)
  (hch:∀b∈ch,(b∈X.ex\/X.s₀.heap.objs.size<=b)/\b≠X.env.locals/\(∀x c,X.env.cells.lookup x=some c->c≠b)/\∀p∈X.pn++pins,p.1≠b)
  (keep:∀b o,b≠X.env.locals->b∉X.fs->b∉ch->s.heap.get? b=some o->H b=none->h'.get? b=some o)
  (slot:∀b o,b≠X.env.locals->b∈X.fs->b∉ch->s.heap.get? b=some o->H b=none->∃sl,h'.get? b=some { o with slots:=sl }) (free:∀b o,b∉ch->s.heap.get? b=some o->H b=none->H' b=none)
  (there:∀b o,b∉ch->s.heap.get? b=some o->∃o',h'.get? b=some o')
  (bR:∀b xs,H b=some (.tup xs)->H' b=some (.tup xs)) (frzs:∀b o u,H b=some (.frz o u)->H' b=some (.frz o u)) (tbls:∀b ps,H b=some (.tbl ps)->∃more,H' b=some (.tbl (ps++more)))
  (ns:∀m,s.heap.Ns X.env.locals m->h'.Ns X.env.locals m) (hok:fe X.prog X.w H' h') (hg:AllBare g') :
  Inv X pins σ H' { s with heap:=h',gens:=g',drawn:=d',toks:=t' }:=by
 have neL:∀b o,X.s₀.heap.get? b=some o->b≠X.env.locals:=λb o e=>yn (yD (yh e) I.ok.above)
 have neC:∀b o,X.s₀.heap.get? b=some o->b∉X.ex->b∉ch:=λb o e hx hb=>by
  rcases(hch b hb).1 with z|z
  ·exact hx z
  ·exact absurd (yD (yh e) z) (zc _)
 have cellK:∀x c,X.env.cells.lookup x=some c->∀v,s.heap.IsCell c v->h'.IsCell c v:=λx c e v ⟨o,ho,hd⟩=>by
  have nch:c∉ch:=λz=>(hch c z).2.2.1 x c e rfl
  by_cases hc:c∈X.fs
  ·obtain⟨sl,q⟩:=slot c o (I.ud x c e) hc nch ho (I.freeC x c e)
   exact⟨_,q,hd⟩
  ·exact⟨o,keep c o (I.ud x c e) hc nch ho (I.freeC x c e),hd⟩
 refine⟨I.ok,I.os,hg,⟨λb o e n hb hx=>?_,λb o e n hb hx=>?_,λb o e n hx=>?_,λb o e hx=>?_,λb xs e=>bR b xs (I.base.bR b xs e),λb o xs e=>frzs b o xs (I.base.frzs b o xs e),λb ps e=>?_⟩,?_,λx c e=>?_,?_,λx c e=>?_,λp hp=>?_,hok,I.len⟩
 ·exact keep b o (neL b o e) hb (neC b o e hx) (I.base.keep b o e n hb hx) (I.base.free b o e n hx)
 ·obtain⟨sl,e1⟩:=I.base.slot b o e n hb hx
  obtain⟨sl',e2⟩:=slot b _ (neL b o e) hb (neC b o e hx) e1 (I.base.free b o e n hx)
  exact⟨sl',e2⟩
 ·obtain⟨o',e1⟩:=I.base.there b o e hx
  exact free b o' (neC b o e hx) e1 (I.base.free b o e n hx)
 ·obtain⟨o',e1⟩:=I.base.there b o e hx
  exact there b o' (neC b o e hx) e1
 ·obtain⟨m1,e1⟩:=I.base.tbls b ps e
  obtain⟨m2,e2⟩:=tbls b _ e1
  exact⟨m1++m2,by rw[e2,Array.append_assoc]⟩
 ·obtain⟨m,hn,hl⟩:=I.loc
  refine⟨m,ns m hn,λi x v e1 e2 e3=>?_⟩
  obtain⟨u,r,l⟩:=hl i x v e1 e2 e3
  refine⟨u,r,?_⟩
  rcases l with l|⟨k,c,e,z⟩
  ·exact .inl l
  ·exact .inr ⟨k,c,e,cellK x c e _ z⟩
 ·obtain⟨v,z⟩:=I.cell x c e
  exact⟨v,cellK x c e v z⟩
 ·obtain⟨m,⟨o,_,_,ho,_⟩,_⟩:=I.loc
  exact free _ o (λz=>(hch _ z).2.1 rfl) ho I.free
 ·obtain⟨v,o,ho,hd⟩:=I.cell x c e
  exact free c o (λz=>(hch c z).2.2.1 x c e rfl) ho (I.freeC x c e)
 ·obtain⟨e,n,ne,nf,d⟩:=I.pin p hp
  have nch:p.1∉ch:=λz=>(hch p.1 z).2.2.2 p hp rfl
  exact⟨keep p.1 p.2 ne nf nch e n,free p.1 p.2 nch e n,ne,nf,d⟩
def Inv.un{t':Nat}(I:Inv X pins σ H s)(u:Un X.fs [] H H' s.heap h')(hok:fe X.prog X.w H' h'):Inv X pins σ H' { s with heap:=h',toks:=t' }:=by
 obtain⟨m,⟨o,es,ep,ho,r⟩,_⟩:=id I.loc
 obtain⟨sl,hL⟩:=u.any ho I.free (by simp)
 exact I.step (g':=s.gens) (d':=s.drawn) (ch:=[]) (λ_ z=>nomatch z) (λb o _ hb _ e n=>u.keep b o e n hb (by simp)) (λb o _ hb _ e n=>u.slot b o e n hb (by simp)) (λb o _ e n=>u.free b o e n (by simp)) (λb o _ e=>u.there b o e (by simp)) u.bR u.frzs u.tbls (λm' hm=>by
  obtain⟨o',es',ep',ho',r'⟩:=hm
  rw[ho]at ho';cases ho'
  exact⟨_,es',ep',hL,r'⟩) hok I.bare
def Inv.call{g':Array GenState}{t':Nat}{d':Drawn}{ch:List Addr}(I:Inv X pins σ H s)(u:Un (kj X.stack) ch H H' s.heap h')(hok:fe X.prog X.w H' h')(hg:AllBare g')
  (hch:∀b∈ch,(b∈X.ex\/X.s₀.heap.objs.size<=b)/\b≠X.env.locals/\(∀x c,X.env.cells.lookup x=some c->c≠b)/\∀p∈X.pn++pins,p.1≠b) :
  Inv X pins σ H' { s with heap:=h',gens:=g',drawn:=d',toks:=t' }:=by
 obtain⟨m,⟨o,es,ep,ho,r⟩,_⟩:=id I.loc
 obtain⟨sl,hL⟩:=u.any ho I.free λz=>(hch _ z).2.1 rfl
 exact I.step (ch:=ch) hch (λb o hL hb hc e n=>u.keep b o e n (λz=>(yr.mp (I.jZ b z)).elim hL hb) hc) (λb o _ _ hc e n=>u.any e n hc) (λb o hc e n=>u.free b o e n hc) (λb o hc e=>u.there b o e hc) u.bR u.frzs u.tbls (λm' hm=>by
  obtain⟨o',es',ep',ho',r'⟩:=hm
  rw[ho]at ho';cases ho'
  exact⟨_,es',ep',hL,r'⟩) hok hg
def Inv.turned{t':Nat}{it:Addr}(I:Inv X pins σ H s)(k:∀b o,b≠it->s.heap.get? b=some o->h'.get? b=some o)(hn:H it=none)(hL:it≠X.env.locals)
  (h1:it∈X.ex\/X.s₀.heap.objs.size<=it) (h2:∀x c,X.env.cells.lookup x=some c->c≠it) (h3:∀p∈X.pn++pins,p.1≠it):Inv X pins σ H { s with heap:=h',toks:=t' }:=by
 have nit:∀b u,H b=some u->b≠it:=λb u e z=>by rw[z,hn]at e;cases e
 refine I.step (g':=s.gens) (d':=s.drawn) (ch:=[it]) (λb hb=>?_) (λb o _ _ hc e _=>k b o (λz=>hc (by simp[z])) e) (λb o _ _ hc e _=>⟨o.slots,k b o (λz=>hc (by simp[z])) e⟩) (λ_ _ _ _ n=>n)
  (λb o hc e=>⟨o,k b o (λz=>hc (by simp[z])) e⟩) (λ_ _ e=>e) (λ_ _ _ e=>e) (λb ps e=>⟨#[],by rw[e];simp⟩) (λm hm=>?_) (λb u e=>?_) I.bare
 ·have e:b=it:=by simpa using hb
  subst e
  exact⟨h1,hL,h2,h3⟩
 ·obtain⟨o,es,ep,ho,r⟩:=hm
  exact⟨o,es,ep,k _ o (Ac hL) ho,r⟩
 ·refine(I.hok b u e).iZ (λc v hc q=>k c v ?_ q) (λ_ q=>q) λ_ _ q=>q
  rcases hc with z|z
  ·rw[z];exact nit b u e
  ·exact nit c _ z
def Inv.tok(I:Inv X pins σ H s)(t:Nat):Inv X pins σ H { s with toks:=t }:=I.un (h':=s.heap) (t':=t) Un.refl I.hok
theorem Inv.kept{t':Nat}(I:Inv X pins σ H s)(k:∀b u,s.heap.get? b=some u->h'.get? b=some u):Inv X pins σ H { s with heap:=h',toks:=t' }:=I.un (Un.kept k) (I.hok.kept k)
theorem Inv.laid{a:Addr}{o:HO}{t':Nat}(I:Inv X pins σ H s)(k:∀b u,s.heap.get? b=some u->h'.get? b=some u)(hp:s.heap.objs.size<=a)(new:aY X.prog X.w (upd H a o) h' a o) :
  Inv X pins σ (upd H a o) { s with heap:=h',toks:=t' }:=I.un (Un.laid k hp (I.hok.fresh hp)) (I.hok.laid k hp new)
theorem Inv.write{x e:Addr}{o:HO}{t':Nat}(I:Inv X pins σ H s)(mu:wb (H x))(he:e=x\/H e=some (.own x))(k:∀b u,b≠e->s.heap.get? b=some u->h'.get? b=some u)(heo:∃u,h'.get? e=some u)
  (new:aY X.prog X.w (upd H x o) h' x o):Inv X pins σ (upd H x o) { s with heap:=h',toks:=t' }:=I.un (Un.write mu he k heo) (I.hok.write mu he k heo new)
def Inv.oF{pins':List (Addr×Obj)}(I:Inv X pins σ H s)(h:∀p∈pins',s.heap.get? p.1=some p.2/\H p.1=none/\p.1≠X.env.locals/\p.1∉X.fs/\∀v,p.2.data≠.cell v):Inv X pins' σ H s :=
 ⟨I.ok,I.os,I.bare,I.base,I.loc,I.cell,I.free,I.freeC,λp hp=>(yo.mp hp).elim (λz=>I.pin p (yU _ z)) (h p),I.hok,I.len⟩
def lF{N:List Str}(hN:N.Nodup){i j:Nat}{x:Str}(a:N[i]?=some x)(b:N[j]?=some x):i=j:=by
 obtain⟨h1,e1⟩:=yz.mp a
 obtain⟨h2,e2⟩:=yz.mp b
 exact(Bh hN).mp (e1.trans e2.symm)
def jr{M:Model}{A:Around}{E:Value->Shared->Prop}{i:Nat}{x:Str}{v:V}{u:Value}{Q:Unit->Shared->Prop}(I:Inv X pins σ H s)(hN:X.N.Nodup)(hi:X.N[i]?=some x)(hx:Loc X.env.scope x)(r:RelV v u)
  (h:∀s',Inv X pins (σ.set i (some v)) H s'->(∃a,Heap.SameBut a s.heap s'.heap/\(a=X.env.locals\/X.env.cells.lookup x=some a))->Q () s') (hf:X.fn x=true\/X.env.scope.names.lookup x=some .local:=by first|exact .inl rfl|exact .inr rfl|assumption):wpAny M A (storeName X.env x u) Q E s:=by
 obtain⟨m,hn,hl⟩:=id I.loc
 have hcls:(X.env.scope.kind==.class || (X.env.scope.kind==.module&&X.env.locals != X.env.globals))=false:=by rw[I.ok.kind];rfl
 have hiσ:i<σ.length:=by rw[I.len];exact(yz.mp hi).1
 have ud:=I.ud
 have tracked:∀{a:Addr} {h':Heap},(∃o,s.heap.get? a=some o/\H a=none)->Heap.SameBut a s.heap h'->fe X.prog X.w H h':=λ{a h'} ha hs b ob e=>by
  obtain⟨_,_,hfree⟩:=ha
  refine(I.hok b ob e).iZ (λc w' hc q=>(hs.2 c ?_).trans q) (λ_ q=>q) λ_ _ q=>q
  rintro rfl
  rcases hc with rfl|hc
  ·rw[hfree]at e;cases e
  ·rw[hfree]at hc;cases hc
 rcases hx with hk|hk
 ·refine wpAny_storeName_local hk hn (λh' hn' hs=>?_) hcls
  obtain⟨oL,_,_,hoL,_⟩:=id hn
  refine h _ ⟨I.ok,I.os,I.bare,⟨λb o e n hb hx=>?_,λb o e n hb hx=>?_,I.base.free,λb o e hx=>?_,I.base.bR,I.base.frzs,I.base.tbls⟩,⟨_,hn',λj y v' e1 e2 e3=>?_⟩,λy c e=>?_,I.free,I.freeC,λp hp=>?_,tracked ⟨oL,hoL,I.free⟩ hs,by simpa using I.len⟩ ⟨_,hs,.inl rfl⟩
  ·exact(hs.2 b (yn (yD (yh e) I.ok.above))).trans (I.base.keep b o e n hb hx)
  ·obtain⟨sl,e1⟩:=I.base.slot b o e n hb hx
   exact⟨sl,(hs.2 b (yn (yD (yh e) I.ok.above))).trans e1⟩
  ·obtain⟨o',e1⟩:=I.base.there b o e hx
   exact⟨o',(hs.2 b (yn (yD (yh e) I.ok.above))).trans e1⟩
  ·by_cases hj:j=i
   ·subst hj
    rw[hi]at e1;cases e1
    rw[Bx hiσ]at e2
    cases e2
    exact⟨u,r,.inl ⟨hk,by simp⟩⟩
   ·rw[BK (Ac hj)]at e2
    obtain⟨u',r',q⟩:=hl j y v' e1 e2 e3
    refine⟨u',r',?_⟩
    rcases q with⟨k,e⟩|⟨k,c,e,z⟩
    ·refine .inl ⟨k,?_⟩
     have:y≠x:=λe=>hj (lF hN e1 (e ▸ hi))
     simp[this,e]
    ·exact .inr ⟨k,c,e,z.sameBut hs (ud y c e)⟩
  ·obtain⟨w',z⟩:=I.cell y c e
   exact⟨w',z.sameBut hs (ud y c e)⟩
  ·obtain⟨e,n,ne,nf,d⟩:=I.pin p hp
   exact⟨(hs.2 p.1 ne).trans e,n,ne,nf,d⟩
 ·have hfn:X.fn x=true:=by
   rcases hf with z|z
   ·exact z
   ·rw[z]at hk;cases hk
  obtain⟨c,hc⟩:=I.ok.has x (.inl hk)
  obtain⟨w',z⟩:=I.cell x c hc
  refine wpAny_storeName_cell I.ok.kind hk hc z (λh' hc' hs=>?_)
  obtain⟨oc,hoc,hocd⟩:=id z
  refine h { s with heap:=h' } ⟨I.ok,I.os,I.bare,⟨λb o e n hb hx=>?_,λb o e n hb hx=>?_,I.base.free,λb o e hx=>?_,I.base.bR,I.base.frzs,I.base.tbls⟩,⟨m,hn.sameBut hs (Ac (ud x c hc)),λj y v' e1 e2 e3=>?_⟩,λy c' e=>?_,I.free,I.freeC,λp hp=>?_,tracked ⟨oc,hoc,I.freeC x c hc⟩ hs,by simpa using I.len⟩ ⟨c,hs,.inr hc⟩
  ·exact(hs.2 b (yn (yD (yh e) (I.ok.cab x c hfn hc)))).trans (I.base.keep b o e n hb hx)
  ·obtain⟨sl,e1⟩:=I.base.slot b o e n hb hx
   exact⟨sl,(hs.2 b (yn (yD (yh e) (I.ok.cab x c hfn hc)))).trans e1⟩
  ·obtain⟨o',e1⟩:=I.base.there b o e hx
   exact⟨o',(hs.2 b (yn (yD (yh e) (I.ok.cab x c hfn hc)))).trans e1⟩
  ·by_cases hj:j=i
   ·subst hj
    rw[hi]at e1;cases e1
    rw[Bx hiσ]at e2
    cases e2
    exact⟨u,r,.inr ⟨.inl hk,c,hc,hc'⟩⟩
   ·rw[BK (Ac hj)]at e2
    obtain⟨u',r',q⟩:=hl j y v' e1 e2 e3
    refine⟨u',r',?_⟩
    rcases q with q|⟨k,c',e,z'⟩
    ·exact .inl q
    ·refine .inr ⟨k,c',e,z'.sameBut hs ?_⟩
     rintro rfl
     exact hj (lF hN e1 (I.ok.inj _ _ _ e hc ▸ hi))
  ·by_cases hcc:c'=c
   ·subst hcc;exact⟨_,hc'⟩
   ·obtain⟨w2,z2⟩:=I.cell y c' e
    exact⟨w2,z2.sameBut hs hcc⟩
  ·obtain⟨e,n,ne,nf,d⟩:=I.pin p hp
   refine⟨(hs.2 p.1 ?_).trans e,n,ne,nf,d⟩
   intro q
   rw[q,hoc]at e
   have q':oc=p.2:=yV e
   exact d w' (by rw[<-q'];exact hocd)
def kW{M:Model}{A:Around}{E:Value->Shared->Prop}{i:Nat}{x:Str}{v:V}{u:Value}{Q:Unit->Shared->Prop}(I:Inv X pins σ H s)(hN:X.N.Nodup)(hi:X.N[i]?=some x)(hx:Loc X.env.scope x)(r:RelV v u)
  (h:∀s',Inv X pins (σ.set i (some v)) H s'->Q () s') (hf:X.fn x=true\/X.env.scope.names.lookup x=some .local:=by first|exact .inl rfl|exact .inr rfl|assumption):wpAny M A (storeName X.env x u) Q E s :=
 jr I hN hi hx r (λs' I' _=>h s' I') hf
def Inv.wH{s':Shared}{ch:List Addr}(I:Inv X pins σ H s)(ho:s'.os=s.os)(u:Un (kj X.stack) ch H H' s.heap s'.heap)(hok:fe X.prog X.w H' s'.heap)(hg:AllBare s'.gens)
  (hch:∀b∈ch,(b∈X.ex\/X.s₀.heap.objs.size<=b)/\b≠X.env.locals/\(∀x c,X.env.cells.lookup x=some c->c≠b)/\∀p∈X.pn++pins,p.1≠b):Inv X pins σ H' s':=by
 obtain⟨h',g',d',t',o'⟩:=s'
 have e:o'=s.os:=ho
 subst e
 exact I.call (g':=g') (t':=t') (d':=d') u hok hg hch
end
abbrev XK:=Value->Option Addr->Hp->Prop
abbrev St:=List (Option V)
abbrev VK:=V->Hp->Prop
abbrev TE:=St->Hp->VK->Prop
abbrev TT:=St->Hp->(Bool->Hp->Prop)->Prop
abbrev TA:=St->Hp->(List V->Hp->Prop)->Prop
structure Ends where
 nx:St->Hp->Prop
 rt:VK
 bk:St->Hp->Prop:=λ_ _=>False
 ct:St->Hp->Prop:=λ_ _=>False
abbrev TS:=Ends->St->Hp->Prop
def EP(X:Cx)(pins:List (Addr×Obj))(σ:St)(Q:VK)(u:Value)(s':Shared):Prop:=∃v H',Inv X pins σ H' s'/\RelV v u/\Q v H'
def TP(X:Cx)(pins:List (Addr×Obj))(σ:St)(Q:Bool->Hp->Prop)(b:Bool)(s':Shared):Prop:=∃H',Inv X pins σ H' s'/\Q b H'
def AP(X:Cx)(pins:List (Addr×Obj))(σ:St)(Q:List V->Hp->Prop)(us:List Value)(s':Shared):Prop:=∃vs H',Inv X pins σ H' s'/\Vals vs us/\Q vs H'
def SP(X:Cx)(pins:List (Addr×Obj))(D:Ends)(f:Flow)(s':Shared):Prop :=
 match f with
 |.next=>∃σ' H',Inv X pins σ' H' s'/\D.nx σ' H'
 |.brk=>∃σ' H',Inv X pins σ' H' s'/\D.bk σ' H'
 |.cont=>∃σ' H',Inv X pins σ' H' s'/\D.ct σ' H'
 |.ret u=>∃v σ' H',Inv X pins σ' H' s'/\RelV v u/\D.rt v H'
def PE(X:Cx)(e:Expr)(t:TE):Prop :=
 ∀(pins:List (Addr×Obj)) (s:Shared) (σ:St) (H:Hp) (Q:VK),Inv X pins σ H s->t σ H Q->wpAny (model X.prog X.w) X.A (eval e X.env) (EP X pins σ Q) X.xe s
def PT(X:Cx)(e:Expr)(t:TT):Prop :=
 ∀(pins:List (Addr×Obj)) (s:Shared) (σ:St) (H:Hp) (Q:Bool->Hp->Prop),Inv X pins σ H s->t σ H Q->wpAny (model X.prog X.w) X.A (isTrue e X.env (eval e X.env)) (TP X pins σ Q) X.xe s
def PW(X:Cx)(e:Expr)(t:TT):Prop :=
 ∀(whole:Sem Value) (pins:List (Addr×Obj)) (s:Shared) (σ:St) (H:Hp) (Q:Bool->Hp->Prop),Inv X pins σ H s->t σ H Q->wpAny (model X.prog X.w) X.A (isTrue e X.env whole) (TP X pins σ Q) X.xe s
def PW.pt{X:Cx}{e:Expr}{t:TT}(h:PW X e t):PT X e t:=h _
def PA(X:Cx)(es:List Expr)(t:TA):Prop :=
 ∀(pos:Pos) (pins:List (Addr×Obj)) (s:Shared) (σ:St) (H:Hp) (Q:List V->Hp->Prop),Inv X pins σ H s->t σ H Q->wpAny (model X.prog X.w) X.A (spliced (backTo pos (starEach es X.env))) (AP X pins σ Q) X.xe s
def PS(X:Cx)(st:Stmt)(t:TS):Prop :=
 ∀(pins:List (Addr×Obj)) (s:Shared) (σ:St) (H:Hp) (D:Ends),Inv X pins σ H s->t D σ H->wpAny (model X.prog X.w) X.A (exec st X.env) (SP X pins D) X.xe s
def mm(X:Cx)(st:List Stmt)(t:TS):Prop :=
 ∀(pins:List (Addr×Obj)) (s:Shared) (σ:St) (H:Hp) (D:Ends),Inv X pins σ H s->t D σ H->wpAny (model X.prog X.w) X.A (execs st X.env) (SP X pins D) X.xe s
def a6{α:Type}{t:Sem α}{Q Q':α->Shared->Prop}{M:Model}{A:Around}{E:Value->Shared->Prop}{s:Shared}(h:wpAny M A t Q E s)(hQ:∀a s,Q a s->Q' a s):wpAny M A t Q' E s:=zv h hQ λ_ _ x=>x
end L2
namespace L2
open PySem PySem.Spec PyProof.Rows
section
variable {X:Cx}
def vM(i:Nat):TE:=λσ H Q=>∃v,σ[i]?=some (some v)/\Q v H
def tC(v:V):TE:=λ_ H Q=>Q v H
def qM{i:Nat}{x:Str}{pos:Pos}(hN:X.N[i]?=some x)(hv:vR X.env.scope x)(hd:(x==("__debug__":Str))=false:=by decide)(hcd:(x==("__classdict__":Str))=false:=by decide):PE X (.Name x pos) (vM i):=by
 intro pins s σ H Q I h
 obtain⟨v,e,h⟩:=h
 obtain⟨m,hn,hl⟩:=I.loc
 obtain⟨u,r,l⟩:=hl i x v hN e hv
 have fin:EP X pins σ Q u s:=⟨v,H,I,r,h⟩
 rcases l with⟨hk,hm⟩|⟨hk,c,hc,hcell⟩
 ·exact Bd (wpAny_loadName_local I.ok.kind hk hn hm fin) hd
 ·rcases hk with hk|hk
  ·exact Bd (wpAny_loadName_cell I.ok.kind hk hc hcell fin) hd
  ·exact Bd (wpAny_loadName_free I.ok.kind hk hc hcell fin hcd) hd
def aj{i j pos}:PE X (.Constant (.int i) j pos) (tC (.int i)):=λ_ _ _ H _ I h=>wpAny_Constant_int ⟨.int i,H,I.tok _,⟨_,rfl⟩,h⟩
def hE{b j pos}:PE X (.Constant (.bool b) j pos) (tC (.bl b)):=λ_ _ _ H _ I h=>Constant_bool ⟨.bl b,H,I,rfl,h⟩
def kb{j pos}:PE X (.Constant .none j pos) (tC .non):=λ_ _ _ H _ I h=>Constant_none ⟨.non,H,I,rfl,h⟩
def ba{x j pos}:PE X (.Constant (.str x) j pos) (tC (.str x)):=λ_ _ _ H _ I h=>Calls.Constant_str ⟨.str x,H,I.tok _,⟨_,rfl⟩,h⟩
def Gl(X:Cx)(x:Str):Prop:=X.env.kindOf x=some .globalImplicit
def ig{E:Value->Shared->Prop}{pins:List (Addr×Obj)}{s:Shared}{σ:St}{H:Hp}{x:Str}{u:Value}{pos:Pos}{Q:Value->Shared->Prop}(I:Inv X pins σ H s)(hg:Gl X x)(hm:X.mg x=some u)(h:Q u s)
  (hd:(x==("__debug__":Str))=false:=by decide):wpAny (model X.prog X.w) X.A (eval (.Name x pos) X.env) Q E s :=
 Au I.ok.kind hg (Bp (by rw[I.ok.glob];exact I.mod.glob.keeps I.bk) hm h) hd
def fO{E:Value->Shared->Prop}{pins:List (Addr×Obj)}{s:Shared}{σ:St}{H:Hp}{x:Str}{u:Value}{pos:Pos}{Q:Value->Shared->Prop}(I:Inv X pins σ H s)(hg:Gl X x)(hm:X.mg x=none)(hv:bootBuiltins x=some u)(h:Q u s)
  (hn:x≠"__name__":=by decide) (hd:(x==("__debug__":Str))=false:=by decide):wpAny (model X.prog X.w) X.A (eval (.Name x pos) X.env) Q E s:=by
 obtain⟨mb,h1,h2⟩:=I.mod.blt
 exact Au I.ok.kind hg (Calls.loadGlobal_builtin (by rw[I.ok.glob];exact I.mod.glob.keeps I.bk) hm (by rw[I.ok.blt];exact h1.keeps I.bk) ((h2 x hn).trans hv) h) hd
def eD{x:Str}{v:V}{u:Value}{pos:Pos}(hg:Gl X x)(hm:X.mg x=some u)(r:RelV v u)(hd:(x==("__debug__":Str))=false:=by decide):PE X (.Name x pos) (tC v) :=
 λ_ _ _ H _ I h=>ig I hg hm ⟨v,H,I,r,h⟩ hd
def oy{x:Str}{v:V}{u:Value}{pos:Pos}(hg:Gl X x)(hm:X.mg x=none)(hv:bootBuiltins x=some u)(r:RelV v u)(hn:x≠"__name__":=by decide)(hd:(x==("__debug__":Str))=false:=by decide):PE X (.Name x pos) (tC v) :=
 λ_ _ _ H _ I h=>fO I hg hm hv ⟨v,H,I,r,h⟩ hn hd
variable {a b:Expr}{ta tb:TE}{pos:Pos}
def PC(X:Cx)(op:CmpOp)(a b:Expr)(t:TE):Prop :=
 ∀(pins:List (Addr×Obj)) (s:Shared) (σ:St) (H:Hp) (Q:VK),Inv X pins σ H s->t σ H Q ->
  wpAny (model X.prog X.w) X.A (eval a X.env) (λv s₁=>wpAny (model X.prog X.w) X.A (eval b X.env) (λu s₂=>wpAny (model X.prog X.w) X.A (compareOp op v u) (EP X pins σ Q) X.xe s₂) X.xe s₁) X.xe s
def kE(b:Expr){op:CmpOp}(h:op≠.In)(h2:op≠.NotIn):behindInMarks op b=false:=by
 have e1:(op==CmpOp.In)=false:=by cases op <;> first|rfl|exact absurd rfl h
 have e2:(op==CmpOp.NotIn)=false:=by cases op <;> first|rfl|exact absurd rfl h2
 cases b <;> simp[behindInMarks,e1,e2]
def xq(ta:TE):TE:=λσ H Q=>ta σ H λx H1=>Q (.bl (decide (x=.non))) H1
def vJ(ta:TE):TE:=λσ H Q=>ta σ H λx H1=>Q (.bl (!decide (x=.non))) H1
def RelV.mh{x:V}{v:Value}(r:RelV x v):(v==Value.none)=decide (x=.non):=by
 cases x with
 |non=>cases r;rfl
 |bl _=>cases r;rfl
 |int _=>obtain⟨t,rfl⟩:=r;rfl
 |str _=>obtain⟨t,rfl⟩:=r;rfl
 |byt _=>obtain⟨t,rfl⟩:=r;rfl
 |flt _=>obtain⟨t,rfl⟩:=r;rfl
 |ref _=>cases r;rfl
 |ty _=>cases r;rfl
def nE{j pos'}(ha:PE X a ta):PC X .Is a (.Constant .none j pos') (xq ta):=by
 intro pins s σ H Q I h
 refine a6 (ha pins s σ H _ I h) λv s1 hZ=>?_
 obtain⟨x,H1,I1,r1,q1⟩:=hZ
 exact Constant_none (is_none_gen ⟨.bl _,H1,I1,by rw[r1.mh];rfl,q1⟩)
def oB{j pos'}(ha:PE X a ta):PC X .IsNot a (.Constant .none j pos') (vJ ta):=by
 intro pins s σ H Q I h
 refine a6 (ha pins s σ H _ I h) λv s1 hZ=>?_
 obtain⟨x,H1,I1,r1,q1⟩:=hZ
 exact Constant_none (isnot_none_gen ⟨.bl _,H1,I1,by rw[r1.mh];rfl,q1⟩)
def tB(t:TE):TT:=λσ H Q=>t σ H λx H1=>∃c,x=.bl c/\Q c H1
def qX{op:CmpOp}{t:TE}(h:PC X op a b t)(h1:behindInMarks op b=false:=by first|exact kE _ (by decide) (by decide)|rfl):PE X (.Compare a [op] [b] pos) t:=λpins s σ H Q I hw=>wpAny_Compare1 (h pins s σ H Q I hw) h1
def fR{op:CmpOp}{t:TE}(h:PC X op a b t)(h1:behindInMarks op b=false:=by first|exact kE _ (by decide) (by decide)|rfl):PT X (.Compare a [op] [b] pos) (tB t):=by
 intro pins s σ H Q I hw
 refine wpAny_isTrue_Compare1 (a6 (h pins s σ H _ I hw) λv s1 h1=>a6 h1 λu s2 h2=>a6 h2 λc s3 ⟨x,H1,I1,r1,q1⟩=>?_) h1
 obtain⟨d,rfl,q⟩:=q1
 cases r1
 exact zd ⟨H1,I1,q⟩
def cv{e:Expr}{t:TE}(h:PE X e t)(he:∀whole,isTrue e X.env whole=(do let v <-whole;standAt e.pos;holding [v] (truthy v)):=by intro _;rfl):PT X e (tB t):=by
 intro pins s σ H Q I hw
 refine isTrue_plain (a6 (h pins s σ H _ I hw) λv s1 ⟨x,H1,I1,r1,q1⟩=>?_) (he _)
 obtain⟨d,rfl,q⟩:=q1
 cases r1
 exact zd ⟨H1,I1,q⟩
variable {tA tB':TT}{rest:List Expr}
def w5(t u:TT):TT:=λσ H Q=>t σ H λc H1=>if c=true then u σ H1 Q else Q false H1
def tOr(t u:TT):TT:=λσ H Q=>t σ H λc H1=>if c=true then Q true H1 else u σ H1 Q
def xb(t:TT):TT:=λσ H Q=>t σ H λc H1=>Q (!c) H1
def pw_and1(ha:PT X a tA):PW X (.BoolOp .And [a] pos) tA:=by
 intro wh pins s σ H Q I h
 refine isTrue_and (a6 (ha pins s σ H Q I h) λc s1 e=>?_)
 cases c with
 |true=>exact isTrue_and_nil e
 |false=>exact e
def pw_or1(ha:PT X a tA):PW X (.BoolOp .Or [a] pos) tA:=by
 intro wh pins s σ H Q I h
 refine isTrue_or (a6 (ha pins s σ H Q I h) λc s1 e=>?_)
 cases c with
 |false=>exact isTrue_or_nil e
 |true=>exact e
def pw_and(ha:PT X a tA)(hb:PW X (.BoolOp .And (b::rest) pos) tB'):PW X (.BoolOp .And (a::b::rest) pos) (w5 tA tB'):=by
 intro wh pins s σ H Q I h
 refine isTrue_and (a6 (ha pins s σ H _ I h) λc s1 hZ=>?_)
 obtain⟨H1,I1,q1⟩:=hZ
 cases c with
 |true=>exact hb wh pins s1 σ H1 Q I1 q1
 |false=>exact⟨H1,I1,q1⟩
def pw_or(ha:PT X a tA)(hb:PW X (.BoolOp .Or (b::rest) pos) tB'):PW X (.BoolOp .Or (a::b::rest) pos) (tOr tA tB'):=by
 intro wh pins s σ H Q I h
 refine isTrue_or (a6 (ha pins s σ H _ I h) λc s1 hZ=>?_)
 obtain⟨H1,I1,q1⟩:=hZ
 cases c with
 |true=>exact⟨H1,I1,q1⟩
 |false=>exact hb wh pins s1 σ H1 Q I1 q1
def cy(ha:PT X a tA):PT X (.UnaryOp .Not a pos) (xb tA):=by
 intro pins s σ H Q I h
 exact isTrue_not (ha pins s σ H (λc H1=>Q (!c) H1) I h)
def vP(ta tb:TE):TE:=λσ H Q=>ta σ H λx H1=>∃c,x=.bl c/\if c=true then tb σ H1 Q else Q (.bl false) H1
def jS{op}{t:TE}(h:PE X a t):PE X (.BoolOp op [a] pos) t:=λpins s σ H Q I hw=>BoolOp_one (h pins s σ H Q I hw)
def ke(ha:PE X a ta)(hb:PE X (.BoolOp .And (b::rest) pos) tb):PE X (.BoolOp .And (a::b::rest) pos) (vP ta tb):=by
 intro pins s σ H Q I h
 refine BoolOp_and (a6 (ha pins s σ H _ I h) λv s1 hZ=>?_)
 obtain⟨x,H1,I1,r1,q1⟩:=hZ
 obtain⟨c,rfl,q1⟩:=q1
 cases r1
 refine zd ?_
 cases c with
 |true=>exact hb pins s1 σ H1 Q I1 q1
 |false=>exact⟨.bl false,H1,I1,rfl,q1⟩
end
end L2
namespace L2
open PySem PySem.Spec PyProof.Rows
def aA(K:PySem.W.Frag)(H:Hp)(a:Addr)(xs:List V):Prop :=
 Rd H a (.lst xs) \/
  ∃(o:Obj) (its:Array Value) (n:Nat),K.lookup a=some o/\o.cls=.type "list"/\o.dict=none/\o.data=.seq its n/\its.size<=sizeLine/\Vals xs its.toList
def cY(K:PySem.W.Frag)(H:Hp)(a:Addr)(xs:List V):Prop :=
 Rd H a (.tup xs) \/
  ∃(o:Obj) (its:Array Value) (n:Nat),K.lookup a=some o/\o.cls=.type "tuple"/\o.data=.seq its n/\its.size<=sizeLine/\Vals xs its.toList
def xU:Value->Option V
 |.none=>some .non
 |.bool b=>some (.bl b)
 |.int i _=>some (.int i)
 |.str x _=>some (.str x)
 |.bytes b _=>some (.byt b)
 |.float b _=>some (.flt b)
 |.ref a=>some (.ref a)
 |.type n=>some (.ty n)
 |_=>none
def RelV.abs{x:V}{u:Value}(r:RelV x u):xU u=some x:=by
 cases x with
 |non=>cases r;rfl
 |bl _=>cases r;rfl
 |int _=>obtain⟨t,rfl⟩:=r;rfl
 |str _=>obtain⟨t,rfl⟩:=r;rfl
 |byt _=>obtain⟨t,rfl⟩:=r;rfl
 |flt _=>obtain⟨t,rfl⟩:=r;rfl
 |ref _=>cases r;rfl
 |ty _=>cases r;rfl
theorem RelV.inj{x y:V}{u:Value}(r:RelV x u)(q:RelV y u):x=y:=yV (r.abs.symm.trans q.abs)
theorem Vals.inj:∀{xs ys:List V} {us:List Value},Vals xs us->Vals ys us->xs=ys
 |_,_,_,.nil,.nil=>rfl
 |_,_,_,.cons r t,.cons r' t'=>by rw[r.inj r',Vals.inj t t']
section
variable {X:Cx}{pins:List (Addr×Obj)}{σ:St}{H:Hp}{s:Shared}{a:Addr}{xs ys:List V}
def aA.of{K:PySem.W.Frag}(h:H a=some (.lst xs)):aA K H a xs:=.inl (.inl h)
def cY.of{K:PySem.W.Frag}(h:H a=some (.tup xs)):cY K H a xs:=.inl (.inl h)
def Inv.list(I:Inv X pins σ H s)(h:aA X.K H a xs):∃its:List Value,Vals xs its/\PlainL s.heap a its.toArray/\xs.length<=sizeLine:=by
 rcases h with h|⟨o,its,n,hk,hc,hd,hs,hz,r⟩
 ·obtain⟨z,its,n,r,e⟩:=h.ok I.hok
  exact⟨its,r,⟨_,n,e,rfl,rfl,rfl⟩,z⟩
 ·refine⟨its.toList,r,⟨o,n,I.gB a o hk,hc,hd,by simpa using hs⟩,?_⟩
  have e:=r.length
  simp only[zB]at e
  lia
def Inv.tuple(I:Inv X pins σ H s)(h:cY X.K H a xs):∃its:List Value,Vals xs its/\IsTup s.heap a its.toArray/\xs.length<=sizeLine:=by
 rcases h with h|⟨o,its,n,hk,hc,hs,hz,r⟩
 ·obtain⟨z,its,r,p⟩:=h.ok I.hok
  exact⟨its,r,p,z⟩
 ·refine⟨its.toList,r,⟨o,I.gB a o hk,hc,n,by simpa using hs⟩,?_⟩
  have e:=r.length
  simp only[zB]at e
  lia
def Inv.k5(I:Inv X pins σ H s)(h:aA X.K H a xs)(h':aA X.K H a ys):xs=ys:=by
 obtain⟨its,r,⟨o,n,e,_,_,d⟩,_⟩:=I.list h
 obtain⟨its',r',⟨o',n',e',_,_,d'⟩,_⟩:=I.list h'
 rw[e]at e';cases e'
 rw[d]at d'
 injection d' with d1 _
 have:its=its':=by simpa using zw Array.toList d1
 subst this
 exact r.inj r'
def Inv.pN(I:Inv X pins σ H s)(h:cY X.K H a xs)(h':cY X.K H a ys):xs=ys:=by
 obtain⟨its,r,⟨o,e,_,n,d⟩,_⟩:=I.tuple h
 obtain⟨its',r',⟨o',e',_,n',d'⟩,_⟩:=I.tuple h'
 rw[e]at e';cases e'
 rw[d]at d'
 injection d' with d1 _
 have:its=its':=by simpa using zw Array.toList d1
 subst this
 exact r.inj r'
end
abbrev Cx.cM(X:Cx)(E:Value->Shared->Prop):Cx:={ X with xe:=E }
abbrev Cx.eE(X:Cx):Cx:=X.cM λ_ _=>False
theorem Cx.Ok.cM{X:Cx}(ok:X.Ok)(E:Value->Shared->Prop):(X.cM E).Ok :=
 ⟨ok.mod,ok.kind,ok.glob,ok.blt,ok.above,ok.inj,ok.has,ok.cab,ok.hd,ok.frames,ok.stk,ok.exf,ok.bs,ok.bsz,ok.noex,ok.exfs,ok.fj,ok.frf⟩
def Cx.Ok.eR{X:Cx}{E:Value->Shared->Prop}(ok:(X.cM E).Ok):X.Ok :=
 ⟨ok.mod,ok.kind,ok.glob,ok.blt,ok.above,ok.inj,ok.has,ok.cab,ok.hd,ok.frames,ok.stk,ok.exf,ok.bs,ok.bsz,ok.noex,ok.exfs,ok.fj,ok.frf⟩
section
variable {X:Cx}{pins:List (Addr×Obj)}{σ:St}{H:Hp}{s:Shared}{E:Value->Shared->Prop}
theorem Inv.cM(I:Inv X pins σ H s)(E:Value->Shared->Prop):Inv (X.cM E) pins σ H s:=⟨I.ok.cM E,I.os,I.bare,I.base,I.loc,I.cell,I.free,I.freeC,I.pin,I.hok,I.len⟩
theorem Inv.eR(I:Inv (X.cM E) pins σ H s):Inv X pins σ H s:=⟨I.ok.eR,I.os,I.bare,I.base,I.loc,I.cell,I.free,I.freeC,I.pin,I.hok,I.len⟩
theorem SP.eR{D:Ends}{f:Flow}{s':Shared}(h:SP (X.cM E) pins D f s'):SP X pins D f s':=by
 cases f with
 |next=>obtain⟨σ',H',I,q⟩:=h;exact⟨σ',H',I.eR,q⟩
 |brk=>obtain⟨σ',H',I,q⟩:=h;exact⟨σ',H',I.eR,q⟩
 |cont=>obtain⟨σ',H',I,q⟩:=h;exact⟨σ',H',I.eR,q⟩
 |ret u=>obtain⟨v,σ',H',I,r,q⟩:=h;exact⟨v,σ',H',I.eR,r,q⟩
theorem mm.eE{st:List Stmt}{t:TS}(h:mm X.eE st t):mm X st t:=λpins s σ H D I hw =>
 zv (h pins s σ H D (I.cM _) hw) (λ_ _ q=>q.eR) λ_ _ z=>False.elim z
end
section
variable {X:Cx}{st:Stmt}{rest:List Stmt}{t u:TS}{e:Expr}{te:TE}{pos:Pos}
def wq:TS:=λD σ H=>D.nx σ H
def vk(t u:TS):TS:=λD σ H=>t { D with nx:=u D } σ H
def aK:mm X [] wq:=λ_ _ σ H _ I h=>AS ⟨σ,H,I,h⟩
def af(h1:PS X st t)(h2:mm X rest u):mm X (st::rest) (vk t u):=by
 intro pins s σ H D I h
 refine wpAny_execs_cons (a6 (h1 pins s σ H { D with nx:=u D } I h) λf s1 q=>?_)
 cases f with
 |next =>
  obtain⟨σ',H',I',q⟩:=q
  exact h2 pins s1 σ' H' D I' q
 |ret v=>exact q
 |brk=>exact q
 |cont=>exact q
def ao(h1:PS X st t):mm X [st] t:=by
 intro pins s σ H D I h
 refine wpAny_execs_cons (a6 (h1 pins s σ H D I h) λf s1 q=>?_)
 cases f with
 |next=>exact AS q
 |ret v=>exact q
 |brk=>exact q
 |cont=>exact q
def Inv.quiet{pins:List (Addr×Obj)}{σ:St}{H:Hp}{s:Shared}(I:Inv X pins σ H s):interactive X.env=false:=by simp[interactive,I.ok.kind]
def vK(te:TE):TS:=λD σ H=>te σ H λ_ H1=>D.nx σ H1
def bN(he:PE X e te)(hs:swapsWith e none pos.line X.env=pure false:=by rfl):PS X (.Expr e pos) (vK te):=by
 intro pins s σ H D I h
 exact wpAny_Expr_any (a6 (he pins s σ H _ I h) λv s1 ⟨x,H1,I1,r1,q1⟩=>⟨σ,H1,I1,q1⟩) I.quiet hs
def xH(te:TE):TS:=λD σ H=>te σ H D.rt
def aB(he:PE X e te):PS X (.Return (some e) pos) (xH te):=by
 intro pins s σ H D I h
 exact wpAny_Return_some (a6 (he pins s σ H _ I h) λv s1 ⟨x,H1,I1,r1,q1⟩=>⟨x,σ,H1,I1,r1,q1⟩)
def vX(c:TT)(t u:TS):TS:=λD σ H=>c σ H λb H1=>if b=true then t D σ H1 else u D σ H1
def br{c:Expr}{a b:List Stmt}{tc:TT}(hc:PT X c tc)(ha:mm X a t)(hb:mm X b u):PS X (.If c a b pos) (vX tc t u):=by
 intro pins s σ H D I h
 refine wpAny_If (a6 (hc pins s σ H _ I h) λd s1 hZ=>?_)
 obtain⟨H1,I1,q1⟩:=hZ
 cases d with
 |true=>exact ha pins s1 σ H1 D I1 q1
 |false=>exact hb pins s1 σ H1 D I1 q1
def vj:TS:=λ_ _ _=>False
def jI{sts:List Stmt}:mm X sts vj:=λ_ _ _ _ _ _ h=>h.elim
end
abbrev TG:=V->St->Hp->(St->Hp->Prop)->Prop
abbrev uO:=List V->St->Hp->(St->Hp->Prop)->Prop
def PG(X:Cx)(target:Expr)(t:TG):Prop :=
 ∀(pins:List (Addr×Obj)) (s:Shared) (σ:St) (H:Hp) (v:V) (u:Value) (Q:St->Hp->Prop),Inv X pins σ H s->RelV v u->t v σ H Q ->
  wpAny (model X.prog X.w) X.A (assign target X.env u) (λ_ s'=>∃σ' H',Inv X pins σ' H' s'/\Q σ' H') X.xe s
def wW(X:Cx)(ts:List Expr)(t:uO):Prop :=
 ∀(pins:List (Addr×Obj)) (s:Shared) (σ:St) (H:Hp) (vs:List V) (us:List Value) (Q:St->Hp->Prop),Inv X pins σ H s->Vals vs us->t vs σ H Q ->
  wpAny (model X.prog X.w) X.A (assignInOrder ((assignEach ts X.env).map (·.2)) us) (λ_ s'=>∃σ' H',Inv X pins σ' H' s'/\Q σ' H') X.xe s
section
variable {X:Cx}{pos:Pos}
def iH(i:Nat):TG:=λv σ H Q=>Q (σ.set i (some v)) H
def nN{i:Nat}{x:Str}(hN:X.N.Nodup)(hi:X.N[i]?=some x)(hx:Loc X.env.scope x)(hf:X.fn x=true\/X.env.scope.names.lookup x=some .local:=by first|exact .inl rfl|exact .inr rfl|assumption):PG X (.Name x pos) (iH i):=by
 intro pins s σ H v u Q I r h
 exact wpAny_assign_Name (kW I hN hi hx r (λs' I'=>⟨_,H,I',h⟩) hf)
def xj:uO:=λvs σ H Q=>vs=[]/\Q σ H
def wd(t:TG)(u:uO):uO:=λvs σ H Q=>∃v r,vs=v::r/\t v σ H λσ' H'=>u r σ' H' Q
def cI:wW X [] xj:=by
 intro pins s σ H vs us Q I r h
 obtain⟨e,h⟩:=h
 subst e
 cases r
 exact assignInOrder_nil ⟨σ,H,I,h⟩
def aF{e:Expr}{es:List Expr}{t:TG}{u:uO}(h1:PG X e t)(h2:wW X es u)
  (hs:(assignEach (e::es) X.env).map (·.2)=assign e X.env::(assignEach es X.env).map (·.2):=by rfl):wW X (e::es) (wd t u):=by
 intro pins s σ H vs us Q I r h
 obtain⟨v,vr,e1,h⟩:=h
 subst e1
 cases r with
 |cons r rr =>
  rw[hs]
  refine assignInOrder_cons (a6 (h1 pins s σ H _ _ _ I r h) λ_ s1 hZ=>?_)
  obtain⟨σ1,H1,I1,q1⟩:=hZ
  exact h2 pins s1 σ1 H1 _ _ Q I1 rr q1
def xc(K:PySem.W.Frag)(n:Nat)(t:uO):TG:=λv σ H Q=>∃a xs,v=.ref a/\cY K H a xs/\xs.length=n/\t xs σ H Q
def dP{es:List Expr}{k:Nat}{t:uO}{n:Nat}(hc:X.calm=true)(h:wW X es t)
  (hn:(assignEach es X.env).length=n:=by rfl) (hst:(assignEach es X.env).findIdx? (·.1)=none:=by rfl):PG X (.Tuple es k pos) (xc X.K n t):=by
 intro pins s σ H v u Q I r hw
 obtain⟨a,xs,e1,hq,hl,hw⟩:=hw
 subst e1
 cases r
 obtain⟨its,rv,ht,hz⟩:=I.tuple hq
 refine assign_Tuple_tuple (I.ok.hd hc) ht (by simp[hn,<-hl,rv.length]) hst λh' hx=>?_
 have I1:Inv X pins σ H { s with heap:=h' }:=I.kept (t':=s.toks) λb o e=>hx b o (yn (yh e)) e
 exact h pins _ σ H xs _ Q I1 (by simpa using rv) hw
def rY(te:TE)(g:TG):TS:=λD σ H=>te σ H λx H1=>g x σ H1 D.nx
def j9{tg e:Expr}{te:TE}{g:TG}(he:PE X e te)(hg:PG X tg g)(hs:swapsWithSole [tg] e pos.line X.env=pure false:=by rfl)(hw:swappedStores [tg] e X.env=pure none:=by rfl)
  (h1:(assignEach [tg] X.env).map (·.2)=[assign tg X.env]:=by rfl):PS X (.Assign [tg] e pos) (rY te g):=by
 intro pins s σ H D I h
 refine wpAny_Assign_stores (a6 (he pins s σ H _ I h) λv s1 ⟨x,H1,I1,r1,q1⟩=>?_) hs hw
 rw[h1]
 exact a6 (hg pins s1 σ H1 x v _ I1 r1 q1) λ_ s2 q=>q
def vq{i:Nat}{x:Str}{e:Expr}{te:TE}{pos':Pos}(hN:X.N.Nodup)(hi:X.N[i]?=some x)(hx:Loc X.env.scope x)(he:PE X e te)(hs:swapsWith e (some (.Name x pos')) pos.line X.env=pure false:=by rfl)(hf:X.fn x=true\/X.env.scope.names.lookup x=some .local:=by first|exact .inl rfl|exact .inr rfl|assumption) :
  PS X (.Assign [.Name x pos'] e pos) (rY te (iH i)):=by
 intro pins s σ H D I h
 refine wpAny_Assign_Name (a6 (he pins s σ H _ I h) λv s1 ⟨y,H1,I1,r1,q1⟩=>?_) hs
 exact kW I1 hN hi hx r1 (λs2 I2=>⟨_,H1,I2,q1⟩) hf
end
section
variable {X:Cx}{pos:Pos}
def vC(c:TT)(tb:TS):TS:=λD σ H=>∃W:Nat->St->Hp->Prop,(∃m,W m σ H)/\∀m σ H,W m σ H ->
 c σ H λb H1=>if b=true then ∃N:St->Hp->Prop,(∀σ' H',N σ' H'->∃m',m'<m/\W m' σ' H')/\tb { D with nx:=N,ct:=N,bk:=D.nx } σ H1 else D.nx σ H1
def gy{c:Expr}{body:List Stmt}{tc:TT}{tb:TS}(hp:PassesOwn (model X.prog X.w) X.A X.env X.xe)(hc:PT X c tc)(hb:mm X body tb):PS X (.While c body [] pos) (vC tc tb):=by
 intro pins s σ H D I h
 obtain⟨W,⟨m0,w0⟩,turn⟩:=h
 refine wpAny_While (codeAny_whileLoop (λn s'=>∃σ' H',Inv X pins σ' H' s'/\W n σ' H') ?_ m0 ⟨σ,H,I,w0⟩)
 rintro n s1 ⟨σ1,H1,I1,w1⟩
 refine zO hp (a6 (hc pins s1 σ1 H1 _ I1 (turn n σ1 H1 w1)) λb s2 hZ=>?_)
 obtain⟨H2,I2,q2⟩:=hZ
 cases b with
 |true =>
  obtain⟨N,hN,q2⟩:=q2
  rw[yF rfl]
  refine zO hp (a6 (hb pins s2 σ1 H2 _ I2 q2) λf s3 q3=>?_)
  cases f with
  |next =>
   obtain⟨σ3,H3,I3,n3⟩:=q3
   obtain⟨m',hm,w3⟩:=hN σ3 H3 n3
   exact⟨m',hm,σ3,H3,I3,w3⟩
  |cont =>
   obtain⟨σ3,H3,I3,n3⟩:=q3
   obtain⟨m',hm,w3⟩:=hN σ3 H3 n3
   exact⟨m',hm,σ3,H3,I3,w3⟩
  |brk=>exact q3
  |ret v=>exact q3
 |false =>
  rw[yt yv]
  exact AS ⟨σ1,H2,I2,q2⟩
end
structure It where
 go:Nat->Hp->Prop
 yld:Nat->Hp->V->Hp->Prop
 stop:Nat->Hp->Prop
def eQ(X:Cx)(pins:List (Addr×Obj))(H:Hp)(b:Addr):Prop :=
 H b=none/\b≠X.env.locals/\b∉X.fs/\(b∈X.ex\/X.s₀.heap.objs.size<=b)/\(∀x c,X.env.cells.lookup x=some c->c≠b)/\∀p∈X.pn++pins,p.1≠b
def Inv.pH{X:Cx}{pins:List (Addr×Obj)}{σ:St}{H H':Hp}{s:Shared}{b:Addr}(I:Inv X pins σ H s)(hb:s.heap.objs.size<=b)(hn:H' b=none):eQ X pins H' b:=by
 refine⟨hn,zW (yD I.lt hb),I.xI hb,.inr (yI I.sz hb),λx c e z=>?_,λp hp z=>?_⟩
 ·obtain⟨v,q⟩:=I.cell x c e
  exact absurd (yD q.lt (by rw[z];exact hb)) (zc _)
 ·exact absurd (yD (yh (I.pin p hp).1) (by rw[z];exact hb)) (zc _)
structure Turn(P:Program)(w:World)(K:PySem.W.Frag)(tg:Expr)(J:It)(fp:List Addr)(it:Addr)(tn:Nat->Heap->Prop):Prop where
 mem:it∈fp
 obj:∀i h,tn i h->∀b∈fp,∃o,h.get? b=some o/\∀v,o.data≠.cell v
 keep:∀i h h',tn i h->(∀b∈fp,∀o,h.get? b=some o->h'.get? b=some o)->tn i h'
 item:∀(X:Cx),X.prog=P->X.w=w->X.K=K->X.calm=true->∀(i:Nat) (pins:List (Addr×Obj)) (s:Shared) (σ:St) (H:Hp) (E:Value->Shared->Prop),Inv X pins σ H s->(∀b∈fp,eQ X pins H b)->tn i s.heap->J.go i H ->
  wpAny (model P w) X.A (pyNext (.ref it)) (λr s1=>∃u,r=some u /\
   wpAny (model P w) X.A (letOwnedTupleGo tg (.ref it) u) (λ_ s2=>∃x H',Inv X pins σ H' s2/\RelV x u/\J.yld i H x H'/\tn (i+1) s2.heap/\∀b∈fp,H' b=none) E s1) E s
 done:∀(X:Cx),X.prog=P->X.w=w->X.K=K->X.calm=true->∀(i:Nat) (pins:List (Addr×Obj)) (s:Shared) (σ:St) (H:Hp) (E:Value->Shared->Prop),Inv X pins σ H s->(∀b∈fp,eQ X pins H b)->tn i s.heap->J.stop i H ->
  wpAny (model P w) X.A (pyNext (.ref it)) (λr s1=>r=none/\Inv X pins σ H s1) E s
 self:∀(A:Around) (i:Nat) (s:Shared) (Q:Value->Shared->Prop) (E:Value->Shared->Prop),tn i s.heap->Q (.ref it) s->wpAny (model P w) A (pyIter (.ref it)) Q E s
abbrev TI:=St->Hp->(It->Hp->Prop)->Prop
def PIE(X:Cx)(pins:List (Addr×Obj))(σ:St)(tg:Expr)(R:It->Hp->Prop)(itv:Value)(s2:Shared):Prop :=
 ∃(it:Addr) (fp:List Addr) (tn:Nat->Heap->Prop) (J:It) (H':Hp),itv=.ref it/\Inv X pins σ H' s2/\Turn X.prog X.w X.K tg J fp it tn/\tn 0 s2.heap/\(∀b∈fp,eQ X pins H' b)/\R J H'
def PI(X:Cx)(tg iter:Expr)(wi:TI):Prop :=
 ∀(pins:List (Addr×Obj)) (s:Shared) (σ:St) (H:Hp) (R:It->Hp->Prop),Inv X pins σ H s->wi σ H R ->
  wpAny (model X.prog X.w) X.A (eval iter X.env) (λv s1=>wpAny (model X.prog X.w) X.A (pyIter v) (PIE X pins σ tg R) X.xe s1) X.xe s
def kL{M:Model}{A:Around}{E:Value->Shared->Prop}{s:Shared}{tg:Expr}{it:Addr}{u:Value}{o:Obj}{n:String}{vs:Array Value}{Q:Unit->Shared->Prop}(ho:s.heap.get? it=some o)(hc:o.cls=.type n)(hd:o.data=.fields vs)
    (hn:["enumerate", "zip", "dict_itemiterator", "dict_reverseitemiterator", "odict_iterator", "itertools.zip_longest", "itertools.pairwise"].contains n=false) (hQ:Q () s):wpAny M A (letOwnedTupleGo tg (.ref it) u) Q E s:=by
  unfold letOwnedTupleGo
  cases tg <;> first
    |exact yj hQ
    |(cases u <;> first
        |exact yj hQ
        | (refine yd (wpAny_load ho ?_)
           rw[hc,hd]
           show wpAny M A (if (["enumerate", "zip", "dict_itemiterator", "dict_reverseitemiterator", "odict_iterator", "itertools.zip_longest", "itertools.pairwise"].contains n&&vs[0]?==some (rawInt _))=true then _ else _) Q E s
           rw[yt (by intro h;rw[hn,Bool.false_and]at h;cases h)]
           exact yj hQ))
def vF(K:PySem.W.Frag)(a:Addr):It :=
 ⟨λi H=>∃xs x,aA K H a xs/\xs[i]?=some x,λi H x H'=>H'=H/\∀xs,aA K H a xs->xs[i]?=some x,λi H=>∃xs,aA K H a xs/\xs.length<=i⟩
def xg(K:PySem.W.Frag)(a:Addr):It :=
 ⟨λi H=>∃xs x,cY K H a xs/\xs[i]?=some x,λi H x H'=>H'=H/\∀xs,cY K H a xs->xs[i]?=some x,λi H=>∃xs,cY K H a xs/\xs.length<=i⟩
def vG(lo:Int)(n:Nat):It:=⟨λi _=>i<n,λi H x H'=>H'=H/\x=.int (lo+i),λi _=>n<=i⟩
def pe{P:Program}{w:World}{K:PySem.W.Frag}{tg:Expr}(a it:Addr):Turn P w K tg (vF K a) [it] it (λi h=>h.IsListIter it a i) where
 mem:=by simp
 obj:=λi h st b hb=>by
  have e:b=it:=by simpa using hb
  subst e
  obtain⟨o,e,c,d⟩:=st
  exact⟨o,e,λv z=>by rw[d]at z;cases z⟩
 keep:=λi h h' st k=>st.at λo e=>k it (by simp) o e
 item:=by
  intro X hP hw hK hc i pins s σ H E I hf st hg
  subst hP hw hK
  obtain⟨xs,x,hq,hx⟩:=hg
  obtain⟨its,rv,p,hz⟩:=I.list hq
  obtain⟨u,hu,ru⟩:=rv.get hx
  obtain⟨f0,f1,f2,f3,f4,f5⟩:=hf it (by simp)
  refine wpAny_pyNext_list_item st p.isList (x:=u) (by simpa using hu) λh' st' sb=>?_
  have I1:Inv X pins σ H { s with heap:=h' }:=I.turned (t':=s.toks) (λb o hb e=>(sb.2 b hb).trans e) f0 f1 f3 f4 f5
  obtain⟨o,e,c,d⟩:=id st'
  exact⟨u,rfl,kL (s:={ s with heap:=h' }) e c d (by decide) ⟨x,H,I1,ru,⟨rfl,λys hy=>by rw[I.k5 hy hq];exact hx⟩,st',λb hb=>(hf b hb).1⟩⟩
 done:=by
  intro X hP hw hK hc i pins s σ H E I hf st hg
  subst hP hw hK
  obtain⟨xs,hq,hx⟩:=hg
  obtain⟨its,rv,p,hz⟩:=I.list hq
  obtain⟨f0,f1,f2,f3,f4,f5⟩:=hf it (by simp)
  have hl:=rv.length
  exact wpAny_pyNext_list_end (I.ok.hd hc) st p.isList (by simp;lia) λh' eb=>⟨rfl,I.turned (t':=s.toks) (λb o hb e=>eb b o hb e) f0 f1 f3 f4 f5⟩
 self:=λ_ _ _ _ _ st h=>wpAny_pyIter_listiter st h
def mM{P:Program}{w:World}{K:PySem.W.Frag}{tg:Expr}(a it:Addr):Turn P w K tg (xg K a) [it] it (λi h=>h.IsTupleIter it a i) where
 mem:=by simp
 obj:=λi h st b hb=>by
  have e:b=it:=by simpa using hb
  subst e
  obtain⟨o,e,c,d⟩:=st
  exact⟨o,e,λv z=>by rw[d]at z;cases z⟩
 keep:=λi h h' st k=>st.at λo e=>k it (by simp) o e
 item:=by
  intro X hP hw hK hc i pins s σ H E I hf st hg
  subst hP hw hK
  obtain⟨xs,x,hq,hx⟩:=hg
  obtain⟨its,rv,p,hz⟩:=I.tuple hq
  obtain⟨u,hu,ru⟩:=rv.get hx
  obtain⟨f0,f1,f2,f3,f4,f5⟩:=hf it (by simp)
  refine wpAny_pyNext_tuple_item st (show s.heap.IsTuple a its.toArray from p) (x:=u) (by simpa using hu) λh' st' sb=>?_
  have I1:Inv X pins σ H { s with heap:=h' }:=I.turned (t':=s.toks) (λb o hb e=>(sb.2 b hb).trans e) f0 f1 f3 f4 f5
  obtain⟨o,e,c,d⟩:=id st'
  exact⟨u,rfl,kL (s:={ s with heap:=h' }) e c d (by decide) ⟨x,H,I1,ru,⟨rfl,λys hy=>by rw[I.pN hy hq];exact hx⟩,st',λb hb=>(hf b hb).1⟩⟩
 done:=by
  intro X hP hw hK hc i pins s σ H E I hf st hg
  subst hP hw hK
  obtain⟨xs,hq,hx⟩:=hg
  obtain⟨its,rv,p,hz⟩:=I.tuple hq
  obtain⟨f0,f1,f2,f3,f4,f5⟩:=hf it (by simp)
  have hl:=rv.length
  exact wpAny_pyNext_tuple_end (I.ok.hd hc) st (show s.heap.IsTuple a its.toArray from p) (by simp;lia) λh' eb=>⟨rfl,I.turned (t':=s.toks) (λb o hb e=>eb b o hb e) f0 f1 f3 f4 f5⟩
 self:=λ_ _ _ _ _ st h=>wpAny_pyIter_tupleiter st h
def mz{P:Program}{w:World}{K:PySem.W.Frag}{tg:Expr}(it:Addr)(lo:Int)(n:Nat):Turn P w K tg (vG lo n) [it] it (λi h=>IsRangeIter h it (lo+(i:Nat)*1) ((n:Int)-(i:Nat)) 1) where
 mem:=by simp
 obj:=λi h st b hb=>by
  have e:b=it:=by simpa using hb
  subst e
  exact⟨_,st,λv z=>by
   have z':Data.fields _=Data.cell v:=z
   cases z'⟩
 keep:=λi h h' st k=>k it (by simp) _ st
 item:=by
  intro X hP hw hK hc i pins s σ H E I hf st hg
  subst hP hw hK
  obtain⟨f0,f1,f2,f3,f4,f5⟩:=hf it (by simp)
  have W:=Walks.range (prog:=X.prog) (w:=X.w) (I.ok.hd hc) it lo 1 n
  refine W.item i s _ _ hg st λv h' tk hv st' kk=>?_
  obtain⟨t,rfl⟩:=hv
  have I1:Inv X pins σ H { s with heap:=h',toks:=tk }:=I.turned (λb o hb e=>kk b o (by simpa using hb) e) f0 f1 f3 f4 f5
  refine⟨_,rfl,kL (s:={ s with heap:=h',toks:=tk }) (n:="range_iterator") st' rfl rfl (by decide) ⟨.int (lo+i),H,I1,⟨t,?_⟩,⟨rfl,rfl⟩,st',λb hb=>(hf b hb).1⟩⟩
  rw[Int.mul_one]
 done:=by
  intro X hP hw hK hc i pins s σ H E I hf st hg
  subst hP hw hK
  obtain⟨f0,f1,f2,f3,f4,f5⟩:=hf it (by simp)
  exact wpAny_pyNext_range_end (I.ok.hd hc) st (by have:n<=i:=hg;lia) λh' eb=>⟨rfl,I.turned (t':=s.toks) (λb o hb e=>eb b o hb e) f0 f1 f3 f4 f5⟩
 self:=λ_ _ _ _ _ st h=>wpAny_pyIter_rangeiter st h
end L2
namespace L2
open PySem PySem.Spec PyProof.Rows
section
variable {X:Cx}{tg:Expr}
def wx(K:PySem.W.Frag)(tl:TE):TI:=λσ H R=>tl σ H λx H1=>∃a,x=.ref a/\(∃xs,aA K H1 a xs)/\R (vF K a) H1
def xQ(K:PySem.W.Frag)(tl:TE):TI:=λσ H R=>tl σ H λx H1=>∃a,x=.ref a/\(∃xs,cY K H1 a xs)/\R (xg K a) H1
def bc{l:Expr}{tl:TE}(hl:PE X l tl):PI X tg l (wx X.K tl):=by
 intro pins s σ H R I h
 refine a6 (hl pins s σ H _ I h) λv s1 hZ=>?_
 obtain⟨x,H1,I1,r1,q1⟩:=hZ
 obtain⟨a,e,⟨xs,hq⟩,q⟩:=q1
 subst e
 cases r1
 obtain⟨its,rv,p,hz⟩:=I1.list hq
 refine AK p.isList ?_
 refine⟨s1.heap.objs.size,[s1.heap.objs.size],_,_,H1,rfl,I1.kept (t':=s1.toks) λb o e=>ye _ e,pe a _,⟨_,ym _ rfl,rfl,rfl⟩,λb hb=>?_,q⟩
 have e:b=s1.heap.objs.size:=by simpa using hb
 subst e
 exact I1.pH (yi _) (I1.hok.fresh (yi _))
def qf{l:Expr}{tl:TE}(hl:PE X l tl):PI X tg l (xQ X.K tl):=by
 intro pins s σ H R I h
 refine a6 (hl pins s σ H _ I h) λv s1 hZ=>?_
 obtain⟨x,H1,I1,r1,q1⟩:=hZ
 obtain⟨a,e,⟨xs,hq⟩,q⟩:=q1
 subst e
 cases r1
 obtain⟨its,rv,p,hz⟩:=I1.tuple hq
 refine wpAny_pyIter_tuple (show s1.heap.IsTuple a its.toArray from p) ?_
 refine⟨s1.heap.objs.size,[s1.heap.objs.size],_,_,H1,rfl,I1.kept (t':=s1.toks) λb o e=>ye _ e,mM a _,⟨_,ym _ rfl,rfl,rfl⟩,λb hb=>?_,q⟩
 have e:b=s1.heap.objs.size:=by simpa using hb
 subst e
 exact I1.pH (yi _) (I1.hok.fresh (yi _))
def qx{pins:List (Addr×Obj)}{σ:St}{H:Hp}{s:Shared}{R:It->Hp->Prop}{E:Value->Shared->Prop}{lo hi:Int}{t u v:Tok}{tk:Nat}(I:Inv X pins σ H s)(h1 : -(2 ^ 62)<=lo)(h2:lo<2 ^ 62)(h3 : -(2 ^ 62)<=hi)(h4:hi<2 ^ 62)
  (q:R (vG lo (hi-lo).toNat) H):wpAny (model X.prog X.w) X.A (pyIter (.ref s.heap.objs.size)) (PIE X pins σ tg R) E { s with heap:=s.heap.push { cls:=.type "range",data:=.fields #[.int lo t,.int hi u,.int 1 v] },toks:=tk }:=by
 refine wpAny_pyIter_range (IsRange.new ..) (small_one h1 h2 h3 h4) ?_
 have I1:Inv X pins σ H { s with heap:=s.heap.push { cls:=.type "range",data:=.fields #[.int lo t,.int hi u,.int 1 v] },toks:=tk }:=I.kept λb o e=>ye _ e
 refine⟨(s.heap.push { cls:=.type "range",data:=.fields #[.int lo t,.int hi u,.int 1 v] }).objs.size,[(s.heap.push { cls:=.type "range",data:=.fields #[.int lo t,.int hi u,.int 1 v] }).objs.size],_,_,H,rfl,
  I1.kept (t':=tk) λb o e=>ye _ e,mz _ lo (hi-lo).toNat,?_,λb hb=>?_,q⟩
 ·have e1:lo+((0:Nat):Int)*1=lo:=by simp
  have e2:(((hi-lo).toNat:Nat):Int)-((0:Nat):Int)=Builtin.Range.rangeSize lo hi 1:=by rw[rangeSize_one];split <;> lia
  show IsRangeIter _ _ (lo+((0:Nat):Int)*1) ((((hi-lo).toNat:Nat):Int)-((0:Nat):Int)) 1
  rw[e1,e2]
  exact ym _ rfl
 ·have e:b=(s.heap.push { cls:=.type "range",data:=.fields #[.int lo t,.int hi u,.int 1 v] }).objs.size:=by simpa using hb
  subst e
  exact I1.pH (yi _) (I1.hok.fresh (yi _))
def wF(ta:TA):TI:=λσ H R=>ta σ H λvs H1=>∃j:Int,vs=[.int j]/\-(2 ^ 62)<=j/\j<2 ^ 62/\R (vG 0 j.toNat) H1
def cZ{a:Expr}{ta:TA}{p pos:Pos}(hg:Gl X "range")(hm:X.mg "range"=none)(ha:PA X [a] ta)(hs:starEach [a] X.env=[(false,eval a X.env)]:=by rfl):PI X tg (.Call (.Name "range" p) [a] [] pos) (wF ta):=by
 intro pins s σ H R I h
 refine Call_ (fO I hg hm boot_range (zA (a6 (ha pos pins s σ H _ I h) λus s1 ⟨vs,H1,I1,r1,q1⟩=>?_) hs rfl))
 obtain⟨j,e,q1,q2,q⟩:=q1
 subst e
 cases r1 with
 |cons r rr =>
  cases rr
  obtain⟨t,rfl⟩:=r
  exact call_range_1 (qx I1 (by lia) (by lia) q1 q2 (by simpa using q))
def xE(wi:TI)(g:TG)(tb:TS):TS:=λD σ H=>wi σ H λJ H1=>∃W:Nat->Nat->St->Hp->Prop,(∃m,W 0 m σ H1)/\∀i m σ H,W i m σ H ->
 (J.stop i H/\D.nx σ H)\/(J.go i H/\∃N:St->Hp->Prop,(∀σ' H',N σ' H'->∃m',m'<m/\W (i+1) m' σ' H')/\∀x H',J.yld i H x H'->g x σ H' λσ2 H2=>tb { D with nx:=N,ct:=N,bk:=D.nx } σ2 H2)
def iS(fp:List Addr)(h:Heap):List (Addr×Obj):=fp.filterMap λb=>(h.get? b).map λo=>(b,o)
def eA{fp:List Addr}{h:Heap}{b:Addr}{o:Obj}(hb:b∈fp)(e:h.get? b=some o):(b,o)∈iS fp h:=List.mem_filterMap.mpr ⟨b,hb,by rw[e];rfl⟩
def pU{fp:List Addr}{h:Heap}{p:Addr×Obj}(hp:p∈iS fp h):p.1∈fp/\h.get? p.1=some p.2:=by
 obtain⟨b,hb,e⟩:=List.mem_filterMap.mp hp
 cases q:h.get? b with
 |none=>rw[q]at e;cases e
 |some o =>
  rw[q]at e
  have e':(b,o)=p:=yV e
  subst e'
  exact⟨hb,q⟩
def Inv.pinned{pins:List (Addr×Obj)}{σ:St}{H:Hp}{s:Shared}{fp:List Addr}(I:Inv X pins σ H s)(hf:∀b∈fp,eQ X pins H b)(ho:∀b∈fp,∃o,s.heap.get? b=some o/\∀v,o.data≠.cell v):Inv X (pins++iS fp s.heap) σ H s :=
 I.oF λp hp=>(yo.mp hp).elim (λz=>I.pin p (yP _ z)) λz=>by
  obtain⟨hb,e⟩:=pU z
  obtain⟨f0,f1,f2,_⟩:=hf p.1 hb
  obtain⟨o,e',d⟩:=ho p.1 hb
  rw[e]at e';cases e'
  exact⟨e,f0,f1,f2,d⟩
def Inv.fZ{pins pl:List (Addr×Obj)}{σ:St}{H:Hp}{s:Shared}(I:Inv X (pins++pl) σ H s):Inv X pins σ H s:=I.oF λp hp=>I.pin p (yP _ (yU _ hp))
def bG{iter:Expr}{body:List Stmt}{wi:TI}{g:TG}{tb:TS}{pos:Pos}(hp:PassesOwn (model X.prog X.w) X.A X.env X.xe)(hc:X.calm=true)(hi:PI X tg iter wi)(hg:PG X tg g)(hb:mm X body tb)
  (hs:∀x,foldedSetIterable iter X.env x=pure x:=by intro _;rfl):PS X (.For tg iter body [] pos) (xE wi g tb):=by
 intro pins s σ H D I h
 refine wpAny_For (a6 (hi pins s σ H _ I h) λv s1 h1=>a6 h1 λitv s2 h2=>?_) hs
 obtain⟨it,fp,tn,J,H2,e,I2,T,st2,f2,W,⟨m0,w0⟩,turn⟩:=h2
 subst e
 have stat:∀{H':Hp},(∀b∈fp,H' b=none)->∀b∈fp,eQ X pins H' b:=λhn b hb=>⟨hn b hb,(f2 b hb).2⟩
 refine codeAny_forLoop_any (λn s'=>∃i σ' H',Inv X pins σ' H' s'/\tn i s'.heap/\(∀b∈fp,H' b=none)/\W i n σ' H') ?_ m0 ⟨0,σ,H2,I2,st2,λb hb=>(f2 b hb).1,w0⟩
 rintro n s3 ⟨i,σ3,H3,I3,st3,fr3,w3⟩
 rcases turn i n σ3 H3 w3 with⟨stop,qn⟩|⟨go,N,hN,step⟩
 ·refine zO hp (a6 (T.done X rfl rfl rfl hc i pins s3 σ3 H3 X.xe I3 (stat fr3) st3 stop) λr s4 hZ=>?_)
  obtain⟨hr,I4⟩:=hZ
  subst hr
  exact AS ⟨σ3,H3,I4,qn⟩
 ·refine zO hp (a6 (T.item X rfl rfl rfl hc i pins s3 σ3 H3 X.xe I3 (stat fr3) st3 go) λr s4 hZ=>?_)
  obtain⟨u,hr,h4⟩:=hZ
  subst hr
  refine zO hp (a6 h4 λ_ s5 hZ=>?_)
  obtain⟨x,H5,I5,r5,y5,st5,fr5⟩:=hZ
  have I5':=I5.pinned (stat fr5) (T.obj _ _ st5)
  refine zO hp (a6 (hg _ s5 σ3 H5 x u _ I5' r5 (step x H5 y5)) λ_ s6 hZ=>?_)
  obtain⟨σ6,H6,I6,q6⟩:=hZ
  refine zO hp (a6 (hb _ s6 σ6 H6 _ I6 q6) λf s7 q7=>?_)
  have again:∀{σ7:St} {H7:Hp},Inv X (pins++iS fp s5.heap) σ7 H7 s7->N σ7 H7->∃m,m<n/\∃i σ' H',Inv X pins σ' H' s7/\tn i s7.heap/\(∀b∈fp,H' b=none)/\W i m σ' H':=λ{σ7 H7} I7 n7=>by
   obtain⟨m',hm,w7⟩:=hN σ7 H7 n7
   refine⟨m',hm,i+1,σ7,H7,I7.fZ,T.keep _ _ _ st5 λb hb o e=>(I7.pin (b,o) (yP _ (yP _ (eA hb e)))).1,λb hb=>?_,w7⟩
   obtain⟨o,e,d⟩:=T.obj _ _ st5 b hb
   exact(I7.pin (b,o) (yP _ (yP _ (eA hb e)))).2.1
  cases f with
  |next=>obtain⟨σ7,H7,I7,n7⟩:=q7;exact again I7 n7
  |cont=>obtain⟨σ7,H7,I7,n7⟩:=q7;exact again I7 n7
  |brk=>obtain⟨σ7,H7,I7,q7⟩:=q7;exact⟨σ7,H7,I7.fZ,q7⟩
  |ret v=>obtain⟨x7,σ7,H7,I7,r7,q7⟩:=q7;exact⟨x7,σ7,H7,I7.fZ,r7,q7⟩
end
def c9{K:PySem.W.Frag}{a:Addr}{xs:List V}{g:TG}{tb:TS}{D:Ends}{σ:St}{H:Hp}(Pv:Nat->St->Hp->Prop)(h0:Pv 0 σ H)(hl:∀i σ H,i<=xs.length->Pv i σ H->aA K H a xs)
  (hs:∀i x σ H,xs[i]?=some x->Pv i σ H->g x σ H λσ2 H2=>tb { D with nx:=Pv (i+1),ct:=Pv (i+1),bk:=D.nx } σ2 H2) (hd:∀σ H,Pv xs.length σ H->D.nx σ H) :
  ∃W:Nat->Nat->St->Hp->Prop,(∃m,W 0 m σ H)/\∀i m σ H,W i m σ H ->
   ((vF K a).stop i H/\D.nx σ H)\/((vF K a).go i H/\∃N:St->Hp->Prop,(∀σ' H',N σ' H'->∃m',m'<m/\W (i+1) m' σ' H')/\∀x H',(vF K a).yld i H x H'->g x σ H' λσ2 H2=>tb { D with nx:=N,ct:=N,bk:=D.nx } σ2 H2):=by
 refine⟨λi m σ H=>m=xs.length-i/\i<=xs.length/\Pv i σ H,⟨xs.length,by simp,yC _,h0⟩,?_⟩
 rintro i m σ H ⟨rfl,hi,p⟩
 have q:=hl i σ H hi p
 by_cases hlt:i<xs.length
 ·refine .inr ⟨⟨xs,xs[i],q,by simp[hlt]⟩,Pv (i+1),λσ' H' p'=>⟨xs.length-(i+1),by lia,rfl,hlt,p'⟩,λx H' y=>?_⟩
  obtain⟨e,y⟩:=y
  subst e
  exact hs i x σ _ (y xs q) p
 ·have e:i=xs.length:=by lia
  subst e
  exact .inl ⟨⟨xs,q,yi _⟩,hd σ H p⟩
def c5{lo:Int}{n:Nat}{g:TG}{tb:TS}{D:Ends}{σ:St}{H:Hp}(Pv:Nat->St->Hp->Prop)(h0:Pv 0 σ H)
  (hs:∀i σ H,i<n->Pv i σ H->g (.int (lo+i)) σ H λσ2 H2=>tb { D with nx:=Pv (i+1),ct:=Pv (i+1),bk:=D.nx } σ2 H2) (hd:∀σ H,Pv n σ H->D.nx σ H) :
  ∃W:Nat->Nat->St->Hp->Prop,(∃m,W 0 m σ H)/\∀i m σ H,W i m σ H ->
   ((vG lo n).stop i H/\D.nx σ H)\/((vG lo n).go i H/\∃N:St->Hp->Prop,(∀σ' H',N σ' H'->∃m',m'<m/\W (i+1) m' σ' H')/\∀x H',(vG lo n).yld i H x H'->g x σ H' λσ2 H2=>tb { D with nx:=N,ct:=N,bk:=D.nx } σ2 H2):=by
 refine⟨λi m σ H=>m=n-i/\i<=n/\Pv i σ H,⟨n,by simp,yC _,h0⟩,?_⟩
 rintro i m σ H ⟨rfl,hi,p⟩
 by_cases hlt:i<n
 ·refine .inr ⟨hlt,Pv (i+1),λσ' H' p'=>⟨n-(i+1),by lia,rfl,hlt,p'⟩,λx H' y=>?_⟩
  obtain⟨e,y⟩:=y
  subst e y
  exact hs i σ _ hlt p
 ·have e:i=n:=by lia
  subst e
  exact .inl ⟨yi _,hd σ H p⟩
end L2
namespace L2
open PySem PySem.Spec PyProof.Rows
abbrev R2:=V->V->Hp->VK->Prop
def gk(X:Cx)(f:Value->Value->Sem Value)(r:R2):Prop :=
 ∀(pins:List (Addr×Obj)) (s:Shared) (σ:St) (H:Hp) (x y:V) (v u:Value) (Q:VK),Inv X pins σ H s->RelV x v->RelV y u->r x y H Q ->
  wpAny (model X.prog X.w) X.A (f v u) (EP X pins σ Q) X.xe s
def x8(X:Cx)(f:Value->Sem Value)(r:V->Hp->VK->Prop):Prop :=
 ∀(pins:List (Addr×Obj)) (s:Shared) (σ:St) (H:Hp) (x:V) (v:Value) (Q:VK),Inv X pins σ H s->RelV x v->r x H Q ->
  wpAny (model X.prog X.w) X.A (f v) (EP X pins σ Q) X.xe s
def dD(X:Cx)(f:Value)(r:List V->Hp->VK->Prop):Prop :=
 ∀(pins:List (Addr×Obj)) (s:Shared) (σ:St) (H:Hp) (xs:List V) (us:List Value) (Q:VK),Inv X pins σ H s->Vals xs us->r xs H Q ->
  wpAny (model X.prog X.w) X.A (call f us) (EP X pins σ Q) X.xe s
def wZ(X:Cx)(r:V->Hp->(Bool->Hp->Prop)->Prop):Prop :=
 ∀(pins:List (Addr×Obj)) (s:Shared) (σ:St) (H:Hp) (x:V) (v:Value) (Q:Bool->Hp->Prop),Inv X pins σ H s->RelV x v->r x H Q ->
  wpAny (model X.prog X.w) X.A (truthy v) (TP X pins σ Q) X.xe s
def wQ(r:R2)(ta tb:TE):TE:=λσ H Q=>ta σ H λx H1=>tb σ H1 λy H2=>r x y H2 Q
def tUn(r:V->Hp->VK->Prop)(ta:TE):TE:=λσ H Q=>ta σ H λx H1=>r x H1 Q
def rI(C:Int->Int->Prop)(g:Int->Int->V):R2:=λx y H Q=>∃i j,x=.int i/\y=.int j/\C i j/\Q (g i j) H
def vE(g:Int->Int->V):R2:=λx y H Q=>∃i j,x=.int i/\y=.int j/\Q (g i j) H
def rU(g:Int->V):V->Hp->VK->Prop:=λx H Q=>∃i,x=.int i/\Q (g i) H
section
variable {X:Cx}{a b c:Expr}{ta tb tc:TE}{pos:Pos}
def ve(ha:PE X a ta)(hb:PE X b tb){pins:List (Addr×Obj)}{s:Shared}{σ:St}{H:Hp}{R:V->V->Hp->Prop}(I:Inv X pins σ H s)
  (h:ta σ H λx H1=>tb σ H1 λy H2=>R x y H2) {Q:Value->Shared->Prop} {f:Value->Value->Sem Value}
  (hf:∀v u s2 x y H2,Inv X pins σ H2 s2->RelV x v->RelV y u->R x y H2->wpAny (model X.prog X.w) X.A (f v u) Q X.xe s2) :
  wpAny (model X.prog X.w) X.A (eval a X.env) (λv s₁=>wpAny (model X.prog X.w) X.A (eval b X.env) (λu s₂=>wpAny (model X.prog X.w) X.A (f v u) Q X.xe s₂) X.xe s₁) X.xe s:=by
 refine a6 (ha pins s σ H _ I h) λv s1 hZ=>?_
 obtain⟨x,H1,I1,r1,q1⟩:=hZ
 refine a6 (hb pins s1 σ H1 _ I1 q1) λu s2 hZ=>?_
 obtain⟨y,H2,I2,r2,q2⟩:=hZ
 exact hf v u s2 x y H2 I2 r1 r2 q2
def aw{op:Operator}{r:R2}(ho:gk X (binaryOp op) r)(ha:PE X a ta)(hb:PE X b tb):PE X (.BinOp a op b pos) (wQ r ta tb):=by
 intro pins s σ H Q I h
 exact wpAny_BinOp (ve ha hb I h λv u s2 x y H2 I2 rx ry q=>ho pins s2 σ H2 x y v u Q I2 rx ry q)
def tX{op:UnaryOp}{r:V->Hp->VK->Prop}(ho:x8 X (unaryOp op) r)(ha:PE X a ta):PE X (.UnaryOp op a pos) (tUn r ta):=by
 intro pins s σ H Q I h
 exact UnaryOp_ (a6 (ha pins s σ H _ I h) λv s1 ⟨x,H1,I1,r1,q1⟩=>ho pins s1 σ H1 x v Q I1 r1 q1)
def wU{f:Value->Value->Sem Value}{C:Int->Int->Prop}{g:Int->Int->Int}
  (rule:∀(i j:Int) (t u:Tok) (s:Shared) (Q:Value->Shared->Prop) (E:Value->Shared->Prop),C i j->Q (.int (g i j) s.toks) { s with toks:=s.toks+1 }->wpAny (model X.prog X.w) X.A (f (.int i t) (.int j u)) Q E s) :
  gk X f (rI C λi j=>.int (g i j)):=by
 intro pins s σ H x y v u Q I rx ry h
 obtain⟨i,j,rfl,rfl,hc,q⟩:=h
 obtain⟨t,rfl⟩:=rx
 obtain⟨t',rfl⟩:=ry
 exact rule i j t t' s _ _ hc ⟨.int (g i j),H,I.tok _,⟨_,rfl⟩,q⟩
def wL{f:Value->Value->Sem Value}{g:Int->Int->Int}
  (rule:∀(i j:Int) (t u:Tok) (s:Shared) (Q:Value->Shared->Prop) (E:Value->Shared->Prop),Q (.int (g i j) s.toks) { s with toks:=s.toks+1 }->wpAny (model X.prog X.w) X.A (f (.int i t) (.int j u)) Q E s) :
  gk X f (vE λi j=>.int (g i j)):=by
 intro pins s σ H x y v u Q I rx ry h
 obtain⟨i,j,rfl,rfl,q⟩:=h
 obtain⟨t,rfl⟩:=rx
 obtain⟨t',rfl⟩:=ry
 exact rule i j t t' s _ _ ⟨.int (g i j),H,I.tok _,⟨_,rfl⟩,q⟩
def vn{f:Value->Value->Sem Value}{g:Int->Int->Bool}
  (rule:∀(i j:Int) (t u:Tok) (s:Shared) (Q:Value->Shared->Prop) (E:Value->Shared->Prop),Q (.bool (g i j)) s->wpAny (model X.prog X.w) X.A (f (.int i t) (.int j u)) Q E s) :
  gk X f (vE λi j=>.bl (g i j)):=by
 intro pins s σ H x y v u Q I rx ry h
 obtain⟨i,j,rfl,rfl,q⟩:=h
 obtain⟨t,rfl⟩:=rx
 obtain⟨t',rfl⟩:=ry
 exact rule i j t t' s _ _ ⟨.bl (g i j),H,I,rfl,q⟩
def xR(i j:Int):Prop:=0<j/\j<1073741824
def xn(i j:Int):Prop:=0<=j/\j<=1000000/\i.natAbs<2 ^ 64
def u5(i j:Int):Prop:=(-(2 ^ 64)<i/\i<2 ^ 64)\/(-(2 ^ 64)<j/\j<2 ^ 64)
def u5.ok{i j:Int}(h:u5 i j):IntMulOk i j:=by
 rcases h with⟨h1,h2⟩|⟨h1,h2⟩
 ·exact .of_left (intBits_le_64 h1 h2)
 ·exact .of_right (intBits_le_64 h1 h2)
def bZ:gk X (binaryOp .Add) (vE λi j=>.int (i+j)):=wL λ_ _ _ _ _ _ _ q=>add_int q
def mJ:gk X (binaryOp .Sub) (vE λi j=>.int (i-j)):=wL λ_ _ _ _ _ _ _ q=>sub_int q
def nI:gk X (binaryOp .Mult) (rI u5 λi j=>.int (i*j)):=wU λ_ _ _ _ _ _ _ hc q=>mul_int q hc.ok
def aM:gk X (binaryOp .FloorDiv) (rI xR λi j=>.int (i / j)):=wU λi j _ _ _ _ _ hc q=>by
 have h1:(0:Int)<j:=hc.1
 have h2:j<1073741824:=hc.2
 exact floordiv_int (by lia) (by rw[Int.fdiv_eq_ediv_of_nonneg i (by lia)];exact q) (.inl (PyProof.noPylong_small (by lia)))
def aV:gk X (binaryOp .Mod) (rI (λ_ j=>0<j) λi j=>.int (i % j)):=wU λi j _ _ _ _ _ hc q=>by
 have h1:(0:Int)<j:=hc
 exact mod_int' (by lia) (by rw[Int.fmod_eq_emod_of_nonneg i (by lia)];exact q)
def qD:gk X (binaryOp .Pow) (rI xn λi j=>.int (i ^ j.toNat)):=wU λ_ _ _ _ _ _ _ hc q=>pow_int_small hc.1 hc.2.1 hc.2.2 q
def unI{f:Value->Sem Value}{g:Int->Int}
  (rule:∀(i:Int) (t:Tok) (s:Shared) (Q:Value->Shared->Prop) (E:Value->Shared->Prop),Q (.int (g i) s.toks) { s with toks:=s.toks+1 }->wpAny (model X.prog X.w) X.A (f (.int i t)) Q E s) :
  x8 X f (rU λi=>.int (g i)):=by
 intro pins s σ H x v Q I rx h
 obtain⟨i,rfl,q⟩:=h
 obtain⟨t,rfl⟩:=rx
 exact rule i t s _ _ ⟨.int (g i),H,I.tok _,⟨_,rfl⟩,q⟩
def qo:x8 X (unaryOp .USub) (rU λi=>.int (-i)):=unI λ_ _ _ _ _ q=>neg_int q
end
def vN:V->V->Bool
 |.non,.non=>true|.non,.int _=>true|.int _,.non=>true|.non,.bl _=>true|.bl _,.non=>true|.non,.str _=>true|.str _,.non=>true
 |.int _,.int _=>true|.bl _,.bl _=>true|.str _,.str _=>true|.byt _,.byt _=>true
 |.int _,.str _=>true|.str _,.int _=>true|.bl _,.str _=>true|.str _,.bl _=>true
 |_,_=>false
def rEq:R2:=λx y H Q=>vN x y=true/\Q (.bl (decide (x=y))) H
def rNe:R2:=λx y H Q=>vN x y=true/\Q (.bl (!decide (x=y))) H
def oJ{i j:Int}:decide (V.int i=V.int j)=(i==j):=by
 rw[Ad]
 simp
def qO{i j:Bool}:decide (V.bl i=V.bl j)=(i==j):=by
 rw[Ad]
 simp
def nM{i j:Str}:decide (V.str i=V.str j)=(i==j):=by
 rw[Ad]
 simp
def n6{i j:Array UInt8}:decide (V.byt i=V.byt j)=(i.toList==j.toList):=by
 rw[Ad]
 cases i
 cases j
 simp
section
variable {X:Cx}{a b c:Expr}{ta tb tc:TE}{pos:Pos}
def aH{pins:List (Addr×Obj)}{σ:St}{H:Hp}{s:Shared}{Q:VK}{k k':Bool}(I:Inv X pins σ H s)(q:Q (.bl k) H)(e:k=k'):EP X pins σ Q (.bool k') s:=by
 subst e
 exact⟨.bl k,H,I,rfl,q⟩
def ft:gk X (compareOp .Eq) rEq:=by
 intro pins s σ H x y v u Q I rx ry h
 obtain⟨hs,q⟩:=h
 cases x with
 |non =>
  cases rx
  cases y with
  |non=>cases ry;exact PySem.EqNone.eq_none_none (aH I q (by simp))
  |bl j=>cases ry;exact PySem.EqNone.eq_none_bool (aH I q (by simp))
  |int j=>obtain⟨t',rfl⟩:=ry;exact PySem.EqNone.eq_none_int (aH I q (by simp))
  |str j=>obtain⟨t',rfl⟩:=ry;exact PySem.EqNone.eq_none_str (aH I q (by simp))
  |_=>exact absurd (show false=true from hs) yv
 |bl i =>
  cases rx
  cases y with
  |non=>cases ry;exact PySem.EqNone.eq_bool_none (aH I q (by simp))
  |bl j=>cases ry;exact eq_bool (aH I q qO)
  |str j=>obtain⟨t',rfl⟩:=ry;exact PySem.EqMixed.eq_bool_str (aH I q (by simp))
  |_=>exact absurd (show false=true from hs) yv
 |int i =>
  obtain⟨t,rfl⟩:=rx
  cases y with
  |non=>cases ry;exact PySem.EqNone.eq_int_none (aH I q (by simp))
  |int j=>obtain⟨t',rfl⟩:=ry;exact eq_int (aH I q oJ)
  |str j=>obtain⟨t',rfl⟩:=ry;exact PySem.EqMixed.eq_int_str (aH I q (by simp))
  |_=>exact absurd (show false=true from hs) yv
 |str i =>
  obtain⟨t,rfl⟩:=rx
  cases y with
  |non=>cases ry;exact PySem.EqNone.eq_str_none (aH I q (by simp))
  |bl j=>cases ry;exact PySem.EqMixed.eq_str_bool (aH I q (by simp))
  |int j=>obtain⟨t',rfl⟩:=ry;exact PySem.EqMixed.eq_str_int (aH I q (by simp))
  |str j=>obtain⟨t',rfl⟩:=ry;exact eq_str (aH I q nM)
  |_=>exact absurd (show false=true from hs) yv
 |byt i =>
  obtain⟨t,rfl⟩:=rx
  cases y with
  |byt j=>obtain⟨t',rfl⟩:=ry;exact PySem.W.eq_bytes (aH I q n6)
  |_=>exact absurd (show false=true from hs) yv
 |_=>cases y <;> exact absurd (show false=true from hs) yv
def tO:gk X (compareOp .NotEq) rNe:=by
 intro pins s σ H x y v u Q I rx ry h
 obtain⟨hs,q⟩:=h
 cases x with
 |non =>
  cases rx
  cases y with
  |non=>cases ry;exact PySem.EqNone.ne_none_none (aH I q (by simp))
  |bl j=>cases ry;exact PySem.EqNone.ne_none_bool (aH I q (by simp))
  |int j=>obtain⟨t',rfl⟩:=ry;exact PySem.EqNone.ne_none_int (aH I q (by simp))
  |str j=>obtain⟨t',rfl⟩:=ry;exact PySem.EqNone.ne_none_str (aH I q (by simp))
  |_=>exact absurd (show false=true from hs) yv
 |bl i =>
  cases rx
  cases y with
  |non=>cases ry;exact PySem.EqNone.ne_bool_none (aH I q (by simp))
  |bl j=>cases ry;exact ne_bool (aH I q (zw not qO))
  |str j=>obtain⟨t',rfl⟩:=ry;exact PySem.EqMixed.ne_bool_str (aH I q (by simp))
  |_=>exact absurd (show false=true from hs) yv
 |int i =>
  obtain⟨t,rfl⟩:=rx
  cases y with
  |non=>cases ry;exact PySem.EqNone.ne_int_none (aH I q (by simp))
  |int j=>obtain⟨t',rfl⟩:=ry;exact ne_int (aH I q (zw not oJ))
  |str j=>obtain⟨t',rfl⟩:=ry;exact PySem.EqMixed.ne_int_str (aH I q (by simp))
  |_=>exact absurd (show false=true from hs) yv
 |str i =>
  obtain⟨t,rfl⟩:=rx
  cases y with
  |non=>cases ry;exact PySem.EqNone.ne_str_none (aH I q (by simp))
  |bl j=>cases ry;exact PySem.EqMixed.ne_str_bool (aH I q (by simp))
  |int j=>obtain⟨t',rfl⟩:=ry;exact PySem.EqMixed.ne_str_int (aH I q (by simp))
  |str j=>obtain⟨t',rfl⟩:=ry;exact ne_str (aH I q (zw not nM))
  |_=>exact absurd (show false=true from hs) yv
 |byt i =>
  obtain⟨t,rfl⟩:=rx
  cases y with
  |byt j=>obtain⟨t',rfl⟩:=ry;exact PySem.W.ne_bytes (aH I q (zw not n6))
  |_=>exact absurd (show false=true from hs) yv
 |_=>cases y <;> exact absurd (show false=true from hs) yv
def nQ:gk X (compareOp .Lt) (vE λi j=>.bl (decide (i<j))):=vn λ_ _ _ _ _ _ _ q=>lt_int q
def jB:gk X (compareOp .LtE) (vE λi j=>.bl (decide (i<=j))):=vn λ_ _ _ _ _ _ _ q=>le_int q
def uA:gk X (compareOp .Gt) (vE λi j=>.bl (decide (j<i))):=vn λ_ _ _ _ _ _ _ q=>gt_int q
def pX:gk X (compareOp .In) (λx y H Q=>∃i j,x=.str i/\y=.str j/\Q (.bl (!(Builtin.Str.occurrences j i 0 j.length 1).isEmpty)) H):=by
 intro pins s σ H x y v u Q I rx ry h
 obtain⟨i,j,rfl,rfl,q⟩:=h
 obtain⟨t,rfl⟩:=rx
 obtain⟨t',rfl⟩:=ry
 exact in_str (aH I q rfl)
def aZ(b:Expr){op:CmpOp}(h:op≠.In:=by decide)(h2:op≠.NotIn:=by decide):behindInMarks op b=false:=by
 have e1:(op==CmpOp.In)=false:=by cases op <;> first|rfl|exact absurd rfl h
 have e2:(op==CmpOp.NotIn)=false:=by cases op <;> first|rfl|exact absurd rfl h2
 cases b <;> simp[behindInMarks,e1,e2]
def dJ{op:CmpOp}{r:R2}(ho:gk X (compareOp op) r)(ha:PE X a ta)(hb:PE X b tb)(hm:behindInMarks op b=false):PE X (.Compare a [op] [b] pos) (wQ r ta tb):=by
 intro pins s σ H Q I h
 exact wpAny_Compare1 (ve ha hb I h λv u s2 x y H2 I2 rx ry q=>ho pins s2 σ H2 x y v u Q I2 rx ry q) hm
def uk(t:TE):TT:=λσ H Q=>t σ H λx H'=>∃k,x=.bl k/\Q k H'
def aE{op:CmpOp}{r:R2}(ho:gk X (compareOp op) r)(ha:PE X a ta)(hb:PE X b tb)(hm:behindInMarks op b=false):PT X (.Compare a [op] [b] pos) (uk (wQ r ta tb)):=by
 intro pins s σ H Q I h
 refine wpAny_isTrue_Compare1 (a6 (ha pins s σ H _ I h) λv s1 ⟨x,H1,I1,r1,q1⟩=>a6 (hb pins s1 σ H1 _ I1 q1) λu s2 ⟨y,H2,I2,r2,q2⟩ =>
  a6 (ho pins s2 σ H2 x y v u _ I2 r1 r2 q2) λc s3 ⟨z,H3,I3,r3,k,e,q3⟩=>?_) hm
 subst e
 cases r3
 exact zd ⟨H3,I3,q3⟩
def qE(r r':R2)(ta tb tc:TE):TE:=λσ H Q=>ta σ H λx H1=>tb σ H1 λy H2=>r x y H2 λz H3=>∃k,z=.bl k /\
 (if k=true then tc σ H3 λw' H4=>r' y w' H4 Q else Q (.bl false) H3)
def qm{op op':CmpOp}{r r':R2}(ho:gk X (compareOp op) r)(ho':gk X (compareOp op') r')(ha:PE X a ta)(hb:PE X b tb)(hc:PE X c tc)
  (hm:lastMarks [op,op'] [b,c]=false:=by with_unfolding_all rfl):PE X (.Compare a [op,op'] [b,c] pos) (qE r r' ta tb tc):=by
 intro pins s σ H Q I h
 refine Compare_chain (a6 (ha pins s σ H _ I h) λv s1 ⟨x,H1,I1,r1,q1⟩=>chain_link (a6 (hb pins s1 σ H1 _ I1 q1) λu s2 ⟨y,H2,I2,r2,q2⟩ =>
  a6 (ho pins s2 σ H2 x y v u _ I2 r1 r2 q2) λd s3 ⟨z,H3,I3,r3,k,e,q3⟩=>?_)) hm
 subst e
 cases r3
 refine zd ?_
 cases k with
 |false=>exact ite_ff ⟨.bl false,H3,I3,rfl,q3⟩
 |true=>exact ite_tt (chain_last (a6 (hc pins s3 σ H3 _ I3 q3) λw' s4 ⟨z',H4,I4,r4,q4⟩=>ho' pins s4 σ H4 y z' u w' Q I4 r2 r4 q4))
def qB{op op':CmpOp}{r r':R2}(ho:gk X (compareOp op) r)(ho':gk X (compareOp op') r')(ha:PE X a ta)(hb:PE X b tb)(hc:PE X c tc)
  (hm:lastMarks [op,op'] [b,c]=false:=by with_unfolding_all rfl):PT X (.Compare a [op,op'] [b,c] pos) (uk (qE r r' ta tb tc)):=by
 intro pins s σ H Q I h
 refine isTrue_chain (a6 (ha pins s σ H _ I h) λv s1 ⟨x,H1,I1,r1,q1⟩=>test_link (a6 (hb pins s1 σ H1 _ I1 q1) λu s2 ⟨y,H2,I2,r2,q2⟩ =>
  a6 (ho pins s2 σ H2 x y v u _ I2 r1 r2 q2) λd s3 ⟨z,H3,I3,r3,k,e,q3⟩=>?_)) hm
 subst e
 cases r3
 refine zd ?_
 cases k with
 |false =>
  obtain⟨k',e',q'⟩:=q3
  cases e'
  exact ite_ff ⟨H3,I3,q'⟩
 |true =>
  refine ite_tt (test_last (a6 (hc pins s3 σ H3 _ I3 q3) λw' s4 ⟨z',H4,I4,r4,q4⟩=>a6 (ho' pins s4 σ H4 y z' u w' _ I4 r2 r4 q4) λd' s5 hZ=>?_))
  obtain⟨z2,H5,I5,r5,k2,e2,q5⟩:=hZ
  subst e2
  cases r5
  exact zd ⟨H5,I5,q5⟩
def vT(K:PySem.W.Frag)(x:V)(H:Hp)(k:Bool):Prop :=
 match x with
 |.non=>k=false
 |.bl b=>k=b
 |.int i=>k=(i != 0)
 |.str y=>y.length<=sizeLine/\k=((y.length:Int) != 0)
 |.byt y=>y.size<=sizeLine/\k=((y.size:Int) != 0)
 |.ref p=>(∃xs,aA K H p xs/\k = !xs.isEmpty)\/(∃xs,cY K H p xs/\k = !xs.isEmpty)\/∃kvs,H p=some (.dK kvs)/\k = !kvs.isEmpty
 |_=>False
def mS{κ:Type}{kvs:List (κ×V)}{vs:List (κ×Value)}(r:KV kvs vs):(!vs.isEmpty) = !kvs.isEmpty:=by
 cases r <;> rfl
def iW{xs:List V}{its:List Value}(r:Vals xs its):(!its.toArray.isEmpty) = !xs.isEmpty:=by
 cases r <;> simp
def i4:(sizeLine:Nat)<2 ^ 63:=by rw[y8];decide
def uP:wZ X (λx H Q=>∃k,vT X.K x H k/\Q k H):=by
 intro pins s σ H x v Q I rx h
 obtain⟨k,e,q⟩:=h
 have hl:=i4
 have hs:sizeLine=16777216:=y8
 cases x with
 |non =>
  cases rx
  have e':k=false:=e
  subst e'
  exact truthy_none ⟨H,I,q⟩
 |bl b =>
  cases rx
  have e':k=b:=e
  subst e'
  exact zd ⟨H,I,q⟩
 |int i =>
  obtain⟨t,rfl⟩:=rx
  have e':k=(i != 0):=e
  subst e'
  exact PySem.P.truthy_int ⟨H,I,q⟩
 |str y =>
  obtain⟨t,rfl⟩:=rx
  obtain⟨hy,e'⟩:y.length<=sizeLine/\k=((y.length:Int) != 0):=e
  subst e'
  exact PySem.P.truthy_str (by lia) ⟨H,I.tok _,q⟩
 |byt y =>
  obtain⟨t,rfl⟩:=rx
  obtain⟨hy,e'⟩:y.size<=sizeLine/\k=((y.size:Int) != 0):=e
  subst e'
  exact PySem.W.truthy_bytes (by lia) ⟨H,I.tok _,q⟩
 |ref p =>
  cases rx
  have e':(∃xs,aA X.K H p xs/\k = !xs.isEmpty)\/(∃xs,cY X.K H p xs/\k = !xs.isEmpty)\/∃kvs,H p=some (.dK kvs)/\k = !kvs.isEmpty:=e
  rcases e' with⟨xs,hx,e'⟩|⟨xs,hx,e'⟩|⟨kvs,hx,e'⟩
  ·subst e'
   obtain⟨its,r,pl,hz⟩:=I.list hx
   have hlen:=r.length
   exact wpAny_truthy_list pl.isList (by simp only[yw];lia) ⟨H,I.tok _,by rw[iW r];exact q⟩
  ·subst e'
   obtain⟨its,r,pl,hz⟩:=I.tuple hx
   have hlen:=r.length
   exact truthy_tuple pl (by simp only[yw];lia) ⟨H,I.tok _,by rw[iW r];exact q⟩
  ·subst e'
   obtain⟨hz,hS,vs,r,m⟩:kvs.length<=sizeLine/\(p==sysModules)=false/\∃vs,KV kvs vs/\s.heap.DictOf (aR X.prog X.w) p vs:=I.hok p _ hx
   have hlen:kvs.length=vs.length:=yG r
   exact wpAny_truthy_dict hS m (by lia) ⟨H,I.tok _,by rw[mS r];exact q⟩
 |_=>exact(show False from e).elim
def rG(ha:PE X a ta)(he:∀whole,isTrue a X.env whole=(do let v <-whole;standAt a.pos;holding [v] (truthy v))) :
  PT X a (λσ H Q=>ta σ H λx H'=>∃k,vT X.K x H' k/\Q k H'):=by
 intro pins s σ H Q I h
 exact isTrue_plain (a6 (ha pins s σ H _ I h) λv s1 ⟨x,H1,I1,r1,q1⟩=>uP pins s1 σ H1 x v Q I1 r1 q1) (he _)
def fB:gk X (binaryOp .Add) (λx y H Q=>∃i j,x=.str i/\y=.str j/\i.length+j.length<=sizeLine/\Q (.str (i++j)) H):=by
 intro pins s σ H x y v u Q I rx ry h
 obtain⟨i,j,rfl,rfl,hz,q⟩:=h
 obtain⟨t,rfl⟩:=rx
 obtain⟨t',rfl⟩:=ry
 exact add_str (λt' tk=>⟨.str (i++j),H,I.tok _,⟨_,rfl⟩,q⟩) hz
def vals1{x:V}{us:List Value}(r:Vals [x] us):∃u,us=[u]/\RelV x u:=by
 cases r with
 |cons r1 r2=>cases r2;exact⟨_,rfl,r1⟩
def vals2{x y:V}{us:List Value}(r:Vals [x,y] us):∃u w',us=[u,w']/\RelV x u/\RelV y w':=by
 cases r with
 |cons r1 r2 =>
  cases r2 with
  |cons r3 r4=>cases r4;exact⟨_,_,rfl,r1,r3⟩
def px:dD X (.type "int") (λxs H Q=>(∃i,xs=[.int i]/\Q (.int i) H)\/∃k,xs=[.bl k]/\Q (.int (if k then 1 else 0)) H):=by
 intro pins s σ H xs us Q I r h
 rcases h with⟨i,rfl,q⟩|⟨k,rfl,q⟩
 ·obtain⟨u,rfl,t,rfl⟩:=vals1 r
  exact call_int_int ⟨.int i,H,I,⟨_,rfl⟩,q⟩
 ·obtain⟨u,rfl,r1⟩:=vals1 r
  cases r1
  exact call_int_bool ⟨.int (if k then 1 else 0),H,I.tok _,⟨_,rfl⟩,q⟩
def xM(K:PySem.W.Frag)(x:V)(H:Hp)(n:Nat):Prop :=
 match x with
 |.str y=>y.length<=sizeLine/\n=y.length
 |.byt y=>y.size<=sizeLine/\n=y.size
 |.ref p=>(∃xs,aA K H p xs/\n=xs.length)\/∃xs,cY K H p xs/\n=xs.length
 |_=>False
def aU:dD X (.builtin "len") (λxs H Q=>∃x n,xs=[x]/\xM X.K x H n/\Q (.int n) H):=by
 intro pins s σ H xs us Q I r h
 obtain⟨x,n,rfl,e,q⟩:=h
 obtain⟨u,rfl,rx⟩:=vals1 r
 have hl:=i4
 have hs:sizeLine=16777216:=y8
 cases x with
 |str y =>
  obtain⟨t,rfl⟩:=rx
  obtain⟨hy,e'⟩:y.length<=sizeLine/\n=y.length:=e
  subst e'
  exact len_str (by lia) ⟨.int _,H,I.tok _,⟨_,rfl⟩,q⟩
 |byt y =>
  obtain⟨t,rfl⟩:=rx
  obtain⟨hy,e'⟩:y.size<=sizeLine/\n=y.size:=e
  subst e'
  exact PySem.W.len_bytes (by lia) ⟨.int _,H,I.tok _,⟨_,rfl⟩,q⟩
 |ref p =>
  cases rx
  have e':(∃xs,aA X.K H p xs/\n=xs.length)\/∃xs,cY X.K H p xs/\n=xs.length:=e
  rcases e' with⟨xs,hx,e'⟩|⟨xs,hx,e'⟩
  ·subst e'
   obtain⟨its,r',pl,hz⟩:=I.list hx
   have hlen:=r'.length
   exact Calls.call_len_list pl.isList (by simp only[yw];lia) ⟨.int xs.length,H,I.tok _,⟨_,by simp only[yw];rw[hlen]⟩,q⟩
  ·subst e'
   obtain⟨its,r',pl,hz⟩:=I.tuple hx
   have hlen:=r'.length
   exact len_tuple pl (by simp only[yw];lia) ⟨.int xs.length,H,I.tok _,⟨_,by simp only[yw];rw[hlen]⟩,q⟩
 |_=>exact(show False from e).elim
end
end L2
namespace L2
open PySem PySem.Spec PyProof.Rows
structure mO(h:Heap)(x dx C:Addr)(mA:Str->Option Value):Prop where
 obj:h.get? x=some (PySem.W.instObj C dx)
 ns:h.Ns1 dx mA
 ne:dx≠x
def pY{h:Heap}{dx:Addr}{mA:Str->Option Value}(n:h.Ns1 dx mA):∃od,h.get? dx=some od/\∀name,PySem.W.lookIn name od=some (mA name):=by
 obtain⟨o,es,ep,ho,hd,hk,_,hm⟩:=n
 refine⟨o,ho,λname=>?_⟩
 have e:=hm name
 unfold nsFind findBy at e
 rw[<-Array.find?_toList]at e
 unfold PySem.W.lookIn
 rw[hd]
 dsimp only
 split
 ·rename_i y q
  rw[q]at e
  exact zw some e
 ·rename_i q
  rw[q]at e
  have a:es.toList.any (·.refKey)=false:=by
   rw[List.any_eq_false]
   intro y hy
   obtain⟨z,t,hkey⟩:=hk y (Array.mem_toList_iff.mp hy)
   simp[DictEntry.refKey,hkey]
  have a':¬es.toList.any (·.refKey)=true:=by rw[a];exact yv
  rw[yt a']
  exact zw some e
def mO.look{h:Heap}{x dx C:Addr}{mA:Str->Option Value}(I:mO h x dx C mA):∃od,PySem.W.InstAt h x (PySem.W.instObj C dx) C (some od)/\∀name,PySem.W.lookIn name od=some (mA name) :=
 let ⟨od,ho,hl⟩:=pY I.ns
 ⟨od,⟨I.obj,rfl,rfl,ho⟩,hl⟩
section
variable {prog:Program}{w:World}{A:Around}{E:Value->Shared->Prop}{s:Shared}{K:PySem.W.Frag}{x dx C f:Addr}{mA:Str->Option Value}{name:Str}{v:Value}
def get_map{expr:Bool}{Q:Value->Shared->Prop}(X:K.In s.heap)(I:mO s.heap x dx C mA)(hg:PySem.W.plainGet K C name=true)(hh:PySem.W.hasDictIn K C=true)
  (ha:PySem.W.findIn K (.ref C) name=some none) (hv:mA name=some v) (hv':PySem.W.handedIn v=true) (h:Q v { s with toks:=s.toks+1 }) :
  wpAny (model prog w) A (getAttr (.ref x) name expr) Q E s:=by
 obtain⟨od,J,hl⟩:=I.look
 exact PySem.W.get_value X J (A4 hg).1 (PySem.W.findObj_own hh ha rfl (by rw[hl,hv])) hv' h
def qC{pl:Sem Bool}{Q:Value×List Value->Shared->Prop}(X:K.In s.heap)(I:mO s.heap x dx C mA)(hg:PySem.W.plainGet K C name=true)
  (hf:PySem.W.findIn K (.ref C) name=some (some (.ref f))) (ht:PySem.W.isFn K (.ref f)=true) (hv:mA name=none) (h:Q (.ref f,[.ref x]) s) :
  wpAny (model prog w) A (getMethod (.ref x) name pl) Q E s:=by
 obtain⟨od,J,hl⟩:=I.look
 exact PySem.W.method_fn X J (A4 hg).1 (A4 hg).2 hf (Be.mp ht) (by show(PySem.W.lookIn name od).map (·.isSome)=some false;rw[hl,hv];rfl) h
def tM{ns:List Str}{Q:Unit->Shared->Prop}(X:K.In s.heap)(I:mO s.heap x dx C mA)
  (hs:PySem.W.findIn K (.ref C) "__setattr__"=some (some (.builtin "object.__setattr__"))) (hp:PySem.W.plainOver K C=true) (ht:PySem.W.takerIn K C name=some none) (hh:PySem.W.hasDictIn K C=true)
  (hw:PySem.Within mA ns) (hsz:ns.length<=sizeLine)
  (h:∀h',mO h' x dx C (λy=>if y=name then some v else mA y)->Heap.SameBut dx s.heap h'->Q () { s with heap:=h',toks:=s.toks+2 }) :
  wpAny (model prog w) A (setAttr (.ref x) name v) Q E s:=by
 obtain⟨od,J,hl⟩:=I.look
 refine PySem.W.set_plain X J hs (PySem.W.osa_open (s:={ s with toks:=s.toks+1 }) (r:=none) X J hp ht λb=>?_)
 obtain⟨cd,hc,hd'⟩:=PySem.W.any_some hh
 have hx:s.heap.get? x=some ⟨.ref C,some dx,.plain,#[]⟩:=I.obj
 refine yd (yj (yd (yd (wpAny_loadPart hx (yd (PySem.W.Looks.here (s:={ s with toks:=s.toks+1 }) (PySem.W.looks_clsIn X hc) ?_))))))
 rw[hd']
 refine yj (a:=some dx) (yd (yj (yd ?_)))
 refine wpAny_nsSet1 (s:={ s with toks:=s.toks+1 }) I.ns λh' hn2 hs2=>?_
 obtain⟨oD,esD,epD,hoD,hdD,hcD⟩:=hn2.count (PySem.Within.cons name v hw)
 refine yd (wpAny_lookBehind hoD (by rw[hdD];exact pastItsLine_dict (yI hcD (by rw[yQ];lia))) ?_)
 exact yj (h _ ⟨(hs2.2 _ (Ac I.ne)).trans I.obj,hn2,I.ne⟩ hs2)
def rq{R:Result->Shared->Prop}{vs:List Value}{kw:List (Str×Value)}(X:K.In s.heap)(hm:PySem.W.makesIn K C=true)
  (hi:PySem.W.findIn K (.ref C) "__init__"=some (some (.ref f))) (hf:PySem.W.typeIn K (.ref f)=some (.type "function"))
  (h:codeAny (model prog w) (A.under (.builtin "type.__call__" ⟨.ref C :: vs,kw⟩)) (.call (.ref f) ⟨.ref (s.heap.objs.size + 1) :: vs,kw⟩) (PySem.W.InitBack (s.heap.objs.size + 1) R)
   { s with heap:=(s.heap.push PySem.W.emptyDict).push (PySem.W.instObj C s.heap.objs.size) }) :
  codeAny (model prog w) A (.call (.ref C) ⟨vs,kw⟩) R s:=by
 obtain⟨hh,g,d,t,os⟩:=s
 exact PySem.W.make_core (PySem.W.makes_of X hm) (PySem.W.looks_findIn X hi) (λself=>PySem.W.bind_fn X self hf) (.inl rfl) h
end
def a8(f:Str)(v:V):List (Str×V)->List (Str×V)
 |[]=>[(f,v)]
 |(g,x)::r=>if g=f then(g,v)::r else(g,x)::a8 f v r
theorem hG(f g:Str)(v:V):∀fs:List (Str×V),(a8 f v fs).lookup g=if g=f then some v else fs.lookup g
 |[]=>by
  show List.lookup g [(f,v)]=_
  by_cases h:g=f
  ·have hb:(g==f)=true:=Be.mpr h
   simp only[List.lookup,hb,yF h]
  ·have hb:(g==f)=false:=zI.mpr h
   simp only[List.lookup,hb,yt h]
 |(k,x)::r=>by
  have ih:=hG f g v r
  rw[show a8 f v ((k,x)::r)=(if k=f then(k,v)::r else(k,x)::a8 f v r) from rfl]
  by_cases hk:k=f
  ·rw[yF hk]
   by_cases h:g=k
   ·have hb:(g==k)=true:=Be.mpr h
    simp only[List.lookup,hb,yF (h.trans hk)]
   ·have hb:(g==k)=false:=zI.mpr h
    simp only[List.lookup,hb,yt (λe:g=f=>h (e.trans hk.symm))]
  ·rw[yt hk]
   by_cases h:g=k
   ·have hb:(g==k)=true:=Be.mpr h
    simp only[List.lookup,hb,yt (λe:g=f=>hk (h.symm.trans e))]
   ·have hb:(g==k)=false:=zI.mpr h
    simp only[List.lookup,hb]
    exact ih
theorem gG(f:Str)(v:V):∀fs:List (Str×V),f∈(a8 f v fs).map (·.1)/\∀g,g∈fs.map (·.1)->g∈(a8 f v fs).map (·.1)
 |[]=>⟨by simp[a8],λg h=>by simp at h⟩
 |(k,x)::r=>by
  obtain⟨i1,i2⟩:=gG f v r
  rw[show a8 f v ((k,x)::r)=(if k=f then(k,v)::r else(k,x)::a8 f v r) from rfl]
  by_cases hk:k=f
  ·rw[yF hk]
   subst hk
   exact⟨by simp,λg h=>by simpa using h⟩
  ·rw[yt hk]
   refine⟨?_,λg h=>?_⟩
   ·rw[yX]
    exact yM _ i1
   ·rw[yX]at h ⊢
    rcases yr.mp h with e|e
    ·exact yr.mpr (.inl e)
    ·exact yM _ (i2 g e)
theorem gX(f:Str)(v:V):∀fs:List (Str×V),(a8 f v fs).length<=fs.length+1
 |[]=>by simp[a8]
 |(k,x)::r=>by
  have ih:=gX f v r
  rw[show a8 f v ((k,x)::r)=(if k=f then(k,v)::r else(k,x)::a8 f v r) from rfl]
  by_cases hk:k=f
  ·rw[yF hk,yQ,yQ];lia
  ·rw[yt hk,yQ,yQ];lia
def fi.some_of{v:V}{o:Option Value}(r:fi (some v) o):∃u,o=some u/\RelV v u:=by
 cases o with
 |none=>exact(show False from r).elim
 |some u=>exact⟨u,rfl,r⟩
def fi.none_of{o:Option Value}(r:fi none o):o=none:=by
 cases o with
 |none=>rfl
 |some u=>exact(show False from r).elim
def pI{v:V}{u:Value}(r:RelV v u):PySem.W.handedIn u=true:=by
 cases v with
 |non=>cases (show u=Value.none from r);rfl
 |bl b=>cases (show u=Value.bool b from r);rfl
 |int i=>obtain⟨t,e⟩:=(show ∃t,u=Value.int i t from r);cases e;rfl
 |str x=>obtain⟨t,e⟩:=(show ∃t,u=Value.str x t from r);cases e;rfl
 |byt b=>obtain⟨t,e⟩:=(show ∃t,u=Value.bytes b t from r);cases e;rfl
 |flt b=>obtain⟨t,e⟩:=(show ∃t,u=Value.float b t from r);cases e;rfl
 |ref a=>cases (show u=Value.ref a from r);rfl
 |ty n=>cases (show u=Value.type n from r);rfl
section
variable {P:Program}{w:World}{H H':Hp}{h h':Heap}{a C dx:Addr}{fs fs':List (Str×V)}
def ie(hok:fe P w H h)(e:H a=some (.ins C dx fs)):∃mA,mO h a dx C mA/\(∀f,fi (fs.lookup f) (mA f))/\PySem.Within mA (fs.map (·.1))/\fs.length<=1000/\H dx=some (.own a):=by
 obtain⟨d,z,ne,ob,mA,n,r,q⟩:=(show aY P w H h a (.ins C dx fs) from hok a _ e)
 exact⟨mA,⟨ob,n,ne⟩,r,q,z,d⟩
end
structure rz(K:PySem.W.Frag)(C:Addr):Prop where
 pg:PySem.W.plainGet K C Str.empty=true
 hd:PySem.W.hasDictIn K C=true
 po:PySem.W.plainOver K C=true
 sa:PySem.W.findIn K (.ref C) "__setattr__"=some (some (.builtin "object.__setattr__"))
def rz.get{K:PySem.W.Frag}{C:Addr}(c:rz K C)(f:Str):PySem.W.plainGet K C f=true:=c.pg
def dQ(K:PySem.W.Frag)(C:Addr)(f:Str):Prop:=PySem.W.findIn K (.ref C) f=some none
def dQ.vW{K:PySem.W.Frag}{C:Addr}{f:Str}(n:dQ K C f):PySem.W.takerIn K C f=some none:=by
 unfold PySem.W.takerIn
 rw[show PySem.W.findIn K (.ref C) f=some none from n]
 rfl
structure Meth(K:PySem.W.Frag)(C:Addr)(m:Str)(f:Addr):Prop where
 at_:PySem.W.findIn K (.ref C) m=some (some (.ref f))
 fn:PySem.W.isFn K (.ref f)=true
 kp:PySem.W.keepIn K (.ref f)=true
section
variable {X:Cx}{pins:List (Addr×Obj)}{σ:St}{H:Hp}{s:Shared}{a C dx:Addr}{fs:List (Str×V)}{f:Str}{v:V}{A:Around}{E:Value->Shared->Prop}
def nj{b:Bool}{Q:Value->Shared->Prop}(I:Inv X pins σ H s)(e:H a=some (.ins C dx fs))(c:rz X.K C)(n:dQ X.K C f)(l:fs.lookup f=some v)
  (h:∀u s',Inv X pins σ H s'->RelV v u->Q u s'):wpAny (model X.prog X.w) A (getAttr (.ref a) f b) Q E s:=by
 obtain⟨mA,O,r,_,_,_⟩:=ie I.hok e
 obtain⟨u,hu,ru⟩:=fi.some_of (v:=v) (o:=mA f) (by rw[<-l];exact r f)
 exact get_map I.gB O (c.get f) c.hd n hu (pI ru) (h u _ (I.tok _) ru)
def iI{m:Str}{g:Addr}{pl:Sem Bool}{Q:Value×List Value->Shared->Prop}(I:Inv X pins σ H s)(e:H a=some (.ins C dx fs))(c:rz X.K C)(k:Meth X.K C m g)(l:fs.lookup m=none)
  (h:Q (.ref g,[.ref a]) s):wpAny (model X.prog X.w) A (getMethod (.ref a) m pl) Q E s:=by
 obtain⟨mA,O,r,_,_,_⟩:=ie I.hok e
 have hn:mA m=none:=fi.none_of (by rw[<-l];exact r m)
 exact qC I.gB O (c.get m) k.at_ k.fn hn h
def nA{y:V}{u:Value}{Q:Unit->Shared->Prop}(I:Inv X pins σ H s)(e:H a=some (.ins C dx fs))(c:rz X.K C)(n:dQ X.K C f)(hl:fs.length<1000)(ry:RelV y u)
  (h:∀s',Inv X pins σ (upd H a (.ins C dx (a8 f y fs))) s'->Q () s'):wpAny (model X.prog X.w) A (setAttr (.ref a) f u) Q E s:=by
 obtain⟨mA,O,r,wi,_,ho⟩:=ie I.hok e
 have hz:(fs.map (·.1)).length<=sizeLine:=by rw[yf,y8];lia
 refine tM I.gB O c.sa c.po n.vW c.hd wi hz λh' O' sb=>h _ ?_
 have hd:∃o,h'.get? dx=some o:=let ⟨o,_,_,e',_⟩:=O'.ns;⟨o,e'⟩
 refine I.write (x:=a) (e:=dx) (by rw[e];exact True.intro) (.inr ho) (λb q hb z=>(sb.2 b hb).trans z) hd ?_
 refine⟨by rw[ai O.ne];exact ho,?_,O.ne,O'.obj,_,O'.ns,λg=>?_,λg hg=>?_⟩
 ·have:=gX f y fs;lia
 ·show fi ((a8 f y fs).lookup g) (if g=f then some u else mA g)
  rw[hG]
  by_cases q:g=f
  ·rw[yF q,yF q];exact ry
  ·rw[yt q,yt q];exact r g
 ·by_cases q:g=f
  ·rw[q];exact(gG f y fs).1
  ·refine(gG f y fs).2 g (wi g λz=>hg ?_)
   show(if g=f then some u else mA g)=none
   rw[yt q];exact z
def Inv.made(I:Inv X pins σ H s):Inv X pins σ (upd (upd H s.heap.objs.size (.own (s.heap.objs.size+1))) (s.heap.objs.size+1) (.ins C s.heap.objs.size []))
  { s with heap:=(s.heap.push PySem.W.emptyDict).push (PySem.W.instObj C s.heap.objs.size) }:=by
 have e1:(s.heap.push PySem.W.emptyDict).get? s.heap.objs.size=some PySem.W.emptyDict:=ym s.heap rfl
 have e2:((s.heap.push PySem.W.emptyDict).push (PySem.W.instObj C s.heap.objs.size)).get? (s.heap.objs.size+1)=some (PySem.W.instObj C s.heap.objs.size):=by
  have:=ym (s.heap.push PySem.W.emptyDict) (o:=PySem.W.instObj C s.heap.objs.size) rfl
  rwa[zj]at this
 have e3:(s.heap.push PySem.W.emptyDict).Ns s.heap.objs.size (λ_=>none):=⟨PySem.W.emptyDict,#[],_,e1,rfl,(λe he=>absurd he (by simp)),λ_=>rfl⟩
 have I1:=I.laid (a:=s.heap.objs.size) (o:=.own (s.heap.objs.size+1)) (h':=s.heap.push PySem.W.emptyDict) (t':=s.toks) (λb u q=>ye _ q) (yi _) ⟨_,e1⟩
 refine I1.laid (a:=s.heap.objs.size+1) (o:=.ins C s.heap.objs.size []) (t':=s.toks) (λb u q=>ye _ q) (Nat.le_of_eq (zj _ _)) ?_
 have ne:s.heap.objs.size≠s.heap.objs.size+1:=yn (zD _)
 refine⟨by rw[ai ne,ab],yC _,ne,e2,λ_=>none,(Heap.Ns1.of_empty e3).at λo q=>ye _ q,λ_=>True.intro,λy hy=>absurd rfl hy⟩
def sx{prog:Program}{w:World}{env:Env}{e:Expr}{f:Str}{pos:Pos}{s:Shared}{Q:Value->Shared->Prop}(hb:attributeBase e f env (eval e env)=eval e env)
  (h:wpAny (model prog w) A (eval e env) (λo s₁=>wpAny (model prog w) A (getAttr o f true) Q E s₁) E s):wpAny (model prog w) A (eval (.Attribute e f pos) env) Q E s :=
 Attribute_any_ h (by rw[arm_eval_Attribute,hb])
end
def w9(K:PySem.W.Frag)(ta:TE)(f:Str):TE:=λσ H Q=>ta σ H λx H1=>∃a C dx fs v,x=.ref a/\H1 a=some (.ins C dx fs)/\rz K C/\dQ K C f/\fs.lookup f=some v/\Q v H1
def xY(K:PySem.W.Frag)(ta tv:TE)(f:Str):TS:=λD σ H=>tv σ H λy H1=>ta σ H1 λx H2=>∃a C dx fs,x=.ref a/\H2 a=some (.ins C dx fs)/\rz K C/\dQ K C f/\fs.length<1000 /\
 D.nx σ (upd H2 a (.ins C dx (a8 f y fs)))
section
variable {X:Cx}{o e value:Expr}{f:Str}{pos pos' tpos:Pos}{ta tv:TE}
def fA(he:PE X e ta)(hb:attributeBase e f X.env (eval e X.env)=eval e X.env):PE X (.Attribute e f pos) (w9 X.K ta f):=by
 intro pins s σ H Q I h
 refine sx hb (a6 (he pins s σ H _ I h) λu s1 hZ=>?_)
 obtain⟨x,H1,I1,rx,a,C,dx,fs,v,ex,ea,c,n,l,q⟩:=hZ
 subst ex
 obtain rfl:u=Value.ref a:=rx
 exact nj I1 ea c n l λu' s2 I2 ru=>⟨v,H1,I2,ru,q⟩
def jT(ha:PE X o ta)(hv:PE X value tv)(hs:swapsWith value (some (.Attribute o f pos')) pos.line X.env=pure false):PS X (.Assign [.Attribute o f pos'] value pos) (xY X.K ta tv f):=by
 intro pins s σ H D I h
 refine plainObj_wpAny_Assign_Attribute (a6 (hv pins s σ H _ I h) λu s1 ⟨y,H1,I1,ry,q⟩=>a6 (ha pins s1 σ H1 _ I1 q) λov s2 ⟨x,H2,I2,rx,a,C,dx,fs,ex,ea,c,n,l,q2⟩=>?_) hs
 subst ex
 obtain rfl:ov=Value.ref a:=rx
 exact nA I2 ea c n l ry λs3 I3=>⟨σ,_,I3,q2⟩
end
section
variable {X:Cx}{pins:List (Addr×Obj)}{σ:St}{H:Hp}{s:Shared}{A:Around}{E:Value->Shared->Prop}{Q:Value->Shared->Prop}{c:Value}{b:Bool}
inductive fF(K:PySem.W.Frag)(H:Hp):V->Value->Prop where
 |non:fF K H .non (.type "NoneType")
 |bl (x:Bool):fF K H (.bl x) (.type "bool")
 |int (i:Int):fF K H (.int i) (.type "int")
 |str (x:Str):fF K H (.str x) (.type "str")
 |flt (x:UInt64):fF K H (.flt x) (.type "float")
 |lst {a:Addr} {xs:List V} (e:H a=some (.lst xs)):fF K H (.ref a) (.type "list")
 |frz {a:Addr} {o:Obj} {xs:List V} (e:H a=some (.frz o (.lst xs))):fF K H (.ref a) (.type "list")
 |tup {a:Addr} {xs:List V} (e:H a=some (.tup xs)):fF K H (.ref a) (.type "tuple")
 |dK {a:Addr} {kvs:List (Key×V)} (e:H a=some (.dK kvs)):fF K H (.ref a) (.type "dict")
 |dT {a:Addr} {kvs:List (List Key×V)} (e:H a=some (.dT kvs)):fF K H (.ref a) (.type "dict")
 |ins {a C dx:Addr} {fs:List (Str×V)} (e:H a=some (.ins C dx fs)) (cl:rz K C) (ha:PySem.W.findIn K (.ref C) "__class__"=some (some (.builtin "object.__class__")))
   (hn:PySem.W.specialIn K (.builtin "object.__class__") "__get__"=some (some (.builtin "getset_descriptor.__get__"))) (htk:PySem.W.takesIn K (.builtin "object.__class__")=some true)
   (hm:PySem.W.mroIn K C (.type "object")=some true):fF K H (.ref a) (.ref C)
def pL{x:V}{u t:Value}(I:Inv X pins σ H s)(rx:RelV x u)(ty:fF X.K H x t)(e:PySem.W.kitOne X.K t c=some b)(h:∀tk,Q (.bool b) { s with toks:=tk }) :
  wpAny (model X.prog X.w) A (call (.builtin "isinstance") [u,c]) Q E s:=by
 cases ty with
 |non=>cases (show u=Value.none from rx);exact zf PySem.W.kitx_none I.gB True.intro e (λz=>nomatch z) h
 |bl y=>cases (show u=Value.bool y from rx);exact zf PySem.W.kitx_bool I.gB True.intro e (λz=>nomatch z) h
 |int i=>obtain⟨t,q⟩:=(show ∃t,u=Value.int i t from rx);cases q;exact zf PySem.W.kitx_int I.gB True.intro e (λz=>nomatch z) h
 |str y=>obtain⟨t,q⟩:=(show ∃t,u=Value.str y t from rx);cases q;exact zf PySem.W.kitx_str I.gB True.intro e (λz=>nomatch z) h
 |flt y=>obtain⟨t,q⟩:=(show ∃t,u=Value.float y t from rx);cases q;exact zf PySem.W.kitx_float I.gB True.intro e (λz=>nomatch z) h
 |@lst a xs ea =>
  cases (show u=Value.ref a from rx)
  obtain⟨_,_,n,_,h1⟩:=(show aY X.prog X.w H s.heap a (.lst xs) from I.hok a _ ea)
  exact zf PySem.W.kitx_list I.gB ⟨_,h1,rfl⟩ e (λz=>nomatch z) h
 |@frz a ob xs ea =>
  cases (show u=Value.ref a from rx)
  obtain⟨_,_,_,n,_,h1⟩:=(show aY X.prog X.w H s.heap a (.frz ob (.lst xs)) from I.hok a _ ea)
  exact zf PySem.W.kitx_list I.gB ⟨_,h1,rfl⟩ e (λz=>nomatch z) h
 |@tup a xs ea =>
  cases (show u=Value.ref a from rx)
  obtain⟨_,_,_,p⟩:=(show aY X.prog X.w H s.heap a (.tup xs) from I.hok a _ ea)
  obtain⟨o,h1,h2,_⟩:=p
  exact zf PySem.W.kitx_tuple I.gB ⟨o,h1,h2⟩ e (λz=>nomatch z) h
 |@dK a kvs ea =>
  cases (show u=Value.ref a from rx)
  obtain⟨_,_,vs,_,p⟩:=(show aY X.prog X.w H s.heap a (.dK kvs) from I.hok a _ ea)
  obtain⟨o,es,ep,h1,h2,_⟩:=p
  exact zf PySem.W.kitx_dict I.gB ⟨o,h1,h2.1⟩ e (λz=>nomatch z) h
 |@dT a kvs ea =>
  cases (show u=Value.ref a from rx)
  obtain⟨_,_,xs,_,o,es,ep,h1,h2,_⟩:=(show aY X.prog X.w H s.heap a (.dT kvs) from I.hok a _ ea)
  exact zf PySem.W.kitx_dict I.gB ⟨o,h1,h2.1⟩ e (λz=>nomatch z) h
 |@ins a C dx fs ea cl ha hn htk hm =>
  cases (show u=Value.ref a from rx)
  obtain⟨mA,O,_⟩:=ie I.hok ea
  obtain⟨od,J,_⟩:=O.look
  exact zf (PySem.W.kitx_own (cl.get _) cl.hd ha hn htk hm) I.gB J e (λz=>nomatch z) h
end
end L2
namespace L2
open PySem PySem.Spec PyProof.Rows
structure bz(k:Nat)(A:Around):Prop where
 hd:A.handled=none
 dp:A.depth+3*k+5<recursionLimit
 un:A.units+16*k+200<cLine
 gd:A.guards=some []
def bz.mono{j k:Nat}{A:Around}(r:bz k A)(h:j<=k):bz j A:=⟨r.hd,by have:=r.dp;lia,by have:=r.un;lia,r.gd⟩
theorem bz.deeper{k:Nat}{A:Around}(r:bz (k+1) A)(env:Env):bz k (A.deeper env) :=
 ⟨r.hd,by have:=r.dp;show A.depth+1+3*k+5<_;lia,by have:=r.un;show A.units+3+16*k+200<_;lia,r.gd⟩
def m8{A:Around}{C:Addr}{us:List Value}{kw:List (Str×Value)}:(A.under (.builtin "type.__call__" ⟨.ref C::us,kw⟩)).depth=A.depth+1:=by
 first|rfl|simp[Around.under,Code.weight,Code.isCreation,Code.isGuard,Code.isCaller,Code.frames,Code.isFrame,guardIds]
def nB{A:Around}{C:Addr}{us:List Value}{kw:List (Str×Value)}:(A.under (.builtin "type.__call__" ⟨.ref C::us,kw⟩)).units=A.units+1:=by
 first|rfl|simp[Around.under,Code.cUnits,Code.frames,Code.isFrame]
def bz.make{k:Nat}{A:Around}(r:bz (k+1) A)(C:Addr)(us:List Value)(kw:List (Str×Value)):bz k (A.under (.builtin "type.__call__" ⟨.ref C::us,kw⟩)) :=
 ⟨r.hd,by have:=r.dp;rw[m8];lia,by have:=r.un;rw[nB];lia,by first|exact r.gd|(simp[Around.under,Code.isGuard,guardIds];exact r.gd)⟩
theorem bz.depth{k:Nat}{A:Around}(r:bz k A):A.depth<recursionLimit:=by have:=r.dp;lia
theorem bz.units{k:Nat}{A:Around}(r:bz k A):A.units+64<cLine:=by have:=r.un;lia
def bz.jU{k:Nat}{A:Around}(r:bz k A):A.units<cLine:=by have:=r.un;lia
def wA:TA:=λ_ H Q=>Q [] H
def vL(ta:TE)(tr:TA):TA:=λσ H Q=>ta σ H λx H1=>tr σ H1 λxs H2=>Q (x::xs) H2
section
variable {X:Cx}{e:Expr}{es:List Expr}{te:TE}{t:TA}{pos:Pos}
def ae:PA X [] wA:=λ_ _ _ _ H Q I h=>A8 ⟨[],H,I,.nil,h⟩
def aa(ha:PE X e te)(hr:PA X es t)(hs:starEach (e::es) X.env=(false,eval e X.env)::starEach es X.env:=by rfl):PA X (e::es) (vL te t):=by
 intro pos pins s σ H Q I h
 rw[hs]
 show wpAny _ _ (spliced ((false,eval e X.env)::backTo pos (starEach es X.env))) _ _ s
 refine AE (a6 (ha pins s σ H _ I h) λu s1 hZ=>?_)
 obtain⟨x,H1,I1,r1,q1⟩:=hZ
 exact a6 (hr pos pins s1 σ H1 _ I1 q1) λus s2 ⟨xs,H2,I2,r2,q2⟩=>⟨x::xs,H2,I2,.cons r1 r2,q2⟩
def x4(t:TA):TE:=λσ H Q=>t σ H λxs H1=>xs.length<=sizeLine/\∀p,H1 p=none->Q (.ref p) (upd H1 p (.tup xs))
def xr(t:TA):TE:=λσ H Q=>t σ H λxs H1=>xs.length<=sizeLine/\∀p,H1 p=none->Q (.ref p) (upd H1 p (.lst xs))
def eN{x1}(h:PA X es t):PE X (.Tuple es x1 pos) (x4 t):=by
 intro pins s σ H Q I hq
 refine wpAny_Tuple_spliced (a6 (h pos pins s σ H _ I hq) λus s1 ⟨xs,H1,I1,r,z,q⟩=>⟨by rw[<-r.length];exact z,?_⟩)
 have hf:H1 s1.heap.objs.size=none:=I1.hok.fresh (yi _)
 refine⟨.ref s1.heap.objs.size,upd H1 s1.heap.objs.size (.tup xs),I1.laid (t':=s1.toks) (λb u e=>ye _ e) (yi _) ?_,rfl,q _ hf⟩
 exact⟨z,us,r,⟨_,ym _ rfl,rfl,_,rfl⟩⟩
def aL(h:PA X es t):PE X (.List es pos) (xr t):=by
 intro pins s σ H Q I hq
 refine wpAny_List_spliced (a6 (h pos pins s σ H _ I hq) λus s1 ⟨xs,H1,I1,r,z,q⟩=>⟨by rw[<-r.length];exact z,?_⟩)
 have hf:H1 s1.heap.objs.size=none:=I1.hok.fresh (yi _)
 refine⟨.ref s1.heap.objs.size,upd H1 s1.heap.objs.size (.lst xs),I1.laid (t':=s1.toks) (λb u e=>ye _ e) (yi _) ?_,rfl,q _ hf⟩
 exact⟨z,us,0,r,ym _ rfl⟩
end
abbrev Sp:=List V->Hp->VK->XK->Prop
abbrev rS:=List Env->Hp->Shared->XK->Value->Shared->Prop
structure kq(P:Program)(w:World)(K:PySem.W.Frag)(mg:Str->Option Value)(base:Heap)(A:Around)(outer:List Env)(s:Shared)(H:Hp):Prop where
 frames:A.frames=some outer
 mod:Mod K mg base
 bs:∀b o,base.get? b=some o->s.heap.get? b=some o/\H b=none
 bsz:base.objs.size<=s.heap.objs.size
 fj:s.heap.FunFrames base outer
 frf:∀b∈kj outer,H b=none
 hok:fe P w H s.heap
 bare:AllBare s.gens
def CE(outer:List Env)(P:Program)(w:World)(H:Hp)(s:Shared)(Q:VK)(u:Value)(s':Shared):Prop :=
 ∃v H',s'.os=s.os/\AllBare s'.gens/\Un (kj outer) [] H H' s.heap s'.heap/\fe P w H' s'.heap/\RelV v u/\Q v H'
def CR(CX:rS)(outer:List Env)(P:Program)(w:World)(H:Hp)(s:Shared)(Q:VK)(E:XK)(r:Result)(s':Shared):Prop :=
 match r with
 |.ok (.ret u)=>CE outer P w H s Q u s'
 |.ok _=>False
 |.error e=>CX outer H s E e s'
structure aI(P:Program)(w:World)(K:PySem.W.Frag)(mg:Str->Option Value)(base:Heap)(CX:rS)(k:Nat)(f:Addr)(fd:FuncData)(ps:List Str)(sp:Sp):Prop where
 len:∀vs H Q E,sp vs H Q E->vs.length=ps.length
 run:∀(A:Around) (outer:List Env) (s:Shared) (H:Hp) (args:Args) (us:List Value) (vs:List V) (Q:VK) (E:XK),bz k A->kq P w K mg base A outer s H->BindsTo s fd args (ps.zip us)->Vals vs us->sp vs H Q E ->
  codeAny (model P w) A (.call (.ref f) args) (CR CX outer P w H s Q E) s
def kq.make{P:Program}{w:World}{K:PySem.W.Frag}{mg:Str->Option Value}{base:Heap}{A:Around}{outer:List Env}{s:Shared}{H:Hp}(e:kq P w K mg base A outer s H)(C:Addr)(us:List Value)(kw:List (Str×Value)) :
  kq P w K mg base (A.under (.builtin "type.__call__" ⟨.ref C::us,kw⟩)) outer s H:=⟨by first|exact e.frames|(simpa[Around.under,Code.envs,Code.isFrame,pushEnvs] using e.frames),e.mod,e.bs,e.bsz,e.fj,e.frf,e.hok,e.bare⟩
section
variable {X:Cx}{pins:List (Addr×Obj)}{σ:St}{H:Hp}{s s':Shared}
def Inv.vz(I:Inv X pins σ H s):kq X.prog X.w X.K X.mg X.base X.A X.stack s H :=
 ⟨I.ok.frames,I.ok.mod,I.bs,yI I.ok.bsz I.sz,I.stack,I.oq,I.hok,I.bare⟩
def Inv.after{Q:VK}{u:Value}(I:Inv X pins σ H s)(h:CE X.stack X.prog X.w H s Q u s'):EP X pins σ Q u s':=by
 obtain⟨v,H',os,bare,un,hok,r,q⟩:=h
 obtain⟨hh,g,d,t,os'⟩:=s'
 obtain rfl:os'=s.os:=os
 exact⟨v,H',I.call (h':=hh) (g':=g) (d':=d) (t':=t) (ch:=[]) un hok bare (λb z=>absurd z (by simp)),r,q⟩
end
def uD(sp:Sp)(dvs:List V)(E:XK)(t:TA):TE:=λσ H Q=>t σ H λvs H1=>sp (vs++dvs) H1 Q E
def uv(C:Addr)(m:Str)(sp:Sp)(dvs:List V)(E:XK)(ta:TE)(t:TA):TE:=λσ H Q=>ta σ H λx H1=>∃a dx fs,x=.ref a/\H1 a=some (.ins C dx fs)/\fs.lookup m=none /\
 t σ H1 λvs H2=>sp (x::(vs++dvs)) H2 Q E
def wC(C:Addr)(sp:Sp)(dvs:List V)(E:XK)(t:TA):TE:=λσ H Q=>t σ H λvs H1=>∀x dx,H1 x=none->H1 dx=none->dx≠x ->
 sp (.ref x::(vs++dvs)) (upd (upd H1 dx (.own x)) x (.ins C dx [])) (λv H2=>v=.non/\Q (.ref x) H2) E
def Binds(K:PySem.W.Frag)(fd:FuncData)(ps:List Str)(ds:List Value):Prop :=
 ∀(s:Shared) (us:List Value),K.In s.heap->(us++ds).length=ps.length->BindsTo s fd ⟨us,[]⟩ (ps.zip (us++ds))
def Binds.all{K:PySem.W.Frag}{fd:FuncData}{ps:List Str}(h:∀us:List Value,us.length=ps.length->bindArgs fd ⟨us,[]⟩=pure (ps.zip us)):Binds K fd ps []:=λs us _ hl=>by
 rw[AU]at hl ⊢
 exact .of_eq (h us hl)
def Passes(CX:rS)(X:Cx)(E:XK):Prop:=∀(pins:List (Addr×Obj)) (σ:St) (H:Hp) (s:Shared) (e:Value) (s':Shared),Inv X pins σ H s->CX X.stack H s E e s'->X.xe e s'
section
variable {X:Cx}{CX:rS}{k:Nat}{f C:Addr}{fd:FuncData}{ps:List Str}{sp:Sp}{dvs:List V}{ds:List Value}{E:XK}{x m:Str}{p pos apos:Pos}{e o:Expr}{es:List Expr}{ta:TE}{t:TA}
def kz{pins:List (Addr×Obj)}{σ:St}{H:Hp}{s:Shared}{Q:VK}{us:List Value}{vs:List V}(F:aI X.prog X.w X.K X.mg X.base CX k f fd ps sp)(hr:bz k X.A)(hb:Binds X.K fd ps ds)(hd:Vals dvs ds)(hx:Passes CX X E)
  (I:Inv X pins σ H s) (r:Vals vs us) (h:sp (vs++dvs) H Q E):wpAny (model X.prog X.w) X.A (call (.ref f) us) (EP X pins σ Q) X.xe s:=by
 have r2:Vals (vs++dvs) (us++ds):=r.append hd
 have hl:(us++ds).length=ps.length:=by rw[<-r2.length];exact F.len _ _ _ _ h
 refine Bf (zX (F.run X.A X.stack s H ⟨us,[]⟩ (us++ds) (vs++dvs) Q E hr I.vz (hb s us I.gB hl) r2 h) λr s' hq=>?_)
 cases r with
 |error e=>exact hx pins σ H s e s' I hq
 |ok fl =>
  cases fl with
  |ret u=>exact I.after hq
  |next=>exact False.elim hq
  |brk=>exact False.elim hq
  |cont=>exact False.elim hq
def cq(F:aI X.prog X.w X.K X.mg X.base CX k f fd ps sp)(hr:bz k X.A)(hg:Gl X x)(hm:X.mg x=some (.ref f))(hk:PySem.W.keepIn X.K (.ref f)=true)(hb:Binds X.K fd ps ds)(hd:Vals dvs ds)(hx:Passes CX X E)
  (ha:PA X (e::es) t) (hdb:(x==("__debug__":Str))=false:=by decide) (he:starEach (e::es) X.env=(false,eval e X.env)::starEach es X.env:=by rfl) (hpl:(backTo pos (starEach es X.env)).any (·.1)=false:=by rfl) :
  PE X (.Call (.Name x p) (e::es) [] pos) (uD sp dvs E t):=by
 intro pins s σ H Q I h
 refine zg (ig I hg hm ?_ hdb)
 refine Ae (h₀:=X.base) I.ok.mod.kin hk (a6 (ha pos pins s σ H _ I h) λus s1 ⟨vs,H1,I1,r,q⟩=>⟨I1.gB,?_⟩) he hpl
 exact kz F hr hb hd hx I1 r q
def ez{pl:Sem Bool}(he:PE X o ta)(c:rz X.K C)(hm:Meth X.K C m f)(F:aI X.prog X.w X.K X.mg X.base CX k f fd ps sp)(hr:bz k X.A)(hb:Binds X.K fd ps ds)(hd:Vals dvs ds)(hx:Passes CX X E)(ha:PA X (e::es) t)
  (hst:starEach (e::es) X.env=(false,eval e X.env)::starEach es X.env:=by rfl) (hpl:(backTo pos (starEach es X.env)).any (·.1)=false:=by rfl)
  (ht:eval (.Call (.Attribute o m apos) (e :: es) [] pos) X.env = (do
   let ov <-eval o X.env
   standAt apos.atName
   let (f,first) <-holding [ov] (getMethod ov m pl)
   callWith pos f first (backTo pos (starEach (e::es) X.env)) (backToKw pos (keywordEach [] X.env))):=by rfl) :
  PE X (.Call (.Attribute o m apos) (e::es) [] pos) (uv C m sp dvs E ta t):=by
 intro pins s σ H Q I h
 refine BD (pl:=pl) (a6 (he pins s σ H _ I h) λu s1 ⟨x,H1,I1,rx,a,dx,fs,ex,ea,l,q⟩=>?_) ht
 subst ex
 obtain rfl:u=Value.ref a:=rx
 refine iI I1 ea c hm l ?_
 refine Ae (first:=[.ref a]) (h₀:=X.base) I.ok.mod.kin hm.kp (a6 (ha pos pins s1 σ H1 _ I1 q) λus s2 ⟨vs,H2,I2,r,q2⟩=>⟨I2.gB,?_⟩) hst hpl
 exact kz (us:=.ref a::us) (vs:=.ref a::vs) F hr hb hd hx I2 (.cons rfl r) q2
def gg{pl:Sem Bool}(he:PE X o ta)(c:rz X.K C)(hm:Meth X.K C m f)(F:aI X.prog X.w X.K X.mg X.base CX k f fd ps sp)(hr:bz k X.A)(hb:Binds X.K fd ps ds)(hd:Vals dvs ds)(hx:Passes CX X E)
  (ht:eval (.Call (.Attribute o m apos) [] [] pos) X.env = (do
   let ov <-eval o X.env
   standAt apos.atName
   let (f,first) <-holding [ov] (getMethod ov m pl)
   callWith pos f first (backTo pos (starEach [] X.env)) (backToKw pos (keywordEach [] X.env))):=by rfl) :
  PE X (.Call (.Attribute o m apos) [] [] pos) (uv C m sp dvs E ta wA):=by
 intro pins s σ H Q I h
 refine BD (pl:=pl) (a6 (he pins s σ H _ I h) λu s1 ⟨x,H1,I1,rx,a,dx,fs,ex,ea,l,q⟩=>?_) ht
 subst ex
 obtain rfl:u=Value.ref a:=rx
 refine iI I1 ea c hm l ?_
 exact PySem.W.callWith_K0 (first:=[.ref a]) I1.gB hm.kp (kz (us:=[.ref a]) (vs:=[.ref a]) F hr hb hd hx I1 (.cons rfl .nil) q)
structure Mk(K:PySem.W.Frag)(C f:Addr):Prop where
 makes:PySem.W.makesIn K C=true
 init:PySem.W.findIn K (.ref C) "__init__"=some (some (.ref f))
 fn:PySem.W.isFn K (.ref f)=true
 kp:PySem.W.keepIn K (.ref C)=true
def rh{pins:List (Addr×Obj)}{σ:St}{H:Hp}{s:Shared}{Q:VK}{us:List Value}{vs:List V}(M:Mk X.K C f)(F:aI X.prog X.w X.K X.mg X.base CX k f fd ps sp)(hr:bz (k+1) X.A)(hb:Binds X.K fd ps ds)(hd:Vals dvs ds)
  (hx:Passes CX X E) (I:Inv X pins σ H s) (r:Vals vs us)
  (h:∀x dx,H x=none->H dx=none->dx≠x->sp (.ref x::(vs++dvs)) (upd (upd H dx (.own x)) x (.ins C dx [])) (λv H2=>v=.non/\Q (.ref x) H2) E) :
  wpAny (model X.prog X.w) X.A (call (.ref C) us) (EP X pins σ Q) X.xe s:=by
 have hq:=h (s.heap.objs.size+1) s.heap.objs.size (I.hok.fresh (zV _)) (I.hok.fresh (yi _)) (yn (zD _))
 have I2:=Inv.made (C:=C) I
 have r2:Vals (V.ref (s.heap.objs.size+1)::(vs++dvs)) (Value.ref (s.heap.objs.size+1)::(us++ds)):=.cons rfl (r.append hd)
 have hl:(Value.ref (s.heap.objs.size+1)::us++ds).length=ps.length:=by
  have e:=r2.length
  rw[F.len _ _ _ _ hq]at e
  exact e.symm
 refine Bf (rq (f:=f) I.gB M.makes M.init (Be.mp M.fn) (zX (F.run _ X.stack _ _ ⟨Value.ref (s.heap.objs.size+1)::us,[]⟩ (Value.ref (s.heap.objs.size+1)::(us++ds)) _ _ E (hr.make C us [])
  (I2.vz.make C us []) (hb _ (Value.ref (s.heap.objs.size+1)::us) I2.gB hl) r2 hq) λr s' hq'=>?_))
 cases r with
 |error e=>exact hx pins σ _ _ e s' I2 hq'
 |ok fl =>
  cases fl with
  |ret u =>
   obtain⟨v,H',I3,rv,ev,q3⟩:=I2.after hq'
   subst ev
   exact⟨rv,⟨V.ref (s.heap.objs.size+1),H',I3,rfl,q3⟩⟩
  |next=>exact False.elim hq'
  |brk=>exact False.elim hq'
  |cont=>exact False.elim hq'
def tE(M:Mk X.K C f)(F:aI X.prog X.w X.K X.mg X.base CX k f fd ps sp)(hr:bz (k+1) X.A)(hg:Gl X x)(hm:X.mg x=some (.ref C))(hb:Binds X.K fd ps ds)(hd:Vals dvs ds)(hx:Passes CX X E)
  (ha:PA X (e::es) t) (hdb:(x==("__debug__":Str))=false:=by decide) (he:starEach (e::es) X.env=(false,eval e X.env)::starEach es X.env:=by rfl) (hpl:(backTo pos (starEach es X.env)).any (·.1)=false:=by rfl) :
  PE X (.Call (.Name x p) (e::es) [] pos) (wC C sp dvs E t):=by
 intro pins s σ H Q I h
 refine zg (ig I hg hm ?_ hdb)
 refine Ae (h₀:=X.base) I.ok.mod.kin M.kp (a6 (ha pos pins s σ H _ I h) λus s1 ⟨vs,H1,I1,r,q⟩=>⟨I1.gB,?_⟩) he hpl
 exact rh M F hr hb hd hx I1 r q
end
section
variable {X:Cx}{CX:rS}{k:Nat}{f C:Addr}{fd:FuncData}{ps ks:List Str}{sp:Sp}{E:XK}{x m:Str}{p pos apos kpos:Pos}{e o:Expr}{es:List Expr}{kws:List Keyword}{te ta:TE}{t tk:TA}{nm:Option Str}
variable {g:List Value->List Value->List Value}{gV:List V->List V->List V}
end
structure az(N P:List Str)(sc:Scope):Prop where
 kind:sc.kind=.function
 co:sc.isCoroutine=false
 gen:sc.isGenerator=false
 nd:N.Nodup
 pre:N.take P.length=P
 par:∀x∈P,sc.names.lookup x=some .local\/sc.names.lookup x=some .cell
 nofree:∀y∈sc.names,y.2≠.free
def fo{N P:List Str}{sc:Scope}(a:sc.kind=.function:=by rfl)(b:sc.isCoroutine=false:=by rfl)(c:sc.isGenerator=false:=by rfl)(d:N.Nodup:=by decide +kernel)(e:N.take P.length=P:=by rfl)(f:∀x∈P,sc.names.lookup x=some .local\/sc.names.lookup x=some .cell:=by decide +kernel)(g:∀y∈sc.names,y.2≠.free:=by decide +kernel):az N P sc:=⟨a,b,c,d,e,f,g⟩
theorem jw{kindOf:Str->Option NameKind}{x:Str}:∀{binds:List (Str×Value)} {m:Str->Option Value},(∀v,(x,v)∉binds)->bindL kindOf binds m x=m x
 |[],_,_=>rfl
 |(n,v)::r,m,h=>by
  unfold bindL
  rw[jw λw hw=>h w (yM _ hw)]
  split
  ·have:x≠n:=by rintro rfl;exact h v yW
   simp[this]
  ·rfl
theorem jJ{kindOf:Str->Option NameKind}{x:Str}:∀{binds:List (Str×Value)} {m:Str->Option Value},(∀v,(x,v)∉binds)->bindC kindOf binds m x=m x
 |[],_,_=>rfl
 |(n,v)::r,m,h=>by
  unfold bindC
  rw[jJ λw hw=>h w (yM _ hw)]
  split
  ·rfl
  ·have:x≠n:=by rintro rfl;exact h v yW
   simp[this]
theorem jn{kindOf:Str->Option NameKind}{x:Str}{v:Value}:∀{P:List Str} {vs:List Value} {i:Nat} {m:Str->Option Value},P.Nodup->P[i]?=some x->vs[i]?=some v->kindOf x=some .local ->
  bindL kindOf (P.zip vs) m x=some v
 |[],_,_,_,_,h,_,_=>by simp at h
 |_::_,[],_,_,_,_,h,_=>by simp at h
 |p::P,w::vs,0,m,nd,h1,h2,hk=>by
  simp at h1 h2;subst h1;subst h2
  show bindL kindOf ((p,w)::P.zip vs) m p=_
  unfold bindL
  rw[jw λv hv=>(zp.mp nd).1 (Bu hv).1,yF hk]
  simp
 |p::P,w::vs,i+1,m,nd,h1,h2,hk=>by
  show bindL kindOf ((p,w)::P.zip vs) m x=_
  unfold bindL
  exact jn (i:=i) (zp.mp nd).2 (by simpa using h1) (by simpa using h2) hk
theorem jm{kindOf:Str->Option NameKind}{x:Str}{v:Value}:∀{P:List Str} {vs:List Value} {i:Nat} {m:Str->Option Value},P.Nodup->P[i]?=some x->vs[i]?=some v->kindOf x≠some .local ->
  bindC kindOf (P.zip vs) m x=some v
 |[],_,_,_,_,h,_,_=>by simp at h
 |_::_,[],_,_,_,_,h,_=>by simp at h
 |p::P,w::vs,0,m,nd,h1,h2,hk=>by
  simp at h1 h2;subst h1;subst h2
  show bindC kindOf ((p,w)::P.zip vs) m p=_
  unfold bindC
  rw[jJ λv hv=>(zp.mp nd).1 (Bu hv).1,yt hk]
  simp
 |p::P,w::vs,i+1,m,nd,h1,h2,hk=>by
  show bindC kindOf ((p,w)::P.zip vs) m x=_
  unfold bindC
  exact jm (i:=i) (zp.mp nd).2 (by simpa using h1) (by simpa using h2) hk
def start(N:List Str)(vs:List V):St:=vs.map some++List.replicate (N.length-vs.length) none
def bq(CX:rS)(P:Program)(w:World)(K:PySem.W.Frag)(mg:Str->Option Value)(base:Heap)(N:List Str)(qual:Str)(scope:Scope)(f:Addr)(cd:Value)(A:Around)(outer:List Env)(s:Shared)(H:Hp)(E:XK):Cx where
 prog:=P
 w:=w
 K:=K
 mg:=mg
 base:=base
 A:=A.deeper (envOfC qual scope s.heap.objs.size f cd)
 N:=N
 s₀:=s
 H₀:=H
 env:=envOfC qual scope s.heap.objs.size f cd
 outer:=outer
 stack:=envOfC qual scope s.heap.objs.size f cd::outer
 ex:=[]
 calm:=true
 fn:=λ_=>true
 pn:=[]
 xe:=λe s'=>wpAny (model P w) (A.deeper (envOfC qual scope s.heap.objs.size f cd)) («leaving» (envOfC qual scope s.heap.objs.size f cd) e) (λ_ s''=>CX outer H s E e s'') (λe' s''=>CX outer H s E e' s'') s'
def kI{sc:Scope}{n:Nat}{x:Str}(h:sc.names.lookup x=some .cell):∃c,(cellsFrom n sc.names []).lookup x=some c:=by
 have q:=By sc.names n [] (.inl h)
 exact Option.isSome_iff_exists.mp q
def p8{CX:rS}{P:Program}{w:World}{K:PySem.W.Frag}{mg:Str->Option Value}{base:Heap}{N ps:List Str}{qual:Str}{scope:Scope}{f:Addr}{cd:Value}{A:Around}{outer:List Env}{s s1:Shared}{H:Hp}{E:XK}{us:List Value}{vs:List V}
  (S:az N ps scope) (hd:A.handled=none) (e0:kq P w K mg base A outer s H) (hl:vs.length=ps.length) (r:Vals vs us)
  (x:InCallC s s.heap.objs.size (bindL (envOfC qual scope s.heap.objs.size f cd).kindOf (ps.zip us) λ_=>none) (cellsFrom (s.heap.objs.size+1) scope.names []) (bindC (envOfC qual scope s.heap.objs.size f cd).kindOf (ps.zip us) λ_=>none) s1) :
  Inv (bq CX P w K mg base N qual scope f cd A outer s H E) [] (start N vs) H s1:=by
 have hpl:ps.length<=N.length:=by have:=zw List.length S.pre;rw[yB]at this;lia
 obtain⟨h1,tk,rfl,hk⟩:=x.done
 have noA:∀b:Addr,b∉(bq CX P w K mg base N qual scope f cd A outer s H E).ex:=λb z=>absurd (show b∈([]:List Addr) from z) (by simp)
 refine⟨⟨e0.mod,S.kind,rfl,rfl,yi _,λy z c h1 h2=>?_,λy hy=>?_,λy c _ h=>?_,λ_=>hd,Around.frames_deeper e0.frames,.inr ⟨rfl,rfl⟩,λb z=>absurd z (noA b),e0.bs,e0.bsz,λb _ _=>noA b,λb z=>absurd z (noA b),e0.fj,e0.frf⟩,
  rfl,e0.bare,Un.kept hk,⟨_,x.toInCall.ns,λi y v h1 h2 h3=>?_⟩,λy c h=>⟨_,x.cell y c h⟩,e0.hok.fresh (yi _),λy c h=>?_,λp hp=>absurd (show p∈([]:List (Addr×Obj)) from hp) (by simp),e0.hok.kept hk,?_⟩
 ·exact name_of_addr x.apart (zJ h1) (zJ h2)
 ·have hy:scope.names.lookup y=some .cell\/scope.names.lookup y=some .free:=hy
  rcases hy with hy|hy
  ·exact kI hy
  ·exact absurd rfl (S.nofree _ (zJ hy))
 ·exact Ak (x.above y c (zJ h))
 ·have hi:i<vs.length:=by
   unfold start at h2
   by_cases hi:i<vs.length
   ·exact hi
   ·rw[Av (by simpa using hi)]at h2
    rw[Bq]at h2
    split at h2 <;> cases h2
  have ha:vs[i]?=some v:=by
   unfold start at h2
   rw[zq (by simpa using hi),yR]at h2
   cases e:vs[i]? with
   |none=>rw[e]at h2;cases h2
   |some a=>rw[e]at h2;cases h2;rfl
  obtain⟨u,hu,rv⟩:=r.get ha
  have hp:ps[i]?=some y:=by
   rw[<-S.pre,AF (by lia)];exact h1
  have ndP:ps.Nodup:=by rw[<-S.pre];exact S.nd.sublist (A9 _ _)
  refine⟨u,rv,?_⟩
  rcases S.par y (yq hp) with k|k
  ·exact .inl ⟨k,jn ndP hp hu k⟩
  ·obtain⟨c,e⟩:=kI (n:=s.heap.objs.size+1) k
   refine .inr ⟨.inl k,c,e,?_⟩
   have q:=x.cell y c e
   rw[jm ndP hp hu (by show scope.names.lookup y≠_;rw[k];decide)]at q
   exact q
 ·exact e0.hok.fresh (Ak (x.above y c (zJ h)))
 ·unfold start
  show _=N.length
  rw[yp,yf,BE]
  lia
def uf{CX:rS}{P:Program}{w:World}{K:PySem.W.Frag}{mg:Str->Option Value}{base:Heap}{k:Nat}{f:Addr}{name qual:Str}{params:Arguments}{body:List Stmt}{scope:Scope}{dV kV doc pm cdv ct oc:Value}{an od:Option Addr}
  {osl:Array (Option Value)} {N ps:List Str} {sp:Sp} (lk:K.lookup f=some ⟨oc,od,.func (PySem.W.fnOf name qual params body scope dV kV doc pm an cdv ct),osl⟩) (hcd:PySem.W.codeIn K cdv qual=true) (S:az N ps scope)
  (len:∀vs H Q E,sp vs H Q E->vs.length=ps.length)
  (hbody:∀(A:Around) (outer:List Env) (s:Shared) (H:Hp) (vs:List V) (Q:VK) (E:XK),bz k (A.deeper (envOfC qual scope s.heap.objs.size f cdv))->sp vs H Q E ->
   ∃t,mm (bq CX P w K mg base N qual scope f cdv A outer s H E) body t/\t { nx:=λ_ H'=>Q .non H',rt:=Q } (start N vs) H) :
  aI P w K mg base CX (k+1) f (PySem.W.fnOf name qual params body scope dV kV doc pm an cdv ct) ps sp:=by
 refine⟨len,λA outer s H args us vs Q E hr e0 hb r hsp=>?_⟩
 have hl:=len _ _ _ _ hsp
 have KX:K.In s.heap:=e0.mod.kin.keeps λb o e=>(e0.bs b o e).1
 have lim:s.heap.NoLimit:=e0.mod.nolimit.keeps λb o e=>(e0.bs b o e).1
 have hkind:∀y∈ps.zip us,scope.names.lookup y.1=some .local\/(scope.names.lookup y.1=some .cell/\((cellsFrom (s.heap.objs.size+1) scope.names []).lookup y.1).isSome=true):=λ⟨n,v⟩ hy=>by
  rcases S.par n (Bu hy).1 with q|q
  ·exact .inl q
  ·exact .inr ⟨q,By _ _ _ (.inl q)⟩
 refine codeAny_call_function hr.depth (KX _ _ lk) rfl S.co S.gen rfl (PySem.W.codeRec_of KX hcd) (hb _ _ _ _ ?_)
 refine wpAny_newFunctionEnv_cells S.kind hkind λenv he s1 x=>?_
 subst he
 refine⟨lim.keeps x.toInCall.keep,codeAny_func ?_⟩
 obtain⟨t,ht,hq⟩:=hbody A outer s H vs Q E (hr.deeper _) hsp
 have I:Inv (bq CX P w K mg base N qual scope f cdv A outer s H E) [] (start N vs) H s1:=p8 S hr.hd e0 hl r x
 refine zv (ht [] s1 (start N vs) H _ I hq) (λfl s' hs=>?_) λe s' hs=>hs
 have fin:∀{σ':St} {H':Hp} {v:V} {u:Value},Inv (bq CX P w K mg base N qual scope f cdv A outer s H E) [] σ' H' s'->RelV v u->Q v H'->CE outer P w H s Q u s' :=
  λ{σ' H' v u} J rv q=>⟨v,H',J.os,J.bare,J.base,J.hok,rv,q⟩
 cases fl with
 |ret u =>
  obtain⟨v,σ',H',J,rv,q⟩:=hs
  exact fin J rv q
 |next =>
  obtain⟨σ',H',J,q⟩:=hs
  exact fin (v:=V.non) (u:=Value.none) J rfl q
 |brk =>
  obtain⟨_,_,_,q⟩:=hs
  exact False.elim q
 |cont =>
  obtain⟨_,_,_,q⟩:=hs
  exact False.elim q
end L2
namespace L2
open PySem PySem.Spec PyProof.Rows
section
variable {X:Cx}{x:Str}{p pos:Pos}{e:Expr}{es:List Expr}{t:TA}{id T:String}{r:List V->Hp->VK->Prop}
def tCB(r:List V->Hp->VK->Prop)(t:TA):TE:=λσ H Q=>t σ H λvs H1=>r vs H1 Q
def ay(hc:dD X (.builtin id) r)(hg:Gl X x)(hm:X.mg x=none)(hv:bootBuiltins x=some (.builtin id))(ha:PA X (e::es) t)(hn:x≠"__name__":=by decide)(hdb:(x==("__debug__":Str))=false:=by decide)
  (he:starEach (e::es) X.env=(false,eval e X.env)::starEach es X.env:=by rfl) (hpl:(backTo pos (starEach es X.env)).any (·.1)=false:=by rfl):PE X (.Call (.Name x p) (e::es) [] pos) (tCB r t):=by
 intro pins s σ H Q I h
 refine zg (fO I hg hm hv ?_ hn hdb)
 exact PyProof.Rows.callWith_builtin1 (a6 (ha pos pins s σ H _ I h) λus s1 ⟨vs,H1,I1,r1,q1⟩=>hc pins s1 σ H1 vs us Q I1 r1 q1) he hpl
def aO(hc:dD X (.type T) r)(hg:Gl X x)(hm:X.mg x=none)(hv:bootBuiltins x=some (.type T))(ha:PA X (e::es) t)(hn:x≠"__name__":=by decide)(hdb:(x==("__debug__":Str))=false:=by decide)
  (he:starEach (e::es) X.env=(false,eval e X.env)::starEach es X.env:=by rfl) (hpl:(backTo pos (starEach es X.env)).any (·.1)=false:=by rfl):PE X (.Call (.Name x p) (e::es) [] pos) (tCB r t):=by
 intro pins s σ H Q I h
 refine zg (fO I hg hm hv ?_ hn hdb)
 exact zA (a6 (ha pos pins s σ H _ I h) λus s1 ⟨vs,H1,I1,r1,q1⟩=>hc pins s1 σ H1 vs us Q I1 r1 q1) he hpl
end
end L2
namespace HT
open PySem PyProof.Rows
section
open PySem.SeqAt
open PySem.AutoSeq1 (wpAny_loadPart')
open PySem.MeetsSeq PySem.MeetsSeq2 PySem.MeetsSeq3
end
def ja(n d:Nat):Option Int->Nat
 |none=>d
 |some v=>if v<0 then(v+(n:Int)).toNat else min v.toNat n
def lQ(n d:Nat):ja n d none=d:=rfl
def ib(n d k:Nat):ja n d (some (k:Int))=min k n:=by
 show(if (k:Int)<0 then((k:Int)+(n:Int)).toNat else min (k:Int).toNat n)=min k n
 rw[yt (by lia),zx]
end HT
namespace L2
open PySem PySem.Spec PyProof.Rows
abbrev TO:=St->Hp->(Option Int->Hp->Prop)->Prop
def PO(X:Cx)(e:Option Expr)(t:TO):Prop :=
 ∀(pins:List (Addr×Obj)) (s:Shared) (σ:St) (H:Hp) (Q:Option Int->Hp->Prop),Inv X pins σ H s->t σ H Q ->
  wpAny (model X.prog X.w) X.A (evalPart e X.env) (λu s'=>∃o H',Inv X pins σ H' s'/\IsPart u o/\Q o H') X.xe s
def sP:TO:=λ_ H Q=>Q none H
def wO(t:TE):TO:=λσ H Q=>t σ H λx H1=>∃i,x=.int i/\Q (some i) H1
section
variable {X:Cx}{e:Expr}{te:TE}{lo hi:Option Expr}{tl th:TO}{pos p2:Pos}
def eB:PO X none sP:=by
 intro pins s σ H Q I h
 rw[evalPart_none]
 exact yj ⟨none,H,I,.none,h⟩
def cu(h:PE X e te):PO X (some e) (wO te):=by
 intro pins s σ H Q I hw
 rw[evalPart_some]
 refine a6 (h pins s σ H _ I hw) λu s1 hZ=>?_
 obtain⟨x,H1,I1,r1,q1⟩:=hZ
 obtain⟨i,rfl,q⟩:=q1
 obtain⟨t,rfl⟩:=r1
 exact⟨some i,H1,I1,.int i t,q⟩
def xO(X:Cx)(r:V->Option Int->Option Int->Hp->VK->Prop):Prop :=
 ∀(pins:List (Addr×Obj)) (s:Shared) (σ:St) (H:Hp) (x:V) (v vl vu:Value) (lo hi:Option Int) (sl:Addr) (Q:VK),Inv X pins σ H s->RelV x v->s.heap.IsSliceOf sl vl vu .none->IsPart vl lo->IsPart vu hi->r x lo hi H Q ->
  ∃T id,typeLookup (.type T) "__getitem__"=pure (some (.builtin id))/\s.TypeIs v T/\wpAny (model X.prog X.w) X.A (getItem v (.ref sl)) (EP X pins σ Q) X.xe s
def tSl(r:V->Option Int->Option Int->Hp->VK->Prop)(te:TE)(tl th:TO):TE:=λσ H Q=>te σ H λx H1=>tl σ H1 λl H2=>th σ H2 λu H3=>r x l u H3 Q
def cn{r:V->Option Int->Option Int->Hp->VK->Prop}(hr:xO X r)(he:PE X e te)(hl:PO X lo tl)(hu:PO X hi th):PE X (.Subscript e (.Slice lo hi none p2) pos) (tSl r te tl th):=by
 intro pins s σ H Q I h
 refine Subscript_ (a6 (he pins s σ H _ I h) λv s1 hZ=>?_)
 obtain⟨x,H1,I1,r1,q1⟩:=hZ
 refine wpAny_Slice (a6 (hl pins s1 σ H1 _ I1 q1) λvl s2 ⟨l,H2,I2,pl,q2⟩=>a6 (hu pins s2 σ H2 _ I2 q2) λvu s3 hZ=>?_)
 obtain⟨u,H3,I3,pu,q3⟩:=hZ
 rw[evalPart_none]
 refine yj ?_
 have I4:Inv X pins σ H3 { s3 with heap:=s3.heap.push { cls:=.type "slice",data:=.fields #[vl,vu,.none] } }:=I3.kept (t':=s3.toks) λb ob q=>ye _ q
 obtain⟨T,id,hT,ht,hg⟩:=hr pins { s3 with heap:=s3.heap.push { cls:=.type "slice",data:=.fields #[vl,vu,.none] } } σ H3 x v vl vu l u s3.heap.objs.size Q I4 r1 (Heap.IsSliceOf.new ..) pl pu q3
 show wpAny (model X.prog X.w) X.A (subscriptTail e (.Slice lo hi none p2) v (.ref s3.heap.objs.size)) (EP X pins σ Q) X.xe { s3 with heap:=s3.heap.push { cls:=.type "slice",data:=.fields #[vl,vu,.none] } }
 exact tail_any (ops:=[.ref s3.heap.objs.size,v]) ht hT hg (by with_unfolding_all rfl)
def dO(xs:List V)(lo hi:Option Int):List V:=(xs.drop (HT.ja xs.length 0 lo)).take (HT.ja xs.length xs.length hi-HT.ja xs.length 0 lo)
def kM(xs:List V)(lo hi:Option Int):(dO xs lo hi).length<=xs.length:=by
 unfold dO
 rw[yB,AR]
 lia
end
end L2
namespace L2
open PySem PySem.Spec PyProof.Rows
def qu(n:Nat)(i:Int):Option Nat:=if 0<=i then(if i<n then some i.toNat else none) else if -(n:Int)<=i then some (i+n).toNat else none
def gH{α:Type}(xs:List α)(i:Int):Option α:=(qu xs.length i).bind λj=>xs[j]?
def sE{n:Nat}{i:Int}{j:Nat}(h:qu n i=some j):seqIndex? i n=some j/\j<n/\-(n:Int)<=i/\i<n:=by
 unfold qu at h
 by_cases h0:0<=i
 ·rw[yF h0]at h
  by_cases h1:i<n
  ·rw[yF h1]at h
   have e:i.toNat=j:=yV h
   exact⟨by rw[seqIndex_of h0 h1,e],by lia,by lia,h1⟩
  ·rw[yt h1]at h;cases h
 ·rw[yt h0]at h
  by_cases h1 : -(n:Int)<=i
  ·rw[yF h1]at h
   have e:(i+n).toNat=j:=yV h
   exact⟨by rw[seqIndex_neg (by lia) h1,e],by lia,h1,by lia⟩
  ·rw[yt h1]at h;cases h
def jY{α:Type}{xs:List α}{i:Int}{v:α}(h:gH xs i=some v):∃j,seqIndex? i xs.length=some j/\xs[j]?=some v/\j<xs.length/\-(xs.length:Int)<=i/\i<xs.length:=by
 unfold gH at h
 cases e:qu xs.length i with
 |none=>rw[e]at h;cases h
 |some j =>
  rw[e]at h
  obtain⟨h1,h2,h3,h4⟩:=sE e
  exact⟨j,h1,h,h2,h3,h4⟩
def cG{α:Type}{xs:List α}{j:Nat}{v:α}(h:xs[j]?=some v):gH xs (j:Int)=some v:=by
 have hj:j<xs.length:=(yz.mp h).1
 have e:qu xs.length (j:Int)=some j:=by
  unfold qu
  rw[yF (by lia),yF (by lia)];simp
 unfold gH;rw[e];exact h
def tJ(b:Expr):Prop:=∀o i,subscripted b false o i=operate [o,i] (getItem o i)
def wX(X:Cx)(r:R2):Prop :=
 ∀(value slice:Expr) (pins:List (Addr×Obj)) (s:Shared) (σ:St) (H:Hp) (x y:V) (v u:Value) (Q:VK),Inv X pins σ H s->RelV x v->RelV y u->r x y H Q ->
  subscripted slice false v u=operate [v,u] (getItem v u)->wpAny (model X.prog X.w) X.A (subscriptTail value slice v u) (EP X pins σ Q) X.xe s
def MtR(X:Cx)(id:String)(r:V->List V->Hp->VK->Prop):Prop :=
 ∀(pins:List (Addr×Obj)) (s:Shared) (σ:St) (H:Hp) (x:V) (xs:List V) (v:Value) (us:List Value) (Q:VK),Inv X pins σ H s->RelV x v->Vals xs us->r x xs H Q ->
  wpAny (model X.prog X.w) X.A (call (.builtin id) (v::us)) (EP X pins σ Q) X.xe s
section
variable {X:Cx}{a b:Expr}{ta tb:TE}{pos:Pos}
def aW{r:R2}(hr:wX X r)(ha:PE X a ta)(hb:PE X b tb)(hs:tJ b):PE X (.Subscript a b pos) (wQ r ta tb):=by
 intro pins s σ H Q I h
 exact Subscript_ (ve ha hb I h λv u s2 x y H2 I2 rx ry q=>hr a b pins s2 σ H2 x y v u Q I2 rx ry q (hs _ _))
def x5(K:PySem.W.Frag):R2:=λx y H Q=>∃p xs i v,x=.ref p/\y=.int i/\aA K H p xs/\gH xs i=some v/\Q v H
def xt(K:PySem.W.Frag):R2:=λx y H Q=>∃p xs i v,x=.ref p/\y=.int i/\cY K H p xs/\gH xs i=some v/\Q v H
def xP:R2:=λx y H Q=>∃z i c,x=.str z/\y=.int i/\z.length<=sizeLine/\gH z.cps.toList i=some c/\Q (.str ⟨#[c]⟩) H
def aJ:wX X (x5 X.K):=by
 intro value slice pins s σ H x y v u Q I rx ry h hs
 obtain⟨p,xs,i,z,rfl,rfl,hq,he,q⟩:=h
 cases rx
 obtain⟨t,rfl⟩:=ry
 obtain⟨its,r,pl,hz⟩:=I.list hq
 obtain⟨j,h1,h2,h3,h4,h5⟩:=jY he
 obtain⟨w,ew,rw'⟩:=r.get h2
 have hl:=r.length
 have hn:=i4
 have fin:EP X pins σ Q w s:=⟨z,H,I,rw',q⟩
 by_cases h0:0<=i
 ·have hj:i.toNat=j:=by
   rw[seqIndex_of h0 h5]at h1
   exact yV h1
  exact item_listR pl.isList h0 (by lia) (by rw[hj];simpa using ew) fin hs
 ·have hj:(i+(its.toArray.size:Int)).toNat=j:=by
   rw[seqIndex_neg (by lia) h4]at h1
   rw[yw,<-hl]
   exact yV h1
  exact subscriptTail_builtinR (x:=w) pl.isList.typeIs slot_list_getitem.lookup
   (wpAny_getItem_list_neg (Q:=λr s'=>r=w/\EP X pins σ Q r s') pl.isList (by lia) (by rw[yw] <;> lia) (by lia) (by rw[hj];simpa using ew) ⟨rfl,fin⟩) hs
def i7:wX X (xt X.K):=by
 intro value slice pins s σ H x y v u Q I rx ry h hs
 obtain⟨p,xs,i,z,rfl,rfl,hq,he,q⟩:=h
 cases rx
 obtain⟨t,rfl⟩:=ry
 obtain⟨its,r,pl,hz⟩:=I.tuple hq
 obtain⟨j,h1,h2,h3,h4,h5⟩:=jY he
 obtain⟨w,ew,rw'⟩:=r.get h2
 have hl:=r.length
 have hn:=i4
 have fin:EP X pins σ Q w s:=⟨z,H,I,rw',q⟩
 exact subscriptTail_builtinR (x:=w) pl.typeIs slot_tuple_getitem.lookup
  (getItem_tuple (j:=j) (Q:=λr s'=>r=w/\EP X pins σ Q r s') pl (by lia) (by lia) (by rw[yw,<-hl];exact h1) (by simpa using ew) ⟨rfl,fin⟩) hs
def fJ:wX X xP:=by
 intro value slice pins s σ H x y v u Q I rx ry h hs
 obtain⟨z,i,c,rfl,rfl,hz,he,q⟩:=h
 obtain⟨t,rfl⟩:=rx
 obtain⟨t',rfl⟩:=ry
 obtain⟨j,h1,h2,h3,h4,h5⟩:=jY he
 have hl:z.cps.toList.length=z.length:=by simp[Str.length]
 rw[hl]at h1 h4 h5
 have hn:=i4
 exact tail_any (typeIs_str s z t) slot_str_getitem.lookup (getItem_str (c:=c) (by
  have e1:decide (i < -(2 ^ 63:Int))=false:=yL (by lia)
  have e2:decide (i>=2 ^ 63)=false:=yL (by lia)
  rw[e1,e2,BM]) (by rw[h1];simpa using h2) ⟨.str ⟨#[c]⟩,H,I.tok _,⟨_,rfl⟩,q⟩) hs
def jQ(lo hi:Option Int)(n:Nat):(sliceBounds lo hi none n).1=((HT.ja n 0 lo:Nat):Int)/\(sliceBounds lo hi none n).2.1=((HT.ja n n hi:Nat):Int)/\(sliceBounds lo hi none n).2.2=1:=by
 refine⟨?_,?_,rfl⟩
 ·cases lo with
  |none=>simp[sliceBounds,HT.ja]
  |some i =>
   simp only[sliceBounds,HT.ja,Option.getD_none,show(1:Int) > 0 by decide,Bg]
   by_cases h:i<0
   ·simp only[h,Bg] <;> lia
   ·simp only[h,Bi] <;> lia
 ·cases hi with
  |none=>simp[sliceBounds,HT.ja]
  |some i =>
   simp only[sliceBounds,HT.ja,Option.getD_none,show(1:Int) > 0 by decide,Bg]
   by_cases h:i<0
   ·simp only[h,Bg] <;> lia
   ·simp only[h,Bi] <;> lia
def jd(its:List Value)(lo hi:Option Int):slicePick its.toArray lo hi none=((its.drop (HT.ja its.length 0 lo)).take (HT.ja its.length its.length hi-HT.ja its.length 0 lo)).toArray:=by
 obtain⟨h1,h2,h3⟩:=jQ lo hi its.toArray.size
 unfold slicePick
 rw[h1,h2,h3]
 simp only[sliceRange_one,pick_run,yw] <;> rfl
def xG(K:PySem.W.Frag):V->Option Int->Option Int->Hp->VK->Prop:=λx lo hi H Q=>∃a xs,x=.ref a/\aA K H a xs/\∀p,H p=none->Q (.ref p) (upd H p (.lst (dO xs lo hi)))
def e8:xO X (xG X.K):=by
 intro pins s σ H x v vl vu lo hi sl Q I rx hs pl pu h
 obtain⟨a,xs,rfl,hx,q⟩:=h
 cases rx
 obtain⟨its,r,ht,hz⟩:=I.list hx
 have hlen:=r.length
 refine⟨"list",_,slot_list_getitem.lookup,ht.isList.typeIs,?_⟩
 refine wpAny_getItem_list_slice ht.isList hs pl pu .none (by simp) ?_ (by rw[yw] <;> lia)
 rw[jd,<-hlen]
 refine⟨.ref s.heap.objs.size,_,I.laid (t':=s.toks) (o:=.lst (dO xs lo hi)) (λb ob q=>ye _ q) (yi _) ?_,rfl,q _ (I.hok.fresh (yi _))⟩
 exact⟨yI (kM xs lo hi) hz,_,0,(r.drop (HT.ja xs.length 0 lo)).take (HT.ja xs.length xs.length hi-HT.ja xs.length 0 lo),ym _ rfl⟩
def fS:V->Bool
 |.non=>true
 |.bl _=>true
 |.int _=>true
 |.str _=>true
 |_=>false
def qe:V->V->Bool
 |.non,.non=>true
 |.bl a,.bl b=>a==b
 |.bl a,.int b=>(if a then 1 else 0)==b
 |.int a,.bl b=>a==(if b then 1 else 0)
 |.int a,.int b=>a==b
 |.str a,.str b=>a==b
 |_,_=>false
def uS{A:Around}{s:Shared}{y x:V}{u v:Value}(ry:RelV y u)(rx:RelV x v)(fy:fS y=true)(fx:fS x=true):SeqAt.EqAt A s u v (qe y x):=by
 cases y with
 |non =>
  cases ry
  cases x with
  |non=>cases rx;exact SeqAt.EqAt.same _
  |bl b=>cases rx;exact SeqAt.EqAt.none_bool b
  |int b=>obtain⟨t,rfl⟩:=rx;exact SeqAt.EqAt.none_int b t
  |str b=>obtain⟨t,rfl⟩:=rx;exact SeqAt.EqAt.none_str b t
  |_=>exact absurd (show false=true from fx) yv
 |bl a =>
  cases ry
  cases x with
  |non=>cases rx;exact SeqAt.EqAt.bool_none a
  |bl b=>cases rx;exact SeqAt.EqAt.bool_bool a b
  |int b=>obtain⟨t,rfl⟩:=rx;exact SeqAt.EqAt.bool_int a b t
  |str b=>obtain⟨t,rfl⟩:=rx;exact SeqAt.EqAt.bool_str a b t
  |_=>exact absurd (show false=true from fx) yv
 |int a =>
  obtain⟨t',rfl⟩:=ry
  cases x with
  |non=>cases rx;exact SeqAt.EqAt.int_none a t'
  |bl b=>cases rx;exact SeqAt.EqAt.int_bool a t' b
  |int b=>obtain⟨t,rfl⟩:=rx;exact SeqAt.EqAt.int_int a t' b t
  |str b=>obtain⟨t,rfl⟩:=rx;exact SeqAt.EqAt.int_str a t' b t
  |_=>exact absurd (show false=true from fx) yv
 |str a =>
  obtain⟨t',rfl⟩:=ry
  cases x with
  |non=>cases rx;exact SeqAt.EqAt.str_none a t'
  |bl b=>cases rx;exact SeqAt.EqAt.str_bool a t' b
  |int b=>obtain⟨t,rfl⟩:=rx;exact SeqAt.EqAt.str_int a t' b t
  |str b=>obtain⟨t,rfl⟩:=rx;exact SeqAt.EqAt.str_str a t' b t
  |_=>exact absurd (show false=true from fx) yv
 |_=>exact absurd (show false=true from fy) yv
def nh(x:V)(u:Value):Bool:=match u with
 |.none=>qe .non x
 |.bool b=>qe (.bl b) x
 |.int i _=>qe (.int i) x
 |.str z _=>qe (.str z) x
 |_=>false
def qU{x y:V}{u:Value}(r:RelV y u)(f:fS y=true):nh x u=qe y x:=by
 cases y with
 |non=>cases r;rfl
 |bl b=>cases r;rfl
 |int i=>obtain⟨t,rfl⟩:=r;rfl
 |str z=>obtain⟨t,rfl⟩:=r;rfl
 |_=>exact absurd (show false=true from f) yv
theorem gx{x:V}:∀{xs:List V} {us:List Value},Vals xs us->xs.all fS=true->us.any (nh x)=xs.any λy=>qe y x
 |_,_,.nil,_=>rfl
 |y::xs,u::us,.cons r t,f=>by
  rw[AO,Ao]at f
  rw[zG,zG,qU r f.1,gx t f.2]
theorem eZ{A:Around}{s:Shared}{x:V}{v:Value}(rx:RelV x v)(fx:fS x=true):∀{xs:List V} {us:List Value},Vals xs us->xs.all fS=true->∀u∈us,SeqAt.EqAt A s u v (nh x u)
 |_,_,.nil,_=>λu hu=>by cases hu
 |y::xs,u::us,.cons r t,f=>λu' hu=>by
  rw[AO,Ao]at f
  rcases yr.mp hu with rfl|hu
  ·rw[qU r f.1];exact uS r rx f.1 fx
  ·exact eZ rx fx t f.2 u' hu
def o7(x:V)(xs:List V):Bool:=xs.any λy=>qe y x
def rIn(K:PySem.W.Frag)(neg:Bool):R2:=λx y H Q=>∃p xs,y=.ref p/\(aA K H p xs\/cY K H p xs)/\fS x=true/\xs.all fS=true/\Q (.bl (if neg then !o7 x xs else o7 x xs)) H
def gS:gk X (compareOp .In) (rIn X.K false):=by
 intro pins s σ H x y v u Q I rx ry h
 obtain⟨p,xs,rfl,hq,fx,fs,q⟩:=h
 cases ry
 rcases hq with hq|hq
 ·obtain⟨its,r,pl,hz⟩:=I.list hq
  refine SeqAt.in_listAt (nh x) pl.isList (λw hw=>eZ rx fx r fs w (by simpa using hw)) ⟨.bl _,H,I,rfl,?_⟩
  rw[show its.toArray.any (nh x)=its.any (nh x) by simp,gx r fs]
  exact q
 ·obtain⟨its,r,pl,hz⟩:=I.tuple hq
  refine SeqAt.in_tupleAt (nh x) pl (λw hw=>eZ rx fx r fs w (by simpa using hw)) ⟨.bl _,H,I,rfl,?_⟩
  rw[show its.toArray.any (nh x)=its.any (nh x) by simp,gx r fs]
  exact q
def bf:gk X (compareOp .NotIn) (rIn X.K true):=by
 intro pins s σ H x y v u Q I rx ry h
 obtain⟨p,xs,rfl,hq,fx,fs,q⟩:=h
 cases ry
 rcases hq with hq|hq
 ·obtain⟨its,r,pl,hz⟩:=I.list hq
  refine SeqAt.notIn_listAt (nh x) pl.isList (λw hw=>eZ rx fx r fs w (by simpa using hw)) ⟨.bl _,H,I,rfl,?_⟩
  rw[show its.toArray.any (nh x)=its.any (nh x) by simp,gx r fs]
  exact q
 ·obtain⟨its,r,pl,hz⟩:=I.tuple hq
  refine SeqAt.notIn_tupleAt (nh x) pl (λw hw=>eZ rx fx r fs w (by simpa using hw)) ⟨.bl _,H,I,rfl,?_⟩
  rw[show its.toArray.any (nh x)=its.any (nh x) by simp,gx r fs]
  exact q
def bO:dD X (.type "list") (λxs H Q=>∃p ys,xs=[.ref p]/\(aA X.K H p ys\/cY X.K H p ys)/\∀l,H l=none->Q (.ref l) (upd H l (.lst ys))):=by
 intro pins s σ H xs us Q I r h
 obtain⟨p,ys,rfl,hq,q⟩:=h
 obtain⟨u,rfl,rx⟩:=vals1 r
 cases rx
 have fin:∀(its:List Value),Vals ys its->ys.length<=sizeLine->∀(h':Heap) (c':Nat),(∀b o',s.heap.get? b=some o'->h'.get? b=some o') ->
   h'.get? s.heap.objs.size=some { cls:=.type "list",dict:=none,data:=.seq its.toArray c',slots:=#[] }->EP X pins σ Q (.ref s.heap.objs.size) { s with heap:=h' }:=λits r' hz h' c' kp e =>
  ⟨.ref s.heap.objs.size,_,I.laid (t':=s.toks) kp (yi _) (show aY X.prog X.w _ h' _ (.lst ys) from⟨hz,its,c',r',e⟩),rfl,q _ (I.hok.fresh (yi _))⟩
 rcases hq with hq|hq
 ·obtain⟨its,r',pl,hz⟩:=I.list hq
  have hlen:=r'.length
  obtain⟨o,ho,hc,n,hd⟩:=pl.isList
  exact call_list_seq p (.inl rfl) ho hc hd (λh' c' kp e=>fin its r' hz h' c' kp e) (by simp only[yw] <;> lia)
 ·obtain⟨its,r',pl,hz⟩:=I.tuple hq
  have hlen:=r'.length
  obtain⟨o,ho,hc,n,hd⟩:=pl
  exact call_list_seq p (.inr rfl) ho hc hd (λh' c' kp e=>fin its r' hz h' c' kp e) (by simp only[yw] <;> lia)
def bj:dD X (.type "tuple") (λxs H Q=>∃p ys,xs=[.ref p]/\((aA X.K H p ys/\∀l,H l=none->Q (.ref l) (upd H l (.tup ys)))\/(cY X.K H p ys/\Q (.ref p) H))):=by
 intro pins s σ H xs us Q I r h
 obtain⟨p,ys,rfl,h⟩:=h
 obtain⟨u,rfl,rx⟩:=vals1 r
 cases rx
 rcases h with⟨hq,q⟩|⟨hq,q⟩
 ·obtain⟨its,r',pl,hz⟩:=I.list hq
  have hlen:=r'.length
  refine call_tuple_list pl.isList (λh' kp=>?_) (by simp only[yw] <;> lia)
  have I1:Inv X pins σ H { s with heap:=h' }:=I.kept (t':=s.toks) kp
  have I2:Inv X pins σ (upd H h'.objs.size (.tup ys)) { s with heap:=h'.push { cls:=.type "tuple",data:=.seq its.toArray } } :=
   I1.laid (t':=s.toks) (λb o e=>ye _ e) (yi _) (show aY X.prog X.w _ _ _ (.tup ys) from⟨hz,its,r',IsTup.new _ _⟩)
  exact⟨.ref h'.objs.size,_,I2,rfl,q _ (I1.hok.fresh (yi _))⟩
 ·obtain⟨its,r',pl,hz⟩:=I.tuple hq
  exact call_tuple_same pl ⟨.ref p,H,I,rfl,q⟩
def tyV(K:PySem.W.Frag)(T:String)(x:V)(H:Hp):Prop:=match x with
 |.str _=>T="str"
 |.int _=>T="int"
 |.ref p=>(T="list"/\∃xs,aA K H p xs)\/(T="tuple"/\∃o,K.lookup p=some o/\o.cls=.type "tuple"/\o.dict=none) \/
   (T="dict"/\((∃kvs,H p=some (.dK kvs))\/∃kvs,H p=some (.dT kvs)))\/(T="set"/\∃S n,H p=some (.set S n))
 |_=>False
def uM{pins:List (Addr×Obj)}{σ:St}{H:Hp}{s:Shared}{T:String}{x:V}{v:Value}(I:Inv X pins σ H s)(r:RelV x v)(ty:tyV X.K T x H) :
  s.TypeIs v T/\∀a,v=.ref a->∃ob,s.heap.get? a=some ob/\ob.dict=none:=by
 cases x with
 |str z =>
  obtain⟨t,rfl⟩:=r
  cases (show T="str" from ty)
  exact⟨typeIs_str s z t,λ_ e=>nomatch e⟩
 |int i =>
  obtain⟨t,rfl⟩:=r
  cases (show T="int" from ty)
  exact⟨typeIs_int s i t,λ_ e=>nomatch e⟩
 |ref p =>
  cases r
  rcases ty with⟨rfl,xs,hq⟩|⟨rfl,o,hk,hc,hd⟩|⟨rfl,hk⟩|⟨rfl,S,n,hk⟩
  ·obtain⟨its,_,pl,_⟩:=I.list hq
   refine⟨pl.isList.typeIs,λa e=>?_⟩
   cases e
   obtain⟨o,n,e,c,hd,_⟩:=pl
   exact⟨o,e,hd⟩
  ·refine⟨⟨o,I.gB p o hk,hc⟩,λa e=>?_⟩
   cases e
   exact⟨o,I.gB _ o hk,hd⟩
  ·have z:∃o,s.heap.get? p=some o/\o.ExactDict:=by
    rcases hk with⟨kvs,hk⟩|⟨kvs,hk⟩
    ·obtain⟨_,_,_,_,o,_,_,e,ex,_⟩:=I.hok p _ hk
     exact⟨o,e,ex⟩
    ·obtain⟨_,_,_,_,o,_,_,e,ex,_⟩:=I.hok p _ hk
     exact⟨o,e,ex⟩
   obtain⟨o,e,ex⟩:=z
   refine⟨⟨o,e,ex.1⟩,λa e2=>?_⟩
   cases e2
   exact⟨o,e,ex.2.1⟩
  ·obtain⟨o,_,_,_,e,ex,_⟩:=I.hok p _ hk
   refine⟨⟨o,e,ex.1⟩,λa e2=>?_⟩
   cases e2
   exact⟨o,e,ex.2.1⟩
 |_=>exact False.elim ty
def tBM(K:PySem.W.Frag)(T:String)(r:V->List V->Hp->VK->Prop)(to:TE)(t:TA):TE:=λσ H Q=>to σ H λx H1=>tyV K T x H1/\t σ H1 λxs H2=>r x xs H2 Q
variable {o e:Expr}{es:List Expr}{to:TE}{t:TA}{name:Str}{apos cpos:Pos}{T id:String}{r:V->List V->Hp->VK->Prop}
def eK(pa:PlainAttrs T)(slot:Slot T name id)(hty:typeOf (.builtin id)=pure (.type "method_descriptor"))(hm:MtR X id r)(ho:PE X o to)(ha:PA X (e::es) t)
  (hbase:attributeBase o name X.env (eval o X.env)=eval o X.env:=by rfl)
  (hfew:((backTo cpos (starEach (e :: es) X.env)).all (λx=>!x.1) && (backToKw cpos (keywordEach [] X.env)).all (λx=>x.1.isSome)
   && decide ((e::es).length+([]:List Keyword).length+(if ([]:List Keyword).isEmpty then 0 else 1)<30))=true:=by rfl)
  (hline:(apos.endLine==cpos.line)=true:=by rfl) (hs:starEach (e::es) X.env=(false,eval e X.env)::starEach es X.env:=by rfl) (hplain:(backTo cpos (starEach es X.env)).any (·.1)=false:=by rfl) :
  PE X (.Call (.Attribute o name apos) (e::es) [] cpos) (tBM X.K T r to t):=by
 intro pins s σ H Q I h
 refine wpAny_Call_method_late hbase hfew hline rfl (a6 (ho pins s σ H _ I h) λv s1 hZ=>?_)
 obtain⟨x,H1,I1,r1,ty,q1⟩:=hZ
 obtain⟨h1,h2⟩:=uM I1 r1 ty
 refine⟨T,id,pa,slot,hty,h1,h2,?_⟩
 have hA:=ha cpos pins s1 σ H1 _ I1 q1
 rw[hs]at hA ⊢
 refine Calls.callWith_builtin (by show(false || (backTo cpos (starEach es X.env)).any (·.1))=false;rw[hplain] <;> rfl) (Calls.evalArgs_plain ?_)
 exact a6 hA λus s2 ⟨vs,H2,I2,r2,q2⟩=>hm pins s2 σ H2 x vs v us Q I2 r1 r2 q2
end
end L2
namespace L2
open PySem PySem.Spec PyProof.Rows
def MtM(X:Cx)(id:String)(r:V->List V->Hp->VK->Prop):Prop :=
 ∀(pins:List (Addr×Obj)) (s:Shared) (σ:St) (H:Hp) (x:V) (xs:List V) (v:Value) (us:List Value) (Q:VK),Inv X pins σ H s->RelV x v->Vals xs us->r x xs H Q ->
  wpAny (model X.prog X.w) X.A (call (.builtin id) (v::us)) (EP X pins σ Q) X.xe s
def Vals.one{x:V}{us:List Value}(h:Vals [x] us):∃u,us=[u]/\RelV x u:=by
 cases h with
 |cons r q =>
  cases q
  exact⟨_,rfl,r⟩
theorem Vals.eraseIdx:∀{xs:List V} {us:List Value} (i:Nat),Vals xs us->Vals (xs.eraseIdx i) (us.eraseIdx i)
 |_,_,_,.nil=>.nil
 |_,_,0,.cons _ t=>t
 |_,_,i+1,.cons r t=>.cons r (Vals.eraseIdx i t)
theorem Vals.reverse{xs:List V}{us:List Value}(h:Vals xs us):Vals xs.reverse us.reverse:=by
 induction h with
 |nil=>exact .nil
 |cons r t ih=>rw[Ba,Ba];exact Vals.append ih (.cons r .nil)
theorem jt{α:Type}:∀(l:List α) (i:Nat),(l.eraseIdx i).length<=l.length
 |[],_=>yi _
 |_::_,0=>zV _
 |_::r,i+1=>Nat.succ_le_succ (jt r i)
section
variable {X:Cx}{pins:List (Addr×Obj)}{σ:St}{H:Hp}{s:Shared}{l b:Addr}{xs ys zs:List V}
def Inv.wN{its its':List Value}{n:Nat}{f:Array Value->Array Value}{t':Nat}(I:Inv X pins σ H s)(hH:H l=some (.lst xs))
  (e:s.heap.get? l=some { cls:=.type "list",data:=.seq its.toArray n }) (hf:f its.toArray=its'.toArray) (hv:Vals ys its') (hz:ys.length<=sizeLine) :
  Inv X pins σ (upd H l (.lst ys)) { s with heap:=s.heap.update l (Obj.mapSeq f),toks:=t' }:=by
 have q:=PySem.IsL.update e f
 rw[hf]at q
 refine I.write (x:=l) (e:=l) (by rw[hH];exact trivial) (.inl rfl) (λb' u hb hu=>(zL s.heap (Obj.mapSeq f) (Ac hb)).trans hu) ⟨_,q⟩ ?_
 exact⟨hz,its',_,hv,q⟩
def Inv.vp{its:List Value}{t':Nat}(I:Inv X pins σ H s)(hv:Vals ys its)(hz:ys.length<=sizeLine) :
  Inv X pins σ (upd H s.heap.objs.size (.lst ys)) { s with heap:=s.heap.push { cls:=.type "list",data:=.seq its.toArray },toks:=t' } :=
 I.laid (λ_ _ q=>ye _ q) (yi _) ⟨hz,its,0,hv,ym _ rfl⟩
theorem Inv.fresh(I:Inv X pins σ H s):H s.heap.objs.size=none:=I.hok.fresh (yi _)
def Inv.sD(I:Inv X pins σ H s)(hH:H l=some (.lst xs)):xs.length<=sizeLine/\∃(its:List Value) (n:Nat),Vals xs its/\xs.length=its.length/\s.heap.get? l=some { cls:=.type "list",data:=.seq its.toArray n }:=by
 obtain⟨z,its,n,r,e⟩:=I.hok l _ hH
 exact⟨z,its,n,r,r.length,e⟩
end
section
variable {X:Cx}
def tj:V->List V->Hp->VK->Prop:=λx vs H Q=>∃l xs y,x=.ref l/\vs=[y]/\H l=some (.lst xs)/\xs.length<sizeLine/\Q .non (upd H l (.lst (xs++[y])))
def bb:MtM X "list.append" tj:=by
 intro pins s σ H x vs v us Q I rx rv h
 obtain⟨l,xs,y,rfl,rfl,hH,hz,q⟩:=h
 cases rx
 obtain⟨u,rfl,ru⟩:=rv.one
 obtain⟨z,its,n,r,hl,e⟩:=I.sD hH
 refine call_meets F.slot_list_append ⟨_,e,rfl⟩ F.entry_list_append (F.args_list_append_2 _ _) (PySem.list_append l its.toArray n u (by rw[yw];lia)) ⟨e,?_⟩
 refine⟨.non,_,I.wN (its':=its++[u]) hH e (by simp) (r.append (.cons ru .nil)) ?_,rfl,q⟩
 rw[yp,Al]
 lia
def uL:V->List V->Hp->VK->Prop:=λx vs H Q=>∃l xs i k y,x=.ref l/\vs=[.int i]/\H l=some (.lst xs)/\-(2 ^ 63)<=i/\i<2 ^ 63/\seqIndex? i xs.length=some k/\xs[k]?=some y/\Q y (upd H l (.lst (xs.eraseIdx k)))
def rJ:MtM X "list.pop" uL:=by
 intro pins s σ H x vs v us Q I rx rv h
 obtain⟨l,xs,i,k,y,rfl,rfl,hH,h1,h2,hk,hy,q⟩:=h
 cases rx
 obtain⟨u,rfl,ru⟩:=rv.one
 obtain⟨t,rfl⟩:=ru
 obtain⟨z,its,n,r,hl,e⟩:=I.sD hH
 obtain⟨w,hw,rw'⟩:=r.get hy
 refine call_meets F.slot_list_pop ⟨_,e,rfl⟩ F.entry_list_pop (F.args_list_pop_2 _ _)
  (MeetsSeq.list_pop_at l its.toArray n i t k w (fitsIndex_both h1 h2) (by rw[yw,<-hl];exact hk) (by rw[<-yY];exact hw) (by rw[yw];lia)) ⟨e,?_⟩
 refine⟨y,_,I.wN (its':=its.eraseIdx k) hH e ?_ (r.eraseIdx k) ?_,rw',q⟩
 ·show its.toArray.eraseIdxIfInBounds k=(its.eraseIdx k).toArray
  rw[List.eraseIdxIfInBounds_toArray]
 ·have:=jt xs k
  lia
def xS:R2:=λx y H Q=>∃l b xs zs,x=.ref l/\y=.ref b/\H l=some (.lst xs)/\H b=some (.lst zs)/\xs.length+zs.length<=sizeLine/\∀p,H p=none->Q (.ref p) (upd H p (.lst (xs++zs)))
def cQ:gk X (binaryOp .Add) xS:=by
 intro pins s σ H x y v u Q I rx ry h
 obtain⟨l,b,xs,zs,rfl,rfl,hH,hB,hz,q⟩:=h
 cases rx
 cases ry
 obtain⟨z,its,n,r,hl,e⟩:=I.sD hH
 obtain⟨z2,its2,n2,r2,hl2,e2⟩:=I.sD hB
 refine PySem.P.add_list e e2 ?_ (by rw[yw,yw];lia)
 have ea:its.toArray++its2.toArray=(its++its2).toArray:=by simp
 rw[ea]
 exact⟨.ref _,_,I.vp (t':=s.toks) (r.append r2) (by rw[yp];lia),rfl,q _ I.fresh⟩
end
section
variable {X:Cx}
end
end L2
namespace L2
open PySem PySem.Spec PyProof.Rows
section
variable {κ:Type}[DecidableEq κ]
def cL(kvs:List (κ×V))(k:κ):Option V:=(kvs.find? λkv=>decide (kv.1=k)).map (·.2)
def putK(kvs:List (κ×V))(k:κ)(v:V):List (κ×V) :=
 if (kvs.any λkv=>decide (kv.1=k))=true then kvs.map (λkv=>if kv.1=k then(kv.1,v) else kv) else kvs++[(k,v)]
def c7{p:κ×V}{r:List (κ×V)}{k:κ}(e:p.1=k):cL (p::r) k=some p.2:=by simp[cL,zP,e]
def cw{p:κ×V}{r:List (κ×V)}{k:κ}(e:¬p.1=k):cL (p::r) k=cL r k:=by simp[cL,zP,e]
theorem gs(k:κ):∀kvs:List (κ×V),(kvs.any λkv=>decide (kv.1=k))=(cL kvs k).isSome
 |[]=>rfl
 |p::r=>by
  rw[zG]
  by_cases e:p.1=k
  ·simp only[c7 e,yy e,Bool.true_or,Option.isSome_some]
  ·rw[cw e,yL e,Bool.false_or];exact gs k r
def hX(kvs:List (κ×V))(k:κ)(v:V):(putK kvs k v).length<=kvs.length+1:=by
 unfold putK
 split
 ·rw[yf];lia
 ·rw[yp,yQ,List.length_nil];lia
def dc{kvs:List (κ×V)}{k:κ}(v:V)(h:cL kvs k=none):putK kvs k v=kvs++[(k,v)]:=by
 unfold putK
 rw[gs,h]
 exact yt (by decide)
def fi.gL{o:Option V}{u:Option Value}(r:fi o u):o.isSome=u.isSome:=by
 cases o with
 |none=>cases u with
  |none=>rfl
  |some _=>exact(show False from r).elim
 |some _=>cases u with
  |none=>exact(show False from r).elim
  |some _=>rfl
def KV.val{kvs:List (κ×V)}{vs:List (κ×Value)}(r:KV kvs vs)(k:κ):fi (cL kvs k) (valueAt vs k):=by
 unfold KV at r
 induction r with
 |nil=>exact True.intro
 |@cons p q ps qs h t ih =>
  obtain⟨h1,h2⟩:=h
  by_cases e:p.1=k
  ·have e':q.1=k:=h1.symm.trans e
   have b:valueAt (q::qs) k=some q.2:=by simp[valueAt,zP,e']
   rw[c7 e,b];exact h2
  ·have e':¬q.1=k:=λz=>e (h1.trans z)
   have b:valueAt (q::qs) k=valueAt qs k:=by simp[valueAt,zP,e']
   rw[cw e,b];exact ih
theorem KV.any{kvs:List (κ×V)}{vs:List (κ×Value)}(r:KV kvs vs)(k:κ):(kvs.any λkv=>decide (kv.1=k))=vs.any λkv=>decide (kv.1=k):=by
 unfold KV at r
 induction r with
 |nil=>rfl
 |cons h t ih=>rw[zG,zG,ih,h.1]
def KV.vv{kvs:List (κ×V)}{vs:List (κ×Value)}(r:KV kvs vs)(k:κ){y:V}{u:Value}(ry:RelV y u) :
  KV (kvs.map λkv=>if kv.1=k then(kv.1,y) else kv) (vs.map λkv=>if kv.1=k then(kv.1,u) else kv):=by
 unfold KV at r ⊢
 induction r with
 |nil=>exact .nil
 |@cons p q ps qs h t ih =>
  rw[yX,yX]
  refine .cons ?_ ih
  obtain⟨h1,h2⟩:=h
  by_cases e:p.1=k
  ·rw[yF e,yF (h1.symm.trans e)];exact⟨h1,ry⟩
  ·rw[yt e,yt (λz=>e (h1.trans z))];exact⟨h1,h2⟩
def KV.put{kvs:List (κ×V)}{vs:List (κ×Value)}(r:KV kvs vs)(k:κ){y:V}{u:Value}(ry:RelV y u):KV (putK kvs k y) (stored vs k u):=by
 unfold putK stored
 rw[r.any k]
 by_cases e:(vs.any λkv=>decide (kv.1=k))=true
 ·rw[yF e,yF e];exact r.vv k ry
 ·rw[yt e,yt e];exact zu r ⟨rfl,ry⟩
def KV.keys{kvs:List (κ×V)}{vs:List (κ×Value)}(r:KV kvs vs):kvs.map (·.1)=vs.map (·.1):=by
 unfold KV at r
 induction r with
 |nil=>rfl
 |cons h t ih=>rw[yX,yX,ih,h.1]
theorem KV.length{kvs:List (κ×V)}{vs:List (κ×Value)}(r:KV kvs vs):kvs.length=vs.length:=yG r
end
def oN{P:Program}{w:World}{k:Key}{u:Value}(r:RelV (kV k) u):(aR P w).is k u=true:=by
 cases k with
 |inl i=>obtain⟨t,e⟩:=(show ∃t,u=Value.int i t from r);subst e;exact lX P w i t
 |inr x=>obtain⟨t,e⟩:=(show ∃t,u=Value.str x t from r);subst e;exact lN P w x t
theorem jK{P:Program}{w:World}:∀{ks:List Key} {us:List Value},Vals (ks.map kV) us->ItemsAre (aR P w) ks us
 |[],_,r=>by rw[BS]at r;cases r;exact .nil
 |k::ks,_,r=>by
  rw[yX]at r
  cases r with
  |cons h t=>exact .cons (oN h) (jK t)
abbrev KT(H:Hp):List (List Key×V)->List (List Key×Addr×Value)->Prop:=Paired λp q=>p.1=q.1/\H q.2.1=some (.tup (p.1.map kV))/\RelV p.2 q.2.2
def KT.val{H:Hp}{kvs:List (List Key×V)}{xs:List (List Key×Addr×Value)}(r:KT H kvs xs)(k:List Key):fi (cL kvs k) ((atKey xs k).map (·.2)):=by
 induction r with
 |nil=>exact True.intro
 |@cons p q ps qs h t ih =>
  obtain⟨h1,_,h2⟩:=h
  by_cases e:p.1=k
  ·have e':q.1=k:=h1.symm.trans e
   have b:atKey (q::qs) k=some q.2:=by simp[atKey,zP,e']
   rw[c7 e,b];exact h2
  ·have e':¬q.1=k:=λz=>e (h1.trans z)
   have b:atKey (q::qs) k=atKey qs k:=by simp[atKey,zP,e']
   rw[cw e,b];exact ih
def KT.vv{H:Hp}{kvs:List (List Key×V)}{xs:List (List Key×Addr×Value)}(r:KT H kvs xs)(k:List Key){y:V}{u:Value}(ry:RelV y u) :
  KT H (kvs.map λkv=>if kv.1=k then(kv.1,y) else kv) (xs.map (putAt k u)):=by
 induction r with
 |nil=>exact .nil
 |@cons p q ps qs h t ih =>
  rw[yX,yX]
  refine .cons ?_ ih
  obtain⟨h1,h2,h3⟩:=h
  unfold putAt
  by_cases e:p.1=k
  ·rw[yF e,yF (h1.symm.trans e)];exact⟨h1,h2,ry⟩
  ·rw[yt e,yt (λz=>e (h1.trans z))];exact⟨h1,h2,h3⟩
def KT.put{H:Hp}{kvs:List (List Key×V)}{xs:List (List Key×Addr×Value)}(r:KT H kvs xs)(k:List Key){b:Addr}{y:V}{u:Value}(hb:H b=some (.tup (k.map kV)))(ry:RelV y u) :
  KT H (putK kvs k y) (storedH xs k b u):=by
 have e:(kvs.any λkv=>decide (kv.1=k))=(atKey xs k).isSome:=by
  rw[gs,(r.val k).gL,Option.isSome_map]
 unfold putK storedH
 rw[e]
 by_cases q:(atKey xs k).isSome=true
 ·rw[yF q,yF q];exact r.vv k ry
 ·rw[yt q,yt q];exact zu r ⟨rfl,hb,ry⟩
def KT.keeps{H H':Hp}{kvs:List (List Key×V)}{xs:List (List Key×Addr×Value)}(r:KT H kvs xs)(ht:∀b ys,H b=some (.tup ys)->H' b=some (.tup ys)):KT H' kvs xs :=
 Paired.dy r λ_ _ z=>⟨z.1,ht _ _ z.2.1,z.2.2⟩
section
variable {P:Program}{w:World}{H:Hp}{h:Heap}{a:Addr}
def uz{u:HO}(ok:fe P w H h)(e:Rd H a u):aY P w H h a u:=e.ok ok
def lj{kvs:List (Key×V)}(ok:fe P w H h)(e:Rd H a (.dK kvs)):kvs.length<=sizeLine/\(a==sysModules)=false/\∃vs,KV kvs vs/\h.DictOf (aR P w) a vs :=
 show aY P w H h a (.dK kvs) from uz ok e
def ub{kvs:List (Key×V)}(ok:fe P w H h)(e:H a=some (.dK kvs)):kvs.length<=sizeLine/\(a==sysModules)=false/\∃vs,KV kvs vs/\h.DictOf (aR P w) a vs:=lj ok (.inl e)
def il{ks:List Key}(ok:fe P w H h)(e:H a=some (.tup (ks.map kV))):(tupleKind (aR P w)).is h ks a:=by
 obtain⟨_,its,r,o,h1,h2,n,h3⟩:=(show aY P w H h a (.tup (ks.map kV)) from ok a _ e)
 exact⟨o,its.toArray,n,h1,h2,h3,by simpa using jK r⟩
def n5{kvs:List (List Key×V)}(ok:fe P w H h)(e:Rd H a (.dT kvs)):kvs.length<=sizeLine/\(a==sysModules)=false /\
  ∃xs,KT H kvs xs/\h.DictOfH (tupleKind (aR P w)) a xs:=by
 obtain⟨z,y,xs,r,o,es,ep,h1,h2,h3,h4,h5⟩:=(show aY P w H h a (.dT kvs) from uz ok e)
 refine⟨z,y,xs,r,o,es,ep,h1,h2,h3,h4,λx hx=>?_,h5⟩
 have all:∀{l:List (List Key×V)} {m:List (List Key×Addr×Value)},KT H l m->∀x∈m,(tupleKind (aR P w)).is h x.1 x.2.1:=by
  intro l m q
  induction q with
  |nil=>intro x hx;exact nomatch hx
  |@cons p q ps qs hq t ih =>
   intro x hx
   rcases yr.mp hx with e|hx
   ·subst e
    exact il ok (by rw[<-hq.1];exact hq.2.1)
   ·exact ih x hx
 exact all r x hx
def uJ{kvs:List (List Key×V)}(ok:fe P w H h)(e:H a=some (.dT kvs)):kvs.length<=sizeLine/\(a==sysModules)=false /\
  ∃xs,KT H kvs xs/\h.DictOfH (tupleKind (aR P w)) a xs:=n5 ok (.inl e)
end
def dW(H:Hp)(a:Addr)(y:V)(r:Option V):Prop :=
 (∃kvs k,Rd H a (.dK kvs)/\y=kV k/\r=cL kvs k)\/∃kvs k b,Rd H a (.dT kvs)/\y=.ref b/\H b=some (.tup (k.map kV))/\r=cL kvs k
def gQ(H:Hp)(a:Addr)(y v:V)(H':Hp):Prop :=
 (∃kvs k,H a=some (.dK kvs)/\y=kV k/\kvs.length<sizeLine/\H'=upd H a (.dK (putK kvs k v))) \/
 ∃kvs k b,H a=some (.dT kvs)/\y=.ref b/\H b=some (.tup (k.map kV))/\kvs.length<sizeLine/\H'=upd H a (.dT (putK kvs k v))
theorem dW.k{H:Hp}{a:Addr}{kvs:List (Key×V)}{k:Key}(e:H a=some (.dK kvs)):dW H a (kV k) (cL kvs k):=.inl ⟨kvs,k,.inl e,rfl,rfl⟩
def dW.t{H:Hp}{a b:Addr}{kvs:List (List Key×V)}{k:List Key}(e:H a=some (.dT kvs))(eb:H b=some (.tup (k.map kV))):dW H a (.ref b) (cL kvs k):=.inr ⟨kvs,k,b,.inl e,rfl,eb,rfl⟩
theorem gQ.k{H:Hp}{a:Addr}{kvs:List (Key×V)}{k:Key}{v:V}(e:H a=some (.dK kvs))(hl:kvs.length<sizeLine):gQ H a (kV k) v (upd H a (.dK (putK kvs k v))):=.inl ⟨kvs,k,e,rfl,hl,rfl⟩
def gQ.t{H:Hp}{a b:Addr}{kvs:List (List Key×V)}{k:List Key}{v:V}(e:H a=some (.dT kvs))(eb:H b=some (.tup (k.map kV)))(hl:kvs.length<sizeLine) :
  gQ H a (.ref b) v (upd H a (.dT (putK kvs k v))):=.inr ⟨kvs,k,b,e,rfl,eb,hl,rfl⟩
section
variable {X:Cx}{pins:List (Addr×Obj)}{σ:St}{H:Hp}{s:Shared}{a:Addr}{y v:V}{u r:Value}{o:Option V}{A:Around}{E:Value->Shared->Prop}
def Inv.big(I:Inv X pins σ H s):sysModules<s.heap.objs.size:=by
 have h:mainGlobals<s.heap.objs.size:=(I.mod.glob.keeps I.bk).lt
 exact Nat.lt_trans (by decide) h
def qc{Q:Value->Shared->Prop}(hu:A.units+1<cLine)(I:Inv X pins σ H s)(g:dW H a y (some v))(ry:RelV y u)(h:∀w' s',Inv X pins σ H s'->RelV v w'->Q w' s') :
  wpAny (model X.prog X.w) A (getItem (.ref a) u) Q E s:=by
 rcases g with⟨kvs,k,e,ey,l⟩|⟨kvs,k,b,e,ey,eb,l⟩
 ·subst ey
  obtain⟨z,hd,vs,rel,dd⟩:=lj I.hok e
  obtain⟨w',hw,rw'⟩:=fi.some_of (v:=v) (o:=valueAt vs k) (by rw[l];exact rel.val k)
  exact wpAny_getItem_of (oN ry) dd.mapOf hw (h w' _ (I.tok _) rw')
 ·subst ey
  cases (show u=Value.ref b from ry)
  obtain⟨z,hd,xs,rel,dd⟩:=n5 I.hok e
  obtain⟨w',hw,rw'⟩:=fi.some_of (v:=v) (o:=(atKey xs k).map (·.2)) (by rw[l];exact rel.val k)
  obtain⟨p,hp,hp2⟩:=Option.map_eq_some_iff.mp hw
  refine wpAny_getItem_heap (A7 hu) (il I.hok eb) dd hp ?_
  rw[hp2]
  exact h w' _ (I.tok _) rw'
def sI{Q:Value->Shared->Prop}(hu:A.units+1<cLine)(I:Inv X pins σ H s)(g:dW H a y o)(ry:RelV y u)(h:∀s',Inv X pins σ H s'->Q (.bool (!o.isSome)) s') :
  wpAny (model X.prog X.w) A (compareOp .NotIn u (.ref a)) Q E s:=by
 rcases g with⟨kvs,k,e,ey,l⟩|⟨kvs,k,b,e,ey,eb,l⟩
 ·subst ey
  obtain⟨z,hd,vs,rel,dd⟩:=lj I.hok e
  refine wpAny_notIn_of (oN ry) hd dd.mapOf ?_
  rw[<-(rel.val k).gL,<-l]
  exact h _ (I.tok _)
 ·subst ey
  cases (show u=Value.ref b from ry)
  obtain⟨z,hd,xs,rel,dd⟩:=n5 I.hok e
  refine wpAny_notIn_heap (A7 hu) (il I.hok eb) hd dd ?_
  have q:=(rel.val k).gL
  rw[Option.isSome_map]at q
  rw[<-q,<-l]
  exact h _ (I.tok _)
def jX{h':Heap}{t':Nat}{ob:HO}(I:Inv X pins σ H s)(mu:wb (H a))(hs:Heap.SameBut a s.heap h')(he:∃q,h'.get? a=some q)(new:aY X.prog X.w (upd H a ob) h' a ob) :
  Inv X pins σ (upd H a ob) { s with heap:=h',toks:=t' } :=
 I.write (x:=a) (e:=a) mu (.inl rfl) (λb q hb z=>(hs.2 b hb).trans z) he new
def vf{P:Program}{w:World}{H':Hp}{h':Heap}{kvs:List (Key×V)}{vs:List (Key×Value)}(z:kvs.length<=sizeLine)(hd:(a==sysModules)=false)(rel:KV kvs vs)(dd:h'.DictOf (aR P w) a vs) :
  aY P w H' h' a (.dK kvs):=⟨z,hd,vs,rel,dd⟩
def qb{H':Hp}{Q:Unit->Shared->Prop}(hu:A.units+1<cLine)(I:Inv X pins σ H s)(g:gQ H a y v H')(ry:RelV y u)(rv:RelV v r)(h:∀s',Inv X pins σ H' s'->Q () s') :
  wpAny (model X.prog X.w) A (setItem (.ref a) u r) Q E s:=by
 rcases g with⟨kvs,k,e,ey,l,eH⟩|⟨kvs,k,b,e,ey,eb,l,eH⟩
 ·subst ey eH
  obtain⟨z,hd,vs,rel,dd⟩:=ub I.hok e
  have hz:vs.length<=sizeLine:=by rw[<-rel.length];exact z
  have hl:(putK kvs k v).length<=sizeLine:=by have:=hX kvs k v;lia
  refine wpAny_setItem_pairs (hsz:=hz) (oN ry) dd λh' dd' hs=>h _ ?_
  have he:∃q,h'.get? a=some q:=let ⟨q,_,_,hq,_⟩:=dd';⟨q,hq⟩
  exact jX I (by rw[e];exact True.intro) hs he (vf hl hd (rel.put k rv) dd')
 ·subst ey eH
  cases (show u=Value.ref b from ry)
  obtain⟨z,hd,xs,rel,dd⟩:=uJ I.hok e
  have hz:xs.length<=sizeLine:=by rw[<-yG rel];exact z
  have hl:(putK kvs k v).length<=sizeLine:=by have:=hX kvs k v;lia
  refine wpAny_setItem_heap (hsz:=hz) (A7 hu) (il I.hok eb) dd λh' dd' hs=>h _ ?_
  obtain⟨q,es,ep,hq,h2,h3,h4,_,h5⟩:=dd'
  refine jX I (by rw[e];exact True.intro) hs ⟨q,hq⟩ ⟨hl,hd,_,(rel.put k eb rv).keeps λc ys ec=>?_,q,es,ep,hq,h2,h3,h4,h5⟩
  rw[ai (aN ec e (λz=>nomatch z))]
  exact ec
end
section
variable {X:Cx}{pins:List (Addr×Obj)}{σ:St}{H:Hp}{s:Shared}{a:Addr}{kvs:List (Key×V)}{k:Key}{u:Value}{A:Around}{E:Value->Shared->Prop}
end
def vV(i:Expr):Prop:=∀ov iv,subscripted i false ov iv=operate [ov,iv] (getItem ov iv)
def sR{prog:Program}{w:World}{A:Around}{E:Value->Shared->Prop}{s:Shared}{env:Env}{value slice:Expr}{pos:Pos}{T id:String}{Q:Value->Shared->Prop}
  (hl:typeLookup (.type T) "__getitem__"=pure (some (.builtin id))) (hs:vV slice)
  (h:wpAny (model prog w) A (eval value env) (λo s₁=>wpAny (model prog w) A (eval slice env) (λi s₂=>s₂.TypeIs o T/\wpAny (model prog w) A (getItem o i) Q E s₂) E s₁) E s) :
  wpAny (model prog w) A (eval (.Subscript value slice pos) env) Q E s:=by
 refine Subscript_ (zv h (λo s₁ h₁=>zv h₁ (λi s₂ h₂=>?_) λ_ _ x=>x) λ_ _ x=>x)
 obtain⟨hT,h₂⟩:=h₂
 unfold subscriptTail
 refine yd ?_
 rw[getitemInPython_of_ne hT.not_modules]
 refine yd (AV hT hl ?_)
 have fin:wpAny (model prog w) A (subscripted slice false o i) (λr s₃=>wpAny (model prog w) A (letTemporaryGo value o r >>= λ_=>pure r) Q E s₃) E s₂:=by
  rw[hs o i]
  exact wpAny_operating (zv h₂ (λr s₃ h₃=>yd (wpAny_letTemporaryGo (yj h₃))) λ_ _ x=>x)
 first
  |exact yj (yd fin)
  |exact yd (yj (yd fin))
  |exact yd fin
def lH{X:Cx}{pins:List (Addr×Obj)}{σ:St}{H:Hp}{s:Shared}{a:Addr}{y:V}{o:Option V}(I:Inv X pins σ H s)(g:dW H a y o):s.TypeIs (.ref a) "dict":=by
 rcases g with⟨kvs,k,e,_,_⟩|⟨kvs,k,b,e,_,_,_⟩
 ·obtain⟨_,_,vs,_,dd⟩:=lj I.hok e
  exact dd.typeIs
 ·obtain⟨_,_,xs,_,dd⟩:=n5 I.hok e
  exact dd.typeIs
def wj(td ty:TE):TE:=λσ H Q=>td σ H λx H1=>ty σ H1 λy H2=>∃a v,x=.ref a/\dW H2 a y (some v)/\Q v H2
def sX(ty td:TE):TE:=λσ H Q=>ty σ H λy H1=>td σ H1 λx H2=>∃a o,x=.ref a/\dW H2 a y o/\Q (.bl (!o.isSome)) H2
def vO(td ty tv:TE):TS:=λD σ H=>tv σ H λv H1=>td σ H1 λx H2=>ty σ H2 λy H3=>∃a H4,x=.ref a/\gQ H3 a y v H4/\D.nx σ H4
section
variable {X:Cx}{o i e value:Expr}{pos pos' tpos:Pos}{td ty tv:TE}
def cD(hu:X.A.units+1<cLine)(ho:PE X o td)(hi:PE X i ty)(hs:vV i):PE X (.Subscript o i pos) (wj td ty):=by
 intro pins s σ H Q I h
 refine sR PySem.F.slot_dict_getitem.lookup hs (a6 (ho pins s σ H _ I h) λu s1 ⟨x,H1,I1,rx,q1⟩=>a6 (hi pins s1 σ H1 _ I1 q1) λiv s2 hZ=>?_)
 obtain⟨y,H2,I2,ry,a,v,ex,g,q2⟩:=hZ
 subst ex
 obtain rfl:u=Value.ref a:=rx
 exact⟨lH I2 g,qc hu I2 g ry λw' s3 I3 rw'=>⟨v,H2,I3,rw',q2⟩⟩
def fh(hu:X.A.units+1<cLine)(hi:PE X i ty)(ho:PE X o td):PC X .NotIn i o (sX ty td):=by
 intro pins s σ H Q I h
 refine a6 (hi pins s σ H _ I h) λiv s1 ⟨y,H1,I1,ry,q1⟩=>a6 (ho pins s1 σ H1 _ I1 q1) λu s2 hZ=>?_
 obtain⟨x,H2,I2,rx,a,ov,ex,g,q2⟩:=hZ
 subst ex
 obtain rfl:u=Value.ref a:=rx
 exact sI hu I2 g ry λs3 I3=>⟨.bl (!ov.isSome),H2,I3,rfl,q2⟩
def eo(hu:X.A.units+1<cLine)(ho:PE X o td)(hi:PE X i ty)(hv:PE X value tv)(hs:swapsWith value (some (.Subscript o i pos')) pos.line X.env=pure false) :
  PS X (.Assign [.Subscript o i pos'] value pos) (vO td ty tv):=by
 intro pins s σ H D I h
 refine wpAny_Assign_Subscript (a6 (hv pins s σ H _ I h) λr s1 ⟨v,H1,I1,rv,q1⟩=>a6 (ho pins s1 σ H1 _ I1 q1) λu s2 ⟨x,H2,I2,rx,q2⟩=>a6 (hi pins s2 σ H2 _ I2 q2) λiv s3 ⟨y,H3,I3,ry,a,H4,ex,g,q3⟩=>?_) hs
 subst ex
 obtain rfl:u=Value.ref a:=rx
 exact qb hu I3 g ry rv λs4 I4=>⟨σ,H4,I4,q3⟩
end
def qJ{P:Program}{w:World}{H:Hp}(h:Heap)(hb:sysModules<h.objs.size):aY P w H (h.push { cls:=.type "dict",data:=.dict #[] }) h.objs.size (.dK []) :=
 ⟨yC _,zI.mpr (Ac (yn hb)),[],.nil,Heap.DictOf.new h⟩
def qH{P:Program}{w:World}{H:Hp}(h:Heap)(hb:sysModules<h.objs.size):aY P w H (h.push { cls:=.type "dict",data:=.dict #[] }) h.objs.size (.dT []) :=
 ⟨yC _,zI.mpr (Ac (yn hb)),[],.nil,_,#[],0,ym _ rfl,⟨rfl,rfl,rfl⟩,rfl,rfl,List.nodup_nil⟩
def uQ:TE:=λ_ H Q=>∀p,H p=none->Q (.ref p) (upd H p (.dK []))
section
variable {X:Cx}{pos:Pos}
def eX:PE X (.Dict [] [] pos) uQ:=λpins s σ H Q I h =>
 wpAny_Dict_empty ⟨.ref s.heap.objs.size,_,I.laid (a:=s.heap.objs.size) (o:=.dK []) (t':=s.toks) (λ_ _ q=>ye _ q) (yi _) (qJ s.heap I.big),rfl,h _ (I.hok.fresh (yi _))⟩
end
section
variable {X:Cx}{pins:List (Addr×Obj)}{σ:St}{H:Hp}{s:Shared}{a:Addr}{y d:V}{u r:Value}{o:Option V}{A:Around}{E:Value->Shared->Prop}
end
section
variable {X:Cx}{o e f:Expr}{apos cpos:Pos}{td ty tx:TE}
end
section
variable {X:Cx}{pins:List (Addr×Obj)}{σ:St}{H:Hp}{s:Shared}{a:Addr}{kvs:List (Key×V)}{A:Around}{E:Value->Shared->Prop}
end
section
variable {X:Cx}{pins:List (Addr×Obj)}{σ:St}{H:Hp}{s:Shared}{a:Addr}{y:V}{u:Value}{A:Around}{E:Value->Shared->Prop}
end
end L2
namespace Att
open PySem PySem.W PySem.Calls PyProof.Rows
def ia{P:Params}{h:Heap}:∀(ns:List Int) (vs:List Value),WellAll P h vs (ns.map WData.int)->IntsAre vs ns:=by
 intro ns
 induction ns with
 |nil =>
  intro vs w
  rw[BS]at w
  cases w
  exact .nil
 |cons n ns ih =>
  intro vs w
  rw[yX]at w
  cases w with
  |cons a b =>
   cases a
   exact .cons _ _ (ih _ b)
def o6{l:OpenLaw}{n:Nat}(hn:l.most=some n){P:Params}{h:Heap}{args:List WData}{vals:List Value}
  (hpre:l.row.toRowW.claim.pre args=true) (hwl:WellAll P h vals args) :
  ∃a vs ns,vals=[Value.ref a]/\args=[WData.list (ns.map WData.int)]/\h.get? a=some { cls:=.type "list",data:=.seq vs.toArray }/\IntsAre vs ns/\ns.length<=n:=by
 have hsh:WShape.hasAll [] args [.list .int]=true:=(pre_splitW hpre).1
 have hc:l.pre.holds [] { args:=args }=true:=(pre_splitW hpre).2
 obtain⟨d,r,rfl,h1,h2⟩:=hasAllW_cons hsh
 obtain rfl:=hasAllW_nil h2
 obtain⟨xs,rfl,h3⟩:=hasW_list h1
 obtain⟨ns,rfl⟩:=items_int h3
 have hlen:ns.length<=n:=by
  unfold OpenLaw.pre at hc
  have h4:(WTm.not (.lt (.lit (.int (n:Int))) (.len (.arg 0)))).holds [] { args:=[.list (ns.map .int)] }=true:=by
   have h4:=(holds_andW hc).1
   rw[hn]at h4
   exact h4
  have h5:=condW_of h4 (w_not (w_lt w_lit (w_len_list (w_arg rfl))))
  rw[yf]at h5
  refine Nat.le_of_not_lt λq=>?_
  have q':(n:Int)<((ns.length:Nat):Int):=by lia
  first
   |(rw[yy q']at h5;exact absurd h5 (by decide))
   |(simp at h5;lia)
 cases hwl with
 |cons w1 w2 =>
  cases w2
  cases w1 with
  |list ho hall=>exact⟨_,_,ns,rfl,rfl,ho,ia ns _ hall,hlen⟩
def pW(l:OpenLaw)(args:List WData):l.row.toRowW.claim.post args (.bool true) args=true :=
 postW_of (r:=l.row.toRowW) (X:=(true==true))
  (show WShape.has [] (.bool true) .bool=true by first|rfl|decide|simp[WShape.has,WShape.arms,WShape.armsAll])
  (show(WTm.eq .res (.lit (.bool true))).value [] { args:=args,res:=some (.bool true),after:=args }=some (.bool (true==true)) from w_eq_bool (w_res rfl) w_lit) rfl
section
variable {prog:Program}{w:World}{A:Around}{E:Value->Shared->Prop}{s:Shared}{K:Frag}
end
end Att
namespace L2
open PySem PySem.Spec PyProof.Rows
theorem jA:∀{vs:List Value} {ns:List Int},IntsAre vs ns->Vals (ns.map V.int) vs
 |_,_,.nil=>.nil
 |_,_,.cons n t h=>.cons ⟨t,rfl⟩ (jA h)
end L2
namespace L2
open PySem PySem.Spec PyProof.Rows
end L2
namespace L2
open PySem PySem.Spec PyProof.Rows
def inClass(s:Stmt)(j:Nat):Stmt:=match s with
 |.ClassDef _ _ _ body _ _ _ _ _ _ _=>body.getD j (.Pass ⟨0,0,0,0⟩)
 |_=>.Pass ⟨0,0,0,0⟩
def bX(s:Stmt):Arguments:=match s with
 |.FunctionDef _ a _ _ _ _ _ _ _ _=>a
 |_=>{ posonlyargs:=[],args:=[],vararg:=none,kwonlyargs:=[],kw_defaults:=[],kwarg:=none,defaults:=[] }
def bo(s:Stmt):List Stmt:=match s with
 |.FunctionDef _ _ b _ _ _ _ _ _ _=>b
 |_=>[]
def av(s:Stmt):Scope:=match s with
 |.FunctionDef _ _ _ _ _ _ sc _ _ _=>sc
 |_=>{ kind:=.function,names:=[],isGenerator:=false,isCoroutine:=false }
abbrev cj:rS:=λ_ _ _ _ _ _=>False
abbrev E0:XK:=λ_ _ _=>False
def bE{X:Cx}:Passes cj X E0:=λ_ _ _ _ _ _ _ h=>h.elim
structure dt(K:PySem.W.Frag)(x qual:Str)(st:Stmt)(f:Addr)(fd:FuncData):Prop where
 ex:∃(oc:Value) (od:Option Addr) (kV doc pm:Value) (an:Option Addr) (cdv ct:Value) (osl:Array (Option Value)),
  fd=PySem.W.fnOf x qual (bX st) (bo st) (av st) .none kV doc pm an cdv ct/\K.lookup f=some ⟨oc,od,.func fd,osl⟩/\PySem.W.codeIn K cdv qual=true
 kp:PySem.W.keepIn K (.ref f)=true
def dt.ok{x qual:Str}{st:Stmt}{f:Addr}{fd:FuncData}{N ps:List Str}{k:Nat}{sp:Sp}(F:dt K x qual st f fd)(S:az N ps (av st))(len:∀vs H Q E,sp vs H Q E->vs.length=ps.length)
  (hbody:∀(cdv:Value) (A:Around) (outer:List Env) (s:Shared) (H:Hp) (vs:List V) (Q:VK) (E:XK),bz k (A.deeper (envOfC qual (av st) s.heap.objs.size f cdv))->sp vs H Q E ->
   ∃t,mm (bq cj P w K mg base N qual (av st) f cdv A outer s H E).eE (bo st) t/\t { nx:=λ_ H'=>Q .non H',rt:=Q } (start N vs) H):aI P w K mg base cj (k+1) f fd ps sp:=by
 obtain⟨oc,od,kV,doc,pm,an,cdv,ct,osl,rfl,lk,hcd⟩:=F.ex
 refine uf lk hcd S len λA outer s H vs Q E hr hsp=>?_
 obtain⟨t,h,q⟩:=hbody cdv A outer s H vs Q E hr hsp
 exact⟨t,h.eE,q⟩
def dt.oK{x qual:Str}{st:Stmt}{f:Addr}{fd:FuncData}{N ps:List Str}{k:Nat}{sp:Sp}(F:dt K x qual st f fd)(S:az N ps (av st))
  (hbody:∀(cdv:Value) (A:Around) (outer:List Env) (s:Shared) (H:Hp) (vs:List V) (Q:VK) (E:XK),bz k (A.deeper (envOfC qual (av st) s.heap.objs.size f cdv))->sp vs H Q E ->
   ∃t,mm (bq cj P w K mg base N qual (av st) f cdv A outer s H E).eE (bo st) t/\t { nx:=λ_ H'=>Q .non H',rt:=Q } (start N vs) H) (len:∀vs H Q E,sp vs H Q E->vs.length=ps.length:=by intro vs H Q E h;first|(cases h;subst_vars;rfl)|((repeat obtain⟨_,h⟩:=h);subst_vars;rfl)):aI P w K mg base cj (k+1) f fd ps sp:=F.ok S len hbody
def dt.binds{x qual:Str}{st:Stmt}{f:Addr}{fd:FuncData}{ps:List Str}(F:dt K x qual st f fd)
  (h:∀(kV doc pm:Value) (an:Option Addr) (cdv ct:Value) (us:List Value),us.length=ps.length->bindArgs (PySem.W.fnOf x qual (bX st) (bo st) (av st) .none kV doc pm an cdv ct) ⟨us,[]⟩=pure (ps.zip us)):Binds K fd ps []:=by
 obtain⟨oc,od,kV,doc,pm,an,cdv,ct,osl,rfl,lk,hcd⟩:=F.ex
 exact .all (h kV doc pm an cdv ct)
def gE{x qual:Str}{st:Stmt}{f:Addr}{oc:Value}{od an:Option Addr}{osl:Array (Option Value)}{kV doc pm cdv ct:Value}(l:K.lookup f=some ⟨oc,od,.func (PySem.W.fnOf x qual (bX st) (bo st) (av st) .none kV doc pm an cdv ct),osl⟩)
  (c:PySem.W.codeIn K cdv qual=true) (k:PySem.W.keepIn K (.ref f)=true):dt K x qual st f (PySem.W.fnOf x qual (bX st) (bo st) (av st) .none kV doc pm an cdv ct):=⟨⟨oc,od,kV,doc,pm,an,cdv,ct,osl,rfl,l,c⟩,k⟩
def df{A:Around}{k:Nat}(hr:bz k A):A.units+1<cLine:=Nat.lt_of_le_of_lt (Nat.add_le_add_left (by decide:1<=64) _) hr.units
def dY{n:Nat}(h:n<=1000):n<sizeLine:=Nat.lt_of_le_of_lt h (by decide)
section
variable {X:Cx}
def pv(i:Nat){x:Str}{pos:Pos}(hN:X.N[i]?=some x:=by rfl)(hv:vR X.env.scope x:=by first|exact Or.inl rfl|exact Or.inr (Or.inl rfl)|exact Or.inr (Or.inr rfl))(hd:(x==("__debug__":Str))=false:=by decide)
  (hcd:(x==("__classdict__":Str))=false:=by decide):PE X (.Name x pos) (vM i):=qM hN hv hd hcd
end
def aQ{A B:Prop}(h:B):if false=true then A else B:=by
 rw[yt yv]
 exact h
def a9{A B:Prop}(h:A):if true=true then A else B:=by
 rw[yF rfl]
 exact h
def mZ{c A B:Prop}[Decidable c](h1:c->A)(h2:¬c->B):if c then A else B:=by
 by_cases h:c
 ·rw[yF h]
  exact h1 h
 ·rw[yt h]
  exact h2 h
def wG{c A B:Prop}[Decidable c](hc:c)(h:B):if (!decide c)=true then A else B:=by
 rw[yy hc]
 exact aQ h
def ar(H H':Hp):Prop:=∀b o,H b=some o->H' b=some o
def ar.refl(H:Hp):ar H H:=λ_ _ h=>h
def ar.trans{H H1 H2:Hp}(a:ar H H1)(b:ar H1 H2):ar H H2:=λc o h=>b c o (a c o h)
def ar.free{H H':Hp}(e:ar H H'){l:Addr}(h:H' l=Option.none):H l=Option.none:=by
 cases q:H l with
 |none=>rfl
 |some o =>
  rw[e l o q]at h
  cases h
def ar.seq{K:PySem.W.Frag}{H H':Hp}{a:Addr}{xs:List V}(e:ar H H')(h:aA K H a xs):aA K H' a xs:=by
 rcases h with(h|⟨o,h⟩)|h
 ·exact .inl (.inl (e _ _ h))
 ·exact .inl (.inr ⟨o,e _ _ h⟩)
 ·exact .inr h
end L2
namespace L2
open PySem PySem.Spec PyProof.Rows
section
variable {X:Cx}
end
section
variable {κ:Type}[DecidableEq κ]
def oC{kvs:List (κ×V)}{k:κ}{v:V}(h:cL kvs k=some v):k∈kvs.map (·.1):=by
 have q:(kvs.any λkv=>decide (kv.1=k))=true:=by
  rw[gs,h]
  all_goals rfl
 obtain⟨p,hp,e⟩:=Ap.mp q
 exact yx.mpr ⟨p,hp,zl e⟩
end
def bV(i:Nat){X:Cx}{N M:List Str}{so:Scope}{x:Str}{e:Expr}{te:TE}{pos pos':Pos}(S:az N M so)(he:PE X e te)(hN:X.N=N:=by rfl)(hi:X.N[i]?=some x:=by rfl)(hx:Loc X.env.scope x:=by first|exact Or.inl rfl|exact Or.inr rfl)(hs:swapsWith e (some (.Name x pos')) pos.line X.env=pure false:=by rfl)(hf:X.fn x=true\/X.env.scope.names.lookup x=some .local:=by first|exact .inl rfl|exact .inr rfl|assumption) :
  PS X (.Assign [.Name x pos'] e pos) (rY te (iH i)):=vq (by rw[hN];exact S.nd) hi hx he hs hf
def fm(i:Nat){X:Cx}{N M:List Str}{so:Scope}{x:Str}{p:Pos}(S:az N M so)(hN:X.N=N:=by rfl)(hi:X.N[i]?=some x:=by rfl)(hx:Loc X.env.scope x:=by first|exact Or.inl rfl|exact Or.inr rfl)(hf:X.fn x=true\/X.env.scope.names.lookup x=some .local:=by first|exact .inl rfl|exact .inr rfl|assumption):PG X (.Name x p) (iH i):=nN (by rw[hN];exact S.nd) hi hx hf
end L2
end
section
namespace L2
open PySem PySem.Spec PyProof.Rows
def fk(env:Env):List (Str×NameKind)->List (Str×Addr)->List (Str×Addr)
 |[],cs=>cs
 |(n,k)::r,cs=>fk env r (if k==.free then(n,(env.cells.lookup n).getD 0)::cs else cs)
theorem i6{env:Env}:∀(names:List (Str×NameKind)) (cs:List (Str×Addr)),(∀x∈names,x.2=.free->∃c,env.cells.lookup x.1=some c) ->
  (forIn (m:=Sem) names cs λx r=>if (x.2==NameKind.free)=true then do let a <-cellOf env x.1;pure (ForInStep.yield ((x.1,a)::r)) else pure (ForInStep.yield r))=pure (fk env names cs)
 |[],cs,_=>rfl
 |(n,k)::r,cs,h=>by
  have hr:=λcs'=>i6 (env:=env) r cs' λx hx=>h x (yM _ hx)
  rw[List.forIn_cons]
  by_cases hk:k=.free
  ·subst hk
   obtain⟨c,hc⟩:=h (n,.free) yW rfl
   have e1:cellOf env n=pure c:=by unfold cellOf;rw[hc]
   simp only[beq_self_eq_true,Bg,e1,pure_bind,hr,fk,hc,Option.getD_some]
  ·have hb:(k==NameKind.free)=false:=by simpa using hk
   simp only[hb,AG,Bi,pure_bind,hr,fk]
def iR{env:Env}{sc:Scope}(h:∀x∈sc.names,x.2=.free->∃c,env.cells.lookup x.1=some c):closureFor sc env=pure (fk env sc.names []):=by
 unfold closureFor
 have e:=i6 (env:=env) sc.names [] h
 simp only[bind_pure]
 exact e
theorem bu{env:Env}:∀(names:List (Str×NameKind)) (cs:List (Str×Addr)),(∀x∈names,x.2=.free->∃c,env.cells.lookup x.1=some c) ->
  (∀x c,cs.lookup x=some c->env.cells.lookup x=some c)->∀x c,(fk env names cs).lookup x=some c->env.cells.lookup x=some c
 |[],cs,_,h=>h
 |(n,k)::r,cs,hf,h=>by
  intro x c e
  unfold fk at e
  refine bu r _ (λy hy=>hf y (yM _ hy)) ?_ x c e
  intro y d q
  by_cases hk:(k==NameKind.free)=true
  ·rw[yF hk]at q
   obtain⟨c',hc'⟩:=hf (n,k) yW (by simpa using hk)
   have hc':env.cells.lookup n=some c':=hc'
   rw[zE]at q
   by_cases hy:y=n
   ·subst hy
    simp only[beq_self_eq_true]at q
    rw[hc']at q ⊢
    exact q
   ·have:(y==n)=false:=by simpa using hy
    rw[this]at q
    exact h y d q
  ·rw[yt hk]at q
   exact h y d q
theorem i8{env:Env}{x:Str}:∀(names:List (Str×NameKind)) (cs:List (Str×Addr)),(∃c,cs.lookup x=some c)->∃c,(fk env names cs).lookup x=some c
 |[],cs,h=>h
 |(n,k)::r,cs,h=>by
  unfold fk
  refine i8 r _ ?_
  by_cases hk:(k==NameKind.free)=true
  ·rw[yF hk,zE]
   cases hy:x==n with
   |true=>exact⟨_,rfl⟩
   |false=>exact h
  ·rw[yt hk];exact h
theorem iz{env:Env}{x:Str}:∀(names:List (Str×NameKind)) (cs:List (Str×Addr)),(x,NameKind.free)∈names->∃c,(fk env names cs).lookup x=some c
 |[],cs,h=>by simp at h
 |(n,k)::r,cs,h=>by
  unfold fk
  rcases yr.mp h with e|h
  ·cases e
   refine i8 r _ ?_
   rw[yF (by rfl),zE]
   simp
  ·exact iz r _ h
theorem dq{env:Env}:∀{names:List (Str×NameKind)} {x:Str} {k:NameKind},
  (names.map λ(n,k)=>if (k == NameKind.free && env.scope.kind == .function && env.kindOf n == some .cell) then (n,NameKind.cell) else (n,k)).lookup x = some k ->
   ∃k',(x,k')∈names/\(k=k'\/(k=.cell/\k'=.free))
 |[],_,_,h=>by simp at h
 |(n,k₀)::r,x,k,h=>by
  rw[yX]at h
  by_cases hc:(k₀==NameKind.free&&env.scope.kind==.function&&env.kindOf n==some .cell)=true
  ·simp only[hc,Bg,zE]at h
   cases hx:x==n with
   |true =>
    rw[hx]at h
    have:x=n:=by simpa using hx
    subst this
    have hf:k₀=.free:=by
     have h1:=(yA.mp (yA.mp hc).1).1
     simpa using h1
    subst hf
    cases h
    exact⟨_,yW,.inr ⟨rfl,rfl⟩⟩
   |false =>
    rw[hx]at h
    obtain⟨k',m,q⟩:=dq (env:=env) h
    exact⟨k',yM _ m,q⟩
  ·simp only[yt hc,zE]at h
   cases hx:x==n with
   |true =>
    rw[hx]at h
    have:x=n:=by simpa using hx
    subst this
    cases h
    exact⟨_,yW,.inl rfl⟩
   |false =>
    rw[hx]at h
    obtain⟨k',m,q⟩:=dq (env:=env) h
    exact⟨k',yM _ m,q⟩
theorem bU{env:Env}:∀{names:List (Str×NameKind)} {x:Str},names.lookup x=some .free ->
  (names.map λ(n,k)=>if (k==NameKind.free&&env.scope.kind==.function&&env.kindOf n==some .cell) then(n,NameKind.cell) else(n,k)).lookup x=some .cell \/
  (names.map λ(n,k)=>if (k==NameKind.free&&env.scope.kind==.function&&env.kindOf n==some .cell) then(n,NameKind.cell) else(n,k)).lookup x=some .free
 |[],_,h=>by simp at h
 |(n,k₀)::r,x,h=>by
  rw[yX]
  rw[zE]at h
  by_cases hc:(k₀==NameKind.free&&env.scope.kind==.function&&env.kindOf n==some .cell)=true
  ·simp only[hc,Bg,zE]
   cases hx:x==n with
   |true=>exact .inl rfl
   |false=>rw[hx]at h;exact bU (env:=env) h
  ·simp only[yt hc,zE]
   cases hx:x==n with
   |true=>rw[hx]at h;exact .inr h
   |false=>rw[hx]at h;exact bU (env:=env) h
structure BX where
 C:Addr
 s:Shared
 H:Hp
 fp:List Addr
abbrev fg(X:Cx)(sc:Scope)(N:List Str)(z:BX):Cx :=
  { prog:=X.prog,w:=X.w,K:=X.K,mg:=X.mg,base:=X.base,A:=X.A,N:=N,s₀:=z.s,H₀:=z.H,env:=compEnvC sc (fk X.env sc.names []) z.C X.env,outer:=X.stack,stack:=X.stack,ex:=z.fp,fn:=λ_=>false,
    calm:=X.calm,pn:=[],xe:=λ_ _=>False }
structure bB(X:Cx)(N:List Str)(n:Nat)(ci:List Nat)(sc:Scope):Prop where
 kind:sc.kind=.function
 nocell:∀y∈sc.names,y.2≠.cell
 loc:∀y∈sc.names,y.2=.local->sc.names.lookup y.1=some .local
 fr:∀y∈sc.names,y.2=.free->X.env.scope.names.lookup y.1=some .cell\/X.env.scope.names.lookup y.1=some .free
 len:N.length=n+ci.length
 caps:∀(j i:Nat),ci[j]?=some i->∃x,N[n+j]?=some x/\X.N[i]?=some x/\sc.names.lookup x=some NameKind.free
def mq(n:Nat)(ci:List Nat)(σ:St):St:=List.replicate n none++ci.map λi=>(σ[i]?).getD none
def nY(n:Nat)(ci:List Nat)(σ:St):(mq n ci σ).length=n+ci.length:=by simp[mq]
section
variable {X:Cx}{N:List Str}{n:Nat}{ci:List Nat}{sc:Scope}{pins:List (Addr×Obj)}{σ:St}{H:Hp}{s:Shared}{fp:List Addr}
def bB.jc(S:bB X N n ci sc)(ok:X.Ok):∀x∈sc.names,x.2=.free->∃c,X.env.cells.lookup x.1=some c:=λx hx hf=>ok.has x.1 (S.fr x hx hf)
def mH(S:bB X N n ci sc)(I:Inv X pins σ H s)(hf:∀b∈fp,eQ X pins H b)(ho:∀b∈fp,∃o,s.heap.get? b=some o):(fg X sc N ⟨s.heap.objs.size,s,H,fp⟩).Ok where
 mod:=I.ok.mod
 kind:=S.kind
 glob:=I.ok.glob
 blt:=I.ok.blt
 above:=yi _
 inj:=λx y c h1 h2=>I.ok.inj x y c (bu _ _ (S.jc I.ok) (by simp) x c h1) (bu _ _ (S.jc I.ok) (by simp) y c h2)
 has:=λx hx=>by
  have key:∀k,(relabel sc X.env).names.lookup x=some k->(k=.cell\/k=.free)->∃c,(fk X.env sc.names []).lookup x=some c:=λk hk hkk=>by
   obtain⟨k',m,q⟩:=dq hk
   have hfree:k'=.free:=by
    rcases q with rfl|⟨_,q⟩
    ·rcases hkk with e|e
     ·exact absurd e (S.nocell _ m)
     ·exact e
    ·exact q
   subst hfree
   exact iz _ _ m
  rcases hx with hx|hx
  ·exact key _ hx (.inl rfl)
  ·exact key _ hx (.inr rfl)
 cab:=λx c h=>by cases h
 hd:=λh=>I.ok.hd h
 frames:=I.ok.frames
 stk:=.inl rfl
 exf:=λb hb=>by
  obtain⟨o,e⟩:=ho b hb
  refine⟨yn (yh e),λx c h=>?_⟩
  exact(hf b hb).2.2.2.2.1 x c (bu _ _ (S.jc I.ok) (by simp) x c h)
 bs:=I.bs
 bsz:=yI I.ok.bsz I.sz
 noex:=λb o e hb=>by
  rcases(hf b hb).2.2.2.1 with z|z
  ·exact I.ok.noex b o e z
  ·exact absurd (yD (yh e) (yI I.ok.bsz z)) (zc _)
 exfs:=λb hb z=>by
  obtain⟨_,f1,f2,_⟩:=hf b hb
  rcases yr.mp (I.jZ b z) with e|e
  ·exact f1 e
  ·exact f2 e
 fj:=I.stack
 frf:=I.oq
def kZ{h':Heap}{m:Str->Option Value}{C:Addr}(S:bB X N n ci sc)(I:Inv X pins σ H s)(hk:∀x c v,X.env.cells.lookup x=some c->s.heap.IsCell c v->h'.IsCell c v)
  (i:Nat) (x:Str) (v:V) (e1:N[i]?=some x) (e2:(mq n ci σ)[i]?=some (some v)):∃u,RelV v u/\Look (compEnvC sc (fk X.env sc.names []) C X.env) h' m x u:=by
 have hi:n<=i:=by
  by_cases hi:i<n
  ·unfold mq at e2
   rw[zq (by simpa using hi),Bq,yF hi]at e2
   cases e2
  ·omega
 obtain⟨j,rfl⟩:=Nat.exists_eq_add_of_le hi
 have e2':(ci.map λi=>(σ[i]?).getD none)[j]?=some (some v):=by
  unfold mq at e2
  rw[Av (by simp)]at e2
  simpa using e2
 rw[yR]at e2'
 cases ej:ci[j]? with
 |none=>rw[ej]at e2';cases e2'
 |some k =>
  rw[ej]at e2'
  obtain⟨y,c1,c2,c3⟩:=S.caps j k ej
  rw[c1]at e1
  cases e1
  have ev:σ[k]?=some (some v):=by
   cases q:σ[k]? with
   |none=>simp[q]at e2'
   |some w=>simp[q]at e2';rw[e2']
  obtain⟨m0,_,hl⟩:=I.loc
  have c4:(x,NameKind.free)∈sc.names:=zJ c3
  have kf:=S.fr _ c4 rfl
  have vis:vR X.env.scope x:=.inr kf
  obtain⟨u,ru,lk⟩:=hl k x v c2 ev vis
  refine⟨u,ru,.inr ⟨bU (env:=X.env) c3,?_⟩⟩
  rcases lk with⟨l1,_⟩|⟨_,c,hc,hcell⟩
  ·rcases kf with kf|kf <;> (rw[show X.env.kindOf x=_ from kf]at l1;cases l1)
  ·obtain⟨c',hc'⟩:=iz (env:=X.env) sc.names [] c4
   have:=bu _ _ (S.jc I.ok) (by simp) x c' hc'
   rw[hc]at this
   cases this
   exact⟨c,hc',hk x c _ hc hcell⟩
def jj{h':Heap}{t':Nat}{m:Str->Option Value}(S:bB X N n ci sc)(I:Inv X pins σ H s)(hf:∀b∈fp,eQ X pins H b)(ho:∀b∈fp,∃o,s.heap.get? b=some o)
  (hk:∀b o,s.heap.get? b=some o->h'.get? b=some o) (hn:h'.Ns s.heap.objs.size m):Inv (fg X sc N ⟨s.heap.objs.size,s,H,fp⟩) [] (mq n ci σ) H { s with heap:=h',toks:=t' } where
 ok:=mH S I hf ho
 os:=rfl
 bare:=I.bare
 base:=Un.kept hk
 loc:=⟨m,hn,λi x v e1 e2 _=>kZ S I (λx c v _ ⟨o,e,d⟩=>⟨o,hk _ _ e,d⟩) i x v e1 e2⟩
 cell:=λx c e=>by
  obtain⟨v,o,e1,d⟩:=I.cell x c (bu _ _ (S.jc I.ok) (by simp) x c e)
  exact⟨v,o,hk _ _ e1,d⟩
 free:=I.hok.fresh (yi _)
 freeC:=λx c e=>I.freeC x c (bu _ _ (S.jc I.ok) (by simp) x c e)
 pin:=λp hp=>absurd hp (by simp)
 hok:=I.hok.kept hk
 len:=by rw[nY];exact S.len.symm
def kR{H':Hp}{s':Shared}{σ':St}{pins':List (Addr×Obj)}(S:bB X N n ci sc)(I:Inv X pins σ H s)(hf:∀b∈fp,eQ X pins H b)
  (J:Inv (fg X sc N ⟨s.heap.objs.size,s,H,fp⟩) pins' σ' H' s'):Inv (fg X sc N ⟨s.heap.objs.size,s,H,fp⟩) pins' (mq n ci σ) H' s' where
 ok:=J.ok
 os:=J.os
 bare:=J.bare
 base:=J.base
 loc:=by
  obtain⟨m,hn,_⟩:=J.loc
  refine⟨m,hn,λi x v e1 e2 _=>kZ S I (λx c v e ⟨o,ho,d⟩=>?_) i x v e1 e2⟩
  have nf:c∉fp:=λz=>(hf c z).2.2.2.2.1 x c e rfl
  obtain⟨sl,q⟩:=J.base.any ho (I.freeC x c e) nf
  exact⟨_,q,d⟩
 cell:=J.cell
 free:=J.free
 freeC:=J.freeC
 pin:=J.pin
 hok:=J.hok
 len:=by rw[nY];exact S.len.symm
end
section
variable {prog:Program}{w:World}{A:Around}{R:Result->Shared->Prop}{s:Shared}
def ji{elt target iter:Expr}{ifs:List Expr}{scope:Scope}{pos:Pos}{it acc:Value}{env:Env}(I:Nat->Shared->Prop)
  (turn:∀n s,I n s->wpAny (model prog w) A (pyNext it) (λr s₁=>match r with
   |none=>R (.ok .next) s₁
   |some v=>wpAny (model prog w) A (letOwnedTupleGo target it v) (λ_ s₀=>wpAny (model prog w) A (assign target env v) (λ_ s₂ =>
     wpAny (model prog w) A (forIn ifs true λc r=>if r=true then do let ok <-isTrue c env (eval c env);pure (ForInStep.yield ok) else pure (ForInStep.yield r)) (λok s₃ =>
      if ok=true then wpAny (model prog w) A (eval elt env) (λx s₄ =>
       wpAny (model prog w) A (call (.builtin "list.append") [acc,x]) (λ_ s₅=>∃m,m<n/\I m s₅) (λ_ _=>False) s₄) (λ_ _=>False) s₃
      else ∃m,m<n/\I m s₃) (λ_ _=>False) s₂) (λ_ _=>False) s₀) (λ_ _=>False) s₁) (λ_ _=>False) s)
  (n:Nat) (h:I n s) :
  codeAny (model prog w) A (.compLoop (.ListComp elt [⟨target,iter,ifs,0⟩] scope pos) 0 it acc env) R s:=by
 refine codeAny_loop rfl I (λn s hI=>?_) n h
 show wpAny _ A ((compTurn (.ListComp elt [⟨target,iter,ifs,0⟩] scope pos) 0 it acc env).onRaise (λx=>do noteFrame x env;theTreesLotGoes x)) _ _ s
 refine wpAny_noted ?_
 rw[compTurn_list]
 refine yd (wpAny_standAt (yd (zv (turn n s hI) (λr s₁ h₁=>?_) λ_ _ h'=>h'.elim)))
 cases r with
 |none=>exact yj h₁
 |some v =>
  refine yd (zv h₁ (λ_ s₀ h₀=>?_) λ_ _ h'=>h'.elim)
  refine yd (zv h₀ (λ_ s₂ h₂=>yd (zv h₂ (λok s₃ h₃=>?_) λ_ _ h'=>h'.elim)) λ_ _ h'=>h'.elim)
  cases ok with
  |false=>exact yj ⟨rfl,h₃⟩
  |true =>
   exact yd (yd (zv h₃ (λx s₄ h₄=>yd (zv h₄ (λ_ s₅ h₅=>yj (yj ⟨rfl,h₅⟩)) λ_ _ h'=>h'.elim)) λ_ _ h'=>h'.elim))
end
def wu(X:Cx)(ifs:List Expr)(t:TT):Prop :=
 ∀(pins:List (Addr×Obj)) (s:Shared) (σ:St) (H:Hp) (Q:Bool->Hp->Prop),Inv X pins σ H s->t σ H Q ->
  wpAny (model X.prog X.w) X.A (forIn ifs true λc r=>if r=true then do let ok <-isTrue c X.env (eval c X.env);pure (ForInStep.yield ok) else pure (ForInStep.yield r)) (TP X pins σ Q) X.xe s
def w6:TT:=λ_ H Q=>Q true H
def dB{X:Cx}:wu X [] w6:=λpins s σ H Q I h=>wpAny_tests_nil ⟨H,I,h⟩
def dA{X:Cx}{c:Expr}{t:TT}(h:PT X c t):wu X [c] t:=λpins s σ H Q I hq=>wpAny_tests_one (h pins s σ H Q I hq)
def gr(n:Nat)(ci:List Nat)(J:It)(g:TG)(tt:TT)(te:TE)(σ:St)(H1:Hp)(D:Addr)(Q:VK):Prop :=
 ∃(M:Nat) (W:Nat->List V->Hp->Prop),W 0 [] (upd H1 D (.lst []))/\∀i ys H,i<=M->W i ys H ->
  (J.stop i H/\Q (.ref D) H)\/(i < M/\J.go i H/\∀x H',J.yld i H x H'->g x (mq n ci σ) H' λσ2 H2=>tt σ2 H2 λb H3 =>
   if b=true then te σ2 H3 λy H4=>H4 D=some (.lst ys)/\ys.length<sizeLine/\W (i+1) (ys++[y]) (upd H4 D (.lst (ys++[y])))
   else W (i+1) ys H3)
def uI(n:Nat)(ci:List Nat)(wi:TI)(g:BX->TG)(tt:BX->TT)(te:BX->TE):TE:=λσ H Q=>wi σ H λJ H1=>∀(z:BX) (D:Addr),H1 D=none->gr n ci J (g z) (tt z) (te z) σ H1 D Q
section
variable {X:Cx}{N:List Str}{n:Nat}{ci:List Nat}{sc:Scope}
def iT{pins:List (Addr×Obj)}{σ σ':St}{H H':Hp}{s s':Shared}{fp:List Addr}{h':Heap}(I:Inv X pins σ H s)(hf:∀b∈fp,eQ X pins H b)
  (J:Inv (fg X sc N ⟨s.heap.objs.size,s,H,fp⟩) [] σ' H' s') (hs:Heap.SameBut s.heap.objs.size s'.heap h'):Inv X pins σ H' { s' with heap:=h' }:=by
 have up:∀b o,b≠s.heap.objs.size->s'.heap.get? b=some o->h'.get? b=some o:=λb o hb e=>(hs.2 b hb).trans e
 have lt:∀b o,s.heap.get? b=some o->b≠s.heap.objs.size:=λb o e=>yn (yh e)
 have u0:=J.base
 have un:Un (kj X.stack) fp H H' s.heap h':=by
  refine⟨λb o e n hb hx=>up b o (lt b o e) (u0.keep b o e n hb hx),λb o e n hb hx=>?_,λb o e n hx=>u0.free b o e n hx,λb o e hx=>?_,u0.bR,u0.frzs,u0.tbls⟩
  ·obtain⟨sl,q⟩:=u0.slot b o e n hb hx
   exact⟨sl,up b _ (lt b o e) q⟩
  ·obtain⟨o',q⟩:=u0.there b o e hx
   exact⟨o',up b _ (lt b o e) q⟩
 have fr:H' s.heap.objs.size=none:=J.free
 have hok:fe X.prog X.w H' h':=λb u e=>by
  refine(J.hok b u e).iZ (λc v hc q=>up c v ?_ q) (λ_ q=>q) λ_ _ q=>q
  rintro rfl
  rcases hc with hc|hc
  ·rw[<-hc,fr]at e;cases e
  ·rw[fr]at hc;cases hc
 refine I.wH (s':={ s' with heap:=h' }) (ch:=fp) J.os un hok J.bare λb hb=>?_
 obtain⟨_,f1,_,f3,f4,f5⟩:=hf b hb
 exact⟨f3,f1,f4,f5⟩
def ma{elt tg iter:Expr}{ifs:List Expr}{pos:Pos}{g:BX->TG}{tt:BX->TT}{te:BX->TE}{z:BX}{it D:Addr}{fp:List Addr}{tn:Nat->Heap->Prop}{J:It}{σ0:St}{H4:Hp}{s4:Shared}{Q:VK}{R:Result->Shared->Prop}{W:Nat->List V->Hp->Prop}{M:Nat}
  (hc:X.calm=true) (T:Turn X.prog X.w X.K tg J fp it tn) (bg:PG (fg X sc N z) tg (g z)) (bt:wu (fg X sc N z) ifs (tt z)) (be:PE (fg X sc N z) elt (te z))
  (keep:∀{pins:List (Addr×Obj)} {σ':St} {H':Hp} {s':Shared},Inv (fg X sc N z) pins σ' H' s'->Inv (fg X sc N z) pins σ0 H' s')
  (stat:∀{H':Hp},(∀b∈fp,H' b=none)->∀b∈fp,eQ (fg X sc N z) [] H' b)
  (I4:Inv (fg X sc N z) [] σ0 H4 s4) (st4:tn 0 s4.heap) (fr4:∀b∈fp,H4 b=none) (w0:W 0 [] H4)
  (turn:∀i ys H,i<=M->W i ys H->(J.stop i H/\Q (.ref D) H)\/(i < M/\J.go i H/\∀x H',J.yld i H x H'->g z x σ0 H' λσ2 H2=>tt z σ2 H2 λb H3 =>
   if b=true then te z σ2 H3 λy H4=>H4 D=some (.lst ys)/\ys.length<sizeLine/\W (i+1) (ys++[y]) (upd H4 D (.lst (ys++[y])))
   else W (i+1) ys H3))
  (hR:∀σ' H' s',Inv (fg X sc N z) [] σ' H' s'->Q (.ref D) H'->R (.ok .next) s') :
  codeAny (model X.prog X.w) X.A (.compLoop (.ListComp elt [⟨tg,iter,ifs,0⟩] sc pos) 0 (.ref it) (.ref D) (fg X sc N z).env) R s4:=by
 refine ji (λn s'=>∃i ys H',n=M-i/\i<=M/\Inv (fg X sc N z) [] σ0 H' s'/\tn i s'.heap/\(∀b∈fp,H' b=none)/\W i ys H') ?_ M ⟨0,[],H4,rfl,yC _,I4,st4,fr4,w0⟩
 rintro n s3 ⟨i,ys,H3,rfl,hiM,I3,st3,fr3,w3⟩
 rcases turn i ys H3 hiM w3 with⟨stop,qn⟩|⟨hlt,go,step⟩
 ·refine a6 (T.done (fg X sc N z) rfl rfl rfl hc i [] s3 σ0 H3 (λ_ _=>False) I3 (stat fr3) st3 stop) λr s4 hZ=>?_
  obtain⟨hr,I4⟩:=hZ
  subst hr
  exact hR σ0 H3 s4 I4 qn
 ·refine a6 (T.item (fg X sc N z) rfl rfl rfl hc i [] s3 σ0 H3 (λ_ _=>False) I3 (stat fr3) st3 go) λr s4 hZ=>?_
  obtain⟨u,hr,h4⟩:=hZ
  subst hr
  refine a6 h4 λ_ s5 hZ=>?_
  obtain⟨x,H5,I5,r5,y5,st5,fr5⟩:=hZ
  have I5':=I5.pinned (stat fr5) (T.obj _ _ st5)
  refine a6 (bg _ s5 σ0 H5 x u _ I5' r5 (step x H5 y5)) λ_ s6 hZ=>?_
  obtain⟨σ6,H6,I6,q6⟩:=hZ
  refine a6 (bt _ s6 σ6 H6 _ I6 q6) λb s7 hZ=>?_
  obtain⟨H7,I7,q7⟩:=hZ
  have again:∀{ys':List V} {H8:Hp} {s8:Shared},Inv (fg X sc N z) ([]++iS fp s5.heap) σ6 H8 s8->W (i+1) ys' H8->∃m,m<M-i/\∃i ys H',m=M-i/\i<=M/\Inv (fg X sc N z) [] σ0 H' s8/\tn i s8.heap/\(∀b∈fp,H' b=none)/\W i ys H':=λ{ys' H8 s8} I8 w8=>by
   refine⟨M-(i+1),by omega,i+1,ys',H8,rfl,hlt,keep I8.fZ,T.keep _ _ _ st5 λb hb o e=>(I8.pin (b,o) (yP _ (yP _ (eA hb e)))).1,λb hb=>?_,w8⟩
   obtain⟨o,e,d⟩:=T.obj _ _ st5 b hb
   exact(I8.pin (b,o) (yP _ (yP _ (eA hb e)))).2.1
  cases b with
  |false =>
   rw[yt (by decide)]
   rw[yt (by decide)]at q7
   exact again I7 q7
  |true =>
   rw[yF rfl]
   rw[yF rfl]at q7
   refine a6 (be _ s7 σ6 H7 _ I7 q7) λyu s8 hZ=>?_
   obtain⟨y,H8,I8,r8,hD,hz,q8⟩:=hZ
   exact a6 (bb _ s8 σ6 H8 (.ref D) [y] (.ref D) [yu] (λ_ H9=>H9=upd H8 D (.lst (ys++[y]))) I8 rfl (.cons r8 .nil) ⟨D,ys,y,rfl,rfl,hD,hz,rfl⟩) λ_ s9 ⟨_,H9,I9,_,e9⟩=>by
    subst e9
    exact again I9 q8
def bD{elt tg iter:Expr}{ifs:List Expr}{pos:Pos}{wi:TI}{g:BX->TG}{tt:BX->TT}{te:BX->TE}(hc:X.calm=true)(hi:PI X tg iter wi)(S:bB X N n ci sc)
  (hb:∀z:BX,PG (fg X sc N z) tg (g z)/\wu (fg X sc N z) ifs (tt z)/\PE (fg X sc N z) elt (te z))
  (hs:∀x,foldedSetIterable iter X.env x=pure x:=by intro _;rfl):PE X (.ListComp elt [⟨tg,iter,ifs,0⟩] sc pos) (uI n ci wi g tt te):=by
 intro pins s σ H Q I h
 rw[eval_ListComp]
 refine Bj (use:=none) rfl hs (iR (S.jc I.ok)) S.kind S.loc (a6 (hi pins s σ H _ I h) λv s1 h1=>a6 h1 λitv s2 h2=>?_)
 obtain⟨it,fp,tn,J,H2,e,I2,T,st2,f2,rd⟩:=h2
 subst e
 refine zy (AW S.nocell (by intro y hy;simp at hy) (λh₁ hns₁ hsb₁=>?_) S.kind)
 dsimp only at hns₁ hsb₁ ⊢
 have hD:H2 s2.heap.objs.size=none:=I2.hok.fresh (yi _)
 have I3:Inv X pins σ (upd H2 s2.heap.objs.size (.lst [])) { s2 with heap:=s2.heap.push { cls:=.type "list",data:=.seq ([]:List Value).toArray } }:=I2.vp (t':=s2.toks) (ys:=[]) (its:=[]) .nil (yC _)
 have ob2:∀b∈fp,∃o,s2.heap.get? b=some o:=λb hb=>let ⟨o,e,_⟩:=T.obj _ _ st2 b hb;⟨o,e⟩
 have neD:∀b∈fp,b≠s2.heap.objs.size:=λb hb=>let ⟨o,e⟩:=ob2 b hb;yn (yh e)
 have f3:∀b∈fp,eQ X pins (upd H2 s2.heap.objs.size (.lst [])) b:=λb hb=>⟨by rw[ai (neD b hb)];exact(f2 b hb).1,(f2 b hb).2⟩
 have ob3:∀b∈fp,∃o,(s2.heap.push { cls:=.type "list",data:=.seq ([]:List Value).toArray }).get? b=some o:=λb hb=>let ⟨o,e⟩:=ob2 b hb;⟨o,ye _ e⟩
 have k3:∀b o,(s2.heap.push { cls:=.type "list",data:=.seq ([]:List Value).toArray }).get? b=some o->h₁.get? b=some o:=λb o e =>
  hsb₁.extBut b o (yn (yh e)) (ye _ e)
 have I4:Inv (fg X sc N ⟨_,{ s2 with heap:=s2.heap.push { cls:=.type "list",data:=.seq ([]:List Value).toArray } },upd H2 s2.heap.objs.size (.lst []),fp⟩) [] (mq n ci σ) (upd H2 s2.heap.objs.size (.lst []))
   { s2 with heap:=h₁,toks:=s2.toks+([]:List (Str×Value)).length }:=jj (s:={ s2 with heap:=s2.heap.push { cls:=.type "list",data:=.seq ([]:List Value).toArray } }) S I3 f3 ob3 k3 hns₁
 have st4:tn 0 h₁:=T.keep _ _ _ st2 λb hb o e=>k3 b o (ye _ e)
 obtain⟨M,W,w0,turn⟩:=rd ⟨_,{ s2 with heap:=s2.heap.push { cls:=.type "list",data:=.seq ([]:List Value).toArray } },upd H2 s2.heap.objs.size (.lst []),fp⟩ s2.heap.objs.size hD
 obtain⟨bg,bt,be⟩:=hb ⟨_,{ s2 with heap:=s2.heap.push { cls:=.type "list",data:=.seq ([]:List Value).toArray } },upd H2 s2.heap.objs.size (.lst []),fp⟩
 have ok3:=mH S I3 f3 ob3
 have stat:∀{H':Hp},(∀b∈fp,H' b=none)->∀b∈fp,eQ (fg X sc N ⟨_,{ s2 with heap:=s2.heap.push { cls:=.type "list",data:=.seq ([]:List Value).toArray } },upd H2 s2.heap.objs.size (.lst []),fp⟩) [] H' b:=λhn b hb=>by
  obtain⟨_,f1,f2',_,f4,_⟩:=f3 b hb
  refine⟨hn b hb,?_,ok3.exfs b hb,.inl hb,λx c e=>?_,λp hp=>absurd hp (by simp)⟩
  ·exact yn (let ⟨o,e⟩:=ob3 b hb;yh e)
  ·exact f4 x c (bu _ _ (S.jc I3.ok) (by simp) x c e)
 have loop:codeAny (model X.prog X.w) X.A (.compLoop (.ListComp elt [⟨tg,iter,ifs,0⟩] sc pos) 0 (.ref it) (.ref s2.heap.objs.size) (compEnvC sc (fk X.env sc.names []) (s2.heap.push { cls:=.type "list",data:=.seq ([]:List Value).toArray }).objs.size X.env))
   (compPost (model X.prog X.w) X.A X.xe none (EP X pins σ Q) (.ref s2.heap.objs.size) (s2.heap.push { cls:=.type "list",data:=.seq ([]:List Value).toArray }).objs.size) { s2 with heap:=h₁,toks:=s2.toks+([]:List (Str×Value)).length }:=by
  refine ma (W:=W) (M:=M) (σ0:=mq n ci σ) (Q:=Q) hc T bg bt be (λ{pins' σ' H' s'} J'=>?_) stat I4 st4 (λb hb=>(f3 b hb).1) w0 turn λσ' H' s' J' q=>?_
  ·exact kR S I3 f3 J'
  ·obtain⟨m',hn',_⟩:=J'.loc
   refine⟨m',hn',λh' hs'=>?_⟩
   exact⟨.ref s2.heap.objs.size,H',iT (s:={ s2 with heap:=s2.heap.push { cls:=.type "list",data:=.seq ([]:List Value).toArray } }) I3 f3 J' hs',rfl,q⟩
 exact codeAny_compStart_list loop (T.self _ 0 _ _ _ st4 loop)
end
structure xa(so:Scope)(N0 N:List Str)(n:Nat)(ci:List Nat)(sc:Scope):Prop where
 kind:sc.kind=.function
 nocell:∀y∈sc.names,y.2≠.cell
 loc:∀y∈sc.names,y.2=.local->sc.names.lookup y.1=some .local
 fr:∀y∈sc.names,y.2=.free->so.names.lookup y.1=some .cell\/so.names.lookup y.1=some .free
 len:N.length=n+ci.length
 caps:N.drop n=ci.map λi=>N0.getD i ⟨#[]⟩
 ins:∀i∈ci,i<N0.length
 kj:∀x∈N.drop n,sc.names.lookup x=some .free
def xa.of{X:Cx}{so sc:Scope}{N0 N:List Str}{n:Nat}{ci:List Nat}(h:xa so N0 N n ci sc)(e1:X.env.scope=so:=by rfl)(e2:X.N=N0:=by rfl):bB X N n ci sc where
 kind:=h.kind
 nocell:=h.nocell
 loc:=h.loc
 fr:=λy hy hf=>by rw[e1];exact h.fr y hy hf
 len:=h.len
 caps:=λj i e=>by
  have hm:i∈ci:=yq e
  have hi:=h.ins i hm
  have q:(N.drop n)[j]?=some (N0.getD i ⟨#[]⟩):=by rw[h.caps,yR,e];rfl
  refine⟨N0.getD i ⟨#[]⟩,?_,?_,?_⟩
  ·rw[List.getElem?_drop]at q;exact q
  ·rw[e2,yl,yg hi];rfl
  ·exact h.kj _ (yq q)
def mn{X:Cx}{so sc:Scope}{N0 N M:List Str}{n:Nat}{ci:List Nat}(S:az N0 M so)(h:xa so N0 N n ci sc:=by exact⟨rfl,by decide +kernel,by decide +kernel,by decide +kernel,rfl,rfl,by decide +kernel,by decide +kernel⟩)(e1:X.env.scope=so:=by rfl)(e2:X.N=N0:=by rfl):bB X N n ci sc:=h.of e1 e2
def kD(i:Nat){X:Cx}{sc:Scope}{N:List Str}{z:BX}{x:Str}{p:Pos}(hn:N.Nodup:=by decide +kernel)(hi:N[i]?=some x:=by rfl)(hx:Loc (fg X sc N z).env.scope x:=by exact Or.inl rfl)(hf:(fg X sc N z).fn x=true\/(fg X sc N z).env.scope.names.lookup x=some .local:=by first|exact .inl rfl|exact .inr rfl|assumption):PG (fg X sc N z) (.Name x p) (iH i):=nN (X:=fg X sc N z) (i:=i) hn hi hx hf
end L2
end
section
namespace UfSet
open PySem
def cp(w:World):Bool:=w.params.followText "set-order"
abbrev cR(w:World):List Str->List (Int×Value)->Prop:=Paired λk e=>e.1=hashStr w k/\∃tk,e.2=.str k tk
def bS(w:World)(h:Heap)(a:Addr)(ks:List Str):Prop :=
 ∃o es ep t ks',h.get? a=some o/\o.ExactSet/\o.data=.set es ep t/\cR w ks' es.toList/\ks'.Perm ks/\ks.Nodup /\
  es.size<scanBound/\t.fits es.size=true/\(t.plain=true->es.size=0)/\t.led = !cp w
theorem cR.elems{prog:Program}{w:World}:∀{ks:List Str} {es:List (Int×Value)},cR w ks es->ElemsOf (strKind prog w) es
 |_,_,.nil=>λe he=>by simp at he
 |_,_,.cons (a:=k) (b:=e) h t=>λx hx=>by
  rcases yr.mp hx with rfl|hx
  ·obtain⟨h1,tk,h2⟩:=h
   refine⟨⟨k,?_,h1⟩,?_⟩
   ·show Value.isStrOf k x.2=true
    rw[h2];simp[Value.isStrOf]
   ·rw[h2];rfl
  ·exact cR.elems (prog:=prog) t x hx
theorem cR.mem{w:World}{k:Str}:∀{ks:List Str} {es:List (Int×Value)},cR w ks es->(k∈ks↔∃e∈es,Value.isStrOf k e.2=true)
 |_,_,.nil=>by simp
 |_,_,.cons (a:=j) (b:=e) h t=>by
  obtain⟨h1,tk,h2⟩:=h
  have ih:=cR.mem (k:=k) t
  have hd:Value.isStrOf k e.2=true↔k=j:=by
   rw[h2]
   constructor
   ·intro q
    obtain⟨u,hu⟩:=Value.isStrOf_shape q
    injection hu with hx _
    exact hx.symm
   ·rintro rfl;simp[Value.isStrOf]
  rw[yr,ih]
  constructor
  ·rintro(q|⟨x,hx,q⟩)
   ·exact⟨e,yW,hd.mpr q⟩
   ·exact⟨x,yM _ hx,q⟩
  ·rintro⟨x,hx,q⟩
   rcases yr.mp hx with rfl|hx
   ·exact .inl (hd.mp q)
   ·exact .inr ⟨x,hx,q⟩
def cR.perm{w:World}{es es':List (Int×Value)}(p:List.Perm es' es):∀{ks:List Str},cR w ks es->∃ks',cR w ks' es'/\ks'.Perm ks:=by
 have back:∀{es es':List (Int×Value)},List.Perm es es'->∀{ks:List Str},cR w ks es->∃ks',cR w ks' es'/\ks'.Perm ks:=by
  intro es es' p
  induction p with
  |nil=>intro ks h;exact⟨ks,h,.refl _⟩
  |cons x _ ih =>
   intro ks h
   cases h with
   |cons h t =>
    obtain⟨ks',h',q⟩:=ih t
    exact⟨_::ks',.cons h h',q.cons _⟩
  |swap x y l =>
   intro ks h
   cases h with
   |cons h t =>
    cases t with
    |cons h2 t=>exact⟨_,.cons h2 (.cons h t),.swap _ _ _⟩
  |trans _ _ ih1 ih2 =>
   intro ks h
   obtain⟨k1,h1,q1⟩:=ih1 h
   obtain⟨k2,h2,q2⟩:=ih2 h1
   exact⟨k2,h2,q2.trans q1⟩
 intro ks h
 exact back p.symm h
theorem cR.snoc{w:World}{k:Str}{tk:Tok}:∀{ks:List Str} {es:List (Int×Value)},cR w ks es->cR w (ks++[k]) (es++[(hashStr w k,Value.str k tk)])
 |_,_,.nil=>.cons ⟨rfl,tk,rfl⟩ .nil
 |_,_,.cons h t=>.cons h (cR.snoc t)
def cR.len{w:World}{ks:List Str}{es:List (Int×Value)}(h:cR w ks es):ks.length=es.length:=yG h
def mN(t:SetTable)(es:Array (Int×Value))(h:Int)(x:Value):(layNew t es h x).2.1.led=t.led:=by
 unfold layNew
 split
 ·show(SetTable.orStandIn _ _).led=_
  unfold SetTable.orStandIn
  split <;> rfl
 ·rfl
def jW(t:SetTable)(es:Array (Int×Value))(h:Int)(x:Value):(layNew t es h x).2.1.plain=true->t.plain=true:=by
 unfold layNew
 split
 ·show(SetTable.orStandIn _ _).plain=true->_
  unfold SetTable.orStandIn
  split
  ·exact id
  ·intro q;cases q
 ·intro q;cases q
def kl(t:SetTable)(es:Array (Int×Value))(n:Nat):(relayAll t es n).2.1.led=t.led:=by
 unfold relayAll
 split
 ·rename_i t' order hr
  dsimp only
  split
  ·unfold SetTable.relaid SetTable.laid at hr
   simp only[BN,Br]at hr
   obtain⟨ow,_,hr⟩:=hr
   cases hr
   rfl
  ·rfl
 ·rfl
def i3(t:SetTable)(es:Array (Int×Value))(n:Nat):(relayAll t es n).2.1.plain=true->t.plain=true:=by
 unfold relayAll
 split
 ·rename_i t' order hr
  dsimp only
  split
  ·unfold SetTable.relaid SetTable.laid at hr
   simp only[BN,Br]at hr
   obtain⟨ow,_,hr⟩:=hr
   cases hr
   exact id
  ·intro q;cases q
 ·intro q;cases q
def qj{h:Heap}{a:Addr}{o:Obj}{es es':Array (Int×Value)}{ep:Nat}{t t':SetTable}(ho:h.get? a=some o)(hd:o.data=.set es ep t) :
  (h.update a (Obj.putSet es' t')).get? a=some { o with data:=.set es' (ep+1) t' }:=by
 have q:=zr (Obj.putSet es' t') ho (by rw[putSet_of es' t' hd];rfl)
 rw[putSet_of es' t' hd]at q
 exact q
def n9{g:Bool->Sem Unit}(hg:∀(b:Bool) (s₁:Shared) (Q':Unit->Shared->Prop),Q' () s₁->wpAny (model prog w) A (g b) Q' E s₁){a:Addr}{o:Obj}{es es1:Array (Int×Value)}{ep:Nat}{t t2:SetTable}
  {ks ks1:List Str} {dm:Bool} {R:Option Bool->Shared->Prop} (ho:s.heap.get? a=some o) (hex:o.ExactSet) (hd:o.data=.set es ep t) (he:cR w ks1 es1.toList) (hp:ks1.Perm ks) (hn:ks.Nodup)
  (hb:es1.size<scanBound) (hf:t2.fits es1.size=true) (hpl:t2.plain=false) (hle:t2.led = !cp w)
  (h:∀h',Heap.SameBut a s.heap h'->bS w h' a ks->R (some true) { s with heap:=h' }) :
  wpAny (model prog w) A (do
    storeSet a es1 t2
    if (!dm&&t2.tooFull)=true then do
      g (relayAll t2 es1 (SetTable.grown es1.size)).2.2
      storeSet a (relayAll t2 es1 (SetTable.grown es1.size)).1 (relayAll t2 es1 (SetTable.grown es1.size)).2.1
      pure (some true)
     else pure (some true)) R E s:=by
 refine yd (wpAny_storeSet_of ho hd ?_ (AL hb))
 have ho1:=qj (es':=es1) (t':=t2) ho hd
 have sb1:=yZ s.heap a (Obj.putSet es1 t2)
 by_cases hc:(!dm&&t2.tooFull)=true
 ·rw[yF hc]
  have q1:=relayAll_perm t2 es1 (SetTable.grown es1.size)
  have q2:=relayAll_fits t2 es1 (SetTable.grown es1.size)
  have q3:=kl t2 es1 (SetTable.grown es1.size)
  have q4:=i3 t2 es1 (SetTable.grown es1.size)
  generalize relayAll t2 es1 (SetTable.grown es1.size)=L at q1 q2 q3 q4 ⊢
  obtain⟨es2,t3,gave⟩:=L
  dsimp only at q1 q2 q3 q4 ⊢
  have zs:es2.size=es1.size:=by rw[<-zB,q1.length_eq,zB]
  refine yd (hg _ _ _ ?_)
  refine yd (wpAny_storeSet_of ho1 rfl ?_ (AL (by rw[zs];exact hb)))
  have ho2:=qj (es':=es2) (t':=t3) ho1 rfl
  obtain⟨ks2,e2,p2⟩:=he.perm q1
  refine yj (h _ (sb1.trans (yZ _ a _)) ⟨_,es2,ep+1+1,t3,ks2,ho2,hex,rfl,e2,p2.trans hp,hn,by rw[zs];exact hb,q2,λz=>?_,q3.trans hle⟩)
  rw[hpl]at q4
  exact absurd (q4 z) yv
 ·rw[yt hc]
  exact yj (h _ sb1 ⟨_,es1,ep+1,t2,ks1,ho1,hex,rfl,he,hp,hn,hb,hf,λz=>(by rw[hpl]at z;cases z),hle⟩)
def cB(ks:List Str)(k:Str):List Str:=if k∈ks then ks else ks++[k]
def eC{ks:List Str}{k:Str}(h:ks.Nodup):(cB ks k).Nodup:=by
 unfold cB
 split
 ·exact h
 ·rename_i q
  refine yE.mpr ⟨h,by simp,λa ha b hb=>?_⟩
  have:b=k:=by simpa using hb
  subst this
  rintro rfl
  exact q ha
def gW(ks:List Str)(k:Str):(cB ks k).length<=ks.length+1:=by
 unfold cB
 split
 ·lia
 ·simp
def mx{a:Addr}{ks:List Str}{k:Str}{tk:Tok}{Q:Bool->Shared->Prop}(hS:bS w s.heap a ks)(hroom:ks.length+1<scanBound)
  (h:∀(h':Heap) (b:Bool),Heap.SameBut a s.heap h'->bS w h' a (cB ks k)->Q b { s with heap:=h' }):wpAny (model prog w) A (setAddHashed a (.str k tk) (hashStr w k)) Q E s:=by
 obtain⟨o,es,ep,t,ks',ho,hex,hd,he,hp,hn,hb,hf,hpl,hle⟩:=hS
 have hel:ElemsOf (strKind prog w) es.toList:=he.elems
 have hkey:(strKind prog w).is k (.str k tk)=true:=by simp[strKind,Value.isStrOf]
 have hsc:(Value.str k tk).scannable=true:=rfl
 have szl:es.size=ks.length:=by rw[<-hp.length_eq,he.len,zB]
 unfold setAddHashed setAddHashedIn
 refine Aw (yd (zS ho hd hf ?_))
 dsimp only
 rw[byScan_of hsc hb hel]
 simp only[↓reduceIte]
 unfold setAddByScan
 refine yd ?_
 refine yd (wpAny_rule ?_)
 refine yd (wpAny_setScan_of (knd:=strKind prog w) hkey ho hd hf hel ?_)
 cases hr:List.findIdx? (λe=>(strKind prog w).is k e.2) es.toList with
 |some j =>
  dsimp only
  obtain⟨hj,hpj,_⟩:=List.findIdx?_eq_some_iff_getElem.mp hr
  have hin:k∈ks:=hp.mem_iff.mp (he.mem.mpr ⟨es.toList[j],zK hj,hpj⟩)
  refine yj (yj ?_)
  have e:s={ s with heap:=s.heap }:=by cases s;rfl
  rw[e]
  refine h s.heap _ (Heap.SameBut.refl a s.heap) ?_
  unfold cB
  rw[yF hin]
  exact⟨o,es,ep,t,ks',ho,hex,hd,he,hp,hn,hb,hf,hpl,hle⟩
 |none =>
  dsimp only
  have hout:¬k∈ks:=λz=>by
   obtain⟨e,he',q⟩:=he.mem.mp (hp.mem_iff.mpr z)
   have:=List.findIdx?_eq_none_iff.mp hr e he'
   rw[show(strKind prog w).is k e.2=Value.isStrOf k e.2 from rfl,q]at this
   cases this
  have gw:∀(b:Bool) {s₁:Shared} {Q':Unit->Shared->Prop},Q' () s₁->wpAny (model prog w) A (match b with|true=>rule "set.scan.the-table-gave-way" | false=>pure ()) Q' E s₁:=λb s₁ Q' hq=>by
   cases b with
   |true=>exact wpAny_rule hq
   |false=>exact yj hq
  have q1:=layNew_perm t es (hashStr w k) (.str k tk)
  have q2:=layNew_fits t es (hashStr w k) (.str k tk)
  have q3:=mN t es (hashStr w k) (.str k tk)
  have q4:=jW t es (hashStr w k) (.str k tk)
  have hsame:(strKind prog w).hash k=hashStr w k:=rfl
  generalize layNew t es (hashStr w k) (.str k tk)=L at q1 q2 q3 q4 ⊢
  obtain⟨es1,t1,dm,gave⟩:=L
  dsimp only at q1 q2 q3 q4 ⊢
  rw[Array.toList_push]at q1
  obtain⟨ks1,e1,p1⟩:=(he.snoc (k:=k) (tk:=tk)).perm q1
  have p2:ks1.Perm (cB ks k):=by
   unfold cB
   rw[yt hout]
   exact p1.trans (hp.append_right _)
  have z1:es1.size=ks.length+1:=by rw[<-zB,<-e1.len,p1.length_eq,yp,hp.length_eq];rfl
  have b1:es1.size<scanBound:=by rw[z1];exact hroom
  refine yd (gw _ ?_)
  by_cases hpt:t1.plain=true
  ·rw[yF hpt]
   refine yd ?_
   rw[hashByValue_scannable 8 hsc]
   refine yj ?_
   refine n9 (o:=o) (ks:=cB ks k) ?_ ho hex hd e1 p2 (eC hn) b1 ?_ ?_ ?_ ?_
   ·intro b s₁ Q' hq;exact gw b hq
   ·exact SetTable.fits_plain_off q2
   ·rfl
   ·exact q3.trans hle
   ·intro h' sb hS';dsimp only;exact wpAny_pure (h h' _ sb hS')
  ·rw[yt hpt]
   refine yd (yj ?_)
   simp only[↓reduceIte]
   refine n9 (o:=o) (ks:=cB ks k) ?_ ho hex hd e1 p2 (eC hn) b1 q2 (by simpa using hpt) (q3.trans hle) ?_
   ·intro b s₁ Q' hq;exact gw b hq
   ·intro h' sb hS';dsimp only;exact wpAny_pure (h h' _ sb hS')
end UfSet
end
section
namespace UfSet
open PySem
def bw:Slot "set_iterator" "__next__" "set_iterator.__next__" :=
 .of (owner:="set_iterator") (n:="__next__") (by rw[Az,zQ];kernel_rfl) (by decide +kernel) (by decide +kernel) (by decide +kernel)
  (by first|exact .inl (by decide +kernel)|exact .inr (by decide +kernel)) (by rw[A6];kernel_rfl)
def gz:Slot "set_iterator" "__iter__" "set_iterator.__iter__" :=
 .of (owner:="set_iterator") (n:="__iter__") (by rw[Az,zQ];kernel_rfl) (by decide +kernel) (by decide +kernel) (by decide +kernel)
  (by first|exact .inl (by decide +kernel)|exact .inr (by decide +kernel)) (by rw[A6];kernel_rfl)
def fu:entryFor table "set_iterator.__next__"=some Builtin.«set_iterator.__next__»:=entryFor_of_fast (by kernel_rfl)
def je:entryFor table "set_iterator.__iter__"=some Builtin.«dict_keyiterator.__iter__» :=
 entryFor_alias (id' := "dict_keyiterator.__iter__") (by kernel_rfl) rfl (by decide +kernel) (by kernel_rfl)
def gh(a:Value):argsOk "set_iterator.__next__" ⟨[a],[]⟩:=by unfold argsOk;kernel_rfl
def km(a:Value):argsOk "set_iterator.__iter__" ⟨[a],[]⟩:=by unfold argsOk;kernel_rfl
def ka:entryFor table "set.__iter__"=some Builtin.«frozenset.__iter__» :=
 entryFor_alias (id' := "frozenset.__iter__") (by kernel_rfl) rfl (by decide +kernel) (by kernel_rfl)
end UfSet
end
section
namespace UfSet
open PySem
theorem eJ{α:Type}:∀(xs:List α) (i:Nat) (h:i<xs.length),(xs[i]::xs.eraseIdx i).Perm xs
 |[],i,h=>absurd h (by simp)
 |x::xs,0,h=>.refl _
 |x::xs,i+1,h=>by
  have ih:=eJ xs i (by simpa using h)
  show((xs[i]'(by simpa using h))::x::xs.eraseIdx i).Perm (x::xs)
  exact(List.Perm.swap _ _ _).trans (ih.cons x)
def cg(a:Addr)(n ep:Nat)(first:Value)(i:Nat):Obj:={ cls:=.type "set_iterator",data:=.fields #[first,.int i 0,.ref a,.int n 0,.int ep 0] }
def m6{src:Source}{n:Nat}{Q:Nat->Shared->Prop}(hn:n≠0)(h:∀x d,x<n->Q x { s with drawn:=d }):wpAny (model prog w) A (choose src n) Q E s:=by
 intro Γ p _
 show Sem.wp _ Γ (.choose src n .pure) _ _ p s
 rw[Sem.wp_choose]
 refine⟨hn,?_⟩
 simp only[Sem.wp_pure]
 exact h _ _ (Nat.mod_lt _ (Nat.pos_of_ne_zero hn))
theorem kQ{α:Type}:∀(n:Nat) (xs:List α) (s:Shared) {Q:List α->Shared->Prop},xs.length=n->(∀ys d,ys.Perm xs->Q ys { s with drawn:=d })->wpAny (model prog w) A (drawOrder n xs) Q E s
 |0,xs,s,Q,hl,h=>by
  have:xs=[]:=zH hl
  subst this
  exact yj (h [] s.drawn (.refl _))
 |n+1,[],s,Q,hl,h=>by simp at hl
 |n+1,x::xs,s,Q,hl,h=>by
  show wpAny _ _ (choose .order (x::xs).length >>= λi=>match (x::xs)[i]? with|some y=>(do return y::(<-drawOrder n ((x::xs).eraseIdx i)))|none=>unsupported "internal:drawOrder") _ _ s
  refine yd (m6 (by simp) λi d hi=>?_)
  have e:(x::xs)[i]?=some (x::xs)[i]:=yg hi
  rw[e]
  dsimp only
  refine yd (kQ n _ _ (by rw[AX,yF hi];omega) λys d' p=>yj ?_)
  exact h _ d' ((p.cons _).trans (eJ _ _ hi))
def iA{it a:Addr}{n ep i:Nat}{first:Value}{x:Value}{Q:Option Value->Shared->Prop}(ho:s.heap.get? it=some (cg a n ep first i))
  (h:wpAny (model prog w) A.in1 (Builtin.«set_iterator.__next__» ⟨[.ref it],[]⟩) (λfin s'=>fin=.done (.ret x)/\Q (some x) s') (λ_ _=>False) s):wpAny (model prog w) A (pyNext (.ref it)) Q E s:=by
 have hT:s.TypeIs (.ref it) "set_iterator":=⟨_,ho,rfl⟩
 unfold pyNext
 refine yd (wpAny_attempt (Bs (name:=Str.ofString "__next__") hT bw (Aq bw hT fu ?_ (gh _))))
 refine zv h (λfin s' hq=>?_) λ_ _ z=>z.elim
 obtain⟨rfl,hq⟩:=hq
 exact⟨x,rfl,yj hq⟩
def c6{h:Heap}{it a:Addr}{n ep i:Nat}{first:Value}{k:Nat}{x:Value}(ho:h.get? it=some (cg a n ep first i)) :
  (h.update it (Obj.mapFields (·.setIfInBounds k x))).get? it=some { cg a n ep first i with data:=.fields ((#[first,.int i 0,.ref a,.int n 0,.int ep 0]:Array Value).setIfInBounds k x) } :=
 zr _ ho rfl
def ki{it a:Addr}{n ep i:Nat}{first:Value}{Q:Option Value->Shared->Prop}(hh:A.handled=none)(ho:s.heap.get? it=some (cg a n ep first i))
  (h:∀{Q' : Fin->Shared->Prop} {E' : Value->Shared->Prop},(∀h',Heap.SameBut it s.heap h'->wpAny (model prog w) A.in1 (do raiseNew (<-newExc (.type "StopIteration") [])) Q' E' { s with heap:=h' }) ->
   wpAny (model prog w) A.in1 (Builtin.«set_iterator.__next__» ⟨[.ref it],[]⟩) Q' E' s)
  (hQ:∀h',Heap.ExtBut it s.heap h'->Q none { s with heap:=h' }):wpAny (model prog w) A (pyNext (.ref it)) Q E s:=by
 have hT:s.TypeIs (.ref it) "set_iterator":=⟨_,ho,rfl⟩
 unfold pyNext
 refine yd (wpAny_attempt (Bs (name:=Str.ofString "__next__") hT bw (Aq bw hT fu ?_ (gh _))))
 refine h λh1 sb=>?_
 refine yd ?_
 simp only[newExc,newTuple]
 refine yd (zy ?_ (by size_fits))
 refine yd (m:=firstArgMember _ _) (wpAny_of_eq (a:=Value.none) (by first|rfl|(simp only[firstArgMember];rfl)) ?_)
 refine zy ?_ (by size_fits)
 simp only[raiseNew]
 refine yd (wpAny_handled ?_)
 have hh1:A.in1.handled=none:=hh
 rw[hh1]
 refine yd (yj (wpAny_throw ?_))
 refine yd (Bk (T:="StopIteration") (b:=true) ⟨_,ym _ rfl,rfl⟩ isSubtype_stop ?_)
 exact yj (hQ _ ((sb.extBut.push _).push _))
section
variable {it a T:Addr}{o oT:Obj}{es:Array (Int×Value)}{ep i:Nat}{t:SetTable}{pl:List Nat}{c:Nat}
def mC{p:Nat}{hx:Int}{x:Value}{Q:Option Value->Shared->Prop}(ho:s.heap.get? it=some (cg a es.size ep (.ref T) i))(ha:s.heap.get? a=some o)(hd:o.data=.set es ep t)(hf:t.fits es.size=true)
  (hT:s.heap.get? T=some oT) (hTd:oT.data=.seq (pl.map λ(j:Nat)=>Value.int j 0).toArray c) (hp:pl[i]?=some p) (hx:es[p]?=some (hx,x))
  (h:∀h',h'.get? it=some (cg a es.size ep (.ref T) (i+1))->Heap.SameBut it s.heap h'->Q (some x) { s with heap:=h' }):wpAny (model prog w) A (pyNext (.ref it)) Q E s:=by
 refine iA (x:=x) ho ?_
 unfold Builtin.«set_iterator.__next__»
 show wpAny _ _ (fieldsOf (.ref it) >>= _) _ _ s
 refine yd (Am ho rfl ?_)
 dsimp only
 refine yd (zC ha hd hf ?_)
 rw[yt (by simp)]
 show wpAny _ _ (seqItems? (.ref T) >>= _) _ _ s
 refine yd (BF hT hTd ?_)
 dsimp only
 have e1:((pl.map λ(j:Nat)=>Value.int j 0).toArray)[i]?=some (.int p 0):=by simp[hp]
 simp only[zx,e1]
 unfold setNextDrawn
 refine yd (yd (zS ha hd hf ?_))
 dsimp only
 rw[yt (by simp)]
 simp only[hx]
 refine yj ?_
 refine yd (zF ho rfl (by simp) (yj ⟨rfl,h _ ?_ (yZ ..)⟩))
 rw[c6 ho]
 simp[cg,rawInt]
def oW{Q:Option Value->Shared->Prop}(hh:A.handled=none)(ho:s.heap.get? it=some (cg a es.size ep (.ref T) i))(ha:s.heap.get? a=some o)(hd:o.data=.set es ep t)(hf:t.fits es.size=true)
  (hT:s.heap.get? T=some oT) (hTd:oT.data=.seq (pl.map λ(j:Nat)=>Value.int j 0).toArray c) (hp:pl[i]?=none)
  (h:∀h',Heap.ExtBut it s.heap h'->Q none { s with heap:=h' }):wpAny (model prog w) A (pyNext (.ref it)) Q E s:=by
 refine ki hh ho (λ{Q' E'} hq=>?_) h
 unfold Builtin.«set_iterator.__next__»
 show wpAny _ _ (fieldsOf (.ref it) >>= _) _ _ s
 refine yd (Am ho rfl ?_)
 dsimp only
 refine yd (zC ha hd hf ?_)
 rw[yt (by simp)]
 show wpAny _ _ (seqItems? (.ref T) >>= _) _ _ s
 refine yd (BF hT hTd ?_)
 dsimp only
 have e1:((pl.map λ(j:Nat)=>Value.int j 0).toArray)[i]?=none:=by simpa using hp
 simp only[zx,e1]
 refine yd (zF ho rfl (by simp) ?_)
 refine yd (zF (c6 ho) rfl (by simp) ?_)
 exact hq _ ((yZ ..).trans (yZ ..))
end
theorem nU{α:Type}{next:Nat->Nat}:∀(n k:Nat) (left:List α) (out:Array α),left.length=n->∃ys:List α,ys.Perm left/\(pickOrder.go next n k left out).toList=out.toList++ys
 |0,k,left,out,hl=>by
  have:left=[]:=zH hl
  subst this
  exact⟨[],.refl _,by simp[pickOrder.go]⟩
 |n+1,k,left,out,hl=>by
  have hlt:next k % left.length<left.length:=Nat.mod_lt _ (by omega)
  obtain⟨ys,q1,q2⟩:=nU (next:=next) n (k+1) (left.eraseIdx (next k % left.length)) (out.push left[next k % left.length]) (by rw[AX,yF hlt];omega)
  refine⟨left[next k % left.length]::ys,(q1.cons _).trans (eJ _ _ hlt),?_⟩
  unfold pickOrder.go
  rw[yg hlt]
  dsimp only
  rw[q2,Array.toList_push,zT]
  rfl
def pF{α:Type}(next:Nat->Nat)(xs:Array α):(pickOrder next xs).toList.Perm xs.toList:=by
 obtain⟨ys,q1,q2⟩:=nU (next:=next) xs.size 0 xs.toList #[] (by simp)
 unfold pickOrder
 rw[q2]
 simpa using q1
section
variable {it a:Addr}{o:Obj}{es:Array (Int×Value)}{ep i:Nat}{t:SetTable}
def fq{Q:Option (Value×Nat)->Shared->Prop}{sl g:Nat}(hb:cp w=true)(ha:s.heap.get? a=some o)(hd:o.data=.set es ep t)(hf:t.fits es.size=true)
  (h:Q (((pickOrder (w.params.setOrder a ep) es)[g]?).map λe=>(e.2,sl)) s):wpAny (model prog w) A (setNext a sl g ep) Q E s:=by
 unfold setNext
 refine yd (zS ha hd hf ?_)
 dsimp only
 refine yd ?_
 unfold setsByText
 refine yd (zY (yj ?_))
 have key:∀{α:Type} (x y:Sem α),(if (⟨(model prog w).prog,(model prog w).w.params⟩:Setting).params.followText "set-order"=true then x else y)=x:=λx y=>yF hb
 rw[key,yt (by simp)]
 refine yd ?_
 unfold setWalk
 refine yd (zS ha hd hf ?_)
 dsimp only
 refine yd ?_
 unfold setsByText
 refine yd (zY (yj ?_))
 rw[key]
 refine yd (zY (yj ?_))
 exact yj h
def pZ{hx:Int}{x:Value}{Q:Option Value->Shared->Prop}(hb:cp w=true)(ho:s.heap.get? it=some (cg a es.size ep (.int 0 0) i))(ha:s.heap.get? a=some o)(hd:o.data=.set es ep t)(hf:t.fits es.size=true)
  (hp:(pickOrder (w.params.setOrder a ep) es)[i]?=some (hx,x))
  (h:∀h',h'.get? it=some (cg a es.size ep (.int 0 0) (i+1))->Heap.SameBut it s.heap h'->Q (some x) { s with heap:=h' }):wpAny (model prog w) A (pyNext (.ref it)) Q E s:=by
 refine iA (x:=x) ho ?_
 unfold Builtin.«set_iterator.__next__»
 show wpAny _ _ (fieldsOf (.ref it) >>= _) _ _ s
 refine yd (Am ho rfl ?_)
 dsimp only
 refine yd (zC ha hd hf ?_)
 rw[yt (by simp)]
 refine yd (fq (sl:=0) (g:=i) hb ha hd hf ?_)
 rw[zx,hp]
 dsimp only[Option.map]
 refine yd (zF ho rfl (by simp) ?_)
 refine yd (zF (c6 ho) rfl (by simp) (yj ⟨rfl,h _ ?_ ((yZ ..).trans (yZ ..))⟩))
 rw[zr _ (c6 ho) rfl]
 simp[cg,rawInt,Obj.mapFields]
def rP{Q:Option Value->Shared->Prop}(hh:A.handled=none)(hb:cp w=true)(ho:s.heap.get? it=some (cg a es.size ep (.int 0 0) i))(ha:s.heap.get? a=some o)(hd:o.data=.set es ep t)(hf:t.fits es.size=true)
  (hp:(pickOrder (w.params.setOrder a ep) es)[i]?=none)
  (h:∀h',Heap.ExtBut it s.heap h'->Q none { s with heap:=h' }):wpAny (model prog w) A (pyNext (.ref it)) Q E s:=by
 refine ki hh ho (λ{Q' E'} hq=>?_) h
 unfold Builtin.«set_iterator.__next__»
 show wpAny _ _ (fieldsOf (.ref it) >>= _) _ _ s
 refine yd (Am ho rfl ?_)
 dsimp only
 refine yd (zC ha hd hf ?_)
 rw[yt (by simp)]
 refine yd (fq (sl:=0) (g:=i) hb ha hd hf ?_)
 rw[zx,hp]
 dsimp only[Option.map]
 refine yd (zF ho rfl (by simp) ?_)
 exact hq _ (yZ ..)
end
section
variable {it a:Addr}{o:Obj}{es:Array (Int×Value)}{ep i sl:Nat}{t:SetTable}
def gp{Q:Option (Value×Nat)->Shared->Prop}{g:Nat}(hb:cp w=false)(hl:t.led=true)(h1:es.size<=1)(ha:s.heap.get? a=some o)(hd:o.data=.set es ep t)(hf:t.fits es.size=true)
  (h:Q (match es[SetTable.below t.place sl]?,t.place[SetTable.below t.place sl]? with|some (_,x),some j=>some (x,j+1)|_,_=>none) s):wpAny (model prog w) A (setNext a sl g ep) Q E s:=by
 unfold setNext
 refine yd (zS ha hd hf ?_)
 dsimp only
 refine yd ?_
 unfold setsByText
 refine yd (zY (yj ?_))
 have hb':w.params.followText "set-order"=false:=hb
 have h2:¬es.size > 1:=by omega
 simp only[model,hb',AG,Bi]
 rw[yt (by show ¬((!t.plain&&decide (es.size > 1))=true);simp[h2])]
 refine yd ?_
 show wpAny _ _ (if (!t.led && !es.isEmpty)=true then unsupported "set:maker-not-led" else pure ()) _ _ s
 rw[hl]
 exact yj (yj h)
def o4(hf:t.fits es.size=true)(h1:es.size=1):∃j,t.place = #[j]:=by
 have q:t.place.size=1:=by
  have:=(yA.mp (show(t.place.size==es.size&&decide (t.fill<=t.mask))=true from hf)).1
  rw[h1]at this
  simpa using this
 generalize t.place=pl at q
 obtain⟨l⟩:=pl
 have q':l.length=1:=q
 match l,q' with
 |[j],_=>exact⟨j,rfl⟩
def lP(j:Nat):SetTable.below #[j] 0=0:=by
 unfold SetTable.below
 simp[SetTable.below.go]
def ni(j:Nat):SetTable.below #[j] (j+1)=1:=by
 unfold SetTable.below
 simp[SetTable.below.go]
def qI(t:SetTable)(n i sl:Nat):Prop:=(i=0/\sl=0)\/(i=1/\n=1/\∃j,t.place = #[j]/\sl=j+1)
def rk{hx:Int}{x:Value}{Q:Option Value->Shared->Prop}(hb:cp w=false)(hl:t.led=true)(h1:es.size=1)(ho:s.heap.get? it=some (cg a es.size ep (.int 0 0) 0))(ha:s.heap.get? a=some o)(hd:o.data=.set es ep t)(hf:t.fits es.size=true)
  (hp:es[0]?=some (hx,x))
  (h:∀h' sl,qI t es.size 1 sl->h'.get? it=some (cg a es.size ep (.int sl 0) 1)->Heap.SameBut it s.heap h'->Q (some x) { s with heap:=h' }):wpAny (model prog w) A (pyNext (.ref it)) Q E s:=by
 obtain⟨j,hj⟩:=o4 hf h1
 refine iA (x:=x) ho ?_
 unfold Builtin.«set_iterator.__next__»
 show wpAny _ _ (fieldsOf (.ref it) >>= _) _ _ s
 refine yd (Am ho rfl ?_)
 dsimp only
 refine yd (zC ha hd hf ?_)
 rw[yt (by simp)]
 refine yd (gp (sl:=0) (g:=0) hb hl (by omega) ha hd hf ?_)
 rw[hj,lP,hp]
 show wpAny _ _ (setField (.ref it) 0 (rawInt ((j+1:Nat):Int)) >>= λ_=>setField (.ref it) 1 (rawInt (((0:Nat):Int)+1)) >>= λ_=>ret x) _ _ s
 refine yd (zF ho rfl (by simp) ?_)
 refine yd (zF (c6 ho) rfl (by simp) (yj ⟨rfl,h _ (j+1) (.inr ⟨rfl,h1,j,hj,rfl⟩) ?_ ((yZ ..).trans (yZ ..))⟩))
 rw[zr _ (c6 ho) rfl]
 simp[cg,rawInt,Obj.mapFields]
def sj{Q:Option Value->Shared->Prop}(hh:A.handled=none)(hb:cp w=false)(hl:t.led=true)(h1:es.size<=1)(hat:qI t es.size i sl)(hi:es.size<=i)(ho:s.heap.get? it=some (cg a es.size ep (.int sl 0) i))(ha:s.heap.get? a=some o)(hd:o.data=.set es ep t)
  (hf:t.fits es.size=true) (h:∀h',Heap.ExtBut it s.heap h'->Q none { s with heap:=h' }):wpAny (model prog w) A (pyNext (.ref it)) Q E s:=by
 refine ki hh ho (λ{Q' E'} hq=>?_) h
 unfold Builtin.«set_iterator.__next__»
 show wpAny _ _ (fieldsOf (.ref it) >>= _) _ _ s
 refine yd (Am ho rfl ?_)
 dsimp only
 refine yd (zC ha hd hf ?_)
 rw[yt (by simp)]
 refine yd (gp (sl:=sl) (g:=i) hb hl h1 ha hd hf ?_)
 have key:(match es[SetTable.below t.place sl]?,t.place[SetTable.below t.place sl]? with|some (_,x),some j=>some (x,j+1)|_,_=>none)=(none:Option (Value×Nat)):=by
  rcases hat with⟨rfl,rfl⟩|⟨rfl,hn,j,hj,rfl⟩
  ·have e0:es = #[]:=by
    have:es.size=0:=by omega
    exact Array.eq_empty_of_size_eq_zero this
   subst e0
   simp
  ·rw[hj,ni]
   simp
 rw[key]
 dsimp only
 refine yd (zF ho rfl (by simp) ?_)
 exact hq _ (yZ ..)
end
end UfSet
end
section
namespace UfSet
open PySem
theorem cR.get{w:World}:∀{ks:List Str} {es:List (Int×Value)} {i:Nat},cR w ks es->i<es.length->∃hx k tk,es[i]?=some (hx,Value.str k tk)/\ks[i]?=some k
 |_,_,_,.nil,h=>absurd h (by simp)
 |_,_,0,.cons (a:=k) (b:=e) h t,_=>by
  obtain⟨h1,tk,h2⟩:=h
  obtain⟨e1,e2⟩:=e
  have h2:e2=Value.str k tk:=h2
  subst h2
  exact⟨e1,k,tk,rfl,rfl⟩
 |_,_,i+1,.cons h t,hl=>by
  obtain⟨hx,k,tk,q1,q2⟩:=cR.get (i:=i) t (by simpa using hl)
  exact⟨hx,k,tk,by simpa using q1,by simpa using q2⟩
def At(ord:List Str)(i:Nat)(v:Value):Prop:=∃k tk,ord[i]?=some k/\v=Value.str k tk
def ko{it a:Addr}{n ep i:Nat}{first:Value}{Q:Value->Shared->Prop}(ho:s.heap.get? it=some (cg a n ep first i))(h:Q (.ref it) s):wpAny (model prog w) A (pyIter (.ref it)) Q E s:=by
 have hT:s.TypeIs (.ref it) "set_iterator":=⟨_,ho,rfl⟩
 refine wpAny_pyIter_slot hT gz (Aq gz hT je ?_ (km _))
 show wpAny _ _ (ret (.ref it)) _ _ s
 exact yj ⟨_,rfl, "set_iterator",_,hT,bw.lookup,h⟩
def kH{it a T:Addr}{o oT:Obj}{es:Array (Int×Value)}{ep c:Nat}{t:SetTable}{pl:List Nat}{ks ord:List Str}(hh:A.handled=none)(ha:a≠it)(hTi:T≠it)(hd:o.data=.set es ep t)(hf:t.fits es.size=true)(he:cR w ks es.toList)
  (hTd:oT.data=.seq (pl.map λ(j:Nat)=>Value.int j 0).toArray c) (hpl:∀(i p:Nat),pl[i]?=some p->p<es.size/\ord[i]?=ks[p]?) (hlen:pl.length=ord.length) :
  Walks prog w A it [it,a,T] [it] ord.length (At ord) (λi h=>h.get? it=some (cg a es.size ep (.ref T) i)/\h.get? a=some o/\h.get? T=some oT) where
 sub:=λb hb=>by simp at hb;simp[hb]
 frame:=λi h h' st k=>⟨k it (by simp) _ st.1,k a (by simp) _ st.2.1,k T (by simp) _ st.2.2⟩
 item:=λi s Q E hi st hQ=>by
  obtain⟨s1,s2,s3⟩:=st
  have hip:i<pl.length:=by lia
  have hp:pl[i]?=some pl[i]:=yg hip
  obtain⟨hlt,hord⟩:=hpl i _ hp
  obtain⟨hx,k,tk,q1,q2⟩:=he.get (i:=pl[i]) (by simpa using hlt)
  refine mC s1 s2 hd hf s3 hTd hp (by rw[<-yY];exact q1) λh' st' sb=>?_
  exact hQ _ h' s.toks ⟨k,tk,hord.trans q2,rfl⟩ ⟨st',sb.extBut _ _ ha s2,sb.extBut _ _ hTi s3⟩ λb o hb e=>sb.extBut b o (λz=>hb (by simp[z])) e
 done:=λs Q E st hQ=>by
  obtain⟨s1,s2,s3⟩:=st
  exact oW hh s1 s2 hd hf s3 hTd (An (by lia)) λh' eb=>hQ h' s.toks λb o hb e=>eb b o (λz=>hb (by simp[z])) e
 self:=λ_ _ _ _ st hQ=>ko st.1 hQ
def my{it a:Addr}{o:Obj}{es:Array (Int×Value)}{ep:Nat}{t:SetTable}{ord:List Str}(hh:A.handled=none)(hb:cp w=true)(ha:a≠it)(hd:o.data=.set es ep t)(hf:t.fits es.size=true)
  (he:cR w ord (pickOrder (w.params.setOrder a ep) es).toList) :
  Walks prog w A it [it,a] [it] ord.length (At ord) (λi h=>h.get? it=some (cg a es.size ep (.int 0 0) i)/\h.get? a=some o) where
 sub:=λb hb=>by simp at hb;simp[hb]
 frame:=λi h h' st k=>⟨k it (by simp) _ st.1,k a (by simp) _ st.2⟩
 item:=λi s Q E hi st hQ=>by
  obtain⟨s1,s2⟩:=st
  obtain⟨hx,k,tk,q1,q2⟩:=he.get (i:=i) (by rw[<-he.len];exact hi)
  refine pZ hb s1 s2 hd hf (by rw[<-yY];exact q1) λh' st' sb=>?_
  exact hQ _ h' s.toks ⟨k,tk,q2,rfl⟩ ⟨st',sb.extBut _ _ ha s2⟩ λb o hb e=>sb.extBut b o (λz=>hb (by simp[z])) e
 done:=λs Q E st hQ=>by
  obtain⟨s1,s2⟩:=st
  refine rP hh hb s1 s2 hd hf ?_ λh' eb=>hQ h' s.toks λb o hb e=>eb b o (λz=>hb (by simp[z])) e
  rw[<-yY]
  exact An (by rw[<-he.len];exact yi _)
 self:=λ_ _ _ _ st hQ=>ko st.1 hQ
def o8{it a:Addr}{o:Obj}{es:Array (Int×Value)}{ep:Nat}{t:SetTable}{ord:List Str}(hh:A.handled=none)(hb:cp w=false)(hl:t.led=true)(h1:es.size<=1)(ha:a≠it)(hd:o.data=.set es ep t)(hf:t.fits es.size=true)
  (he:cR w ord es.toList) :
  Walks prog w A it [it,a] [it] ord.length (At ord) (λi h=>(∃sl,qI t es.size i sl/\h.get? it=some (cg a es.size ep (.int sl 0) i))/\h.get? a=some o) where
 sub:=λb hb=>by simp at hb;simp[hb]
 frame:=λi h h' st k=>by
  obtain⟨⟨sl,q1,q2⟩,q3⟩:=st
  exact⟨⟨sl,q1,k it (by simp) _ q2⟩,k a (by simp) _ q3⟩
 item:=λi s Q E hi st hQ=>by
  obtain⟨⟨sl,q1,q2⟩,q3⟩:=st
  have hlen:ord.length=es.size:=by(have:=he.len);(have el:es.toList.length=es.size:=by simp);lia
  have h0:es.size=1:=by lia
  rcases q1 with⟨rfl,rfl⟩|⟨rfl,_⟩
  ·obtain⟨hx,k,tk,e1,e2⟩:=he.get (i:=0) (by simp;lia)
   refine rk hb hl h0 q2 q3 hd hf (by rw[<-yY];exact e1) λh' sl' oa st' sb=>?_
   exact hQ _ h' s.toks ⟨k,tk,e2,rfl⟩ ⟨⟨sl',oa,st'⟩,sb.extBut _ _ ha q3⟩ λb o hb e=>sb.extBut b o (λz=>hb (by simp[z])) e
  ·lia
 done:=λs Q E st hQ=>by
  obtain⟨⟨sl,q1,q2⟩,q3⟩:=st
  have hlen:ord.length=es.size:=by(have:=he.len);(have el:es.toList.length=es.size:=by simp);lia
  exact sj hh hb hl h1 q1 (by lia) q2 q3 hd hf λh' eb=>hQ h' s.toks λb o hb e=>eb b o (λz=>hb (by simp[z])) e
 self:=λ_ _ _ _ st hQ=>by
  obtain⟨⟨sl,q1,q2⟩,q3⟩:=st
  exact ko q2 hQ
def rn{a:Addr}{ks:List Str}{Q:Value->Shared->Prop}(hS:bS w s.heap a ks)
  (h:∀(I:Addr) (h' : Heap) (d:Drawn) (ord:List Str) (fp:List Addr) (St:Nat->Heap->Prop),ord.Perm ks->(∀A' : Around,A'.handled = none->Walks prog w A' I fp [I] ord.length (At ord) St)->St 0 h'->I ∈ fp->s.heap.objs.size<=I ->
   (∀b o,s.heap.get? b=some o->h'.get? b=some o)->(∀b∈fp,b<h'.objs.size/\(b=a\/s.heap.objs.size<=b))->Q (.ref I) { s with heap:=h',drawn:=d }) :
  wpAny (model prog w) A (pyIter (.ref a)) Q E s:=by
 obtain⟨o,es,ep,t,ks',ho,hex,hd,he,hp,hn,hb,hf,hpl,hle⟩:=hS
 have hT:s.TypeIs (.ref a) "set":=⟨_,ho,hex.1⟩
 have alt:a<s.heap.objs.size:=yh ho
 refine wpAny_pyIter_slot hT BG (Aq BG hT ka ?_ (PySem.F.args_set_iter_1 _))
 show wpAny _ _ (Builtin.Frozenset.sizeOf a >>= _) _ _ s
 refine yd ?_
 unfold Builtin.Frozenset.sizeOf
 refine yd (zC ho hd hf (yj ?_))
 refine yd ?_
 unfold setDrawn
 refine yd (zS ho hd hf ?_)
 dsimp only
 refine yd ?_
 unfold setsByText
 refine yd (zY (yj (yj ?_)))
 have key:(!(⟨(model prog w).prog,(model prog w).w.params⟩:Setting).params.followText "set-order" && (!t.plain&&decide (es.size > 1)))=(!cp w&&(!t.plain&&decide (es.size > 1))):=rfl
 show wpAny _ _ (do
  let first <-if (!(⟨(model prog w).prog,(model prog w).w.params⟩:Setting).params.followText "set-order" && (!t.plain&&decide (es.size > 1)))=true then newTuple ((<-drawOrder es.size (List.range es.size)).map λ(i:Nat)=>rawInt i) else pure (rawInt 0)
  ret (<-newFields "set_iterator" [first,rawInt 0,.ref a,rawInt es.size,rawInt (<-setEpoch a)])) _ _ s
 rw[key]
 by_cases hdr:(!cp w&&(!t.plain&&decide (es.size > 1)))=true
 ·rw[yF hdr]
  have zs:es.size<=sizeLine:=AL hb
  refine yd (kQ es.size (List.range es.size) s (by simp) λpl d hpp=>?_)
  have hl:pl.length=es.size:=by rw[hpp.length_eq];simp
  refine yd (zy ?_ (by show(pl.map λ(i:Nat)=>rawInt i).toArray.size<=sizeLine;simp;lia))
  refine yd (wpAny_setEpoch_of (o:=o) (es:=es) (t:=t) (ep:=ep) (ye _ ho) hd hf ?_)
  refine yd (zy (yj ⟨_,rfl, "set_iterator",_,⟨_,ym _ rfl,rfl⟩,bw.lookup,?_⟩) (by size_fits))
  dsimp only
  have e1:(s.heap.push { cls:=.type "tuple",data:=.seq (pl.map λ(i:Nat)=>rawInt i).toArray }).objs.size=s.heap.objs.size+1:=by rw[zj]
  have f:∀p,p<es.size->∃k,ks'[p]?=some k:=λp hp'=>by
   obtain⟨_,k,_,_,q⟩:=he.get (i:=p) (by simpa using hp')
   exact⟨k,q⟩
  refine h _ _ d (pl.map λp=>ks'.getD p ⟨#[]⟩) [_,a,s.heap.objs.size] _ ?_ (λA' hh'=>kH (T:=s.heap.objs.size) (oT:={ cls:=.type "tuple",data:=.seq (pl.map λ(i:Nat)=>rawInt i).toArray }) (pl:=pl) hh' ?_ ?_ hd hf he rfl (λi p hip=>?_) (by simp)) ⟨ym _ rfl,ye _ (ye _ ho),ye _ (ym _ rfl)⟩ (by simp) (by rw[e1];lia) (λb ob e=>ye _ (ye _ e)) λb hb'=>?_
  ·have q:=hpp.map (λp=>ks'.getD p ⟨#[]⟩)
   have e2:(List.range es.size).map (λp=>ks'.getD p ⟨#[]⟩)=ks':=by
    have hk:ks'.length=es.size:=by rw[he.len];simp
    rw[<-hk]
    refine List.ext_getElem (by simp) λi h1 h2=>?_
    simp[yl,yg h2]
   rw[e2]at q
   exact q.trans hp
  ·rw[e1];exact yn (zz alt)
  ·rw[e1];exact yn (zD _)
  ·have hm:p∈List.range es.size:=hpp.mem_iff.mp (yq hip)
   have hlt:p<es.size:=by simpa using hm
   refine⟨hlt,?_⟩
   obtain⟨k,hk⟩:=f p hlt
   rw[yR,hip,hk]
   simp[yl,hk]
  ·simp only[yr,zZ,Bl]at hb'
   rw[zj]
   rcases hb' with rfl|rfl|rfl
   ·exact⟨zD _,.inr (by rw[e1];exact zV _)⟩
   ·exact⟨by rw[e1];exact zz (zz alt),.inl rfl⟩
   ·exact⟨by rw[e1];exact zz (zD _),.inr (yi _)⟩
 ·rw[yt hdr]
  refine yd (yj ?_)
  refine yd (wpAny_setEpoch_of (o:=o) (es:=es) (t:=t) (ep:=ep) ho hd hf ?_)
  refine yd (zy (yj ⟨_,rfl, "set_iterator",_,⟨_,ym _ rfl,rfl⟩,bw.lookup,?_⟩) (by size_fits))
  have old:∀b ob,s.heap.get? b=some ob->(s.heap.push { cls:=.type "set_iterator",data:=.fields [rawInt 0,rawInt 0,Value.ref a,rawInt (es.size:Int),rawInt (ep:Int)].toArray }).get? b=some ob:=λb ob e=>ye _ e
  have own:∀b∈[s.heap.objs.size,a],b<(s.heap.push { cls:=.type "set_iterator",data:=.fields [rawInt 0,rawInt 0,Value.ref a,rawInt (es.size:Int),rawInt (ep:Int)].toArray }).objs.size/\(b=a\/s.heap.objs.size<=b):=λb hb'=>by
   simp only[yr,zZ,Bl]at hb'
   rw[zj]
   rcases hb' with rfl|rfl
   ·exact⟨zD _,.inr (yi _)⟩
   ·exact⟨zz alt,.inl rfl⟩
  cases hbt:cp w with
  |true =>
   obtain⟨ord,q1,q2⟩:=he.perm (pF (w.params.setOrder a ep) es)
   exact h _ _ s.drawn ord [s.heap.objs.size,a] _ (q2.trans hp) (λA' hh'=>my hh' hbt (yn alt) hd hf q1) ⟨ym _ rfl,ye _ ho⟩ (by simp) (yi _) old own
  |false =>
   have h1:es.size<=1:=by
    rw[hbt]at hdr
    cases hpt:t.plain with
    |true=>have:=hpl hpt;lia
    |false =>
     rw[hpt]at hdr
     by_cases hz:es.size > 1
     ·exact absurd (by simp[hz]) hdr
     ·lia
   rw[hbt]at hle
   exact h _ _ s.drawn ks' [s.heap.objs.size,a] _ hp (λA' hh'=>o8 hh' hbt hle h1 (yn alt) hd hf he) ⟨⟨0,.inl ⟨rfl,rfl⟩,ym _ rfl⟩,ye _ ho⟩ (by simp) (yi _) old own
end UfSet
end
section
namespace UfSet
open PySem
def rD:typeLookup (.type "set") "__len__"=pure (some (.builtin "set.__len__")):=by rw[Az,zQ];kernel_rfl
def sZ:isSubtype (.type "set") (.type "set")=pure true:=by rw[A6];kernel_rfl
def oZ:splitId "set.__len__"=some ("set", "__len__"):=by decide +kernel
def mj{wr:List Addr}:∀{s s':Shared},Moved wr (λa b=>b=a) s s'->s'={ s with heap:=s'.heap,toks:=s'.toks }
 |⟨h,g,d,t,o⟩,⟨h',g',d',t',o'⟩,hm=>by
  have e1:g'=g:=hm.gens
  have e2:d'=d:=hm.drawn
  have e3:o'=o:=hm.os
  subst e1 e2 e3
  rfl
def rN{r:Addr}{Q:Bool->Shared->Prop}(hT:s.TypeIs (.ref r) "set")(h:Q false s):wpAny (model prog w) A (Builtin.List.listLengthHint (.ref r)) Q E s:=by
 unfold Builtin.List.listLengthHint
 refine yd (AV hT rD ?_)
 dsimp only
 rw[oZ]
 dsimp only
 refine yd (Bk (T:="set") (b:=true) hT sZ ?_)
 refine zR (λz=>absurd z (by decide)) (λ_=>?_)
 refine zR (λ_=>?_) (λz=>absurd (by decide +kernel) z)
 refine yd (wpAny_typeOf hT ?_)
 exact yj h
def hJ{r:Addr}{T:String}{OK:Heap->Prop}{R:Nat->(Nat->Value->Prop)->Prop}{Q:List Value->Shared->Prop}(hh:A.handled=none)(hok:OK s.heap)
  (keep:∀h h':Heap,OK h->(∀b o,h.get? b=some o->h'.get? b=some o)->OK h') (hty:∀s':Shared,OK s'.heap->s'.TypeIs (.ref r) T) (hlt:∀h,OK h->r<h.objs.size)
  (nl:(Value.type T==Value.type "list")=false) (nt:(Value.type T==Value.type "tuple")=false)
  (hint:∀(A':Around) (E':Value->Shared->Prop) (s':Shared) (Q':Bool->Shared->Prop),OK s'.heap->Q' false s'->wpAny (model prog w) A' (Builtin.List.listLengthHint (.ref r)) Q' E' s')
  (iter:∀(A' : Around) (E' : Value->Shared->Prop) (s' : Shared) (Q' : Value->Shared->Prop),OK s'.heap->(∀(I:Addr) (h' : Heap) (d:Drawn) (n:Nat) (P:Nat->Value->Prop) (fp:List Addr) (St:Nat->Heap->Prop),R n P->n<=sizeLine ->
   (∀A2:Around,A2.handled=none->Walks prog w A2 I fp [I] n P St)->St 0 h'->s'.heap.objs.size<=I->(∀b o,s'.heap.get? b=some o->h'.get? b=some o)->(∀b∈fp,b=r\/s'.heap.objs.size<=b)->Q' (.ref I) { s' with heap:=h',drawn:=d }) ->
   wpAny (model prog w) A' (pyIter (.ref r)) Q' E' s')
  (h:∀(h':Heap) (tk:Nat) (d:Drawn) (n:Nat) (P:Nat->Value->Prop) (vs:List Value),R n P->vs.length=n->(∀(j:Nat) v,vs[j]?=some v->P j v)->(∀b o,s.heap.get? b=some o->h'.get? b=some o)->s.heap.objs.size<=h'.objs.size->Q vs { s with heap:=h',toks:=tk,drawn:=d }) :
  wpAny (model prog w) A (collect (.ref r)) Q E s:=by
 unfold collect
 refine yd (wpAny_runValue (Af PySem.F.entry_proto_collect ?_))
 rw[zU PySem.F.plain_proto_collect _]
 show wpAny _ A.in1 (newList [] >>= λl=>again (.builtin "list.__iadd__" ⟨[l,.ref r],[]⟩)) _ _ s
 refine yd (zy ?_)
 refine yj ⟨Ax Bt _,Af PySem.F.entry_list_iadd ?_⟩
 rw[zU Bt _]
 generalize hs1:(s.heap.push { cls:=.type "list",data:=.seq ([]:List Value).toArray })=h1
 have S1:h1.get? s.heap.objs.size=some { cls:=.type "list",data:=.seq #[] }:=by rw[<-hs1];exact ym _ rfl
 have k1:∀b ob,s.heap.get? b=some ob->h1.get? b=some ob:=λb ob e=>by rw[<-hs1];exact ye _ e
 have z1:h1.objs.size=s.heap.objs.size+1:=by rw[<-hs1,zj]
 have alt:r<s.heap.objs.size:=hlt _ hok
 have ok1:OK h1:=keep _ _ hok k1
 show wpAny _ A.in1 (Builtin.List.listExtendWith (.ref s.heap.objs.size) (.ref r) (.ref s.heap.objs.size)) _ _ { s with heap:=h1 }
 unfold Builtin.List.listExtendWith
 refine yd (wpAny_typeOf (T:=T) (hty { s with heap:=h1 } ok1) ?_)
 have e1:Builtin.List.listSameRef (.ref s.heap.objs.size) (.ref r)=false:=by simp[Builtin.List.listSameRef,zW alt]
 simp only[e1,nl,nt,BM,AG,Bi]
 refine yd (iter _ _ { s with heap:=h1 } _ ok1 λI h2 d n P fp St hR zo W st hIz k2 hfp=>?_)
 have S2:=k2 _ _ S1
 refine yd (Aw (hint _ _ _ _ (keep _ _ ok1 k2) ?_))
 have nfp:s.heap.objs.size∉fp:=λhm=>by
  rcases hfp _ hm with z|z
  ·exact absurd z (zW alt)
  ·have z':h1.objs.size<=s.heap.objs.size:=z
   rw[z1]at z'
   exact absurd z' (BL _)
 have key:∀(h3:Heap) (c tk:Nat),St 0 h3->(∀b ob,b≠s.heap.objs.size->h2.get? b=some ob->h3.get? b=some ob)->h3.get? s.heap.objs.size=some { cls:=.type "list",data:=.seq #[] c } ->
   codeAny (model prog w) A (.builtin "list.extend.loop" ⟨[.ref s.heap.objs.size,.ref I,.ref s.heap.objs.size],[]⟩)
    (λr s'=>match r with|.ok (.ret v)=>wpAny (model prog w) A (match v with|.ref b=>(load b >>= λob=>(match ob.data with|.seq xs _=>pure xs.toList|_=>unsupported "internal:collect"))|_=>unsupported "internal:collect") Q E s'|.ok _=>False|.error e=>E e s') { s with heap:=h3,toks:=tk,drawn:=d }:=by
  intro h3 c tk st3 k3 S3
  refine codeAny_extend_loopS (W A.in1 hh).toS zo s.heap.objs.size nfp _ n 0 _ #[] c rfl (yC _) st3 S3 (ItemsOf.nil _) λs' acc c' hm S' hacc=>?_
  dsimp only
  refine yd (wpAny_load S' (yj ?_))
  rw[mj hm]
  refine h s'.heap s'.toks d n P acc.toList hR (by rw[<-hacc.1];simp) (λj v e=>hacc.2 j v (by rw[<-yY];exact e)) (λb ob e=>?_) (Ak (yh S'))
  have nb:b≠s.heap.objs.size:=yn (yh e)
  refine hm.heap b ob (λhmem=>?_) (k3 b ob nb (k2 b ob (k1 b ob e)))
  rcases yr.mp hmem with z|z
  ·exact nb z
  ·have z':b=I:=by simpa using z
   subst z'
   have z2:h1.objs.size<=b:=hIz
   rw[z1]at z2
   exact absurd (yD (yh e) (Nat.le_of_succ_le z2)) (zc _)
 refine zR (λ_=>?_) (λ_=>yj ⟨Ax AA _,key _ 0 _ st (λb ob _ e=>e) S2⟩)
 refine yd (wpAny_rule ?_)
 refine yd ?_
 show wpAny _ _ (updateSeq s.heap.objs.size (·.push .none) >>= λ_=>updateSeq s.heap.objs.size (·.pop)) _ _ _
 refine yd (Bv S2 rfl ?_)
 have S3:=zr (Obj.mapSeq (·.push Value.none)) S2 rfl
 refine Bv (hz:=by seq_fits) S3 rfl ?_
 have S4:=zr (Obj.mapSeq (·.pop)) S3 rfl
 have oth:∀b ob,b≠s.heap.objs.size->h2.get? b=some ob->((h2.update s.heap.objs.size (Obj.mapSeq (·.push Value.none))).update s.heap.objs.size (Obj.mapSeq (·.pop))).get? b=some ob:=λb ob nb e =>
  (zL _ _ (Ac nb)).trans ((zL _ _ (Ac nb)).trans e)
 exact yj ⟨Ax AA _,key _ _ _ ((W A.in1 hh).frame 0 _ _ st λb hb' ob e=>oth b ob (λz=>nfp (z ▸ hb')) e) oth S4⟩
def lU{a:Addr}{ks:List Str}{Q:List Value->Shared->Prop}(hh:A.handled=none)(hS:bS w s.heap a ks)
  (h:∀(h':Heap) (tk:Nat) (d:Drawn) (ord:List Str) (vs:List Value),ord.Perm ks->vs.length=ord.length->(∀(j:Nat) v,vs[j]?=some v->At ord j v)->(∀b o,s.heap.get? b=some o->h'.get? b=some o)->s.heap.objs.size<=h'.objs.size->Q vs { s with heap:=h',toks:=tk,drawn:=d }) :
  wpAny (model prog w) A (collect (.ref a)) Q E s:=by
 have kp:∀h h':Heap,bS w h a ks->(∀b o,h.get? b=some o->h'.get? b=some o)->bS w h' a ks:=λh1 h2 x k=>by
  obtain⟨o,es,ep,t,ks',ho,r⟩:=x
  exact⟨o,es,ep,t,ks',k _ _ ho,r⟩
 have ty:∀s':Shared,bS w s'.heap a ks->s'.TypeIs (.ref a) "set":=λs' x=>by
  obtain⟨o,es,ep,t,ks',ho,hex,_⟩:=x
  exact⟨o,ho,hex.1⟩
 have zs:ks.length<=sizeLine:=by
  obtain⟨o,es,ep,t,ks',ho,hex,hd,he,hp,hn,hb,_⟩:=hS
  rw[<-hp.length_eq,he.len]
  have el:es.toList.length=es.size:=by simp
  rw[el]
  exact AL hb
 refine hJ (T:="set") (OK:=λh=>bS w h a ks) (R:=λn P=>∃ord:List Str,ord.Perm ks/\n=ord.length/\P=At ord) hh hS kp ty (λh1 x=>?_) (by decide) (by decide) (λA' E' s' Q' x q=>rN (ty s' x) q) (λA' E' s' Q' x q=>?_) ?_
 ·obtain⟨o,_,_,_,_,ho,_⟩:=x
  exact yh ho
 ·exact rn x λI h' d ord fp St hp W st hI hIz k2 hfp=>q I h' d ord.length (At ord) fp St ⟨ord,hp,rfl,rfl⟩ (by rw[hp.length_eq];exact zs) W st hIz k2 λb hb=>(hfp b hb).2
 ·rintro h' tk d n P vs ⟨ord,hp,rfl,rfl⟩ hl hat hk hz
  exact h h' tk d ord vs hp hl hat hk hz
end UfSet
end
section
namespace UfSrt
open PySem PySem.Spec PyProof.Rows
def le(a b:Str):Prop:=a.cps.toList<=b.cps.toList
def leB(a b:Str):Bool:=decide (a.cps.toList<=b.cps.toList)
def leB_iff{a b:Str}:leB a b=true↔le a b:=by simp[leB,le]
def r6{a b:Str}(h:a.cps.toList=b.cps.toList):a=b:=by
 obtain⟨x⟩:=a
 obtain⟨y⟩:=b
 have:x=y:=Array.toList_inj.mp h
 rw[this]
def rZ{a b:Str}(h1:le a b)(h2:le b a):a=b:=r6 (List.le_antisymm h1 h2)
def uC{a b c:Str}(h1:le a b)(h2:le b c):le a c:=List.le_trans h1 h2
def vm(a b:Str):le a b\/le b a:=List.le_total _ _
def aD(xs:List Str):List Str:=xs.mergeSort leB
def cK(xs:List Str):(aD xs).Perm xs:=List.mergeSort_perm _ _
def mF(xs:List Str):(aD xs).Pairwise le:=by
 have h:=List.pairwise_mergeSort (le:=leB) (λa b c h1 h2=>leB_iff.mpr (uC (leB_iff.mp h1) (leB_iff.mp h2))) (λa b=>by
  rcases vm a b with h|h
  ·rw[leB_iff.mpr h];rfl
  ·rw[leB_iff.mpr h,Bool.or_true]) xs
 exact h.imp λh=>leB_iff.mp h
def pw_unique{xs ys:List Str}(h1:xs.Pairwise le)(h2:ys.Pairwise le)(p:xs.Perm ys):xs=ys :=
 List.Perm.eq_of_pairwise (λa b _ _=>rZ) h1 h2 p
def rp{xs ys:List Str}(h:xs.Pairwise le)(p:xs.Perm ys):xs=aD ys:=pw_unique h (mF ys) (p.trans (cK ys).symm)
def pz{xs ys:List Str}(p:xs.Perm ys):aD xs=aD ys:=rp (mF xs) ((cK xs).trans p)
def cV{xs:List Str}{x:Str}:x∈aD xs↔x∈xs:=(cK xs).mem_iff
def dH(xs:List Str):(aD xs).length=xs.length:=(cK xs).length_eq
def pK{xs:List Str}:(aD xs).Nodup↔xs.Nodup:=(cK xs).nodup_iff
theorem jD:∀{p:Str} {l:List Str},risingS p l=true->(p::l).Pairwise le
 |p,[],_=>by simp
 |p,x::r,h=>by
  have h':(!ltCps x.cps.toList p.cps.toList&&risingS x r)=true:=h
  obtain⟨h1,h2⟩:=yA.mp h'
  have ih:=jD h2
  have hpx:le p x:=by
   rw[ltCps_eq]at h1
   exact List.not_lt.mp (by simpa using h1)
  refine List.pairwise_cons.mpr ⟨λb hb=>?_,ih⟩
  rcases yr.mp hb with rfl|hb
  ·exact hpx
  ·exact uC hpx ((List.pairwise_cons.mp ih).1 b hb)
def pJ:∀{l:List Str},sortedS l=true->l.Pairwise le
 |[],_=>.nil
 |x::r,h=>jD h
end UfSrt
end
section
namespace UfSort
open PySem PySem.Spec PyProof.Rows UfSrt
theorem dZ:∀{vs:List Value} {ss:List Str},StrsAre vs ss->vs.length=ss.length
 |_,_,.nil=>rfl
 |_,_,.cons _ _ h=>by rw[yQ,yQ,dZ h]
structure Left(h h':Heap)(D:Addr)(ss:List Str):Prop where
 keep:∀b o,h.get? b=some o->h'.get? b=some o
 new:h.objs.size<=D
 at':∃vs n,h'.get? D=some { cls:=.type "list",data:=.seq (List.toArray vs) n }/\StrsAre vs (aD ss)
def gO{r:Value}{ss:List Str}{Q:Value->Shared->Prop}
  (hc:∀{Q':List Value->Shared->Prop},(∀h' tk d vs ss',(∀b o,s.heap.get? b=some o->h'.get? b=some o)->s.heap.objs.size<=h'.objs.size->StrsAre vs ss'->ss'.Perm ss->Q' vs { s with heap:=h',toks:=tk,drawn:=d })->wpAny (model prog w) A.in1 (collect r) Q' E s)
  (h64:ss.length<64) (h:∀h' tk d D,Left s.heap h' D ss->Q (.ref D) { s with heap:=h',toks:=tk,drawn:=d }):wpAny (model prog w) A (call (.builtin "sorted") [r]) Q E s:=by
 refine Calls.call_function_entry kind_sorted plain_sorted entry_sorted (args_sorted1 _) ?_
 unfold Builtin.«sorted»
 refine yd (m:=checkCount "sorted" 1 1 _) (yj ?_)
 refine yd (hc λh1 tk d vs ss1 k1 z1 hS hp=>?_)
 have hl:vs.length=ss.length:=by rw[dZ hS,hp.length_eq]
 refine yd (wpAny_newList ?_ (by rw[y8];lia))
 have hoL:(h1.push (seqObj "list" vs.toArray 0)).get? h1.objs.size=some (seqObj "list" vs.toArray 0):=ym _ rfl
 refine yd (Aw (Aq slot_list_sort ⟨_,hoL,rfl⟩ entry_list_sort (list_sort_treeK strKind_oneLt hoL hS.keysOf (λv₁ v₂ rest e=>keyKind_strs (by rw[<-e];exact hS)) (by lia) λst' a1 a2=>⟨_,rfl,?_⟩) (args_list_sort _)))
 obtain⟨ss',q1,q2,q3⟩:=sorted_out_str hS a1 a2
 obtain⟨e,he⟩:=sortedHeap_at (h:=h1.push (seqObj "list" vs.toArray 0)) (a:=h1.objs.size) (vs:=vs) (n:=0) (out:=(arrOf st').map (·.2)) hoL
 refine yj ⟨_,rfl,h _ tk d _ ⟨λb o hb=>?_,?_,((arrOf st').map (·.2)).toList,e,by rw[Array.toArray_toList];exact he,?_⟩⟩
 ·have hb1:=k1 b o hb
  rw[sortedHeap_old (yn (yh hb1)) (by rw[size_push'];exact zz (yh hb1))]
  exact ye _ hb1
 ·exact z1
 ·have:ss'=aD ss:=rp (pJ q3) (q2.trans hp)
  rw[<-this]
  exact q1
theorem nK{ord:List Str}:∀{vs:List Value} {j:Nat},vs.length+j=ord.length->(∀(i:Nat) v,vs[i]?=some v->UfSet.At ord (j+i) v)->StrsAre vs (ord.drop j)
 |[],j,hl,_=>by
  rw[Bz (by simp at hl;lia)]
  exact .nil
 |v::vs,j,hl,h=>by
  obtain⟨k,tk,e,hv⟩:=h 0 v rfl
  subst hv
  have hj:j<ord.length:=by simp at hl;lia
  have ej:ord[j]=k:=by
   rw[Nat.add_zero,yg hj]at e
   exact yV e
  rw[AB hj,ej]
  exact .cons k tk (nK (j:=j+1) (by simp at hl;lia) λi v e=>by
   have:=h (i+1) v (by simpa using e)
   rw[show j+1+i=j+(i+1) by lia]
   exact this)
def mL{a:Addr}{ks:List Str}{Q:Value->Shared->Prop}(hh:A.handled=none)(hS:UfSet.bS w s.heap a ks)(h64:ks.length<64)
  (h:∀h' tk d D,Left s.heap h' D ks->Q (.ref D) { s with heap:=h',toks:=tk,drawn:=d }):wpAny (model prog w) A (call (.builtin "sorted") [.ref a]) Q E s :=
 gO (λ{Q'} hq=>UfSet.lU (A:=A.in1) hh hS λh' tk d ord vs hp hl hat hk hz=>hq h' tk d vs ord hk hz (by
  have:=nK (ord:=ord) (vs:=vs) (j:=0) (by lia) (λi v e=>by rw[Nat.zero_add];exact hat i v e)
  simpa using this) hp) h64 h
def lJ{l:Addr}{vs:List Value}{ss:List Str}{Q:Value->Shared->Prop}(hl:s.heap.IsList l vs.toArray)(hS:StrsAre vs ss)(h64:ss.length<64)
  (h:∀h' tk d D,Left s.heap h' D ss->Q (.ref D) { s with heap:=h',toks:=tk,drawn:=d }):wpAny (model prog w) A (call (.builtin "sorted") [.ref l]) Q E s :=
 gO (λ{Q'} hq=>collect_list (A:=A.in1) hl (hq _ s.toks s.drawn vs ss (λb o e=>by
  rw[zL _ _ (zW (yh e))]
  exact ye _ e) (by rw[Heap.size_update,size_push'];exact zV _) hS (.refl _)) (by rw[y8,dZ hS];lia)) h64 h
end UfSort
end
section
namespace UfSet
open PySem PyProof.Rows
def dd(xs:List Str):List Str:=xs.foldl cB []
def rA{ks:List Str}{k x:Str}:x∈cB ks k↔x∈ks\/x=k:=by
 unfold cB
 split
 ·rename_i h
  constructor
  ·exact .inl
  ·rintro(q|rfl)
   ·exact q
   ·exact h
 ·simp
theorem mf{x:Str}:∀{xs acc:List Str},x∈xs.foldl cB acc↔x∈acc\/x∈xs
 |[],acc=>by simp
 |y::xs,acc=>by
  rw[Ag,mf,rA,yr,or_assoc]
theorem iu:∀{xs acc:List Str},acc.Nodup->(xs.foldl cB acc).Nodup
 |[],_,h=>h
 |y::xs,acc,h=>iu (xs:=xs) (eC h)
theorem k9:∀{xs acc:List Str},(xs.foldl cB acc).length<=acc.length+xs.length
 |[],acc=>by simp
 |y::xs,acc=>by
  have h1:=k9 (xs:=xs) (acc:=cB acc y)
  have h2:=gW acc y
  rw[Ag,yQ]
  lia
def mY{xs:List Str}{x:Str}:x∈dd xs↔x∈xs:=by unfold dd;rw[mf];simp
def lE(xs:List Str):(dd xs).Nodup:=iu .nil
theorem fz:∀{xs acc:List Str},(acc++xs).Nodup->xs.foldl cB acc=acc++xs
 |[],acc,_=>by simp
 |y::xs,acc,h=>by
  have hy:¬y∈acc:=λz=>by
   rw[yE]at h
   exact h.2.2 y z y yW rfl
  rw[List.foldl_cons,show cB acc y=acc++[y] by unfold cB;rw[if_neg hy],fz (by rw[List.append_assoc];exact h),List.append_assoc]
  rfl
def lW{xs:List Str}(h:xs.Nodup):dd xs=xs:=by unfold dd;rw[fz (by simpa using h)];rfl
theorem jx:∀{xs acc:List Str},acc.Nodup->(xs.foldl cB acc).length=acc.length+xs.length->(acc++xs).Nodup
 |[],acc,h,_=>by simpa using h
 |y::xs,acc,h,hl=>by
  rw[Ag,yQ]at hl
  by_cases hy:y∈acc
  ·rw[show cB acc y=acc by unfold cB;rw[if_pos hy]]at hl
   have:=k9 (xs:=xs) (acc:=acc)
   lia
  ·have e:cB acc y=acc++[y]:=by unfold cB;rw[if_neg hy]
   rw[e]at hl
   have q:=jx (xs:=xs) (acc:=acc++[y]) (by rw[<-e];exact eC h) (by rw[yp,Al];lia)
   rw[zT]at q
   exact q
def m7{xs:List Str}:(dd xs).length=xs.length↔xs.Nodup:=by
 constructor
 ·intro h
  have:=jx (xs:=xs) (acc:=[]) .nil (by rw[List.length_nil,Nat.zero_add];exact h)
  simpa using this
 ·intro h
  rw[lW h]
section
variable {prog:Program}{w:World}{A:Around}{R:Result->Shared->Prop}{I:Addr}{fp wr:List Addr}{G:Array GenState->Array GenState->Prop}{St:Nat->Shared->Prop}
def bS.keeps{w:World}{h h':Heap}{a:Addr}{ks:List Str}(x:bS w h a ks)(k:∀o,h.get? a=some o->h'.get? a=some o):bS w h' a ks:=by
 obtain⟨o,es,ep,t,ks',ho,r⟩:=x
 exact⟨o,es,ep,t,ks',k _ ho,r⟩
def rX{xs:List Str}(W:WalksS prog w A.in1 I fp wr G xs.length (At xs) St)(S:Addr)(hSf:S∉fp)(hb:xs.length+1<scanBound):∀(k i:Nat) (s:Shared) (acc:List Str),xs.length-i=k->i<=xs.length->St i s->bS w s.heap S acc->acc.length<=i ->
  (∀s',Moved (S::wr) G s s'->bS w s'.heap S ((xs.drop i).foldl cB acc)->R (.ok (.ret .none)) s')->codeAny (model prog w) A (.builtin "set.update.loop" ⟨[.ref S,.ref I],[]⟩) R s:=by
 have nSw:S∉wr:=λz=>hSf (W.sub _ z)
 have sub:∀b∈wr,b∈S::wr:=λb z=>yM _ z
 intro k
 induction k with
 |zero =>
  intro i s acc hk hi st hS ha hR
  have e:i=xs.length:=by lia
  subst e
  refine Af AH ?_
  rw[zU zM _]
  show wpAny _ A.in1 (pyNext (.ref I) >>= _) _ _ s
  refine yd (W.done s _ _ st λs' hm=>?_)
  show wpAny _ A.in1 (ret Value.none) _ _ s'
  refine yj (hR s' (hm.mono sub) ?_)
  rw[Bz (yi _)]
  exact hS.keeps λo ho=>hm.heap S _ nSw ho
 |succ k ih =>
  intro i s acc hk hi st hS ha hR
  have hlt:i<xs.length:=by lia
  refine Af AH ?_
  rw[zU zM _]
  show wpAny _ A.in1 (pyNext (.ref I) >>= _) _ _ s
  refine yd (W.item i s _ _ hlt st λv s' hP st' hm=>?_)
  obtain⟨x,tk,ex,rfl⟩:=hP
  have hS':bS w s'.heap S acc:=hS.keeps λo ho=>hm.heap S _ nSw ho
  show wpAny _ A.in1 (holding [Value.str x tk] (setAdd S (.str x tk)) >>= _) _ _ s'
  refine yd (Aw ?_)
  unfold setAdd
  refine Aw ?_
  refine yd ((strKind prog w).pyHash (k:=x) (by simp[PySem.strKind,Value.isStrOf]) ?_)
  refine mx (s:={ s' with toks:=s'.toks+1 }) hS' (by lia) λh' b sb hS2=>?_
  have hd:xs.drop i=x::xs.drop (i+1):=by
   rw[AB hlt]
   rw[yg hlt]at ex
   rw[yV ex]
  refine yj ⟨Ax zM _,ih (i+1) _ (cB acc x) (by lia) hlt (W.frame _ s' _ _ st' (zV _) λb hb' o e=>?_) hS2 (by have:=gW acc x;lia) λs'' hm2 hS3=>?_⟩
  ·rw[sb.2 b (λz:b=S=>hSf (by rw[<-z];exact hb'))];exact e
  ·refine hR s'' (Moved.trans W.gtrans ((hm.mono sub).then_heap (zV _) λb o hb' e=>?_) hm2) ?_
   ·rw[sb.2 b (λz:b=S=>hb' (by rw[z];exact yW))];exact e
   ·rw[hd,Ag]
    exact hS3
end
end UfSet
end
section
namespace UfSet
open PySem PyProof.Rows
abbrev bJ(w:World):Obj:={ cls:=.type "set",dict:=none,data:=.set #[] 0 (.fresh 0 0 (!cp w)) }
def pO{w:World}{h:Heap}{a:Addr}(ho:h.get? a=some (bJ w)):bS w h a [] :=
 ⟨_,#[],0,_,[],ho,⟨rfl,rfl,rfl⟩,rfl,.nil,.refl _,.nil,by show 0<scanBound;unfold scanBound;lia,by rfl,λ_=>rfl,rfl⟩
theorem dZ:∀{vs:List Value} {ss:List Str},StrsAre vs ss->vs.length=ss.length
 |_,_,.nil=>rfl
 |_,_,.cons _ _ h=>by rw[yQ,yQ,dZ h]
theorem lK:∀{vs:List Value} {ss:List Str} {i:Nat} {v:Value},StrsAre vs ss->vs[i]?=some v->At ss i v
 |_,_,_,_,.nil,e=>by simp at e
 |_,_,0,v,.cons x t h,e=>by
  have:Value.str x t=v:=by simpa using e
  exact⟨x,t,rfl,this.symm⟩
 |_,_,i+1,_,.cons x t h,e=>by
  obtain⟨k,tk,q1,q2⟩:=lK (i:=i) h (by simpa using e)
  exact⟨k,tk,by simpa using q1,q2⟩
def _root_.PySem.Walks.imp{prog:Program}{w:World}{A:Around}{I:Addr}{fp wr:List Addr}{n:Nat}{P P':Nat->Value->Prop}{St:Nat->Heap->Prop}(W:Walks prog w A I fp wr n P St)(h:∀i v,P i v->P' i v):Walks prog w A I fp wr n P' St where
 sub:=W.sub
 frame:=W.frame
 item:=λi s Q E hi st hQ=>W.item i s Q E hi st λv h' tk hP=>hQ v h' tk (h i v hP)
 done:=W.done
 self:=W.self
def qF(x:Value){Q:Value->Shared->Prop}(hq:Q (.ref s.heap.objs.size) { s with heap:=s.heap.push (bJ w) }) :
  codeAny (model prog w) A (.call (.builtin "set.__new__") ⟨[.type "set",x],[]⟩) (wants Q E) s:=by
 refine codeAny_of_tree ?_
 show wpAny _ A.in1 (checkBuiltinCall "set.__new__" ⟨[.type "set",x],[]⟩ >>= λ_=>again (.builtin "set.__new__" ⟨[.type "set",x],[]⟩)) _ _ s
 refine yd (wpAny_of_eq (PySem.F.newCall_set_1 x) (yj ⟨Ax BH _,Af PySem.F.entry_set_new ?_⟩))
 rw[zU BH _]
 unfold Builtin.«set.__new__» Builtin.Frozenset.newClass
 have f1:=sub_set_self
 obtain⟨hp,g,d,tk,os⟩:=s
 dsimp only
 wp_walk
 refine zY (yj ?_)
 dsimp only
 simp only[newObj]
 refine yd (wpAny_alloc (yj ?_))
 exact yj hq
def mi{l:Addr}{its:List Value}{xs:List Str}{Q:Value->Shared->Prop}(hh:A.handled=none)(hl:s.heap.IsList l its.toArray)(hx:StrsAre its xs)(hb:xs.length+1<scanBound)
  (h:∀(h':Heap) (tk:Nat),bS w h' s.heap.objs.size (dd xs)->(∀b o,s.heap.get? b=some o->h'.get? b=some o)->Q (.ref s.heap.objs.size) { s with heap:=h',toks:=tk }) :
  wpAny (model prog w) A (call (.type "set") [.ref l]) Q E s:=by
 obtain⟨c,tl,g1⟩:=zt.mro
 have g2:=zt.made
 have g3:=zt.sub
 refine Bf (codeAny_of_tree ?_)
 show wpAny _ _ (callAny (.type "set") _) _ _ _
 refine yj ⟨Code.quiet_builtin _ (by decide +kernel),Af PySem.F.entry_type_call ?_⟩
 rw[Around.under_plain (weight_type_call_type "set" [.ref l] []) rfl]
 have g4:=zt.notType
 have g5:=zt.canCreate
 have g6:=PySem.F.typeCall_set_1 (.ref l)
 repeat (any_goals (first|assumption|wp_step))
 refine zX (qF (.ref l) (E:=E) (Q:=λobj s₁=>obj=.ref s.heap.objs.size/\s₁={ s with heap:=s.heap.push (bJ w) }) ⟨rfl,rfl⟩) λr s₁ hr=>?_
 cases r with
 |error e=>exact hr
 |ok fl =>
  cases fl with
  |ret obj =>
   obtain⟨rfl,rfl⟩:=hr
   have o1:(s.heap.push (bJ w)).get? s.heap.objs.size=some (bJ w):=ym _ rfl
   have T1:Shared.TypeIs { s with heap:=s.heap.push (bJ w) } (.ref s.heap.objs.size) "set":=⟨_,o1,rfl⟩
   have g7:=zt.init.lookup
   have g8:=zt.init.bind (.ref s.heap.objs.size)
   repeat (any_goals (first|assumption|wp_step))
   refine zX (codeAny_call_builtin (R:=wants (λr s₂=>r=.none/\∃h' tk,s₂={ s with heap:=h',toks:=tk }/\bS w h' s.heap.objs.size (dd xs)/\(∀b o,s.heap.get? b=some o->h'.get? b=some o)) E) zt.init.plain PySem.F.entry_set_init (check_set_init_1 T1 ?_)) λr₂ s₂ hr₂=>?_
   ·obtain⟨ol,hol,hcl,nl,hdl⟩:=hl
    obtain⟨ocls,odict,odata,oslots⟩:=ol
    simp only at hcl hdl
    subst hcl;subst hdl
    have hol':(s.heap.push (bJ w)).get? l=some { cls:=.type "list",dict:=odict,data:=.seq its.toArray nl,slots:=oslots }:=ye _ hol
    have n1:=PySem.F.sub_list_set
    have n2:=PySem.F.sub_list_frozenset
    have n3:(Value.type "list" == Value.type "dict")=false:=by decide
    have l1:(s.heap.push (bJ w)).IsList l its.toArray:=⟨_,hol',rfl,nl,rfl⟩
    unfold Builtin.«set.__init__» noKeywords Builtin.Frozenset.updateFrom
    generalize hPI:pyIter=PI
    wp_walk
    subst hPI
    refine AK l1 ?_
    refine yd (wpAny_runValue ?_)
    have lt:l<s.heap.objs.size:=yh hol
    have h3:A.in1.in1.in1.handled=none:=by simp[hh]
    have neI:l≠(s.heap.push (bJ w)).objs.size:=by rw[zj];exact yn (zz lt)
    have nf:s.heap.objs.size∉[(s.heap.push (bJ w)).objs.size,l]:=by
     rw[zj]
     simp only[yr,zZ,Bl,not_or]
     exact⟨yn (zD _),zW lt⟩
    have hat:∀(i:Nat) (v:Value),its.toArray[i]?=some v->At xs i v:=λi v e=>by
     have e':its[i]?=some v:=by simpa using e
     exact lK hx e'
    have hsz:its.toArray.size=xs.length:=by rw[yw];exact dZ hx
    have W0:=(Walks.list (prog:=prog) (w:=w) h3 (s.heap.push (bJ w)).objs.size l neI its.toArray).imp hat
    rw[hsz]at W0
    refine rX W0.toS s.heap.objs.size nf hb xs.length 0 _ [] (by lia) (yC _) ⟨⟨_,ym _ rfl,rfl,rfl⟩,(l1.push _)⟩ (pO (ye _ o1)) (yi _) ?_
    intro s' hm hS'
    rw[List.drop_zero]at hS'
    rw[mj hm]
    show wpAny _ _ _ _ _ _
    refine yj ?_
    show wpAny _ _ (ret Value.none) _ _ _
    refine yj ⟨rfl,s'.heap,s'.toks,rfl,hS',λb o e=>?_⟩
    have lb:=yh e
    refine hm.heap b o (λz=>?_) (ye _ (ye _ e))
    simp only[yr,zZ,Bl]at z
    rcases z with z|z
    ·exact absurd z (yn lb)
    ·rw[zj]at z
     exact absurd z (yn (zz lb))
   ·cases r₂ with
    |error e=>exact hr₂
    |ok fl₂ =>
     cases fl₂ with
     |ret r =>
      obtain⟨rfl,h',tk,rfl,q1,q2⟩:=hr₂
      repeat (any_goals (first|assumption|wp_step))
      exact h _ _ q1 q2
     |_=>exact hr₂.elim
  |_=>exact hr.elim
end UfSet
end
section
namespace L2
open PySem PySem.Spec PyProof.Rows UfSrt
section
variable {X:Cx}{pins:List (Addr×Obj)}{σ:St}{H:Hp}{s:Shared}
def Inv.draw(I:Inv X pins σ H s)(d:Drawn):Inv X pins σ H { s with drawn:=d } :=
 ⟨I.ok,I.os,I.bare,I.base,I.loc,I.cell,I.free,I.freeC,I.pin,I.hok,I.len⟩
def au(ss:List Str):List V:=ss.map V.str
theorem ky:∀{ss:List Str} {us:List Value},Vals (au ss) us->StrsAre us ss
 |[],_,.nil=>.nil
 |x::ss,_,.cons r t=>by
  obtain⟨tk,rfl⟩:=r
  exact .cons x tk (ky t)
theorem nW:∀{ss:List Str} {us:List Value},StrsAre us ss->Vals (au ss) us
 |_,_,.nil=>.nil
 |_,_,.cons x tk h=>.cons ⟨tk,rfl⟩ (nW h)
def ah(ss:List Str):(au ss).length=ss.length:=yf _
def lz(w:World)(a:Addr)(ks:List Str):HO:=.ext λh=>UfSet.bS w h a ks
def vA{P:Program}{w:World}{H':Hp}{h:Heap}{a:Addr}{ks:List Str}(x:UfSet.bS w h a ks):aY P w H' h a (lz w a ks):=by
 refine⟨x,?_,λh1 h2 p k=>p.keeps k⟩
 obtain⟨o,_,_,_,_,e,_⟩:=x
 exact⟨o,e⟩
def rM{a:Addr}{ks:List Str}(I:Inv X pins σ H s)(e:H a=some (lz X.w a ks)):UfSet.bS X.w s.heap a ks:=(I.hok a _ e).1
def u4(K:PySem.W.Frag)(w:World):List V->Hp->VK->Prop:=λxs H Q=>∃l ss,xs=[.ref l]/\aA K H l (au ss)/\ss.length<=1000/\∀p,H p=none->Q (.ref p) (upd H p (lz w p (UfSet.dd ss)))
def kO(hc:X.calm=true):dD X (.type "set") (u4 X.K X.w):=by
 intro pins s σ H xs us Q I r h
 obtain⟨l,ss,rfl,hl,hz,q⟩:=h
 obtain⟨u,rfl,ru⟩:=vals1 r
 cases ru
 obtain⟨its,rv,pl,_⟩:=I.list hl
 have hS:=ky rv
 have hf:H s.heap.objs.size=none:=I.hok.fresh (yi _)
 refine UfSet.mi (I.ok.hd hc) pl.isList hS (by show ss.length+1<4096;lia) λh' tk hset hk=>?_
 exact⟨.ref s.heap.objs.size,_,I.laid (t':=tk) hk (yi _) (vA hset),rfl,q _ hf⟩
def pf:dD X (.builtin "len") (λxs H Q=>∃a ks,xs=[V.ref a]/\H a=some (lz X.w a ks)/\Q (.int ks.length) H):=by
 intro pins s σ H xs us Q I r h
 obtain⟨a,ks,rfl,ha,q⟩:=h
 obtain⟨u,rfl,ru⟩:=vals1 r
 cases ru
 obtain⟨o,es,ep,t,ks',ho,hex,hd,he,hp,hn,hb,hf,_⟩:=rM I ha
 have el:es.size=ks.length:=by rw[<-hp.length_eq,he.len];simp
 have hb':es.size<4096:=hb
 refine call_len_set ho hex hd hf (by lia) ⟨.int ks.length,H,I.tok _,⟨_,by rw[el]⟩,q⟩
def iF{h':Heap}{tk:Nat}{d:Drawn}{D:Addr}{ss:List Str}(I:Inv X pins σ H s)(L:UfSort.Left s.heap h' D ss)(hz:ss.length<=1000):Inv X pins σ (upd H D (.lst (au (aD ss)))) { s with heap:=h',toks:=tk,drawn:=d }:=by
 obtain⟨vs,n,e,hS⟩:=L.at'
 have hl:(au (aD ss)).length<=sizeLine:=by
  rw[ah,dH,y8]
  lia
 exact(I.laid (o:=.lst (au (aD ss))) (t':=tk) L.keep L.new (show aY X.prog X.w _ h' D (.lst (au (aD ss))) from⟨hl,vs,n,nW hS,e⟩)).draw d
def u6(K:PySem.W.Frag):List V->Hp->VK->Prop:=λxs H Q=>∃l ss,xs=[.ref l]/\aA K H l (au ss)/\ss.length<64/\∀p,H p=none->Q (.ref p) (upd H p (.lst (au (aD ss))))
def cA:dD X (.builtin "sorted") (u6 X.K):=by
 intro pins s σ H xs us Q I r h
 obtain⟨l,ss,rfl,hl,hz,q⟩:=h
 obtain⟨u,rfl,ru⟩:=vals1 r
 cases ru
 obtain⟨its,rv,pl,_⟩:=I.list hl
 refine UfSort.lJ pl.isList (ky rv) hz λh' tk d D L=>?_
 exact⟨.ref D,_,iF I L (by lia),rfl,q _ (I.hok.fresh L.new)⟩
def vc(w:World):List V->Hp->VK->Prop:=λxs H Q=>∃a ks,xs=[.ref a]/\H a=some (lz w a ks)/\ks.length<64/\∀p,H p=none->Q (.ref p) (upd H p (.lst (au (aD ks))))
def nD(hc:X.calm=true):dD X (.builtin "sorted") (vc X.w):=by
 intro pins s σ H xs us Q I r h
 obtain⟨a,ks,rfl,ha,hz,q⟩:=h
 obtain⟨u,rfl,ru⟩:=vals1 r
 cases ru
 refine UfSort.mL (I.ok.hd hc) (rM I ha) hz λh' tk d D L=>?_
 exact⟨.ref D,_,iF I L (by lia),rfl,q _ (I.hok.fresh L.new)⟩
theorem qy:∀{bs:List Bool} {us:List Value} {i:Nat} {v:Value},Vals (bs.map V.bl) us->us[i]?=some v->v=.bool (bs.getD i true)/\i<bs.length
 |[],_,_,_,.nil,e=>by simp at e
 |b::bs,_,0,v,.cons r t,e=>by
  simp at e
  subst e
  exact⟨r,by simp⟩
 |b::bs,_,i+1,v,.cons r t,e=>by
  obtain⟨h1,h2⟩:=qy (i:=i) t (by simpa using e)
  exact⟨by simpa using h1,by simpa using h2⟩
def all_range(bs:List Bool):(List.range bs.length).all (λi=>bs.getD i true)=bs.all id:=by
 induction bs with
 |nil=>rfl
 |cons b bs ih =>
  rw[yQ,BB,AO,AY,AO]
  have e:(List.range bs.length).all ((λi=>(b::bs).getD i true) ∘ Nat.succ)=(List.range bs.length).all (λi=>bs.getD i true):=by
   congr 1
  rw[e,ih]
  rfl
def any_range(bs:List Bool):(List.range bs.length).any (λi=>bs.getD i true)=bs.any id:=by
 induction bs with
 |nil=>rfl
 |cons b bs ih =>
  rw[yQ,BB,zG,Bm,zG]
  have e:(List.range bs.length).any ((λi=>(b::bs).getD i true) ∘ Nat.succ)=(List.range bs.length).any (λi=>bs.getD i true):=by
   congr 1
  rw[e,ih]
  rfl
def i5{A:Around}{l:Addr}{bs:List Bool}{its:List Value}(hh:A.handled=none)(rv:Vals (bs.map V.bl) its)(I:Addr)(hne:l≠I) :
  Walks X.prog X.w A I [I,l] [I] bs.length (λi v=>v=.bool (bs.getD i true)) (λi h=>h.IsListIter I l i/\h.IsList l its.toArray):=by
 have el:its.toArray.size=bs.length:=by
  have:=rv.length
  rw[yf]at this
  simp[this]
 have W:=(Walks.list (prog:=X.prog) (w:=X.w) hh I l hne its.toArray).imp (P':=λi v=>v=.bool (bs.getD i true)) λi v e=>(qy rv (by simpa using e)).1
 rw[el]at W
 exact W
def xv(K:PySem.W.Frag):List V->Hp->VK->Prop:=λxs H Q=>∃(l:Addr) (bs:List Bool),xs=[.ref l]/\aA K H l (bs.map V.bl)/\Q (.bl (bs.all id)) H
def xC(K:PySem.W.Frag):List V->Hp->VK->Prop:=λxs H Q=>∃(l:Addr) (bs:List Bool),xs=[.ref l]/\aA K H l (bs.map V.bl)/\Q (.bl (bs.any id)) H
def iy(hc:X.calm=true):dD X (.builtin "all") (xv X.K):=by
 intro pins s σ H xs us Q I r h
 obtain⟨l,bs,rfl,hl,q⟩:=h
 obtain⟨u,rfl,ru⟩:=vals1 r
 cases ru
 obtain⟨its,rv,pl,_⟩:=I.list hl
 have hh:X.A.in1.handled=none:=I.ok.hd hc
 have lt:l<s.heap.objs.size:=let ⟨o,_,e,_⟩:=pl;yh e
 refine call_all_walk (AK pl.isList ⟨_,_,_,_,_,_,λi=>bs.getD i true,rfl,i5 hh rv _ (yn lt),⟨⟨_,ym _ rfl,rfl,rfl⟩,pl.isList.push _⟩,λi v s Q E hv hQ=>?_,λh' tk hk=>?_⟩)
 ·subst hv
  exact zd hQ
 ·rw[all_range]
  refine⟨.bl (bs.all id),H,I.kept (t':=tk) λb o e=>hk b o (λz=>?_) (ye _ e),rfl,q⟩
  have z':b=s.heap.objs.size:=by simpa using z
  exact absurd (yh e) (by rw[z'];exact zc _)
def kP(hc:X.calm=true):dD X (.builtin "any") (xC X.K):=by
 intro pins s σ H xs us Q I r h
 obtain⟨l,bs,rfl,hl,q⟩:=h
 obtain⟨u,rfl,ru⟩:=vals1 r
 cases ru
 obtain⟨its,rv,pl,_⟩:=I.list hl
 have hh:X.A.in1.handled=none:=I.ok.hd hc
 have lt:l<s.heap.objs.size:=let ⟨o,_,e,_⟩:=pl;yh e
 refine call_any_walk (AK pl.isList ⟨_,_,_,_,_,_,λi=>bs.getD i true,rfl,i5 hh rv _ (yn lt),⟨⟨_,ym _ rfl,rfl,rfl⟩,pl.isList.push _⟩,λi v s Q E hv hQ=>?_,λh' tk hk=>?_⟩)
 ·subst hv
  exact zd hQ
 ·rw[any_range]
  refine⟨.bl (bs.any id),H,I.kept (t':=tk) λb o e=>hk b o (λz=>?_) (ye _ e),rfl,q⟩
  have z':b=s.heap.objs.size:=by simpa using z
  exact absurd (yh e) (by rw[z'];exact zc _)
def sign(c:Nat):V:=.str ⟨#[c]⟩
def vU(x:Str):It:=⟨λi _=>i<x.cps.size,λi H v H'=>H'=H/\∃c,x.cps[i]?=some c/\v=sign c,λi _=>i=x.cps.size⟩
end
def lR{P:Program}{w:World}{K:PySem.W.Frag}{tg:Expr}{x:Str}{it:Addr}{St:Nat->Heap->Prop}(W:∀A':Around,A'.handled=none->Walks P w A' it [it] [it] x.cps.size (SignAt x) St)
  (ho:∀i h,St i h->∃o nm vs,h.get? it=some o/\o.cls=.type nm/\o.data=.fields vs/\["enumerate", "zip", "dict_itemiterator", "dict_reverseitemiterator", "odict_iterator", "itertools.zip_longest", "itertools.pairwise"].contains nm=false)
  (hs:∀(A:Around) (i:Nat) (s:Shared) (Q:Value->Shared->Prop) (E:Value->Shared->Prop),St i s.heap->Q (.ref it) s->wpAny (model P w) A (pyIter (.ref it)) Q E s):Turn P w K tg (vU x) [it] it St where
 mem:=by simp
 obj:=λi h st b hb=>by
  have e:b=it:=by simpa using hb
  subst e
  obtain⟨o,nm,vs,e,_,d,_⟩:=ho i h st
  exact⟨o,e,λv z=>by rw[d]at z;cases z⟩
 keep:=λi h h' st k=>(W ⟨none,0,none,none,1⟩ rfl).frame i h h' st λb hb o e=>k b hb o e
 item:=by
  intro X hP hw hK hc i pins s σ H E I hf st hg
  subst hP hw hK
  obtain⟨f0,f1,f2,f3,f4,f5⟩:=hf it (by simp)
  refine(W X.A (I.ok.hd hc)).item i s _ _ hg st λv h' tk hP st' kk=>?_
  obtain⟨c,u,hx,rfl⟩:=hP
  have I1:Inv X pins σ H { s with heap:=h',toks:=tk }:=I.turned (λb o hb e=>kk b o (by simpa using hb) e) f0 f1 f3 f4 f5
  obtain⟨o,nm,vs,e,c1,d,hn⟩:=ho _ _ st'
  exact⟨_,rfl,kL (s:={ s with heap:=h',toks:=tk }) e c1 d hn ⟨sign c,H,I1,⟨u,rfl⟩,⟨rfl,c,hx,rfl⟩,st',λb hb=>(hf b hb).1⟩⟩
 done:=by
  intro X hP hw hK hc i pins s σ H E I hf st hg
  subst hP hw hK
  obtain⟨f0,f1,f2,f3,f4,f5⟩:=hf it (by simp)
  have e:i=x.cps.size:=hg
  subst e
  exact(W X.A (I.ok.hd hc)).done s _ _ st λh' tk kk=>⟨rfl,I.turned (λb o hb e=>kk b o (by simpa using hb) e) f0 f1 f3 f4 f5⟩
 self:=hs
section
variable {X:Cx}{tg:Expr}
def xW(tl:TE):TI:=λσ H R=>tl σ H λv H1=>∃x,v=.str x/\R (vU x) H1
def mD{l:Expr}{tl:TE}(hl:PE X l tl):PI X tg l (xW tl):=by
 intro pins s σ H R I h
 refine a6 (hl pins s σ H _ I h) λv s1 hZ=>?_
 obtain⟨y,H1,I1,r1,q1⟩:=hZ
 obtain⟨x,e,q⟩:=q1
 subst e
 obtain⟨t,rfl⟩:=r1
 have fp:∀b∈[s1.heap.objs.size],eQ X pins H1 b:=λb hb=>by
  have e:b=s1.heap.objs.size:=by simpa using hb
  subst e
  exact I1.pH (yi _) (I1.hok.fresh (yi _))
 cases ha:x.cps.all (· < 128) with
 |false =>
  refine wpAny_pyIter_wide ha ?_
  refine⟨s1.heap.objs.size,[s1.heap.objs.size],λi h=>h.IsStrIter s1.heap.objs.size "str_iterator" x t i,vU x,H1,rfl,I1.kept (t':=s1.toks) λb o e=>ye _ e,lR (λA' hA=>Walks.strWide hA _ x t) (λi h st=>?_) (λA i s Q E st hq=>wpAny_pyIter_striter_wide st hq),⟨_,ym _ rfl,rfl,rfl⟩,fp,q⟩
  obtain⟨o,e1,e2,e3⟩:=st
  exact⟨o,_,_,e1,e2,e3,by decide⟩
 |true =>
  refine wpAny_pyIter_ascii ha ?_
  refine⟨s1.heap.objs.size,[s1.heap.objs.size],λi h=>h.IsStrIter s1.heap.objs.size "str_ascii_iterator" x t i,vU x,H1,rfl,I1.kept (t':=s1.toks) λb o e=>ye _ e,lR (λA' hA=>Walks.strAscii hA _ x t) (λi h st=>?_) (λA i s Q E st hq=>wpAny_pyIter_striter_ascii st hq),⟨_,ym _ rfl,rfl,rfl⟩,fp,q⟩
  obtain⟨o,e1,e2,e3⟩:=st
  exact⟨o,_,_,e1,e2,e3,by decide⟩
end
section
variable {K:PySem.W.Frag}{n:Nat}{ci:List Nat}{g:TG}{tt:TT}{te:TE}{σ:St}{H:Hp}{D:Addr}{Q:VK}
def bC{a:Addr}{xs:List V}(Pv:Nat->List V->Hp->Prop)(h0:Pv 0 [] (upd H D (.lst [])))(hl:∀i ys H,i<=xs.length->Pv i ys H->aA K H a xs)
  (hs:∀i x ys H,xs[i]?=some x->Pv i ys H->g x (mq n ci σ) H λσ2 H2=>tt σ2 H2 λb H3=>if b=true then te σ2 H3 λy H4=>H4 D=some (.lst ys)/\ys.length<sizeLine/\Pv (i+1) (ys++[y]) (upd H4 D (.lst (ys++[y]))) else Pv (i+1) ys H3)
  (hd:∀ys H,Pv xs.length ys H->Q (.ref D) H) :
  gr n ci (vF K a) g tt te σ H D Q:=by
 unfold gr
 refine⟨xs.length,Pv,h0,λi ys H hi p=>?_⟩
 have q:=hl i ys H hi p
 by_cases hlt:i<xs.length
 ·refine .inr ⟨hlt,⟨xs,xs[i],q,by simp[hlt]⟩,λx H' y=>?_⟩
  obtain⟨e,y⟩:=y
  subst e
  exact hs i x ys _ (y xs q) p
 ·have e:i=xs.length:=by lia
  subst e
  exact .inl ⟨⟨xs,q,yi _⟩,hd ys H p⟩
def lS{a:Addr}{xs:List V}(Pv:Nat->List V->Hp->Prop)(h0:Pv 0 [] (upd H D (.lst [])))(hl:∀i ys H,i<=xs.length->Pv i ys H->cY K H a xs)
  (hs:∀i x ys H,xs[i]?=some x->Pv i ys H->g x (mq n ci σ) H λσ2 H2=>tt σ2 H2 λb H3=>if b=true then te σ2 H3 λy H4=>H4 D=some (.lst ys)/\ys.length<sizeLine/\Pv (i+1) (ys++[y]) (upd H4 D (.lst (ys++[y]))) else Pv (i+1) ys H3)
  (hd:∀ys H,Pv xs.length ys H->Q (.ref D) H) :
  gr n ci (xg K a) g tt te σ H D Q:=by
 unfold gr
 refine⟨xs.length,Pv,h0,λi ys H hi p=>?_⟩
 have q:=hl i ys H hi p
 by_cases hlt:i<xs.length
 ·refine .inr ⟨hlt,⟨xs,xs[i],q,by simp[hlt]⟩,λx H' y=>?_⟩
  obtain⟨e,y⟩:=y
  subst e
  exact hs i x ys _ (y xs q) p
 ·have e:i=xs.length:=by lia
  subst e
  exact .inl ⟨⟨xs,q,yi _⟩,hd ys H p⟩
def iK{x:Str}(Pv:Nat->List V->Hp->Prop)(h0:Pv 0 [] (upd H D (.lst [])))
  (hs:∀i c ys H,x.cps[i]?=some c->Pv i ys H->g (sign c) (mq n ci σ) H λσ2 H2=>tt σ2 H2 λb H3=>if b=true then te σ2 H3 λy H4=>H4 D=some (.lst ys)/\ys.length<sizeLine/\Pv (i+1) (ys++[y]) (upd H4 D (.lst (ys++[y]))) else Pv (i+1) ys H3)
  (hd:∀ys H,Pv x.cps.size ys H->Q (.ref D) H) :
  gr n ci (vU x) g tt te σ H D Q:=by
 unfold gr
 refine⟨x.cps.size,Pv,h0,λi ys H hi p=>?_⟩
 by_cases hlt:i<x.cps.size
 ·refine .inr ⟨hlt,hlt,λv H' y=>?_⟩
  obtain⟨e,c,hc,rfl⟩:=y
  subst e
  exact hs i c ys _ hc p
 ·have e:i=x.cps.size:=by lia
  subst e
  exact .inl ⟨rfl,hd ys H p⟩
end
end L2
end
section
namespace Uf
open PySem L2 UfSrt
def top (i:Nat):Stmt:=PySem.Challenge.pw_unfoldnet_k14_whole_crowding.main.body.getD i (.Pass ⟨0,0,0,0⟩)
def TB:Addr:=115
def qg:Pos:=match bo (top 13) with
 |.Return (some (.Call _ (_::.Lambda _ _ _ ps::_) _ _)) _::_=>ps
 |_=>⟨0,0,0,0⟩
def oG:HO:=.tbl (jb qg "crowding.<locals>.<lambda>")
abbrev cJ:Stmt:=top 17
abbrev fc:Stmt:=top 24
abbrev gq:Stmt:=top 25
abbrev fX:Stmt:=top 26
abbrev jN:Stmt:=top 27
def qz:bootBuiltins "all"=some (.builtin "all"):=by decide +kernel
def uE:bootBuiltins "any"=some (.builtin "any"):=by decide +kernel
def cm:bootBuiltins "len"=some (.builtin "len"):=by decide +kernel
def tW:bootBuiltins "set"=some (.type "set"):=by decide +kernel
def eO:bootBuiltins "list"=some (.type "list"):=by decide +kernel
def eI:bootBuiltins "tuple"=some (.type "tuple"):=by decide +kernel
def wK:bootBuiltins "str"=some (.type "str"):=by decide +kernel
def cN:bootBuiltins "sorted"=some (.builtin "sorted"):=by decide +kernel
def tQ:bootBuiltins "isinstance"=some (.builtin "isinstance"):=by decide +kernel
def dI:Str:="abcdefghijklmnopqrstuvwxyz"
def isNm(x:Str):Bool:=decide (1<=x.length)&&(decide (x.length<=8)&&x.cps.toList.all λc=>decide (c∈dI.cps.toList))
structure Txt(K:PySem.W.Frag)(mg:Str->Option Value):Prop where
 all:mg "all"=none
 len:mg "len"=none
 set:mg "set"=none
 lst:mg "list"=none
 tup:mg "tuple"=none
 str:mg "str"=none
 aD:mg "sorted"=none
 isi:mg "isinstance"=none
 letters:∃tk,mg "LETTERS"=some (.str dI tk)
 longest:∃tk,mg "LONGEST_NAME"=some (.int 8 tk)
 mostP:∃tk,mg "MOST_PLACES"=some (.int 12 tk)
 mostM:∃tk,mg "MOST_MOVES"=some (.int 12 tk)
 leastT:∃tk,mg "LEAST_TAKEN"=some (.int 1 tk)
 mostT:∃tk,mg "MOST_TAKEN"=some (.int 4 tk)
 mostG:∃tk,mg "MOST_GIVEN"=some (.int 4 tk)
def ag{H:Hp}{D:Addr}{o:HO}(h:H D=none):ar H (upd H D o):=λb u e=>by
 rw[ai (ak e h)]
 exact e
def ax{H H2:Hp}{D:Addr}{o:HO}(s:ar H H2)(h:H D=none):ar H (upd H2 D o):=λb u e=>by
 rw[ai (ak e h)]
 exact s b u e
def ya{H:Hp}{D:Addr}(h:H D=none)(o:HO):∃H',upd H D o=H'/\ar H H'/\H' D=some o:=⟨_,rfl,ag h,ab⟩
def aq{α:Type}{l:List α}{i:Nat}{a:α}(h:l[i]?=some a):l.take (i+1)=l.take i++[a]:=by
 rw[List.take_add_one,h]
 rfl
def nd_of{X:Cx}{N:List Str}(h:N.Nodup)(e:X.N=N:=by rfl):X.N.Nodup:=by rw[e];exact h
section
variable {X:Cx}
def lu:dD X (.builtin "isinstance") (λxs H Q=>∃x c t b,xs=[x,.ty c]/\fF X.K H x t/\PySem.W.kitOne X.K t (.type c)=some b/\Q (.bl b) H):=by
 intro pins s σ H xs us Q I r h
 obtain⟨x,c,t,b,rfl,ty,e,q⟩:=h
 obtain⟨u,v,rfl,ru,rv⟩:=vals2 r
 cases rv
 exact pL I ru ty e λtk=>⟨.bl b,H,I.tok tk,rfl,q⟩
end
def iE:Sp:=λvs H Q _=>∃x:Str,vs=[.str x]/\x.length<=1000/\∀H',ar H H'->Q (.bl (isNm x)) H'
def kY:az ["thing"] ["thing"] (av cJ):=fo
def jG{f:Addr}{fd:FuncData}(F:dt K "is_name" "is_name" cJ f fd)(T:Txt K mg):aI P w K mg base cj 1 f fd ["thing"] iE:=by
 refine F.oK kY λcdv A outer s H vs Q E hr h=>?_
 ·obtain⟨x,rfl,hz,k⟩:=h
  obtain⟨tl,hl⟩:=T.letters
  obtain⟨tn,hn⟩:=T.longest
  refine⟨_,af (br (PW.pt (pw_or (cy (cv (ay lu rfl T.isi tQ (aa (pv 0) (aa (oy (v:=.ty "str") rfl T.str wK rfl) ae)))))
    (pw_or1 (cy (qB jB jB aj (ay aU rfl T.len cm (aa (pv 0) ae)) (eD (v:=.int 8) rfl hn ⟨tn,rfl⟩))))))
    (ao (aB hE)) aK)
   (ao (aB (ay (iy rfl) rfl T.all qz (aa (bD (N:=["sign"]) (n:=1) (ci:=[]) rfl (mD (pv 0)) (mn kY)
    (λz=>⟨kD 0,dB,dJ pX (pv 0) (eD (v:=.str dI) rfl hl ⟨tl,rfl⟩) (by with_unfolding_all rfl)⟩)) ae)))),?_⟩
  try dsimp only[bq,Cx.eE,Cx.cM]
  refine⟨_,rfl,_, "str",_,true,rfl,fF.str x,(by rfl),true,rfl,?_⟩
  refine aQ ?_
  have hs:x.length<=sizeLine:=by rw[y8];lia
  refine⟨_,rfl,_,x.length,rfl,⟨hs,rfl⟩,1,_,rfl,rfl,_,rfl,?_⟩
  by_cases h1:1<=x.length
  ·rw[yy (show(1:Int)<=(x.length:Int) by lia)]
   refine a9 ?_
   refine⟨_,_,rfl,rfl,_,rfl,?_⟩
   by_cases h8:x.length<=8
   ·rw[yy (show(x.length:Int)<=8 by lia)]
    refine aQ ?_
    refine⟨_,rfl,x,rfl,λz D hD=>iK (λi ys H2=>ys=(x.cps.toList.take i).map (λc=>V.bl (decide (c∈dI.cps.toList)))/\H2 D=some (.lst ys)/\ar H H2) ⟨rfl,ab,ag hD⟩ ?_ ?_⟩
    ·rintro i c ys H2 hc ⟨rfl,hys,sm⟩
     refine⟨_,rfl,⟨#[c]⟩,dI,rfl,rfl,hys,?_,?_,ab,ax sm hD⟩
     ·rw[yf,yB,zB]
      have:x.cps.size<=8:=h8
      rw[y8]
      lia
     ·rw[aq (by rw[yY];exact hc),yk,PySem.StrLaws.found_one]
      rfl
    ·rintro ys H2 ⟨rfl,hys,sm⟩
     refine⟨D,x.cps.toList.map λc=>decide (c∈dI.cps.toList),rfl,aA.of ?_,?_⟩
     ·rw[hys]
      rw[Ai (by simp),AI]
      rfl
     ·have e:isNm x=(x.cps.toList.map λc=>decide (c∈dI.cps.toList)).all id:=by
       unfold isNm
       rw[yy h1,yy h8,AY]
       rfl
      rw[<-e]
      exact k H2 sm
   ·rw[yL (show ¬(x.length:Int)<=8 by lia)]
    refine a9 ?_
    have e:isNm x=false:=by unfold isNm;rw[decide_eq_false h8];simp
    rw[<-e]
    exact k H (ar.refl H)
  ·rw[yL (show ¬(1:Int)<=(x.length:Int) by lia)]
   refine aQ ⟨_,rfl,?_⟩
   refine a9 ?_
   have e:isNm x=false:=by unfold isNm;rw[decide_eq_false h1];simp
   rw[<-e]
   exact k H (ar.refl H)
structure Def(K:PySem.W.Frag)(mg:Str->Option Value)(x:Str)(st:Stmt)(ps:List Str)(f:Addr)(fd:FuncData):Prop where
 fn:dt K x x st f fd
 mg:mg x=some (.ref f)
 bd:Binds K fd ps []
structure h9(P:Program)(w:World)(K:PySem.W.Frag)(mg:Str->Option Value)(base:Heap)(x:Str)(st:Stmt)(ps:List Str)(k:Nat)(sp:Sp) where
 f:Addr
 fd:FuncData
 d:Def K mg x st ps f fd
 g:aI P w K mg base cj k f fd ps sp
def eM{X:Cx}{x:Str}{st:Stmt}{ps:List Str}{k:Nat}{sp:Sp}{e:Expr}{es:List Expr}{t:TA}{p pos:Pos}(D:h9 X.prog X.w X.K X.mg X.base x st ps k sp)(hr:bz k X.A)(ha:PA X (e::es) t)(hg:Gl X x:=by rfl)(hdb:(x==("__debug__":Str))=false:=by decide)(he:starEach (e::es) X.env=(false,eval e X.env)::starEach es X.env:=by rfl)(hpl:(backTo pos (starEach es X.env)).any (·.1)=false:=by rfl) :
  PE X (.Call (.Name x p) (e::es) [] pos) (uD sp [] E0 t):=cq D.g hr hg D.d.mg D.d.fn.kp D.d.bd .nil bE ha hdb he hpl
def unlike(xs:List Str):Bool:=xs.all isNm&&decide xs.Nodup
def Short(xs:List Str):Prop:=xs.length<=200/\∀x∈xs,x.length<=1000
def bL{xs:List Str}{i:Nat}{v:V}(h:(au xs)[i]?=some v):∃x,xs[i]?=some x/\v=.str x:=by
 unfold au at h
 rw[yR]at h
 cases e:xs[i]? with
 |none=>rw[e]at h;cases h
 |some x=>rw[e]at h;exact⟨x,rfl,(yV h).symm⟩
def iw(K:PySem.W.Frag):Sp:=λvs H Q _=>∃(a:Addr) (xs:List Str),vs=[.ref a]/\aA K H a (au xs)/\Short xs/\∀H',ar H H'->Q (.bl (unlike xs)) H'
def me:az ["things"] ["things"] (av fc):=fo
def js{f fN:Addr}{fd fdN:FuncData}(F:dt K "are_unlike_names" "are_unlike_names" fc f fd)(T:Txt K mg)(DN:Def K mg "is_name" cJ ["thing"] fN fdN):aI P w K mg base cj 2 f fd ["things"] (iw K):=by
 have GN:aI P w K mg base cj 1 fN fdN ["thing"] iE:=jG DN.fn T
 refine F.oK me λcdv A outer s H vs Q E hr h=>?_
 ·obtain⟨a,xs,rfl,ha,hz,k⟩:=h
  refine⟨_,ao (aB (ke (ay (iy rfl) rfl T.all qz (aa (bD (N:=["thing"]) (n:=1) (ci:=[]) rfl (bc (pv 0)) (mn me)
    (λz=>⟨kD 0,dB,cq GN hr rfl DN.mg DN.fn.kp DN.bd .nil bE (aa (pv 0) ae)⟩)) ae))
   (jS (dJ ft (ay pf rfl T.len cm (aa (aO (kO rfl) rfl T.set tW (aa (pv 0) ae)) ae)) (ay aU rfl T.len cm (aa (pv 0) ae)) (aZ _))))),?_⟩
  try dsimp only[bq,Cx.eE,Cx.cM]
  refine⟨_,rfl,a,rfl,⟨_,ha⟩,λz D hD=>bC (a:=a) (xs:=au xs) (λi ys H2=>ys=(xs.take i).map (λx=>V.bl (isNm x))/\H2 D=some (.lst ys)/\ar H H2) ⟨rfl,ab,ag hD⟩ (λi ys H2 _ p=>p.2.2.seq ha) ?_ ?_⟩
  ·rintro i v ys H2 hi ⟨rfl,hys,sm⟩
   obtain⟨x,hx,rfl⟩:=bL hi
   refine⟨_,rfl,x,rfl,hz.2 x (yq hx),λH3 s3=>⟨s3 _ _ hys,?_,?_,ab,ax (sm.trans s3) hD⟩⟩
   ·rw[yf,yB,y8]
    have:=hz.1
    lia
   ·rw[aq hx,yk]
    rfl
  ·rintro ys H2 ⟨rfl,hys,sm⟩
   have hl:(au xs).length=xs.length:=ah xs
   rw[hl,yH]at hys
   refine⟨D,xs.map isNm,rfl,aA.of (by rw[hys,AI];rfl),_,rfl,?_⟩
   have ea:(xs.map isNm).all id=xs.all isNm:=by rw[AY];rfl
   rw[ea]
   cases hn:xs.all isNm with
   |false =>
    refine aQ ?_
    have e:unlike xs=false:=by unfold unlike;rw[hn];rfl
    rw[<-e]
    exact k H2 sm
   |true =>
    refine a9 ?_
    refine⟨_,rfl,a,xs,rfl,sm.seq ha,by have:=hz.1;lia,λp hp=>⟨p,_,rfl,ab,?_⟩⟩
    have sm2:ar H (upd H2 p (lz w p (UfSet.dd xs))):=ax sm (sm.free hp)
    refine⟨_,rfl,_,xs.length,rfl,.inl ⟨_,sm2.seq ha,hl.symm⟩,rfl,?_⟩
    have e:unlike xs=decide (V.int (((UfSet.dd xs).length:Nat):Int)=V.int ((xs.length:Nat):Int)):=by
     unfold unlike
     rw[hn,AQ]
     refine Ar.mpr ?_
     rw[<-UfSet.m7]
     constructor
     ·intro h;rw[h]
     ·intro h;injection h with h;lia
    rw[<-e]
    exact k _ sm2
def cP(tk gv:List Str):Bool:=unlike tk&&(unlike gv&&(decide (1<=tk.length)&&(decide (tk.length<=4)&&decide (gv.length<=4))))
def lh(K:PySem.W.Frag):Sp:=λvs H Q _=>∃(a b:Addr) (tk gv:List Str),vs=[.ref a,.ref b]/\aA K H a (au tk)/\aA K H b (au gv)/\Short tk/\Short gv/\∀H',ar H H'->Q (.bl (cP tk gv)) H'
def qq:az ["taken", "given"] ["taken", "given"] (av gq):=fo
def p5{f fN fU:Addr}{fd fdN fdU:FuncData}(F:dt K "is_move" "is_move" gq f fd)(T:Txt K mg)(DN:Def K mg "is_name" cJ ["thing"] fN fdN)(DU:Def K mg "are_unlike_names" fc ["things"] fU fdU):aI P w K mg base cj 3 f fd ["taken", "given"] (lh K):=by
 have GU:aI P w K mg base cj 2 fU fdU ["things"] (iw K):=js DU.fn T DN
 refine F.oK qq λcdv A outer s H vs Q E hr h=>?_
 ·obtain⟨a,b,tk,gv,rfl,ha,hb,za,zb,k⟩:=h
  obtain⟨t1,h1⟩:=T.leastT
  obtain⟨t2,h2⟩:=T.mostT
  obtain⟨t3,h3⟩:=T.mostG
  refine⟨_,af (br (PW.pt (pw_or (cy (cv (cq GU hr rfl DU.mg DU.fn.kp DU.bd .nil bE (aa (pv 0) ae)))) (pw_or1 (cy (cv (cq GU hr rfl DU.mg DU.fn.kp DU.bd .nil bE (aa (pv 1) ae))))))) (ao (aB hE)) aK)
   (ao (aB (ke (qm jB jB (eD (v:=.int 1) rfl h1 ⟨t1,rfl⟩) (ay aU rfl T.len cm (aa (pv 0) ae)) (eD (v:=.int 4) rfl h2 ⟨t2,rfl⟩))
    (jS (dJ jB (ay aU rfl T.len cm (aa (pv 1) ae)) (eD (v:=.int 4) rfl h3 ⟨t3,rfl⟩) (aZ _)))))),?_⟩
  try dsimp only[bq,Cx.eE,Cx.cM]
  have no:∀H',ar H H'->cP tk gv=false->Q (.bl false) H':=λH' sm e=>by rw[<-e];exact k H' sm
  refine⟨_,rfl,a,tk,rfl,ha,za,λH1 s1=>⟨_,rfl,?_⟩⟩
  cases u1:unlike tk with
  |false =>
   refine a9 ?_
   refine a9 ?_
   exact no H1 s1 (by unfold cP;rw[u1];rfl)
  |true =>
   refine aQ ?_
   refine⟨_,rfl,b,gv,rfl,s1.seq hb,zb,λH2 s2=>⟨_,rfl,?_⟩⟩
   have sm:ar H H2:=s1.trans s2
   cases u2:unlike gv with
   |false =>
    refine a9 ?_
    exact no H2 sm (by unfold cP;rw[u1,u2];rfl)
   |true =>
    refine aQ ?_
    refine⟨_,rfl,_,tk.length,rfl,.inl ⟨_,sm.seq ha,(ah tk).symm⟩,1,_,rfl,rfl,_,rfl,?_⟩
    by_cases c1:1<=tk.length
    ·rw[yy (show(1:Int)<=(tk.length:Int) by lia)]
     refine a9 ?_
     refine⟨_,_,rfl,rfl,_,rfl,?_⟩
     by_cases c2:tk.length<=4
     ·rw[yy (show(tk.length:Int)<=4 by lia)]
      refine a9 ?_
      refine⟨_,rfl,_,gv.length,rfl,.inl ⟨_,sm.seq hb,(ah gv).symm⟩,_,_,rfl,rfl,?_⟩
      have e:cP tk gv=decide ((gv.length:Int)<=4):=by
       unfold cP
       rw[u1,u2,yy c1,yy c2]
       simp only[AQ]
       exact Ar.mpr (by lia)
      show Q (V.bl (decide ((gv.length:Int)<=4))) H2
      rw[<-e]
      exact k H2 sm
     ·rw[yL (show ¬(tk.length:Int)<=4 by lia)]
      refine aQ ?_
      exact no H2 sm (by unfold cP;rw[u1,u2,decide_eq_false c2];simp)
    ·rw[yL (show ¬(1:Int)<=(tk.length:Int) by lia)]
     refine aQ ⟨_,rfl,?_⟩
     refine aQ ?_
     exact no H2 sm (by unfold cP;rw[u1,u2,decide_eq_false c1];simp)
abbrev Mv:=Str×List Str×List Str
def mT(H:Hp)(m:Mv)(q:Addr):Prop:=∃l g,H q=some (.tup [.str m.1,.ref l,.ref g])/\H l=some (.lst (au m.2.1))/\H g=some (.lst (au m.2.2))
def mT.same{H H':Hp}{m:Mv}{q:Addr}(s:ar H H')(h:mT H m q):mT H' m q:=by
 obtain⟨l,g,h1,h2,h3⟩:=h
 exact⟨l,g,s _ _ h1,s _ _ h2,s _ _ h3⟩
def ju(K:PySem.W.Frag)(H:Hp)(a:Addr)(ms:List Mv):Prop:=∃qs:List Addr,aA K H a (qs.map V.ref)/\Paired (mT H) ms qs
theorem ju.same{K:PySem.W.Frag}{H H':Hp}{a:Addr}{ms:List Mv}(s:ar H H')(h:ju K H a ms):ju K H' a ms:=by
 obtain⟨qs,h1,h2⟩:=h
 exact⟨qs,s.seq h1,Paired.dy h2 λ_ _=>mT.same s⟩
theorem a7{α β:Type}{F:α->β->Prop}:∀{l:List α} {m:List β} {i:Nat} {b:β},Paired F l m->m[i]?=some b->∃a,l[i]?=some a/\F a b
 |_,_,_,_,.nil,e=>by simp at e
 |_,_,0,_,.cons r _,e=>by
  simp at e
  subst e
  exact⟨_,rfl,r⟩
 |_,_,i+1,_,.cons _ t,e=>by
  obtain⟨a,h1,h2⟩:=a7 (i:=i) t (by simpa using e)
  exact⟨a,by simpa using h1,h2⟩
def c8{qs:List Addr}{i:Nat}{v:V}(h:(qs.map V.ref)[i]?=some v):∃q,qs[i]?=some q/\v=.ref q:=by
 rw[yR]at h
 cases e:qs[i]? with
 |none=>rw[e]at h;cases h
 |some x=>rw[e]at h;exact⟨x,rfl,(yV h).symm⟩
def gP(ms:List Mv):List Str:=ms.flatMap λm=>m.2.1++m.2.2
def dw(ms:List Mv)(st:List Str):List Str:=aD (UfSet.dd (st++gP ms))
def iN(K:PySem.W.Frag):Sp:=λvs H Q _=>∃(a b:Addr) (ms:List Mv) (st:List Str),vs=[.ref a,.ref b]/\ju K H a ms/\aA K H b (au st)/\(st++gP ms).length<=1000/\(UfSet.dd (st++gP ms)).length<64 /\
 ∀H' p,ar H H'->H p=none->H' p=some (.lst (au (dw ms st)))->Q (.ref p) H'
def ef:az ["moves", "start", "places", "name", "taken", "given"] ["moves", "start"] (av fX):=fo
def jL{f:Addr}{fd:FuncData}(F:dt K "places_of" "places_of" fX f fd)(T:Txt K mg):aI P w K mg base cj 1 f fd ["moves", "start"] (iN K):=by
 refine F.oK ef λcdv A outer s H vs Q E hr h=>?_
 ·obtain⟨a,b,ms,st,rfl,ha,hb,hz,h64,k⟩:=h
  obtain⟨qs,hq,hp⟩:=id ha
  refine⟨_,af (bV 2 ef (aO bO rfl T.lst eO (aa (pv 1) ae)))
   (af (bG yJ rfl (bc (pv 0)) (dP rfl (aF (fm 3 ef) (aF (fm 4 ef) (aF (fm 5 ef) cI))))
    (ao (bV 2 ef (aw cQ (aw cQ (pv 2) (aO bO rfl T.lst eO (aa (pv 4) ae))) (aO bO rfl T.lst eO (aa (pv 5) ae))))))
   (ao (aB (ay (nD rfl) rfl T.aD cN (aa (aO (kO rfl) rfl T.set tW (aa (pv 2) ae)) ae))))),?_⟩
  try dsimp only[bq,Cx.eE,Cx.cM]
  refine⟨_,rfl,b,au st,rfl,.inl hb,λp0 n0=>?_⟩
  have s0:ar H (upd H p0 (.lst (au st))):=ag n0
  refine⟨_,rfl,a,rfl,⟨_,s0.seq hq⟩,c9 (K:=K) (a:=a) (xs:=qs.map V.ref) (λi σ H2=>∃(p:Addr) (v3 v4 v5:Option V),σ=[some (.ref a),some (.ref b),some (.ref p),v3,v4,v5]/\ar H H2/\H p=none/\H2 p=some (.lst (au (st++gP (ms.take i)))))
   ⟨p0,none,none,none,rfl,s0,n0,by rw[ab];simp[gP]⟩ (λi σ H2 _ ⟨_,_,_,_,_,sm,_⟩=>sm.seq hq) ?_ ?_⟩
  ·rintro i v σ H2 hi ⟨p,v3,v4,v5,rfl,sm,np,hp2⟩
   obtain⟨q,hqi,rfl⟩:=c8 hi
   obtain⟨m,hm,hmv⟩:=a7 hp hqi
   obtain⟨l,g,e1,e2,e3⟩:=hmv.same sm
   have etk:gP (ms.take (i+1))=gP (ms.take i)++(m.2.1++m.2.2):=by
    unfold gP
    rw[aq hm,BO]
    simp
   have hle:(st++gP (ms.take (i+1))).length<=1000:=by
    refine yI ?_ hz
    have e:gP ms=gP (ms.take (i+1))++gP (ms.drop (i+1)):=by
     unfold gP
     rw[<-BO,ze]
    rw[e,yp,yp,yp]
    lia
   rw[etk]at hle
   simp only[yp]at hle
   have hsl:=yK
   refine⟨q,_,rfl,cY.of e1,rfl,_,_,rfl,_,_,rfl,_,_,rfl,rfl,?_⟩
   refine⟨_,rfl,_,rfl,l,au m.2.1,rfl,.inl (aA.of e2),λl1 n1=>⟨p,l1,_,_,rfl,rfl,(by rw[ai (ak hp2 n1)];exact hp2),ab,?_,λp1 m1=>?_⟩⟩
   ·rw[ah,ah,yp]
    lia
   have s1:ar H2 (upd (upd H2 l1 (.lst (au m.2.1))) p1 (.lst (au (st++gP (ms.take i))++au m.2.1))):=(ag n1).trans (ag m1)
   refine⟨_,rfl,g,au m.2.2,rfl,.inl (aA.of (s1 _ _ e3)),λl2 n2=>⟨p1,l2,_,_,rfl,rfl,(by rw[ai (ak ab n2)];exact ab),ab,?_,λp2 m2=>?_⟩⟩
   ·rw[yp,ah,ah,ah,yp]
    lia
   have s2:=s1.trans ((ag (o:=.lst (au m.2.2)) n2).trans (ag (o:=.lst ((au (st++gP (ms.take i))++au m.2.1)++au m.2.2)) m2))
   refine⟨p2,_,_,_,rfl,sm.trans s2,?_,?_⟩
   ·exact(sm.trans (s1.trans (ag (o:=.lst (au m.2.2)) n2))).free m2
   ·rw[ab,etk]
    unfold au
    simp[yk]
  ·rintro σ H2 ⟨p,v3,v4,v5,rfl,sm,np,hp2⟩
   have el:(qs.map V.ref).length=ms.length:=by rw[yf,<-yG hp]
   rw[el,yH]at hp2
   refine⟨_,rfl,p,st++gP ms,rfl,aA.of hp2,hz,λp1 n1=>⟨p1,_,rfl,ab,h64,λp2 n2=>?_⟩⟩
   have s1:=(ag (o:=lz w p1 (UfSet.dd (st++gP ms))) n1).trans (ag (o:=.lst (au (aD (UfSet.dd (st++gP ms))))) n2)
   exact k _ p2 (sm.trans s1) ((sm.trans (ag (o:=lz w p1 (UfSet.dd (st++gP ms))) n1)).free n2) ab
def names(ms:List Mv):List Str:=ms.map (·.1)
def dN(ms:List Mv)(st:List Str):Bool:=decide (ms.length<=12)&&(unlike (names ms)&&((ms.all λm=>cP m.2.1 m.2.2)&&(unlike st&&decide ((dw ms st).length<=12))))
structure Fits(ms:List Mv)(st:List Str):Prop where
 nm:Short (names ms)
 tk:∀m∈ms,Short m.2.1
 gv:∀m∈ms,Short m.2.2
 so:Short st
 sum:(st++gP ms).length<=1000
 oV:(UfSet.dd (st++gP ms)).length<64
def ox(K:PySem.W.Frag):Sp:=λvs H Q _=>∃(a b:Addr) (ms:List Mv) (st:List Str),vs=[.ref a,.ref b]/\ju K H a ms/\aA K H b (au st)/\Fits ms st/\∀H',ar H H'->Q (.bl (dN ms st)) H'
def j8:az ["moves", "start"] ["moves", "start"] (av jN):=fo
def qA{f fN fU fM fP:Addr}{fd fdN fdU fdM fdP:FuncData}(F:dt K "makes_net" "makes_net" jN f fd)(T:Txt K mg)(DN:Def K mg "is_name" cJ ["thing"] fN fdN)(DU:Def K mg "are_unlike_names" fc ["things"] fU fdU)
  (DM:Def K mg "is_move" gq ["taken", "given"] fM fdM) (DP:Def K mg "places_of" fX ["moves", "start"] fP fdP):aI P w K mg base cj 4 f fd ["moves", "start"] (ox K):=by
 have GU:aI P w K mg base cj 2 fU fdU ["things"] (iw K):=js DU.fn T DN
 have GM:aI P w K mg base cj 3 fM fdM ["taken", "given"] (lh K):=p5 DM.fn T DN DU
 have GP:aI P w K mg base cj 1 fP fdP ["moves", "start"] (iN K):=jL DP.fn T
 refine F.oK j8 λcdv A outer s H vs Q E hr h=>?_
 ·obtain⟨a,b,ms,st,rfl,ha,hb,hf,k⟩:=h
  obtain⟨qs,hq,hp⟩:=id ha
  obtain⟨t1,h1⟩:=T.mostM
  obtain⟨t2,h2⟩:=T.mostP
  refine⟨_,af (br (PW.pt (pw_or (aE uA (ay aU rfl T.len cm (aa (pv 0) ae)) (eD (v:=.int 12) rfl h1 ⟨t1,rfl⟩) (aZ _))
    (pw_or1 (cy (cv (cq GU (hr.mono (by decide)) rfl DU.mg DU.fn.kp DU.bd .nil bE (aa (bD (N:=["move"]) (n:=1) (ci:=[]) rfl (bc (pv 0)) (mn j8)
     (λz=>⟨kD 0,dB,aW i7 (pv 0) aj (λ_ _=>rfl)⟩)) ae)))))))
    (ao (aB hE)) aK)
   (af (br (PW.pt (pw_or (cy (cv (ay (iy rfl) rfl T.all qz (aa (bD (N:=["name", "taken", "given"]) (n:=3) (ci:=[]) rfl (bc (pv 0)) (mn j8)
     (λz=>⟨dP rfl (aF (kD 0) (aF (kD 1) (aF (kD 2) cI))),
      dB,cq GM hr rfl DM.mg DM.fn.kp DM.bd .nil bE (aa (pv 1) (aa (pv 2) ae))⟩)) ae))))
     (pw_or1 (cy (cv (cq GU (hr.mono (by decide)) rfl DU.mg DU.fn.kp DU.bd .nil bE (aa (pv 1) ae)))))))
    (ao (aB hE)) aK)
   (ao (aB (dJ jB (ay aU rfl T.len cm (aa (cq GP (hr.mono (by decide)) rfl DP.mg DP.fn.kp DP.bd .nil bE (aa (pv 0) (aa (pv 1) ae))) ae)) (eD (v:=.int 12) rfl h2 ⟨t2,rfl⟩) (aZ _))))),?_⟩
  try dsimp only[bq,Cx.eE,Cx.cM]
  have no:∀H',ar H H'->dN ms st=false->Q (.bl false) H':=λH' sm e=>by rw[<-e];exact k H' sm
  have lq:qs.length=ms.length:=(yG hp).symm
  refine⟨_,rfl,_,ms.length,rfl,.inl ⟨_,hq,by rw[yf,lq]⟩,_,_,rfl,rfl,_,rfl,?_⟩
  by_cases c1:ms.length<=12
  ·rw[show decide (((ms.length:Nat):Int) > 12)=false from yL (by lia)]
   refine aQ ?_
   refine⟨_,rfl,a,rfl,⟨_,hq⟩,λz D hD=>bC (a:=a) (xs:=qs.map V.ref) (λi ys H2=>ys=au (names (ms.take i))/\H2 D=some (.lst ys)/\ar H H2) ⟨rfl,ab,ag hD⟩ (λi ys H2 _ p=>p.2.2.seq hq) ?_ ?_⟩
   ·rintro i v ys H2 hi ⟨rfl,hys,sm⟩
    obtain⟨q,hqi,rfl⟩:=c8 hi
    obtain⟨m,hm,hmv⟩:=a7 hp hqi
    obtain⟨l,g,e1,e2,e3⟩:=hmv.same sm
    refine⟨_,rfl,q,_,0,_,rfl,rfl,cY.of e1,cG (j:=0) rfl,hys,?_,?_,ab,ax sm hD⟩
    ·rw[ah,names,yf,yB,y8]
     lia
    ·rw[aq hm]
     unfold names au
     simp
   ·rintro ys H2 ⟨rfl,hys,sm⟩
    rw[yf,lq,yH]at hys
    refine⟨D,names ms,rfl,aA.of hys,hf.nm,λH3 s3=>⟨_,rfl,?_⟩⟩
    have sm3:ar H H3:=sm.trans s3
    cases u1:unlike (names ms) with
    |false =>
     refine a9 ?_
     exact no H3 sm3 (by unfold dN;rw[u1];simp)
    |true =>
     refine aQ ?_
     refine⟨_,rfl,a,rfl,⟨_,sm3.seq hq⟩,λz2 D2 hD2=>bC (a:=a) (xs:=qs.map V.ref) (λi ys H4=>ys=(ms.take i).map (λm=>V.bl (cP m.2.1 m.2.2))/\H4 D2=some (.lst ys)/\ar H3 H4) ⟨rfl,ab,ag hD2⟩ (λi ys H4 _ p=>(sm3.trans p.2.2).seq hq) ?_ ?_⟩
     ·rintro i v ys H4 hi ⟨rfl,hys4,sm4⟩
      obtain⟨q,hqi,rfl⟩:=c8 hi
      obtain⟨m,hm,hmv⟩:=a7 hp hqi
      obtain⟨l,g,e1,e2,e3⟩:=hmv.same (sm3.trans sm4)
      have hmem:m∈ms:=yq hm
      refine⟨q,_,rfl,cY.of e1,rfl,_,_,rfl,_,_,rfl,_,_,rfl,rfl,?_⟩
      refine⟨_,rfl,_,rfl,l,g,m.2.1,m.2.2,rfl,aA.of e2,aA.of e3,hf.tk m hmem,hf.gv m hmem,λH5 s5=>⟨s5 _ _ hys4,?_,?_,ab,ax (sm4.trans s5) hD2⟩⟩
      ·rw[yf,yB,y8]
       lia
      ·rw[aq hm,yk]
       rfl
     ·rintro ys H4 ⟨rfl,hys4,sm4⟩
      rw[yf,lq,yH]at hys4
      have sm5:ar H H4:=sm3.trans sm4
      refine⟨D2,ms.map (λm=>cP m.2.1 m.2.2),rfl,aA.of (by rw[hys4,AI];rfl),_,rfl,?_⟩
      have ea:(ms.map (λm=>cP m.2.1 m.2.2)).all id=ms.all λm=>cP m.2.1 m.2.2:=by rw[AY];rfl
      rw[ea]
      cases u2:ms.all λm=>cP m.2.1 m.2.2 with
      |false =>
       refine a9 ?_
       refine a9 ?_
       exact no H4 sm5 (by unfold dN;rw[u2];simp)
      |true =>
       refine aQ ?_
       refine⟨_,rfl,b,st,rfl,sm5.seq hb,hf.so,λH6 s6=>⟨_,rfl,?_⟩⟩
       have sm6:ar H H6:=sm5.trans s6
       cases u3:unlike st with
       |false =>
        refine a9 ?_
        exact no H6 sm6 (by unfold dN;rw[u3];simp)
       |true =>
        refine aQ ?_
        refine⟨_,rfl,_,rfl,a,b,ms,st,rfl,ha.same sm6,sm6.seq hb,hf.sum,hf.oV,λH7 p s7 np hp7=>?_⟩
        refine⟨_,(dw ms st).length,rfl,.inl ⟨_,aA.of hp7,(ah _).symm⟩,_,_,rfl,rfl,?_⟩
        have e:dN ms st=decide (((dw ms st).length:Int)<=12):=by
         unfold dN
         rw[yy c1,u1,u2,u3]
         simp only[AQ]
         exact Ar.mpr (by lia)
        show Q (V.bl (decide (((dw ms st).length:Int)<=12))) H7
        rw[<-e]
        exact k H7 (sm6.trans s7)
  ·rw[show decide (((ms.length:Nat):Int) > 12)=true from yy (by lia)]
   refine a9 ?_
   refine a9 ?_
   exact no H (ar.refl H) (by unfold dN;rw[decide_eq_false c1];rfl)
end Uf
end
section
namespace L2
open PySem PySem.Spec PyProof.Rows PySem.W UfSrt
def jV{κ:Type}[DecidableEq κ]{knd:KeyKind prog w κ}{d:Addr}{kvs:List (κ×Value)}{ep:Nat}{Q:List Value->Shared->Prop}(hh:A.handled=none)(lo:(d==sysModules)=false)(hd:s.heap.DictAt knd d kvs ep)(hz:kvs.length<=sizeLine)
  (h:∀(h':Heap) (tk:Nat) (dr:Drawn) (vs:List Value),vs.length=kvs.length->(∀(j:Nat) v,vs[j]?=some v->∃k x,kvs[j]?=some (k,x)/\knd.is k v=true)->(∀b o,s.heap.get? b=some o->h'.get? b=some o)->s.heap.objs.size<=h'.objs.size->Q vs { s with heap:=h',toks:=tk,drawn:=dr }) :
  wpAny (model prog w) A (collect (.ref d)) Q E s:=by
 refine UfSet.hJ (T:="dict") (OK:=λh=>h.DictAt knd d kvs ep) (R:=λn P=>n=kvs.length/\P=λi v=>∃k x,kvs[i]?=some (k,x)/\knd.is k v=true) hh hd (λh1 h2 x k=>x.at' λo e=>k _ _ e) (λs' x=>x.dictOf.typeIs) (λh1 x=>x.lt_size) (by decide) (by decide)
  (λA' E' s' Q' x q=>kdl_hint_dict x.dictOf.typeIs q) (λA' E' s' Q' x q=>?_) ?_
 ·refine wpAny_pyIter_dict lo x ?_
  exact q s'.heap.objs.size _ s'.drawn kvs.length _ [s'.heap.objs.size,d] _ ⟨rfl,rfl⟩ hz (λA2 h2=>BI h2 _ d (yn x.lt_size) kvs ep) ⟨⟨_,ym _ rfl,rfl,rfl⟩,x.push _⟩ (yi _) (λb o e=>ye _ e) λb hb=>by
   simp only[yr,zZ,Bl]at hb
   rcases hb with rfl|rfl
   ·exact .inr (yi _)
   ·exact .inl rfl
 ·rintro h' tk dr n P vs ⟨rfl,rfl⟩ hl hat hk hz'
  exact h h' tk dr vs hl hat hk hz'
theorem ot:∀{ks:List Str} {vs:List Value},vs.length=ks.length->(∀(j:Nat) v,vs[j]?=some v->∃k tk,ks[j]?=some k/\v=Value.str k tk)->StrsAre vs ks
 |[],[],_,_=>.nil
 |k::ks,v::vs,hl,h=>by
  obtain⟨k',tk,e,rfl⟩:=h 0 v rfl
  have:k'=k:=by simpa using e.symm
  subst this
  exact .cons k' tk (ot (by simpa using hl) λj u hu=>by
   obtain⟨q,t,e1,e2⟩:=h (j+1) u (by simpa using hu)
   exact⟨q,t,by simpa using e1,e2⟩)
section
variable {X:Cx}
def u7:List V->Hp->VK->Prop:=λxs H Q=>∃(a:Addr) (kvs:List (Key×V)) (ks:List Str),xs=[.ref a]/\Rd H a (.dK kvs)/\kvs.map (·.1)=ks.map Sum.inr/\ks.length<64/\∀p,H p=none->Q (.ref p) (upd H p (.lst (au (aD ks))))
def ng{P:Program}{w:World}{kvs:List (Key×V)}{vs:List (Key×Value)}{ks:List Str}{us:List Value}(r:KV kvs vs)(hk:kvs.map (·.1)=ks.map Sum.inr)(hl:us.length=vs.length)
  (hat:∀(j:Nat) v,us[j]?=some v->∃k x,vs[j]?=some (k,x)/\(aR P w).is k v=true):StrsAre us ks:=by
 have e1:vs.map (·.1)=ks.map Sum.inr:=by rw[<-r.keys];exact hk
 have l1:vs.length=ks.length:=by have:=zw List.length e1;simpa using this
 refine ot (by lia) λj v e=>?_
 obtain⟨k,x,e2,hi⟩:=hat j v e
 have e3:(vs.map (·.1))[j]?=some k:=by rw[yR,e2];rfl
 rw[e1,yR]at e3
 cases e4:ks[j]? with
 |none=>rw[e4]at e3;cases e3
 |some y =>
  rw[e4]at e3
  cases e3
  rw[iB]at hi
  rcases aX hi with⟨i,t,z,_⟩|⟨y',t,z,z2⟩
  ·cases z
  ·cases z
   exact⟨y,t,rfl,z2⟩
def nz(hc:X.calm=true):dD X (.builtin "sorted") u7:=by
 intro pins s σ H xs us Q I r h
 obtain⟨a,kvs,ks,rfl,ha,hk,hz,q⟩:=h
 obtain⟨u,rfl,ru⟩:=vals1 r
 cases ru
 obtain⟨zk,lo,vs,rel,hd⟩:=lj I.hok ha
 obtain⟨ep,hat⟩:=hd.dictAt
 have hlen:vs.length<=sizeLine:=by rw[<-rel.length];exact zk
 refine UfSort.gO (ss:=ks) (λ{Q'} hq=>jV (A:=X.A.in1) (knd:=aR X.prog X.w) (I.ok.hd hc) lo hat hlen λh' tk dr us' hl hat' hk' hz'=>hq h' tk dr us' ks hk' hz' (ng rel hk hl hat') (.refl _)) hz λh' tk d D L=>?_
 exact⟨.ref D,_,iF I L (by lia),rfl,q _ (I.hok.fresh L.new)⟩
end
end L2
end
section
namespace UfFin
open PySem UfSrt
theorem dk{α:Type}[DecidableEq α]:∀{l m:List α},l.Nodup->(∀x∈l,x∈m)->l.length<=m.length
 |[],m,_,_=>yC _
 |a::l,m,h,hs=>by
  obtain⟨h1,h2⟩:=zp.mp h
  have ha:a∈m:=hs a yW
  have ih:=dk (l:=l) (m:=m.erase a) h2 λx hx=>by
   have hne:x≠a:=λe=>h1 (e ▸ hx)
   exact(List.mem_erase_of_ne hne).mpr (hs x (yM _ hx))
  rw[List.length_erase_of_mem ha]at ih
  have:=List.length_pos_of_mem ha
  rw[yQ]
  lia
def subs{α:Type}:List α->List (List α)
 |[]=>[[]]
 |x::r=>subs r++(subs r).map (x :: ·)
theorem lL{α:Type}:∀l:List α,(subs l).length=2 ^ l.length
 |[]=>rfl
 |x::r=>by
  show(subs r++(subs r).map (x :: ·)).length=_
  rw[yp,yf,lL r,yQ,Nat.pow_succ]
  lia
theorem g9{α:Type}(p:α->Bool):∀l:List α,l.filter p∈subs l
 |[]=>by simp[subs]
 |x::r=>by
  have ih:=g9 p r
  show List.filter p (x::r)∈subs r++(subs r).map (x :: ·)
  rw[As]
  split
  ·exact yP _ (yx.mpr ⟨_,ih,rfl⟩)
  ·exact yU _ ih
structure ck(l:List Str):Prop where
 pw:l.Pairwise le
 nd:l.Nodup
theorem ck.aD{l:List Str}(h:l.Nodup):ck (aD l):=⟨mF l,pK.mpr h⟩
def ck.ext{l m:List Str}(h:ck l)(h':ck m)(e:∀x,x∈l↔x∈m):l=m:=by
 refine pw_unique h.pw h'.pw ?_
 exact(List.perm_ext_iff_of_nodup h.nd h'.nd).mpr e
def ck.tF{l ps:List Str}(h:ck l)(hp:ck ps)(hs:∀x∈l,x∈ps):l∈subs ps:=by
 have e:l=ps.filter λx=>decide (x∈l):=by
  refine ck.ext h ⟨hp.pw.sublist A5,hp.nd.sublist A5⟩ λx=>?_
  rw[zm]
  constructor
  ·intro hx
   exact⟨hs x hx,by simpa using hx⟩
  ·rintro⟨_,hx⟩
   simpa using hx
 rw[e]
 exact g9 _ _
end UfFin
end
section
namespace Uf
open PySem L2 UfSrt
abbrev pb:Stmt:=top 28
abbrev qG:Stmt:=inClass pb 0
abbrev lZ:Stmt:=inClass pb 2
abbrev gK:Stmt:=inClass pb 3
abbrev ix:Stmt:=inClass pb 4
abbrev j4:Stmt:=inClass pb 5
abbrev kU:Stmt:=inClass pb 6
def fE(aP aS aT aG:Addr):List (Str×V):=[("place_names",V.ref aP),("start_state",V.ref aS),("taken_by",V.ref aT),("given_by",V.ref aG)]
def xN:(("start_state":Str) == "place_names")=false:=by decide +kernel
def xF:(("taken_by":Str) == "place_names")=false:=by decide +kernel
def xf:(("given_by":Str) == "place_names")=false:=by decide +kernel
def xX:(("taken_by":Str) == "start_state")=false:=by decide +kernel
def xh:(("given_by":Str) == "start_state")=false:=by decide +kernel
def yb:(("given_by":Str) == "taken_by")=false:=by decide +kernel
def wk(a b c d:Addr):(fE a b c d).lookup ("start_state":Str)=some (V.ref b):=by simp[fE,List.lookup,xN]
def oe(a b c d:Addr):(fE a b c d).lookup ("taken_by":Str)=some (V.ref c):=by simp[fE,List.lookup,xF,xX]
def uh(a b c d:Addr):(fE a b c d).lookup ("given_by":Str)=some (V.ref d):=by simp[fE,List.lookup,xf,xh,yb]
def da(a b c d:Addr){x:Str}(h1:(x == "place_names")=false)(h2:(x == "start_state")=false)(h3:(x == "taken_by")=false)(h4:(x == "given_by")=false):(fE a b c d).lookup x=none:=by
 simp[fE,List.lookup,h1,h2,h3,h4]
def vi:¬(("place_names":Str)="start_state"):=by decide +kernel
def wM:¬(("place_names":Str)="taken_by"):=by decide +kernel
def vY:¬(("start_state":Str)="taken_by"):=by decide +kernel
def xu:¬(("place_names":Str)="given_by"):=by decide +kernel
def xw:¬(("start_state":Str)="given_by"):=by decide +kernel
def x9:¬(("taken_by":Str)="given_by"):=by decide +kernel
def pD(a b c d:Addr):a8 "given_by" (V.ref d) (a8 "taken_by" (V.ref c) (a8 "start_state" (V.ref b) (a8 "place_names" (V.ref a) [])))=fE a b c d:=by
 simp[a8,fE,vi,wM,vY,xu,xw,x9]
structure fW(K:PySem.W.Frag)(C:Addr):Prop where
 cl:rz K C
 nP:dQ K C "place_names"
 nS:dQ K C "start_state"
 nT:dQ K C "taken_by"
 nG:dQ K C "given_by"
def dU(H:Hp)(sel:Mv->List Str)(ms:List Mv)(kvs:List (Key×V)):Prop:=Paired (λ(m:Mv) (kv:Key×V)=>kv.1=Sum.inr m.1/\∃t,kv.2=.ref t/\H t=some (.tup (au (aD (sel m))))) ms kvs
def dU.same{H H':Hp}{sel:Mv->List Str}{ms:List Mv}{kvs:List (Key×V)}(s:∀b xs,H b=some (.tup xs)->H' b=some (.tup xs))(h:dU H sel ms kvs):dU H' sel ms kvs :=
 Paired.dy h λm kv ⟨e,t,h1,h2⟩=>⟨e,t,h1,s _ _ h2⟩
theorem dU.keys{H:Hp}{sel:Mv->List Str}:∀{ms:List Mv} {kvs:List (Key×V)},dU H sel ms kvs->kvs.map (·.1)=(names ms).map Sum.inr
 |_,_,.nil=>rfl
 |_,_,.cons h t=>by
  rw[yX,h.1,dU.keys t]
  rfl
theorem dU.snoc{H:Hp}{sel:Mv->List Str}{ms:List Mv}{kvs:List (Key×V)}{m:Mv}{t:Addr}(h:dU H sel ms kvs)(ht:H t=some (.tup (au (aD (sel m))))):dU H sel (ms++[m]) (kvs++[(Sum.inr m.1,.ref t)]) :=
 zu h ⟨rfl,t,rfl,ht⟩
theorem dU.none{H:Hp}{sel:Mv->List Str}{ms:List Mv}{kvs:List (Key×V)}{x:Str}(h:dU H sel ms kvs)(hx:x∉names ms):cL kvs (Sum.inr x:Key)=.none:=by
 cases e:cL kvs (Sum.inr x:Key) with
 |none=>rfl
 |some v =>
  have:=oC e
  rw[h.keys]at this
  obtain⟨y,hy,e2⟩:=yx.mp this
  cases e2
  exact absurd hy hx
theorem dU.get{H:Hp}{sel:Mv->List Str}{m:Mv}:∀{ms:List Mv} {kvs:List (Key×V)},dU H sel ms kvs->(names ms).Nodup->m∈ms->∃t,cL kvs (Sum.inr m.1:Key)=some (.ref t)/\H t=some (.tup (au (aD (sel m))))
 |_,_,.nil,_,h=>by simp at h
 |m'::ms,_,.cons (b:=kv) h t,hn,hm=>by
  obtain⟨e,u,e1,e2⟩:=h
  obtain⟨n1,n2⟩:=zp.mp (show(m'.1::names ms).Nodup from hn)
  rcases yr.mp hm with rfl|hm
  ·exact⟨u,by rw[c7 e,e1],e2⟩
  ·have ne:¬kv.1=(Sum.inr m.1:Key):=λz=>by
    rw[e]at z
    have z2:m'.1=m.1:=by injection z
    exact n1 (by rw[z2];exact yx.mpr ⟨m,hm,rfl⟩)
   rw[cw ne]
   exact dU.get t n2 hm
structure lV(C:Addr)(H:Hp)(p:Addr)(ms:List Mv)(st:List Str):Prop where
 ob:∃dx aP aS aT aG kT kG,H p=some (.ins C dx (fE aP aS aT aG))/\H aP=some (.tup (au (dw ms st)))/\H aS=some (.tup (au (aD st)))/\H aT=some (.dK kT)/\H aG=some (.dK kG)/\dU H (·.2.1) ms kT/\dU H (·.2.2) ms kG
theorem lV.same{C:Addr}{H H':Hp}{p:Addr}{ms:List Mv}{st:List Str}(s:ar H H')(h:lV C H p ms st):lV C H' p ms st:=by
 obtain⟨dx,aP,aS,aT,aG,kT,kG,h1,h2,h3,h4,h5,h6,h7⟩:=h
 exact⟨dx,aP,aS,aT,aG,kT,kG,s _ _ h1,s _ _ h2,s _ _ h3,s _ _ h4,s _ _ h5,h6.same λb xs e=>s _ _ e,h7.same λb xs e=>s _ _ e⟩
def fD(p:Addr)(H H':Hp):Prop:=∀c o,H c=some o->c≠p->H' c=some o
def fD.refl(p:Addr)(H:Hp):fD p H H:=λ_ _ e _=>e
def fD.then{p:Addr}{H H1 H2:Hp}(b:fD p H H1)(s:ar H1 H2):fD p H H2:=λc o e n=>s c o (b c o e n)
def fD.put{p:Addr}{H H1:Hp}{o:HO}(b:fD p H H1):fD p H (upd H1 p o):=λc u e n=>by rw[ai n];exact b c u e n
def fD.new{p a:Addr}{H H1:Hp}{o:HO}(b:fD p H H1)(n:H a=none):fD p H (upd H1 a o):=λc u e nc=>by rw[ai (ak e n)];exact b c u e nc
def fD.free{p a:Addr}{H H1:Hp}(b:fD p H H1)(n:H1 a=none)(hp:a≠p):H a=none:=by
 cases e:H a with
 |none=>rfl
 |some o=>rw[b a o e hp]at n;cases n
def fD.seq{K:PySem.W.Frag}{p C dx a:Addr}{H H1:Hp}{fs:List (Str×V)}{xs:List V}(b:fD p H H1)(hp:H p=some (.ins C dx fs))(h:aA K H a xs):aA K H1 a xs:=by
 rcases h with(h|⟨o,h⟩)|h
 ·exact .inl (.inl (b _ _ h (aN h hp (by intro z;cases z))))
 ·exact .inl (.inr ⟨o,b _ _ h (aN h hp (by intro z;cases z))⟩)
 ·exact .inr h
def fD.mv{p C dx q:Addr}{H H1:Hp}{fs:List (Str×V)}{m:Mv}(b:fD p H H1)(hp:H p=some (.ins C dx fs))(h:mT H m q):mT H1 m q:=by
 obtain⟨l,g,h1,h2,h3⟩:=h
 exact⟨l,g,b _ _ h1 (aN h1 hp (by intro z;cases z)),b _ _ h2 (aN h2 hp (by intro z;cases z)),b _ _ h3 (aN h3 hp (by intro z;cases z))⟩
structure Sound(ms:List Mv)(st:List Str):Prop where
 ml:ms.length<=12
 nn:(names ms).all isNm=true
 nd:(names ms).Nodup
 mv:∀m∈ms,cP m.2.1 m.2.2=true
 su:unlike st=true
 pl:(dw ms st).length<=12
def kN{ms:List Mv}{st:List Str}(h:dN ms st=true):Sound ms st:=by
 unfold dN at h
 obtain⟨h1,h⟩:=yA.mp h
 obtain⟨h2,h⟩:=yA.mp h
 obtain⟨h3,h⟩:=yA.mp h
 obtain⟨h4,h5⟩:=yA.mp h
 obtain⟨h6,h7⟩:=yA.mp (show((names ms).all isNm&&decide (names ms).Nodup)=true from h2)
 exact⟨zl h1,h6,zl h7,λm hm=>z0.mp h3 m hm,h4,zl h5⟩
def a5{xs:List Str}(h:unlike xs=true):xs.Nodup:=zl (yA.mp h).2
def Sound.stl{ms:List Mv}{st:List Str}(h:Sound ms st):st.length<=12:=by
 refine yI (UfFin.dk (a5 h.su) λx hx=>?_) h.pl
 unfold dw
 exact cV.mpr (UfSet.mY.mpr (yU _ hx))
def cF{tk gv:List Str}(h:cP tk gv=true):unlike tk=true/\unlike gv=true/\1<=tk.length/\tk.length<=4/\gv.length<=4:=by
 unfold cP at h
 obtain⟨h1,h⟩:=yA.mp h
 obtain⟨h2,h⟩:=yA.mp h
 obtain⟨h3,h⟩:=yA.mp h
 obtain⟨h4,h5⟩:=yA.mp h
 exact⟨h1,h2,zl h3,zl h4,zl h5⟩
def ri(K:PySem.W.Frag)(C:Addr):Sp:=λvs H Q _=>∃(p dx a b:Addr) (ms:List Mv) (st:List Str),vs=[.ref p,.ref a,.ref b]/\H p=some (.ins C dx [])/\ju K H a ms/\aA K H b (au st)/\Fits ms st/\dN ms st=true /\
 ∀H',lV C H' p ms st->(∀c o,H c=some o->c≠p->H' c=some o)->Q .non H'
def jO:az ["self", "moves", "start", "name", "taken", "given"] ["self", "moves", "start"] (av qG):=fo
inductive xi(C:Addr)(H:Hp)(p a b dx aP aS aT aG:Addr)(ms:List Mv)(st:List Str)(i:Nat)(σ:St)(H6:Hp):Prop
 |mk (kT kG:List (Key×V)) (v3 v4 v5:Option V) (q0:σ=[some (.ref p),some (.ref a),some (.ref b),v3,v4,v5]) (q1:H6 p=some (.ins C dx (fE aP aS aT aG))) (q2:H6 aP=some (.tup (au (dw ms st)))) (q3:H6 aS=some (.tup (au (aD st)))) (q4:H6 aT=some (.dK kT)) (q5:H6 aG=some (.dK kG)) (q6:dU H6 (·.2.1) (ms.take i) kT) (q7:dU H6 (·.2.2) (ms.take i) kG) (q8:fD p H H6)
def xi.but{C:Addr}{H:Hp}{p a b dx aP aS aT aG:Addr}{ms:List Mv}{st:List Str}{i:Nat}{σ:St}{H6:Hp}(h:xi C H p a b dx aP aS aT aG ms st i σ H6):fD p H H6:=by
 cases h
 assumption
def tu{f C fN fU fM fP fK:Addr}{fd fdN fdU fdM fdP fdK:FuncData}(F:dt K "__init__" "Net.__init__" qG f fd)(T:Txt K mg)(CT:fW K C)(DN:Def K mg "is_name" cJ ["thing"] fN fdN)(DU:Def K mg "are_unlike_names" fc ["things"] fU fdU)
  (DM:Def K mg "is_move" gq ["taken", "given"] fM fdM) (DP:Def K mg "places_of" fX ["moves", "start"] fP fdP) (DK:Def K mg "makes_net" jN ["moves", "start"] fK fdK):aI P w K mg base cj 5 f fd ["self", "moves", "start"] (ri K C):=by
 have GP:aI P w K mg base cj 1 fP fdP ["moves", "start"] (iN K):=jL DP.fn T
 have GK:aI P w K mg base cj 4 fK fdK ["moves", "start"] (ox K):=qA DK.fn T DN DU DM DP
 refine F.oK jO λcdv A outer s H vs Q E hr h=>?_
 ·obtain⟨p,dx,a,b,ms,st,rfl,hp,ha,hb,hf,hmk,k⟩:=h
  have hu:=df hr
  refine⟨_,af (br (cy (cv (cq GK hr rfl DK.mg DK.fn.kp DK.bd .nil bE (aa (pv 1) (aa (pv 2) ae))))) jI aK)
   (af (jT (pv 0) (aO bj rfl T.tup eI (aa (cq GP (hr.mono (by decide)) rfl DP.mg DP.fn.kp DP.bd .nil bE (aa (pv 1) (aa (pv 2) ae))) ae)) rfl)
   (af (jT (pv 0) (aO bj rfl T.tup eI (aa (ay cA rfl T.aD cN (aa (pv 2) ae)) ae)) rfl)
   (af (jT (pv 0) eX rfl)
   (af (jT (pv 0) eX rfl)
   (ao (bG yJ rfl (bc (pv 1)) (dP rfl (aF (fm 3 jO) (aF (fm 4 jO) (aF (fm 5 jO) cI))))
    (af (eo hu (fA (pv 0) rfl) (pv 3) (aO bj rfl T.tup eI (aa (ay cA rfl T.aD cN (aa (pv 4) ae)) ae)) rfl)
    (ao (eo hu (fA (pv 0) rfl) (pv 3) (aO bj rfl T.tup eI (aa (ay cA rfl T.aD cN (aa (pv 5) ae)) ae)) rfl))))))))),?_⟩
  clear hu
  dsimp only[bq,Cx.eE]
  have so:=kN hmk
  obtain⟨qs,hq,hqp⟩:=id ha
  refine⟨_,rfl,_,rfl,a,b,ms,st,rfl,ha,hb,hf,λH1 s1=>⟨_,rfl,?_⟩⟩
  rw[hmk]
  refine aQ ?_
  refine⟨_,rfl,_,rfl,a,b,ms,st,rfl,ha.same s1,s1.seq hb,hf.sum,hf.oV,λH2 q1 s2 nq1 hq1=>⟨q1,_,rfl,.inl ⟨aA.of hq1,λaP nP=>?_⟩⟩⟩
  have sm2:ar H H2:=s1.trans s2
  have hp2:=sm2 _ _ hp
  have pP:p≠aP:=ak hp2 nP
  refine⟨_,rfl,p,C,dx,_,rfl,(by rw[ai pP];exact hp2),CT.cl,CT.nP,(by show 0<1000;decide),?_⟩
  have b3:fD p H (upd (upd H2 aP (.tup (au (dw ms st)))) p (.ins C dx (a8 "place_names" (V.ref aP) []))):=(((fD.refl p H).then sm2).new (sm2.free nP)).put
  have e3P:(upd (upd H2 aP (.tup (au (dw ms st)))) p (.ins C dx (a8 "place_names" (V.ref aP) []))) aP=some (.tup (au (dw ms st))):=by rw[ai pP.symm,ab]
  have e3p:(upd (upd H2 aP (.tup (au (dw ms st)))) p (.ins C dx (a8 "place_names" (V.ref aP) []))) p=some (.ins C dx (a8 "place_names" (V.ref aP) [])):=ab
  generalize upd (upd H2 aP (.tup (au (dw ms st)))) p (.ins C dx (a8 "place_names" (V.ref aP) []))=H3 at b3 e3P e3p ⊢
  refine⟨_,rfl,b,st,rfl,b3.seq hp hb,by have:=so.stl;lia,λq2 nq2=>⟨q2,_,rfl,.inl ⟨aA.of ab,λaS nS=>?_⟩⟩⟩
  have p2:p≠q2:=ak e3p nq2
  have pS:p≠aS:=ak (by rw[ai p2];exact e3p) nS
  have n2S:aS≠q2:=λz=>by rw[z,ab]at nS;cases nS
  have nS3:H3 aS=none:=by rw[ai n2S]at nS;exact nS
  refine⟨_,rfl,p,C,dx,_,rfl,(by rw[ai pS,ai p2];exact e3p),CT.cl,CT.nS,(by show 1<1000;decide),?_⟩
  have b4:=(((b3.new (o:=.lst (au (aD st))) (b3.free nq2 p2.symm)).new (o:=.tup (au (aD st))) (b3.free nS3 pS.symm)).put (o:=.ins C dx (a8 "start_state" (V.ref aS) (a8 "place_names" (V.ref aP) []))))
  have PS:aP≠aS:=ak e3P nS3
  have P2:aP≠q2:=ak e3P nq2
  have e4P:(upd (upd (upd H3 q2 (.lst (au (aD st)))) aS (.tup (au (aD st)))) p (.ins C dx (a8 "start_state" (V.ref aS) (a8 "place_names" (V.ref aP) [])))) aP=some (.tup (au (dw ms st))):=by rw[ai pP.symm,ai PS,ai P2];exact e3P
  have e4S:(upd (upd (upd H3 q2 (.lst (au (aD st)))) aS (.tup (au (aD st)))) p (.ins C dx (a8 "start_state" (V.ref aS) (a8 "place_names" (V.ref aP) [])))) aS=some (.tup (au (aD st))):=by rw[ai pS.symm,ab]
  have e4p:(upd (upd (upd H3 q2 (.lst (au (aD st)))) aS (.tup (au (aD st)))) p (.ins C dx (a8 "start_state" (V.ref aS) (a8 "place_names" (V.ref aP) [])))) p=some (.ins C dx (a8 "start_state" (V.ref aS) (a8 "place_names" (V.ref aP) []))):=ab
  generalize upd (upd (upd H3 q2 (.lst (au (aD st)))) aS (.tup (au (aD st)))) p (.ins C dx (a8 "start_state" (V.ref aS) (a8 "place_names" (V.ref aP) [])))=H4 at b4 e4P e4S e4p ⊢
  intro aT nT
  have pT:p≠aT:=ak e4p nT
  refine⟨_,rfl,p,C,dx,_,rfl,(by rw[ai pT];exact e4p),CT.cl,CT.nT,(by simp[a8,vi]),?_⟩
  intro aG nG
  have pG:p≠aG:=λz=>by rw[<-z,ab]at nG;cases nG
  have GT:aG≠aT:=λz=>by rw[z,ai pT.symm,ab]at nG;cases nG
  have nG4:H4 aG=none:=by rw[ai pG.symm,ai GT]at nG;exact nG
  refine⟨_,rfl,p,C,dx,_,rfl,(by rw[ai pG];exact ab),CT.cl,CT.nG,(by simp[a8,vi,wM,vY]),?_⟩
  rw[pD]
  have nT0:H aT=none:=b4.free nT pT.symm
  have nG0:H aG=none:=b4.free nG4 pG.symm
  have b5:=(((b4.new (o:=.dK []) nT0).put (o:=.ins C dx (a8 "taken_by" (V.ref aT) (a8 "start_state" (V.ref aS) (a8 "place_names" (V.ref aP) []))))).new (o:=.dK []) nG0).put (o:=.ins C dx (fE aP aS aT aG))
  have PT:aP≠aT:=ak e4P nT
  have PG:aP≠aG:=ak e4P nG4
  have ST:aS≠aT:=ak e4S nT
  have SG:aS≠aG:=ak e4S nG4
  generalize hH5:upd (upd (upd (upd H4 aT (.dK [])) p (.ins C dx (a8 "taken_by" (V.ref aT) (a8 "start_state" (V.ref aS) (a8 "place_names" (V.ref aP) []))))) aG (.dK [])) p (.ins C dx (fE aP aS aT aG))=H5 at b5 ⊢
  have e5p:H5 p=some (.ins C dx (fE aP aS aT aG)):=by rw[<-hH5,ab]
  have e5P:H5 aP=some (.tup (au (dw ms st))):=by rw[<-hH5,ai pP.symm,ai PG,ai pP.symm,ai PT];exact e4P
  have e5S:H5 aS=some (.tup (au (aD st))):=by rw[<-hH5,ai pS.symm,ai SG,ai pS.symm,ai ST];exact e4S
  have e5T:H5 aT=some (.dK []):=by rw[<-hH5,ai pT.symm,ai GT.symm,ai pT.symm,ab]
  have e5G:H5 aG=some (.dK []):=by rw[<-hH5,ai pG.symm,ab]
  clear hH5
  have lq:qs.length=ms.length:=(yG hqp).symm
  refine⟨_,rfl,a,rfl,⟨_,b5.seq hp hq⟩,c9 (K:=K) (a:=a) (xs:=qs.map V.ref) (xi C H p a b dx aP aS aT aG ms st)
   ⟨[],[],none,none,none,rfl,e5p,e5P,e5S,e5T,e5G,.nil,.nil,b5⟩ (λi σ H6 _ h=>h.but.seq hp hq) ?_ ?_⟩
  ·rintro i v σ H6 hi ⟨kT,kG,v3,v4,v5,rfl,e6p,e6P,e6S,e6T,e6G,dT,dG,b6⟩
   obtain⟨q,hqi,rfl⟩:=c8 hi
   obtain⟨m,hm,hmv⟩:=a7 hqp hqi
   obtain⟨l,g,h1,h2,h3⟩:=b6.mv hp hmv
   have hmem:m∈ms:=yq hm
   obtain⟨_,_,_,tk4,gv4⟩:=cF (so.mv m hmem)
   have hnew:m.1∉names (ms.take i):=λz=>by
    have nd:=so.nd
    have e:names ms=names (ms.take i)++names (ms.drop i):=by
     unfold names
     rw[<-yk,ze]
    rw[e]at nd
    have hlt:i<ms.length:=(yz.mp hm).1
    have hin:m.1∈names (ms.drop i):=by
     refine yx.mpr ⟨m,?_,rfl⟩
     refine yq (i:=0) ?_
     rw[List.getElem?_drop]
     exact hm
    exact(yE.mp nd).2.2 _ z _ hin rfl
   have lT:kT.length=(ms.take i).length:=(yG dT).symm
   have lG:kG.length=(ms.take i).length:=(yG dG).symm
   have l12:(ms.take i).length<=12:=by rw[yB];have:=so.ml;lia
   refine⟨q,_,rfl,cY.of h1,rfl,_,_,rfl,_,_,rfl,_,_,rfl,rfl,?_⟩
   refine⟨_,rfl,l,m.2.1,rfl,aA.of h2,by lia,λq3 n3=>⟨q3,_,rfl,.inl ⟨aA.of ab,λt3 m3=>?_⟩⟩⟩
   have s7:ar H6 (upd (upd H6 q3 (.lst (au (aD m.2.1)))) t3 (.tup (au (aD m.2.1)))):=(ag n3).trans (ag m3)
   have e7t:(upd (upd H6 q3 (.lst (au (aD m.2.1)))) t3 (.tup (au (aD m.2.1)))) t3=some (.tup (au (aD m.2.1))):=ab
   have nt6:H6 t3=none:=(ag (o:=.lst (au (aD m.2.1))) n3).free m3
   have b7:fD p H (upd (upd H6 q3 (.lst (au (aD m.2.1)))) t3 (.tup (au (aD m.2.1)))):=b6.then s7
   generalize upd (upd H6 q3 (.lst (au (aD m.2.1)))) t3 (.tup (au (aD m.2.1)))=H7 at s7 e7t b7 ⊢
   refine⟨_,rfl,p,C,dx,_,_,rfl,s7 _ _ e6p,CT.cl,CT.nT,oe _ _ _ _,_,rfl,aT,_,rfl,gQ.k (k:=Sum.inr m.1) (s7 _ _ e6T) (dY (by lia)),?_⟩
   have pk:putK kT (Sum.inr m.1:Key) (V.ref t3)=kT++[(Sum.inr m.1,V.ref t3)]:=dc _ (dT.none hnew)
   rw[pk]
   have tT:∀{b:Addr} {xs:List V},H7 b=some (.tup xs)->b≠aT:=λe=>aN e (s7 _ _ e6T) (by intro z;cases z)
   have e8T:(upd H7 aT (.dK (kT++[(Sum.inr m.1,V.ref t3)]))) aT=some (.dK (kT++[(Sum.inr m.1,V.ref t3)])):=ab
   have up8:∀{b:Addr} {o:HO},b≠aT->H7 b=some o->(upd H7 aT (.dK (kT++[(Sum.inr m.1,V.ref t3)]))) b=some o:=λn e=>by rw[ai n];exact e
   have e8p:=up8 pT (s7 _ _ e6p)
   have e8P:=up8 PT (s7 _ _ e6P)
   have e8S:=up8 ST (s7 _ _ e6S)
   have e8G:=up8 GT (s7 _ _ e6G)
   have e8t:=up8 (tT e7t) e7t
   have dT8:dU (upd H7 aT (.dK (kT++[(Sum.inr m.1,V.ref t3)]))) (·.2.1) (ms.take i++[m]) (kT++[(Sum.inr m.1,V.ref t3)]):=(dT.same λb xs e=>up8 (tT (s7 _ _ e)) (s7 _ _ e)).snoc e8t
   have dG8:dU (upd H7 aT (.dK (kT++[(Sum.inr m.1,V.ref t3)]))) (·.2.2) (ms.take i) kG:=dG.same λb xs e=>up8 (tT (s7 _ _ e)) (s7 _ _ e)
   have e8g:=up8 (aN (s7 _ _ h3) (s7 _ _ e6T) (by intro z;cases z)) (s7 _ _ h3)
   have b8:fD p H (upd H7 aT (.dK (kT++[(Sum.inr m.1,V.ref t3)]))):=b7.new nT0
   generalize upd H7 aT (.dK (kT++[(Sum.inr m.1,V.ref t3)]))=H8 at e8T e8p e8P e8S e8G dT8 dG8 e8g b8 ⊢
   refine⟨_,rfl,g,m.2.2,rfl,aA.of e8g,by lia,λq4 n4=>⟨q4,_,rfl,.inl ⟨aA.of ab,λt4 m4=>?_⟩⟩⟩
   have s9:ar H8 (upd (upd H8 q4 (.lst (au (aD m.2.2)))) t4 (.tup (au (aD m.2.2)))):=(ag n4).trans (ag m4)
   have e9t:(upd (upd H8 q4 (.lst (au (aD m.2.2)))) t4 (.tup (au (aD m.2.2)))) t4=some (.tup (au (aD m.2.2))):=ab
   have b9:fD p H (upd (upd H8 q4 (.lst (au (aD m.2.2)))) t4 (.tup (au (aD m.2.2)))):=b8.then s9
   generalize upd (upd H8 q4 (.lst (au (aD m.2.2)))) t4 (.tup (au (aD m.2.2)))=H9 at s9 e9t b9 ⊢
   refine⟨_,rfl,p,C,dx,_,_,rfl,s9 _ _ e8p,CT.cl,CT.nG,uh _ _ _ _,_,rfl,aG,_,rfl,gQ.k (k:=Sum.inr m.1) (s9 _ _ e8G) (dY (by lia)),?_⟩
   have pk2:putK kG (Sum.inr m.1:Key) (V.ref t4)=kG++[(Sum.inr m.1,V.ref t4)]:=dc _ (dG.none hnew)
   rw[pk2]
   have tG:∀{b:Addr} {xs:List V},H9 b=some (.tup xs)->b≠aG:=λe=>aN e (s9 _ _ e8G) (by intro z;cases z)
   have up9:∀{b:Addr} {o:HO},b≠aG->H9 b=some o->(upd H9 aG (.dK (kG++[(Sum.inr m.1,V.ref t4)]))) b=some o:=λn e=>by rw[ai n];exact e
   have tki:ms.take (i+1)=ms.take i++[m]:=aq hm
   refine⟨kT++[(Sum.inr m.1,V.ref t3)],kG++[(Sum.inr m.1,V.ref t4)],_,_,_,rfl,up9 pG (s9 _ _ e8p),up9 PG (s9 _ _ e8P),up9 SG (s9 _ _ e8S),up9 GT.symm (s9 _ _ e8T),ab,?_,?_,b9.new nG0⟩
   ·rw[tki]
    exact dT8.same λb xs e=>up9 (tG (s9 _ _ e)) (s9 _ _ e)
   ·rw[tki]
    exact(dG8.same λb xs e=>up9 (tG (s9 _ _ e)) (s9 _ _ e)).snoc (up9 (tG e9t) e9t)
  ·rintro σ H6 ⟨kT,kG,v3,v4,v5,rfl,e6p,e6P,e6S,e6T,e6G,dT,dG,b6⟩
   rw[yf,lq,yH]at dT dG
   exact k H6 ⟨dx,aP,aS,aT,aG,kT,kG,e6p,e6P,e6S,e6T,e6G,dT,dG⟩ b6
structure sy(K:PySem.W.Frag)(C:Addr)(x q:Str)(st:Stmt)(ps:List Str)(f:Addr)(fd:FuncData):Prop where
 fn:dt K x q st f fd
 mt:Meth K C x f
 bd:Binds K fd ps []
structure ue(P:Program)(w:World)(K:PySem.W.Frag)(mg:Str->Option Value)(base:Heap)(C:Addr)(x q:Str)(st:Stmt)(ps:List Str)(k:Nat)(sp:Sp) where
 f:Addr
 fd:FuncData
 d:sy K C x q st ps f fd
 g:aI P w K mg base cj k f fd ps sp
structure cz(C:Addr)(H:Hp)(p:Addr)(ms:List Mv)(st:List Str):Prop where
 at':lV C H p ms st
 so:Sound ms st
 tb:H TB=some oG
theorem cz.same{C:Addr}{H H':Hp}{p:Addr}{ms:List Mv}{st:List Str}(s:ar H H')(h:cz C H p ms st):cz C H' p ms st:=⟨h.at'.same s,h.so,s _ _ h.tb⟩
theorem Sound.isNm{ms:List Mv}{st:List Str}(h:Sound ms st){m:Mv}(hm:m∈ms):Uf.isNm m.1=true:=z0.mp h.nn _ (yx.mpr ⟨m,hm,rfl⟩)
def kF{x:Str}(h:isNm x=true):x.length<=8:=by
 unfold isNm at h
 have:=(yA.mp (yA.mp h).2).1
 exact zl this
def mB(C:Addr):Sp:=λvs H Q _=>∃(p:Addr) (ms:List Mv) (st:List Str),vs=[.ref p]/\cz C H p ms st/\∀H' q,ar H H'->H q=none->H' q=some (.lst (au (aD (names ms))))->Q (.ref q) H'
def vo:az ["self"] ["self"] (av lZ):=fo
def sh{f C:Addr}{fd:FuncData}(F:dt K "moves" "Net.moves" lZ f fd)(T:Txt K mg)(CT:fW K C):aI P w K mg base cj 1 f fd ["self"] (mB C):=by
 refine F.oK vo λcdv A outer s H vs Q E hr h=>?_
 ·obtain⟨p,ms,st,rfl,N,k⟩:=h
  obtain⟨dx,aP,aS,aT,aG,kT,kG,h1,h2,h3,h4,h5,h6,h7⟩:=N.at'.ob
  refine⟨_,ao (aB (ay (nz rfl) rfl T.aD cN (aa (fA (pv 0) rfl) ae))),?_⟩
  try dsimp only[bq,Cx.eE,Cx.cM]
  refine⟨_,rfl,p,C,dx,_,_,rfl,h1,CT.cl,CT.nT,oe _ _ _ _,aT,kT,names ms,rfl,.inl h4,h6.keys,?_,λq nq=>k _ q (ag nq) nq ab⟩
  have:=N.so.ml
  unfold names
  rw[yf]
  lia
def nO(C:Addr):Sp:=λvs H Q _=>∃(p:Addr) (ms:List Mv) (st:List Str),vs=[.ref p]/\cz C H p ms st/\∀q,H q=some (.tup (au (aD st)))->Q (.ref q) H
def sk:az ["self"] ["self"] (av j4):=fo
def ql{f C:Addr}{fd:FuncData}(F:dt K "start" "Net.start" j4 f fd)(CT:fW K C):aI P w K mg base cj 1 f fd ["self"] (nO C):=by
 refine F.oK sk λcdv A outer s H vs Q E hr h=>?_
 ·obtain⟨p,ms,st,rfl,N,k⟩:=h
  obtain⟨dx,aP,aS,aT,aG,kT,kG,h1,h2,h3,h4,h5,h6,h7⟩:=N.at'.ob
  refine⟨_,ao (aB (fA (pv 0) rfl)),?_⟩
  try dsimp only[bq,Cx.eE,Cx.cM]
  exact⟨_,rfl,p,C,dx,_,_,rfl,h1,CT.cl,CT.nS,wk _ _ _ _,k aS h3⟩
def mw(C:Addr):Sp:=λvs H Q _=>∃(p:Addr) (ms:List Mv) (st:List Str) (m:Mv),vs=[.ref p,.str m.1]/\cz C H p ms st/\m∈ms/\∀H',ar H H'->Q .non H'
def uV:az ["self", "move"] ["self", "move"] (av kU):=fo
def oO{f C fN:Addr}{fd fdN:FuncData}(F:dt K "must_have" "Net.must_have" kU f fd)(T:Txt K mg)(CT:fW K C)(DN:Def K mg "is_name" cJ ["thing"] fN fdN):aI P w K mg base cj 2 f fd ["self", "move"] (mw C):=by
 have GN:aI P w K mg base cj 1 fN fdN ["thing"] iE:=jG DN.fn T
 refine F.oK uV λcdv A outer s H vs Q E hr h=>?_
 ·obtain⟨p,ms,st,m,rfl,N,hm,k⟩:=h
  have hu:=df hr
  refine⟨_,ao (br (PW.pt (pw_or (cy (cv (cq GN hr rfl DN.mg DN.fn.kp DN.bd .nil bE (aa (pv 1) ae)))) (pw_or1 (fR (fh hu (pv 1) (fA (pv 0) rfl)))))) jI aK),?_⟩
  clear hu
  dsimp only[bq,Cx.eE]
  have hnm:=N.so.isNm hm
  refine⟨_,rfl,m.1,rfl,by have:=kF hnm;lia,λH1 s1=>⟨_,rfl,?_⟩⟩
  obtain⟨dx,aP,aS,aT,aG,kT,kG,h1,h2,h3,h4,h5,h6,h7⟩:=(N.at'.same s1).ob
  rw[hnm]
  refine aQ ?_
  obtain⟨t,e,_⟩:=h6.get N.so.nd hm
  refine⟨_,rfl,_,rfl,p,C,dx,_,_,rfl,h1,CT.cl,CT.nT,oe _ _ _ _,aT,_,rfl,dW.k (k:=Sum.inr m.1) h4,_,rfl,?_⟩
  rw[e]
  refine aQ ?_
  exact k H1 s1
def iP(C:Addr)(sel:Mv->List Str):Sp:=λvs H Q _=>∃(p:Addr) (ms:List Mv) (st:List Str) (m:Mv),vs=[.ref p,.str m.1]/\cz C H p ms st/\m∈ms/\∀H' q,ar H H'->H q=none->H' q=some (.lst (au (aD (sel m))))->Q (.ref q) H'
def sL:az ["self", "move"] ["self", "move"] (av gK):=fo
def sW:az ["self", "move"] ["self", "move"] (av ix):=fo
def uG:(("must_have":Str) == "place_names")=false:=by decide +kernel
def ur:(("must_have":Str) == "start_state")=false:=by decide +kernel
def ua:(("must_have":Str) == "taken_by")=false:=by decide +kernel
def tR:(("must_have":Str) == "given_by")=false:=by decide +kernel
def qW{f C fN fH:Addr}{fd fdN fdH:FuncData}(F:dt K "takes" "Net.takes" gK f fd)(T:Txt K mg)(CT:fW K C)(DN:Def K mg "is_name" cJ ["thing"] fN fdN)(DH:sy K C "must_have" "Net.must_have" kU ["self", "move"] fH fdH) :
  aI P w K mg base cj 3 f fd ["self", "move"] (iP C (·.2.1)):=by
 have GH:aI P w K mg base cj 2 fH fdH ["self", "move"] (mw C):=oO DH.fn T CT DN
 refine F.oK sL λcdv A outer s H vs Q E hr h=>?_
 ·obtain⟨p,ms,st,m,rfl,N,hm,k⟩:=h
  have hu:=df hr
  refine⟨_,af (bN (ez (pv 0) CT.cl DH.mt GH hr DH.bd .nil bE (aa (pv 1) ae))) (ao (aB (aO bO rfl T.lst eO (aa (cD hu (fA (pv 0) rfl) (pv 1) (λ_ _=>rfl)) ae)))),?_⟩
  clear hu
  dsimp only[bq,Cx.eE]
  obtain⟨dx,aP,aS,aT,aG,kT,kG,h1,h2,h3,h4,h5,h6,h7⟩:=N.at'.ob
  refine⟨_,rfl,p,dx,_,rfl,h1,da _ _ _ _ uG ur ua tR,_,rfl,p,ms,st,m,rfl,N,hm,λH1 s1=>?_⟩
  obtain⟨t,e,ht⟩:=(h6.same λb xs e=>s1 _ _ e).get N.so.nd hm
  refine⟨_,rfl,p,C,dx,_,_,rfl,s1 _ _ h1,CT.cl,CT.nT,oe _ _ _ _,_,rfl,aT,_,rfl,(by rw[<-e];exact dW.k (k:=Sum.inr m.1) (s1 _ _ h4)),t,_,rfl,.inr (cY.of ht),λq nq=>?_⟩
  exact k _ q (s1.trans (ag nq)) (s1.free nq) ab
def qR{f C fN fH:Addr}{fd fdN fdH:FuncData}(F:dt K "gives" "Net.gives" ix f fd)(T:Txt K mg)(CT:fW K C)(DN:Def K mg "is_name" cJ ["thing"] fN fdN)(DH:sy K C "must_have" "Net.must_have" kU ["self", "move"] fH fdH) :
  aI P w K mg base cj 3 f fd ["self", "move"] (iP C (·.2.2)):=by
 have GH:aI P w K mg base cj 2 fH fdH ["self", "move"] (mw C):=oO DH.fn T CT DN
 refine F.oK sW λcdv A outer s H vs Q E hr h=>?_
 ·obtain⟨p,ms,st,m,rfl,N,hm,k⟩:=h
  have hu:=df hr
  refine⟨_,af (bN (ez (pv 0) CT.cl DH.mt GH hr DH.bd .nil bE (aa (pv 1) ae))) (ao (aB (aO bO rfl T.lst eO (aa (cD hu (fA (pv 0) rfl) (pv 1) (λ_ _=>rfl)) ae)))),?_⟩
  clear hu
  dsimp only[bq,Cx.eE]
  obtain⟨dx,aP,aS,aT,aG,kT,kG,h1,h2,h3,h4,h5,h6,h7⟩:=N.at'.ob
  refine⟨_,rfl,p,dx,_,rfl,h1,da _ _ _ _ uG ur ua tR,_,rfl,p,ms,st,m,rfl,N,hm,λH1 s1=>?_⟩
  obtain⟨t,e,ht⟩:=(h7.same λb xs e=>s1 _ _ e).get N.so.nd hm
  refine⟨_,rfl,p,C,dx,_,_,rfl,s1 _ _ h1,CT.cl,CT.nG,uh _ _ _ _,_,rfl,aG,_,rfl,(by rw[<-e];exact dW.k (k:=Sum.inr m.1) (s1 _ _ h5)),t,_,rfl,.inr (cY.of ht),λq nq=>?_⟩
  exact k _ q (s1.trans (ag nq)) (s1.free nq) ab
end Uf
end
section
namespace L2
open PySem PySem.Spec PyProof.Rows UfSrt
section
variable {X:Cx}
def sN(tk tv:TE):TE:=λσ H Q=>∀p,H p=none->tk σ (upd H p (.dT [])) λx H1=>tv σ H1 λy H2=>H2 p=some (.dT [])/\∃ks b,x=.ref b/\H2 b=some (.tup (ks.map kV))/\Q (.ref p) (upd H2 p (.dT [(ks,y)]))
def jE{k v:Expr}{pos:Pos}{tk tv:TE}(hu:X.A.units+1<cLine)(hk:PE X k tk)(hv:PE X v tv):PE X (.Dict [some k] [v] pos) (sN tk tv):=by
 intro pins s σ H Q I q
 have hn:=I.hok.fresh (yi s.heap.objs.size)
 have I1:=I.laid (a:=s.heap.objs.size) (o:=.dT []) (h':=s.heap.push { cls:=.type "dict",data:=.dict #[] }) (t':=s.toks) (λ_ _ q=>ye _ q) (yi _) (qH s.heap I.big)
 refine wpAny_Dict_any rfl rfl (by simp) (by show 1<=15;decide) (pairTrees_cons_walk (a6 (hk pins _ σ _ _ I1 (q _ hn)) λu s1 ⟨x,H1,J1,rx,q1⟩=>a6 (hv pins s1 σ H1 _ J1 q1) λw2 s2 ⟨y,H2,J2,ry,e,ks,b,ex,eb,q2⟩=>pairTrees_nil_walk ?_))
 subst ex
 obtain rfl:u=Value.ref b:=rx
 unfold storeAll
 rw[List.forIn_cons]
 obtain⟨z,hd,xs,rel,dd⟩:=uJ J2.hok e
 cases rel
 refine yd (yd (wpAny_dictSet_heap (knd:=tupleKind (aR X.prog X.w)) (hsz:=by simp) (by have:=hu;show X.A.units<cLine;lia) (il J2.hok eb) dd λh' dd' hs=>yj ?_))
 show wpAny _ _ (forIn [] PUnit.unit _) _ _ _
 rw[List.forIn_nil]
 refine yj ?_
 obtain⟨o,es,ep,hq,h2,h3,h4,_,h5⟩:=dd'
 refine⟨.ref s.heap.objs.size,_,jX J2 (by rw[e];exact True.intro) hs ⟨o,hq⟩ (ob:=.dT [(ks,y)]) ⟨by show 1<=sizeLine;rw[y8];decide,hd,_,?_,o,es,ep,hq,h2,h3,h4,h5⟩,rfl,q2⟩
 refine .cons ⟨rfl,?_,ry⟩ .nil
 rw[ai (aN eb e (λz=>nomatch z))]
 exact eb
def ne_nil:gk X (compareOp .NotEq) (λx y H Q=>∃a b xs,x=.ref a/\y=.ref b/\X.A.units<cLine/\aA X.K H a xs/\aA X.K H b []/\Q (.bl (!xs.isEmpty)) H):=by
 intro pins s σ H x y v u Q I rx ry h
 obtain⟨a,b,xs,rfl,rfl,hu,ha,hb,q⟩:=h
 cases rx
 cases ry
 obtain⟨its,r1,p1,_⟩:=I.list ha
 obtain⟨its2,r2,p2,_⟩:=I.list hb
 cases r2
 cases r1 with
 |nil=>exact PySem.SeqAt.RcNeAt.lists (e:=λ_=>true) p1.isList p2.isList rfl hu (λj h1 _=>absurd h1 (by simp)) X.prog X.w X.xe _ ⟨.bl false,H,I,rfl,q⟩
 |cons _ _=>exact PySem.SeqAt.RcNeAt.lists_lengths p1.isList p2.isList (by simp) hu X.prog X.w X.xe _ ⟨.bl true,H,I,rfl,q⟩
def eq_nil:gk X (compareOp .Eq) (λx y H Q=>∃a b xs,x=.ref a/\y=.ref b/\X.A.units<cLine/\aA X.K H a xs/\aA X.K H b []/\Q (.bl xs.isEmpty) H):=by
 intro pins s σ H x y v u Q I rx ry h
 obtain⟨a,b,xs,rfl,rfl,hu,ha,hb,q⟩:=h
 cases rx
 cases ry
 obtain⟨its,r1,p1,_⟩:=I.list ha
 obtain⟨its2,r2,p2,_⟩:=I.list hb
 cases r2
 cases r1 with
 |nil=>exact PySem.SeqAt.RcAt.lists (e:=λ_=>true) p1.isList p2.isList rfl hu (λj h1 _=>absurd h1 (by simp)) X.prog X.w X.xe _ ⟨.bl true,H,I,rfl,q⟩
 |cons _ _=>exact PySem.SeqAt.RcAt.lists_lengths p1.isList p2.isList (by simp) hu X.prog X.w X.xe _ ⟨.bl false,H,I,rfl,q⟩
def k6(x:Str)(n:Nat):Str:=⟨(List.replicate n x.cps).foldl (· ++ ·) #[]⟩
def rf(x:Str):k6 x 1=x:=by
 unfold k6
 simp[List.replicate,List.foldl]
def tm:gk X (binaryOp .Mult) (λx y H Q=>∃(z:Str) (n:Int),x=.str z/\y=.int n/\0<=n/\n<=2/\z.length=1/\Q (.str (k6 z n.toNat)) H):=by
 intro pins s σ H x y v u Q I rx ry h
 obtain⟨z,n,rfl,rfl,hn,hn2,hz,q⟩:=h
 obtain⟨t,rfl⟩:=rx
 obtain⟨t',rfl⟩:=ry
 have hsl:=y8
 have h3:n=0\/n=1\/n=2:=by lia
 refine PySem.P.mul_str (by rw[yL (by lia),yL (by lia)];rfl) (λh1 _=>?_) (λh1 _=>?_) ?_
 ·rw[hz]
  rcases h3 with rfl|rfl|rfl
  ·exact absurd (by decide) h1
  ·decide
  ·decide
 ·rw[hz]
  rcases h3 with rfl|rfl|rfl
  ·exact absurd (by decide) h1
  ·decide
  ·decide
 ·rcases h3 with rfl|rfl|rfl
  ·exact⟨by decide,.str (k6 z 0),H,I.tok _,⟨_,rfl⟩,q⟩
  ·rw[yt (by decide),yF (by rfl)]
   refine⟨.str (k6 z 1),H,I,⟨t,?_⟩,q⟩
   rw[rf]
  ·have e:((2:Int)==1 || z.length==0)=false:=by rw[hz];decide
   rw[yt (by decide),yt (by rw[e];exact yv)]
   refine⟨?_,.str (k6 z 2),H,I.tok _,⟨_,rfl⟩,q⟩
   have e2:z.cps.size=1:=hz
   show((List.replicate 2 z.cps).foldl (· ++ ·) #[]).size<=_
   simp[List.replicate,List.foldl,e2]
   lia
def xV:V->Option Int->Option Int->Hp->VK->Prop:=λx lo hi H Q=>∃z:Str,x=.str z/\z.length<=sizeLine/\Q (.str (Txt.slice z lo hi)) H
def mU:xO X xV:=by
 intro pins s σ H x v vl vu lo hi sl Q I rx hs pl pu h
 obtain⟨z,rfl,hz,q⟩:=h
 obtain⟨t,rfl⟩:=rx
 refine⟨"str",_,PySem.F.slot_str_getitem.lookup,typeIs_str _ _ _,?_⟩
 cases pl with
 |none =>
  cases pu with
  |none=>exact Ab (l:=none) (u:=none) (st:=none) hs rfl (AZ ⟨yI (Bn z _ _) hz,λt' k=>⟨.str _,H,I.tok k,⟨_,rfl⟩,q⟩⟩)
  |int j uj=>exact Ab (l:=none) (u:=some (j,uj)) (st:=none) hs rfl (AZ ⟨yI (Bn z _ _) hz,λt' k=>⟨.str _,H,I.tok k,⟨_,rfl⟩,q⟩⟩)
 |int i ui =>
  cases pu with
  |none=>exact Ab (l:=some (i,ui)) (u:=none) (st:=none) hs rfl (AZ ⟨yI (Bn z _ _) hz,λt' k=>⟨.str _,H,I.tok k,⟨_,rfl⟩,q⟩⟩)
  |int j uj=>exact Ab (l:=some (i,ui)) (u:=some (j,uj)) (st:=none) hs rfl (AZ ⟨yI (Bn z _ _) hz,λt' k=>⟨.str _,H,I.tok k,⟨_,rfl⟩,q⟩⟩)
end
end L2
end
section
namespace Uf
open PySem L2 UfSrt UfFin
def tK{x y:Str}(h:x.cps.toList=y.cps.toList):x=y:=by
 cases x with
 |mk a =>
  cases y with
  |mk b =>
   have:a=b:=Array.toList_inj.mp h
   rw[this]
def dR(x y:Str):(x++y).cps.toList=x.cps.toList++y.cps.toList:=by
 show(x.cps++y.cps).toList=_
 simp
def bP(x:Str):x.length=x.cps.toList.length:=by simp[Str.length]
def cb:dI.cps.toList=(List.range 26).map (· + 97):=by decide +kernel
def jR{c:Nat}(h1:97<=c)(h2:c<=122):c∈dI.cps.toList:=by
 rw[cb]
 exact yx.mpr ⟨c-97,Aj.mpr (by lia),by lia⟩
def oQ(l:List Nat):Prop:=∀c∈l,97<=c/\c<=122
def qV{x:Str}(h1:1<=x.cps.toList.length)(h2:x.cps.toList.length<=8)(h:oQ x.cps.toList):isNm x=true:=by
 unfold isNm
 rw[bP,yy h1,yy h2,AQ,AQ,z0]
 intro c hc
 exact yy (jR (h c hc).1 (h c hc).2)
def cf{xs:List Str}(h1:∀x∈xs,isNm x=true)(h2:xs.Nodup):unlike xs=true:=by
 unfold unlike
 rw[z0.mpr h1,yy h2]
 rfl
def bQ{xs:List Str}(h:unlike xs=true){x:Str}(hx:x∈xs):isNm x=true:=z0.mp (yA.mp h).1 x hx
def eF{xs ys:List Str}(h:unlike xs=true)(hn:ys.Nodup)(hs:∀y∈ys,y∈xs):unlike ys=true:=cf (λy hy=>bQ h (hs y hy)) hn
def gY{xs:List Str}(h:unlike xs=true)(n:Nat):unlike (xs.take n)=true:=eF h ((a5 h).sublist (A9 n xs)) λy hy=>A0 hy
def hU{xs:List Str}{x:Str}(h:unlike xs=true)(hx:isNm x=true)(hn:x∉xs):unlike (xs++[x])=true:=by
 refine cf (λy hy=>?_) (yE.mpr ⟨a5 h,by simp,λa ha b hb=>?_⟩)
 ·rcases yo.mp hy with z|z
  ·exact bQ h z
  ·have:y=x:=by simpa using z
   rw[this]
   exact hx
 ·have:b=x:=by simpa using hb
  subst this
  rintro rfl
  exact hn ha
def gZ:List Str:=["", "a", "go", "zzzz"]
def fw:List Int:=[1,2,4,5,7,8]
def signs:Str:="qwertyuio"
def gI(c:Int)(k:Nat):Str :=
 gZ.getD (c % 4).toNat ""++(⟨#[signs.cps.toList.getD (((k:Int)*fw.getD (c / 4 % 6).toNat 0+c / 24) % 9).toNat 0]⟩:Str)++k6 "x" (c / 216 % 3).toNat
def iQ(c:Int)(n:Nat):List Str:=(List.range n).map (gI c)
def jq(n:Nat)(h:n<=2):(k6 "x" n).cps.toList=List.replicate n 120:=by
 have h3:n=0\/n=1\/n=2:=by lia
 rcases h3 with rfl|rfl|rfl <;> decide +kernel
def k7:signs.cps.toList=[113,119,101,114,116,121,117,105,111]:=by decide +kernel
def ra:∀b<6,∀r<9,((List.range 9).map λk=>[113,119,101,114,116,121,117,105,111].getD ((((k:Nat):Int)*fw.getD b 0+((r:Nat):Int)) % 9).toNat 0).Nodup:=by decide +kernel
def oH:∀a<4,((gZ.getD a "").cps.toList.length<=4)/\∀c∈(gZ.getD a "").cps.toList,97<=c/\c<=122:=by decide +kernel
def sO:∀i<9,97<=[113,119,101,114,116,121,117,105,111].getD i 0/\[113,119,101,114,116,121,117,105,111].getD i 0<=122:=by decide +kernel
def eh(c:Int)(k:Nat):(gI c k).cps.toList=(gZ.getD (c % 4).toNat "").cps.toList++[[113,119,101,114,116,121,117,105,111].getD (((k:Int)*fw.getD (c / 4 % 6).toNat 0+c / 24) % 9).toNat 0]++List.replicate (c / 216 % 3).toNat 120:=by
 unfold gI
 rw[dR,dR,jq _ (by lia),k7]
def si(c:Int)(k:Nat):isNm (gI c k)=true:=by
 obtain⟨s1,s2⟩:=oH (c % 4).toNat (by lia)
 have h1:=sO (((k:Int)*fw.getD (c / 4 % 6).toNat 0+c / 24) % 9).toNat (by lia)
 refine qV ?_ ?_ ?_
 ·rw[eh,yp,yp,Al];lia
 ·rw[eh,yp,yp,Al,BE];lia
 ·rw[eh]
  intro d hd
  rcases yo.mp hd with hd|hd
  ·rcases yo.mp hd with hd|hd
   ·exact s2 d hd
   ·have:d=_:=zh.mp hd
    rw[this]
    exact h1
  ·rw[(List.mem_replicate.mp hd).2]
   decide
def tL(c:Int):((List.range 9).map (gI c)).Nodup:=by
 have e:=ra (c / 4 % 6).toNat (by lia) (c / 24 % 9).toNat (by lia)
 have er:(((c / 24 % 9).toNat:Nat):Int)=c / 24 % 9:=by lia
 have key:∀k:Nat,(((k:Int)*fw.getD (c / 4 % 6).toNat 0+c / 24) % 9)=(((k:Int)*fw.getD (c / 4 % 6).toNat 0+(((c / 24 % 9).toNat:Nat):Int)) % 9):=λk=>by rw[er];lia
 rw[List.Nodup,AM]at e ⊢
 refine e.imp λ{i j} h z=>h ?_
 have h2:=zw (λx:Str=>x.cps.toList) z
 simp only[eh,key]at h2
 rw[zT,zT]at h2
 have h3:=List.append_cancel_left h2
 exact(List.cons.inj h3).1
def lI(c:Int){n:Nat}(hn:n<=9):unlike (iQ c n)=true:=by
 refine cf (λx hx=>?_) ?_
 ·obtain⟨k,_,rfl⟩:=yx.mp hx
  exact si c k
 ·unfold iQ
  have e:List.range n=(List.range 9).take n:=by rw[List.take_range,Bw hn]
  rw[e,List.map_take]
  exact(tL c).sublist (A9 _ _)
end Uf
end
section
namespace L2
open PySem PySem.Spec PyProof.Rows
section
variable {X:Cx}{N:List Str}{n:Nat}{ci:List Nat}{sc:Scope}
def nR{elt tg iter:Expr}{ifs:List Expr}{pos cpos py:Pos}{y:Str}{j:Nat}{wi:TI}{g:BX->TG}{tt:BX->TT}{te:BX->TE}(hc:X.calm=true)(hN:X.N.Nodup)(hj:X.N[j]?=some y)(hy:X.env.scope.names.lookup y=some .local)(hi:PI X tg iter wi)(S:bB X N n ci sc)
  (hb:∀z:BX,PG (fg X sc N z) tg (g z)/\wu (fg X sc N z) ifs (tt z)/\PE (fg X sc N z) elt (te z)) (hsw:swapsWith (.ListComp elt [⟨tg,iter,ifs,0⟩] sc cpos) (some (.Name y py)) pos.line X.env=pure true:=by rfl)
  (hs:∀x,foldedSetIterable iter X.env x=pure x:=by intro _;rfl):PS X (.Assign [.Name y py] (.ListComp elt [⟨tg,iter,ifs,0⟩] sc cpos) pos) (rY (uI n ci wi g tt te) (iH j)):=by
 intro pins s σ H D0 I h
 rw[exec_Assign_Name_used _ _ _ _ hsw]
 refine yd (wpAny_standAt (yd ?_))
 show wpAny _ X.A (do let _ <-comprehension (.ListComp elt [⟨tg,iter,ifs,0⟩] sc cpos) sc X.env _ (newList []) false (eval iter X.env) (some (assign (.Name y py) X.env))) _ _ s
 refine yd (zv (Bj (use:=some (assign (.Name y py) X.env)) (Q:=λ_ s'=>SP X pins D0 .next s') (E:=X.xe) rfl hs (iR (S.jc I.ok)) S.kind S.loc (a6 (hi pins s σ H _ I h) λv s1 h1=>a6 h1 λitv s2 h2=>?_)) (λ_ s' hq=>yj (yj hq)) λ_ _ e=>e)
 obtain⟨it,fp,tn,J,H2,e,I2,T,st2,f2,rd⟩:=h2
 subst e
 refine zy (AW S.nocell (by intro y hy;simp at hy) (λh₁ hns₁ hsb₁=>?_) S.kind)
 dsimp only at hns₁ hsb₁ ⊢
 have hD:H2 s2.heap.objs.size=none:=I2.hok.fresh (yi _)
 have I3:Inv X pins σ (upd H2 s2.heap.objs.size (.lst [])) { s2 with heap:=s2.heap.push { cls:=.type "list",data:=.seq ([]:List Value).toArray } }:=I2.vp (t':=s2.toks) (ys:=[]) (its:=[]) .nil (yC _)
 have ob2:∀b∈fp,∃o,s2.heap.get? b=some o:=λb hb=>let ⟨o,e,_⟩:=T.obj _ _ st2 b hb;⟨o,e⟩
 have neD:∀b∈fp,b≠s2.heap.objs.size:=λb hb=>let ⟨o,e⟩:=ob2 b hb;yn (yh e)
 have f3:∀b∈fp,eQ X pins (upd H2 s2.heap.objs.size (.lst [])) b:=λb hb=>⟨by rw[ai (neD b hb)];exact(f2 b hb).1,(f2 b hb).2⟩
 have ob3:∀b∈fp,∃o,(s2.heap.push { cls:=.type "list",data:=.seq ([]:List Value).toArray }).get? b=some o:=λb hb=>let ⟨o,e⟩:=ob2 b hb;⟨o,ye _ e⟩
 have k3:∀b o,(s2.heap.push { cls:=.type "list",data:=.seq ([]:List Value).toArray }).get? b=some o->h₁.get? b=some o:=λb o e =>
  hsb₁.extBut b o (yn (yh e)) (ye _ e)
 have I4:Inv (fg X sc N ⟨_,{ s2 with heap:=s2.heap.push { cls:=.type "list",data:=.seq ([]:List Value).toArray } },upd H2 s2.heap.objs.size (.lst []),fp⟩) [] (mq n ci σ) (upd H2 s2.heap.objs.size (.lst []))
   { s2 with heap:=h₁,toks:=s2.toks+([]:List (Str×Value)).length }:=jj (s:={ s2 with heap:=s2.heap.push { cls:=.type "list",data:=.seq ([]:List Value).toArray } }) S I3 f3 ob3 k3 hns₁
 have st4:tn 0 h₁:=T.keep _ _ _ st2 λb hb o e=>k3 b o (ye _ e)
 obtain⟨M,W,w0,turn⟩:=rd ⟨_,{ s2 with heap:=s2.heap.push { cls:=.type "list",data:=.seq ([]:List Value).toArray } },upd H2 s2.heap.objs.size (.lst []),fp⟩ s2.heap.objs.size hD
 obtain⟨bg,bt,be⟩:=hb ⟨_,{ s2 with heap:=s2.heap.push { cls:=.type "list",data:=.seq ([]:List Value).toArray } },upd H2 s2.heap.objs.size (.lst []),fp⟩
 have ok3:=mH S I3 f3 ob3
 have stat:∀{H':Hp},(∀b∈fp,H' b=none)->∀b∈fp,eQ (fg X sc N ⟨_,{ s2 with heap:=s2.heap.push { cls:=.type "list",data:=.seq ([]:List Value).toArray } },upd H2 s2.heap.objs.size (.lst []),fp⟩) [] H' b:=λhn b hb=>by
  obtain⟨_,f1,f2',_,f4,_⟩:=f3 b hb
  refine⟨hn b hb,?_,ok3.exfs b hb,.inl hb,λx c e=>?_,λp hp=>absurd hp (by simp)⟩
  ·exact yn (let ⟨o,e⟩:=ob3 b hb;yh e)
  ·exact f4 x c (bu _ _ (S.jc I3.ok) (by simp) x c e)
 have loop:codeAny (model X.prog X.w) X.A (.compLoop (.ListComp elt [⟨tg,iter,ifs,0⟩] sc cpos) 0 (.ref it) (.ref s2.heap.objs.size) (compEnvC sc (fk X.env sc.names []) (s2.heap.push { cls:=.type "list",data:=.seq ([]:List Value).toArray }).objs.size X.env))
   (compPost (model X.prog X.w) X.A X.xe (some (assign (.Name y py) X.env)) (λ_ s'=>SP X pins D0 .next s') (.ref s2.heap.objs.size) (s2.heap.push { cls:=.type "list",data:=.seq ([]:List Value).toArray }).objs.size) { s2 with heap:=h₁,toks:=s2.toks+([]:List (Str×Value)).length }:=by
  refine ma (W:=W) (M:=M) (σ0:=mq n ci σ) (Q:=λv H'=>D0.nx (σ.set j (some v)) H') hc T bg bt be (λ{pins' σ' H' s'} J'=>?_) stat I4 st4 (λb hb=>(f3 b hb).1) w0 turn λσ' H' s' J' q=>?_
  ·exact kR S I3 f3 J'
  ·obtain⟨m',hn',_⟩:=id J'.loc
   have J2:Inv X pins σ H' s':=iT (s:={ s2 with heap:=s2.heap.push { cls:=.type "list",data:=.seq ([]:List Value).toArray } }) I3 f3 J' (Heap.SameBut.refl _ _)
   show wpAny _ _ (assign (.Name y py) X.env (.ref s2.heap.objs.size)) _ _ s'
   refine wpAny_assign_Name (jr (v:=.ref s2.heap.objs.size) J2 hN hj (.inl hy) rfl (λs3 J3 ⟨a,sb,ha⟩=>?_) (.inr hy))
   have cC:∀x c,X.env.cells.lookup x=some c->c≠(s2.heap.push { cls:=.type "list",data:=.seq ([]:List Value).toArray }).objs.size:=λx c e z=>by
    obtain⟨v,q1⟩:=I3.cell x c e
    have:=q1.lt
    rw[z]at this
    exact absurd this (zc _)
   have lC:X.env.locals≠(s2.heap.push { cls:=.type "list",data:=.seq ([]:List Value).toArray }).objs.size:=λz=>by
    have q1:=I3.lt
    rw[z]at q1
    exact absurd q1 (zc _)
   have aC:a≠(s2.heap.push { cls:=.type "list",data:=.seq ([]:List Value).toArray }).objs.size:=by
    rcases ha with rfl|ha
    ·exact lC
    ·exact cC _ _ ha
   refine⟨m',hn'.sameBut sb (Ac aC),λh' hs'=>⟨_,H',J3.turned (t':=s3.toks) (λb o hb e=>(hs'.2 b hb).trans e) J'.free lC.symm (.inr (yI I3.sz (yi _))) cC (λp hp z=>?_),q⟩⟩
   have q1:=(I3.pin p hp).1
   rw[z]at q1
   exact absurd (yh q1) (zc _)
 exact codeAny_compStart_list loop (T.self _ 0 _ _ _ st4 loop)
end
end L2
end
section
namespace L2
open PySem PySem.Spec PyProof.Rows UfSrt
theorem g0{α β:Type}{F:α->β->Prop}:∀{l:List α} {m:List β} {i:Nat} {b:β},Paired F l m->m[i]?=some b->∃a,l[i]?=some a/\F a b
 |_,_,_,_,.nil,e=>by simp at e
 |_,_,0,_,.cons r _,e=>by
  simp at e
  subst e
  exact⟨_,rfl,r⟩
 |_,_,i+1,_,.cons _ t,e=>by
  obtain⟨a,h1,h2⟩:=g0 (i:=i) t (by simpa using e)
  exact⟨a,by simpa using h1,h2⟩
def x3{P:Program}{w:World}{k:Key}{v:Value}(h:(aR P w).is k v=true):RelV (kV k) v:=by
 rw[iB]at h
 rcases aX h with⟨i,t,z,z2⟩|⟨y,t,z,z2⟩
 ·subst z z2
  exact⟨t,rfl⟩
 ·subst z z2
  exact⟨t,rfl⟩
section
variable {X:Cx}{pins:List (Addr×Obj)}{σ:St}{H:Hp}{s:Shared}
def Inv.xo{a:Addr}{kvs:List (Key×V)}(I:Inv X pins σ H s)(e:H a=some (.dK kvs)):∃o,Inv X pins σ (upd H a (.frz o (.dK kvs))) s:=by
 obtain⟨z,y,vs,rel,o,es,ep,ho,r⟩:=ub I.hok e
 refine⟨o,?_⟩
 have u:Un X.fs [] H (upd H a (.frz o (.dK kvs))) s.heap s.heap:=by
  refine⟨λb ob q _ _ _=>q,λb ob q _ _ _=>⟨ob.slots,q⟩,λb ob q n _=>?_,λb ob q _=>⟨ob,q⟩,λb xs q=>?_,λb ob v q=>?_,λb ps q=>⟨#[],?_⟩⟩
  ·rw[ai (λz=>by rw[z,e]at n;cases n)];exact n
  ·rw[ai (aN q e (λz=>nomatch z))];exact q
  ·rw[ai (aN q e (λz=>nomatch z))];exact q
  ·rw[ai (aN q e (λz=>nomatch z)),q];simp
 refine I.un (h':=s.heap) (t':=s.toks) u λb v e'=>?_
 by_cases hb:b=a
 ·subst hb
  rw[ab]at e'
  cases e'
  exact⟨ho,show aY X.prog X.w H s.heap b (.dK kvs) from I.hok b _ e⟩
 ·rw[ai hb]at e'
  exact(I.hok b v e').iZ (λc v _ q=>q) (λc q=>by rw[ai (aN q e (λz=>nomatch z))];exact q) (λc xs q=>by rw[ai (aN q e (λz=>nomatch z))];exact q) λc oo uu q _=>by rw[ai (aN q e (λz=>nomatch z))];exact q
def xD(te:TE):TE:=λσ H Q=>te σ H λv H1=>∃a kvs,v=.ref a/\H1 a=some (.dK kvs)/\∀o,Q (.ref a) (upd H1 a (.frz o (.dK kvs)))
def mR{e:Expr}{te:TE}(he:PE X e te):PE X e (xD te):=by
 intro pins s σ H Q I h
 refine a6 (he pins s σ H _ I h) λu s1 hZ=>?_
 obtain⟨v,H1,I1,r1,a,kvs,ev,ea,q⟩:=hZ
 subst ev
 obtain⟨o,I2⟩:=I1.xo ea
 exact⟨.ref a,_,I2,r1,q o⟩
def rb{a:Addr}{o:Obj}{kvs:List (Key×V)}{es:Array DictEntry}{ep:Nat}(I:Inv X pins σ H s)(e:H a=some (.frz o (.dK kvs)))(hd:o.data=.dict es ep) :
  ∃vs,KV kvs vs/\s.heap.DictAt (aR X.prog X.w) a vs ep/\(a==sysModules)=false/\kvs.length<=sizeLine:=by
 obtain⟨ho,z,y,vs,rel,dd⟩:=(show aY X.prog X.w H s.heap a (.frz o (.dK kvs)) from I.hok a _ e)
 obtain⟨ep',hat⟩:=dd.dictAt
 obtain⟨o',es',ho',hc',hd',hr⟩:=id hat
 rw[ho]at ho'
 cases ho'
 rw[hd]at hd'
 cases hd'
 exact⟨vs,rel,hat,y,z⟩
end
def vH(a:Addr)(o:Obj)(kvs:List (Key×V)):It :=
 ⟨λi H=>H a=some (.frz o (.dK kvs))/\i<kvs.length,λi H x H'=>H'=H/\∃k v,kvs[i]?=some (k,v)/\x=kV k,λi H=>H a=some (.frz o (.dK kvs))/\i=kvs.length⟩
def pB{P:Program}{w:World}{K:PySem.W.Frag}{tg:Expr}{a it:Addr}{o:Obj}{kvs:List (Key×V)}{es:Array DictEntry}{ep:Nat}(hd:o.data=.dict es ep) :
  Turn P w K tg (vH a o kvs) [it] it (λi h=>h.IsKeyIter it a i kvs.length ep) where
 mem:=by simp
 obj:=λi h st b hb=>by
  have e:b=it:=by simpa using hb
  subst e
  obtain⟨o,e,c,d⟩:=st
  exact⟨o,e,λv z=>by rw[d]at z;cases z⟩
 keep:=λi h h' st k=>st.at λo e=>k it (by simp) o e
 item:=by
  intro X hP hw hK hc i pins s σ H E I hf st hg
  subst hP hw hK
  obtain⟨he,hi⟩:=hg
  obtain⟨vs,rel,hat,lo,hz⟩:=rb I he hd
  obtain⟨f0,f1,f2,f3,f4,f5⟩:=hf it (by simp)
  have hne:a≠it:=λz=>by rw[z,f0]at he;cases he
  have hl:kvs.length=vs.length:=rel.length
  have W:=BI (prog:=X.prog) (w:=X.w) (knd:=aR X.prog X.w) (I.ok.hd hc) it a hne vs ep
  refine W.item i s _ _ (by lia) ⟨(by rw[<-hl];exact st),hat⟩ λv h' tk hP st' kk=>?_
  obtain⟨k,x,hx,hk⟩:=hP
  obtain⟨⟨k',v'⟩,hkv,hrel⟩:=g0 rel hx
  have hkk:k'=k:=hrel.1
  subst hkk
  have I1:Inv X pins σ H { s with heap:=h',toks:=tk }:=I.turned (λb o hb e=>kk b o (by simpa using hb) e) f0 f1 f3 f4 f5
  obtain⟨oi,e1,c1,d1⟩:=id st'.1
  exact⟨v,rfl,kL (s:={ s with heap:=h',toks:=tk }) e1 c1 d1 (by decide) ⟨kV k',H,I1,x3 hk,⟨rfl,k',v',hkv,rfl⟩,(by rw[hl];exact st'.1),λb hb=>(hf b hb).1⟩⟩
 done:=by
  intro X hP hw hK hc i pins s σ H E I hf st hg
  subst hP hw hK
  obtain⟨he,hi⟩:=hg
  obtain⟨vs,rel,hat,lo,hz⟩:=rb I he hd
  obtain⟨f0,f1,f2,f3,f4,f5⟩:=hf it (by simp)
  have hne:a≠it:=λz=>by rw[z,f0]at he;cases he
  have hl:kvs.length=vs.length:=rel.length
  have W:=BI (prog:=X.prog) (w:=X.w) (knd:=aR X.prog X.w) (I.ok.hd hc) it a hne vs ep
  subst hi
  rw[hl]at st
  exact W.done s _ _ ⟨st,hat⟩ λh' tk kk=>⟨rfl,I.turned (λb o hb e=>kk b o (by simpa using hb) e) f0 f1 f3 f4 f5⟩
 self:=λ_ _ _ _ _ st h=>wpAny_pyIter_keyiter st h
section
variable {X:Cx}{tg:Expr}
def wc(tl:TE):TI:=λσ H R=>tl σ H λx H1=>∃a o kvs,x=.ref a/\H1 a=some (.frz o (.dK kvs))/\R (vH a o kvs) H1
def ou{l:Expr}{tl:TE}(hl:PE X l tl):PI X tg l (wc tl):=by
 intro pins s σ H R I h
 refine a6 (hl pins s σ H _ I h) λv s1 hZ=>?_
 obtain⟨x,H1,I1,r1,a,o,kvs,e,ea,q⟩:=hZ
 subst e
 cases r1
 obtain⟨ho,z,y,vs,rel,dd⟩:=(show aY X.prog X.w H1 s1.heap a (.frz o (.dK kvs)) from I1.hok a _ ea)
 obtain⟨ep,hat⟩:=dd.dictAt
 obtain⟨o',es,ho',hc',hd',_⟩:=id hat
 rw[ho]at ho'
 cases ho'
 have hl:kvs.length=vs.length:=rel.length
 refine wpAny_pyIter_dict y hat ?_
 refine⟨s1.heap.objs.size,[s1.heap.objs.size],_,_,H1,rfl,I1.kept (t':=s1.toks) λb o e=>ye _ e,pB (kvs:=kvs) hd',(by rw[hl];exact⟨_,ym _ rfl,rfl,rfl⟩),λb hb=>?_,q⟩
 have e:b=s1.heap.objs.size:=by simpa using hb
 subst e
 exact I1.pH (yi _) (I1.hok.fresh (yi _))
end
def ro{a:Addr}{o:Obj}{kvs:List (Key×V)}{g:TG}{tb:TS}{D:Ends}{σ:St}{H:Hp}(Pv:Nat->St->Hp->Prop)(h0:Pv 0 σ H)(hl:∀i σ H,i<=kvs.length->Pv i σ H->H a=some (.frz o (.dK kvs)))
  (hs:∀i k v σ H,kvs[i]?=some (k,v)->Pv i σ H->g (kV k) σ H λσ2 H2=>tb { D with nx:=Pv (i+1),ct:=Pv (i+1),bk:=D.nx } σ2 H2) (hd:∀σ H,Pv kvs.length σ H->D.nx σ H) :
  ∃W:Nat->Nat->St->Hp->Prop,(∃m,W 0 m σ H)/\∀i m σ H,W i m σ H ->
   ((vH a o kvs).stop i H/\D.nx σ H)\/((vH a o kvs).go i H/\∃N:St->Hp->Prop,(∀σ' H',N σ' H'->∃m',m'<m/\W (i+1) m' σ' H')/\∀x H',(vH a o kvs).yld i H x H'->g x σ H' λσ2 H2=>tb { D with nx:=N,ct:=N,bk:=D.nx } σ2 H2):=by
 refine⟨λi m σ H=>m=kvs.length-i/\i<=kvs.length/\Pv i σ H,⟨kvs.length,by simp,yC _,h0⟩,?_⟩
 rintro i m σ H ⟨rfl,hi,p⟩
 have q:=hl i σ H hi p
 by_cases hlt:i<kvs.length
 ·refine .inr ⟨⟨q,hlt⟩,Pv (i+1),λσ' H' p'=>⟨kvs.length-(i+1),by lia,rfl,hlt,p'⟩,λx H' y=>?_⟩
  obtain⟨e,k,v,hkv,rfl⟩:=y
  subst e
  exact hs i k v σ _ hkv p
 ·have e:i=kvs.length:=by lia
  subst e
  exact .inl ⟨⟨q,rfl⟩,hd σ H p⟩
section
variable {n:Nat}{ci:List Nat}{g:TG}{tt:TT}{te:TE}{σ:St}{H:Hp}{D:Addr}{Q:VK}
def pE{a:Addr}{o:Obj}{kvs:List (Key×V)}(Pv:Nat->List V->Hp->Prop)(h0:Pv 0 [] (upd H D (.lst [])))(hl:∀i ys H,i<=kvs.length->Pv i ys H->H a=some (.frz o (.dK kvs)))
  (hs:∀i k v ys H,kvs[i]?=some (k,v)->Pv i ys H->g (kV k) (mq n ci σ) H λσ2 H2=>tt σ2 H2 λb H3=>if b=true then te σ2 H3 λy H4=>H4 D=some (.lst ys)/\ys.length<sizeLine/\Pv (i+1) (ys++[y]) (upd H4 D (.lst (ys++[y]))) else Pv (i+1) ys H3)
  (hd:∀ys H,Pv kvs.length ys H->Q (.ref D) H) :
  gr n ci (vH a o kvs) g tt te σ H D Q:=by
 unfold gr
 refine⟨kvs.length,Pv,h0,λi ys H hi p=>?_⟩
 have q:=hl i ys H hi p
 by_cases hlt:i<kvs.length
 ·refine .inr ⟨hlt,⟨q,hlt⟩,λx H' y=>?_⟩
  obtain⟨e,k,v,hkv,rfl⟩:=y
  subst e
  exact hs i k v ys _ hkv p
 ·have e:i=kvs.length:=by lia
  subst e
  exact .inl ⟨⟨q,rfl⟩,hd ys H p⟩
end
end L2
end
section
namespace L2
open PySem PySem.Spec PyProof.Rows UfSrt
section
variable {X:Cx}{pins:List (Addr×Obj)}{σ:St}{H:Hp}{s:Shared}
def Inv.p7{h':Heap}{t':Nat}{ch:List Addr}{T:Addr}{u:HO}(I:Inv X pins σ H s)(hch:∀b∈ch,eQ X pins H b)(k:∀b o,b∉ch->s.heap.get? b=some o->h'.get? b=some o)(hT:s.heap.objs.size<=T)
  (new:aY X.prog X.w (upd H T u) h' T u):Inv X pins σ (upd H T u) { s with heap:=h',toks:=t' }:=by
 have hn:H T=none:=I.hok.fresh hT
 have nch:∀b v,H b=some v->b∉ch:=λb v e z=>by rw[(hch b z).1]at e;cases e
 have nT:∀b o,s.heap.get? b=some o->b≠T:=λb o e=>yn (yD (yh e) hT)
 refine I.step (g':=s.gens) (d':=s.drawn) (ch:=ch) (λb hb=>⟨(hch b hb).2.2.2.1,(hch b hb).2.1,(hch b hb).2.2.2.2.1,(hch b hb).2.2.2.2.2⟩) (λb o _ _ hc e _=>k b o hc e) (λb o _ _ hc e _=>⟨o.slots,k b o hc e⟩) (λb o _ e n=>by rw[ai (nT b o e)];exact n)
  (λb o hc e=>⟨o,k b o hc e⟩) (λb xs e=>by rw[ai (ak e hn)];exact e) (λb o v e=>by rw[ai (ak e hn)];exact e) (λb ps e=>⟨#[],by rw[ai (ak e hn),e];simp⟩) (λm hm=>?_) (λb v e=>?_) I.bare
 ·obtain⟨o,es,ep,ho,r⟩:=hm
  exact⟨o,es,ep,k _ o (λz=>(hch _ z).2.1 rfl) ho,r⟩
 ·by_cases hb:b=T
  ·subst hb
   rw[ab]at e
   cases e
   exact new
  ·rw[ai hb]at e
   refine(I.hok b v e).iZ (λc w hc q=>k c w ?_ q) (λc q=>by rw[ai (ak q hn)];exact q) (λc xs q=>by rw[ai (ak q hn)];exact q) λc _ _ q _=>by rw[ai (ak q hn)];exact q
   rcases hc with z|z
   ·rw[z];exact nch b v e
   ·exact nch c _ z
end
def vS(K:PySem.W.Frag)(l:Addr):It :=
 ⟨λi H=>∃xs x,aA K H l xs/\xs[i]?=some x,λi H x H'=>∃p v,x=.ref p/\H p=none/\H'=upd H p (.tup [.int (i:Int),v])/\∀xs,aA K H l xs->xs[i]?=some v,λi H=>∃xs,aA K H l xs/\xs.length<=i⟩
def oY{P:Program}{w:World}{K:PySem.W.Frag}{elts:List Expr}{x1}{pos:Pos}{l e it:Addr}(hne:e≠it) :
  Turn P w K (.Tuple elts x1 pos) (vS K l) [e,it] e (λi h=>(∃old,IsEnum h e it i old)/\h.IsListIter it l i) where
 mem:=by simp
 obj:=λi h st b hb=>by
  obtain⟨⟨old,he⟩,o,e2,c,d⟩:=st
  rcases yr.mp hb with z|hb
  ·subst z
   exact⟨_,he,λv z=>by
    have z':Data.fields _=Data.cell v:=z
    cases z'⟩
  ·have z:b=it:=by simpa using hb
   subst z
   exact⟨o,e2,λv z=>by rw[d]at z;cases z⟩
 keep:=λi h h' st k=>⟨let ⟨old,he⟩:=st.1;⟨old,k e (by simp) _ he⟩,st.2.at λo q=>k it (by simp) o q⟩
 item:=by
  intro X hP hw hK hc i pins s σ H E I hf st hg
  subst hP hw hK
  obtain⟨xs,x,hq,hx⟩:=hg
  obtain⟨its,rv,p,hz⟩:=I.list hq
  obtain⟨u,hu,ru⟩:=rv.get hx
  obtain⟨⟨old,he⟩,hit⟩:=st
  refine wpAny_pyNext_enum_item he hit p.isList (x:=u) (by simpa using hu) hne λh1 ho hit1 hT hsz hk=>?_
  refine⟨.ref s.heap.objs.size,rfl,wpAny_letOwnedTupleGo_enum ho λh2 he2 hs2=>?_⟩
  have elt:e<s.heap.objs.size:=yh he
  have ilt:it<s.heap.objs.size:=by obtain⟨_,y,_⟩:=hit;exact yh y
  have kk:∀b o,b∉[e,it]->s.heap.get? b=some o->h2.get? b=some o:=λb o hb q=>by
   have n1:b≠e:=λz=>hb (by simp[z])
   have n2:b≠it:=λz=>hb (by simp[z])
   exact(hs2.2 b n1).trans (hk b o n1 n2 q)
  have hT2:h2.get? s.heap.objs.size=some { cls:=.type "tuple",data:=.seq #[.int i s.toks,u] }:=(hs2.2 _ (zW elt)).trans hT
  have hn:=I.hok.fresh (yi s.heap.objs.size)
  refine⟨.ref s.heap.objs.size,upd H s.heap.objs.size (.tup [.int (i:Int),x]),I.p7 (t':=s.toks+1) hf kk (yi _) ⟨by show 2<=sizeLine;rw[y8];decide,[.int i s.toks,u],.cons ⟨_,rfl⟩ (.cons ru .nil),_,hT2,rfl,_,rfl⟩,rfl,⟨_,x,rfl,hn,rfl,λys hy=>by rw[I.k5 hy hq];exact hx⟩,⟨⟨_,by simpa using he2⟩,hit1.at λo q=>(hs2.2 it (Ac hne)).trans q⟩,λb hb=>?_⟩
  have nb:b≠s.heap.objs.size:=by
   rcases yr.mp hb with z|hb
   ·rw[z];exact yn elt
   ·have z:b=it:=by simpa using hb
    rw[z];exact yn ilt
  rw[ai nb]
  exact(hf b hb).1
 done:=by
  intro X hP hw hK hc i pins s σ H E I hf st hg
  subst hP hw hK
  obtain⟨xs,hq,hx⟩:=hg
  obtain⟨its,rv,p,hz⟩:=I.list hq
  obtain⟨⟨old,he⟩,hit⟩:=st
  obtain⟨f0,f1,f2,f3,f4,f5⟩:=hf it (by simp)
  have hl:=rv.length
  exact wpAny_pyNext_enum_end (I.ok.hd hc) he hit p.isList (by simp;lia) λh' eb=>⟨rfl,I.turned (t':=s.toks) (λb o hb e=>eb b o hb e) f0 f1 f3 f4 f5⟩
 self:=λ_ _ _ _ _ st h=>let ⟨⟨_,he⟩,_⟩:=st;wpAny_pyIter_enum he h
section
variable {X:Cx}{elts:List Expr}{x1:Nat}{tpos:Pos}
def boot_enumerate:bootBuiltins "enumerate"=some (.type "enumerate"):=by decide +kernel
def vQ(K:PySem.W.Frag)(ta:TA):TI:=λσ H R=>ta σ H λvs H1=>∃l,vs=[.ref l]/\(∃xs,aA K H1 l xs)/\R (vS K l) H1
def j7{a:Expr}{ta:TA}{p pos:Pos}(hg:Gl X "enumerate")(hm:X.mg "enumerate"=none)(ha:PA X [a] ta)(hs:starEach [a] X.env=[(false,eval a X.env)]:=by rfl):PI X (.Tuple elts x1 tpos) (.Call (.Name "enumerate" p) [a] [] pos) (vQ X.K ta):=by
 intro pins s σ H R I h
 refine Call_ (fO I hg hm boot_enumerate (zA (a6 (ha pos pins s σ H _ I h) λus s1 ⟨vs,H1,I1,r1,q1⟩=>?_) hs rfl))
 obtain⟨l,e,⟨xs,hq⟩,q⟩:=q1
 subst e
 cases r1 with
 |cons r rr =>
  cases rr
  cases r
  obtain⟨its,rv,pl,hz⟩:=I1.list hq
  refine call_enumerate_list pl.isList λh' he hit hsz hk=>?_
  refine wpAny_pyIter_enum he ?_
  have hne:s1.heap.objs.size+1≠s1.heap.objs.size:=Nat.succ_ne_self _
  have I2:Inv X pins σ H1 { s1 with heap:=h' }:=I1.kept (t':=s1.toks) hk
  refine⟨s1.heap.objs.size+1,[s1.heap.objs.size+1,s1.heap.objs.size],_,_,H1,rfl,I2,oY hne,⟨⟨_,he⟩,hit⟩,λb hb=>?_,q⟩
  have hb2:s1.heap.objs.size<=b:=by
   rcases yr.mp hb with z|hb
   ·rw[z];exact zV _
   ·have z:b=s1.heap.objs.size:=by simpa using hb
    rw[z];exact yi _
  exact I1.pH hb2 (I1.hok.fresh hb2)
end
def iU{K:PySem.W.Frag}{a:Addr}{xs:List V}{g:TG}{tb:TS}{D:Ends}{σ:St}{H:Hp}(Pv:Nat->St->Hp->Prop)(h0:Pv 0 σ H)(hl:∀i σ H,i<=xs.length->Pv i σ H->aA K H a xs)
  (hs:∀i x p σ H,xs[i]?=some x->Pv i σ H->H p=none->g (.ref p) σ (upd H p (.tup [.int (i:Int),x])) λσ2 H2=>tb { D with nx:=Pv (i+1),ct:=Pv (i+1),bk:=D.nx } σ2 H2) (hd:∀σ H,Pv xs.length σ H->D.nx σ H) :
  ∃W:Nat->Nat->St->Hp->Prop,(∃m,W 0 m σ H)/\∀i m σ H,W i m σ H ->
   ((vS K a).stop i H/\D.nx σ H)\/((vS K a).go i H/\∃N:St->Hp->Prop,(∀σ' H',N σ' H'->∃m',m'<m/\W (i+1) m' σ' H')/\∀x H',(vS K a).yld i H x H'->g x σ H' λσ2 H2=>tb { D with nx:=N,ct:=N,bk:=D.nx } σ2 H2):=by
 refine⟨λi m σ H=>m=xs.length-i/\i<=xs.length/\Pv i σ H,⟨xs.length,by simp,yC _,h0⟩,?_⟩
 rintro i m σ H ⟨rfl,hi,p⟩
 have q:=hl i σ H hi p
 by_cases hlt:i<xs.length
 ·refine .inr ⟨⟨xs,xs[i],q,by simp[hlt]⟩,Pv (i+1),λσ' H' p'=>⟨xs.length-(i+1),by lia,rfl,hlt,p'⟩,λx H' y=>?_⟩
  obtain⟨pp,v,rfl,hn,rfl,hv⟩:=y
  exact hs i v pp σ _ (hv xs q) p hn
 ·have e:i=xs.length:=by lia
  subst e
  exact .inl ⟨⟨xs,q,yi _⟩,hd σ H p⟩
end L2
end
section
namespace Uf
open PySem L2 UfSrt UfFin
abbrev oA:Stmt:=top 30
abbrev oR:Stmt:=top 31
abbrev j6:Stmt:=top 32
abbrev fY:Stmt:=top 33
abbrev nZ:Stmt:=top 34
abbrev jP:Stmt:=top 35
abbrev fV:Stmt:=top 36
abbrev lY:Stmt:=top 37
abbrev eS:Stmt:=top 38
abbrev sS:Stmt:=top 39
abbrev ij:Stmt:=top 40
abbrev oU:Stmt:=top 41
structure Txt2(mg:Str->Option Value):Prop where
 rng:mg "range"=none
 enm:mg "enumerate"=none
 any:mg "any"=none
 rev:mg "reversed"=none
 int:mg "int"=none
def wD:bootBuiltins "int"=some (.type "int"):=by decide +kernel
def dz{α:Type}{xs:List α}{i:Int}(d:α)(h0:0<=i)(h1:i<xs.length):gH xs i=some (xs.getD i.toNat d):=by
 unfold gH qu
 rw[yF h0,yF h1]
 show xs[i.toNat]?=_
 have h2:i.toNat<xs.length:=by lia
 rw[yg h2,yl,yg h2]
 rfl
def getD_map{α β:Type}(f:α->β)(xs:List α)(i:Nat)(d:α):(xs.map f).getD i (f d)=f (xs.getD i d):=by
 rw[yl,yR,yl]
 cases xs[i]? <;> rfl
def cH{xs:List Str}{i:Int}(h0:0<=i)(h1:i<xs.length):gH (au xs) i=some (.str (xs.getD i.toNat "")):=by
 rw[dz (V.str "") h0 (by rw[ah];exact h1)]
 unfold au
 rw[getD_map V.str]
def k8{xs:List Int}{i:Int}(h0:0<=i)(h1:i<xs.length):gH (xs.map V.int) i=some (.int (xs.getD i.toNat 0)):=by
 rw[dz (V.int 0) h0 (by rw[yf];exact h1),getD_map V.int]
theorem jC{α β:Type}(f:α->β):∀(l:List α) (k:Nat),(l.map f).eraseIdx k=(l.eraseIdx k).map f
 |[],k=>by simp
 |a::l,0=>by simp
 |a::l,k+1=>by
  show f a::(l.map f).eraseIdx k=f a::(l.eraseIdx k).map f
  rw[jC f l k]
def qT(K:PySem.W.Frag):Sp:=λvs H Q _=>∃(a:Addr) (ns:List Int) (k:Nat),vs=[.ref a,.int k]/\aA K H a (ns.map V.int)/\ns.length<=63/\Q (.int (ns.getD k 0)) H
def vd:az ["_law_script", "_law_k"] ["_law_script", "_law_k"] (av oA):=fo
def sV{f:Addr}{fd:FuncData}(F:dt K "_law_cell_at" "_law_cell_at" oA f fd)(T:Txt K mg):aI P w K mg base cj 1 f fd ["_law_script", "_law_k"] (qT K):=by
 refine F.oK vd λcdv A outer s H vs Q E hr h=>?_
 ·obtain⟨a,ns,k,rfl,ha,hz,kk⟩:=h
  refine⟨_,af (br (aE nQ (pv 1) (ay aU rfl T.len cm (aa (pv 0) ae)) (aZ _)) (ao (aB (aW aJ (pv 0) (pv 1) (λ_ _=>rfl)))) aK)
   (ao (aB aj)),?_⟩
  try dsimp only[bq,Cx.eE,Cx.cM]
  refine⟨_,rfl,_,rfl,_,ns.length,rfl,.inl ⟨_,ha,by rw[yf]⟩,_,_,rfl,rfl,_,rfl,?_⟩
  by_cases h:k<ns.length
  ·rw[yy (show((k:Nat):Int)<((ns.length:Nat):Int) by lia)]
   refine a9 ?_
   refine⟨_,rfl,_,rfl,a,_,_,_,rfl,rfl,ha,k8 (by lia) (by lia),?_⟩
   exact kk
  ·rw[yL (show ¬((k:Nat):Int)<((ns.length:Nat):Int) by lia)]
   refine aQ ?_
   have e:ns.getD k 0=0:=by rw[yl,An (by lia)];rfl
   rw[e]at kk
   exact kk
def rE:Sp:=λvs H Q _=>∃(c:Int) (n:Nat),vs=[.int c,.int n]/\n<=9/\∀H' q,ar H H'->H q=none->H' q=some (.lst (au (iQ c n)))->Q (.ref q) H'
def gF:az ["_law_cell", "_law_many", "_law_stem", "_law_step", "_law_some", "_law_k", "_law_sign"] ["_law_cell", "_law_many"] (av oR):=fo
def sf{f:Addr}{fd:FuncData}(F:dt K "_law_pool" "_law_pool" oR f fd)(T2:Txt2 mg):aI P w K mg base cj 1 f fd ["_law_cell", "_law_many"] rE:=by
 refine F.oK gF λcdv A outer s H vs Q E hr h=>?_
 ·obtain⟨c,n,rfl,hn,kk⟩:=h
  have hsl:=yK
  refine⟨_,af (bV 2 gF (aW aJ (aL (aa ba (aa ba (aa ba (aa ba ae))))) (aw aV (pv 0) aj) (λ_ _=>rfl)))
   (af (bV 3 gF (aW aJ (aL (aa aj (aa aj (aa aj (aa aj (aa aj (aa aj ae))))))) (aw aV (aw aM (pv 0) aj) aj) (λ_ _=>rfl)))
   (af (bV 4 gF (aL ae))
   (af (bG yJ rfl (cZ rfl T2.rng (aa (pv 1) ae)) (fm 5 gF)
    (af (bV 6 gF (aW fJ ba (aw aV (aw bZ (aw nI (pv 5) (pv 3)) (aw aM (pv 0) aj)) aj) (λ_ _=>rfl)))
    (ao (bN (eK yO yS yT bb (pv 4) (aa (aw fB (aw fB (pv 2) (pv 6)) (aw tm ba (aw aV (aw aM (pv 0) aj) aj))) ae))))))
   (ao (aB (pv 4)))))),?_⟩
  try dsimp only[bq,Cx.eE,Cx.cM]
  refine⟨by show 4<=sizeLine;lia,λl1 n1=>?_⟩
  have c1:(0:Int)<=c % 4/\c % 4<4:=by lia
  refine⟨_,rfl,_,_,rfl,rfl,(by show(0:Int)<4;decide),l1,_,_,_,rfl,rfl,aA.of ab,(show gH (au gZ) (c % 4)=_ from cH c1.1 c1.2),?_⟩
  refine⟨by show 6<=sizeLine;lia,λl2 n2=>?_⟩
  have c2:(0:Int)<=c / 4 % 6/\c / 4 % 6<6:=by lia
  refine⟨_,rfl,_,_,rfl,rfl,⟨by decide,by decide⟩,_,_,rfl,rfl,(by show(0:Int)<6;decide),l2,_,_,_,rfl,rfl,aA.of ab,(show gH (fw.map V.int) (c / 4 % 6)=_ from k8 c2.1 c2.2),?_⟩
  refine⟨yC _,λr nr=>?_⟩
  have s1:ar H (upd H l1 (.lst (au gZ))):=ag n1
  have s2:ar H (upd (upd H l1 (.lst (au gZ))) l2 (.lst (fw.map V.int))):=s1.trans (ag n2)
  have nr0:H r=none:=s2.free nr
  have s3:=s2.trans (ag (o:=.lst []) nr)
  refine⟨_,rfl,_,rfl,by lia,by lia,c5 (lo:=0) (n:=((n:Nat):Int).toNat) (λi σ H2=>∃v5 v6,σ=[some (.int c),some (.int n),some (.str (gZ.getD (c % 4).toNat "")),some (.int (fw.getD (c / 4 % 6).toNat 0)),some (.ref r),v5,v6]/\ar H H2/\H2 r=some (.lst (au (iQ c i))))
   ⟨none,none,rfl,s3,ab⟩ ?_ ?_⟩
  ·rintro i σ H2 hi ⟨v5,v6,rfl,sm,hr2⟩
   have hin:i<n:=by lia
   have c3:(0:Int)<=(0+((i:Nat):Int))*fw.getD (c / 4 % 6).toNat 0+c / 24\/True:=Or.inr trivial
   refine⟨_,rfl,_,rfl,_,_,rfl,rfl,.inl ⟨by lia,by lia⟩,_,rfl,_,_,rfl,rfl,⟨by decide,by decide⟩,_,_,rfl,rfl,_,_,rfl,rfl,(by show(0:Int)<9;decide),_,_,_,rfl,rfl,(by show(9:Nat)<=sizeLine;lia),dz 0 (by lia) (by rw[show("qwertyuio":Str).cps.toList.length=9 by decide +kernel];lia),?_⟩
   have ls:=(oH (c % 4).toNat (by lia)).1
   have lx:=jq (c / 216 % 3).toNat (by lia)
   refine⟨_,rfl,.inl ⟨rfl,_,aA.of hr2⟩,_,rfl,_,rfl,_,_,rfl,rfl,(by rw[bP];show _+1<=sizeLine;lia),_,rfl,_,_,rfl,rfl,⟨by decide,by decide⟩,_,_,rfl,rfl,(by show(0:Int)<3;decide),_,_,rfl,rfl,(by lia),(by lia),(by decide),_,_,rfl,rfl,(by rw[bP,bP,dR,lx,List.length_append,List.length_replicate];show _+1+_<=sizeLine;lia),r,_,_,rfl,rfl,hr2,(by rw[ah];unfold iQ;rw[List.length_map,List.length_range];lia),?_⟩
   refine⟨_,_,rfl,ax sm nr0,?_⟩
   rw[ab]
   unfold iQ au
   rw[List.range_succ,yk,yk]
   simp only[yX,BS,gI,Int.zero_add]
   rfl
  ·rintro σ H2 ⟨v5,v6,rfl,sm,hr2⟩
   refine⟨_,rfl,kk H2 r sm nr0 ?_⟩
   rw[hr2,zx]
structure mE(L R:List Str)(many:Int):Prop where
 nd:R.Nodup
 sub:∀x∈R,x∈L
 le:(R.length:Int)<=max many 0
 some:1<=many->L≠[]->R≠[]
def iL(K:PySem.W.Frag):Sp:=λvs H Q _=>∃(a:Addr) (L:List Str) (num many:Int),vs=[.ref a,.int num,.int many]/\aA K H a (au L)/\L.Nodup/\L.length<=200/\∀H' q R,ar H H'->H q=none->H' q=some (.lst (au R))->mE L R many->Q (.ref q) H'
def gm:az ["_law_pool_here", "_law_number", "_law_many", "_law_some", "_law_left"] ["_law_pool_here", "_law_number", "_law_many"] (av fY):=fo
def qd{f:Addr}{fd:FuncData}(F:dt K "_law_choice" "_law_choice" fY f fd)(T:Txt K mg):aI P w K mg base cj 1 f fd ["_law_pool_here", "_law_number", "_law_many"] (iL K):=by
 refine F.oK gm λcdv A outer s H vs Q E hr h=>?_
 ·obtain⟨a,L,num,many,rfl,ha,hnd,hz,kk⟩:=h
  have hsl:=yK
  have hu:_<cLine:=hr.jU
  refine⟨_,af (bV 3 gm (aL ae))
   (af (bV 4 gm (aO bO rfl T.lst eO (aa (pv 0) ae)))
   (af (gy yJ (PW.pt (pw_and (aE nQ (ay aU rfl T.len cm (aa (pv 3) ae)) (pv 2) (aZ _)) (pw_and1 (aE ne_nil (pv 4) (aL ae) (aZ _)))))
    (af (bN (eK yO yS yT bb (pv 3) (aa (eK yO PySem.F.slot_list_pop PySem.F.type_list_pop rJ (pv 4) (aa (aw aV (pv 1) (ay aU rfl T.len cm (aa (pv 4) ae))) ae)) ae)))
    (ao (bV 1 gm (aw aM (pv 1) (aw bZ (ay aU rfl T.len cm (aa (pv 4) ae)) aj))))))
   (ao (aB (pv 3))))),?_⟩
  clear hu
  dsimp only[bq,Cx.eE]
  refine⟨yC _,λr nr=>?_⟩
  have s1:ar H (upd H r (.lst [])):=ag nr
  refine⟨_,rfl,a,au L,rfl,.inl (s1.seq ha),λl nl=>?_⟩
  have s2:=s1.trans (ag (o:=.lst (au L)) nl)
  have nrl:r≠l:=ak ab nl
  have nl0:H l=none:=s1.free nl
  refine⟨λm σ H2=>∃(num:Int) (R Lf:List Str),m=Lf.length/\σ=[some (.ref a),some (.int num),some (.int many),some (.ref r),some (.ref l)]/\ar H H2/\H2 r=some (.lst (au R))/\H2 l=some (.lst (au Lf))/\(R++Lf).Perm L/\(R.length:Int)<=max many 0,
   ⟨_,num,[],L,rfl,rfl,s2,by rw[ai nrl];exact ab,ab,.refl _,by simp;lia⟩,?_⟩
  rintro m σ H2 ⟨num,R,Lf,em,rfl,sm,hr2,hl2,hp,hle⟩
  have hlen:=hp.length_eq
  rw[yp]at hlen
  have hndp:=hp.nodup_iff.mpr hnd
  have fin:(1<=many->L≠[]->R≠[])->Q (.ref r) H2:=λhs=>kk H2 r R sm nr hr2 ⟨(yE.mp hndp).1,λx hx=>hp.mem_iff.mp (yU _ hx),hle,hs⟩
  refine⟨_,rfl,_,R.length,rfl,.inl ⟨_,aA.of hr2,(ah R).symm⟩,_,rfl,_,_,rfl,rfl,_,rfl,?_⟩
  by_cases c1:(R.length:Int)<many
  ·rw[yy c1]
   refine a9 ?_
   refine⟨_,rfl,yC _,λe ne=>?_⟩
   have s3:ar H2 (upd H2 e (.lst [])):=ag ne
   refine⟨l,e,_,rfl,rfl,hr.jU,aA.of (s3 _ _ hl2),aA.of ab,_,rfl,?_⟩
   by_cases c2:Lf=[]
   ·subst c2
    refine aQ ?_
    refine⟨_,rfl,kk _ r R (sm.trans s3) nr (s3 _ _ hr2) ⟨(yE.mp hndp).1,λx hx=>hp.mem_iff.mp (yU _ hx),hle,λ_ hL hR=>hL ?_⟩⟩
    subst hR
    have:=hp.length_eq
    exact zH (by simpa using this.symm)
   ·have pos:0<Lf.length:=Aa.mpr c2
    have e1:(!(au Lf).isEmpty)=true:=by
     cases Lf with
     |nil=>exact absurd rfl c2
     |cons _ _=>rfl
    rw[e1]
    refine a9 ?_
    refine⟨λσ' H'=>∃m',m'<m/\∃(num:Int) (R Lf:List Str),m'=Lf.length/\σ'=[some (.ref a),some (.int num),some (.int many),some (.ref r),some (.ref l)]/\ar H H'/\H' r=some (.lst (au R))/\H' l=some (.lst (au Lf))/\(R++Lf).Perm L/\(R.length:Int)<=max many 0,
     λσ' H' h=>h,?_⟩
    have hr3:=s3 _ _ hr2
    have hl3:=s3 _ _ hl2
    have sm3:=sm.trans s3
    generalize upd H2 e (.lst [])=H3 at s3 hr3 hl3 sm3 ⊢
    have i0:0<=num % (Lf.length:Int):=Ah _ (by lia)
    have i1:num % (Lf.length:Int)<(Lf.length:Int):=zN _ (by lia)
    have i2:(num % (Lf.length:Int)).toNat<Lf.length:=by lia
    have eg:(au Lf)[(num % (Lf.length:Int)).toNat]?=some (V.str (Lf[(num % (Lf.length:Int)).toNat])):=by
     unfold au
     rw[yR,yg i2]
     rfl
    refine⟨_,rfl,.inl ⟨rfl,_,aA.of hr3⟩,_,rfl,.inl ⟨rfl,_,aA.of hl3⟩,_,rfl,_,rfl,_,Lf.length,rfl,.inl ⟨_,aA.of hl3,(ah Lf).symm⟩,_,_,rfl,rfl,(by lia),l,_,_,_,_,rfl,rfl,hl3,(by lia),(by lia),(by rw[ah];exact seqIndex_of i0 i1),eg,?_⟩
    refine⟨r,au R,_,rfl,rfl,(by rw[ai nrl];exact hr3),(by rw[ah];lia),?_⟩
    have hl4:(upd (upd H3 l (.lst ((au Lf).eraseIdx (num % (Lf.length:Int)).toNat))) r (.lst (au R++[V.str (Lf[(num % (Lf.length:Int)).toNat])]))) l=some (.lst (au (Lf.eraseIdx (num % (Lf.length:Int)).toNat))):=by
     rw[ai nrl.symm,ab]
     unfold au
     rw[jC]
    have ll:(Lf.eraseIdx (num % (Lf.length:Int)).toNat).length=Lf.length-1:=by rw[AX,yF i2]
    refine⟨_,rfl,_,rfl,_,_,rfl,.inl ⟨_,aA.of hl4,(ah _).symm⟩,_,_,rfl,rfl,_,_,rfl,rfl,⟨by lia,by rw[ll];lia⟩,?_⟩
    refine⟨Lf.length-1,by lia,_,R++[Lf[(num % (Lf.length:Int)).toNat]],Lf.eraseIdx (num % (Lf.length:Int)).toNat,ll.symm,rfl,ax (ax sm3 nl0) nr,?_,hl4,?_,?_⟩
    ·rw[ab]
     unfold au
     rw[yk]
     rfl
    ·rw[zT]
     exact((UfSet.eJ Lf _ i2).append_left R).trans hp
    ·rw[yp]
     simp
     lia
  ·rw[yL c1]
   refine aQ ?_
   refine aQ ?_
   refine⟨_,rfl,fin λh1 _ hR=>?_⟩
   subst hR
   simp at c1
   lia
end Uf
end
section
namespace Uf
open PySem L2 UfSrt
abbrev iO:Stmt:=top 5
abbrev gu:Stmt:=top 6
abbrev ic:Stmt:=top 7
abbrev sC:Stmt:=top 8
abbrev gj:Stmt:=top 9
abbrev kC:Stmt:=top 10
abbrev kg:Stmt:=top 11
abbrev kA:Stmt:=top 12
abbrev dS:Stmt:=top 13
def bh(tk s:List Str):Bool:=tk.any λx=>!decide (x∈s)
def second(tk gv s:List Str):Bool:=gv.any λx=>decide (x∈s) && !decide (x∈tk)
def behind(tk gv s:List Str):List Str:=aD ((s.filter λx=>!decide (x∈tk))++gv)
def kK{xs ys:List Str}(p:xs.Perm ys)(f:Str->Bool):xs.any f=ys.any f:=by
 rw[Ad,Ap,Ap]
 exact⟨λ⟨x,h,e⟩=>⟨x,p.mem_iff.mp h,e⟩,λ⟨x,h,e⟩=>⟨x,p.mem_iff.mpr h,e⟩⟩
def pC(tk s:List Str):bh (aD tk) s=bh tk s:=kK (cK tk) _
def nC(tk gv s:List Str):second (aD tk) (aD gv) s=second tk gv s:=by
 unfold second
 rw[kK (cK gv)]
 congr 1
 funext x
 rw[Ar.mpr (cV (xs:=tk) (x:=x))]
def nv(tk gv s:List Str):behind (aD tk) (aD gv) s=behind tk gv s:=by
 unfold behind
 refine pz ?_
 have e:(s.filter λx=>!decide (x∈aD tk))=s.filter λx=>!decide (x∈tk):=by
  congr 1
  funext x
  rw[Ar.mpr (cV (xs:=tk) (x:=x))]
 rw[e]
 exact(cK gv).append_left _
def bH(xs:List Str):(au xs).all fS=true:=by
 unfold au
 rw[AY,z0]
 intro x _
 rfl
def dh(x:Str)(xs:List Str):o7 (.str x) (au xs)=decide (x∈xs):=by
 unfold o7 au
 rw[Bm,Ad,Ap,AN]
 constructor
 ·rintro⟨y,hy,e⟩
  have e':qe (.str y) (.str x)=true:=e
  have:y=x:=by simpa[qe] using e'
  rw[<-this]
  exact hy
 ·intro h
  exact⟨x,h,by show qe (.str x) (.str x)=true;simp[qe]⟩
def gM(K:PySem.W.Frag)(C:Addr)(g:Mv->List Str->Bool):Sp:=λvs H Q _=>∃(p a:Addr) (ms:List Mv) (st s:List Str) (m:Mv),vs=[.ref p,.ref a,.str m.1]/\cz C H p ms st/\m∈ms/\cY K H a (au s)/\s.length<=200/\∀H',ar H H'->Q (.bl (g m s)) H'
def cO{K:PySem.W.Frag}{H H':Hp}{a:Addr}{xs:List V}(e:ar H H')(h:cY K H a xs):cY K H' a xs:=by
 rcases h with(h|⟨o,h⟩)|h
 ·exact .inl (.inl (e _ _ h))
 ·exact .inl (.inr ⟨o,e _ _ h⟩)
 ·exact .inr h
def rT:(("takes":Str) == "place_names")=false:=by decide +kernel
def rC:(("takes":Str) == "start_state")=false:=by decide +kernel
def qY:(("takes":Str) == "taken_by")=false:=by decide +kernel
def rB:(("takes":Str) == "given_by")=false:=by decide +kernel
def t6:(("gives":Str) == "place_names")=false:=by decide +kernel
def uo:(("gives":Str) == "start_state")=false:=by decide +kernel
def uF:(("gives":Str) == "taken_by")=false:=by decide +kernel
def uy:(("gives":Str) == "given_by")=false:=by decide +kernel
def oE:az ["net", "state", "move"] ["net", "state", "move"] (av iO):=fo
def qw{f C:Addr}{fd:FuncData}(F:dt K "lacks_bead" "lacks_bead" iO f fd)(T:Txt K mg)(hany:mg "any"=none)(CT:fW K C)(DT:ue P w K mg base C "takes" "Net.takes" gK ["self", "move"] 3 (iP C (·.2.1))) :
  aI P w K mg base cj 4 f fd ["net", "state", "move"] (gM K C λm s=>bh m.2.1 s):=by
 refine F.oK oE λcdv A outer s H vs Q E hr h=>?_
 ·obtain⟨p,a,ms,st,s',m,rfl,N,hm,ha,hz,k⟩:=h
  refine⟨_,ao (aB (ay (kP rfl) rfl hany uE (aa (bD (N:=["place", "state"]) (n:=1) (ci:=[1]) rfl (bc (ez (pv 0) CT.cl DT.d.mt DT.g hr DT.d.bd .nil bE (aa (pv 2) ae)))
    (mn oE)
    (λz=>⟨kD 0,dB,dJ bf (pv 0) (pv 1) (by with_unfolding_all rfl)⟩)) ae))),?_⟩
  try dsimp only[bq,Cx.eE,Cx.cM]
  obtain⟨dx,aP,aS,aT,aG,kT,kG,h1,_⟩:=N.at'.ob
  obtain⟨_,_,_,tk4,gv4⟩:=cF (N.so.mv m hm)
  refine⟨_,rfl,p,dx,_,rfl,h1,da _ _ _ _ rT rC qY rB,_,rfl,p,ms,st,m,rfl,N,hm,λH1 q s1 nq hq=>?_⟩
  refine⟨q,rfl,⟨_,aA.of hq⟩,λz D hD=>bC (a:=q) (xs:=au (aD m.2.1)) (λi ys H2=>ys=((aD m.2.1).take i).map (λx=>V.bl (!decide (x∈s')))/\H2 D=some (.lst ys)/\ar H1 H2) ⟨rfl,ab,ag hD⟩ (λi ys H2 _ p=>aA.of (p.2.2 _ _ hq)) ?_ ?_⟩
  ·rintro i v ys H2 hi ⟨rfl,hys,sm⟩
   obtain⟨x,hx,rfl⟩:=bL hi
   refine⟨_,rfl,_,rfl,a,au s',rfl,.inr (cO (s1.trans sm) ha),rfl,bH s',hys,?_,?_,ab,ax sm hD⟩
   ·rw[yf,yB,dH,y8]
    lia
   ·rw[aq hx,yk,dh]
    rfl
  ·rintro ys H2 ⟨rfl,hys,sm⟩
   rw[ah,yH]at hys
   refine⟨D,(aD m.2.1).map λx=>!decide (x∈s'),rfl,aA.of (by rw[hys,AI];rfl),?_⟩
   have e:bh m.2.1 s'=((aD m.2.1).map λx=>!decide (x∈s')).any id:=by
    rw[<-pC,Bm]
    rfl
   rw[<-e]
   exact k H2 (s1.trans sm)
def iM:az ["net", "state", "move", "taken"] ["net", "state", "move"] (av gu):=fo
def oS{f C:Addr}{fd:FuncData}(F:dt K "gives_second" "gives_second" gu f fd)(T:Txt K mg)(hany:mg "any"=none)(CT:fW K C)(DT:ue P w K mg base C "takes" "Net.takes" gK ["self", "move"] 3 (iP C (·.2.1)))
  (DG:ue P w K mg base C "gives" "Net.gives" ix ["self", "move"] 3 (iP C (·.2.2))) :
  aI P w K mg base cj 4 f fd ["net", "state", "move"] (gM K C λm s=>second m.2.1 m.2.2 s):=by
 refine F.oK iM λcdv A outer s H vs Q E hr h=>?_
 ·obtain⟨p,a,ms,st,s',m,rfl,N,hm,ha,hz,k⟩:=h
  refine⟨_,af (bV 3 iM (ez (pv 0) CT.cl DT.d.mt DT.g hr DT.d.bd .nil bE (aa (pv 2) ae)))
   (ao (aB (ay (kP rfl) rfl hany uE (aa (bD (N:=["place", "state", "taken"]) (n:=1) (ci:=[1,3]) rfl (bc (ez (pv 0) CT.cl DG.d.mt DG.g hr DG.d.bd .nil bE (aa (pv 2) ae)))
    (mn iM)
    (λz=>⟨kD 0,dB,ke (dJ gS (pv 0) (pv 1) (by with_unfolding_all rfl)) (jS (dJ bf (pv 0) (pv 2) (by with_unfolding_all rfl)))⟩)) ae)))),?_⟩
  try dsimp only[bq,Cx.eE,Cx.cM]
  obtain⟨dx,aP,aS,aT,aG,kT,kG,h1,_⟩:=N.at'.ob
  obtain⟨_,_,_,tk4,gv4⟩:=cF (N.so.mv m hm)
  refine⟨_,rfl,p,dx,_,rfl,h1,da _ _ _ _ rT rC qY rB,_,rfl,p,ms,st,m,rfl,N,hm,λH1 q s1 nq hq=>?_⟩
  refine⟨_,rfl,p,dx,_,rfl,s1 _ _ h1,da _ _ _ _ t6 uo uF uy,_,rfl,p,ms,st,m,rfl,N.same s1,hm,λH2 q2 s2 nq2 hq2=>?_⟩
  refine⟨q2,rfl,⟨_,aA.of hq2⟩,λz D hD=>bC (a:=q2) (xs:=au (aD m.2.2)) (λi ys H3=>ys=((aD m.2.2).take i).map (λx=>V.bl (decide (x∈s') && !decide (x∈aD m.2.1)))/\H3 D=some (.lst ys)/\ar H2 H3) ⟨rfl,ab,ag hD⟩ (λi ys H3 _ p=>aA.of (p.2.2 _ _ hq2)) ?_ ?_⟩
  ·rintro i v ys H3 hi ⟨rfl,hys,sm⟩
   obtain⟨x,hx,rfl⟩:=bL hi
   have hlen:(((aD m.2.2).take i).map (λx=>V.bl (decide (x∈s') && !decide (x∈aD m.2.1)))).length<sizeLine:=by
    rw[yf,yB,dH,y8]
    lia
   refine⟨_,rfl,_,rfl,a,au s',rfl,.inr (cO (s1.trans (s2.trans sm)) ha),rfl,bH s',_,rfl,?_⟩
   show if o7 (V.str x) (au s')=true then _ else _
   rw[dh]
   cases c1:decide (x∈s') with
   |false =>
    refine aQ ⟨hys,hlen,?_,ab,ax sm hD⟩
    rw[aq hx,yk]
    simp[c1]
   |true =>
    refine a9 ⟨_,rfl,_,rfl,q,au (aD m.2.1),rfl,.inl (aA.of (sm _ _ (s2 _ _ hq))),rfl,bH _,hys,hlen,?_,ab,ax sm hD⟩
    rw[aq hx,yk,dh]
    simp[c1]
  ·rintro ys H3 ⟨rfl,hys,sm⟩
   rw[ah,yH]at hys
   refine⟨D,(aD m.2.2).map λx=>decide (x∈s') && !decide (x∈aD m.2.1),rfl,aA.of (by rw[hys,AI];rfl),?_⟩
   have e:second m.2.1 m.2.2 s'=((aD m.2.2).map λx=>decide (x∈s') && !decide (x∈aD m.2.1)).any id:=by
    rw[<-nC,Bm]
    rfl
   rw[<-e]
   exact k H3 (s1.trans (s2.trans sm))
end Uf
end
section
namespace Uf
open PySem L2 UfSrt UfFin
def sg(c:Nat):Str:=⟨#[c]⟩
def j5{a b:Nat}(h:sg a=sg b):a=b:=by
 have:=zw (λx:Str=>x.cps.toList) h
 simpa[sg] using this
def n8{c:Nat}(h:c∈dI.cps.toList):isNm (sg c)=true:=by
 rw[cb]at h
 obtain⟨k,hk,rfl⟩:=yx.mp h
 have:=Aj.mp hk
 refine qV (by simp[sg]) (by simp[sg]) λd hd=>?_
 have e:d=k+97:=by simpa[sg] using hd
 lia
def hW{L:List Str}(h:L.length<26):dI.cps.toList.filter (λc=>!decide (sg c∈L))≠[]:=λe=>by
 have all:∀x∈dI.cps.toList.map sg,x∈L:=λx hx=>by
  obtain⟨c,hc,rfl⟩:=yx.mp hx
  have:=List.filter_eq_nil_iff.mp e c hc
  simpa using this
 have nd:(dI.cps.toList.map sg).Nodup:=by
  rw[cb,List.Nodup,AM,AM]
  exact(List.nodup_range).imp λ{a b} hab z=>hab (by have:=j5 z;lia)
 have:=dk nd all
 rw[cb]at this
 simp at this
 lia
def oz:Sp:=λvs H Q _=>∃(c:Int) (n:Nat),vs=[.int c,.int n]/\n<=9/\∀H' q L,ar H H'->H q=none->H' q=some (.lst (au L))->unlike L=true->L.length=n->Q (.ref q) H'
def bM:az ["_law_cell", "_law_many", "_law_letters", "_law_found", "_law_k", "_law_word_here", "_law_long", "_law_j"] ["_law_cell", "_law_many"] (av j6):=fo
def qQ{f:Addr}{fd:FuncData}(F:dt K "_law_named" "_law_named" j6 f fd)(T2:Txt2 mg)(DP:h9 P w K mg base "_law_pool" oR ["_law_cell", "_law_many"] 1 rE):aI P w K mg base cj 2 f fd ["_law_cell", "_law_many"] oz:=by
 refine F.oK bM λcdv A outer s H vs Q E hr h=>?_
 ·obtain⟨c,n,rfl,hn,kk⟩:=h
  have hsl:=yK
  refine⟨_,af (br (aE ft (aw aV (pv 0) aj) aj (aZ _)) (ao (aB (eM DP hr (aa (aw aM (pv 0) aj) (aa (pv 1) ae))))) aK)
   (af (bV 2 bM ba)
   (af (bV 0 bM (aw aM (pv 0) aj))
   (af (bV 3 bM (aL ae))
   (af (bG yJ rfl (cZ rfl T2.rng (aa (pv 1) ae)) (fm 4 bM)
    (af (bV 5 bM ba)
    (af (bV 6 bM (aw bZ aj (aw aV (pv 0) aj)))
    (af (bV 0 bM (aw aM (pv 0) aj))
    (af (bG yJ rfl (cZ rfl T2.rng (aa (pv 6) ae)) (fm 7 bM)
     (af (bV 5 bM (aw fB (pv 5) (aW fJ (pv 2) (aw aV (pv 0) aj) (λ_ _=>rfl))))
     (ao (bV 0 bM (aw aM (pv 0) aj)))))
    (af (br (aE gS (pv 5) (pv 3) (by with_unfolding_all rfl))
     (ao (bV 5 bM (aW aJ (bD (N:=["_law_sign", "_law_found"]) (n:=1) (ci:=[3]) rfl (mD (pv 2))
      (mn bM)
      (λz=>⟨kD 0,dA (aE bf (pv 0) (pv 1) (by with_unfolding_all rfl)),pv 0⟩)) aj (λ_ _=>rfl)))) aK)
    (ao (bN (eK yO yS yT bb (pv 3) (aa (pv 5) ae))))))))))
   (ao (aB (pv 3))))))),?_⟩
  try dsimp only[bq,Cx.eE,Cx.cM]
  refine⟨_,rfl,_,_,rfl,rfl,(by show(0:Int)<2;decide),rfl,_,rfl,?_⟩
  refine mZ (λ_=>?_) (λ_=>?_)
  ·refine⟨_,rfl,_,_,rfl,rfl,⟨by decide,by decide⟩,_,rfl,_,n,rfl,hn,λH' q sm nq hq=>?_⟩
   exact kk H' q _ sm nq hq (lI _ hn) (by unfold iQ;simp)
  ·refine⟨_,rfl,_,_,rfl,rfl,⟨by decide,by decide⟩,yC _,λr nr=>?_⟩
   refine⟨_,rfl,_,rfl,by lia,by lia,c5 (lo:=0) (n:=((n:Nat):Int).toNat) (λi σ H2=>∃(c:Int) (L:List Str) (v4 v5 v6 v7:Option V),σ=[some (.int c),some (.int n),some (.str dI),some (.ref r),v4,v5,v6,v7]/\ar H H2/\H2 r=some (.lst (au L))/\L.length=i/\unlike L=true)
    ⟨_,[],none,none,none,none,rfl,ag nr,ab,rfl,rfl⟩ ?_ ?_⟩
   ·rintro i σ H2 hi ⟨c,L,v4,v5,v6,v7,rfl,sm,hr2,hL,hun⟩
    refine⟨_,rfl,_,_,rfl,rfl,(by show(0:Int)<8;decide),_,_,rfl,rfl,_,rfl,_,_,rfl,rfl,⟨by decide,by decide⟩,?_⟩
    refine⟨_,rfl,_,rfl,by lia,by lia,c5 (lo:=0) (n:=(1+c % 8).toNat) (λj σ H3=>∃(c':Int) (x:Str) (v7:Option V),σ=[some (.int c'),some (.int n),some (.str dI),some (.ref r),some (.int (0+(i:Int))),some (.str x),some (.int (1+c % 8)),v7]/\H3=H2/\x.cps.toList.length=j/\oQ x.cps.toList)
     ⟨_, "",_,rfl,rfl,rfl,λd hd=>by rw[show("":Str).cps.toList=[] by decide +kernel]at hd;simp at hd⟩ ?_ ?_⟩
    ·rintro j σ H3 hj ⟨c',x,v7,rfl,rfl,hx1,hx2⟩
     have i1:0<=c' % 26/\c' % 26<26:=by lia
     have la:dI.cps.toList.length=26:=by rw[cb];simp
     have ea:dI.cps.toList.getD (c' % 26).toNat 0=(c' % 26).toNat+97:=by
      rw[cb,yl,yR,List.getElem?_range (by lia)]
      rfl
     refine⟨_,rfl,_,rfl,_,rfl,_,_,rfl,rfl,(by show(0:Int)<26;decide),dI,_,_,rfl,rfl,(by rw[bP,la];lia),dz 0 i1.1 (by rw[la];lia),_,_,rfl,rfl,(by rw[bP,hx1];show _+1<=sizeLine;lia),?_⟩
     refine⟨_,rfl,_,_,rfl,rfl,⟨by decide,by decide⟩,?_⟩
     refine⟨_,_,_,rfl,rfl,?_,?_⟩
     ·rw[dR,yp,hx1]
      simp
     ·rw[dR]
      intro d hd
      rcases yo.mp hd with hd|hd
      ·exact hx2 d hd
      ·have e:d=dI.cps.toList.getD (c' % 26).toNat 0:=by simpa using hd
       rw[e,ea]
       lia
    ·rintro σ H3 ⟨c',x,v7,rfl,rfl,hx1,hx2⟩
     have hnm:isNm x=true:=qV (by lia) (by lia) hx2
     refine⟨_,rfl,_,rfl,r,au L,rfl,.inl (aA.of hr2),rfl,bH L,_,rfl,?_⟩
     show if o7 (V.str x) (au L)=true then _ else _
     rw[dh]
     cases hin:decide (x∈L) with
     |true =>
      refine a9 ?_
      refine⟨_,rfl,dI,rfl,λz D hD=>iK (λi ys H4=>ys=((dI.cps.toList.take i).filter (λc=>!decide (sg c∈L))).map sign/\H4 D=some (.lst ys)/\ar H3 H4) ⟨rfl,ab,ag hD⟩ ?_ ?_⟩
      ·rintro i c0 ys H4 hc ⟨rfl,hys,sm4⟩
       have hc':dI.cps.toList[i]?=some c0:=by rw[yY];exact hc
       have hlen:((((dI.cps.toList.take i).filter (λc=>!decide (sg c∈L))).map sign)).length<sizeLine:=by
        rw[yf]
        have h1:=y9 (λc=>!decide (sg c∈L)) (dI.cps.toList.take i)
        have h2:(dI.cps.toList.take i).length<=26:=by
         rw[yB,cb]
         simp
         lia
        lia
       refine⟨_,rfl,_,rfl,r,au L,rfl,.inl (aA.of (sm4 _ _ hr2)),rfl,bH L,_,rfl,?_⟩
       show if (!o7 (V.str (sg c0)) (au L))=true then _ else _
       rw[dh]
       cases hc1:decide (sg c0∈L) with
       |true =>
        refine aQ ⟨?_,hys,sm4⟩
        rw[aq hc',yN]
        simp[hc1]
       |false =>
        refine a9 ⟨_,rfl,hys,hlen,?_,ab,ax sm4 hD⟩
        rw[aq hc',yN]
        simp[hc1]
      ·rintro ys H4 ⟨rfl,hys,sm4⟩
       have et:dI.cps.toList.take dI.cps.size=dI.cps.toList:=Ai (by simp)
       rw[et]at hys
       have hne:=hW (L:=L) (by lia)
       have hmem:∀d∈dI.cps.toList.filter (λc=>!decide (sg c∈L)),d∈dI.cps.toList/\sg d∉L:=λd hd=>by
        obtain⟨h1,h2⟩:=zm.mp hd
        exact⟨h1,by simpa using h2⟩
       generalize dI.cps.toList.filter (λc=>!decide (sg c∈L))=Fl at hys hne hmem
       cases Fl with
       |nil=>exact absurd rfl hne
       |cons d rest =>
        obtain⟨hd1,hd2⟩:=hmem d yW
        refine⟨D,_,0,_,rfl,rfl,aA.of hys,cG (j:=0) rfl,?_⟩
        refine⟨_,rfl,.inl ⟨rfl,_,aA.of (sm4 _ _ hr2)⟩,_,rfl,r,_,_,rfl,rfl,sm4 _ _ hr2,(by rw[ah];lia),?_⟩
        refine⟨c',L++[sg d],_,_,_,_,rfl,ax (sm.trans sm4) nr,?_,by simp[hL],hU hun (n8 hd1) hd2⟩
        rw[ab]
        unfold au
        rw[yk]
        rfl
     |false =>
      refine aQ ?_
      refine⟨_,rfl,.inl ⟨rfl,_,aA.of hr2⟩,_,rfl,r,_,_,rfl,rfl,hr2,(by rw[ah];lia),?_⟩
      refine⟨c',L++[x],_,_,_,_,rfl,ax sm nr,?_,by simp[hL],hU hun hnm (by simpa using hin)⟩
      rw[ab]
      unfold au
      rw[yk]
      rfl
   ·rintro σ H2 ⟨c,L,v4,v5,v6,v7,rfl,sm,hr2,hL,hun⟩
    exact⟨_,rfl,kk H2 r L sm nr hr2 hun (by lia)⟩
def vI(H:Hp)(m:Mv)(v:V):Prop:=∃t l g,v=.ref t/\H t=some (.tup [.ref l,.ref g])/\H l=some (.lst (au m.2.1))/\H g=some (.lst (au m.2.2))
def vI.same{H H':Hp}{m:Mv}{v:V}(s:ar H H')(h:vI H m v):vI H' m v:=by
 obtain⟨t,l,g,h1,h2,h3,h4⟩:=h
 exact⟨t,l,g,h1,s _ _ h2,s _ _ h3,s _ _ h4⟩
abbrev MP(H:Hp):List Mv->List (Key×V)->Prop:=Paired λm kv=>kv.1=Sum.inr m.1/\vI H m kv.2
theorem MP.same{H H':Hp}{ms:List Mv}{kvs:List (Key×V)}(s:ar H H')(h:MP H ms kvs):MP H' ms kvs:=Paired.dy h λ_ _ z=>⟨z.1,z.2.same s⟩
def MP.put{H:Hp}{d:Addr}{o:HO}{kv0:List (Key×V)}{ms:List Mv}{kvs:List (Key×V)}(hd:H d=some (.dK kv0))(h:MP H ms kvs):MP (upd H d o) ms kvs:=Paired.dy h λ_ _ ⟨z,t,l,g,h1,h2,h3,h4⟩ =>
 ⟨z,t,l,g,h1,by rw[ai (aN h2 hd (λz=>nomatch z))];exact h2,by rw[ai (aN h3 hd (λz=>nomatch z))];exact h3,by rw[ai (aN h4 hd (λz=>nomatch z))];exact h4⟩
theorem MP.keys{H:Hp}:∀{ms:List Mv} {kvs:List (Key×V)},MP H ms kvs->kvs.map (·.1)=(names ms).map Sum.inr
 |_,_,.nil=>rfl
 |_,_,.cons h t=>by
  rw[yX,h.1,MP.keys t]
  rfl
theorem MP.none{H:Hp}{ms:List Mv}{kvs:List (Key×V)}{x:Str}(h:MP H ms kvs)(hx:x∉names ms):cL kvs (Sum.inr x:Key)=.none:=by
 cases e:cL kvs (Sum.inr x:Key) with
 |none=>rfl
 |some v =>
  have:=oC e
  rw[h.keys]at this
  obtain⟨y,hy,e2⟩:=yx.mp this
  cases e2
  exact absurd hy hx
theorem MP.get{H:Hp}{m:Mv}:∀{ms:List Mv} {kvs:List (Key×V)},MP H ms kvs->(names ms).Nodup->m∈ms->∃v,cL kvs (Sum.inr m.1:Key)=.some v/\vI H m v
 |_,_,.nil,_,h=>by simp at h
 |m'::ms,_,.cons (b:=kv) h t,hn,hm=>by
  obtain⟨n1,n2⟩:=zp.mp (show(m'.1::names ms).Nodup from hn)
  rcases yr.mp hm with rfl|hm
  ·exact⟨kv.2,c7 h.1,h.2⟩
  ·have ne:¬kv.1=(Sum.inr m.1:Key):=λz=>by
    rw[h.1]at z
    have z2:m'.1=m.1:=by injection z
    exact n1 (by rw[z2];exact yx.mpr ⟨m,hm,rfl⟩)
   rw[cw ne]
   exact MP.get t n2 hm
def bY(H:Hp)(d:Addr)(ms:List Mv):Prop:=∃o kvs,H d=some (.frz o (.dK kvs))/\MP H ms kvs
theorem bY.same{H H':Hp}{d:Addr}{ms:List Mv}(s:ar H H')(h:bY H d ms):bY H' d ms:=by
 obtain⟨o,kvs,h1,h2⟩:=h
 exact⟨o,kvs,s _ _ h1,h2.same s⟩
theorem bY.get{H:Hp}{d:Addr}{ms:List Mv}{m:Mv}(h:bY H d ms)(hn:(names ms).Nodup)(hm:m∈ms):∃v,dW H d (.str m.1) (some v)/\vI H m v:=by
 obtain⟨o,kvs,h1,h2⟩:=h
 obtain⟨v,h3,h4⟩:=h2.get hn hm
 exact⟨v,.inl ⟨kvs,Sum.inr m.1,.inr ⟨o,h1⟩,rfl,h3.symm⟩,h4⟩
def pA{L R G:List Str}{a b:Int}(hL:unlike L=true)(hne:L≠[])(h1:mE L R a)(h2:mE L G b)(ha:1<=a)(ha4:a<=4)(hb4:b<=4):cP R G=true:=by
 have r1:=eF hL h1.nd h1.sub
 have r2:=eF hL h2.nd h2.sub
 have r3:=Aa.mpr (h1.some ha hne)
 have r4:=h1.le
 have r5:=h2.le
 unfold cP
 rw[r1,r2,yy (show 1<=R.length by lia),yy (show R.length<=4 by lia),yy (show G.length<=4 by lia)]
 rfl
structure gU(ps:List Str)(ms:List Mv)(ns:List Str):Prop where
 nm:names ms=ns
 mv:∀m∈ms,cP m.2.1 m.2.2=true
 sub:∀m∈ms,∀x,x∈m.2.1\/x∈m.2.2->x∈ps
def wV:(10:Int) ^ (15:Int).toNat=1000000000000000:=by decide
def rW(K:PySem.W.Frag):Sp:=λvs H Q _=>∃(a b c:Addr) (cs:List Int) (L nms:List Str),vs=[.ref a,.ref b,.ref c]/\aA K H a (cs.map V.int)/\aA K H b (au L)/\aA K H c (au nms)/\cs.length<=nms.length/\nms.length<=12/\unlike nms=true/\unlike L=true/\L≠[]/\L.length<=12 /\
 ∀H' d ms,ar H H'->H d=none->bY H' d ms->gU L ms (nms.take cs.length)->Q (.ref d) H'
def gR:az ["_law_cells", "_law_pool_here", "_law_names", "_law_moves", "_law_k", "_law_cell", "_law_number", "_law_takes"] ["_law_cells", "_law_pool_here", "_law_names"] (av nZ):=fo
inductive xp(H:Hp)(a b c d:Addr)(L nms:List Str)(i:Nat)(σ:St)(H2:Hp):Prop
 |mk (v4 v5 v6 v7:Option V) (kvs:List (Key×V)) (ms:List Mv) (q0:σ=[some (.ref a),some (.ref b),some (.ref c),some (.ref d),v4,v5,v6,v7]) (q1:ar H H2) (q2:H2 d=some (.dK kvs)) (q3:MP H2 ms kvs) (q4:gU L ms (nms.take i))
def xp.same{H:Hp}{a b c d:Addr}{L nms:List Str}{i:Nat}{σ:St}{H2:Hp}(h:xp H a b c d L nms i σ H2):ar H H2:=by
 cases h
 assumption
def sM{f:Addr}{fd:FuncData}(F:dt K "_law_free" "_law_free" nZ f fd)(T2:Txt2 mg)(DC:h9 P w K mg base "_law_choice" fY ["_law_pool_here", "_law_number", "_law_many"] 1 (iL K)) :
  aI P w K mg base cj 2 f fd ["_law_cells", "_law_pool_here", "_law_names"] (rW K):=by
 refine F.oK gR λcdv A outer s H vs Q E hr h=>?_
 ·obtain⟨a,b,c,cs,L,nms,rfl,ha,hb,hc,hcn,hn12,hun,huL,hLne,hL12,kk⟩:=h
  have hsl:=yK
  have hu:=df hr
  refine⟨_,af (bV 3 gR eX)
   (af (bG yJ rfl (j7 rfl T2.enm (aa (pv 0) ae)) (dP rfl (aF (fm 4 gR) (aF (fm 5 gR) cI)))
    (af (bV 6 gR (aw aV (aw nI (pv 5) aj) (aw qD aj aj)))
    (af (bV 7 gR (eM DC hr (aa (pv 1) (aa (aw aM (pv 6) aj) (aa (aw bZ aj (aw aV (pv 6) aj)) ae)))))
    (ao (eo hu (pv 3) (aW aJ (pv 2) (pv 4) (λ_ _=>rfl)) (eN (aa (pv 7) (aa (eM DC hr (aa (pv 1) (aa (aw aM (aw aM (pv 6) aj) aj) (aa (aw aV (aw aM (pv 6) aj) aj) ae)))) ae))) rfl)))))
   (ao (aB (mR (pv 3))))),?_⟩
  clear hu
  dsimp only[bq,Cx.eE]
  intro d nd
  have sd:ar H (upd H d (.dK [])):=ag nd
  have ndu:=a5 huL
  have nna:aA K (upd H d (.dK [])) a (cs.map V.int):=sd.seq ha
  refine⟨_,rfl,a,rfl,⟨_,nna⟩,iU (K:=K) (a:=a) (xs:=cs.map V.int) (xp H a b c d L nms)
   ⟨none,none,none,none,[],[],rfl,sd,ab,.nil,⟨rfl,λm hm=>by simp at hm,λm hm=>by simp at hm⟩⟩ (λi σ H2 _ h=>h.same.seq ha) ?_ ?_⟩
  ·rintro i v p σ H2 hi ⟨v4,v5,v6,v7,kvs,ms,rfl,sm,hd2,mp,mo⟩ np
   have hil:i<cs.length:=by
    have:=(yz.mp hi).1
    rwa[yf]at this
   obtain⟨ce,rfl⟩:∃z,v=V.int z:=by
    rw[yR]at hi
    cases e:cs[i]? with
    |none=>rw[e]at hi;cases hi
    |some z=>rw[e]at hi;exact⟨z,(yV hi).symm⟩
   have sp:ar H2 (upd H2 p (.tup [.int (i:Int),.int ce])):=ag np
   refine⟨p,_,rfl,cY.of ab,rfl,_,_,rfl,_,_,rfl,rfl,?_⟩
   have smp:=sm.trans sp
   have hdp:=sp _ _ hd2
   have mpp:=mp.same sp
   generalize upd H2 p (.tup [.int (i:Int),.int ce])=H3 at sp smp hdp mpp ⊢
   refine⟨_,rfl,_,_,rfl,rfl,.inr ⟨by decide,by decide⟩,_,_,rfl,rfl,⟨by decide,by decide,by decide⟩,_,_,rfl,rfl,(by rw[wV];show(0:Int)<1000000000000000;decide),?_⟩
   rw[wV]
   generalize ce*381966011250107 % 1000000000000000=num
   refine⟨_,rfl,_,rfl,_,_,rfl,rfl,⟨by decide,by decide⟩,_,rfl,_,_,rfl,rfl,(by show(0:Int)<4;decide),_,_,rfl,rfl,b,L,_,_,rfl,smp.seq hb,ndu,by lia,λH4 q4 R s4 nq4 hq4 ch4=>?_⟩
   refine⟨_,rfl,_,rfl,_,rfl,_,_,rfl,rfl,⟨by decide,by decide⟩,_,_,rfl,rfl,⟨by decide,by decide⟩,_,rfl,_,_,rfl,rfl,⟨by decide,by decide⟩,_,_,rfl,rfl,(by show(0:Int)<5;decide),b,L,_,_,rfl,(smp.trans s4).seq hb,ndu,by lia,λH5 q5 G s5 nq5 hq5 ch5=>⟨by show 2<=sizeLine;lia,λt nt=>?_⟩⟩
   have st:ar H5 (upd H5 t (.tup [.ref q4,.ref q5])):=ag nt
   have ht:(upd H5 t (.tup [.ref q4,.ref q5])) t=some (.tup [.ref q4,.ref q5]):=ab
   have sA:=s4.trans (s5.trans st)
   have smA:=smp.trans sA
   have hdA:=sA _ _ hdp
   have mpA:=mpp.same sA
   have hq4A:=(s5.trans st) _ _ hq4
   have hq5A:=st _ _ hq5
   generalize upd H5 t (.tup [.ref q4,.ref q5])=H6 at st ht sA smA hdA mpA hq4A hq5A ⊢
   have hin:i<nms.length:=by lia
   refine⟨_,rfl,_,rfl,_,rfl,c,_,_,_,rfl,rfl,smA.seq hc,cH (by lia) (by lia),d,_,rfl,gQ.k (k:=Sum.inr (nms.getD ((i:Nat):Int).toNat "")) hdA (dY ?_),?_⟩
   ·have h1:=yG mp
    have h2:=zw List.length mo.nm
    unfold names at h2
    rw[yf,yB]at h2
    lia
   have en:nms.getD ((i:Nat):Int).toNat ""=nms[i]:=by rw[zx,yl,yg hin];rfl
   rw[en]
   have etk:nms.take (i+1)=nms.take i++[nms[i]]:=aq (yg hin)
   have hnew:nms[i]∉names ms:=λz=>by
    rw[mo.nm]at z
    have nd:=a5 hun
    rw[<-ze (i+1) nms,etk]at nd
    have:=(yE.mp (yE.mp nd).1).2.2 _ z nms[i] (by simp)
    exact this rfl
   have pk:putK kvs (Sum.inr nms[i]:Key) (V.ref t)=kvs++[(Sum.inr nms[i],V.ref t)]:=dc _ (mpA.none hnew)
   rw[pk]
   refine⟨_,_,_,_,_,ms++[(nms[i],R,G)],rfl,ax smA nd,ab,?_,?_⟩
   ·refine zu (mpA.put hdA) ⟨rfl,t,q4,q5,rfl,?_,?_,?_⟩
    ·rw[ai (aN ht hdA (λz=>nomatch z))];exact ht
    ·rw[ai (aN hq4A hdA (λz=>nomatch z))];exact hq4A
    ·rw[ai (aN hq5A hdA (λz=>nomatch z))];exact hq5A
   ·refine⟨?_,λm hm=>?_,λm hm x hx=>?_⟩
    ·unfold names
     rw[yk]
     show names ms++[nms[i]]=_
     rw[mo.nm,etk]
    ·rcases yo.mp hm with z|z
     ·exact mo.mv m z
     ·have e:m=(nms[i],R,G):=by simpa using z
      subst e
      exact pA huL hLne ch4 ch5 (by lia) (by lia) (by lia)
    ·rcases yo.mp hm with z|z
     ·exact mo.sub m z x hx
     ·have e:m=(nms[i],R,G):=by simpa using z
      subst e
      rcases hx with hx|hx
      ·exact ch4.sub x hx
      ·exact ch5.sub x hx
  ·rintro σ H2 ⟨v4,v5,v6,v7,kvs,ms,rfl,sm,hd2,mp,mo⟩
   rw[yf]at mo
   refine⟨_,rfl,d,kvs,rfl,hd2,λo=>?_⟩
   exact kk _ d ms (ax sm nd) nd ⟨o,kvs,ab,mp.put hd2⟩ mo
end Uf
end
section
namespace Uf
open PySem L2 UfSrt
def rL(ms:List Mv)(x:Str):List Str:=((ms.find? λm=>decide (m.1=x)).map (·.2.1)).getD []
def sQ(ms:List Mv)(x:Str):List Str:=((ms.find? λm=>decide (m.1=x)).map (·.2.2)).getD []
theorem find_name:∀{ms:List Mv} {m:Mv},(names ms).Nodup->m∈ms->(ms.find? λn=>decide (n.1=m.1))=some m
 |[],_,_,h=>by simp at h
 |n::ms,m,hn,h=>by
  obtain⟨n1,n2⟩:=zp.mp (show(n.1::names ms).Nodup from hn)
  rcases yr.mp h with rfl|h
  ·simp
  ·have ne:¬n.1=m.1:=λz=>n1 (by rw[z];exact yx.mpr ⟨m,h,rfl⟩)
   rw[zP]
   simp only[ne,decide_false]
   exact find_name n2 h
def cx{ms:List Mv}{m:Mv}(hn:(names ms).Nodup)(h:m∈ms):rL ms m.1=m.2.1:=by unfold rL;rw[find_name hn h];rfl
def cX{ms:List Mv}{m:Mv}(hn:(names ms).Nodup)(h:m∈ms):sQ ms m.1=m.2.2:=by unfold sQ;rw[find_name hn h];rfl
def bT(ms:List Mv)(s:List Str)(x:Str):Bool:=bh (rL ms x) s
def dX(ms:List Mv)(s:List Str)(x:Str):Bool:=second (rL ms x) (sQ ms x) s
def bA(ms:List Mv)(s:List Str)(x:Str):List Str:=behind (rL ms x) (sQ ms x) s
def gi(ms:List Mv)(s:List Str):List Str:=((aD (names ms)).filter λx=>!bT ms s x).filter λx=>!dX ms s x
def bK(ms:List Mv)(s:List Str):Option Str:=(aD (names ms)).find? λx=>!bT ms s x&&dX ms s x
def bW{ms:List Mv}{x:Str}(h:x∈aD (names ms)):∃m∈ms,m.1=x:=by
 obtain⟨m,hm,e⟩:=yx.mp (cV.mp h)
 exact⟨m,hm,e⟩
def kS(K:PySem.W.Frag)(C:Addr):Sp:=λvs H Q _=>∃(p a:Addr) (ms:List Mv) (st s:List Str) (m:Mv),vs=[.ref p,.ref a,.str m.1]/\cz C H p ms st/\m∈ms/\cY K H a (au s)/\s.length<=50 /\
 ∀H' q,ar H H'->H q=none->H' q=some (.tup (au (behind m.2.1 m.2.2 s)))->Q (.ref q) H'
def fT:az ["net", "state", "move", "taken", "left"] ["net", "state", "move"] (av ic):=fo
def ph{f C:Addr}{fd:FuncData}(F:dt K "state_behind" "state_behind" ic f fd)(T:Txt K mg)(CT:fW K C)(DT:ue P w K mg base C "takes" "Net.takes" gK ["self", "move"] 3 (iP C (·.2.1)))
  (DG:ue P w K mg base C "gives" "Net.gives" ix ["self", "move"] 3 (iP C (·.2.2))) :
  aI P w K mg base cj 4 f fd ["net", "state", "move"] (kS K C):=by
 refine F.oK fT λcdv A outer s H vs Q E hr h=>?_
 ·obtain⟨p,a,ms,st,s',m,rfl,N,hm,ha,hz,k⟩:=h
  refine⟨_,af (bV 3 fT (ez (pv 0) CT.cl DT.d.mt DT.g hr DT.d.bd .nil bE (aa (pv 2) ae)))
   (af (nR (j:=4) (N:=["place", "taken"]) (n:=1) (ci:=[3]) rfl fT.nd rfl rfl (qf (pv 1))
    (mn fT)
    (λz=>⟨kD 0,dA (aE bf (pv 0) (pv 1) (by with_unfolding_all rfl)),pv 0⟩))
   (ao (aB (aO bj rfl T.tup eI (aa (ay cA rfl T.aD cN (aa (aw cQ (pv 4) (ez (pv 0) CT.cl DG.d.mt DG.g hr DG.d.bd .nil bE (aa (pv 2) ae))) ae)) ae))))),?_⟩
  try dsimp only[bq,Cx.eE,Cx.cM]
  obtain⟨dx,aP,aS,aT,aG,kT,kG,h1,_⟩:=N.at'.ob
  obtain⟨_,_,_,tk4,gv4⟩:=cF (N.so.mv m hm)
  refine⟨_,rfl,p,dx,_,rfl,h1,da _ _ _ _ rT rC qY rB,_,rfl,p,ms,st,m,rfl,N,hm,λH1 q s1 nq hq=>?_⟩
  refine⟨_,rfl,a,rfl,⟨_,cO s1 ha⟩,λz D hD=>lS (a:=a) (xs:=au s') (λi ys H2=>ys=au ((s'.take i).filter λx=>!decide (x∈aD m.2.1))/\H2 D=some (.lst ys)/\ar H1 H2) ⟨rfl,ab,ag hD⟩ (λi ys H2 _ p=>cO (s1.trans p.2.2) ha) ?_ ?_⟩
  ·rintro i v ys H2 hi ⟨rfl,hys,sm⟩
   obtain⟨x,hx,rfl⟩:=bL hi
   have hlen:(au ((s'.take i).filter λx=>!decide (x∈aD m.2.1))).length<sizeLine:=by
    rw[ah,y8]
    have:=y9 (λx=>!decide (x∈aD m.2.1)) (s'.take i)
    rw[yB]at this
    lia
   refine⟨_,rfl,_,rfl,q,au (aD m.2.1),rfl,.inl (aA.of (sm _ _ hq)),rfl,bH _,_,rfl,?_⟩
   show if (!o7 (V.str x) (au (aD m.2.1)))=true then _ else _
   rw[dh]
   cases c1:decide (x∈aD m.2.1) with
   |true =>
    refine aQ ⟨?_,hys,sm⟩
    rw[aq hx,yN]
    simp[c1]
   |false =>
    refine a9 ⟨_,rfl,hys,hlen,?_,ab,ax sm hD⟩
    rw[aq hx,yN]
    unfold au
    simp[c1]
  ·rintro ys H2 ⟨rfl,hys,sm⟩
   rw[ah,yH]at hys
   refine⟨_,rfl,_,rfl,p,dx,_,rfl,(s1.trans sm) _ _ h1,da _ _ _ _ t6 uo uF uy,_,rfl,p,ms,st,m,rfl,N.same (s1.trans sm),hm,λH3 q2 s3 nq2 hq2=>?_⟩
   have lf:(s'.filter λx=>!decide (x∈aD m.2.1)).length<=50:=yI (y9 _ _) hz
   have hsl:=yK
   refine⟨D,q2,_,_,rfl,rfl,s3 _ _ hys,hq2,?_,λq3 nq3=>?_⟩
   ·rw[ah,ah,dH]
    try dsimp only
    lia
   have e1:au (s'.filter λx=>!decide (x∈aD m.2.1))++au (aD m.2.2)=au ((s'.filter λx=>!decide (x∈aD m.2.1))++aD m.2.2):=by unfold au;rw[List.map_append]
   rw[e1]
   refine⟨q3,_,rfl,aA.of ab,?_,λq4 nq4=>⟨q4,_,rfl,.inl ⟨aA.of ab,λq5 nq5=>?_⟩⟩⟩
   ·rw[yp,dH]
    lia
   have s5:=(ag (o:=.lst (au ((s'.filter λx=>!decide (x∈aD m.2.1))++aD m.2.2))) nq3).trans (ag (o:=.lst (au (aD ((s'.filter λx=>!decide (x∈aD m.2.1))++aD m.2.2)))) nq4)
   have sA:ar H H3:=s1.trans (sm.trans s3)
   refine k _ q5 ((sA.trans s5).trans (ag nq5)) ((sA.trans s5).free nq5) ?_
   rw[ab,<-nv]
   rfl
def tY(K:PySem.W.Frag)(C:Addr):Sp:=λvs H Q _=>∃(p a:Addr) (ms:List Mv) (st s:List Str),vs=[.ref p,.ref a]/\cz C H p ms st/\cY K H a (au s)/\s.length<=50 /\
 ∀H' q,ar H H'->H q=none->H' q=some (.lst (au (gi ms s)))->Q (.ref q) H'
def nJ:az ["net", "state", "supplied"] ["net", "state"] (av sC):=fo
def uH:(("moves":Str) == "place_names")=false:=by decide +kernel
def tN:(("moves":Str) == "start_state")=false:=by decide +kernel
def tV:(("moves":Str) == "taken_by")=false:=by decide +kernel
def tS:(("moves":Str) == "given_by")=false:=by decide +kernel
def uW{f C:Addr}{fd:FuncData}(F:dt K "may" "may" sC f fd)(CT:fW K C)(DM:ue P w K mg base C "moves" "Net.moves" lZ ["self"] 1 (mB C))
  (DL:h9 P w K mg base "lacks_bead" iO ["net", "state", "move"] 4 (gM K C λm s=>bh m.2.1 s))
  (DS:h9 P w K mg base "gives_second" gu ["net", "state", "move"] 4 (gM K C λm s=>second m.2.1 m.2.2 s)) :
  aI P w K mg base cj 5 f fd ["net", "state"] (tY K C):=by
 refine F.oK nJ λcdv A outer s H vs Q E hr h=>?_
 ·obtain⟨p,a,ms,st,s',rfl,N,ha,hz,k⟩:=h
  refine⟨_,af (nR (j:=2) (N:=["move", "net", "state"]) (n:=1) (ci:=[0,1]) rfl nJ.nd rfl rfl (bc (gg (pv 0) CT.cl DM.d.mt DM.g (hr.mono (by decide)) DM.d.bd .nil bE))
    (mn nJ)
    (λz=>⟨kD 0,dA (cy (cv (eM DL hr (aa (pv 1) (aa (pv 2) (aa (pv 0) ae)))))),pv 0⟩))
   (ao (aB (bD (N:=["move", "net", "state"]) (n:=1) (ci:=[0,1]) rfl (bc (pv 2))
    (mn nJ)
    (λz=>⟨kD 0,dA (cy (cv (eM DS hr (aa (pv 1) (aa (pv 2) (aa (pv 0) ae)))))),pv 0⟩)))),?_⟩
  try dsimp only[bq,Cx.eE,Cx.cM]
  obtain⟨dx,aP,aS,aT,aG,kT,kG,h1,_⟩:=N.at'.ob
  have l12:(names ms).length<=12:=by unfold names;rw[List.length_map];exact N.so.ml
  have hsl:=yK
  refine⟨_,rfl,p,dx,_,rfl,h1,da _ _ _ _ uH tN tV tS,p,ms,st,rfl,N,λH1 q s1 nq hq=>?_⟩
  refine⟨q,rfl,⟨_,aA.of hq⟩,λz D hD=>bC (a:=q) (xs:=au (aD (names ms))) (λi ys H2=>ys=au (((aD (names ms)).take i).filter λx=>!bT ms s' x)/\H2 D=some (.lst ys)/\ar H1 H2) ⟨rfl,ab,ag hD⟩ (λi ys H2 _ p=>aA.of (p.2.2 _ _ hq)) ?_ ?_⟩
  ·rintro i v ys H2 hi ⟨rfl,hys,sm⟩
   obtain⟨x,hx,rfl⟩:=bL hi
   obtain⟨m,hm,rfl⟩:=bW (yq hx)
   have hlen:(au (((aD (names ms)).take i).filter λx=>!bT ms s' x)).length<sizeLine:=by
    rw[ah,hsl]
    have:=y9 (λx=>!bT ms s' x) ((aD (names ms)).take i)
    rw[yB,dH]at this
    lia
   refine⟨_,rfl,_,rfl,_,rfl,p,a,ms,st,s',m,rfl,N.same (s1.trans sm),hm,cO (s1.trans sm) ha,by lia,λH3 s3=>⟨_,rfl,?_⟩⟩
   have el:bh m.2.1 s'=bT ms s' m.1:=by unfold bT;rw[cx N.so.nd hm]
   show if (!bh m.2.1 s')=true then _ else _
   rw[el]
   cases c1:bT ms s' m.1 with
   |true =>
    refine aQ ⟨?_,s3 _ _ hys,sm.trans s3⟩
    rw[aq hx,yN]
    simp[c1]
   |false =>
    refine a9 ⟨_,rfl,s3 _ _ hys,hlen,?_,ab,ax (sm.trans s3) hD⟩
    rw[aq hx,yN]
    unfold au
    simp[c1]
  ·rintro ys H2 ⟨rfl,hys,sm⟩
   rw[ah,yH]at hys
   generalize hL:(aD (names ms)).filter (λx=>!bT ms s' x)=L at hys
   have LL:L.length<=12:=by
    rw[<-hL]
    have:=y9 (λx=>!bT ms s' x) (aD (names ms))
    rw[dH]at this
    lia
   have Lm:∀x∈L,∃m∈ms,m.1=x:=λx hx=>by
    rw[<-hL]at hx
    exact bW (zm.mp hx).1
   have sA:ar H H2:=s1.trans sm
   refine⟨_,rfl,D,rfl,⟨_,aA.of hys⟩,λz D2 hD2=>bC (a:=D) (xs:=au L) (λi ys H3=>ys=au ((L.take i).filter λx=>!dX ms s' x)/\H3 D2=some (.lst ys)/\ar H2 H3) ⟨rfl,ab,ag hD2⟩ (λi ys H3 _ p=>aA.of (p.2.2 _ _ hys)) ?_ ?_⟩
   ·rintro i v ys H3 hi ⟨rfl,hys3,sm3⟩
    obtain⟨x,hx,rfl⟩:=bL hi
    obtain⟨m,hm,rfl⟩:=Lm x (yq hx)
    have hlen:(au ((L.take i).filter λx=>!dX ms s' x)).length<sizeLine:=by
     rw[ah,hsl]
     have:=y9 (λx=>!dX ms s' x) (L.take i)
     rw[yB]at this
     lia
    refine⟨_,rfl,_,rfl,_,rfl,p,a,ms,st,s',m,rfl,N.same (sA.trans sm3),hm,cO (sA.trans sm3) ha,by lia,λH4 s4=>⟨_,rfl,?_⟩⟩
    have el:second m.2.1 m.2.2 s'=dX ms s' m.1:=by unfold dX;rw[cx N.so.nd hm,cX N.so.nd hm]
    show if (!second m.2.1 m.2.2 s')=true then _ else _
    rw[el]
    cases c1:dX ms s' m.1 with
    |true =>
     refine aQ ⟨?_,s4 _ _ hys3,sm3.trans s4⟩
     rw[aq hx,yN]
     simp[c1]
    |false =>
     refine a9 ⟨_,rfl,s4 _ _ hys3,hlen,?_,ab,ax (sm3.trans s4) hD2⟩
     rw[aq hx,yN]
     unfold au
     simp[c1]
   ·rintro ys H3 ⟨rfl,hys3,sm3⟩
    rw[ah,yH]at hys3
    refine k H3 D2 (sA.trans sm3) (sA.free hD2) ?_
    rw[hys3,<-hL]
    rfl
end Uf
end
section
namespace UfBfs
variable {σ μ:Type}[DecidableEq σ]
structure G(σ μ:Type) where
 may:σ->List μ
 nxt:σ->μ->σ
 bad:σ->Option μ
inductive bx(g:G σ μ)(s:σ):List μ->σ->Prop where
 |nil:bx g s [] s
 |snoc {r:List μ} {t:σ} {m:μ}:bx g s r t->m∈g.may t->bx g s (r++[m]) (g.nxt t m)
def At(g:G σ μ)(s:σ)(k:Nat)(t:σ):Prop:=∃r,r.length=k/\bx g s r t
def At.zero(g:G σ μ)(s:σ):At g s 0 s:=⟨[],rfl,.nil⟩
def At.succ{g:G σ μ}{s t:σ}{k:Nat}{m:μ}(h:At g s k t)(hm:m∈g.may t):At g s (k+1) (g.nxt t m):=by
 obtain⟨r,hl,hr⟩:=h
 exact⟨r++[m],by simp[hl],.snoc hr hm⟩
def At.inv{g:G σ μ}{s t:σ}{k:Nat}(h:At g s (k+1) t):∃u m,At g s k u/\m∈g.may u/\t=g.nxt u m:=by
 obtain⟨r,hl,hr⟩:=h
 cases hr with
 |nil=>simp at hl
 |snoc hr hm=>exact⟨_,_,⟨_,by simpa using hl,hr⟩,hm,rfl⟩
def At.p6{g:G σ μ}{s t:σ}(h:At g s 0 t):t=s:=by
 obtain⟨r,hl,hr⟩:=h
 cases hr with
 |nil=>rfl
 |snoc hr hm=>simp at hl
def Told(g:G σ μ)(s:σ):Option (List μ)->Prop
 |none=>∀k t,At g s k t->g.bad t=none
 |some row=>∃r t m,row=r++[m]/\bx g s r t/\g.bad t=some m/\∀k u,At g s k u->g.bad u≠none->r.length<=k
abbrev bp(σ μ:Type):=List (σ×Option (σ×μ))
def look(w:bp σ μ)(t:σ):Option (Option (σ×μ)):=(w.find? λp=>decide (p.1=t)).map (·.2)
def jk{w:bp σ μ}{t:σ}:look w t=none↔t∉w.map (·.1):=by
 unfold look
 rw[Option.map_eq_none_iff,AJ]
 constructor
 ·intro h hm
  obtain⟨p,hp,e⟩:=yx.mp hm
  exact absurd (yy e) (by simpa using h p hp)
 ·intro h p hp
  simp only[AN]
  intro e
  exact h (yx.mpr ⟨p,hp,e⟩)
def eP{w v:bp σ μ}{t:σ}:look (w++v) t=(look w t).or (look v t):=by
 unfold look
 rw[List.find?_append]
 cases List.find? (λp=>decide (p.1=t)) w <;> simp
def cE{w:bp σ μ}{t u:σ}{x:Option (σ×μ)}{y:Option (σ×μ)}(h:look w t=some y):look (w++[(u,x)]) t=some y:=by
 rw[eP,h];rfl
def fv{w:bp σ μ}{u:σ}{x:Option (σ×μ)}(h:look w u=none):look (w++[(u,x)]) u=some x:=by
 rw[eP,h]
 simp[look]
def eY(g:G σ μ)(t:σ)(acc:bp σ μ×List σ)(m:μ):bp σ μ×List σ :=
 if (look acc.1 (g.nxt t m)).isSome then acc else(acc.1++[(g.nxt t m,some (t,m))],acc.2++[g.nxt t m])
def tryAll(g:G σ μ)(acc:bp σ μ×List σ)(t:σ):bp σ μ×List σ:=(g.may t).foldl (eY g t) acc
def cT(g:G σ μ)(ts:List σ)(w:bp σ μ):bp σ μ×List σ:=ts.foldl (tryAll g) (w,[])
def pairs(g:G σ μ)(ts:List σ):List (σ×μ):=ts.flatMap λt=>(g.may t).map λm=>(t,m)
theorem kX(g:G σ μ):∀(ts:List σ) (acc:bp σ μ×List σ),ts.foldl (tryAll g) acc=(pairs g ts).foldl (λa p=>eY g p.1 a p.2) acc
 |[],acc=>rfl
 |t::ts,acc=>by
  rw[Ag,kX g ts]
  unfold pairs
  rw[List.flatMap_cons,Bb,List.foldl_map]
  rfl
def gN{g:G σ μ}{ts:List σ}{p:σ×μ}:p∈pairs g ts↔p.1∈ts/\p.2∈g.may p.1:=by
 unfold pairs
 rw[Bo]
 constructor
 ·rintro⟨t,ht,hm⟩
  obtain⟨m,hm',rfl⟩:=yx.mp hm
  exact⟨ht,hm'⟩
 ·rintro⟨h1,h2⟩
  exact⟨p.1,h1,yx.mpr ⟨p.2,h2,rfl⟩⟩
structure yc(g:G σ μ)(w0:bp σ μ)(done:List (σ×μ))(w:bp σ μ)(r:List σ):Prop where
 old:∀t x,look w0 t=some x->look w t=some x
 new:∀t∈r,look w0 t=none/\∃p∈done,t=g.nxt p.1 p.2/\look w t=some (some p)
 only:∀t x,look w t=some x->look w0 t=some x\/t∈r
 full:∀p∈done,∃x,look w (g.nxt p.1 p.2)=some x
 keys:w.map (·.1)=w0.map (·.1)++r
 nd:(w0.map (·.1)).Nodup->(w.map (·.1)).Nodup
theorem iV(g:G σ μ)(w0:bp σ μ):∀(ps done:List (σ×μ)) (w:bp σ μ) (r:List σ),yc g w0 done w r ->
  yc g w0 (done++ps) (ps.foldl (λa p=>eY g p.1 a p.2) (w,r)).1 (ps.foldl (λa p=>eY g p.1 a p.2) (w,r)).2
 |[],done,w,r,h=>by simpa using h
 |p::ps,done,w,r,h=>by
  rw[Ag]
  have e:done++p::ps=(done++[p])++ps:=by simp
  rw[e]
  cases hl:look w (g.nxt p.1 p.2) with
  |some x =>
   have e1:eY g p.1 (w,r) p.2=(w,r):=by unfold eY;rw[if_pos (by rw[hl];rfl)]
   rw[e1]
   refine iV g w0 ps (done++[p]) w r ⟨h.old,λt ht=>?_,h.only,λq hq=>?_,h.keys,h.nd⟩
   ·obtain⟨h1,q,hq,h2,h3⟩:=h.new t ht
    exact⟨h1,q,yU _ hq,h2,h3⟩
   ·rcases yo.mp hq with hq|hq
    ·exact h.full q hq
    ·have:q=p:=by simpa using hq
     subst this
     exact⟨x,hl⟩
  |none =>
   have e1:eY g p.1 (w,r) p.2=(w++[(g.nxt p.1 p.2,some p)],r++[g.nxt p.1 p.2]):=by
    unfold eY
    rw[yt (by rw[hl];simp)]
   rw[e1]
   have hw0:look w0 (g.nxt p.1 p.2)=none:=by
    cases q:look w0 (g.nxt p.1 p.2) with
    |none=>rfl
    |some x=>rw[h.old _ _ q]at hl;cases hl
   refine iV g w0 ps (done++[p]) _ _ ⟨λt x q=>cE (h.old t x q),λt ht=>?_,λt x q=>?_,λq hq=>?_,?_,λhn=>?_⟩
   ·rcases yo.mp ht with ht|ht
    ·obtain⟨h1,q,hq,h2,h3⟩:=h.new t ht
     exact⟨h1,q,yU _ hq,h2,cE h3⟩
    ·have:t=g.nxt p.1 p.2:=by simpa using ht
     subst this
     exact⟨hw0,p,by simp,rfl,fv hl⟩
   ·cases q0:look w t with
    |some y =>
     rw[cE q0]at q
     have e2:y=x:=yV q
     subst e2
     rcases h.only t y q0 with z|z
     ·exact .inl z
     ·exact .inr (yU _ z)
    |none =>
     rw[eP,q0]at q
     by_cases ht:g.nxt p.1 p.2=t
     ·exact .inr (by simp[ht])
     ·simp[look,ht]at q
   ·rcases yo.mp hq with hq|hq
    ·obtain⟨x,hx⟩:=h.full q hq
     exact⟨x,cE hx⟩
    ·have:q=p:=by simpa using hq
     subst this
     exact⟨_,fv hl⟩
   ·rw[yk,h.keys]
    simp
   ·rw[yk]
    have hk:=jk.mp hl
    refine yE.mpr ⟨h.nd hn,by simp,λa ha b hb=>?_⟩
    have:b=g.nxt p.1 p.2:=by simpa using hb
    subst this
    rintro rfl
    exact hk ha
def jy(g:G σ μ)(ts:List σ)(w:bp σ μ):yc g w (pairs g ts) (cT g ts w).1 (cT g ts w).2:=by
 have h:=iV g w (pairs g ts) [] w [] ⟨λ_ _ q=>q,λt ht=>by simp at ht,λ_ _ q=>.inl q,λp hp=>by simp at hp,by simp,id⟩
 unfold cT
 rw[kX]
 simpa using h
def cW(g:G σ μ)(s:σ)(k:Nat)(t:σ):Prop:=At g s k t/\∀j,At g s j t->k<=j
def cW.uniq{g:G σ μ}{s t:σ}{k j:Nat}(h:cW g s k t)(h':cW g s j t):k=j:=Nat.le_antisymm (h.2 j h'.1) (h'.2 k h.1)
def At.dist{g:G σ μ}{s t:σ}:∀{k:Nat},At g s k t->∃j,j<=k/\cW g s j t:=by
 intro k
 induction k using Nat.strongRecOn with
 |ind k ih =>
  intro h
  by_cases hm:∀j,At g s j t->k<=j
  ·exact⟨k,yi _,h,hm⟩
  ·have ⟨j,hj⟩:=Classical.not_forall.mp hm
   have ⟨hj1,hj2⟩:=Classical.not_imp.mp hj
   obtain⟨i,hi,hd⟩:=ih j (by lia) hj1
   exact⟨i,by lia,hd⟩
def cW.pred{g:G σ μ}{s t:σ}{k:Nat}(h:cW g s (k+1) t):∃u m,cW g s k u/\m∈g.may u/\t=g.nxt u m:=by
 obtain⟨u,m,hu,hm,e⟩:=h.1.inv
 refine⟨u,m,⟨hu,λj hj=>?_⟩,hm,e⟩
 have:=h.2 (j+1) (by rw[e];exact hj.succ hm)
 lia
structure Good(g:G σ μ)(s:σ)(L:Nat)(w:bp σ μ)(ts:List σ):Prop where
 root:look w s=some none
 way:∀t x,look w t=some x->∃k,k<=L/\cW g s k t/\(match x with|none=>t=s|some (u,m)=>∃j,k=j+1/\cW g s j u/\m∈g.may u/\t=g.nxt u m)
 all:∀k t,k<=L->cW g s k t->∃x,look w t=some x
 ts:∀t,t∈ts↔cW g s L t
 fine:∀k t,k<L->cW g s k t->g.bad t=none
def Good.start(g:G σ μ)(s:σ):Good g s 0 [(s,none)] [s]:=by
 have d0:cW g s 0 s:=⟨At.zero g s,λ_ _=>yC _⟩
 refine⟨by simp[look],λt x h=>?_,λk t hk h=>?_,λt=>?_,λk t hk=>absurd hk (Nat.not_lt_zero _)⟩
 ·by_cases ht:s=t
  ·subst ht
   have:x=none:=by simpa[look] using h.symm
   subst this
   exact⟨0,yi _,d0,rfl⟩
  ·simp[look,ht]at h
 ·have:k=0:=by lia
  subst this
  have:=h.1.p6
  subst this
  exact⟨none,by simp[look]⟩
 ·constructor
  ·intro h
   have:t=s:=by simpa using h
   subst this
   exact d0
  ·intro h
   have:=h.1.p6
   simp[this]
def Good.next{g:G σ μ}{s:σ}{L:Nat}{w:bp σ μ}{ts:List σ}(h:Good g s L w ts)(hb:∀t∈ts,g.bad t=none):Good g s (L+1) (cT g ts w).1 (cT g ts w).2:=by
 have lv:=jy g ts w
 have hnew:∀t∈(cT g ts w).2,cW g s (L+1) t/\∃p:σ×μ,cW g s L p.1/\p.2∈g.may p.1/\t=g.nxt p.1 p.2/\look (cT g ts w).1 t=some (some p):=λt ht=>by
  obtain⟨h0,p,hp,e,hl⟩:=lv.new t ht
  obtain⟨p1,p2⟩:=gN.mp hp
  have dp:=(h.ts p.1).mp p1
  have at1:At g s (L+1) t:=by rw[e];exact dp.1.succ p2
  refine⟨⟨at1,λj hj=>?_⟩,p,dp,p2,e,hl⟩
  obtain⟨i,hi,di⟩:=hj.dist
  by_cases hiL:i<=L
  ·obtain⟨x,hx⟩:=h.all i t hiL di
   rw[h0]at hx
   cases hx
  ·lia
 refine⟨lv.old _ _ h.root,λt x hx=>?_,λk t hk hd=>?_,λt=>⟨λht=>(hnew t ht).1,λhd=>?_⟩,λk t hk hd=>?_⟩
 ·rcases lv.only t x hx with q|q
  ·obtain⟨k,hk,hd,hx⟩:=h.way t x q
   exact⟨k,by lia,hd,hx⟩
  ·obtain⟨hd,p,dp,pm,e,hl⟩:=hnew t q
   rw[hl]at hx
   cases hx
   exact⟨L+1,yi _,hd,L,rfl,dp,pm,e⟩
 ·by_cases hkL:k<=L
  ·obtain⟨x,hx⟩:=h.all k t hkL hd
   exact⟨x,lv.old _ _ hx⟩
  ·have:k=L+1:=by lia
   subst this
   obtain⟨u,m,du,hm,e⟩:=hd.pred
   rw[e]
   exact lv.full (u,m) (gN.mpr ⟨(h.ts u).mpr du,hm⟩)
 ·obtain⟨u,m,du,hm,e⟩:=hd.pred
  obtain⟨x,hx⟩:=lv.full (u,m) (gN.mpr ⟨(h.ts u).mpr du,hm⟩)
  rw[<-e]at hx
  rcases lv.only t x hx with q|q
  ·obtain⟨k,hk,hd',_⟩:=h.way t x q
   have:=hd.uniq hd'
   lia
  ·exact q
 ·by_cases hkL:k<L
  ·exact h.fine k t hkL hd
  ·have:k=L:=by lia
   subst this
   exact hb t ((h.ts t).mpr hd)
theorem Good.none{g:G σ μ}{s:σ}{L:Nat}{w:bp σ μ}(h:Good g s L w []):Told g s (none:Option (List μ)):=by
 have far:∀d k t,k=L+d->¬cW g s k t:=by
  intro d
  induction d with
  |zero =>
   rintro k t rfl hd
   have:=(h.ts t).mpr hd
   simp at this
  |succ d ih =>
   rintro k t rfl hd
   obtain⟨u,_,du,_⟩:=cW.pred (k:=L+d) hd
   exact ih _ u rfl du
 intro k t hk
 obtain⟨j,_,dj⟩:=hk.dist
 by_cases hj:j<L
 ·exact h.fine j t hj dj
 ·exact absurd dj (far (j-L) j t (by lia))
def dC(w:bp σ μ):Nat->σ->List μ
 |0,_=>[]
 |n+1,t=>match look w t with
  |some (some (u,m))=>dC w n u++[m]
  |_=>[]
theorem Good.row{g:G σ μ}{s:σ}{L:Nat}{w:bp σ μ}{ts:List σ}(h:Good g s L w ts):∀(k:Nat) (t:σ),k<=L->cW g s k t->bx g s (dC w k t) t/\(dC w k t).length=k
 |0,t,_,hd=>by
  have:=hd.1.p6
  subst this
  exact⟨.nil,rfl⟩
 |k+1,t,hk,hd=>by
  obtain⟨x,hx⟩:=h.all (k+1) t hk hd
  obtain⟨j,hj,hd',hm⟩:=h.way t x hx
  have e:j=k+1:=hd'.uniq hd
  subst e
  cases x with
  |none =>
   have:t=s:=hm
   subst this
   have:=hd.2 0 (At.zero g t)
   lia
  |some um =>
   obtain⟨u,m⟩:=um
   obtain⟨i,ei,du,hmay,et⟩:=hm
   have:i=k:=by lia
   subst this
   obtain⟨q1,q2⟩:=Good.row h i u (by lia) du
   unfold dC
   rw[hx]
   dsimp only
   refine⟨?_,by simp[q2]⟩
   rw[et]
   exact .snoc q1 hmay
theorem Good.some{g:G σ μ}{s t:σ}{L:Nat}{w:bp σ μ}{ts:List σ}{m:μ}(h:Good g s L w ts)(ht:t∈ts)(hb:g.bad t=some m):Told g s (some (dC w L t++[m])):=by
 have hd:=(h.ts t).mp ht
 obtain⟨q1,q2⟩:=h.row L t (yi _) hd
 refine⟨_,t,m,rfl,q1,hb,λk u hk hu=>?_⟩
 rw[q2]
 obtain⟨j,hj,dj⟩:=hk.dist
 by_cases hjL:j<L
 ·exact absurd (h.fine j u hjL dj) hu
 ·lia
end UfBfs
end
section
namespace UfBfs
variable {σ μ:Type}[DecidableEq σ]
structure QI(g:G σ μ)(s:σ)(k:Nat)(ws:List (σ×Nat)):Prop where
 nd:(ws.map (·.1)).Nodup
 dist:∀p∈ws,cW g s p.2 p.1
 mono:ws.Pairwise λp q=>p.2<=q.2
 head:ws[0]?=some (s,0)
 closed:∀p∈ws.take k,∀m∈g.may p.1,g.nxt p.1 m∈ws.map (·.1)
 fine:∀p∈ws.take k,g.bad p.1=none
 near:∀q,ws[k]?=some q->∀p∈ws,p.2<=q.2+1
def QI.start(g:G σ μ)(s:σ):QI g s 0 [(s,0)]:=by
 refine⟨by simp,λp hp=>?_,by simp,rfl,λp hp=>by simp at hp,λp hp=>by simp at hp,λq hq p hp=>?_⟩
 ·have:p=(s,0):=by simpa using hp
  subst this
  exact⟨At.zero g s,λ_ _=>yC _⟩
 ·have:p=(s,0):=by simpa using hp
  subst this
  exact yC _
theorem QI.mK{g:G σ μ}{s:σ}{k:Nat}{ws:List (σ×Nat)}{q:σ×Nat}(h:QI g s k ws)(hq:ws[k]?=some q):∀(i:Nat) (u:σ),cW g s i u->i<q.2->(u,i)∈ws.take k
 |0,u,hd,hi=>by
  have:=hd.1.p6
  subst this
  have hk:0<k:=by
   cases k with
   |zero =>
    rw[h.head]at hq
    cases hq
    exact absurd hi (zc _)
   |succ k=>lia
  have:(ws.take k)[0]?=some (u,0):=by rw[AF hk];exact h.head
  exact yq this
 |i+1,u,hd,hi=>by
  obtain⟨v,m,dv,hm,e⟩:=hd.pred
  have hv:=QI.mK h hq i v dv (by lia)
  have hu:=h.closed _ hv m hm
  rw[<-e]at hu
  obtain⟨p,hp,e2⟩:=yx.mp hu
  obtain⟨u',d⟩:=p
  have e2:u'=u:=e2
  subst e2
  have ed:d=i+1:=(h.dist _ hp).uniq hd
  subst ed
  obtain⟨j,hj⟩:=List.mem_iff_getElem?.mp hp
  have hjk:j<k:=by
   by_cases hjk:j<k
   ·exact hjk
   ·exfalso
    by_cases hjk2:j=k
    ·subst hjk2
     rw[hq]at hj
     cases hj
     exact absurd hi (zc _)
    ·obtain⟨hk',ek⟩:=yz.mp hq
     obtain⟨hj',ej⟩:=yz.mp hj
     have:=AD.mp h.mono k j hk' hj' (by lia)
     rw[ek,ej]at this
     have this:q.2<=i+1:=this
     lia
  have:(ws.take k)[j]?=some (u',i+1):=by rw[AF hjk];exact hj
  exact yq this
def addQ(g:G σ μ)(t:σ)(d:Nat)(ws:List (σ×Nat))(m:μ):List (σ×Nat):=if g.nxt t m∈ws.map (·.1) then ws else ws++[(g.nxt t m,d+1)]
def o9{g:G σ μ}{t:σ}{d:Nat}{ws:List (σ×Nat)}{m:μ}{k:Nat}(h:k<=ws.length):(addQ g t d ws m).take k=ws.take k:=by
 unfold addQ
 split
 ·rfl
 ·rw[List.take_append_of_le_length h]
def QI.add{g:G σ μ}{s t:σ}{k d:Nat}{ws:List (σ×Nat)}{m:μ}(h:QI g s k ws)(hq:ws[k]?=some (t,d))(hm:m∈g.may t):QI g s k (addQ g t d ws m):=by
 have hk:k<ws.length:=(yz.mp hq).1
 by_cases hin:g.nxt t m∈ws.map (·.1)
 ·have e:addQ g t d ws m=ws:=by unfold addQ;rw[if_pos hin]
  rw[e];exact h
 ·have e:addQ g t d ws m=ws++[(g.nxt t m,d+1)]:=by unfold addQ;rw[if_neg hin]
  have hmem:(t,d)∈ws:=yq hq
  have at1:At g s (d+1) (g.nxt t m):=(h.dist _ hmem).1.succ hm
  have dn:cW g s (d+1) (g.nxt t m):=by
   refine⟨at1,λj hj=>?_⟩
   obtain⟨i,hi,di⟩:=hj.dist
   by_cases hid:i<=d
   ·exfalso
    cases i with
    |zero =>
     have:=di.1.p6
     rw[this]at hin
     exact hin (yx.mpr ⟨(s,0),yq h.head,rfl⟩)
    |succ i =>
     obtain⟨v,m',dv,hm',ev⟩:=di.pred
     have hv:=h.mK hq i v dv (by show i<d;lia)
     have:=h.closed _ hv m' hm'
     rw[<-ev]at this
     exact hin this
   ·lia
  have tk:=o9 (g:=g) (t:=t) (d:=d) (m:=m) (Ak hk)
  rw[e]at tk
  rw[e]
  refine⟨?_,λp hp=>?_,?_,?_,λp hp m' hm'=>?_,λp hp=>?_,λq hq' p hp=>?_⟩
  ·rw[yk]
   refine yE.mpr ⟨h.nd,by simp,λa ha b hb=>?_⟩
   have:b=g.nxt t m:=by simpa using hb
   subst this
   rintro rfl
   exact hin ha
  ·rcases yo.mp hp with hp|hp
   ·exact h.dist p hp
   ·have:p=(g.nxt t m,d+1):=by simpa using hp
    subst this
    exact dn
  ·refine List.pairwise_append.mpr ⟨h.mono,by simp,λa ha b hb=>?_⟩
   have:b=(g.nxt t m,d+1):=by simpa using hb
   subst this
   exact h.near _ hq a ha
  ·rw[zq (by lia)];exact h.head
  ·rw[tk]at hp
   rw[yk]
   exact yU _ (h.closed p hp m' hm')
  ·rw[tk]at hp
   exact h.fine p hp
  ·rw[zq hk,hq]at hq'
   cases hq'
   rcases yo.mp hp with hp|hp
   ·exact h.near _ hq p hp
   ·have:p=(g.nxt t m,d+1):=by simpa using hp
    subst this
    exact yi _
def QI.step{g:G σ μ}{s t:σ}{k d:Nat}{ws:List (σ×Nat)}(h:QI g s k ws)(hq:ws[k]?=some (t,d))(hb:g.bad t=none)(hc:∀m∈g.may t,g.nxt t m∈ws.map (·.1)):QI g s (k+1) ws:=by
 have hk:k<ws.length:=(yz.mp hq).1
 have tk:ws.take (k+1)=ws.take k++[(t,d)]:=by rw[List.take_add_one,hq];rfl
 refine⟨h.nd,h.dist,h.mono,h.head,λp hp=>?_,λp hp=>?_,λq hq' p hp=>?_⟩
 ·rw[tk]at hp
  rcases yo.mp hp with hp|hp
  ·exact h.closed p hp
  ·have:p=(t,d):=by simpa using hp
   subst this
   exact hc
 ·rw[tk]at hp
  rcases yo.mp hp with hp|hp
  ·exact h.fine p hp
  ·have:p=(t,d):=by simpa using hp
   subst this
   exact hb
 ·have h1:=h.near _ hq p hp
  obtain⟨hk1,e1⟩:=yz.mp hq
  obtain⟨hk2,e2⟩:=yz.mp hq'
  have:=AD.mp h.mono k (k+1) hk1 hk2 (by lia)
  rw[e1,e2]at this
  have this:d<=q.2:=this
  have h1:p.2<=d+1:=h1
  lia
def QI.done{g:G σ μ}{s:σ}{ws:List (σ×Nat)}(h:QI g s ws.length ws):∀k t,At g s k t->g.bad t=none:=by
 have tk:ws.take ws.length=ws:=yH
 have all:∀k t,At g s k t->t∈ws.map (·.1):=by
  intro k
  induction k with
  |zero =>
   intro t ht
   have:=ht.p6
   subst this
   exact yx.mpr ⟨(t,0),yq h.head,rfl⟩
  |succ k ih =>
   intro t ht
   obtain⟨u,m,hu,hm,e⟩:=ht.inv
   obtain⟨p,hp,e2⟩:=yx.mp (ih u hu)
   rw[e,<-e2]
   exact h.closed p (by rw[tk];exact hp) m (by rw[e2];exact hm)
 intro k t ht
 obtain⟨p,hp,e⟩:=yx.mp (all k t ht)
 rw[<-e]
 exact h.fine p (by rw[tk];exact hp)
def QI.found{g:G σ μ}{s t:σ}{k d:Nat}{ws:List (σ×Nat)}(h:QI g s k ws)(hq:ws[k]?=some (t,d)):At g s d t/\∀j u,At g s j u->g.bad u≠none->d<=j:=by
 refine⟨(h.dist _ (yq hq)).1,λj u hj hu=>?_⟩
 obtain⟨i,hi,di⟩:=hj.dist
 by_cases hid:i<d
 ·exact absurd (h.fine _ (h.mK hq i u di hid)) hu
 ·lia
end UfBfs
end
section
namespace Uf
open PySem L2 UfSrt
def xy:Option Str->V
 |some x=>.str x
 |none=>.non
def r9{L:List Str}{p:Str->Bool}{i:Nat}{x:Str}(hx:L[i]?=some x)(hp:p x=true)(hb:∀y∈L.take i,p y=false):L.find? p=some x:=by
 have e:L=L.take i++(x::L.drop (i+1)):=by
  have hi:=(yz.mp hx).1
  have e2:L.drop i=x::L.drop (i+1):=by
   rw[AB hi]
   rw[yg hi]at hx
   rw[yV hx]
  rw[<-e2,ze]
 rw[e,List.find?_append]
 have n:(L.take i).find? p=none:=AJ.mpr λy hy=>by rw[hb y hy];simp
 rw[n]
 simp[hp]
def jo(K:PySem.W.Frag)(C:Addr):Sp:=λvs H Q _=>∃(p a:Addr) (ms:List Mv) (st s:List Str),vs=[.ref p,.ref a]/\cz C H p ms st/\cY K H a (au s)/\s.length<=50/\∀H',ar H H'->Q (xy (bK ms s)) H'
def jv:az ["net", "state", "move"] ["net", "state"] (av gj):=fo
def mI{f C:Addr}{fd:FuncData}(F:dt K "crowder" "crowder" gj f fd)(CT:fW K C)(DM:ue P w K mg base C "moves" "Net.moves" lZ ["self"] 1 (mB C))
  (DL:h9 P w K mg base "lacks_bead" iO ["net", "state", "move"] 4 (gM K C λm s=>bh m.2.1 s))
  (DS:h9 P w K mg base "gives_second" gu ["net", "state", "move"] 4 (gM K C λm s=>second m.2.1 m.2.2 s)) :
  aI P w K mg base cj 5 f fd ["net", "state"] (jo K C):=by
 refine F.oK jv λcdv A outer s H vs Q E hr h=>?_
 ·obtain⟨p,a,ms,st,s',rfl,N,ha,hz,k⟩:=h
  refine⟨_,af (bG yJ rfl (bc (gg (pv 0) CT.cl DM.d.mt DM.g (hr.mono (by decide)) DM.d.bd .nil bE)) (fm 2 jv)
    (ao (br (PW.pt (pw_and (cy (cv (eM DL hr (aa (pv 0) (aa (pv 1) (aa (pv 2) ae)))))) (pw_and1 (cv (eM DS hr (aa (pv 0) (aa (pv 1) (aa (pv 2) ae)))))))) (ao (aB (pv 2))) aK)))
   (ao (aB kb)),?_⟩
  try dsimp only[bq,Cx.eE,Cx.cM]
  obtain⟨dx,aP,aS,aT,aG,kT,kG,h1,_⟩:=N.at'.ob
  refine⟨_,rfl,p,dx,_,rfl,h1,da _ _ _ _ uH tN tV tS,p,ms,st,rfl,N,λH1 q s1 nq hq=>?_⟩
  refine⟨q,rfl,⟨_,aA.of hq⟩,c9 (K:=K) (a:=q) (xs:=au (aD (names ms))) (λi σ H2=>∃v:Option V,σ=[some (.ref p),some (.ref a),v]/\ar H1 H2/\∀y∈(aD (names ms)).take i,(!bT ms s' y&&dX ms s' y)=false)
   ⟨none,rfl,ar.refl _,λy hy=>by simp at hy⟩ (λi σ H2 _ ⟨_,_,sm,_⟩=>aA.of (sm _ _ hq)) ?_ ?_⟩
  ·rintro i v σ H2 hi ⟨v0,rfl,sm,hb⟩
   obtain⟨x,hx,rfl⟩:=bL hi
   obtain⟨m,hm,rfl⟩:=bW (yq hx)
   have sA:ar H H2:=s1.trans sm
   refine⟨_,rfl,_,rfl,_,rfl,p,a,ms,st,s',m,rfl,N.same sA,hm,cO sA ha,by lia,λH3 s3=>⟨_,rfl,?_⟩⟩
   have el:bh m.2.1 s'=bT ms s' m.1:=by unfold bT;rw[cx N.so.nd hm]
   have es:second m.2.1 m.2.2 s'=dX ms s' m.1:=by unfold dX;rw[cx N.so.nd hm,cX N.so.nd hm]
   show if (!bh m.2.1 s')=true then _ else _
   rw[el]
   have more:(!bT ms s' m.1&&dX ms s' m.1)=false->∀y∈(aD (names ms)).take (i+1),(!bT ms s' y&&dX ms s' y)=false:=λe y hy=>by
    rw[aq hx]at hy
    rcases yo.mp hy with hy|hy
    ·exact hb y hy
    ·have:y=m.1:=by simpa using hy
     rw[this]
     exact e
   cases c1:bT ms s' m.1 with
   |true =>
    refine aQ ?_
    refine aQ ?_
    exact⟨_,rfl,sm.trans s3,more (by rw[c1];rfl)⟩
   |false =>
    refine a9 ?_
    refine⟨_,rfl,_,rfl,_,rfl,p,a,ms,st,s',m,rfl,N.same (sA.trans s3),hm,cO (sA.trans s3) ha,by lia,λH4 s4=>⟨_,rfl,?_⟩⟩
    show if second m.2.1 m.2.2 s'=true then _ else _
    rw[es]
    cases c2:dX ms s' m.1 with
    |false =>
     refine aQ ?_
     exact⟨_,rfl,(sm.trans s3).trans s4,more (by rw[c1,c2];rfl)⟩
    |true =>
     refine a9 ?_
     refine⟨_,rfl,?_⟩
     have e:bK ms s'=some m.1:=r9 hx (by rw[c1,c2];rfl) hb
     have q1:=k H4 (sA.trans (s3.trans s4))
     rw[e]at q1
     exact q1
  ·rintro σ H2 ⟨v0,rfl,sm,hb⟩
   rw[ah,yH]at hb
   have e:bK ms s'=none:=AJ.mpr λy hy=>by rw[hb y hy];simp
   have q1:=k H2 (s1.trans sm)
   rw[e]at q1
   exact q1
end Uf
end
section
namespace Uf
open PySem L2 UfSrt UfFin
def graph(ms:List Mv):UfBfs.G (List Str) Str:=⟨gi ms,bA ms,bK ms⟩
def cS(t:List Str):List Key:=t.map Sum.inr
def dF(t:List Str):(cS t).map kV=au t:=by
 unfold cS au
 rw[AI]
 rfl
theorem gA:∀{t u:List Str},cS t=cS u->t=u
 |[],[],_=>rfl
 |[],_::_,h=>by simp[cS]at h
 |_::_,[],h=>by simp[cS]at h
 |x::t,y::u,h=>by
  unfold cS at h
  rw[yX,yX]at h
  obtain⟨h1,h2⟩:=List.cons.inj h
  have e:x=y:=by injection h1
  rw[e,gA (t:=t) (u:=u) h2]
def iD(H:Hp)(a:Addr)(ts:List (List Str)):Prop:=∃qs:List Addr,H a=some (.lst (qs.map V.ref))/\Paired (λt q=>H q=some (.tup (au t))) ts qs
def mP(H:Hp)(x:Option (List Str×Str))(v:V):Prop:=match x with
 |none=>v=.non
 |some (u,m)=>∃q b,v=.ref q/\H q=some (.tup [.ref b,.str m])/\H b=some (.tup (au u))
def kh(H H':Hp):Prop:=∀b xs,H b=some (.tup xs)->H' b=some (.tup xs)
def _root_.L2.ar.bR{H H':Hp}(s:ar H H'):kh H H':=λb xs e=>s b _ e
def eW{H:Hp}{a:Addr}{o u:HO}(e:H a=some o)(n:∀xs,o≠.tup xs):kh H (upd H a u):=λb xs q=>by
 rw[ai (aN q e (λz=>n xs z.symm))]
 exact q
def mP.bR{H H':Hp}{x:Option (List Str×Str)}{v:V}(s:kh H H')(h:mP H x v):mP H' x v:=by
 cases x with
 |none=>exact h
 |some p =>
  obtain⟨q,b,h1,h2,h3⟩:=h
  exact⟨q,b,h1,s _ _ h2,s _ _ h3⟩
abbrev WP(H:Hp):UfBfs.bp (List Str) Str->List (List Key×V)->Prop:=Paired λp kv=>kv.1=cS p.1/\mP H p.2 kv.2
def fL(H:Hp)(d:Addr)(w:UfBfs.bp (List Str) Str):Prop:=∃kvs,H d=some (.dT kvs)/\WP H w kvs
theorem WP.bR{H H':Hp}{w:UfBfs.bp (List Str) Str}{kvs:List (List Key×V)}(s:kh H H')(h:WP H w kvs):WP H' w kvs:=Paired.dy h λ_ _ z=>⟨z.1,z.2.bR s⟩
theorem WP.none{H:Hp}{t:List Str}:∀{w:UfBfs.bp (List Str) Str} {kvs:List (List Key×V)},WP H w kvs->UfBfs.look w t=none->cL kvs (cS t)=.none
 |_,_,.nil,_=>rfl
 |p::w,kv::kvs,.cons h r,e=>by
  by_cases ht:p.1=t
  ·simp[UfBfs.look,ht]at e
  ·have e':UfBfs.look w t=Option.none:=by simpa[UfBfs.look,ht] using e
   rw[cw (λz=>ht (gA (h.1.symm.trans z)))]
   exact WP.none r e'
theorem WP.some{H:Hp}{t:List Str}{x:Option (List Str×Str)}:∀{w:UfBfs.bp (List Str) Str} {kvs:List (List Key×V)},WP H w kvs->UfBfs.look w t=some x->∃v,cL kvs (cS t)=.some v/\mP H x v
 |_,_,.nil,e=>by simp[UfBfs.look]at e
 |p::w,kv::kvs,.cons h r,e=>by
  by_cases ht:p.1=t
  ·have e':p.2=x:=by simpa[UfBfs.look,ht] using e
   refine⟨kv.2,c7 (by rw[h.1,ht]),?_⟩
   rw[<-e']
   exact h.2
  ·have e':UfBfs.look w t=Option.some x:=by simpa[UfBfs.look,ht] using e
   rw[cw (λz=>ht (gA (h.1.symm.trans z)))]
   exact WP.some r e'
structure ee(ms:List Mv)(st t:List Str):Prop where
 ris:ck t
 sub:∀x∈t,x∈dw ms st
def lM(ms:List Mv)(st:List Str):ck (dw ms st):=ck.aD (UfSet.lE _)
def ee.len{ms:List Mv}{st t:List Str}(so:Sound ms st)(h:ee ms st t):t.length<=12:=yI (dk h.ris.nd h.sub) so.pl
def iX{ms:List Mv}{st:List Str}(so:Sound ms st){l:List (List Str)}(hn:l.Nodup)(h:∀t∈l,ee ms st t):l.length<=4096:=by
 have h1:=dk hn λt ht=>(h t ht).ris.tF (lM ms st) (h t ht).sub
 rw[lL]at h1
 refine yI h1 (yI (Nat.pow_le_pow_right (by decide) so.pl) (by decide))
def lD{ms:List Mv}{st:List Str}{x:Str}:x∈dw ms st↔x∈st\/∃m∈ms,x∈m.2.1\/x∈m.2.2:=by
 unfold dw
 rw[cV,UfSet.mY,yo]
 unfold gP
 rw[Bo]
 simp only[yo]
def fG{ms:List Mv}{st:List Str}(so:Sound ms st):ee ms st (aD st):=⟨ck.aD (a5 so.su),λx hx=>lD.mpr (.inl (cV.mp hx))⟩
def kB{ms:List Mv}{t:List Str}{x:Str}:x∈gi ms t↔x∈names ms/\bT ms t x=false/\dX ms t x=false:=by
 unfold gi
 rw[zm,zm,cV]
 simp[and_assoc]
def jF{ms:List Mv}{st t:List Str}{m:Mv}(so:Sound ms st)(h:ee ms st t)(hm:m∈ms)(hs:second m.2.1 m.2.2 t=false):ee ms st (behind m.2.1 m.2.2 t):=by
 obtain⟨_,u2,_⟩:=cF (so.mv m hm)
 have gn:m.2.2.Nodup:=a5 u2
 refine⟨ck.aD (yE.mpr ⟨h.ris.nd.sublist A5,gn,λa ha b hb=>?_⟩),λx hx=>?_⟩
 ·rintro rfl
  obtain⟨h1,h2⟩:=zm.mp ha
  have h3:second m.2.1 m.2.2 t=true:=Ap.mpr ⟨a,hb,by simp at h2;simp[h1,h2]⟩
  rw[hs]at h3
  cases h3
 ·unfold behind at hx
  rcases yo.mp (cV.mp hx) with z|z
  ·exact h.sub x (zm.mp z).1
  ·exact lD.mpr (.inr ⟨m,hm,.inr z⟩)
def ip{ms:List Mv}{st t:List Str}{x:Str}(so:Sound ms st)(h:ee ms st t)(hx:x∈gi ms t):∃m∈ms,m.1=x/\bh m.2.1 t=false/\second m.2.1 m.2.2 t=false/\bA ms t x=behind m.2.1 m.2.2 t/\ee ms st (bA ms t x):=by
 obtain⟨h1,h2,h3⟩:=kB.mp hx
 obtain⟨m,hm,rfl⟩:=yx.mp h1
 unfold bT at h2
 unfold dX at h3
 rw[cx so.nd hm]at h2 h3
 rw[cX so.nd hm]at h3
 have e:bA ms t m.1=behind m.2.1 m.2.2 t:=by
  unfold bA
  rw[cx so.nd hm,cX so.nd hm]
 exact⟨m,hm,rfl,h2,h3,e,by rw[e];exact jF so h hm h3⟩
def cz.but{C:Addr}{H H':Hp}{p d:Addr}{ms:List Mv}{st:List Str}{kvs:List (List Key×V)}(hd:H d=some (.dT kvs))(b:fD d H H')(h:cz C H p ms st):cz C H' p ms st:=by
 obtain⟨⟨dx,aP,aS,aT,aG,kT,kG,h1,h2,h3,h4,h5,h6,h7⟩,so,tb⟩:=h
 have up:∀{c:Addr} {o:HO},H c=some o->(∀k,o≠.dT k)->H' c=some o:=λe n=>b _ _ e (aN e hd (n _))
 exact⟨⟨dx,aP,aS,aT,aG,kT,kG,up h1 (λ_ z=>nomatch z),up h2 (λ_ z=>nomatch z),up h3 (λ_ z=>nomatch z),up h4 (λ_ z=>nomatch z),up h5 (λ_ z=>nomatch z),h6.same λc xs e=>up e (λ_ z=>nomatch z),h7.same λc xs e=>up e (λ_ z=>nomatch z)⟩,so,up tb (λ_ z=>nomatch z)⟩
structure Acc(ms:List Mv)(st:List Str)(acc:UfBfs.bp (List Str) Str×List (List Str)):Prop where
 nd:(acc.1.map (·.1)).Nodup
 fine:∀t∈acc.1.map (·.1),ee ms st t
 len:acc.2.length<=acc.1.length
def Acc.try{ms:List Mv}{st t:List Str}{acc:UfBfs.bp (List Str) Str×List (List Str)}{m:Str}(h:Acc ms st acc)(hf:ee ms st (bA ms t m)):Acc ms st (UfBfs.eY (graph ms) t acc m):=by
 unfold UfBfs.eY
 show Acc ms st (if (UfBfs.look acc.1 (bA ms t m)).isSome=true then acc else(acc.1++[(bA ms t m,some (t,m))],acc.2++[bA ms t m]))
 cases e:UfBfs.look acc.1 (bA ms t m) with
 |some x=>exact h
 |none =>
  have hn:=UfBfs.jk.mp e
  refine⟨?_,λu hu=>?_,by have:=h.len;simp;lia⟩
  ·show((acc.1++[(bA ms t m,some (t,m))]).map (·.1)).Nodup
   rw[yk]
   refine yE.mpr ⟨h.nd,by simp,λa ha b hb=>?_⟩
   have:b=bA ms t m:=by simpa using hb
   subst this
   rintro rfl
   exact hn ha
  ·have hu:u∈(acc.1++[(bA ms t m,some (t,m))]).map (·.1):=hu
   rw[yk]at hu
   rcases yo.mp hu with z|z
   ·exact h.fine u z
   ·have:u=bA ms t m:=by simpa using z
    rw[this]
    exact hf
def Acc.oV{ms:List Mv}{st:List Str}{acc:UfBfs.bp (List Str) Str×List (List Str)}(so:Sound ms st)(h:Acc ms st acc):acc.1.length<=4096:=by
 have:=iX so h.nd h.fine
 rw[yf]at this
 exact this
def oI(C:Addr):Sp:=λvs H Q _=>∃(p a d:Addr) (ms:List Mv) (st:List Str) (ts:List (List Str)) (wy:UfBfs.bp (List Str) Str),vs=[.ref p,.ref a,.ref d]/\cz C H p ms st/\iD H a ts/\fL H d wy/\(∀t∈ts,ee ms st t)/\Acc ms st (wy,[]) /\
 ∀H' q,fD d H H'->H q=none->iD H' q (UfBfs.cT (graph ms) ts wy).2->fL H' d (UfBfs.cT (graph ms) ts wy).1->Acc ms st (UfBfs.cT (graph ms) ts wy)->Q (.ref q) H'
def gb:az ["net", "states", "ways", "reached", "state", "move", "behind"] ["net", "states", "ways"] (av kC):=fo
inductive w4(H:Hp)(p a d r:Addr)(ms:List Mv)(st:List Str)(ts:List (List Str))(wy:UfBfs.bp (List Str) Str)(i:Nat)(σ:St)(H2:Hp):Prop
 |mk (v4 v5 v6:Option V) (acc:UfBfs.bp (List Str) Str×List (List Str)) (q0:acc=(ts.take i).foldl (UfBfs.tryAll (graph ms)) (wy,[])) (q1:σ=[some (.ref p),some (.ref a),some (.ref d),some (.ref r),v4,v5,v6]) (q2:fD d H H2) (q3:iD H2 r acc.2) (q4:fL H2 d acc.1) (q5:Acc ms st acc)
inductive xA(H:Hp)(p a d r tq q:Addr)(ms:List Mv)(st t:List Str)(acc:UfBfs.bp (List Str) Str×List (List Str))(j:Nat)(σ:St)(H4:Hp):Prop
 |mk (v5 v6:Option V) (acc':UfBfs.bp (List Str) Str×List (List Str)) (q0:acc'=((gi ms t).take j).foldl (UfBfs.eY (graph ms) t) acc) (q1:σ=[some (.ref p),some (.ref a),some (.ref d),some (.ref r),some (.ref tq),v5,v6]) (q2:fD d H H4) (q3:H4 q=some (.lst (au (gi ms t)))) (q4:iD H4 r acc'.2) (q5:fL H4 d acc'.1) (q6:Acc ms st acc')
def w4.but{H:Hp}{p a d r:Addr}{ms:List Mv}{st:List Str}{ts:List (List Str)}{wy:UfBfs.bp (List Str) Str}{i:Nat}{σ:St}{H2:Hp}(h:w4 H p a d r ms st ts wy i σ H2):fD d H H2:=by
 cases h
 assumption
def xA.at_{H:Hp}{p a d r tq q:Addr}{ms:List Mv}{st t:List Str}{acc:UfBfs.bp (List Str) Str×List (List Str)}{j:Nat}{σ:St}{H4:Hp}(h:xA H p a d r tq q ms st t acc j σ H4):H4 q=some (.lst (au (gi ms t))):=by
 cases h
 assumption
def rF{f C:Addr}{fd:FuncData}(F:dt K "newly_reached" "newly_reached" kC f fd)
  (DM:h9 P w K mg base "may" sC ["net", "state"] 5 (tY K C))
  (DB:h9 P w K mg base "state_behind" ic ["net", "state", "move"] 4 (kS K C)) :
  aI P w K mg base cj 6 f fd ["net", "states", "ways"] (oI C):=by
 refine F.oK gb λcdv A outer s H vs Q E hr h=>?_
 ·obtain⟨p,a,d,ms,st,ts,wy,rfl,N,⟨qs,hq,hp⟩,⟨kvs0,hd0,wp0⟩,hts,ac0,k⟩:=h
  have hu:=df hr
  refine⟨_,af (bV 3 gb (aL ae))
   (af (bG yJ rfl (bc (pv 1)) (fm 4 gb)
    (ao (bG yJ rfl (bc (eM DM hr (aa (pv 0) (aa (pv 4) ae)))) (fm 5 gb)
     (af (bV 6 gb (eM DB (hr.mono (by decide)) (aa (pv 0) (aa (pv 4) (aa (pv 5) ae)))))
      (ao (br (fR (fh hu (pv 6) (pv 2)))
       (af (eo hu (pv 2) (pv 6) (eN (aa (pv 4) (aa (pv 5) ae))) rfl)
        (ao (bN (eK yO yS yT bb (pv 3) (aa (pv 6) ae))))) aK))))))
   (ao (aB (pv 3)))),?_⟩
  clear hu
  dsimp only[bq,Cx.eE]
  refine⟨yC _,λr nr=>?_⟩
  have s0:ar H (upd H r (.lst [])):=ag nr
  have so:=N.so
  have hsl:=yK
  have nda:a≠d:=aN hq hd0 (λz=>nomatch z)
  refine⟨_,rfl,a,rfl,⟨_,aA.of (s0 _ _ hq)⟩,c9 (K:=K) (a:=a) (xs:=qs.map V.ref) (w4 H p a d r ms st ts wy)
   ⟨none,none,none,(wy,[]),rfl,rfl,λc o e _=>s0 _ _ e,⟨[],ab,.nil⟩,⟨kvs0,s0 _ _ hd0,wp0.bR s0.bR⟩,ac0⟩ (λi σ H2 _ h=>aA.of (h.but _ _ hq nda)) ?_ ?_⟩
  ·rintro i v σ H2 hi ⟨v4,v5,v6,acc,ea,rfl,b2,S2,W2,ac2⟩
   obtain⟨tq,hqi,rfl⟩:=c8 hi
   obtain⟨t,ht,htq⟩:=a7 hp hqi
   have hft:ee ms st t:=hts t (yq ht)
   have ntd:tq≠d:=aN htq hd0 (λz=>nomatch z)
   have htq2:=b2 _ _ htq ntd
   refine⟨_,rfl,_,rfl,p,tq,ms,st,t,rfl,N.but hd0 b2,cY.of htq2,by have:=hft.len so;lia,λH3 q s3 nq hq3=>?_⟩
   obtain⟨rs2,hr2,hrp2⟩:=S2
   obtain⟨kvs2,hd2,wp2⟩:=W2
   have nqd:d≠q:=ak hd2 nq
   have nqr:r≠q:=ak hr2 nq
   have ets:ts.take (i+1)=ts.take i++[t]:=aq ht
   refine⟨q,rfl,⟨_,aA.of hq3⟩,c9 (K:=K) (a:=q) (xs:=au (gi ms t)) (xA H p a d r tq q ms st t acc)
    ⟨v5,v6,acc,rfl,rfl,b2.then s3,hq3,⟨rs2,s3 _ _ hr2,Paired.dy hrp2 λ_ _ e=>s3 _ _ e⟩,⟨kvs2,s3 _ _ hd2,wp2.bR s3.bR⟩,ac2⟩ (λj σ H4 _ h=>aA.of h.at_) ?_ ?_⟩
   ·rintro j v σ H4 hj ⟨v5,v6,acc',ea',rfl,b4,hq4,S4,W4,ac4⟩
    obtain⟨x,hx,rfl⟩:=bL hj
    obtain⟨m,hm,rfl,_,hsec,eb,hfb⟩:=ip so hft (yq hx)
    refine⟨_,rfl,_,rfl,_,rfl,p,tq,ms,st,t,m,rfl,N.but hd0 b4,hm,cY.of (b4 _ _ htq ntd),by have:=hft.len so;lia,λH5 q5 s5 nq5 hq5=>?_⟩
    obtain⟨rs4,hr4,hrp4⟩:=S4
    obtain⟨kvs4,hd4,wp4⟩:=W4
    have hd5:=s5 _ _ hd4
    have hr5:=s5 _ _ hr4
    have wp5:WP H5 acc'.1 kvs4:=wp4.bR s5.bR
    have hrp5:=Paired.dy hrp4 λt q (e:H4 q=some (.tup (au t)))=>s5 q _ e
    have hq5k:H5 q5=some (.tup ((cS (bA ms t m.1)).map kV)):=by rw[dF,eb];exact hq5
    have etk:(gi ms t).take (j+1)=(gi ms t).take j++[m.1]:=aq hx
    have efold:((gi ms t).take (j+1)).foldl (UfBfs.eY (graph ms) t) acc=UfBfs.eY (graph ms) t acc' m.1:=by rw[etk,Bb,<-ea'];rfl
    have oV:=ac4.oV so
    have lkv:kvs4.length=acc'.1.length:=(yG wp4).symm
    have lrs:rs4.length=acc'.2.length:=(yG hrp4).symm
    have al:=ac4.len
    refine⟨_,rfl,_,rfl,d,_,rfl,dW.t hd5 hq5k,_,rfl,?_⟩
    cases hl:UfBfs.look acc'.1 (bA ms t m.1) with
    |some y =>
     obtain⟨v,hv,_⟩:=wp5.some hl
     rw[hv]
     refine aQ ?_
     have e1:UfBfs.eY (graph ms) t acc' m.1=acc':=by
      unfold UfBfs.eY
      exact yF (by show(UfBfs.look acc'.1 (bA ms t m.1)).isSome=true;rw[hl];rfl)
     exact⟨_,_,acc',by rw[efold,e1],rfl,b4.then s5,s5 _ _ hq4,⟨rs4,hr5,hrp5⟩,⟨kvs4,hd5,wp5⟩,ac4⟩
    |none =>
     rw[wp5.none hl]
     refine a9 ?_
     have e1:UfBfs.eY (graph ms) t acc' m.1=(acc'.1++[(bA ms t m.1,some (t,m.1))],acc'.2++[bA ms t m.1]):=by
      unfold UfBfs.eY
      exact yt (by show ¬(UfBfs.look acc'.1 (bA ms t m.1)).isSome=true;rw[hl];simp)
     refine⟨_,rfl,_,rfl,by show 2<=sizeLine;lia,λq6 nq6=>?_⟩
     have s6:ar H5 (upd H5 q6 (.tup [.ref tq,.str m.1])):=ag nq6
     have hd6:=s6 _ _ hd5
     have hr6:=s6 _ _ hr5
     have h6:(upd H5 q6 (.tup [.ref tq,.str m.1])) q6=some (.tup [.ref tq,.str m.1]):=ab
     have b6:fD d H (upd H5 q6 (.tup [.ref tq,.str m.1])):=(b4.then s5).then s6
     have wp6:=wp5.bR s6.bR
     have hrp6:=Paired.dy hrp5 λt q (e:H5 q=some (.tup (au t)))=>s6 q _ e
     have hq6k:=s6 _ _ hq5k
     have hq6:=s6 _ _ hq5
     have hqq6:=s6 _ _ (s5 _ _ hq4)
     have htq6:=b6 _ _ htq ntd
     generalize upd H5 q6 (.tup [.ref tq,.str m.1])=H6 at s6 hd6 hr6 h6 b6 wp6 hrp6 hq6k hq6 hqq6 htq6 ⊢
     refine⟨_,rfl,_,rfl,d,_,rfl,gQ.t hd6 hq6k (by lia),?_⟩
     have pk:putK kvs4 (cS (bA ms t m.1)) (V.ref q6)=kvs4++[(cS (bA ms t m.1),V.ref q6)]:=dc _ (wp5.none hl)
     rw[pk]
     have t7:kh H6 (upd H6 d (.dT (kvs4++[(cS (bA ms t m.1),V.ref q6)]))):=eW hd6 (λ_ z=>nomatch z)
     have nrd:r≠d:=aN hr6 hd6 (λz=>nomatch z)
     have nqd6:q≠d:=aN hqq6 hd6 (λz=>nomatch z)
     have hr7:(upd H6 d (.dT (kvs4++[(cS (bA ms t m.1),V.ref q6)]))) r=some (.lst (rs4.map V.ref)):=by rw[ai nrd];exact hr6
     refine⟨_,rfl,.inl ⟨rfl,_,aA.of hr7⟩,_,rfl,r,_,_,rfl,rfl,hr7,by rw[yf];lia,?_⟩
     have hd7:(upd H6 d (.dT (kvs4++[(cS (bA ms t m.1),V.ref q6)]))) d=some (.dT (kvs4++[(cS (bA ms t m.1),V.ref q6)])):=ab
     have hq7:(upd H6 d (.dT (kvs4++[(cS (bA ms t m.1),V.ref q6)]))) q=some (.lst (au (gi ms t))):=by rw[ai nqd6];exact hqq6
     have b7:fD d H (upd H6 d (.dT (kvs4++[(cS (bA ms t m.1),V.ref q6)]))):=b6.put
     have w7:WP (upd H6 d (.dT (kvs4++[(cS (bA ms t m.1),V.ref q6)]))) (acc'.1++[(bA ms t m.1,some (t,m.1))]) (kvs4++[(cS (bA ms t m.1),V.ref q6)]) :=
      zu (wp6.bR t7) ⟨rfl,q6,tq,rfl,t7 _ _ h6,t7 _ _ htq6⟩
     have r7:=zu (Paired.dy hrp6 λt q (e:H6 q=some (.tup (au t)))=>t7 q _ e) (a:=bA ms t m.1) (b:=q5) (by have z:=t7 _ _ hq6;rw[<-eb]at z;exact z)
     generalize upd H6 d (.dT (kvs4++[(cS (bA ms t m.1),V.ref q6)]))=H7 at t7 hr7 hd7 hq7 b7 w7 r7 ⊢
     have t8:kh H7 (upd H7 r (.lst (rs4.map V.ref++[V.ref q5]))):=eW hr7 (λ_ z=>nomatch z)
     have nqr7:q≠r:=λz=>nqr z.symm
     refine⟨_,_,(acc'.1++[(bA ms t m.1,some (t,m.1))],acc'.2++[bA ms t m.1]),by rw[efold,e1],rfl,b7.new nr,by rw[ai nqr7];exact hq7,⟨rs4++[q5],by rw[ab,yk];rfl,Paired.dy r7 λt q (e:H7 q=some (.tup (au t)))=>t8 q _ e⟩,⟨_,by rw[ai nrd.symm];exact hd7,w7.bR t8⟩,?_⟩
     have:=ac4.try (t:=t) (m:=m.1) hfb
     rw[e1]at this
     exact this
   ·rintro σ H4 ⟨v5,v6,acc',ea',rfl,b4,hq4,S4,W4,ac4⟩
    rw[ah,yH]at ea'
    refine⟨_,_,_,acc',?_,rfl,b4,S4,W4,ac4⟩
    rw[ets,Bb,<-ea,ea']
    rfl
  ·rintro σ H2 ⟨v4,v5,v6,acc,ea,rfl,b2,S2,W2,ac2⟩
   have el:(qs.map V.ref).length=ts.length:=by rw[yf,<-yG hp]
   rw[el,yH]at ea
   have e:acc=UfBfs.cT (graph ms) ts wy:=ea
   subst e
   exact⟨_,rfl,k H2 r b2 nr S2 W2 ac2⟩
def wordOf(m:Mv)(s:List Str):Str:=if bh m.2.1 s=true then "held" else if second m.2.1 m.2.2 s=true then "full" else "may"
def jM(tk s:List Str):(!(au (tk.filter λx=>!decide (x∈s))).isEmpty)=bh tk s:=by
 unfold bh au
 induction tk with
 |nil=>rfl
 |cons a r ih =>
  rw[As,zG]
  cases h : !decide (a∈s) with
  |true=>rw[yF rfl];simp
  |false=>rw[yt (by simp),ih];simp
def jg(tk gv s:List Str):(!(au (gv.filter λx=>decide (x∈s) && !decide (x∈tk))).isEmpty)=second tk gv s:=by
 unfold second au
 induction gv with
 |nil=>rfl
 |cons a r ih =>
  rw[As,zG]
  cases h:decide (a∈s) && !decide (a∈tk) with
  |true=>rw[yF rfl];simp
  |false=>rw[yt (by simp),ih];simp
def iJ{xs:List Str}{p:Str->Bool}{i n:Nat}(h:xs.length<=n)(hn:n<=1000):(au ((xs.take i).filter p)).length<sizeLine:=by
 have hsl:=yK
 rw[ah]
 have:=y9 p (xs.take i)
 rw[yB]at this
 lia
def m9(H:Hp)(vs:List V)(ms:List Mv)(s:List Str)(m:Mv):Prop:=∃d a,vs=[.ref d,.ref a,.str m.1]/\bY H d ms/\(names ms).Nodup/\m∈ms/\cP m.2.1 m.2.2=true/\H a=some (.tup (au s))/\s.length<=50
def mW:Sp:=λvs H Q _=>∃(ms:List Mv) (s:List Str) (m:Mv),m9 H vs ms s m/\∀H',ar H H'->Q (.str (wordOf m s)) H'
def i9:az ["_law_moves", "_law_state", "_law_move", "_law_takes", "_law_gives"] ["_law_moves", "_law_state", "_law_move"] (av lY):=fo
def sJ{f:Addr}{fd:FuncData}(F:dt K "_law_word" "_law_word" lY f fd):aI P w K mg base cj 1 f fd ["_law_moves", "_law_state", "_law_move"] mW:=by
 refine F.oK i9 (len:=λ_ _ _ _ h=>by obtain⟨_,_,_,⟨_,_,rfl,_⟩,_⟩:=h;rfl) λcdv A outer s H vs Q E hr h=>?_
 ·obtain⟨ms,s',m,⟨d,a,rfl,D,hn,hm,hmv,ha,hz⟩,kk⟩:=h
  have hsl:=yK
  have hu:=df hr
  have hu0:_<cLine:=hr.jU
  refine⟨_,af (j9 (cD hu (pv 0) (pv 2) (λ_ _=>rfl)) (dP rfl (aF (fm 3 i9) (aF (fm 4 i9) cI))))
   (af (br (aE ne_nil (bD (N:=["_law_place", "_law_state"]) (n:=1) (ci:=[1]) rfl (bc (pv 3))
     (mn i9)
     (λz=>⟨kD 0,dA (aE bf (pv 0) (pv 1) (by with_unfolding_all rfl)),pv 0⟩)) (aL ae) (aZ _)) (ao (aB ba)) aK)
   (af (br (aE ne_nil (bD (N:=["_law_place", "_law_state", "_law_takes"]) (n:=1) (ci:=[1,3]) rfl (bc (pv 4))
     (mn i9)
     (λz=>⟨kD 0,dA (PW.pt (pw_and (aE gS (pv 0) (pv 1) (by with_unfolding_all rfl)) (pw_and1 (aE bf (pv 0) (pv 2) (by with_unfolding_all rfl))))),pv 0⟩)) (aL ae) (aZ _)) (ao (aB ba)) aK)
   (ao (aB ba)))),?_⟩
  clear hu
  dsimp only[bq,Cx.eE]
  obtain⟨v,dg,t,l,g,rfl,ht,hl,hg⟩:=D.get hn hm
  obtain⟨_,_,_,tk4,gv4⟩:=cF hmv
  refine⟨_,rfl,_,rfl,d,_,rfl,dg,t,_,rfl,cY.of ht,rfl,_,_,rfl,_,_,rfl,rfl,?_⟩
  refine⟨_,rfl,l,rfl,⟨_,aA.of hl⟩,λz D1 hD1=>bC (a:=l) (xs:=au m.2.1) (λi ys H2=>ys=au ((m.2.1.take i).filter λx=>!decide (x∈s'))/\H2 D1=some (.lst ys)/\ar H H2) ⟨rfl,ab,ag hD1⟩ (λi ys H2 _ p=>aA.of (p.2.2 _ _ hl)) ?_ ?_⟩
  ·rintro i v ys H2 hi ⟨rfl,hys,sm⟩
   obtain⟨x,hx,rfl⟩:=bL hi
   refine⟨_,rfl,_,rfl,a,au s',rfl,.inr (cY.of (sm _ _ ha)),rfl,bH s',_,rfl,?_⟩
   show if (!o7 (V.str x) (au s'))=true then _ else _
   rw[dh]
   cases c1:decide (x∈s') with
   |true =>
    refine aQ ⟨?_,hys,sm⟩
    rw[aq hx,yN]
    simp[c1]
   |false =>
    refine a9 ⟨_,rfl,hys,iJ tk4 (by decide),?_,ab,ax sm hD1⟩
    rw[aq hx,yN]
    unfold au
    simp[c1]
  ·rintro ys H2 ⟨rfl,hys,sm⟩
   rw[ah,yH]at hys
   refine⟨yC _,λe1 ne1=>?_⟩
   have s1:ar H2 (upd H2 e1 (.lst [])):=ag ne1
   refine⟨D1,e1,_,rfl,rfl,hu0,aA.of (s1 _ _ hys),aA.of ab,_,rfl,?_⟩
   rw[jM]
   have smA:=sm.trans s1
   generalize upd H2 e1 (.lst [])=H3 at smA
   cases c1:bh m.2.1 s' with
   |true =>
    refine a9 ?_
    have e:wordOf m s' = "held":=by unfold wordOf;rw[if_pos c1]
    have q:=kk H3 smA
    rw[e]at q
    exact q
   |false =>
    refine aQ ?_
    refine⟨_,rfl,g,rfl,⟨_,aA.of (smA _ _ hg)⟩,λz D2 hD2=>bC (a:=g) (xs:=au m.2.2) (λi ys H4=>ys=au ((m.2.2.take i).filter λx=>decide (x∈s') && !decide (x∈m.2.1))/\H4 D2=some (.lst ys)/\ar H3 H4) ⟨rfl,ab,ag hD2⟩ (λi ys H4 _ p=>aA.of ((smA.trans p.2.2) _ _ hg)) ?_ ?_⟩
    ·rintro i v ys H4 hi ⟨rfl,hys4,sm4⟩
     obtain⟨x,hx,rfl⟩:=bL hi
     have sB:=smA.trans sm4
     refine⟨_,rfl,_,rfl,a,au s',rfl,.inr (cY.of (sB _ _ ha)),rfl,bH s',_,rfl,?_⟩
     show if o7 (V.str x) (au s')=true then _ else _
     rw[dh]
     have no:(decide (x∈s') && !decide (x∈m.2.1))=false->au ((m.2.2.take (i+1)).filter λx=>decide (x∈s') && !decide (x∈m.2.1))=au ((m.2.2.take i).filter λx=>decide (x∈s') && !decide (x∈m.2.1)):=λe=>by
      rw[aq hx,yN,As,e]
      simp
     cases c2:decide (x∈s') with
     |false =>
      refine aQ ?_
      refine aQ ⟨?_,hys4,sm4⟩
      rw[no (by rw[c2];rfl)]
     |true =>
      refine a9 ?_
      refine⟨_,rfl,_,rfl,l,au m.2.1,rfl,.inl (aA.of (sB _ _ hl)),rfl,bH _,_,rfl,?_⟩
      show if (!o7 (V.str x) (au m.2.1))=true then _ else _
      rw[dh]
      cases c3:decide (x∈m.2.1) with
      |true =>
       refine aQ ⟨?_,hys4,sm4⟩
       rw[no (by rw[c2,c3];rfl)]
      |false =>
       refine a9 ⟨_,rfl,hys4,iJ gv4 (by decide),?_,ab,ax sm4 hD2⟩
       rw[aq hx,yN,As,c2,c3]
       unfold au
       simp
    ·rintro ys H4 ⟨rfl,hys4,sm4⟩
     rw[ah,yH]at hys4
     refine⟨yC _,λe2 ne2=>?_⟩
     have s2:ar H4 (upd H4 e2 (.lst [])):=ag ne2
     refine⟨D2,e2,_,rfl,rfl,hu0,aA.of (s2 _ _ hys4),aA.of ab,_,rfl,?_⟩
     rw[jg]
     have smB:=smA.trans (sm4.trans s2)
     cases c2:second m.2.1 m.2.2 s' with
     |true =>
      refine a9 ?_
      have e:wordOf m s' = "full":=by unfold wordOf;rw[if_neg (by rw[c1];simp),if_pos c2]
      have q:=kk _ smB
      rw[e]at q
      exact q
     |false =>
      refine aQ ?_
      have e:wordOf m s' = "may":=by unfold wordOf;rw[if_neg (by rw[c1];simp),if_neg (by rw[c2];simp)]
      have q:=kk _ smB
      rw[e]at q
      exact q
def gD:Sp:=λvs H Q _=>∃(ms:List Mv) (s:List Str) (m:Mv),m9 H vs ms s m/\∀H' q,ar H H'->H q=none->H' q=some (.tup (au (behind m.2.1 m.2.2 s)))->Q (.ref q) H'
def ff:az ["_law_moves", "_law_state", "_law_move", "_law_takes", "_law_gives"] ["_law_moves", "_law_state", "_law_move"] (av eS):=fo
def nF{f:Addr}{fd:FuncData}(F:dt K "_law_behind" "_law_behind" eS f fd)(T:Txt K mg):aI P w K mg base cj 1 f fd ["_law_moves", "_law_state", "_law_move"] gD:=by
 refine F.oK ff (len:=λ_ _ _ _ h=>by obtain⟨_,_,_,⟨_,_,rfl,_⟩,_⟩:=h;rfl) λcdv A outer s H vs Q E hr h=>?_
 ·obtain⟨ms,s',m,⟨d,a,rfl,D,hn,hm,hmv,ha,hz⟩,kk⟩:=h
  have hsl:=yK
  have hu:=df hr
  refine⟨_,af (j9 (cD hu (pv 0) (pv 2) (λ_ _=>rfl)) (dP rfl (aF (fm 3 ff) (aF (fm 4 ff) cI))))
   (ao (aB (aO bj rfl T.tup eI (aa (ay cA rfl T.aD cN (aa (aw cQ (bD (N:=["_law_place", "_law_takes"]) (n:=1) (ci:=[3]) rfl (qf (pv 1))
     (mn ff)
     (λz=>⟨kD 0,dA (aE bf (pv 0) (pv 1) (by with_unfolding_all rfl)),pv 0⟩)) (pv 4)) ae)) ae)))),?_⟩
  clear hu
  dsimp only[bq,Cx.eE]
  obtain⟨v,dg,t,l,g,rfl,ht,hl,hg⟩:=D.get hn hm
  obtain⟨_,_,_,tk4,gv4⟩:=cF hmv
  refine⟨_,rfl,_,rfl,d,_,rfl,dg,t,_,rfl,cY.of ht,rfl,_,_,rfl,_,_,rfl,rfl,?_⟩
  refine⟨_,rfl,a,rfl,⟨_,cY.of ha⟩,λz D1 hD1=>lS (a:=a) (xs:=au s') (λi ys H2=>ys=au ((s'.take i).filter λx=>!decide (x∈m.2.1))/\H2 D1=some (.lst ys)/\ar H H2) ⟨rfl,ab,ag hD1⟩ (λi ys H2 _ p=>cY.of (p.2.2 _ _ ha)) ?_ ?_⟩
  ·rintro i v ys H2 hi ⟨rfl,hys,sm⟩
   obtain⟨x,hx,rfl⟩:=bL hi
   refine⟨_,rfl,_,rfl,l,au m.2.1,rfl,.inl (aA.of (sm _ _ hl)),rfl,bH _,_,rfl,?_⟩
   show if (!o7 (V.str x) (au m.2.1))=true then _ else _
   rw[dh]
   cases c1:decide (x∈m.2.1) with
   |true =>
    refine aQ ⟨?_,hys,sm⟩
    rw[aq hx,yN]
    simp[c1]
   |false =>
    refine a9 ⟨_,rfl,hys,iJ hz (by decide),?_,ab,ax sm hD1⟩
    rw[aq hx,yN]
    unfold au
    simp[c1]
  ·rintro ys H2 ⟨rfl,hys,sm⟩
   rw[ah,yH]at hys
   have lf:(s'.filter λx=>!decide (x∈m.2.1)).length<=50:=yI (y9 _ _) hz
   refine⟨_,rfl,D1,g,_,_,rfl,rfl,hys,sm _ _ hg,?_,λq3 nq3=>?_⟩
   ·rw[ah,ah]
    lia
   have e1:au (s'.filter λx=>!decide (x∈m.2.1))++au m.2.2=au ((s'.filter λx=>!decide (x∈m.2.1))++m.2.2):=by unfold au;rw[List.map_append]
   rw[e1]
   refine⟨q3,_,rfl,aA.of ab,?_,λq4 nq4=>⟨q4,_,rfl,.inl ⟨aA.of ab,λq5 nq5=>?_⟩⟩⟩
   ·rw[yp]
    lia
   have s5:=(ag (o:=.lst (au ((s'.filter λx=>!decide (x∈m.2.1))++m.2.2))) nq3).trans (ag (o:=.lst (au (aD ((s'.filter λx=>!decide (x∈m.2.1))++m.2.2)))) nq4)
   refine kk _ q5 ((sm.trans s5).trans (ag nq5)) ((sm.trans s5).free nq5) ?_
   rw[ab]
   rfl
abbrev FP:List (List Str×Nat)->List (List Key×V)->Prop:=Paired λp kv=>kv.1=cS p.1/\kv.2=.int (p.2:Nat)
theorem FP.none{t:List Str}:∀{ws:List (List Str×Nat)} {kvs:List (List Key×V)},FP ws kvs->t∉ws.map (·.1)->cL kvs (cS t)=.none
 |_,_,.nil,_=>rfl
 |p::ws,kv::kvs,.cons h r,e=>by
  have ht:¬p.1=t:=λz=>e (by simp[z])
  rw[cw (λz=>ht (gA (h.1.symm.trans z)))]
  exact FP.none r λz=>e (yM _ z)
theorem FP.some{t:List Str}{d:Nat}:∀{ws:List (List Str×Nat)} {kvs:List (List Key×V)},FP ws kvs->(ws.map (·.1)).Nodup->(t,d)∈ws->cL kvs (cS t)=.some (.int (d:Nat))
 |_,_,.nil,_,e=>by simp at e
 |p::ws,kv::kvs,.cons h r,hn,e=>by
  obtain⟨n1,n2⟩:=zp.mp (show(p.1::ws.map (·.1)).Nodup from hn)
  rcases yr.mp e with z|z
  ·subst z
   rw[c7 h.1,h.2]
  ·have ht:¬p.1=t:=λy=>n1 (by rw[y];exact yx.mpr ⟨(t,d),z,rfl⟩)
   rw[cw (λz=>ht (gA (h.1.symm.trans z)))]
   exact FP.some r n2 z
def FP.there{t:List Str}{ws:List (List Str×Nat)}{kvs:List (List Key×V)}(h:FP ws kvs)(hn:(ws.map (·.1)).Nodup)(ht:t∈ws.map (·.1)):∃d:Nat,cL kvs (cS t)=.some (.int (d:Nat)):=by
 obtain⟨p,hp,rfl⟩:=yx.mp ht
 exact⟨p.2,h.some hn hp⟩
def iq{ms:List Mv}{t:List Str}(hn:(names ms).Nodup):bK ms t=none↔∀m∈ms,¬(bh m.2.1 t=false/\second m.2.1 m.2.2 t=true):=by
 unfold bK
 rw[AJ]
 constructor
 ·intro h m hm ⟨h1,h2⟩
  refine h m.1 (cV.mpr (yx.mpr ⟨m,hm,rfl⟩)) ?_
  unfold bT dX
  rw[cx hn hm,cX hn hm,h1,h2]
  rfl
 ·intro h x hx
  obtain⟨m,hm,rfl⟩:=bW hx
  unfold bT dX
  rw[cx hn hm,cX hn hm]
  intro z
  obtain⟨z1,z2⟩:=yA.mp z
  exact h m hm ⟨by simpa using z1,z2⟩
def mQ{ms:List Mv}{t:List Str}{x:Str}(hn:(names ms).Nodup)(h:bK ms t=some x):∃m∈ms,m.1=x/\bh m.2.1 t=false/\second m.2.1 m.2.2 t=true:=by
 have h1:=List.find?_some h
 have h2:=List.mem_of_find?_eq_some h
 obtain⟨m,hm,rfl⟩:=bW h2
 unfold bT dX at h1
 rw[cx hn hm,cX hn hm]at h1
 obtain⟨z1,z2⟩:=yA.mp h1
 exact⟨m,hm,rfl,by simpa using z1,z2⟩
def nV{ms:List Mv}{t:List Str}{m:Mv}(hn:(names ms).Nodup)(hm:m∈ms):m.1∈gi ms t↔bh m.2.1 t=false/\second m.2.1 m.2.2 t=false:=by
 rw[kB]
 unfold bT dX
 rw[cx hn hm,cX hn hm]
 exact⟨λh=>h.2,λh=>⟨yx.mpr ⟨m,hm,rfl⟩,h⟩⟩
def rR{ms:List Mv}{t:List Str}{m:Mv}(hn:(names ms).Nodup)(hm:m∈ms):bA ms t m.1=behind m.2.1 m.2.2 t:=by
 unfold bA
 rw[cx hn hm,cX hn hm]
def pM{m:Mv}{t:List Str}(h:bh m.2.1 t=true):wordOf m t="held":=by unfold wordOf;rw[if_pos h]
def jz{m:Mv}{t:List Str}(h:bh m.2.1 t=false)(h2:second m.2.1 m.2.2 t=true):wordOf m t="full":=by unfold wordOf;rw[if_neg (by rw[h];simp),if_pos h2]
def kJ{m:Mv}{t:List Str}(h:bh m.2.1 t=false)(h2:second m.2.1 m.2.2 t=false):wordOf m t="may":=by unfold wordOf;rw[if_neg (by rw[h];simp),if_neg (by rw[h2];simp)]
def xK:decide (V.str ("held":Str)=V.str ("full":Str))=false:=by decide +kernel
def xk:decide (V.str ("held":Str)=V.str ("may":Str))=false:=by decide +kernel
def x6:decide (V.str ("may":Str)=V.str ("full":Str))=false:=by decide +kernel
def vZ:decide (V.str ("may":Str)=V.str ("may":Str))=true:=by decide +kernel
def wg:decide (V.str ("full":Str)=V.str ("full":Str))=true:=by decide +kernel
def uw:Sp:=λvs H Q _=>∃(dm as:Addr) (ms:List Mv) (st:List Str),vs=[.ref dm,.ref as]/\bY H dm ms/\Sound ms st/\H as=some (.tup (au (aD st))) /\
 (∀H',ar H H'->(∀k t,UfBfs.At (graph ms) (aD st) k t->bK ms t=none)->Q .non H') /\
 (∀H' (dd:Nat) t,ar H H'->UfBfs.At (graph ms) (aD st) dd t->bK ms t≠none->(∀j u,UfBfs.At (graph ms) (aD st) j u->bK ms u≠none->dd<=j)->Q (.int ((dd:Nat)+1)) H')
def hV:az ["_law_moves", "_law_start", "_law_far_here", "_law_waiting", "_law_k", "_law_state", "_law_move", "_law_word_here"] ["_law_moves", "_law_start"] (av sS):=fo
structure ir(ms:List Mv)(st:List Str)(H H2:Hp)(d a:Addr)(k:Nat)(ws:List (List Str×Nat)):Prop where
 sm:ar H H2
 fd:∃kvs,H2 d=some (.dT kvs)/\FP ws kvs
 wt:iD H2 a (ws.map (·.1))
 qi:UfBfs.QI (graph ms) (aD st) k ws
 fine:∀t∈ws.map (·.1),ee ms st t
def ir.then{ms:List Mv}{st:List Str}{H H2 H3:Hp}{d a:Addr}{k:Nat}{ws:List (List Str×Nat)}(h:ir ms st H H2 d a k ws)(s:ar H2 H3):ir ms st H H3 d a k ws:=by
 obtain⟨sm,⟨kvs,h1,h2⟩,⟨qs,h3,h4⟩,qi,fine⟩:=h
 exact⟨sm.trans s,⟨kvs,s _ _ h1,h2⟩,⟨qs,s _ _ h3,Paired.dy h4 λ_ _ e=>s _ _ e⟩,qi,fine⟩
def ir.oV{ms:List Mv}{st:List Str}{H H2:Hp}{d a:Addr}{k:Nat}{ws:List (List Str×Nat)}(so:Sound ms st)(h:ir ms st H H2 d a k ws):ws.length<=4096:=by
 have:=iX so h.qi.nd h.fine
 rwa[yf]at this
def uT{f:Addr}{fd:FuncData}(F:dt K "_law_far" "_law_far" sS f fd)(T:Txt K mg)(DW:h9 P w K mg base "_law_word" lY ["_law_moves", "_law_state", "_law_move"] 1 mW)
  (DB:h9 P w K mg base "_law_behind" eS ["_law_moves", "_law_state", "_law_move"] 1 gD) :
  aI P w K mg base cj 2 f fd ["_law_moves", "_law_start"] uw:=by
 refine F.oK hV λcdv A outer s H vs Q E hr h=>?_
 ·obtain⟨dm,as,ms,st,rfl,D,so,has,kn,ks⟩:=h
  have hsl:=yK
  have hu:=df hr
  refine⟨_,af (bV 2 hV (jE hu (pv 1) aj))
   (af (bV 3 hV (aL (aa (pv 1) ae)))
   (af (bV 4 hV aj)
   (af (gy yJ (aE nQ (pv 4) (ay aU rfl T.len cm (aa (pv 3) ae)) (aZ _))
    (af (bV 5 hV (aW aJ (pv 3) (pv 4) (λ_ _=>rfl)))
    (af (bV 4 hV (aw bZ (pv 4) aj))
    (ao (bG yJ rfl (ou (pv 0)) (fm 6 hV)
     (af (bV 7 hV (eM DW hr (aa (pv 0) (aa (pv 5) (aa (pv 6) ae)))))
     (af (br (aE ft (pv 7) ba (aZ _)) (ao (aB (aw bZ (cD hu (pv 2) (pv 5) (λ_ _=>rfl)) aj))) aK)
     (ao (br (PW.pt (pw_and (aE ft (pv 7) ba (aZ _)) (pw_and1 (fR (fh hu (eM DB hr (aa (pv 0) (aa (pv 5) (aa (pv 6) ae)))) (pv 2))))))
      (af (eo hu (pv 2) (eM DB hr (aa (pv 0) (aa (pv 5) (aa (pv 6) ae)))) (aw bZ (cD hu (pv 2) (pv 5) (λ_ _=>rfl)) aj) rfl)
      (ao (bN (eK yO yS yT bb (pv 3) (aa (eM DB hr (aa (pv 0) (aa (pv 5) (aa (pv 6) ae)))) ae))))) aK)))))))))
   (ao (aB kb))))),?_⟩
  clear hu
  dsimp only[bq,Cx.eE]
  intro d nd
  have sd:ar H (upd H d (.dT [])):=ag nd
  refine⟨_,rfl,ab,cS (aD st),as,rfl,(by rw[dF];exact sd _ _ has),?_⟩
  have s2:ar H (upd (upd H d (.dT [])) d (.dT [(cS (aD st),V.int 0)])):=ax sd nd
  have hd2:(upd (upd H d (.dT [])) d (.dT [(cS (aD st),V.int 0)])) d=some (.dT [(cS (aD st),V.int 0)]):=ab
  generalize upd (upd H d (.dT [])) d (.dT [(cS (aD st),V.int 0)])=H2 at s2 hd2 ⊢
  refine⟨_,rfl,by show 1<=sizeLine;lia,λa na=>?_⟩
  have s3:ar H2 (upd H2 a (.lst [.ref as])):=ag na
  have na0:H a=none:=s2.free na
  have fs:=fG so
  have nnd:=so.nd
  obtain⟨om,kvm,hdm,mpm⟩:=id D
  have I0:ir ms st H (upd H2 a (.lst [.ref as])) d a 0 [(aD st,0)]:=⟨s2.trans s3,⟨_,s3 _ _ hd2,.cons ⟨rfl,rfl⟩ .nil⟩,⟨[as],ab,.cons ((s2.trans s3) _ _ has) .nil⟩,UfBfs.QI.start _ _,λt ht=>by
   have e:t=aD st:=by simpa using ht
   rw[e];exact fs⟩
  refine⟨λm σ H4=>∃(k:Nat) (ws:List (List Str×Nat)) (v5 v6 v7:Option V),σ=[some (.ref dm),some (.ref as),some (.ref d),some (.ref a),some (.int k),v5,v6,v7]/\ir ms st H H4 d a k ws/\k<=ws.length/\m=5000-k,
   ⟨_,0,_,none,none,none,rfl,I0,by simp,rfl⟩,?_⟩
  rintro m σ H4 ⟨k,ws,v5,v6,v7,rfl,I4,hk,em⟩
  obtain⟨qs,ha4,hp4⟩:=I4.wt
  have oV:=I4.oV so
  have lq:qs.length=ws.length:=by rw[<-yG hp4,yf]
  refine⟨_,rfl,_,rfl,_,ws.length,rfl,.inl ⟨_,aA.of ha4,by rw[yf,lq]⟩,_,_,rfl,rfl,_,rfl,?_⟩
  by_cases hlt:k<ws.length
  ·rw[yy (show((k:Nat):Int)<((ws.length:Nat):Int) by lia)]
   refine a9 ?_
   refine⟨λσ' H'=>∃m',m'<m/\∃(k:Nat) (ws:List (List Str×Nat)) (v5 v6 v7:Option V),σ'=[some (.ref dm),some (.ref as),some (.ref d),some (.ref a),some (.int k),v5,v6,v7]/\ir ms st H H' d a k ws/\k<=ws.length/\m'=5000-k,λσ' H' h=>h,?_⟩
   obtain⟨⟨t,dd⟩,htd⟩:∃p,ws[k]?=some p:=⟨ws[k],yg hlt⟩
   have hqk:qs[k]?=some qs[k]:=yg (by lia)
   obtain⟨t',ht',htq⟩:=a7 hp4 hqk
   have et:t'=t:=by
    rw[yR,htd]at ht'
    exact(yV ht').symm
   subst et
   generalize qs[k]=tq at hqk htq
   have hft:ee ms st t':=I4.fine t' (yx.mpr ⟨(t',dd),yq htd,rfl⟩)
   have l12:=hft.len so
   refine⟨_,rfl,_,rfl,a,_,_,_,rfl,rfl,aA.of ha4,cG (j:=k) (by rw[yR,hqk];rfl),?_⟩
   refine⟨_,rfl,_,_,rfl,rfl,?_⟩
   have s04:=I4.sm
   refine⟨_,rfl,dm,om,kvm,rfl,s04 _ _ hdm,ro (a:=dm) (o:=om) (kvs:=kvm) (λj σ H5=>∃(ws:List (List Str×Nat)) (v6 v7:Option V),σ=[some (.ref dm),some (.ref as),some (.ref d),some (.ref a),some (.int ((k:Nat)+1)),some (.ref tq),v6,v7]/\ir ms st H H5 d a k ws/\k<ws.length/\ws[k]?=some (t',dd)/\H5 tq=some (.tup (au t')) /\
     (∀m∈ms.take j,¬(bh m.2.1 t'=false/\second m.2.1 m.2.2 t'=true))/\∀m∈ms.take j,bh m.2.1 t'=false->second m.2.1 m.2.2 t'=false->behind m.2.1 m.2.2 t'∈ws.map (·.1))
    ⟨ws,v6,v7,rfl,I4,hlt,htd,htq,λm hm=>by simp at hm,λm hm=>by simp at hm⟩ (λj σ H5 _ ⟨_,_,_,_,I5,_⟩=>I5.sm _ _ hdm) ?_ ?_⟩
   ·rintro j kx vx σ H5 hj ⟨ws,v6,v7,rfl,I5,hlt5,htd5,htq5,hnf,hmy⟩
    obtain⟨m,hmj,hkm,_⟩:=a7 mpm hj
    have hkm:kx=Sum.inr m.1:=hkm
    subst hkm
    have hm:m∈ms:=yq hmj
    have hmv:=so.mv m hm
    have etk:ms.take (j+1)=ms.take j++[m]:=aq hmj
    have ask:∀{H':Hp},ar H5 H'->m9 H' [.ref dm,.ref tq,.str m.1] ms t' m:=λs=>⟨dm,tq,rfl,(D.same I5.sm).same s,nnd,hm,hmv,s _ _ htq5,by lia⟩
    refine⟨_,rfl,_,rfl,_,rfl,ms,t',m,ask (ar.refl _),λH6 s6=>?_⟩
    have I6:=I5.then s6
    have htq6:=s6 _ _ htq5
    refine⟨_,rfl,rfl,_,rfl,?_⟩
    have mem1:∀{x:Mv},x∈ms.take (j+1)->x∈ms.take j\/x=m:=λhx=>by
     rw[etk]at hx
     rcases yo.mp hx with z|z
     ·exact .inl z
     ·exact .inr (by simpa using z)
    have skip:∀{ws':List (List Str×Nat)} {H':Hp} {v7:Option V},ir ms st H H' d a k ws'->k<ws'.length->ws'[k]?=some (t',dd)->H' tq=some (.tup (au t'))->(∀x∈ws.map (·.1),x∈ws'.map (·.1))->¬(bh m.2.1 t'=false/\second m.2.1 m.2.2 t'=true)->(bh m.2.1 t'=false->second m.2.1 m.2.2 t'=false->behind m.2.1 m.2.2 t'∈ws'.map (·.1)) ->
      ∃(ws:List (List Str×Nat)) (v6 v7':Option V),[some (.ref dm),some (.ref as),some (.ref d),some (.ref a),some (.int ((k:Nat)+1)),some (.ref tq),some (V.str m.1),v7]=[some (.ref dm),some (.ref as),some (.ref d),some (.ref a),some (.int ((k:Nat)+1)),some (.ref tq),v6,v7']/\ir ms st H H' d a k ws/\k<ws.length/\ws[k]?=some (t',dd)/\H' tq=some (.tup (au t')) /\
       (∀m∈ms.take (j+1),¬(bh m.2.1 t'=false/\second m.2.1 m.2.2 t'=true))/\∀m∈ms.take (j+1),bh m.2.1 t'=false->second m.2.1 m.2.2 t'=false->behind m.2.1 m.2.2 t'∈ws.map (·.1):=λ{ws' H' v7} I' h1 h2 h3 hsub h4 h5 =>
     ⟨ws',_,_,rfl,I',h1,h2,h3,λx hx=>(mem1 hx).elim (λz=>hnf x z) (λz=>by rw[z];exact h4),λx hx e1 e2=>(mem1 hx).elim (λz=>hsub _ (hmy x z e1 e2)) (λz=>by rw[z]at e1 e2 ⊢;exact h5 e1 e2)⟩
    obtain⟨kvs6,hd6,fp6⟩:=I6.fd
    have htk6:H6 tq=some (.tup ((cS t').map kV)):=by rw[dF];exact htq6
    have hget:cL kvs6 (cS t')=some (.int (dd:Nat)):=fp6.some I6.qi.nd (yq htd5)
    cases c1:bh m.2.1 t' with
    |true =>
     rw[pM c1,xK]
     refine aQ ?_
     refine⟨_,rfl,rfl,_,rfl,?_⟩
     rw[xk]
     refine aQ ?_
     refine aQ ?_
     exact skip I6 hlt5 htd5 htq6 (λ_ z=>z) (λz=>by rw[c1]at z;cases z.1) (λz=>by rw[c1]at z;cases z)
    |false =>
     cases c2:second m.2.1 m.2.2 t' with
     |true =>
      rw[jz c1 c2,wg]
      refine a9 ?_
      refine⟨_,rfl,_,rfl,d,_,rfl,(by rw[<-hget];exact dW.t hd6 htk6),_,_,rfl,rfl,?_⟩
      obtain⟨f1,f2⟩:=I6.qi.found htd5
      refine ks H6 dd t' I6.sm f1 (λz=>(iq nnd).mp z m hm ⟨c1,c2⟩) f2
     |false =>
      rw[kJ c1 c2,x6]
      refine aQ ?_
      refine⟨_,rfl,rfl,_,rfl,?_⟩
      rw[vZ]
      refine a9 ?_
      refine⟨_,rfl,_,rfl,_,rfl,ms,t',m,ask s6,λH7 q7 s7 nq7 hq7=>?_⟩
      have I7:=I6.then s7
      have hd7:=s7 _ _ hd6
      have hq7k:H7 q7=some (.tup ((cS (behind m.2.1 m.2.2 t')).map kV)):=by rw[dF];exact hq7
      refine⟨_,rfl,d,_,rfl,dW.t hd7 hq7k,_,rfl,?_⟩
      by_cases hin:behind m.2.1 m.2.2 t'∈ws.map (·.1)
      ·obtain⟨e,he⟩:=fp6.there I6.qi.nd hin
       rw[he]
       refine aQ ?_
       exact skip I7 hlt5 htd5 (s7 _ _ htq6) (λ_ z=>z) (λz=>by rw[c2]at z;cases z.2) (λ_ _=>hin)
      ·rw[fp6.none hin]
       refine a9 ?_
       have htk7:=s7 _ _ htk6
       refine⟨_,rfl,_,rfl,d,_,rfl,(by rw[<-hget];exact dW.t hd7 htk7),_,_,rfl,rfl,_,rfl,?_⟩
       refine⟨_,rfl,_,rfl,_,rfl,ms,t',m,ask (s6.trans s7),λH8 q8 s8 nq8 hq8=>?_⟩
       have hd8:=s8 _ _ hd7
       have hq8k:H8 q8=some (.tup ((cS (behind m.2.1 m.2.2 t')).map kV)):=by rw[dF];exact hq8
       have lkv:kvs6.length=ws.length:=(yG fp6).symm
       have few6:=I6.oV so
       refine⟨d,_,rfl,gQ.t hd8 hq8k (by lia),?_⟩
       have pk:putK kvs6 (cS (behind m.2.1 m.2.2 t')) (V.int ((dd:Nat)+1))=kvs6++[(cS (behind m.2.1 m.2.2 t'),V.int ((dd:Nat)+1))]:=dc _ (fp6.none hin)
       rw[pk]
       have I8:=I7.then s8
       obtain⟨qs8,ha8,hp8⟩:=I8.wt
       have t9:kh H8 (upd H8 d (.dT (kvs6++[(cS (behind m.2.1 m.2.2 t'),V.int ((dd:Nat)+1))]))):=eW hd8 (λ_ z=>nomatch z)
       have s9:ar H (upd H8 d (.dT (kvs6++[(cS (behind m.2.1 m.2.2 t'),V.int ((dd:Nat)+1))]))):=ax I8.sm nd
       have nad:a≠d:=aN ha8 hd8 (λz=>nomatch z)
       have ha9:(upd H8 d (.dT (kvs6++[(cS (behind m.2.1 m.2.2 t'),V.int ((dd:Nat)+1))]))) a=some (.lst (qs8.map V.ref)):=by rw[ai nad];exact ha8
       have hd9:(upd H8 d (.dT (kvs6++[(cS (behind m.2.1 m.2.2 t'),V.int ((dd:Nat)+1))]))) d=some (.dT (kvs6++[(cS (behind m.2.1 m.2.2 t'),V.int ((dd:Nat)+1))])):=ab
       have htq9:=t9 _ _ (s8 _ _ (s7 _ _ htq6))
       have hp9:=Paired.dy hp8 λt q (e:H8 q=some (.tup (au t)))=>t9 q _ e
       generalize upd H8 d (.dT (kvs6++[(cS (behind m.2.1 m.2.2 t'),V.int ((dd:Nat)+1))]))=H9 at t9 s9 ha9 hd9 htq9 hp9 ⊢
       refine⟨_,rfl,.inl ⟨rfl,_,aA.of ha9⟩,_,rfl,_,rfl,_,rfl,ms,t',m,⟨dm,tq,rfl,D.same s9,nnd,hm,hmv,htq9,by lia⟩,λH10 q10 s10 nq10 hq10=>?_⟩
       have ha10:=s10 _ _ ha9
       have lq8:qs8.length=ws.length:=by rw[<-yG hp8,yf]
       refine⟨a,_,_,rfl,rfl,ha10,(by rw[yf];lia),?_⟩
       have t11:kh H10 (upd H10 a (.lst (qs8.map V.ref++[V.ref q10]))):=eW ha10 (λ_ z=>nomatch z)
       have hmay:m.1∈(graph ms).may t':=(nV nnd hm).mpr ⟨c1,c2⟩
       have eq:=UfBfs.QI.add I6.qi htd5 hmay
       have enx:(graph ms).nxt t' m.1=behind m.2.1 m.2.2 t':=rR nnd hm
       have ead:UfBfs.addQ (graph ms) t' dd ws m.1=ws++[(behind m.2.1 m.2.2 t',dd+1)]:=by
        unfold UfBfs.addQ
        rw[enx,yt hin]
       rw[ead]at eq
       have hfb:ee ms st (behind m.2.1 m.2.2 t'):=jF so hft hm c2
       refine skip (ws':=ws++[(behind m.2.1 m.2.2 t',dd+1)]) ⟨ax (s9.trans s10) na0,⟨_,by rw[ai nad.symm];exact s10 _ _ hd9,zu fp6 ⟨rfl,by simp⟩⟩,⟨qs8++[q10],by rw[ab,yk];rfl,?_⟩,eq,λu hu=>?_⟩ (by simp;lia) (by rw[zq hlt5];exact htd5) (t11 _ _ (s10 _ _ htq9)) (λx hx=>by rw[yk];exact yU _ hx) (λz=>by rw[c2]at z;cases z.2) (λ_ _=>by simp)
       ·rw[yk]
        exact zu (Paired.dy hp9 λt q (e:H9 q=some (.tup (au t)))=>t11 q _ (s10 _ _ e)) (t11 _ _ hq10)
       ·rw[yk]at hu
        rcases yo.mp hu with z|z
        ·exact I6.fine u z
        ·have e:u=behind m.2.1 m.2.2 t':=by simpa using z
         rw[e]
         exact hfb
   ·rintro σ H5 ⟨ws,v6,v7,rfl,I5,hlt5,htd5,htq5,hnf,hmy⟩
    have el:kvm.length=ms.length:=(yG mpm).symm
    rw[el,yH]at hnf hmy
    refine⟨5000-(k+1),by have:=I5.oV so;lia,k+1,ws,_,_,_,rfl,⟨I5.sm,I5.fd,I5.wt,I5.qi.step htd5 ((iq nnd).mpr hnf) λx hx=>?_,I5.fine⟩,hlt5,rfl⟩
    obtain⟨h1,h2,h3⟩:=kB.mp hx
    obtain⟨m,hm,rfl⟩:=yx.mp h1
    obtain⟨e1,e2⟩:=(nV nnd hm).mp hx
    show bA ms t' m.1∈_
    rw[rR nnd hm]
    exact hmy m hm e1 e2
  ·rw[yL (show ¬((k:Nat):Int)<((ws.length:Nat):Int) by lia)]
   refine aQ ?_
   have ek:k=ws.length:=by lia
   subst ek
   exact kn H4 I4.sm I4.qi.done
end Uf
end
section
namespace UfBfs
variable {σ μ:Type}[DecidableEq σ]
def bx.inv{g:G σ μ}{s u:σ}{r:List μ}{m:μ}(h:bx g s (r++[m]) u):∃t,bx g s r t/\m∈g.may t/\u=g.nxt t m:=by
 generalize hr:r++[m]=r' at h
 cases h with
 |nil=>simp at hr
 |snoc h1 h2 =>
  obtain⟨e1,e2⟩:=List.append_inj' hr rfl
  simp at e2
  subst e1 e2
  exact⟨_,h1,h2,rfl⟩
theorem bx.pre{g:G σ μ}{s:σ}:∀{r2:List μ} {r1:List μ} {u:σ},bx g s (r1++r2.reverse) u->∃t,bx g s r1 t
 |[],r1,u,h=>⟨u,by simpa using h⟩
 |m::r2,r1,u,h=>by
  rw[Ba,<-zT]at h
  obtain⟨t,h1,_⟩:=h.inv
  exact bx.pre h1
theorem bx.take{g:G σ μ}{s u:σ}{r:List μ}(h:bx g s r u)(i:Nat):∃t,bx g s (r.take i) t:=by
 have e:r=r.take i++(r.drop i).reverse.reverse:=by rw[List.reverse_reverse,ze]
 rw[e]at h
 exact bx.pre h
def bx.det{g:G σ μ}{s:σ}{r:List μ}{t:σ}(h:bx g s r t):∀{u:σ},bx g s r u->t=u:=by
 induction h with
 |nil =>
  intro u hu
  generalize hr:([]:List μ)=r' at hu
  cases hu with
  |nil=>rfl
  |snoc _ _=>simp at hr
 |snoc h1 h2 ih =>
  intro u hu
  obtain⟨t',h3,_,rfl⟩:=hu.inv
  rw[ih h3]
end UfBfs
namespace Uf
open PySem L2 UfSrt UfFin
def mX{ms:List Mv}{st:List Str}(so:Sound ms st){r:List Str}{t:List Str}(h:UfBfs.bx (graph ms) (aD st) r t):ee ms st t:=by
 induction h with
 |nil=>exact fG so
 |snoc _ h2 ih=>exact(ip so ih h2).choose_spec.2.2.2.2.2
def ly:Sp:=λvs H Q _=>∃(a dm as:Addr) (ms:List Mv) (st r:List Str) (x:Str) (t:List Str),vs=[.ref a,.ref dm,.ref as,.int ((r.length:Nat)+1)]/\H a=some (.lst (au (r++[x])))/\bY H dm ms/\Sound ms st/\H as=some (.tup (au (aD st)))/\r.length<=5000 /\
 UfBfs.bx (graph ms) (aD st) r t/\bK ms t=some x/\∀H',ar H H'->Q (.bl true) H'
def e7:az ["_law_row", "_law_moves", "_law_start", "_law_many", "_law_state", "_law_k", "_law_due"] ["_law_row", "_law_moves", "_law_start", "_law_many"] (av ij):=fo
def p9{f:Addr}{fd:FuncData}(F:dt K "_law_crowds" "_law_crowds" ij f fd)(T:Txt K mg)(T2:Txt2 mg)(DW:h9 P w K mg base "_law_word" lY ["_law_moves", "_law_state", "_law_move"] 1 mW)
  (DB:h9 P w K mg base "_law_behind" eS ["_law_moves", "_law_state", "_law_move"] 1 gD) :
  aI P w K mg base cj 2 f fd ["_law_row", "_law_moves", "_law_start", "_law_many"] ly:=by
 refine F.oK e7 λcdv A outer s H vs Q E hr h=>?_
 ·obtain⟨a,dm,as,ms,st,r,x,t,rfl,ha,D,so,has,hr5,hle,hcr,kk⟩:=h
  have hsl:=yK
  have hu:=df hr
  refine⟨_,af (br (PW.pt (pw_or (cy (cv (ay lu rfl T.isi tQ (aa (pv 0) (aa (oy (v:=.ty "list") rfl T.lst eO rfl) ae))))) (pw_or1 (aE tO (ay aU rfl T.len cm (aa (pv 0) ae)) (pv 3) (aZ _))))) (ao (aB hE)) aK)
   (af (bV 4 e7 (pv 2))
   (af (bG yJ rfl (cZ rfl T2.rng (aa (pv 3) ae)) (fm 5 e7)
    (af (bV 6 e7 (aW aJ (aL (aa ba (aa ba ae))) (aO px rfl T2.int wD (aa (dJ ft (pv 5) (aw mJ (pv 3) aj) (aZ _)) ae)) (λ_ _=>rfl)))
    (af (br (PW.pt (pw_or (fR (fh hu (aW aJ (pv 0) (pv 5) (λ_ _=>rfl)) (pv 1))) (pw_or1 (aE tO (eM DW hr (aa (pv 1) (aa (pv 4) (aa (aW aJ (pv 0) (pv 5) (λ_ _=>rfl)) ae)))) (pv 6) (aZ _))))) (ao (aB hE)) aK)
    (ao (br (aE nQ (pv 5) (aw mJ (pv 3) aj) (aZ _)) (ao (bV 4 e7 (eM DB hr (aa (pv 1) (aa (pv 4) (aa (aW aJ (pv 0) (pv 5) (λ_ _=>rfl)) ae)))))) aK)))))
   (ao (aB hE)))),?_⟩
  clear hu
  dsimp only[bq,Cx.eE]
  have nnd:=so.nd
  have l1:(r++[x]).length=r.length+1:=by simp
  refine⟨_,rfl,_, "list",_,true,rfl,fF.lst ha,(by rfl),true,rfl,?_⟩
  refine aQ ?_
  refine⟨_,rfl,_,r.length+1,rfl,.inl ⟨_,aA.of ha,by rw[ah,l1]⟩,_,rfl,rfl,_,rfl,?_⟩
  refine wG (by simp) ?_
  refine⟨_,rfl,?_⟩
  refine⟨_,rfl,_,rfl,by lia,by lia,c5 (lo:=0) (n:=(((r.length:Nat):Int)+1).toNat) (λi σ H2=>∃(v5 v6:Option V) (q:Addr) (u:List Str),σ=[some (.ref a),some (.ref dm),some (.ref as),some (.int ((r.length:Nat)+1)),some (.ref q),v5,v6]/\ar H H2/\(i<=r.length->H2 q=some (.tup (au u))/\UfBfs.bx (graph ms) (aD st) (r.take i) u))
   ⟨none,none,as,aD st,rfl,ar.refl _,λ_=>⟨has,.nil⟩⟩ ?_ ?_⟩
  ·rintro i σ H2 hi ⟨v5,v6,q,u,rfl,sm,hiu⟩
   have hir:i<=r.length:=by lia
   obtain⟨hq,hlu⟩:=hiu hir
   have hfu:=mX so hlu
   have l12:=hfu.len so
   have l2:(r++[x]).length=r.length+1:=l1
   rcases Nat.lt_or_eq_of_le hir with hlt|heq
   ·-- a move that may be done
    obtain⟨u',hu'⟩:=hle.take (i+1)
    rw[aq (yg hlt)]at hu'
    obtain⟨u2,hl2,hmay,eu'⟩:=hu'.inv
    have e2:=hlu.det hl2
    subst e2
    obtain⟨m,hm,hmy,c1,c2,eb,hfb⟩:=ip so hfu hmay
    have hat:gH (au (r++[x])) (0+((i:Nat):Int))=some (V.str m.1):=by
     rw[cH (by lia) (by rw[l2];lia),hmy]
     have e0:(0+((i:Nat):Int)).toNat=i:=by lia
     rw[e0,yl,zq hlt,yg hlt]
     rfl
    have ed:decide (V.int (0+((i:Nat):Int))=V.int (((r.length:Nat):Int)+1-1))=false:=yL (by intro z;injection z with z;lia)
    have el:decide (0+((i:Nat):Int)<((r.length:Nat):Int)+1-1)=true:=yy (by lia)
    refine⟨by show 2<=sizeLine;lia,λl nl=>?_⟩
    have sl:ar H2 (upd H2 l (.lst [V.str "may",V.str "full"])):=ag nl
    refine⟨_,rfl,_,rfl,_,_,rfl,rfl,rfl,.inr ⟨_,rfl,l,_,_,V.str "may",rfl,rfl,aA.of ab,?at1,?_⟩⟩
    case at1 =>
     show gH [V.str "may",V.str "full"] (if decide (V.int (0+((i:Nat):Int))=V.int (((r.length:Nat):Int)+1-1))=true then 1 else 0)=some (V.str "may")
     rw[ed]
     rfl
    have sm3:=sm.trans sl
    have hq3:=sl _ _ hq
    generalize upd H2 l (.lst [V.str "may",V.str "full"])=H3 at sl sm3 hq3 ⊢
    obtain⟨v,dg,_⟩:=(D.same sm3).get nnd hm
    refine⟨_,rfl,_,rfl,a,_,_,_,rfl,rfl,aA.of (sm3 _ _ ha),hat,_,rfl,dm,_,rfl,dg,_,rfl,?_⟩
    refine aQ ?_
    refine⟨_,rfl,_,rfl,_,rfl,_,rfl,a,_,_,_,rfl,rfl,aA.of (sm3 _ _ ha),hat,ms,u,m,⟨dm,q,rfl,D.same sm3,nnd,hm,so.mv m hm,hq3,by lia⟩,λH4 s4=>⟨_,rfl,rfl,_,rfl,?_⟩⟩
    rw[kJ c1 c2,vZ]
    refine aQ ?_
    have sm4:=sm3.trans s4
    refine⟨_,rfl,_,rfl,_,_,rfl,rfl,_,_,rfl,rfl,_,rfl,?_⟩
    rw[el]
    refine a9 ?_
    refine⟨_,rfl,_,rfl,_,rfl,_,rfl,a,_,_,_,rfl,rfl,aA.of (sm4 _ _ ha),hat,ms,u,m,⟨dm,q,rfl,D.same sm4,nnd,hm,so.mv m hm,s4 _ _ hq3,by lia⟩,λH5 q5 s5 nq5 hq5=>?_⟩
    refine⟨_,_,q5,behind m.2.1 m.2.2 u,rfl,sm4.trans s5,λ_=>⟨hq5,?_⟩⟩
    rw[aq (yg hlt)]
    have e3:=UfBfs.bx.snoc hlu hmay
    have e4:(graph ms).nxt u r[i]=behind m.2.1 m.2.2 u:=eb
    rw[e4]at e3
    exact e3
   ·-- the last one
    subst heq
    rw[yH]at hlu
    have e2:=hle.det hlu
    subst e2
    obtain⟨m,hm,hmy,c1,c2⟩:=mQ nnd hcr
    have hat:gH (au (r++[x])) (0+((r.length:Nat):Int))=some (V.str m.1):=by
     rw[cH (by lia) (by rw[l2];lia),hmy]
     have e0:(0+((r.length:Nat):Int)).toNat=r.length:=by lia
     rw[e0,yl,Av (yi _),Nat.sub_self]
     rfl
    have ed:decide (V.int (0+((r.length:Nat):Int))=V.int (((r.length:Nat):Int)+1-1))=true:=yy (by congr 1;lia)
    have el:decide (0+((r.length:Nat):Int)<((r.length:Nat):Int)+1-1)=false:=yL (by lia)
    refine⟨by show 2<=sizeLine;lia,λl nl=>?_⟩
    have sl:ar H2 (upd H2 l (.lst [V.str "may",V.str "full"])):=ag nl
    refine⟨_,rfl,_,rfl,_,_,rfl,rfl,rfl,.inr ⟨_,rfl,l,_,_,V.str "full",rfl,rfl,aA.of ab,?at1,?_⟩⟩
    case at1 =>
     show gH [V.str "may",V.str "full"] (if decide (V.int (0+((r.length:Nat):Int))=V.int (((r.length:Nat):Int)+1-1))=true then 1 else 0)=some (V.str "full")
     rw[ed]
     rfl
    have sm3:=sm.trans sl
    have hq3:=sl _ _ hq
    generalize upd H2 l (.lst [V.str "may",V.str "full"])=H3 at sl sm3 hq3 ⊢
    obtain⟨v,dg,_⟩:=(D.same sm3).get nnd hm
    refine⟨_,rfl,_,rfl,a,_,_,_,rfl,rfl,aA.of (sm3 _ _ ha),hat,_,rfl,dm,_,rfl,dg,_,rfl,?_⟩
    refine aQ ?_
    refine⟨_,rfl,_,rfl,_,rfl,_,rfl,a,_,_,_,rfl,rfl,aA.of (sm3 _ _ ha),hat,ms,t,m,⟨dm,q,rfl,D.same sm3,nnd,hm,so.mv m hm,hq3,by lia⟩,λH4 s4=>⟨_,rfl,rfl,_,rfl,?_⟩⟩
    rw[jz c1 c2,wg]
    refine aQ ?_
    refine⟨_,rfl,_,rfl,_,_,rfl,rfl,_,_,rfl,rfl,_,rfl,?_⟩
    rw[el]
    refine aQ ?_
    exact⟨_,_,q,t,rfl,sm3.trans s4,λz=>absurd z (BL _)⟩
  ·rintro σ H2 ⟨v5,v6,q,u,rfl,sm,hiu⟩
   exact kk H2 sm
def qv(xs:List V)(n:Nat)(h:n<=xs.length):dO xs none (some ((n:Nat):Int))=xs.take n:=by
 unfold dO
 rw[HT.lQ,HT.ib,Bw h]
 rfl
def u9(xs:List V)(n:Nat)(h:n<=xs.length):dO xs (some ((n:Nat):Int)) none=xs.drop n:=by
 unfold dO
 rw[HT.lQ,HT.ib,Bw h]
 exact Ai (by rw[AR];exact yi _)
def qp(xs:List Str)(n:Nat):(au xs).take n=au (xs.take n):=by unfold au;rw[List.map_take]
def qK(xs:List Str)(n:Nat):(au xs).drop n=au (xs.drop n):=by unfold au;rw[List.map_drop]
structure Made(ms:List Mv)(st:List Str)(ns:List Str):Prop where
 ps:∃ps:List Str,ps.length<=12/\gU ps ms ns/\∀x∈st,x∈ps
 su:unlike st=true
structure Part(L A:List Str)(j:Nat)(T:List Str):Prop where
 nd:T.Nodup
 len:T.length<=j
 sub:∀x∈T,x∈L
 fst:j<=1->∀x∈T,x∈A
def Part.skip{L A T:List Str}{j:Nat}(h:Part L A j T):Part L A (j+1) T:=⟨h.nd,by have:=h.len;lia,h.sub,λhj=>h.fst (by lia)⟩
def Part.add{L:List Str}{n j:Nat}{T:List Str}{x:Str}(hn:L.Nodup)(h:Part L (L.take n) j T)(hj:j<2)(hx:x∈[L.take n,L.drop n].getD j []):Part L (L.take n) (j+1) (T++[x]):=by
 have hl:=h.len
 have h2:j=0\/j=1:=by lia
 have hxL:x∈L:=by
  rcases h2 with rfl|rfl
  ·exact A0 hx
  ·exact A1 hx
 have hxT:x∉T:=λz=>by
  rcases h2 with rfl|rfl
  ·have:T=[]:=zH (by lia)
   rw[this]at z
   simp at z
  ·have z1:=h.fst (by lia) x z
   have z2:x∈L.drop n:=hx
   rw[<-ze n L]at hn
   exact(yE.mp hn).2.2 x z1 x z2 rfl
 refine⟨yE.mpr ⟨h.nd,by simp,λa ha b hb=>?_⟩,by simp;lia,λy hy=>?_,λhj1 y hy=>?_⟩
 ·have e:b=x:=by simpa using hb
  subst e
  rintro rfl
  exact hxT ha
 ·rcases yo.mp hy with z|z
  ·exact h.sub y z
  ·have e:y=x:=by simpa using z
   rw[e];exact hxL
 ·have h0:j=0:=by lia
  subst h0
  rcases yo.mp hy with z|z
  ·exact h.fst (by lia) y z
  ·have e:y=x:=by simpa using z
   rw[e];exact hx
def iG{t u:TS}{D:Ends}{σ:St}{H:Hp}(F:St->Hp->Prop)(hu:∀σ H,F σ H->u D σ H)(ht:(∀σ H,F σ H->u D σ H)->t { D with nx:=u D } σ H):vk t u D σ H:=ht hu
def dE(H:Hp)(rg r0 r1:Addr)(A B:List Str):Prop:=H rg=some (.lst [.ref r0,.ref r1])/\H r0=some (.lst (au A))/\H r1=some (.lst (au B))
def dE.same{H H':Hp}{rg r0 r1:Addr}{A B:List Str}(s:ar H H')(h:dE H rg r0 r1 A B):dE H' rg r0 r1 A B:=⟨s _ _ h.1,s _ _ h.2.1,s _ _ h.2.2⟩
def dE.ring{H:Hp}{rg r0 r1:Addr}{A B:List Str}(h:dE H rg r0 r1 A B){j:Nat}(hj:j<2):H ([r0,r1].getD j r0)=some (.lst (au ([A,B].getD j []))):=by
 have h2:j=0\/j=1:=by lia
 rcases h2 with rfl|rfl
 ·exact h.2.1
 ·exact h.2.2
def getD_mem{xs:List Str}{i:Nat}(h:i<xs.length):xs.getD i "" ∈ xs:=by
 rw[yl,yg h]
 exact zK h
def rm{ps T G:List Str}(hu:∀x∈ps,isNm x=true)(h1:T.Nodup)(h2:∀x∈T,x∈ps)(h3:1<=T.length)(h4:T.length<=4)(h5:G.Nodup)(h6:∀x∈G,x∈ps)(h7:G.length<=4):cP T G=true:=by
 unfold cP
 rw[cf (λx hx=>hu x (h2 x hx)) h1,cf (λx hx=>hu x (h6 x hx)) h5,yy h3,yy h4,yy h7]
 rfl
def gU.snoc{ps:List Str}{ms:List Mv}{ns:List Str}{x:Str}{T G:List Str}(h:gU ps ms ns)(h1:cP T G=true)(h2:∀y∈T,y∈ps)(h3:∀y∈G,y∈ps):gU ps (ms++[(x,T,G)]) (ns++[x]):=by
 refine⟨?_,λm hm=>?_,λm hm y hy=>?_⟩
 ·unfold names
  rw[yk]
  show names ms++[x]=_
  rw[h.nm]
 ·rcases yo.mp hm with z|z
  ·exact h.mv m z
  ·have e:m=(x,T,G):=by simpa using z
   subst e
   exact h1
 ·rcases yo.mp hm with z|z
  ·exact h.sub m z y hy
  ·have e:m=(x,T,G):=by simpa using z
   subst e
   exact hy.elim (h2 y) (h3 y)
def m5{xs:List Str}(hn:xs.Nodup){i:Nat}(hi:i<xs.length):xs[i]∉xs.take i:=λz=>by
 have etk:xs.take (i+1)=xs.take i++[xs[i]]:=aq (yg hi)
 rw[<-ze (i+1) xs,etk]at hn
 exact(yE.mp (yE.mp hn).1).2.2 _ z xs[i] (by simp) rfl
def oM(K:PySem.W.Frag):Sp:=λvs H Q _=>∃(a b c:Addr) (cs:List Int) (L nms:List Str) (more:Int),vs=[.ref a,.ref b,.ref c,.int more]/\aA K H a (cs.map V.int)/\aA K H b (au L)/\aA K H c (au nms)/\cs.length<=nms.length/\nms.length<=12/\unlike nms=true/\unlike L=true/\2<=L.length/\L.length<=11 /\
 ∀H' q d l ms st,ar H H'->H q=none->H' q=some (.tup [.ref d,.ref l])->H l=none->H' l=some (.lst (au st))->bY H' d ms->Made ms st (nms.take cs.length)->Q (.ref q) H'
def bF:az ["_law_cells", "_law_pool_here", "_law_names", "_law_more", "_law_middle", "_law_rings_here", "_law_moves", "_law_k", "_law_cell", "_law_number", "_law_takes", "_law_gives", "_law_j"] ["_law_cells", "_law_pool_here", "_law_names", "_law_more"] (av jP):=fo
inductive xT(H:Hp)(a b c rg r0 r1 d:Addr)(more:Int)(L nms:List Str)(c0:Nat)(i:Nat)(σ:St)(H2:Hp):Prop
 |mk (v4 v7 v8 v9 v10 v11 v12:Option V) (kvs:List (Key×V)) (ms:List Mv) (q0:σ=[some (.ref a),some (.ref b),some (.ref c),some (.int more),v4,some (.ref rg),some (.ref d),v7,v8,v9,v10,v11,v12]) (q1:ar H H2) (q2:dE H2 rg r0 r1 (L.take (L.length / 2)) (L.drop (L.length / 2))) (q3:H2 d=some (.dK kvs)) (q4:MP H2 ms kvs) (q5:gU (L++[sg c0]) ms (nms.take i))
inductive RI2(H3:Hp)(a b c rg d tk gv:Addr)(more ce:Int)(v4:Option V)(i:Nat)(L:List Str)(j:Nat)(σ:St)(H6:Hp):Prop
 |mk (T G:List Str) (nu:Int) (v12:Option V) (q0:σ=[some (.ref a),some (.ref b),some (.ref c),some (.int more),v4,some (.ref rg),some (.ref d),some (.int (i:Int)),some (.int ce),some (.int nu),some (.ref tk),some (.ref gv),v12]) (q1:ar H3 H6) (q2:H6 tk=some (.lst (au T))) (q3:H6 gv=some (.lst (au G))) (q4:Part L (L.take (L.length / 2)) j T) (q5:Part L (L.take (L.length / 2)) j G)
inductive RI3(H3:Hp)(a b c rg d gv:Addr)(more ce nu:Int)(v4 v12:Option V)(i:Nat)(L G:List Str)(σ:St)(H7:Hp):Prop
 |mk (tk':Addr) (T':List Str) (q0:σ=[some (.ref a),some (.ref b),some (.ref c),some (.int more),v4,some (.ref rg),some (.ref d),some (.int (i:Int)),some (.int ce),some (.int nu),some (.ref tk'),some (.ref gv),v12]) (q1:ar H3 H7) (q2:H7 tk'=some (.lst (au T'))) (q3:H7 gv=some (.lst (au G))) (q4:T'.Nodup) (q5:(∀x∈T',x∈L)) (q6:1<=T'.length) (q7:T'.length<=2)
inductive RI4(H3:Hp)(a b c rg d tk':Addr)(more ce nu:Int)(v4 v12:Option V)(i:Nat)(L T':List Str)(c0:Nat)(σ:St)(H8:Hp):Prop
 |mk (gv':Addr) (G':List Str) (q0:σ=[some (.ref a),some (.ref b),some (.ref c),some (.int more),v4,some (.ref rg),some (.ref d),some (.int (i:Int)),some (.int ce),some (.int nu),some (.ref tk'),some (.ref gv'),v12]) (q1:ar H3 H8) (q2:H8 tk'=some (.lst (au T'))) (q3:H8 gv'=some (.lst (au G'))) (q4:G'.Nodup) (q5:(∀x∈G',x∈L++[sg c0])) (q6:G'.length<=3)
def xT.same{H:Hp}{a b c rg r0 r1 d:Addr}{more:Int}{L nms:List Str}{c0:Nat}{i:Nat}{σ:St}{H2:Hp}(h:xT H a b c rg r0 r1 d more L nms c0 i σ H2):ar H H2:=by
 cases h
 assumption
def qS{f:Addr}{fd:FuncData}(F:dt K "_law_rings" "_law_rings" jP f fd)(T:Txt K mg)(T2:Txt2 mg):aI P w K mg base cj 1 f fd ["_law_cells", "_law_pool_here", "_law_names", "_law_more"] (oM K):=by
 refine F.oK bF λcdv A outer s H vs Q E hr h=>?_
 ·obtain⟨a,b,c,cs,L,nms,more,rfl,ha,hb,hc,hcn,hn12,hun,huL,hL2,hL11,kk⟩:=h
  have hsl:=yK
  have hu:=df hr
  have hu0:_<cLine:=hr.jU
  refine⟨_,af (bV 4 bF (aw aM (ay aU rfl T.len cm (aa (pv 1) ae)) aj))
   (af (bV 5 bF (aL (aa (cn e8 (pv 1) eB (cu (pv 4))) (aa (cn e8 (pv 1) (cu (pv 4)) eB) ae))))
   (af (bV 6 bF eX)
   (af (bG yJ rfl (j7 rfl T2.enm (aa (pv 0) ae)) (dP rfl (aF (fm 7 bF) (aF (fm 8 bF) cI)))
    (af (bV 9 bF (aw aV (aw nI (pv 8) aj) (aw qD aj aj)))
    (af (bV 10 bF (aL ae))
    (af (bV 11 bF (aL ae))
    (af (bG yJ rfl (cZ rfl T2.rng (aa aj ae)) (fm 12 bF)
     (af (br (PW.pt (pw_or (aE ft (aw aV (pv 9) aj) (pv 12) (aZ _)) (pw_or1 (aE ft (aw aV (pv 9) aj) aj (aZ _)))))
      (af (bN (eK yO yS yT bb (pv 10) (aa (aW aJ (aW aJ (pv 5) (pv 12) (λ_ _=>rfl)) (aw aV (aw aM (pv 9) aj) (ay aU rfl T.len cm (aa (aW aJ (pv 5) (pv 12) (λ_ _=>rfl)) ae))) (λ_ _=>rfl)) ae)))
      (ao (bN (eK yO yS yT bb (pv 11) (aa (aW aJ (aW aJ (pv 5) (pv 12) (λ_ _=>rfl)) (aw aV (aw aM (pv 9) aj) (ay aU rfl T.len cm (aa (aW aJ (pv 5) (pv 12) (λ_ _=>rfl)) ae))) (λ_ _=>rfl)) ae))))) aK)
     (ao (bV 9 bF (aw aM (pv 9) aj)))))
    (af (br (aE eq_nil (pv 10) (aL ae) (aZ _)) (ao (bV 10 bF (aL (aa (aW aJ (aW aJ (pv 5) aj (λ_ _=>rfl)) aj (λ_ _=>rfl)) ae)))) aK)
    (af (br (PW.pt (pw_and (aE ft (pv 7) aj (aZ _)) (pw_and1 (aE ft (aw aV (pv 3) aj) aj (aZ _)))))
     (ao (bV 11 bF (aw cQ (pv 11) (cn e8 (bD (N:=["_law_sign", "_law_pool_here"]) (n:=1) (ci:=[1]) rfl (mD ba)
      (mn bF)
      (λz=>⟨kD 0,dA (aE bf (pv 0) (pv 1) (by with_unfolding_all rfl)),pv 0⟩)) eB (cu aj))))) aK)
    (ao (eo hu (pv 6) (aW aJ (pv 2) (pv 7) (λ_ _=>rfl)) (eN (aa (pv 10) (aa (pv 11) ae))) rfl)))))))))
   (ao (aB (eN (aa (mR (pv 6)) (aa (aL (aa (aW aJ (aW aJ (pv 5) aj (λ_ _=>rfl)) aj (λ_ _=>rfl)) (aa (aW aJ (aW aJ (pv 5) aj (λ_ _=>rfl)) (tX qo aj) (λ_ _=>rfl)) ae))) ae)))))))),?_⟩
  clear hu
  dsimp only[bq,Cx.eE]
  have hmid:L.length / 2<=L.length:=Nat.div_le_self _ _
  have em:((L.length:Nat):Int) / 2=((L.length / 2:Nat):Int):=by lia
  refine⟨_,rfl,_,L.length,rfl,.inl ⟨_,hb,(ah L).symm⟩,_,_,rfl,rfl,⟨by decide,by decide⟩,?_⟩
  refine⟨_,rfl,_,rfl,_,rfl,b,au L,rfl,hb,λr0 n0=>?_⟩
  have s0:ar H (upd H r0 (.lst (dO (au L) none (some (((L.length:Nat):Int) / 2))))):=ag n0
  have h0:(upd H r0 (.lst (dO (au L) none (some (((L.length:Nat):Int) / 2))))) r0=some (.lst (au (L.take (L.length / 2)))):=by
   rw[ab,em,qv _ _ (by rw[ah];exact hmid),qp]
  generalize upd H r0 (.lst (dO (au L) none (some (((L.length:Nat):Int) / 2))))=H0 at s0 h0 ⊢
  refine⟨_,rfl,_,rfl,_,rfl,b,au L,rfl,s0.seq hb,λr1 n1=>?_⟩
  have s1:ar H0 (upd H0 r1 (.lst (dO (au L) (some (((L.length:Nat):Int) / 2)) none))):=ag n1
  have h1:(upd H0 r1 (.lst (dO (au L) (some (((L.length:Nat):Int) / 2)) none))) r1=some (.lst (au (L.drop (L.length / 2)))):=by
   rw[ab,em,u9 _ _ (by rw[ah];exact hmid),qK]
  generalize upd H0 r1 (.lst (dO (au L) (some (((L.length:Nat):Int) / 2)) none))=H1 at s1 h1 ⊢
  refine⟨by show 2<=sizeLine;lia,λrg nrg=>?_⟩
  have s2:ar H1 (upd H1 rg (.lst [.ref r0,.ref r1])):=ag nrg
  have rgs:dE (upd H1 rg (.lst [.ref r0,.ref r1])) rg r0 r1 (L.take (L.length / 2)) (L.drop (L.length / 2)):=⟨ab,s2 _ _ (s1 _ _ h0),s2 _ _ h1⟩
  have sB:=s0.trans (s1.trans s2)
  generalize upd H1 rg (.lst [.ref r0,.ref r1])=H1b at s2 rgs sB ⊢
  intro d nd
  have sd:ar H1b (upd H1b d (.dK [])):=ag nd
  have nd0:H d=none:=sB.free nd
  have ndL:=a5 huL
  have hfl:=hW (L:=L) (by lia)
  have hmem:∀x∈dI.cps.toList.filter (λc=>!decide (sg c∈L)),x∈dI.cps.toList/\sg x∉L:=λx hx=>by
   obtain⟨z1,z2⟩:=zm.mp hx
   exact⟨z1,by simpa using z2⟩
  generalize hFl:dI.cps.toList.filter (λc=>!decide (sg c∈L))=Fl at hfl hmem
  obtain⟨c0,rest,eFl⟩:∃c0 rest,Fl=c0::rest:=by
   cases Fl with
   |nil=>exact absurd rfl hfl
   |cons x y=>exact⟨x,y,rfl⟩
  obtain⟨hc1,hc2⟩:=hmem c0 (by rw[eFl];exact yW)
  have hps:∀x∈L++[sg c0],isNm x=true:=λx hx=>by
   rcases yo.mp hx with z|z
   ·exact bQ huL z
   ·have e:x=sg c0:=by simpa using z
    rw[e];exact n8 hc1
  have inL:∀{x:Str},x∈L->x∈L++[sg c0]:=λh=>yU _ h
  have lA:1<=(L.take (L.length / 2)).length:=by rw[yB];lia
  have lB:1<=(L.drop (L.length / 2)).length:=by rw[AR];lia
  refine⟨_,rfl,a,rfl,⟨_,(sB.trans sd).seq ha⟩,iU (K:=K) (a:=a) (xs:=cs.map V.int) (xT H a b c rg r0 r1 d more L nms c0)
   ⟨_,none,none,none,none,none,none,[],[],rfl,sB.trans sd,rgs.same sd,ab,.nil,⟨rfl,λm hm=>by simp at hm,λm hm=>by simp at hm⟩⟩ (λi σ H2 _ h=>h.same.seq ha) ?_ ?_⟩
  ·rintro i v p σ H2 hi ⟨v4,v7,v8,v9,v10,v11,v12,kvs,ms,rfl,sm,rg2,hd2,mp,mo⟩ np
   have hil:i<cs.length:=by
    have:=(yz.mp hi).1
    rwa[yf]at this
   obtain⟨ce,rfl⟩:∃z,v=V.int z:=by
    rw[yR]at hi
    cases e:cs[i]? with
    |none=>rw[e]at hi;cases hi
    |some z=>rw[e]at hi;exact⟨z,(yV hi).symm⟩
   have sp:ar H2 (upd H2 p (.tup [.int (i:Int),.int ce])):=ag np
   refine⟨p,_,rfl,cY.of ab,rfl,_,_,rfl,_,_,rfl,rfl,?_⟩
   have sm3:=sm.trans sp
   have hd3:=sp _ _ hd2
   have mp3:=mp.same sp
   have rg3:=rg2.same sp
   generalize upd H2 p (.tup [.int (i:Int),.int ce])=H3 at sp sm3 hd3 mp3 rg3 ⊢
   refine⟨_,rfl,_,_,rfl,rfl,.inr ⟨by decide,by decide⟩,_,_,rfl,rfl,⟨by decide,by decide,by decide⟩,_,_,rfl,rfl,(by rw[wV];show(0:Int)<1000000000000000;decide),?_⟩
   rw[wV]
   generalize ce*381966011250107 % 1000000000000000=num0
   refine⟨yC _,λtk ntk=>?_⟩
   refine⟨yC _,λgv ngv=>?_⟩
   have s4:ar H3 (upd H3 tk (.lst [])):=ag ntk
   have ngv3:H3 gv=none:=s4.free ngv
   have ntg:tk≠gv:=ak ab ngv
   have s5:ar H3 (upd (upd H3 tk (.lst [])) gv (.lst [])):=s4.trans (ag ngv)
   refine⟨_,rfl,by decide,by decide,c5 (lo:=0) (n:=2) (RI2 H3 a b c rg d tk gv more ce v4 i L)
    ⟨[],[],_,_,rfl,s5,(by rw[ai ntg];exact ab),ab,⟨by simp,by simp,λx hx=>by simp at hx,λ_ x hx=>by simp at hx⟩,⟨by simp,by simp,λx hx=>by simp at hx,λ_ x hx=>by simp at hx⟩⟩ ?_ ?_⟩
   ·rintro j σ H6 hj ⟨T,G,nu,v12,rfl,s6,htk,hgv,pT,pG⟩
    have rg6:=rg3.same s6
    have hrj:=rg6.ring hj
    have hpos:0<([L.take (L.length / 2),L.drop (L.length / 2)].getD j []).length:=by
     have h2:j=0\/j=1:=by lia
     rcases h2 with rfl|rfl
     ·exact lA
     ·exact lB
    have hatj:gH [V.ref r0,V.ref r1] (0+((j:Nat):Int))=some (V.ref ([r0,r1].getD j r0)):=by
     have h2:j=0\/j=1:=by lia
     rcases h2 with rfl|rfl <;> rfl
    have addT:∀{T:List Str} {x:Str},Part L (L.take (L.length / 2)) j T->x∈[L.take (L.length / 2),L.drop (L.length / 2)].getD j []->Part L (L.take (L.length / 2)) (j+1) (T++[x]):=λh hx=>h.add ndL hj hx
    generalize [L.take (L.length / 2),L.drop (L.length / 2)].getD j []=Lj at hrj hpos addT
    generalize [r0,r1].getD j r0=rj at hrj hatj
    have lT:=pT.len
    have lG:=pG.len
    have i0:∀z:Int,0<=z % ((Lj.length:Nat):Int):=λz=>Ah _ (by lia)
    have i1:∀z:Int,z % ((Lj.length:Nat):Int)<((Lj.length:Nat):Int):=λz=>zN _ (by lia)
    refine⟨_,rfl,_,_,rfl,rfl,(by show(0:Int)<3;decide),_,rfl,rfl,_,rfl,?_⟩
    refine mZ (λ_=>a9 ?then1) (λ_=>?_)
    rotate_left
    refine⟨_,rfl,_,_,rfl,rfl,(by show(0:Int)<3;decide),rfl,_,rfl,?_⟩
    refine mZ (λ_=>?then2) (λ_=>?els)
    case els=>exact⟨_,rfl,_,_,rfl,rfl,⟨by decide,by decide⟩,T,G,_,_,rfl,s6,htk,hgv,pT.skip,pG.skip⟩
    all_goals
     refine⟨_,rfl,.inl ⟨rfl,_,aA.of htk⟩,_,rfl,_,rfl,rg,_,_,_,rfl,rfl,aA.of rg6.1,hatj,_,rfl,_,_,rfl,rfl,⟨by decide,by decide⟩,_,rfl,_,rfl,rg,_,_,_,rfl,rfl,aA.of rg6.1,hatj,_,Lj.length,rfl,.inl ⟨_,aA.of hrj,(ah _).symm⟩,_,_,rfl,rfl,(by lia),rj,_,_,_,rfl,rfl,aA.of hrj,cH (i0 _) (i1 _),tk,_,_,rfl,rfl,htk,(by rw[ah];lia),?_⟩
     have s7:=ax (o:=.lst (au T++[V.str (Lj.getD (nu / 3 % ((Lj.length:Nat):Int)).toNat "")])) s6 ntk
     have hgv7:(upd H6 tk (.lst (au T++[V.str (Lj.getD (nu / 3 % ((Lj.length:Nat):Int)).toNat "")]))) gv=some (.lst (au G)):=by rw[ai ntg.symm];exact hgv
     have hrj7:(upd H6 tk (.lst (au T++[V.str (Lj.getD (nu / 3 % ((Lj.length:Nat):Int)).toNat "")]))) rj=some (.lst (au Lj)):=by
      by_cases hh:rj=tk
      ·exfalso
       have h2:j=0\/j=1:=by lia
       have e0:rj=r0\/rj=r1:=by
        rcases h2 with rfl|rfl
        ·left;simpa[gH,qu] using hatj.symm
        ·right;simpa[gH,qu] using hatj.symm
       rcases e0 with e0|e0
       ·rw[<-hh,e0]at ntk;rw[rg3.2.1]at ntk;cases ntk
       ·rw[<-hh,e0]at ntk;rw[rg3.2.2]at ntk;cases ntk
      ·rw[ai hh];exact hrj
     have rg7:=rg3.same s7
     have htk7:(upd H6 tk (.lst (au T++[V.str (Lj.getD (nu / 3 % ((Lj.length:Nat):Int)).toNat "")]))) tk=some (.lst (au (T++[Lj.getD (nu / 3 % ((Lj.length:Nat):Int)).toNat ""]))):=by
      rw[ab]
      unfold au
      rw[yk]
      rfl
     have pT7:=addT pT (getD_mem (i:=(nu / 3 % ((Lj.length:Nat):Int)).toNat) (by have:=i0 (nu / 3);have:=i1 (nu / 3);lia))
     generalize upd H6 tk (.lst (au T++[V.str (Lj.getD (nu / 3 % ((Lj.length:Nat):Int)).toNat "")]))=H7 at s7 hgv7 hrj7 rg7 htk7 ⊢
     refine⟨_,rfl,.inl ⟨rfl,_,aA.of hgv7⟩,_,rfl,_,rfl,rg,_,_,_,rfl,rfl,aA.of rg7.1,hatj,_,rfl,_,_,rfl,rfl,⟨by decide,by decide⟩,_,rfl,_,rfl,rg,_,_,_,rfl,rfl,aA.of rg7.1,hatj,_,Lj.length,rfl,.inl ⟨_,aA.of hrj7,(ah _).symm⟩,_,_,rfl,rfl,(by lia),rj,_,_,_,rfl,rfl,aA.of hrj7,cH (i0 _) (i1 _),gv,_,_,rfl,rfl,hgv7,(by rw[ah];lia),?_⟩
     refine⟨_,rfl,_,_,rfl,rfl,⟨by decide,by decide⟩,_,G++[Lj.getD (nu / 36 % ((Lj.length:Nat):Int)).toNat ""],_,_,rfl,ax s7 ngv3,(by rw[ai ntg];exact htk7),?_,pT7,addT pG (getD_mem (by have:=i0 (nu / 36);have:=i1 (nu / 36);lia))⟩
     rw[ab]
     unfold au
     rw[yk]
     rfl
   ·rintro σ H6 ⟨T,G,nu,v12,rfl,s6,htk,hgv,pT,pG⟩
    dsimp only
    refine iG (RI3 H3 a b c rg d gv more ce nu v4 v12 i L G) ?_ (λcont=>?_)
    ·rintro σ H7 ⟨tk',T',rfl,s7,htk7,hgv7,nT,sT,lT1,lT2⟩
     show vk (vX _ _ _) _ _ _ _
     refine iG (RI4 H3 a b c rg d tk' more ce nu v4 v12 i L T' c0) ?_ (λcont=>?_)
     ·rintro σ H8 ⟨gv',G',rfl,s8,htk8,hgv8,nG,sG,lG⟩
      refine⟨_,rfl,_,rfl,by show 2<=sizeLine;lia,λt nt=>?_⟩
      have st:ar H8 (upd H8 t (.tup [.ref tk',.ref gv'])):=ag nt
      have ht:(upd H8 t (.tup [.ref tk',.ref gv'])) t=some (.tup [.ref tk',.ref gv']):=ab
      have sA:=s8.trans st
      have smA:=sm3.trans sA
      have hdA:=sA _ _ hd3
      have mpA:=mp3.same sA
      have rgA:=rg3.same sA
      have hq4A:=st _ _ htk8
      have hq5A:=st _ _ hgv8
      generalize upd H8 t (.tup [.ref tk',.ref gv'])=H9 at st ht sA smA hdA mpA rgA hq4A hq5A ⊢
      have hin:i<nms.length:=by lia
      refine⟨_,rfl,_,rfl,_,rfl,c,_,_,_,rfl,rfl,smA.seq hc,cH (by lia) (by lia),d,_,rfl,gQ.k (k:=Sum.inr (nms.getD ((i:Nat):Int).toNat "")) hdA (dY ?_),?_⟩
      ·have z1:=yG mp
       have z2:=zw List.length mo.nm
       unfold names at z2
       rw[yf,yB]at z2
       lia
      have en:nms.getD ((i:Nat):Int).toNat ""=nms[i]:=by rw[zx,yl,yg hin];rfl
      rw[en]
      have etk:nms.take (i+1)=nms.take i++[nms[i]]:=aq (yg hin)
      have hnew:nms[i]∉names ms:=by rw[mo.nm];exact m5 (a5 hun) hin
      have pk:putK kvs (Sum.inr nms[i]:Key) (V.ref t)=kvs++[(Sum.inr nms[i],V.ref t)]:=dc _ (mpA.none hnew)
      rw[pk]
      have up:∀{q:Addr} {o:HO},H9 q=some o->(∀k,o≠.dK k)->(upd H9 d (.dK (kvs++[(Sum.inr nms[i],V.ref t)]))) q=some o:=λe n=>by rw[ai (aN e hdA (n _))];exact e
      refine⟨_,_,_,_,_,_,_,_,ms++[(nms[i],T',G')],rfl,ax smA nd0,⟨up rgA.1 (λ_ z=>nomatch z),up rgA.2.1 (λ_ z=>nomatch z),up rgA.2.2 (λ_ z=>nomatch z)⟩,ab,?_,?_⟩
      ·exact zu (mpA.put hdA) ⟨rfl,t,tk',gv',rfl,up ht (λ_ z=>nomatch z),up hq4A (λ_ z=>nomatch z),up hq5A (λ_ z=>nomatch z)⟩
      ·rw[etk]
       exact mo.snoc (rm hps nT (λx hx=>inL (sT x hx)) lT1 (by lia) nG sG (by lia)) (λx hx=>inL (sT x hx)) sG
     ·-- if k==0 and more % 2==1
      have same:RI4 H3 a b c rg d tk' more ce nu v4 v12 i L T' c0 [some (V.ref a),some (.ref b),some (.ref c),some (.int more),v4,some (.ref rg),some (.ref d),some (.int (i:Int)),some (.int ce),some (.int nu),some (.ref tk'),some (.ref gv),v12] H7 :=
       ⟨gv,G,rfl,s7,htk7,hgv7,pG.nd,λx hx=>inL (pG.sub x hx),by have:=pG.len;lia⟩
      refine⟨_,rfl,rfl,_,rfl,?_⟩
      refine mZ (λ_=>?_) (λ_=>aQ (cont _ _ same))
      refine⟨_,rfl,_,_,rfl,rfl,(by show(0:Int)<2;decide),rfl,_,rfl,?_⟩
      refine mZ (λ_=>?_) (λ_=>cont _ _ same)
      have hb7:=(sm3.trans s7).seq hb
      refine⟨_,rfl,dI,rfl,λz D hD=>iK (λi ys H8=>ys=((dI.cps.toList.take i).filter (λc=>!decide (sg c∈L))).map sign/\H8 D=some (.lst ys)/\ar H7 H8) ⟨rfl,ab,ag hD⟩ ?_ ?_⟩
      ·rintro k cc ys H8 hcc ⟨rfl,hys,sm8⟩
       have hc':dI.cps.toList[k]?=some cc:=by rw[yY];exact hcc
       have hlen:((((dI.cps.toList.take k).filter (λc=>!decide (sg c∈L))).map sign)).length<sizeLine:=by
        rw[yf]
        have z1:=y9 (λc=>!decide (sg c∈L)) (dI.cps.toList.take k)
        have z2:(dI.cps.toList.take k).length<=26:=by
         rw[yB,cb]
         simp
         lia
        lia
       refine⟨_,rfl,_,rfl,b,au L,rfl,.inl (sm8.seq hb7),rfl,bH L,_,rfl,?_⟩
       show if (!o7 (V.str (sg cc)) (au L))=true then _ else _
       rw[dh]
       cases hc1:decide (sg cc∈L) with
       |true =>
        refine aQ ⟨?_,hys,sm8⟩
        rw[aq hc',yN]
        simp[hc1]
       |false =>
        refine a9 ⟨_,rfl,hys,hlen,?_,ab,ax sm8 hD⟩
        rw[aq hc',yN]
        simp[hc1]
      ·rintro ys H8 ⟨rfl,hys,sm8⟩
       have et:dI.cps.toList.take dI.cps.size=dI.cps.toList:=Ai (by simp)
       rw[et,hFl,eFl]at hys
       refine⟨1,rfl,D,_,rfl,aA.of hys,λq9 nq9=>?_⟩
       have e9:dO ((c0::rest).map sign) none (some (1:Int))=[V.str (sg c0)]:=qv _ 1 (by simp)
       rw[e9]
       have s9:ar H8 (upd H8 q9 (.lst [V.str (sg c0)])):=ag nq9
       have s79:=sm8.trans s9
       refine⟨gv,q9,_,_,rfl,rfl,s79 _ _ hgv7,ab,?_,λq10 nq10=>?_⟩
       ·rw[ah]
        show _+1<=sizeLine
        have:=pG.len
        lia
       refine cont _ _ ⟨q10,G++[sg c0],rfl,s7.trans (s79.trans (ag nq10)),(s79.trans (ag nq10)) _ _ htk7,?_,?_,λx hx=>?_,by have:=pG.len;simp;lia⟩
       ·rw[ab]
        unfold au
        rw[yk]
        rfl
       ·refine yE.mpr ⟨pG.nd,by simp,λx hx y hy=>?_⟩
        have e:y=sg c0:=by simpa using hy
        subst e
        rintro rfl
        exact hc2 (pG.sub _ hx)
       ·rcases yo.mp hx with z|z
        ·exact inL (pG.sub x z)
        ·exact yP _ z
    ·-- if takes==[]
     refine⟨_,rfl,yC _,λe ne=>?_⟩
     have se:ar H6 (upd H6 e (.lst [])):=ag ne
     refine⟨tk,e,_,rfl,rfl,hu0,aA.of (se _ _ htk),aA.of ab,_,rfl,?_⟩
     have s7:=s6.trans se
     have htk7:=se _ _ htk
     have hgv7:=se _ _ hgv
     have rg7:=rg3.same s7
     generalize upd H6 e (.lst [])=H7 at s7 htk7 hgv7 rg7 ⊢
     by_cases hT:T=[]
     ·subst hT
      refine a9 ?_
      have l0:(0:Nat)<(L.drop (L.length / 2)).length:=lB
      refine⟨_,rfl,rg,_,1,_,rfl,rfl,aA.of rg7.1,cG (j:=1) rfl,r1,_,0,_,rfl,rfl,aA.of rg7.2.2,cH (by decide) (by lia),by show 1<=sizeLine;lia,λq nq=>?_⟩
      have sq:ar H7 (upd H7 q (.lst [V.str ((L.drop (L.length / 2)).getD (0:Int).toNat "")])):=ag nq
      exact cont _ _ ⟨q,[(L.drop (L.length / 2)).getD (0:Int).toNat ""],rfl,s7.trans sq,ab,sq _ _ hgv7,by simp,λx hx=>by
       have e:x=_:=zh.mp hx
       rw[e]
       exact A1 (getD_mem l0),by simp,by simp⟩
     ·have e1:(au T).isEmpty=false:=by
       cases T with
       |nil=>exact absurd rfl hT
       |cons _ _=>rfl
      rw[e1]
      refine aQ ?_
      exact cont _ _ ⟨tk,T,rfl,s7,htk7,hgv7,pT.nd,pT.sub,Aa.mpr hT,pT.len⟩
  ·rintro σ H2 ⟨v4,v7,v8,v9,v10,v11,v12,kvs,ms,rfl,sm,rg2,hd2,mp,mo⟩
   rw[yf]at mo
   refine⟨_,rfl,d,kvs,rfl,hd2,λo=>?_⟩
   have up:∀{q:Addr} {u:HO},H2 q=some u->(∀k,u≠.dK k)->(upd H2 d (.frz o (.dK kvs))) q=some u:=λe n=>by rw[ai (aN e hd2 (n _))];exact e
   have rgF:dE (upd H2 d (.frz o (.dK kvs))) rg r0 r1 (L.take (L.length / 2)) (L.drop (L.length / 2)):=⟨up rg2.1 (λ_ z=>nomatch z),up rg2.2.1 (λ_ z=>nomatch z),up rg2.2.2 (λ_ z=>nomatch z)⟩
   have smF:ar H (upd H2 d (.frz o (.dK kvs))):=ax sm nd0
   have mdF:bY (upd H2 d (.frz o (.dK kvs))) d ms:=⟨o,kvs,ab,mp.put hd2⟩
   generalize upd H2 d (.frz o (.dK kvs))=HF at rgF smF mdF ⊢
   have eL:gH (au (L.drop (L.length / 2))) (-1)=some (V.str ((L.drop (L.length / 2)).getD ((L.drop (L.length / 2)).length-1) "")):=by
    unfold gH qu
    rw[yt (by decide),yF (by rw[ah];lia),ah]
    show(au (L.drop (L.length / 2)))[(-1+(((L.drop (L.length / 2)).length:Nat):Int)).toNat]?=_
    have e0:(-1+(((L.drop (L.length / 2)).length:Nat):Int)).toNat=(L.drop (L.length / 2)).length-1:=by lia
    rw[e0]
    unfold au
    rw[yR,yl,yg (by lia)]
    rfl
   refine⟨_,rfl,rg,_,0,_,rfl,rfl,aA.of rgF.1,cG (j:=0) rfl,r0,_,0,_,rfl,rfl,aA.of rgF.2.1,cH (by decide) (by lia),_,rfl,rg,_,1,_,rfl,rfl,aA.of rgF.1,cG (j:=1) rfl,1,rfl,r1,_,-1,_,rfl,rfl,aA.of rgF.2.2,eL,by show 2<=sizeLine;lia,λl nl=>⟨by show 2<=sizeLine;lia,λq nq=>?_⟩⟩
   have sl:=ag (o:=.lst [V.str ((L.take (L.length / 2)).getD (0:Int).toNat ""),V.str ((L.drop (L.length / 2)).getD ((L.drop (L.length / 2)).length-1) "")]) nl
   have sq:=ag (o:=.tup [.ref d,.ref l]) nq
   have m1:(L.take (L.length / 2)).getD (0:Int).toNat "" ∈ L.take (L.length / 2):=getD_mem lA
   have m2:(L.drop (L.length / 2)).getD ((L.drop (L.length / 2)).length-1) "" ∈ L.drop (L.length / 2):=getD_mem (by lia)
   refine kk _ q d l ms [(L.take (L.length / 2)).getD (0:Int).toNat "",(L.drop (L.length / 2)).getD ((L.drop (L.length / 2)).length-1) ""] (smF.trans (sl.trans sq)) ((smF.trans sl).free nq) ab (smF.free nl) ?_ (mdF.same (sl.trans sq)) ?_
   ·rw[ai (ak ab nq)]
    exact ab
   ·have hst:∀x∈[(L.take (L.length / 2)).getD (0:Int).toNat "",(L.drop (L.length / 2)).getD ((L.drop (L.length / 2)).length-1) ""],x∈L:=λx hx=>by
     rcases yr.mp hx with z|z
     ·rw[z];exact A0 m1
     ·have e:=zh.mp z
      rw[e];exact A1 m2
    refine⟨⟨L++[sg c0],by simp;lia,mo,λx hx=>inL (hst x hx)⟩,cf (λx hx=>bQ huL (hst x hx)) ?_⟩
    refine zp.mpr ⟨λz=>?_,by simp⟩
    have e:=zh.mp z
    rw[e]at m1
    have nn:=ndL
    rw[<-ze (L.length / 2) L]at nn
    exact(yE.mp nn).2.2 _ m1 _ m2 rfl
structure fQ(i:Nat)(x:Str):Prop where
 lo:1<=x.cps.toList.length
 hi:x.cps.toList.length<=4
 h2:i=2->x.cps.toList.length<=3
 cs:∀c∈x.cps.toList,97+4*i<=c/\c<=97+4*i+3/\c<=107
def wa{n:Int}(h1:1<=n)(h2:n<=4):fQ 0 (Txt.slice "abcd" none (some n)):=by
 have h:n=1\/n=2\/n=3\/n=4:=by lia
 rcases h with rfl|rfl|rfl|rfl <;> exact⟨by decide +kernel,by decide +kernel,by decide +kernel,by decide +kernel⟩
def wB{n:Int}(h1:1<=n)(h2:n<=4):fQ 1 (Txt.slice "efgh" none (some n)):=by
 have h:n=1\/n=2\/n=3\/n=4:=by lia
 rcases h with rfl|rfl|rfl|rfl <;> exact⟨by decide +kernel,by decide +kernel,by decide +kernel,by decide +kernel⟩
def wI{n:Int}(h1:1<=n)(h2:n<=3):fQ 2 (Txt.slice "ijk" none (some n)):=by
 have h:n=1\/n=2\/n=3:=by lia
 rcases h with rfl|rfl|rfl <;> exact⟨by decide +kernel,by decide +kernel,by decide +kernel,by decide +kernel⟩
def de:List Str:=(List.range 11).map (λk=>sg (97+k))++[sg 112]
def vD:("p":Str)=sg 112:=by
 refine tK ?_
 decide +kernel
def tH:de.length=12:=by unfold de;simp
def sH{c:Nat}(h1:97<=c)(h2:c<=107):sg c∈de:=by
 unfold de
 refine yU _ (yx.mpr ⟨c-97,Aj.mpr (by lia),?_⟩)
 congr 1
 lia
def tP:sg 112∈de:=by unfold de;simp
def mr:∀x∈de,isNm x=true:=λx hx=>by
 unfold de at hx
 rcases yo.mp hx with z|z
 ·obtain⟨k,hk,rfl⟩:=yx.mp z
  have:=Aj.mp hk
  exact n8 (jR (by lia) (by lia))
 ·have e:=zh.mp z
  rw[e]
  exact n8 (jR (by decide) (by decide))
structure sY(i:Nat)(T:List Str):Prop where
 nd:T.Nodup
 lo:∀x∈T,∃c,x=sg c/\97<=c/\c<97+4*i/\c<=107
def sY.add{i c:Nat}{T:List Str}(h:sY i T)(h1:97+4*i<=c)(h2:c<=97+4*i+3)(h3:c<=107):sY (i+1) (T++[sg c]):=by
 refine⟨yE.mpr ⟨h.nd,by simp,λa ha b hb=>?_⟩,λx hx=>?_⟩
 ·have e:b=sg c:=by simpa using hb
  subst e
  rintro rfl
  obtain⟨c',e,h4,h5,h6⟩:=h.lo _ ha
  have:=j5 e
  lia
 ·rcases yo.mp hx with z|z
  ·obtain⟨c',e,h4,h5,h6⟩:=h.lo x z
   exact⟨c',e,h4,by lia,h6⟩
  ·exact⟨c,by simpa using z,by lia,by lia,h3⟩
def sY.sub{i:Nat}{T:List Str}(h:sY i T):∀x∈T,x∈de:=λx hx=>by
 obtain⟨c,rfl,h1,_,h2⟩:=h.lo x hx
 exact sH h1 h2
abbrev Step:=List Str×List Str
structure ny(s:Step):Prop where
 mv:cP s.1 s.2=true
 s1:∀x∈s.1,x∈de
 s2:∀x∈s.2,x∈de
def eV(H:Hp)(sp:Addr)(s:Step)(q:Addr):Prop:=∃l g,H q=some (.tup [.ref l,.ref g])/\H l=some (.lst (au s.1))/\H g=some (.lst (au s.2))/\l≠sp/\g≠sp
def eV.same{H H':Hp}{sp:Addr}{s:Step}{q:Addr}(e:ar H H')(h:eV H sp s q):eV H' sp s q:=by
 obtain⟨l,g,h1,h2,h3,h4,h5⟩:=h
 exact⟨l,g,e _ _ h1,e _ _ h2,e _ _ h3,h4,h5⟩
def eV.put{H:Hp}{sp:Addr}{s:Step}{q:Addr}{xs ys:List V}(hs:H sp=some (.lst xs))(h:eV H sp s q):eV (upd H sp (.lst ys)) sp s q:=by
 obtain⟨l,g,h1,h2,h3,h4,h5⟩:=h
 exact⟨l,g,by rw[ai (aN h1 hs (λz=>nomatch z))];exact h1,by rw[ai h4];exact h2,by rw[ai h5];exact h3,h4,h5⟩
def oh{n:Nat}{z:Int}{i j:Nat}(hi:i<n)(hj:j<n)(h:(((i:Nat):Int)+z) % ((n:Nat):Int)=(((j:Nat):Int)+z) % ((n:Nat):Int)):i=j:=by
 have h1:=(Int.emod_emod_of_dvd (((i:Nat):Int)+z) (Int.dvd_refl ((n:Nat):Int)))
 have h2:((((i:Nat):Int)+z)-(((j:Nat):Int)+z)) % ((n:Nat):Int)=0:=by
  rw[Int.sub_emod,h,Int.sub_self,Int.zero_emod]
 have h3:((i:Nat):Int)+z-(((j:Nat):Int)+z)=((i:Nat):Int)-((j:Nat):Int):=by lia
 rw[h3]at h2
 obtain⟨k,hk⟩:=Int.dvd_of_emod_eq_zero h2
 have hk0:k=0:=by
  by_cases h0:k=0
  ·exact h0
  ·exfalso
   rcases Int.lt_or_gt_of_ne h0 with hlt|hgt
   ·have:((n:Nat):Int)*k<=((n:Nat):Int)*(-1):=A3 (by lia) (by lia)
    lia
   ·have:((n:Nat):Int)*1<=((n:Nat):Int)*k:=A3 (by lia) (by lia)
    lia
 rw[hk0,Int.mul_zero]at hk
 lia
def jl(K:PySem.W.Frag):Sp:=λvs H Q _=>∃(b:Addr) (c:Int) (nms:List Str),vs=[.int c,.ref b]/\aA K H b (au nms)/\nms.length=9/\unlike nms=true /\
 ∀H' q d l ms st ns,ar H H'->H q=none->H' q=some (.tup [.ref d,.ref l])->H l=none->H' l=some (.lst (au st))->bY H' d ms->Made ms st ns->unlike ns=true->ns.length<=12->Q (.ref q) H'
def a4:az ["_law_cell", "_law_names", "_law_rings_here", "_law_steps", "_law_takes", "_law_gives", "_law_ring", "_law_k", "_law_moves", "_law_step"] ["_law_cell", "_law_names"] (av fV):=fo
inductive xJ(c:Int)(b rg sp:Addr)(Hr:Hp)(i:Nat)(σ:St)(H4:Hp):Prop
 |mk (v6 v7 v8 v9:Option V) (tk gv:Addr) (T G:List Str) (S:List Step) (qs:List Addr) (q0:σ=[some (.int c),some (.ref b),some (.ref rg),some (.ref sp),some (.ref tk),some (.ref gv),v6,v7,v8,v9]) (q1:ar Hr H4) (q2:H4 tk=some (.lst (au T))) (q3:H4 gv=some (.lst (au G))) (q4:tk≠sp) (q5:gv≠sp) (q6:H4 sp=some (.lst (qs.map V.ref))) (q7:Paired (eV H4 sp) S qs) (q8:sY i T) (q9:sY i G) (q10:T.length=i) (q11:G.length=i) (q12:(∀s∈S,ny s)) (q13:S.length+(if i=3 then 1 else 0)<=3*i)
inductive CI2(c:Int)(b rg sp tk gv:Addr)(Hr:Hp)(x:Str)(v8 v9:Option V)(T G:List Str)(S:List Step)(k:Nat)(σ:St)(H5:Hp):Prop
 |mk (v7:Option V) (S':List Step) (qs:List Addr) (q0:σ=[some (.int c),some (.ref b),some (.ref rg),some (.ref sp),some (.ref tk),some (.ref gv),some (.str x),v7,v8,v9]) (q1:ar Hr H5) (q2:H5 tk=some (.lst (au T))) (q3:H5 gv=some (.lst (au G))) (q4:H5 sp=some (.lst (qs.map V.ref))) (q5:Paired (eV H5 sp) S' qs) (q6:(∀s∈S',ny s)) (q7:S'.length<=S.length+k)
inductive xx(c:Int)(b rg sp tk gv d:Addr)(HZ:Hp)(v6:Option V)(nms:List Str)(SZ:List Step)(i:Nat)(σ:St)(H7:Hp):Prop
 |mk (v7 v9:Option V) (kvs:List (Key×V)) (ms:List Mv) (q0:σ=[some (.int c),some (.ref b),some (.ref rg),some (.ref sp),some (.ref tk),some (.ref gv),v6,v7,some (.ref d),v9]) (q1:ar HZ H7) (q2:H7 d=some (.dK kvs)) (q3:MP H7 ms kvs) (q4:gU de ms ((List.range i).map λk=>nms.getD ((((k:Nat):Int)+c / 48) % ((SZ.length:Nat):Int)).toNat ""))
def xJ.same{c:Int}{b rg sp:Addr}{Hr H4:Hp}{i:Nat}{σ:St}(h:xJ c b rg sp Hr i σ H4):ar Hr H4:=by
 cases h
 assumption
def xx.same{c:Int}{b rg sp tk gv d:Addr}{HZ H4:Hp}{v6:Option V}{nms:List Str}{SZ:List Step}{i:Nat}{σ:St}(h:xx c b rg sp tk gv d HZ v6 nms SZ i σ H4):ar HZ H4:=by
 cases h
 assumption
def nk{f:Addr}{fd:FuncData}(F:dt K "_law_counter" "_law_counter" fV f fd)(T:Txt K mg)(T2:Txt2 mg):aI P w K mg base cj 1 f fd ["_law_cell", "_law_names"] (jl K):=by
 refine F.oK a4 λcdv A outer s H vs Q E hr h=>?_
 ·obtain⟨b,c,nms,rfl,hb,hn9,hun,kk⟩:=h
  have hsl:=yK
  have hu:=df hr
  refine⟨_,af (bV 2 a4 (aL (aa (cn mU ba eB (cu (aw bZ aj (aw aV (pv 0) aj)))) (aa (cn mU ba eB (cu (aw bZ aj (aw aV (aw aM (pv 0) aj) aj)))) (aa (cn mU ba eB (cu (aw bZ aj (aw aV (aw aM (pv 0) aj) aj)))) ae)))))
   (af (bV 3 a4 (aL ae))
   (af (bV 4 a4 (aL ae))
   (af (bV 5 a4 (aL ae))
   (af (bG yJ rfl (bc (pv 2)) (fm 6 a4)
    (af (bG yJ rfl (cZ rfl T2.rng (aa (aw mJ (ay aU rfl T.len cm (aa (pv 6) ae)) aj) ae)) (fm 7 a4)
     (ao (bN (eK yO yS yT bb (pv 3) (aa (eN (aa (aw cQ (pv 4) (aL (aa (aW fJ (pv 6) (pv 7) (λ_ _=>rfl)) ae))) (aa (aw cQ (pv 5) (aL (aa (aW fJ (pv 6) (aw bZ (pv 7) aj) (λ_ _=>rfl)) ae))) ae))) ae)))))
    (af (bV 4 a4 (aw cQ (pv 4) (aL (aa (aW fJ (pv 6) (tX qo aj) (λ_ _=>rfl)) ae))))
    (ao (bV 5 a4 (aw cQ (pv 5) (aL (aa (aW fJ (pv 6) aj (λ_ _=>rfl)) ae))))))))
   (af (bN (eK yO yS yT bb (pv 3) (aa (eN (aa (pv 4) (aa (aw cQ (pv 5) (aL (aa ba ae))) ae))) ae)))
   (af (bV 8 a4 eX)
   (af (bG yJ rfl (j7 rfl T2.enm (aa (pv 3) ae)) (dP rfl (aF (fm 7 a4) (aF (fm 9 a4) cI)))
    (ao (eo hu (pv 8) (aW aJ (pv 1) (aw aV (aw bZ (pv 7) (aw aM (pv 0) aj)) (ay aU rfl T.len cm (aa (pv 3) ae))) (λ_ _=>rfl)) (pv 9) rfl)))
   (ao (aB (eN (aa (mR (pv 8)) (aa (aw cQ (bD (N:=["_law_ring"]) (n:=1) (ci:=[]) rfl (bc (pv 2))
    (mn a4)
    (λz=>⟨kD 0,dB,aW fJ (pv 0) aj (λ_ _=>rfl)⟩)) (cn e8 (aL (aa ba ae)) eB (cu (aw aV (aw aM (pv 0) aj) aj)))) ae)))))))))))),?_⟩
  clear hu
  dsimp only[bq,Cx.eE]
  have k0:fQ 0 (Txt.slice "abcd" none (some (1+c % 4))):=wa (by lia) (by lia)
  have k1:fQ 1 (Txt.slice "efgh" none (some (1+c / 4 % 4))):=wB (by lia) (by lia)
  have k2:fQ 2 (Txt.slice "ijk" none (some (1+c / 16 % 3))):=wI (by lia) (by lia)
  refine⟨_,rfl,_,_,rfl,rfl,(by show(0:Int)<4;decide),_,_,rfl,rfl,_,rfl,_,rfl,(by rw[hsl];decide),_,rfl,_,_,rfl,rfl,⟨by decide,by decide⟩,_,_,rfl,rfl,(by show(0:Int)<4;decide),_,_,rfl,rfl,_,rfl,_,rfl,(by rw[hsl];decide),_,rfl,_,_,rfl,rfl,⟨by decide,by decide⟩,_,_,rfl,rfl,(by show(0:Int)<3;decide),_,_,rfl,rfl,_,rfl,_,rfl,(by rw[hsl];decide),(by show 3<=sizeLine;lia),λrg nrg=>?_⟩
  generalize Txt.slice "abcd" none (some (1+c % 4))=x0 at k0 ⊢
  generalize Txt.slice "efgh" none (some (1+c / 4 % 4))=x1 at k1 ⊢
  generalize Txt.slice "ijk" none (some (1+c / 16 % 3))=x2 at k2 ⊢
  have hall:∀i x,([x0,x1,x2]:List Str)[i]?=some x->fQ i x:=λi x h=>by
   match i,h with
   |0,h=>(have e:x0=x:=(by simpa using h);rw[<-e];exact k0)
   |1,h=>(have e:x1=x:=(by simpa using h);rw[<-e];exact k1)
   |2,h=>(have e:x2=x:=(by simpa using h);rw[<-e];exact k2)
   |i+3,h=>simp at h
  have sr:ar H (upd H rg (.lst [V.str x0,V.str x1,V.str x2])):=ag nrg
  have hrg:(upd H rg (.lst [V.str x0,V.str x1,V.str x2])) rg=some (.lst (au [x0,x1,x2])):=ab
  generalize upd H rg (.lst [V.str x0,V.str x1,V.str x2])=Hr at sr hrg ⊢
  refine⟨yC _,λsp nsp=>?_⟩
  obtain⟨H1,eU,s1,hs1⟩:=ya nsp (.lst [])
  rw[eU]
  refine⟨yC _,λtk0 ntk0=>?_⟩
  have s2:ar H1 (upd H1 tk0 (.lst [])):=ag ntk0
  have ht2:(upd H1 tk0 (.lst [])) tk0=some (.lst []):=ab
  have nt0:tk0≠sp:=(ak hs1 ntk0).symm
  generalize upd H1 tk0 (.lst [])=H2 at s2 ht2 ⊢
  refine⟨yC _,λgv0 ngv0=>?_⟩
  have s3:ar H2 (upd H2 gv0 (.lst [])):=ag ngv0
  have hg3:(upd H2 gv0 (.lst [])) gv0=some (.lst []):=ab
  have ng0:gv0≠sp:=(ak (s2 _ _ hs1) ngv0).symm
  generalize upd H2 gv0 (.lst [])=H3 at s3 hg3 ⊢
  have sr3:=s1.trans (s2.trans s3)
  have one:∀(x:Str),(au [x]).length=1:=λx=>rfl
  refine⟨_,rfl,rg,rfl,⟨_,aA.of (sr3 _ _ hrg)⟩,c9 (K:=K) (a:=rg) (xs:=au [x0,x1,x2]) (xJ c b rg sp Hr)
   ⟨none,none,none,none,tk0,gv0,[],[],[],[],rfl,sr3,s3 _ _ ht2,hg3,nt0,ng0,s3 _ _ (s2 _ _ hs1),.nil,⟨by simp,λx hx=>by simp at hx⟩,⟨by simp,λx hx=>by simp at hx⟩,rfl,rfl,λs hs=>by simp at hs,by simp⟩ (λi σ H4 _ h=>aA.of (h.same _ _ hrg)) ?_ ?_⟩
  ·rintro i v σ H4 hi ⟨v6,v7,v8,v9,tk,gv,T,G,S,qs,rfl,sm,htk,hgv,ntk,ngv,hsp,hst,lT,lG,eT,eG,hok,hS⟩
   obtain⟨x,hx,rfl⟩:=bL hi
   have ok:=hall i x hx
   have hi3:i<3:=by
    have:=(yz.mp hx).1
    simpa using this
   rw[yt (by lia)]at hS
   have o1:=ok.lo
   have o2:=ok.hi
   have xl:x.length<=sizeLine:=by rw[bP];lia
   have lc:=bP x
   refine⟨_,rfl,_,x.length,rfl,⟨xl,rfl⟩,_,_,rfl,rfl,_,rfl,by lia,by lia,c5 (lo:=0) (n:=(((x.length:Nat):Int)-1).toNat) (CI2 c b rg sp tk gv Hr x v8 v9 T G S)
    ⟨v7,S,qs,rfl,sm,htk,hgv,hsp,hst,hok,by lia⟩ ?_ ?_⟩
   ·rintro k σ H5 hk ⟨v7,S',qs,rfl,sm5,htk5,hgv5,hsp5,hst5,hok5,hS5⟩
    have hk1:k+1<x.cps.toList.length:=by lia
    have hat1:gH x.cps.toList (0+((k:Nat):Int))=some (x.cps.toList.getD (0+((k:Nat):Int)).toNat 0):=dz 0 (by lia) (by lia)
    have hat2:gH x.cps.toList (0+((k:Nat):Int)+1)=some (x.cps.toList.getD (0+((k:Nat):Int)+1).toNat 0):=dz 0 (by lia) (by lia)
    have m1:x.cps.toList.getD (0+((k:Nat):Int)).toNat 0∈x.cps.toList:=by
     rw[yl,yg (by lia)]
     exact zK _
    have m2:x.cps.toList.getD (0+((k:Nat):Int)+1).toNat 0∈x.cps.toList:=by
     rw[yl,yg (by lia)]
     exact zK _
    generalize x.cps.toList.getD (0+((k:Nat):Int)).toNat 0=c1 at hat1 m1
    generalize x.cps.toList.getD (0+((k:Nat):Int)+1).toNat 0=c2 at hat2 m2
    obtain⟨a1,a2,a3⟩:=ok.cs c1 m1
    obtain⟨b1,b2,b3⟩:=ok.cs c2 m2
    have lT1:=lT.add a1 a2 a3
    have lG1:=lG.add b1 b2 b3
    refine⟨_,rfl,.inl ⟨rfl,_,aA.of hsp5⟩,_,rfl,_,rfl,_,rfl,x,_,c1,rfl,rfl,xl,hat1,(by show 1<=sizeLine;lia),λq1 n1=>?_⟩
    have t1:ar H5 (upd H5 q1 (.lst [V.str ⟨#[c1]⟩])):=ag n1
    refine⟨tk,q1,_,_,rfl,rfl,t1 _ _ htk5,ab,(by rw[ah];show _+1<=sizeLine;lia),λq2 n2=>?_⟩
    have t2:=t1.trans (ag (o:=.lst (au T++[V.str ⟨#[c1]⟩])) n2)
    have hq2:(upd (upd H5 q1 (.lst [V.str ⟨#[c1]⟩])) q2 (.lst (au T++[V.str ⟨#[c1]⟩]))) q2=some (.lst (au (T++[sg c1]))):=by
     rw[ab]
     unfold au
     rw[yk]
     rfl
    have e2:q2≠sp:=(ak (t1 _ _ hsp5) n2).symm
    generalize upd (upd H5 q1 (.lst [V.str ⟨#[c1]⟩])) q2 (.lst (au T++[V.str ⟨#[c1]⟩]))=H6 at t2 hq2 ⊢
    refine⟨_,rfl,_,rfl,_,rfl,_,_,rfl,rfl,x,_,c2,rfl,rfl,xl,hat2,(by show 1<=sizeLine;lia),λq3 n3=>?_⟩
    have t3:ar H6 (upd H6 q3 (.lst [V.str ⟨#[c2]⟩])):=ag n3
    refine⟨gv,q3,_,_,rfl,rfl,(t2.trans t3) _ _ hgv5,ab,(by rw[ah];show _+1<=sizeLine;lia),λq4 n4=>?_⟩
    have t4:=t3.trans (ag (o:=.lst (au G++[V.str ⟨#[c2]⟩])) n4)
    have hq4:(upd (upd H6 q3 (.lst [V.str ⟨#[c2]⟩])) q4 (.lst (au G++[V.str ⟨#[c2]⟩]))) q4=some (.lst (au (G++[sg c2]))):=by
     rw[ab]
     unfold au
     rw[yk]
     rfl
    have e4:q4≠sp:=(ak ((t2.trans t3) _ _ hsp5) n4).symm
    generalize upd (upd H6 q3 (.lst [V.str ⟨#[c2]⟩])) q4 (.lst (au G++[V.str ⟨#[c2]⟩]))=H7 at t4 hq4 ⊢
    refine⟨by show 2<=sizeLine;lia,λt nt=>?_⟩
    have t5:ar H7 (upd H7 t (.tup [.ref q2,.ref q4])):=ag nt
    have hq5:(upd H7 t (.tup [.ref q2,.ref q4])) t=some (.tup [.ref q2,.ref q4]):=ab
    have tA:=t2.trans (t4.trans t5)
    have sv:eV (upd H7 t (.tup [.ref q2,.ref q4])) sp (T++[sg c1],G++[sg c2]) t:=⟨q2,q4,hq5,(t4.trans t5) _ _ hq2,t5 _ _ hq4,e2,e4⟩
    generalize upd H7 t (.tup [.ref q2,.ref q4])=H8 at t5 hq5 tA sv ⊢
    have lq:qs.length=S'.length:=(yG hst5).symm
    refine⟨sp,_,_,rfl,rfl,tA _ _ hsp5,(by rw[yf];lia),?_⟩
    have sp8:=tA _ _ hsp5
    refine⟨_,S'++[(T++[sg c1],G++[sg c2])],qs++[t],rfl,ax (sm5.trans tA) nsp,by rw[ai ntk];exact tA _ _ htk5,by rw[ai ngv];exact tA _ _ hgv5,by rw[ab,yk];rfl,?_,λs hs=>?_,by simp;lia⟩
    ·exact zu (Paired.dy hst5 λs q z=>(z.same tA).put sp8) (sv.put sp8)
    ·rcases yo.mp hs with z|z
     ·exact hok5 s z
     ·have e:s=(T++[sg c1],G++[sg c2]):=by simpa using z
      subst e
      exact⟨rm mr lT1.nd lT1.sub (by simp) (by simp;lia) lG1.nd lG1.sub (by simp;lia),lT1.sub,lG1.sub⟩
   ·rintro σ H5 ⟨v7,S',qs,rfl,sm5,htk5,hgv5,hsp5,hst5,hok5,hS5⟩
    have lpos:0<x.cps.toList.length:=by lia
    have hatL:gH x.cps.toList (-1)=some (x.cps.toList.getD (x.cps.toList.length-1) 0):=by
     unfold gH qu
     rw[yt (by decide),yF (by lia)]
     show x.cps.toList[(-1+((x.cps.toList.length:Nat):Int)).toNat]?=_
     have e0:(-1+((x.cps.toList.length:Nat):Int)).toNat=x.cps.toList.length-1:=by lia
     rw[e0,yl,yg (by lia)]
     rfl
    have hat0:gH x.cps.toList 0=some (x.cps.toList.getD (0:Int).toNat 0):=dz 0 (by decide) (by lia)
    have m1:x.cps.toList.getD (x.cps.toList.length-1) 0∈x.cps.toList:=by
     rw[yl,yg (by lia)]
     exact zK _
    have m2:x.cps.toList.getD (0:Int).toNat 0∈x.cps.toList:=by
     show x.cps.toList.getD 0 0∈x.cps.toList
     rw[yl,yg lpos]
     exact zK _
    generalize x.cps.toList.getD (x.cps.toList.length-1) 0=c1 at hatL m1
    generalize x.cps.toList.getD (0:Int).toNat 0=c2 at hat0 m2
    obtain⟨a1,a2,a3⟩:=ok.cs c1 m1
    obtain⟨b1,b2,b3⟩:=ok.cs c2 m2
    refine⟨_,rfl,_,rfl,_,rfl,x,_,c1,rfl,rfl,xl,hatL,(by show 1<=sizeLine;lia),λq1 n1=>?_⟩
    have t1:ar H5 (upd H5 q1 (.lst [V.str ⟨#[c1]⟩])):=ag n1
    refine⟨tk,q1,_,_,rfl,rfl,t1 _ _ htk5,ab,(by rw[ah];show _+1<=sizeLine;lia),λq2 n2=>?_⟩
    have t2:=t1.trans (ag (o:=.lst (au T++[V.str ⟨#[c1]⟩])) n2)
    have hq2:(upd (upd H5 q1 (.lst [V.str ⟨#[c1]⟩])) q2 (.lst (au T++[V.str ⟨#[c1]⟩]))) q2=some (.lst (au (T++[sg c1]))):=by
     rw[ab]
     unfold au
     rw[yk]
     rfl
    have e2:q2≠sp:=(ak (t1 _ _ hsp5) n2).symm
    generalize upd (upd H5 q1 (.lst [V.str ⟨#[c1]⟩])) q2 (.lst (au T++[V.str ⟨#[c1]⟩]))=H6 at t2 hq2 ⊢
    refine⟨_,rfl,_,rfl,x,_,c2,rfl,rfl,xl,hat0,(by show 1<=sizeLine;lia),λq3 n3=>?_⟩
    have t3:ar H6 (upd H6 q3 (.lst [V.str ⟨#[c2]⟩])):=ag n3
    refine⟨gv,q3,_,_,rfl,rfl,(t2.trans t3) _ _ hgv5,ab,(by rw[ah];show _+1<=sizeLine;lia),λq4 n4=>?_⟩
    have t4:=t3.trans (ag (o:=.lst (au G++[V.str ⟨#[c2]⟩])) n4)
    have hq4:(upd (upd H6 q3 (.lst [V.str ⟨#[c2]⟩])) q4 (.lst (au G++[V.str ⟨#[c2]⟩]))) q4=some (.lst (au (G++[sg c2]))):=by
     rw[ab]
     unfold au
     rw[yk]
     rfl
    have e4:q4≠sp:=(ak ((t2.trans t3) _ _ hsp5) n4).symm
    generalize upd (upd H6 q3 (.lst [V.str ⟨#[c2]⟩])) q4 (.lst (au G++[V.str ⟨#[c2]⟩]))=H7 at t4 hq4 ⊢
    have tA:=t2.trans t4
    have o3:=ok.h2
    refine⟨_,_,_,_,q2,q4,T++[sg c1],G++[sg c2],S',qs,rfl,sm5.trans tA,t4 _ _ hq2,hq4,e2,e4,tA _ _ hsp5,Paired.dy hst5 λs q z=>z.same tA,lT.add a1 a2 a3,lG.add b1 b2 b3,by simp;lia,by simp;lia,hok5,?_⟩
    split
    ·have:=o3 (by lia)
     lia
    ·lia
  ·rintro σ H4 ⟨v6,v7,v8,v9,tk,gv,T,G,S,qs,rfl,sm,htk,hgv,ntk,ngv,hsp,hst,lT,lG,eT,eG,hok,hS⟩
   have e3:(au [x0,x1,x2]).length=3:=rfl
   rw[e3]at lT lG eT eG hS
   rw[yF rfl]at hS
   have lq:qs.length=S.length:=(yG hst).symm
   refine⟨_,rfl,.inl ⟨rfl,_,aA.of hsp⟩,_,rfl,_,rfl,(by show 1<=sizeLine;lia),λq1 n1=>?_⟩
   have t1:ar H4 (upd H4 q1 (.lst [V.str "p"])):=ag n1
   refine⟨gv,q1,_,_,rfl,rfl,t1 _ _ hgv,ab,(by rw[ah];show _+1<=sizeLine;lia),λq2 n2=>?_⟩
   have t2:=t1.trans (ag (o:=.lst (au G++[V.str "p"])) n2)
   have hq2:(upd (upd H4 q1 (.lst [V.str "p"])) q2 (.lst (au G++[V.str "p"]))) q2=some (.lst (au (G++[sg 112]))):=by
    rw[ab,<-vD]
    unfold au
    rw[yk]
    rfl
   have ee2:q2≠sp:=(ak (t1 _ _ hsp) n2).symm
   generalize upd (upd H4 q1 (.lst [V.str "p"])) q2 (.lst (au G++[V.str "p"]))=H5 at t2 hq2 ⊢
   refine⟨by show 2<=sizeLine;lia,λt nt=>?_⟩
   have t3:ar H5 (upd H5 t (.tup [.ref tk,.ref q2])):=ag nt
   have tA:=t2.trans t3
   have sv:eV (upd H5 t (.tup [.ref tk,.ref q2])) sp (T,G++[sg 112]) t:=⟨tk,q2,ab,tA _ _ htk,t3 _ _ hq2,ntk,ee2⟩
   generalize upd H5 t (.tup [.ref tk,.ref q2])=H6 at t3 tA sv ⊢
   have sp6:=tA _ _ hsp
   refine⟨sp,_,_,rfl,rfl,sp6,(by rw[yf];lia),?_⟩
   have smZ:ar Hr (upd H6 sp (.lst (qs.map V.ref++[V.ref t]))):=ax (sm.trans tA) nsp
   have hspZ:(upd H6 sp (.lst (qs.map V.ref++[V.ref t]))) sp=some (.lst ((qs++[t]).map V.ref)):=by rw[ab,yk];rfl
   have hstZ:Paired (eV (upd H6 sp (.lst (qs.map V.ref++[V.ref t]))) sp) (S++[(T,G++[sg 112])]) (qs++[t]):=zu (Paired.dy hst λs q z=>(z.same tA).put sp6) (sv.put sp6)
   have okZ:∀s∈S++[(T,G++[sg 112])],ny s:=λs hs=>by
    rcases yo.mp hs with z|z
    ·exact hok s z
    ·have e:s=(T,G++[sg 112]):=by simpa using z
     subst e
     have gsub:∀x∈G++[sg 112],x∈de:=λx hx=>by
      rcases yo.mp hx with y|y
      ·exact lG.sub x y
      ·have e:=zh.mp y
       rw[e];exact tP
     refine⟨rm mr lT.nd lT.sub (by show 1<=T.length;lia) (by show T.length<=4;lia) (yE.mpr ⟨lG.nd,by simp,λa ha b hb=>?_⟩) gsub (by simp;lia),lT.sub,gsub⟩
     have e:b=sg 112:=by simpa using hb
     subst e
     rintro rfl
     obtain⟨c',e',h4,h5,h6⟩:=lG.lo _ ha
     have:=j5 e'
     lia
   have lenZ:(S++[(T,G++[sg 112])]).length<=9:=by simp;lia
   have posZ:0<(S++[(T,G++[sg 112])]).length:=by simp
   generalize upd H6 sp (.lst (qs.map V.ref++[V.ref t]))=HZ at smZ hspZ hstZ ⊢
   generalize S++[(T,G++[sg 112])]=SZ at hstZ okZ lenZ posZ
   generalize qs++[t]=qZ at hspZ hstZ
   have lqZ:qZ.length=SZ.length:=(yG hstZ).symm
   intro d nd
   have sd:ar HZ (upd HZ d (.dK [])):=ag nd
   refine⟨_,rfl,sp,rfl,⟨_,aA.of (sd _ _ hspZ)⟩,iU (K:=K) (a:=sp) (xs:=qZ.map V.ref) (xx c b rg sp tk gv d HZ v6 nms SZ)
    ⟨_,_,[],[],rfl,sd,ab,.nil,⟨rfl,λm hm=>by simp at hm,λm hm=>by simp at hm⟩⟩ (λi σ H7 _ h=>aA.of (h.same _ _ hspZ)) ?_ ?_⟩
   ·rintro i v p σ H7 hi ⟨v7,v9,kvs,ms,rfl,s7,hd7,mp7,mo⟩ np
    obtain⟨q,hqi,rfl⟩:=c8 hi
    obtain⟨st,hsi,hsv⟩:=a7 hstZ hqi
    have hin:i<SZ.length:=(yz.mp hsi).1
    have hst:=okZ st (yq hsi)
    have spp:ar H7 (upd H7 p (.tup [.int (i:Int),.ref q])):=ag np
    refine⟨p,_,rfl,cY.of ab,rfl,_,_,rfl,_,_,rfl,rfl,?_⟩
    have s8:=s7.trans spp
    have hd8:=spp _ _ hd7
    have mp8:=mp7.same spp
    generalize upd H7 p (.tup [.int (i:Int),.ref q])=H8 at spp s8 hd8 mp8 ⊢
    have j0:0<=(((i:Nat):Int)+c / 48) % ((SZ.length:Nat):Int):=Ah _ (by lia)
    have j1:(((i:Nat):Int)+c / 48) % ((SZ.length:Nat):Int)<((SZ.length:Nat):Int):=zN _ (by lia)
    have sA:=(sr.trans smZ).trans s8
    refine⟨_,rfl,_,rfl,_,rfl,_,rfl,_,rfl,_,_,rfl,rfl,⟨by decide,by decide⟩,_,_,rfl,rfl,_,rfl,_,SZ.length,rfl,.inl ⟨_,aA.of (s8 _ _ hspZ),by rw[yf,lqZ]⟩,_,_,rfl,rfl,(by lia),b,_,_,_,rfl,rfl,sA.seq hb,cH j0 (by lia),d,_,rfl,gQ.k (k:=Sum.inr (nms.getD ((((i:Nat):Int)+c / 48) % ((SZ.length:Nat):Int)).toNat "")) hd8 (dY ?_),?_⟩
    ·have z1:=yG mp7
     have z2:=zw List.length mo.nm
     unfold names at z2
     rw[yf,yf,Bc]at z2
     lia
    have hnew:nms.getD ((((i:Nat):Int)+c / 48) % ((SZ.length:Nat):Int)).toNat "" ∉ names ms:=λz=>by
     rw[mo.nm]at z
     obtain⟨k,hk,ek⟩:=yx.mp z
     have hk:=Aj.mp hk
     have j2:0<=(((k:Nat):Int)+c / 48) % ((SZ.length:Nat):Int):=Ah _ (by lia)
     have j3:(((k:Nat):Int)+c / 48) % ((SZ.length:Nat):Int)<((SZ.length:Nat):Int):=zN _ (by lia)
     have w1:((((i:Nat):Int)+c / 48) % ((SZ.length:Nat):Int)).toNat<nms.length:=by lia
     have w2:((((k:Nat):Int)+c / 48) % ((SZ.length:Nat):Int)).toNat<nms.length:=by lia
     rw[yl,yl,yg w1,yg w2]at ek
     have e5:=(Bh (a5 hun)).mp ek
     have:=oh (n:=SZ.length) (z:=c / 48) (i:=k) (j:=i) (by lia) hin (by lia)
     lia
    have pk:putK kvs (Sum.inr (nms.getD ((((i:Nat):Int)+c / 48) % ((SZ.length:Nat):Int)).toNat ""):Key) (V.ref q)=kvs++[(Sum.inr (nms.getD ((((i:Nat):Int)+c / 48) % ((SZ.length:Nat):Int)).toNat ""),V.ref q)]:=dc _ (mp8.none hnew)
    rw[pk]
    obtain⟨l,g,g1,g2,g3,_,_⟩:=hsv.same s8
    refine⟨_,_,_,ms++[(nms.getD ((((i:Nat):Int)+c / 48) % ((SZ.length:Nat):Int)).toNat "",st.1,st.2)],rfl,ax s8 nd,ab,?_,?_⟩
    ·refine zu (mp8.put hd8) ⟨rfl,q,l,g,rfl,?_,?_,?_⟩
     ·rw[ai (aN g1 hd8 (λz=>nomatch z))];exact g1
     ·rw[ai (aN g2 hd8 (λz=>nomatch z))];exact g2
     ·rw[ai (aN g3 hd8 (λz=>nomatch z))];exact g3
    ·rw[List.range_succ,yk]
     exact mo.snoc hst.mv hst.s1 hst.s2
   ·rintro σ H7 ⟨v7,v9,kvs,ms,rfl,s7,hd7,mp7,mo⟩
    have eln:(qZ.map V.ref).length=SZ.length:=by rw[yf,lqZ]
    rw[eln]at mo
    refine⟨_,rfl,d,kvs,rfl,hd7,λo=>?_⟩
    have sF:ar HZ (upd H7 d (.frz o (.dK kvs))):=ax s7 nd
    have mdF:bY (upd H7 d (.frz o (.dK kvs))) d ms:=⟨o,kvs,ab,mp7.put hd7⟩
    generalize upd H7 d (.frz o (.dK kvs))=HF at sF mdF ⊢
    have smF:=sr.trans (smZ.trans sF)
    have hrgF:=(smZ.trans sF) _ _ hrg
    refine⟨_,rfl,rg,rfl,⟨_,aA.of hrgF⟩,λz D hD=>bC (a:=rg) (xs:=au [x0,x1,x2]) (λi ys H8=>ys=au ((([x0,x1,x2]:List Str).take i).map λx=>sg (x.cps.toList.getD 0 0))/\H8 D=some (.lst ys)/\ar HF H8) ⟨rfl,ab,ag hD⟩ (λi ys H8 _ p=>aA.of (p.2.2 _ _ hrgF)) ?_ ?_⟩
    ·rintro i v ys H8 hi ⟨rfl,hys,s8⟩
     obtain⟨x,hx,rfl⟩:=bL hi
     have ok:=hall i x hx
     have o1:=ok.lo
     have o2:=ok.hi
     refine⟨_,rfl,x,0,_,rfl,rfl,(by rw[bP];lia),dz 0 (by decide) (by lia),hys,?_,?_,ab,ax s8 hD⟩
     ·rw[ah,yf,yB]
      show min i 3<sizeLine
      lia
     ·rw[aq hx,yk]
      unfold au
      rw[yk]
      rfl
    ·rintro ys H8 ⟨rfl,hys,s8⟩
     have et:([x0,x1,x2]:List Str).take (au [x0,x1,x2]).length=[x0,x1,x2]:=rfl
     rw[et]at hys
     refine⟨by show 1<=sizeLine;lia,λq1 n1=>?_⟩
     have t1:ar H8 (upd H8 q1 (.lst [V.str "p"])):=ag n1
     refine⟨_,rfl,_,_,rfl,rfl,⟨by decide,by decide⟩,_,_,rfl,rfl,(by show(0:Int)<3;decide),_,rfl,q1,_,rfl,aA.of ab,λq2 n2=>?_⟩
     obtain⟨pl,epl,hpl⟩:∃pl:List Str,dO [V.str "p"] none (some (c / 432 % 3))=au pl/\(pl=[]\/pl=[sg 112]):=by
      have h3:c / 432 % 3=0\/c / 432 % 3=1\/c / 432 % 3=2:=by lia
      rcases h3 with e|e|e
      ·exact⟨[],by rw[e];rfl,.inl rfl⟩
      ·exact⟨[sg 112],by rw[e,<-vD];rfl,.inr rfl⟩
      ·exact⟨[sg 112],by rw[e,<-vD];rfl,.inr rfl⟩
     have lpl:pl.length<=1:=by rcases hpl with e|e <;> rw[e] <;> simp
     have t2:=t1.trans (ag (o:=.lst (dO [V.str "p"] none (some (c / 432 % 3)))) n2)
     have hq2:(upd (upd H8 q1 (.lst [V.str "p"])) q2 (.lst (dO [V.str "p"] none (some (c / 432 % 3))))) q2=some (.lst (au pl)):=by rw[ab,epl]
     generalize upd (upd H8 q1 (.lst [V.str "p"])) q2 (.lst (dO [V.str "p"] none (some (c / 432 % 3))))=H9 at t2 hq2 ⊢
     refine⟨D,q2,_,_,rfl,rfl,t2 _ _ hys,hq2,(by rw[ah,ah,yf];show 3+_<=sizeLine;lia),λq3 n3=>⟨by show 2<=sizeLine;lia,λq4 n4=>?_⟩⟩
     have sA:=smF.trans (s8.trans t2)
     have t3:=ag (o:=.lst (au (([x0,x1,x2]:List Str).map λx=>sg (x.cps.toList.getD 0 0))++au pl)) n3
     have t4:=ag (o:=.tup [.ref d,.ref q3]) n4
     have okx:∀i x,([x0,x1,x2]:List Str)[i]?=some x->97+4*i<=x.cps.toList.getD 0 0/\x.cps.toList.getD 0 0<=97+4*i+3/\x.cps.toList.getD 0 0<=107:=λi x hx=>by
      have ok:=hall i x hx
      have o1:=ok.lo
      refine ok.cs _ ?_
      rw[yl,yg (by lia)]
      exact zK _
     have y0:=okx 0 x0 rfl
     have y1:=okx 1 x1 rfl
     have y2:=okx 2 x2 rfl
     have low:sY 3 (([x0,x1,x2]:List Str).map λx=>sg (x.cps.toList.getD 0 0)) :=
      (((sY.mk (i:=0) (T:=[]) (by simp) (λx hx=>by simp at hx)).add (c:=x0.cps.toList.getD 0 0) (by lia) (by lia) (by lia)).add (c:=x1.cps.toList.getD 0 0) (by lia) (by lia) (by lia)).add (c:=x2.cps.toList.getD 0 0) (by lia) (by lia) (by lia)
     generalize ([x0,x1,x2]:List Str).map (λx=>sg (x.cps.toList.getD 0 0))=FL at hys low t3 t4 n4 ⊢
     have hsub:∀x∈FL++pl,x∈de:=λx hx=>by
      rcases yo.mp hx with y|y
      ·exact low.sub x y
      ·rcases hpl with e|e
       ·rw[e]at y;simp at y
       ·rw[e]at y
        have e:=zh.mp y
        rw[e];exact tP
     refine kk _ q4 d q3 ms (FL++pl) _ (sA.trans (t3.trans t4)) ((sA.trans t3).free n4) ab (sA.free n3) ?_ (mdF.same ((s8.trans t2).trans (t3.trans t4))) ⟨⟨de,by rw[tH];exact yi _,mo,hsub⟩,cf (λx hx=>mr x (hsub x hx)) (yE.mpr ⟨low.nd,?_,λa ha b hb=>?_⟩)⟩ (cf (λx hx=>?_) ?_) (by rw[yf,Bc];lia)
     ·rw[ai (ak ab n4),ab]
      unfold au
      rw[yk]
     ·rcases hpl with e|e <;> rw[e] <;> simp
     ·rcases hpl with e|e
      ·rw[e]at hb;simp at hb
      ·rw[e]at hb
       have e:=zh.mp hb
       subst e
       rintro rfl
       obtain⟨c',e',h4,h5,h6⟩:=low.lo _ ha
       have:=j5 e'
       lia
     ·obtain⟨k,hk,rfl⟩:=yx.mp hx
      have j1:(((k:Nat):Int)+c / 48) % ((SZ.length:Nat):Int)<((SZ.length:Nat):Int):=zN _ (by lia)
      have j0:0<=(((k:Nat):Int)+c / 48) % ((SZ.length:Nat):Int):=Ah _ (by lia)
      exact bQ hun (getD_mem (by lia))
     ·rw[List.Nodup,AM,AD]
      intro i j hi hj hij z
      rw[List.getElem_range,List.getElem_range]at z
      rw[Bc]at hi hj
      have j0:∀k:Nat,0<=(((k:Nat):Int)+c / 48) % ((SZ.length:Nat):Int):=λk=>Ah _ (by lia)
      have j1:∀k:Nat,(((k:Nat):Int)+c / 48) % ((SZ.length:Nat):Int)<((SZ.length:Nat):Int):=λk=>zN _ (by lia)
      have a0:=j0 i
      have a1:=j1 i
      have b0:=j0 j
      have b1:=j1 j
      have w1:((((i:Nat):Int)+c / 48) % ((SZ.length:Nat):Int)).toNat<nms.length:=by lia
      have w2:((((j:Nat):Int)+c / 48) % ((SZ.length:Nat):Int)).toNat<nms.length:=by lia
      rw[yl,yl,yg w1,yg w2]at z
      have e5:=(Bh (a5 hun)).mp z
      have:=oh (n:=SZ.length) (z:=c / 48) (i:=i) (j:=j) hi hj (by lia)
      lia
end Uf
end
section
namespace UfRev
open PySem PySem.W PySem.Calls PyProof.Rows PyProof.V PySem.Spec
def sU:typeLookup (.type "list_reverseiterator") "__len__"=pure none:=by rw[Az,zQ];kernel_rfl
def qt:typeLookup (.type "list_reverseiterator") "__length_hint__"=pure (some (.builtin "list_reverseiterator.__length_hint__")):=by rw[Az,zQ];kernel_rfl
def tI:isSubtype (.type "list_reverseiterator") (.type "list_reverseiterator")=pure true:=by rw[A6];kernel_rfl
def o5:splitId "list_reverseiterator.__length_hint__"=some ("list_reverseiterator", "__length_hint__"):=by decide +kernel
def rV{r:Addr}{Q:Bool->Shared->Prop}(hT:s.TypeIs (.ref r) "list_reverseiterator")(h:Q false s):wpAny (model prog w) A (Builtin.List.listLengthHint (.ref r)) Q E s:=by
 unfold Builtin.List.listLengthHint
 refine yd (AV hT sU ?_)
 show wpAny _ A (specialOf (Value.ref r) (Str.ofString "__length_hint__") >>= _) _ _ _
 refine yd (AV hT qt ?_)
 dsimp only
 rw[o5]
 dsimp only
 refine yd (Bk (T:="list_reverseiterator") (b:=true) hT tI ?_)
 refine zR (λz=>absurd z (by decide)) (λ_=>?_)
 refine zR (λ_=>?_) (λz=>absurd (by decide +kernel) z)
 refine zR (λz=>absurd z (by decide)) (λ_=>?_)
 exact yj h
def tw(items:Array Value):Nat->Value->Prop:=λi v=>items[items.size-1-i]?=some v
def ti{R:Result->Shared->Prop}{r l:Addr}{items:Array Value}(hh:A.handled=none)(hr:s.heap.IsRevIter r l ((items.size:Int)-1))(hl:s.heap.IsList l items)(hne:l≠r)(S:Addr)(hSr:S≠r)(hSl:S≠l)(res:Value)(c₀:Nat)(hS:s.heap.get? S=some { cls:=.type "list",data:=.seq #[] c₀ })
  (hR:∀h' tk acc' c',(∀b o,b≠S->b≠r->s.heap.get? b=some o->h'.get? b=some o)->h'.get? S=some { cls:=.type "list",dict:=none,data:=.seq acc' c',slots:=#[] }->ItemsOf (tw items) acc' items.size->R (.ok (.ret res)) { s with heap:=h',toks:=tk }) (hn:items.size<=sizeLine) :
  wpAny (model prog w) A.in1 (Builtin.List.listExtendWith (.ref S) (.ref r) res)
   (λfin s'=>match fin with|.done f=>R (.ok f) s'|.again c'=>c'.quiet=true/\codeAny (model prog w) A c' R s') (λe s'=>R (.error e) s') s:=by
 have hSf:S∉[r,l]:=by simp only[yr,zZ,Bl,not_or];exact⟨hSr,hSl⟩
 have W:=Walks.listRev (prog:=prog) (w:=w) (A:=A.in1) hh r l hne items
 have st:0<=items.size/\s.heap.IsRevIter r l ((items.size:Int)-1-((0:Nat):Int))/\s.heap.IsList l items:=⟨yC _,by simpa using hr,hl⟩
 have key:∀(h:Heap) (c₁ tk:Nat),(0<=items.size/\h.IsRevIter r l ((items.size:Int)-1-((0:Nat):Int))/\h.IsList l items)->(∀b o,b≠S->s.heap.get? b=some o->h.get? b=some o) ->
   h.get? S=some { cls:=.type "list",data:=.seq #[] c₁ }->codeAny (model prog w) A (.builtin "list.extend.loop" ⟨[.ref S,.ref r,res],[]⟩) R { s with heap:=h,toks:=tk }:=by
  intro h c₁ tk hst hk hS₁
  refine codeAny_extend_loopS W.toS hn S hSf res items.size 0 _ #[] c₁ rfl (yC _) hst hS₁ (ItemsOf.nil _) λs' acc' c' hm hS' hacc=>?_
  rw[Moved.eq_with hm]
  refine hR s'.heap s'.toks acc' c' (λb o hb hbr e=>hm.heap b o (λhmem=>?_) (hk b o hb e)) hS' hacc
  rcases yr.mp hmem with e'|hmem
  ·exact hb e'
  ·exact hbr (zh.mp hmem)
 have hT:s.TypeIs (.ref r) "list_reverseiterator":=hr.typeIs
 unfold Builtin.List.listExtendWith
 refine yd (wpAny_typeOf (T:="list_reverseiterator") hT ?_)
 have h1:Builtin.List.listSameRef (.ref S) (.ref r)=false:=by simp[Builtin.List.listSameRef,hSr]
 have h2:(Value.type "list_reverseiterator" == Value.type "list")=false:=by decide
 have h3:(Value.type "list_reverseiterator" == Value.type "tuple")=false:=by decide
 simp only[h1,h2,h3,BM,AG,Bi]
 refine yd (wpAny_pyIter_revIter hr ?_)
 refine yd (Aw (rV hT ?_))
 refine zR (λz=>absurd z (by decide)) (λ_=>yj ⟨Ax AA _,key _ c₀ _ st (λb o _ e=>e) hS⟩)
def jf{r l:Addr}{items:Array Value}{Q:Value->Shared->Prop}(hh:A.handled=none)(hr:s.heap.IsRevIter r l ((items.size:Int)-1))(hl:s.heap.IsList l items)(hne:l≠r)(hn:items.size<=sizeLine)
  (hQ:∀h' tk acc' c',(∀b o,b≠r->s.heap.get? b=some o->h'.get? b=some o)->h'.get? s.heap.objs.size=some { cls:=.type "list",dict:=none,data:=.seq acc' c',slots:=#[] }->ItemsOf (tw items) acc' items.size->Q (.ref s.heap.objs.size) { s with heap:=h',toks:=tk }) :
  wpAny (model prog w) A (call (.type "list") [.ref r]) Q E s:=by
 refine callType_codes (Q₁:=λobj s₁=>obj=.ref s.heap.objs.size/\s₁={ s with heap:=s.heap.push { cls:=.type "list",data:=.seq #[] } }) PySem.F.called_list (PySem.F.typeCall_list_1 _) PySem.F.entry_list_init
  (code_list_new _ ⟨rfl,rfl⟩) λobj s₁ h₁=>?_
 obtain⟨rfl,rfl⟩:=h₁
 have hS:(s.heap.push { cls:=.type "list",data:=.seq #[] }).get? s.heap.objs.size=some { cls:=.type "list",data:=.seq #[] }:=ym _ rfl
 have rlt:r<s.heap.objs.size:=let ⟨_,y,_⟩:=hr;yh y
 have llt:l<s.heap.objs.size:=let ⟨_,y,_⟩:=hl;yh y
 refine⟨⟨_,hS,rfl⟩,PySem.F.args_list_init_2 _ _,?_⟩
 show wpAny _ _ (do let old <-Builtin.List.listItems (.ref s.heap.objs.size);Builtin.List.listUpdate (.ref s.heap.objs.size) (λ_=>#[]);letGo old.toList.reverse;Builtin.List.listExtendWith (.ref s.heap.objs.size) (.ref r) .none) _ _ _
 refine yd ?_
 unfold Builtin.List.listItems
 refine yd (BF hS rfl (yj ?_))
 show wpAny _ _ (updateSeq s.heap.objs.size (λ_=>#[]) >>= λ_=>letGo (#[]:Array Value).toList.reverse >>= λ_=>Builtin.List.listExtendWith (.ref s.heap.objs.size) (.ref r) .none) _ _ _
 refine yd (Bv hS rfl ?_)
 have hS₂:=zr (Obj.mapSeq (λ_=>(#[]:Array Value))) hS rfl
 have oth:∀b o,b≠s.heap.objs.size->(s.heap.push { cls:=.type "list",data:=.seq #[] }).get? b=some o->((s.heap.push { cls:=.type "list",data:=.seq #[] }).update s.heap.objs.size (Obj.mapSeq (λ_=>(#[]:Array Value)))).get? b=some o :=
  λb o hb e=>(zL _ _ (Ac hb)).trans e
 have up:∀b o,s.heap.get? b=some o->((s.heap.push { cls:=.type "list",data:=.seq #[] }).update s.heap.objs.size (Obj.mapSeq (λ_=>(#[]:Array Value)))).get? b=some o:=λb o e =>
  oth b o (yn (yh e)) (ye _ e)
 refine yd (wpAny_letGo ?_)
 refine ti (A:=A.in1) hh (hr.at λo e=>up _ _ e) (hl.at λo e=>up _ _ e) hne _ (zW rlt) (zW llt) .none _ hS₂ (λh' tk acc' c' hk hS' hacc=>?_) hn
 exact⟨rfl,hQ h' tk acc' c' (λb o hb e=>hk b o (yn (yh e)) hb (up b o e)) hS' hacc⟩
end UfRev
namespace L2
open PySem PySem.Spec PyProof.Rows UfSrt
def pd{its:List Value}{acc:Array Value}(h:ItemsOf (UfRev.tw its.toArray) acc its.toArray.size):acc.toList=its.reverse:=by
 obtain⟨h1,h2⟩:=h
 have h1:acc.size=its.length:=by rw[h1,yw]
 refine List.ext_getElem? λj=>?_
 rw[yY]
 by_cases hj:j<acc.size
 ·have e:acc[j]?=some acc[j]:=Array.getElem?_eq_getElem hj
  have:=h2 j _ e
  unfold UfRev.tw at this
  rw[yw]at this
  rw[e,List.getElem?_reverse (by lia),<-this]
  simp
 ·rw[Array.getElem?_eq_none (by lia),An (by rw[BP];lia)]
section
variable {X:Cx}
def boot_reversed:bootBuiltins "reversed"=some (.type "reversed"):=by decide +kernel
def rK(K:PySem.W.Frag)(t:TA):TE:=λσ H Q=>t σ H λvs H1=>∃l ys,vs=[.ref l]/\aA K H1 l ys/\∀q,H1 q=none->Q (.ref q) (upd H1 q (.lst ys.reverse))
def nH{e:Expr}{t:TA}{p1 p2 pos pos2:Pos}(hc:X.calm=true)(hg:Gl X "list")(hm:X.mg "list"=none)(hb:bootBuiltins "list"=some (.type "list"))(hg2:Gl X "reversed")(hm2:X.mg "reversed"=none)(ha:PA X [e] t)
  (he:starEach [.Call (.Name "reversed" p2) [e] [] pos2] X.env=[(false,eval (.Call (.Name "reversed" p2) [e] [] pos2) X.env)]:=by rfl) (he2:starEach [e] X.env=[(false,eval e X.env)]:=by rfl) :
  PE X (.Call (.Name "list" p1) [.Call (.Name "reversed" p2) [e] [] pos2] [] pos) (rK X.K t):=by
 intro pins s σ H Q I h
 refine zg (fO I hg hm hb ?_)
 refine zA ?_ he rfl
 rw[he]
 refine AE ?_
 refine zg (fO I hg2 hm2 boot_reversed ?_)
 refine zA (a6 (ha pos2 pins s σ H _ I h) λus s1 ⟨vs,H1,I1,r1,l,ys,ev,hl,q⟩=>?_) he2 rfl
 subst ev
 obtain⟨u,rfl,ru⟩:=vals1 r1
 cases ru
 obtain⟨its,rv,pl,hz⟩:=I1.list hl
 have hlen:=rv.length
 have lt:l<s1.heap.objs.size:=let ⟨_,y,_⟩:=pl.isList;yh y
 refine call_reversed_list pl.isList ?_
 refine A8 ?_
 refine UfRev.jf (l:=l) (items:=its.toArray) (I.ok.hd hc) ⟨_,ym _ rfl,rfl,rfl⟩ (pl.isList.push _) (yn lt) (by rw[yw];lia) λh' tk acc c k hq hit=>?_
 have hn:H1 (s1.heap.push (revObj l ((its.toArray.size:Int)-1))).objs.size=none:=I1.hok.fresh (by rw[zj];exact zV _)
 refine⟨.ref _,upd H1 _ (.lst ys.reverse),I1.laid (t':=tk) (λb o e=>k b o (yn (yh e)) (ye _ e)) (by rw[zj];exact zV _) ⟨by rw[BP];exact hz,its.reverse,c,rv.reverse,?_⟩,rfl,q _ hn⟩
 rw[hq,<-pd hit]
end
end L2
end
section
namespace Uf
open PySem L2 UfSrt UfFin
def oj:Sp:=λvs H Q _=>∃(d a:Addr) (t s:List Str) (wy:UfBfs.bp (List Str) Str) (g:UfBfs.G (List Str) Str) (L k:Nat) (ts:List (List Str)),vs=[.ref d,.ref a]/\fL H d wy/\H a=some (.tup (au t))/\UfBfs.Good g s L wy ts/\k<=L/\L<=5000/\UfBfs.cW g s k t /\
 ∀H' q,ar H H'->H q=none->H' q=some (.lst (au (UfBfs.dC wy k t)))->Q (.ref q) H'
def ik:az ["ways", "state", "row", "way"] ["ways", "state"] (av kg):=fo
def qr{f:Addr}{fd:FuncData}(F:dt K "row_by_ways" "row_by_ways" kg f fd)(T:Txt K mg)(hrev:mg "reversed"=none):aI P w K mg base cj 1 f fd ["ways", "state"] oj:=by
 refine F.oK ik λcdv A outer s H vs Q E hr h=>?_
 ·obtain⟨d,a,t,s0,wy,g,L,k,ts,rfl,⟨kvs,hd,wp⟩,ha,good,hkL,hL,hdist,kk⟩:=h
  have hu:=df hr
  have hsl:=yK
  refine⟨_,af (bV 2 ik (aL ae))
   (af (bV 3 ik (cD hu (pv 0) (pv 1) (λ_ _=>rfl)))
   (af (gy yJ (fR (oB (pv 3)))
    (af (bN (eK yO yS yT bb (pv 2) (aa (aW i7 (pv 3) aj (λ_ _=>rfl)) ae)))
    (ao (bV 3 ik (cD hu (pv 0) (aW i7 (pv 3) aj (λ_ _=>rfl)) (λ_ _=>rfl))))))
   (ao (aB (nH rfl rfl T.lst eO rfl hrev (aa (pv 2) ae)))))),?_⟩
  clear hu
  dsimp only[bq,Cx.eE]
  refine⟨yC _,λr nr=>?_⟩
  have sm0:ar H (upd H r (.lst [])):=ag nr
  have ndr:d≠r:=ak hd nr
  obtain⟨x0,hx0⟩:=good.all k t hkL hdist
  obtain⟨v0,hv0,wv0⟩:=(wp.bR sm0.bR).some hx0
  have ha0:(upd H r (.lst [])) a=some (.tup ((cS t).map kV)):=by rw[dF];exact sm0 _ _ ha
  refine⟨_,rfl,_,rfl,d,v0,rfl,(by rw[<-hv0];exact dW.t (sm0 _ _ hd) ha0),?_⟩
  refine⟨λm σ H2=>∃(u:List Str) (x:Option (List Str×Str)) (v:V) (rl:List Str),m<=k/\UfBfs.cW g s0 m u/\UfBfs.look wy u=some x/\mP H2 x v/\σ=[some (.ref d),some (.ref a),some (.ref r),some v]/\ar H H2/\H2 r=some (.lst (au rl))/\rl.length+m=k/\UfBfs.dC wy k t=UfBfs.dC wy m u++rl.reverse,
   ⟨k,t,x0,v0,[],yi _,hdist,hx0,wv0,rfl,sm0,ab,by simp,by simp⟩,?_⟩
  rintro m σ H2 ⟨u,x,v,rl,hmk,hdu,hxu,wv,rfl,sm,hr2,hlen,erow⟩
  obtain⟨k',hk',hd',hway⟩:=good.way u x hxu
  have ek:k'=m:=hd'.uniq hdu
  subst ek
  refine⟨_,rfl,_,rfl,?_⟩
  cases x with
  |none =>
   have ev:v=.non:=wv
   subst ev
   refine aQ ?_
   have eu:u=s0:=hway
   subst eu
   have h0:k'=0:=by
    have:=hdu.2 0 (UfBfs.At.zero g u)
    lia
   subst h0
   have e2:UfBfs.dC wy k t=rl.reverse:=by rw[erow];rfl
   refine⟨_,rfl,r,au rl,rfl,aA.of hr2,λq nq=>?_⟩
   refine kk _ q (sm.trans (ag nq)) (sm.free nq) ?_
   rw[ab,e2]
   unfold au
   rw[List.map_reverse]
  |some um =>
   obtain⟨u',m'⟩:=um
   obtain⟨q,b,ev,hq,hb⟩:=wv
   subst ev
   obtain⟨j,ej,hdj,hmay,eu⟩:=hway
   subst ej
   refine a9 ?_
   obtain⟨x',hx'⟩:=good.all j u' (by lia) hdj
   refine⟨λσ' H'=>∃(u:List Str) (x:Option (List Str×Str)) (v:V) (rl:List Str),j<=k/\UfBfs.cW g s0 j u/\UfBfs.look wy u=some x/\mP H' x v/\σ'=[some (.ref d),some (.ref a),some (.ref r),some v]/\ar H H'/\H' r=some (.lst (au rl))/\rl.length+j=k/\UfBfs.dC wy k t=UfBfs.dC wy j u++rl.reverse,
    λσ' H' h=>⟨j,zD _,h⟩,?_⟩
   refine⟨_,rfl,.inl ⟨rfl,_,aA.of hr2⟩,_,rfl,q,_,1,_,rfl,rfl,cY.of hq,cG (j:=1) rfl,r,_,_,rfl,rfl,hr2,(by rw[ah];lia),?_⟩
   have t3:kh H2 (upd H2 r (.lst (au rl++[V.str m']))):=eW hr2 (λ_ z=>nomatch z)
   have sm3:ar H (upd H2 r (.lst (au rl++[V.str m']))):=ax sm nr
   have hb3:(upd H2 r (.lst (au rl++[V.str m']))) b=some (.tup ((cS u').map kV)):=by rw[dF];exact t3 _ _ hb
   obtain⟨v',hv',wv'⟩:=((wp.bR sm.bR).bR t3).some hx'
   refine⟨_,rfl,_,rfl,q,_,0,_,rfl,rfl,cY.of (t3 _ _ hq),cG (j:=0) rfl,d,v',rfl,(by rw[<-hv'];exact dW.t (sm3 _ _ hd) hb3),?_⟩
   refine⟨u',x',v',rl++[m'],by lia,hdj,hx',wv',rfl,sm3,?_,by simp;lia,?_⟩
   ·rw[ab]
    unfold au
    simp
   ·rw[erow]
    have e3:UfBfs.dC wy (j+1) u=UfBfs.dC wy j u'++[m']:=by
     simp only[UfBfs.dC,hxu]
    rw[e3]
    simp
end Uf
end
section
namespace L2
open PySem PySem.Spec PyProof.Rows
structure qk where
 q:Str
 params:Arguments
 g:Str
 n:Str
 s:Str
 scope:Scope
 p1:Pos
 p2:Pos
 p3:Pos
 p4:Pos
 pos:Pos
abbrev qk.body(l:qk):Expr:=.Call (.Name l.g l.p1) [.Name l.n l.p2,.Name l.s l.p3] [] l.p4
structure tZ(l:qk):Prop where
 kind:l.scope.kind=.function
 co:l.scope.isCoroutine=false
 gen:l.scope.isGenerator=false
 ls:l.scope.names.lookup l.s=some .local
 ln:l.scope.names.lookup l.n=some .free
 lg:l.scope.names.lookup l.g=some .globalImplicit
 nc:∀x∈l.scope.names,x.2≠.cell
 dn:(l.n==("__debug__":Str))=false
 dn2:(l.n==("__classdict__":Str))=false
 ds:(l.s==("__debug__":Str))=false
 dg:(l.g==("__debug__":Str))=false
structure rH(l:qk)(H:Hp)(f p c0 c':Addr)(pm ctv:Value)(oc ocl:Obj):Prop where
 hf:H f=some (.frz (PySem.W.kla_obj "<lambda>" l.q l.params l.body l.scope [(l.n,c0)] pm c' ctv) (.own f))
 hc:H c'=some (.frz oc (.own c'))
 cd:vh oc l.q
 hl:H c0=some (.frz ocl (.own c0))
 cl:ocl.data=.cell (some (.ref p))
inductive wo(l:qk)(sp:Sp)(f c0 c':Addr)(pm ctv:Value)(vs:List V)(H:Hp)(Q:VK)(E:XK):Prop
 |mk (p t:Addr) (oc ocl:Obj) (e:vs=[.ref t]) (L:rH l H f p c0 c' pm ctv oc ocl) (k:sp [.ref p,.ref t] H Q E)
section
variable {P:Program}{w:World}{K:PySem.W.Frag}{mg:Str->Option Value}{base:Heap}{H:Hp}
def kd{h:Heap}{a:Addr}{o:Obj}{u:HO}(hok:fe P w H h)(e:H a=some (.frz o u)):h.get? a=some o:=(hok a _ e).1
def uK{l:qk}{k:Nat}{sp:Sp}{f fC c0 c':Addr}{fdC:FuncData}{psC:List Str}{pm ctv:Value}(lo:tZ l)(G:aI P w K mg base cj k fC fdC psC sp)(hm:mg l.g=some (.ref fC))(hk:PySem.W.keepIn K (.ref fC)=true)(hb:Binds K fdC psC []) :
  aI P w K mg base cj (k+1) f (PySem.W.kla_fn "<lambda>" l.q l.params l.body l.scope [(l.n,c0)] pm (.ref c') ctv) [l.s] (wo l sp f c0 c' pm ctv):=by
 refine⟨λvs H Q E h=>?_,λA outer s H args us vs Q E hr e0 hbd hv hsp=>?_⟩
 ·obtain⟨p,t,oc,ocl,rfl,_⟩:=h
  rfl
 ·obtain⟨p,t,oc,ocl,rfl,L,hsp⟩:=hsp
  obtain⟨u,rfl,ru⟩:=hv.one
  obtain rfl:u=Value.ref t:=ru
  have gf:=kd e0.hok L.hf
  have gc:=kd e0.hok L.hc
  have gl:=kd e0.hok L.hl
  obtain⟨cvs,ct,cd1,cd2⟩:=L.cd
  have hcd:s.heap.CodeRec (.ref c') l.q:=⟨c',oc,cvs,ct,rfl,gc,cd1,cd2⟩
  have lim:s.heap.NoLimit:=e0.mod.nolimit.keeps λb o e=>(e0.bs b o e).1
  refine PySem.W.kla_callFunE hr.depth gf rfl lo.co lo.gen rfl hcd (hbd _ _ _ _ ?_)
  refine AW lo.nc (λy hy=>?_) (λh1 hns hsb=>?_) lo.kind
  ·have:y=(l.s,Value.ref t):=by simpa using hy
   rw[this]
   exact lo.ls
  have kept:∀b o,s.heap.get? b=some o->h1.get? b=some o:=λb o e=>(hsb.2 b (yn (yh e))).trans (ye _ e)
  refine⟨lim.keeps kept,PySem.W.kla_codeExpr ?_⟩
  have KX:K.In h1:=e0.mod.kin.keeps λb o e=>kept b o (e0.bs b o e).1
  have gn:h1.Ns mainGlobals mg:=e0.mod.glob.keeps λb o e=>kept b o (e0.bs b o e).1
  have cellK:h1.IsCell c0 (some (.ref p)):=⟨ocl,kept _ _ gl,L.cl⟩
  have fr1:fe P w H h1:=e0.hok.kept kept
  have locs:h1.Ns s.heap.objs.size (λx=>([l.s].zip [Value.ref t]).reverse.lookup x):=hns
  have e1:kq P w K mg base (A.deeper (PySem.W.envX l.q l.scope s.heap.objs.size f (.ref c') [(l.n,c0)])) (PySem.W.envX l.q l.scope s.heap.objs.size f (.ref c') [(l.n,c0)]::outer) { s with heap:=h1,toks:=s.toks+([l.s].zip [Value.ref t]).length } H :=
   ⟨Around.frames_deeper e0.frames,e0.mod,λb o e=>⟨kept b o (e0.bs b o e).1,(e0.bs b o e).2⟩,yI e0.bsz (Ak hns.lt),
    .cons (by show l.scope.kind≠_;rw[lo.kind];decide) rfl hns (Heap.get?_none_of_le e0.bsz) (e0.fj.of_keeps λb o e _=>⟨o,kept b o e,rfl⟩),λb hb=>by
     rcases yr.mp (show b∈s.heap.objs.size::kj outer from hb) with rfl|hb
     ·exact e0.hok.fresh (yi _)
     ·exact e0.frf b hb,fr1,e0.bare⟩
  have hl2:([Value.ref p,Value.ref t]++([]:List Value)).length=psC.length:=(G.len _ _ _ _ hsp)
  refine zg (Au lo.kind lo.lg (Bp gn hm ?_) lo.dg)
  refine Ae (K:=K) (h₀:=base) e0.mod.kin hk ?_ rfl rfl
  refine AE (Bd (wpAny_loadName_free lo.kind lo.ln (show List.lookup l.n [(l.n,c0)]=some c0 from BJ) cellK ?_ lo.dn2) lo.dn)
  refine AE (Bd (wpAny_loadName_local lo.kind lo.ls locs (show List.lookup l.s [(l.s,Value.ref t)]=some (Value.ref t) from BJ) ?_) lo.ds)
  refine A8 ⟨KX,?_⟩
  refine Bf (zX (G.run _ _ _ H ⟨[Value.ref p,Value.ref t],[]⟩ [Value.ref p,Value.ref t] [.ref p,.ref t] Q E (hr.deeper _) e1 (hb _ _ KX hl2) (.cons rfl (.cons rfl .nil)) hsp) λr s' hq=>?_)
  cases r with
  |error e=>exact False.elim hq
  |ok fl =>
   cases fl with
   |next=>exact False.elim hq
   |brk=>exact False.elim hq
   |cont=>exact False.elim hq
   |ret u =>
    obtain⟨v,H',os,bare,un,hok',rv,q⟩:=hq
    have nL:∀b o,s.heap.get? b=some o->b≠s.heap.objs.size:=λb o e=>yn (yh e)
    have nf:∀b o,s.heap.get? b=some o->b∉kj outer->b∉kj (PySem.W.envX l.q l.scope s.heap.objs.size f (.ref c') [(l.n,c0)]::outer):=λb o e h z=>(yr.mp (show b∈s.heap.objs.size::kj outer from z)).elim (nL b o e) h
    refine⟨v,H',os,bare,⟨λb o e n hb hx=>un.keep b o (kept b o e) n (nf b o e hb) hx,λb o e n hb hx=>un.slot b o (kept b o e) n (yM _ hb) hx,λb o e n hx=>un.free b o (kept b o e) n hx,λb o e hx=>un.there b o (kept b o e) hx,un.bR,un.frzs,un.tbls⟩,hok',rv,q⟩
end
def ku{p q:Pos}(h1:p.line=q.line)(h2:p.col=q.col):∀l:List Value,codeAmong p l=codeAmong q l:=λl=>by
 fun_induction codeAmong p l <;> simp_all[codeAmong]
def k4(mg:Str->Option Value)(base:Heap):Prop:=∃bm ob,mg "__builtins__"=some (.ref bm)/\bm≠builtinsNs/\base.get? bm=some ob/\ob.cls=.type "module"/\ob.dict=some builtinsNs/\ob.data=.plain
inductive xm(l:qk)(TB c0:Addr)(σ:St)(H:Hp)(Q:VK):Prop
 |mk (ht:H TB=some (.tbl (jb l.pos l.q))) (k:∀f c' pm ctv oc H1,ar H H1->H f=none->H1 f=some (.frz (PySem.W.kla_obj "<lambda>" l.q l.params l.body l.scope [(l.n,c0)] pm c' ctv) (.own f))->H1 c'=some (.frz oc (.own c'))->vh oc l.q->Q (.ref f) H1)
section
variable {X:Cx}
def uR{l:qk}{TB c0 c:Addr}(hcode:X.env.code=.ref c)(hch:PySem.W.codeHdIn X.K c TB=true)(hcl:closureFor l.scope X.env=pure [(l.n,c0)])(hq:X.env.qual++"<lambda>"=l.q)(hdef:defaultsOf l.params X.env=([],[]))(hbm:k4 X.mg X.base) :
  PE X (.Lambda l.params l.body l.scope l.pos) (xm l TB c0):=by
 intro pins s σ H Q I h
 obtain⟨ht,kk⟩:=h
 obtain⟨pos,q,qs,e1,e2,e3,e4⟩:=(show og H s.heap TB _ from I.hok TB _ ht)
 have eq:q=l.q/\pos.line=l.pos.line/\pos.col=l.pos.col:=by
  unfold jb at e1
  simp only[Array.mk.injEq,List.cons.injEq,Value.str.injEq,and_true]at e1
  exact⟨e1.1.1.symm,e1.1.2.symm,e1.2.2.symm⟩
 obtain⟨rfl,p1,p2⟩:=eq
 rw[ku p1 p2]at e4
 have CH:=BQ I.gB hch
 have gn:=I.mod.glob.keeps I.bk
 obtain⟨bm,ob,b1,b2,b3,b4,b5,b6⟩:=hbm
 have b3':=I.bk _ _ b3
 have nbT:bm≠TB:=λz=>by rw[z,e2]at b3';cases b3';cases b4
 have ngT:mainGlobals≠TB:=λz=>by
  obtain⟨o,es,ep,a1,a2,_⟩:=gn
  rw[z,e2]at a1
  cases a1
  cases a2
 have nbG:bm≠mainGlobals:=λz=>by
  obtain⟨o,es,ep,a1,a2,_⟩:=gn
  rw[<-z,b3']at a1
  cases a1
  rw[b6]at a2
  cases a2
 have BA:s.heap.BuiltinsAt X.mg TB:=⟨bm,ob,b1,b2,nbG,nbT,b3',b4,b5,b6⟩
 refine PySem.W.kla_eval hdef ?_
 rw[hq]
 rcases e4 with e4|⟨c',oc,e4,e5,e6⟩
 ·refine PySem.W.kla_makeFunction hcl I.ok.glob gn hcode CH e2 e3 e4 ngT BA λc' ctv h' tk hx hge hlt hrec htb=>?_
  obtain⟨c2,oc,vs,t,hc2,hoc,hd,hv⟩:=hrec
  cases hc2
  have lt:∀b u,H b=some u->b<s.heap.objs.size:=λb u e=>I.hok.lt e
  have nc:∀b,b<s.heap.objs.size->b≠c'/\b≠h'.objs.size:=λb hb=>⟨by lia,by lia⟩
  have ncf:c'≠h'.objs.size:=yn hlt
  have up:∀{b u},H b=some u->(upd (upd H c' (.frz oc (.own c'))) h'.objs.size (.frz (PySem.W.kla_obj "<lambda>" l.q l.params l.body l.scope [(l.n,c0)] ((X.mg "__name__").getD .none) c' ctv) (.own h'.objs.size))) b=some u:=λ{b u} e=>by
   have:=nc b (lt b u e)
   rw[ai this.2,ai this.1]
   exact e
  have uc:(upd (upd H c' (.frz oc (.own c'))) h'.objs.size (.frz (PySem.W.kla_obj "<lambda>" l.q l.params l.body l.scope [(l.n,c0)] ((X.mg "__name__").getD .none) c' ctv) (.own h'.objs.size))) c'=some (.frz oc (.own c')):=by rw[ai ncf,ab]
  have keepT:∀b o,b≠TB->s.heap.get? b=some o->(h'.push (PySem.W.kla_obj "<lambda>" l.q l.params l.body l.scope [(l.n,c0)] ((X.mg "__name__").getD .none) c' ctv)).get? b=some o:=λb o n e=>ye _ (hx b o n e)
  have nT:∀b,H b=none->b≠TB:=λb n z=>by rw[z,ht]at n;cases n
  have hgf:(h'.push (PySem.W.kla_obj "<lambda>" l.q l.params l.body l.scope [(l.n,c0)] ((X.mg "__name__").getD .none) c' ctv)).get? h'.objs.size=some (PySem.W.kla_obj "<lambda>" l.q l.params l.body l.scope [(l.n,c0)] ((X.mg "__name__").getD .none) c' ctv):=ym _ rfl
  have hgc:=ye (PySem.W.kla_obj "<lambda>" l.q l.params l.body l.scope [(l.n,c0)] ((X.mg "__name__").getD .none) c' ctv) hoc
  have hgT:=ye (PySem.W.kla_obj "<lambda>" l.q l.params l.body l.scope [(l.n,c0)] ((X.mg "__name__").getD .none) c' ctv) htb
  refine⟨.ref h'.objs.size,_,I.un (t':=tk) (h':=h'.push (PySem.W.kla_obj "<lambda>" l.q l.params l.body l.scope [(l.n,c0)] ((X.mg "__name__").getD .none) c' ctv)) (H':=upd (upd H c' (.frz oc (.own c'))) h'.objs.size (.frz (PySem.W.kla_obj "<lambda>" l.q l.params l.body l.scope [(l.n,c0)] ((X.mg "__name__").getD .none) c' ctv) (.own h'.objs.size)))
   ⟨λb o e n _ _=>keepT b o (nT b n) e,λb o e n _ _=>⟨o.slots,keepT b o (nT b n) e⟩,λb o e n _=>?_,λb o e _=>?_,λb xs e=>up e,λb o u e=>up e,λb ps e=>⟨#[],by rw[up e];simp⟩⟩ (λb u e=>?_),rfl,kk _ c' _ ctv oc _ (λb o e=>up e) (I.hok.fresh (yI hge (Ak hlt))) ab uc ⟨vs,t,hd,hv⟩⟩
  ·have:=nc b (yh e)
   rw[ai this.2,ai this.1]
   exact n
  ·by_cases hb:b=TB
   ·rw[hb];exact⟨_,hgT⟩
   ·exact⟨o,keepT b o hb e⟩
  ·by_cases hb:b=h'.objs.size
   ·subst hb
    rw[ab]at e
    cases e
    exact⟨hgf,_,hgf⟩
   ·rw[ai hb]at e
    by_cases hb2:b=c'
    ·subst hb2
     rw[ab]at e
     cases e
     exact⟨hgc,_,hgc⟩
    ·rw[ai hb2]at e
     by_cases hb3:b=TB
     ·subst hb3
      rw[ht]at e
      cases e
      refine⟨l.pos,l.q,_,rfl,hgT,?_,.inr ⟨c',oc,?_,uc,vs,t,hd,hv⟩⟩
      ·rw[BR]
       exact TriplesOk_snoc _ _ _ _ e3
      ·rw[BR]
       exact codeAmong_snoc _ e3 e4
     ·refine(I.hok b u e).iZ (λc v hc q=>keepT c v ?_ q) (λc q=>up q) (λc xs q=>up q) λc _ _ q _=>up q
      rcases hc with rfl|hc
      ·exact hb3
      ·intro z
       rw[z,ht]at hc
       cases hc
 ·refine PySem.W.kla_makeFunctionHit hcl I.ok.glob gn hcode CH e2 e3 e4 BA λctv h' tk hk hsz=>?_
  have hf:=I.hok.fresh hsz
  have nf:c'≠h'.objs.size:=yn (yD (I.hok.lt e5) hsz)
  have hgf:(h'.push (PySem.W.kla_obj "<lambda>" l.q l.params l.body l.scope [(l.n,c0)] ((X.mg "__name__").getD .none) c' ctv)).get? h'.objs.size=some (PySem.W.kla_obj "<lambda>" l.q l.params l.body l.scope [(l.n,c0)] ((X.mg "__name__").getD .none) c' ctv):=ym _ rfl
  exact⟨.ref h'.objs.size,_,I.laid (a:=h'.objs.size) (t':=tk) (o:=.frz (PySem.W.kla_obj "<lambda>" l.q l.params l.body l.scope [(l.n,c0)] ((X.mg "__name__").getD .none) c' ctv) (.own h'.objs.size)) (λb u q=>ye _ (hk b u q)) hsz ⟨hgf,_,hgf⟩,rfl,
   kk _ c' _ ctv oc _ (λb o e=>by rw[ai (ak e hf)];exact e) hf ab (by rw[ai nf];exact e5) e6⟩
def ug(c0:Addr)(H:Hp):Hp:=λb=>if b=c0 then none else H b
def gC{c0 b:Addr}{H:Hp}(h:b≠c0):ug c0 H b=H b:=yt h
def uZ{c0 b:Addr}{H:Hp}{u:HO}(h:ug c0 H b=some u):b≠c0/\H b=some u:=by
 by_cases e:b=c0
 ·unfold ug at h
  rw[yF e]at h
  cases h
 ·exact⟨e,(gC e).symm.trans h⟩
inductive JCc(i:Nat)(c0:Addr)(sp:Sp)(σ:St)(Q:VK)(vs:List V)(H1:Hp):Prop
 |mk (p:Addr) (hv:σ[i]?=some (some (.ref p))) (k:∀ocl:Obj,ocl.data=.cell (some (.ref p))->H1 c0=none->sp vs (upd H1 c0 (.frz ocl (.own c0))) (λv H'=>Q v (ug c0 H')) E0)
def vg(i:Nat)(c0:Addr)(sp:Sp)(t:TA):TE:=λσ H Q=>t σ H (JCc i c0 sp σ Q)
def qL{k:Nat}{f c0:Addr}{fd:FuncData}{ps:List Str}{sp:Sp}{x n:Str}{i:Nat}{p pos:Pos}{e:Expr}{es:List Expr}{t:TA}(F:aI X.prog X.w X.K X.mg X.base cj k f fd ps sp)(hr:bz k X.A)(hg:Gl X x)(hm:X.mg x=some (.ref f))(hk:PySem.W.keepIn X.K (.ref f)=true)(hb:Binds X.K fd ps [])
  (ha:PA X (e::es) t) (hN:X.N[i]?=some n) (hkd:X.env.kindOf n=some .cell) (hc0:X.env.cells.lookup n=some c0) (hfn:X.fn n=true) (hdb:(x==("__debug__":Str))=false:=by decide) (he:starEach (e::es) X.env=(false,eval e X.env)::starEach es X.env:=by rfl) (hpl:(backTo pos (starEach es X.env)).any (·.1)=false:=by rfl) :
  PE X (.Call (.Name x p) (e::es) [] pos) (vg i c0 sp t):=by
 intro pins s σ H Q I h
 refine zg (ig I hg hm ?_ hdb)
 refine Ae (h₀:=X.base) I.ok.mod.kin hk (a6 (ha pos pins s σ H _ I h) λus s1 ⟨vs,H1,I1,r,q⟩=>⟨I1.gB,?_⟩) he hpl
 obtain⟨p,hv,kk⟩:=q
 have n0:H1 c0=none:=I1.freeC n c0 hc0
 obtain⟨ocl,hgl,hcl⟩:∃ocl,s1.heap.get? c0=some ocl/\ocl.data=.cell (some (.ref p)):=by
  obtain⟨m,hn,hl⟩:=I1.loc
  obtain⟨u,ru,lk⟩:=hl i n (.ref p) hN hv (.inr (.inl hkd))
  obtain rfl:u=Value.ref p:=ru
  rcases lk with⟨z,_⟩|⟨_,c,e1,o,e2,e3⟩
  ·rw[hkd]at z
   cases z
  ·rw[hc0]at e1
   cases e1
   exact⟨o,e2,e3⟩
 have q2:=kk ocl hcl n0
 have hlo:X.s₀.heap.objs.size<=c0:=I1.ok.cab n c0 hfn hc0
 have u2:∀{b u},H1 b=some u->upd H1 c0 (.frz ocl (.own c0)) b=some u:=λ{b u} e=>by rw[ai (ak e n0)];exact e
 have nb:∀b,b∈kj X.stack->b≠c0:=λb hb=>by
  rcases yr.mp (I1.jZ b hb) with e|hb
  ·rw[e];exact(I1.ud n c0 hc0).symm
  ·obtain⟨_,o,ho,_⟩:=I1.ok.fj.mem hb
   exact yn (yD (yh ho) hlo)
 have hok2:fe X.prog X.w (upd H1 c0 (.frz ocl (.own c0))) s1.heap:=λb u e=>by
  by_cases hb:b=c0
  ·subst hb
   rw[ab]at e
   cases e
   exact⟨hgl,_,hgl⟩
  ·rw[ai hb]at e
   exact(I1.hok b u e).iZ (λc v _ q=>q) (λc q=>u2 q) (λc xs q=>u2 q) λc _ _ q _=>u2 q
 have e0:=I1.vz
 have e2:kq X.prog X.w X.K X.mg X.base X.A X.stack s1 (upd H1 c0 (.frz ocl (.own c0))) :=
  ⟨e0.frames,e0.mod,λb o e=>⟨(e0.bs b o e).1,by rw[ai (yn (yD (yh (I1.ok.bs b o e).1) hlo))];exact(e0.bs b o e).2⟩,e0.bsz,e0.fj,λb hb=>by rw[ai (nb b hb)];exact e0.frf b hb,hok2,e0.bare⟩
 have r2:Vals vs us:=r
 have hl:(us++([]:List Value)).length=ps.length:=by rw[AU,<-r2.length];exact F.len _ _ _ _ q2
 have hbb:=hb s1 us I1.gB hl
 rw[AU]at hbb
 refine Bf (zX (F.run X.A X.stack s1 _ ⟨us,[]⟩ us vs _ E0 hr e2 hbb r2 q2) λr s' hq=>?_)
 cases r with
 |error e=>exact False.elim hq
 |ok fl =>
  cases fl with
  |next=>exact False.elim hq
  |brk=>exact False.elim hq
  |cont=>exact False.elim hq
  |ret u =>
   obtain⟨v,H',os,bare,un,hok',rv,q⟩:=hq
   have hc':H' c0=some (.frz ocl (.own c0)):=un.frzs c0 _ _ ab
   have g':=(hok' c0 _ hc').1
   have up:∀{b u},H1 b=some u->∀{u'},H' b=some u'->ug c0 H' b=some u':=λ{b u} e {u'} e'=>by rw[gC (ak e n0)];exact e'
   refine I1.after ⟨v,ug c0 H',os,bare,⟨λb o e n hb hx=>?_,λb o e n hb hx=>?_,λb o e n hx=>?_,λb o e hx=>un.there b o e hx,λb xs e=>up e (un.bR b xs (u2 e)),λb o u e=>up e (un.frzs b o u (u2 e)),λb ps e=>?_⟩,λb u e=>?_,rv,q⟩
   ·by_cases hb0:b=c0
    ·subst hb0
     rw[hgl]at e
     cases e
     exact g'
    ·exact un.keep b o e (by rw[ai hb0];exact n) hb hx
   ·exact un.slot b o e (by rw[ai (nb b hb)];exact n) hb hx
   ·by_cases hb0:b=c0
    ·exact yF hb0
    ·rw[gC hb0]
     exact un.free b o e (by rw[ai hb0];exact n) hx
   ·obtain⟨more,e'⟩:=un.tbls b ps (u2 e)
    exact⟨more,up e e'⟩
   ·obtain⟨hb0,e⟩:=uZ e
    have n1:∀{c u},H' c=some u->(c=c0->False)->ug c0 H' c=some u:=λ{c u} e z=>by rw[gC z];exact e
    refine(hok' b u e).iZ (λc v _ q=>q) (λc q=>n1 q λz=>?_) (λc xs q=>n1 q λz=>?_) λc o u q d=>n1 q λz=>?_
    ·rw[z,hc']at q;cases q
    ·rw[z,hc']at q;cases q
    ·rw[z,hc']at q
     cases q
     obtain⟨vs,d⟩:=d
     rw[hcl]at d
     cases d
inductive JCv(f:Addr)(o:Obj)(sp:Sp)(Q:VK)(vs:List V)(H1:Hp):Prop
 |mk (h:H1 f=some (.frz o (.own f))) (k:sp vs H1 Q E0)
inductive uN(i:Nat)(f:Addr)(o:Obj)(sp:Sp)(t:TA)(σ:St)(H:Hp)(Q:VK):Prop
 |mk (e:σ[i]?=some (some (.ref f))) (k:t σ H (JCv f o sp Q))
def qP{k:Nat}{f:Addr}{o:Obj}{fd:FuncData}{ps:List Str}{sp:Sp}{x:Str}(i:Nat){p pos:Pos}{e:Expr}{es:List Expr}{t:TA}(F:aI X.prog X.w X.K X.mg X.base cj k f fd ps sp)(hr:bz k X.A)(ho:o.data=.func fd)(hb:Binds X.K fd ps [])(ha:PA X (e::es) t)
  (hN:X.N[i]?=some x:=by rfl) (hv:vR X.env.scope x:=by first|exact Or.inl rfl|exact Or.inr (Or.inl rfl)|exact Or.inr (Or.inr rfl)) (hd:(x==("__debug__":Str))=false:=by decide) (hcd:(x==("__classdict__":Str))=false:=by decide)
  (he:starEach (e::es) X.env=(false,eval e X.env)::starEach es X.env:=by rfl) (hpl:(backTo pos (starEach es X.env)).any (·.1)=false:=by rfl):PE X (.Call (.Name x p) (e::es) [] pos) (uN i f o sp t):=by
 intro pins s σ H Q I h
 obtain⟨e0,h⟩:=h
 refine zg (a6 (qM (i:=i) hN hv hd hcd pins s σ H (λv H1=>v=.ref f/\H1=H) I ⟨.ref f,e0,rfl,rfl⟩) λu s1 hZ=>?_)
 obtain⟨v,H1,I1,rv,rfl,rfl⟩:=hZ
 obtain rfl:u=Value.ref f:=rv
 have hg:=ha pos pins s1 σ H1 _ I1 h
 rw[he]at hg ⊢
 refine PySem.W.callWith_of (P:=λh=>h.get? f=some o) (by show((false || (backTo pos (starEach es X.env)).any (·.1)) || false)=false;rw[hpl];rfl) (λh hP=>⟨.frame,.inl rfl,(PySem.W.Looks.ld (part:=none) hP).andThen ?_⟩) (Calls.evalArgs_plain (a6 hg λus s2 hZ=>?_))
 ·rw[ho]
  exact .now
 ·obtain⟨vs,H2,I2,r,hf,q⟩:=hZ
  exact⟨(I2.hok f _ hf).1,kz F hr hb .nil bE I2 r (by rw[AU];exact q)⟩
end
def dt.okD{x qual:Str}{st:Stmt}{f:Addr}{fd:FuncData}{N ps:List Str}{k:Nat}{sp:Sp}(F:dt K x qual st f fd)(S:az N ps (av st))(len:∀vs H Q E,sp vs H Q E->vs.length=ps.length)
  (hbody:∀(cdv:Value) (A:Around) (outer:List Env) (s:Shared) (H:Hp) (vs:List V) (Q:VK) (E:XK),fd.code = cdv->bz k (A.deeper (envOfC qual (av st) s.heap.objs.size f cdv))->sp vs H Q E ->
   ∃t,mm (bq cj P w K mg base N qual (av st) f cdv A outer s H E).eE (bo st) t/\t { nx:=λ_ H'=>Q .non H',rt:=Q } (start N vs) H):aI P w K mg base cj (k+1) f fd ps sp:=by
 obtain⟨oc,od,kV,doc,pm,an,cdv,ct,osl,rfl,lk,hcd⟩:=F.ex
 refine uf lk hcd S len λA outer s H vs Q E hr hsp=>?_
 obtain⟨t,h,q⟩:=hbody cdv A outer s H vs Q E rfl hr hsp
 exact⟨t,h.eE,q⟩
end L2
end
section
namespace Uf
open PySem L2 UfSrt UfFin
def ux:(("start":Str) == "place_names")=false:=by decide +kernel
def tU:(("start":Str) == "start_state")=false:=by decide +kernel
def uq:(("start":Str) == "taken_by")=false:=by decide +kernel
def uB:(("start":Str) == "given_by")=false:=by decide +kernel
def wJ(st:Stmt):qk:=match bo st with
 |.Return (some (.Call _ (_::.Lambda a (.Call (.Name g p1) (.Name n p2::.Name s p3::_) _ p4) sc pos::_) _ _)) _::_=>⟨"crowding.<locals>.<lambda>",a,g,n,s,sc,p1,p2,p3,p4,pos⟩
 |_=>⟨"",bX st, "", "", "",av st,⟨0,0,0,0⟩,⟨0,0,0,0⟩,⟨0,0,0,0⟩,⟨0,0,0,0⟩,⟨0,0,0,0⟩⟩
abbrev gJ:qk:=wJ dS
def tD:tZ gJ:=⟨rfl,rfl,rfl,rfl,rfl,rfl,by decide +kernel,by decide +kernel,by decide +kernel,by decide +kernel,by decide +kernel⟩
def pV(K:PySem.W.Frag)(c0 c':Addr)(pm ctv:Value):Binds K (PySem.W.kla_fn "<lambda>" gJ.q gJ.params gJ.body gJ.scope [(gJ.n,c0)] pm (.ref c') ctv) ["state"] []:=.all λus hl=>by
 obtain⟨a,rfl⟩:=BC.mp hl
 rfl
def _root_.L2.rH.same{l:qk}{H H':Hp}{f p c0 c':Addr}{pm ctv:Value}{oc ocl:Obj}(h:rH l H f p c0 c' pm ctv oc ocl)(s:ar H H'):rH l H' f p c0 c' pm ctv oc ocl:=⟨s _ _ h.hf,s _ _ h.hc,h.cd,s _ _ h.hl,h.cl⟩
def iY(C:Addr):Sp:=λvs H Q _=>∃(p:Addr) (ms:List Mv) (st:List Str),vs=[.ref p]/\cz C H p ms st /\
 (∀H',ar H H'->UfBfs.Told (graph ms) (aD st) none->Q .non H')/\∀H' q row,ar H H'->UfBfs.Told (graph ms) (aD st) (some row)->row.length<=5001->H q=none->H' q=some (.lst (au row))->Q (.ref q) H'
inductive nX(C:Addr)(vs:List V)(H:Hp)(Q:VK)(E:XK):Prop
 |mk (p lf c0 c':Addr) (ms:List Mv) (st:List Str) (pm ctv:Value) (oc ocl:Obj) (_:vs=[.ref p,.ref lf]) (_:cz C H p ms st) (_:rH gJ H lf p c0 c' pm ctv oc ocl)
  (_:∀H',ar H H'->UfBfs.Told (graph ms) (aD st) none->Q .non H') (_:∀H' q row,ar H H'->UfBfs.Told (graph ms) (aD st) (some row)->row.length<=5001->H q=none->H' q=some (.lst (au row))->Q (.ref q) H')
def fb:az ["net", "last_in", "ways", "states", "state", "move"] ["net", "last_in"] (av kA):=fo
def qN{f C:Addr}{fd:FuncData}(F:dt K "shortest_row" "shortest_row" kA f fd)(CT:fW K C)(DS:ue P w K mg base C "start" "Net.start" j4 ["self"] 1 (nO C))
  (DC:h9 P w K mg base "crowder" gj ["net", "state"] 5 (jo K C))
  (DN:h9 P w K mg base "newly_reached" kC ["net", "states", "ways"] 6 (oI C))
  (DR:h9 P w K mg base "row_by_ways" kg ["ways", "state"] 1 oj) :
  aI P w K mg base cj 7 f fd ["net", "last_in"] (nX C):=by
 refine F.oK fb λcdv A outer s H vs Q E hr h=>?_
 ·obtain⟨p,lf,c0,c',ms,st,pm,ctv,oc,ocl,rfl,N,LH,kn,ks⟩:=h
  have GL:=uK (f:=lf) (c0:=c0) (c':=c') (pm:=pm) (ctv:=ctv) tD DC.g DC.d.mg DC.d.fn.kp DC.d.bd
  have hr6:bz 6 _:=hr.mono (by decide)
  have hu:=df hr
  have hr1:bz 1 _:=hr.mono (by decide)
  have hr5:bz 5 _:=hr.mono (by decide)
  refine⟨_,af (bV 2 fb (jE hu (gg (pv 0) CT.cl DS.d.mt DS.g hr1 DS.d.bd .nil bE) kb))
   (af (bV 3 fb (aL (aa (gg (pv 0) CT.cl DS.d.mt DS.g hr1 DS.d.bd .nil bE) ae)))
   (af (gy yJ (rG (pv 3) (λ_=>rfl))
    (af (bG yJ rfl (bc (pv 3)) (fm 4 fb)
     (af (bV 5 fb (qP (o:=PySem.W.kla_obj "<lambda>" gJ.q gJ.params gJ.body gJ.scope [(gJ.n,c0)] pm c' ctv) 1 GL hr6 rfl (pV _ _ _ _ _) (aa (pv 4) ae)))
      (ao (br (fR (oB (pv 5))) (ao (aB (aw cQ (eM DR hr1 (aa (pv 2) (aa (pv 4) ae))) (aL (aa (pv 5) ae))))) aK))))
    (ao (bV 3 fb (eM DN hr (aa (pv 0) (aa (pv 3) (aa (pv 2) ae))))))))
   (ao (aB kb)))),?_⟩
  clear hu
  dsimp only[bq,Cx.eE]
  have so:=N.so
  have hsl:=yK
  intro d nd
  have sd:ar H (upd H d (.dT [])):=ag nd
  have N1:=N.same sd
  obtain⟨dx,aP,aS,aT,aG,kT,kG,h1,_⟩:=N1.at'.ob
  refine⟨_,rfl,p,dx,_,rfl,h1,da _ _ _ _ ux tU uq uB,p,ms,st,rfl,N1,λq hq=>?_⟩
  refine⟨ab,cS (aD st),q,rfl,(by rw[dF];exact hq),?_⟩
  have nqd:q≠d:=aN hq ab (λz=>nomatch z)
  have s2:ar H (upd (upd H d (.dT [])) d (.dT [(cS (aD st),V.non)])):=ax sd nd
  have hd2:(upd (upd H d (.dT [])) d (.dT [(cS (aD st),V.non)])) d=some (.dT [(cS (aD st),V.non)]):=ab
  have hq2:(upd (upd H d (.dT [])) d (.dT [(cS (aD st),V.non)])) q=some (.tup (au (aD st))):=by rw[ai nqd];exact hq
  generalize upd (upd H d (.dT [])) d (.dT [(cS (aD st),V.non)])=H2 at s2 hd2 hq2 ⊢
  have N2:=N.same s2
  obtain⟨dx2,aP2,aS2,aT2,aG2,kT2,kG2,h2,_⟩:=N2.at'.ob
  refine⟨_,rfl,p,dx2,_,rfl,h2,da _ _ _ _ ux tU uq uB,p,ms,st,rfl,N2,λq' hq'=>⟨by show 1<=sizeLine;lia,λa na=>?_⟩⟩
  have s3:ar H2 (upd H2 a (.lst [.ref q'])):=ag na
  have fs:=fG so
  have hsf:∀t∈[aD st],ee ms st t:=λt ht=>by
   have e:t=aD st:=by simpa using ht
   rw[e]
   exact fs
  have ac0:Acc ms st ([(aD st,none)],[]):=⟨by simp,hsf,by simp⟩
  refine⟨λm σ H4=>∃(L:Nat) (wy:UfBfs.bp (List Str) Str) (ts:List (List Str)) (a:Addr) (v3 v4:Option V),σ=[some (.ref p),some (.ref lf),some (.ref d),some (.ref a),v3,v4]/\ar H H4/\H a=none/\iD H4 a ts/\fL H4 d wy/\UfBfs.Good (graph ms) (aD st) L wy ts/\Acc ms st (wy,[])/\(∀t∈ts,ee ms st t)/\(ts≠[]->L+1<=wy.length)/\m=2*(5000-wy.length)+(if ts=[] then 0 else 1),
   ⟨_,0,[(aD st,none)],[aD st],a,none,none,rfl,s2.trans s3,s2.free na,⟨[q'],ab,.cons (s3 _ _ hq') .nil⟩,⟨_,s3 _ _ hd2,.cons ⟨rfl,rfl⟩ .nil⟩,UfBfs.Good.start _ _,ac0,hsf,λ_=>by simp,rfl⟩,?_⟩
  rintro m σ H4 ⟨L,wy,ts,a,v3,v4,rfl,s4,na4,S4,W4,good,ac,hf,hL,em⟩
  obtain⟨qs,ha4,hp4⟩:=id S4
  refine⟨_,rfl,_,.inl ⟨_,aA.of ha4,rfl⟩,?_⟩
  have oV:wy.length<=4096:=ac.oV so
  by_cases hts:ts=[]
  ·subst hts
   cases hp4
   refine aQ ?_
   exact kn H4 s4 good.none
  ·have eq:(!(qs.map V.ref).isEmpty)=true:=by
    cases hp4 with
    |nil=>exact absurd rfl hts
    |cons _ _=>rfl
   rw[eq]
   refine a9 ?_
   have hL':=hL hts
   refine⟨λσ' H'=>∃m',m'<m/\∃(L:Nat) (wy:UfBfs.bp (List Str) Str) (ts:List (List Str)) (a:Addr) (v3 v4:Option V),σ'=[some (.ref p),some (.ref lf),some (.ref d),some (.ref a),v3,v4]/\ar H H'/\H a=none/\iD H' a ts/\fL H' d wy/\UfBfs.Good (graph ms) (aD st) L wy ts/\Acc ms st (wy,[])/\(∀t∈ts,ee ms st t)/\(ts≠[]->L+1<=wy.length)/\m'=2*(5000-wy.length)+(if ts=[] then 0 else 1),
    λσ' H' h=>h,?_⟩
   refine⟨_,rfl,a,rfl,⟨_,aA.of ha4⟩,c9 (K:=K) (a:=a) (xs:=qs.map V.ref) (λi σ H5=>∃(v3 v4:Option V),σ=[some (.ref p),some (.ref lf),some (.ref d),some (.ref a),v3,v4]/\ar H4 H5/\∀u∈ts.take i,bK ms u=none)
    ⟨v3,v4,rfl,ar.refl _,λu hu=>by simp at hu⟩ (λi σ H5 _ ⟨_,_,_,s5,_⟩=>aA.of (s5 _ _ ha4)) ?_ ?_⟩
   ·rintro i v σ H5 hi ⟨v3,v4,rfl,s5,hbad⟩
    obtain⟨tq,hqi,rfl⟩:=c8 hi
    obtain⟨t,ht,htq⟩:=a7 hp4 hqi
    have hmt:t∈ts:=yq ht
    have hft:ee ms st t:=hf t hmt
    have L5:=LH.same (s4.trans s5)
    refine⟨rfl,_,rfl,L5.hf,p,tq,oc,ocl,rfl,L5,p,tq,ms,st,t,rfl,N.same (s4.trans s5),cY.of (s5 _ _ htq),by have:=hft.len so;lia,λH6 s6=>?_⟩
    refine⟨_,rfl,_,rfl,?_⟩
    cases hc:bK ms t with
    |none =>
     refine aQ ?_
     refine⟨_,_,rfl,s5.trans s6,λu hu=>?_⟩
     rw[aq ht]at hu
     rcases yo.mp hu with z|z
     ·exact hbad u z
     ·have e:u=t:=by simpa using z
      rw[e]
      exact hc
    |some x =>
     refine a9 ?_
     have s46:=s5.trans s6
     obtain⟨kvs4,hd4,wp4⟩:=id W4
     refine⟨_,rfl,_,rfl,d,tq,t,aD st,wy,graph ms,L,L,ts,rfl,⟨kvs4,s46 _ _ hd4,wp4.bR s46.bR⟩,s46 _ _ htq,good,yi _,by lia,(good.ts t).mp hmt,λH7 q7 s7 nq7 hq7=>?_⟩
     refine⟨_,rfl,by show 1<=sizeLine;lia,λq8 nq8=>?_⟩
     have n78:q7≠q8:=ak hq7 nq8
     have told:=good.some hmt (show(graph ms).bad t=some x from hc)
     obtain⟨q1,q2⟩:=good.row L t (yi _) ((good.ts t).mp hmt)
     refine⟨q7,q8,_,_,rfl,rfl,(by rw[ai n78];exact hq7),ab,?_,λq9 nq9=>?_⟩
     ·rw[ah,q2]
      show L+1<=sizeLine
      lia
     have s8:ar H7 (upd H7 q8 (.lst [V.str x])):=ag nq8
     have sA:=(s4.trans s46).trans (s7.trans s8)
     refine ks _ q9 _ (sA.trans (ag nq9)) told (by rw[yp,q2];show L+1<=5001;lia) (sA.free nq9) ?_
     rw[ab]
     unfold au
     rw[yk]
     rfl
   ·rintro σ H5 ⟨v3,v4,rfl,s5,hbad⟩
    have el:(qs.map V.ref).length=ts.length:=by rw[yf,<-yG hp4]
    rw[el,yH]at hbad
    obtain⟨kvs4,hd4,wp4⟩:=id W4
    refine⟨_,rfl,_,rfl,_,rfl,p,a,d,ms,st,ts,wy,rfl,N.same (s4.trans s5),⟨qs,s5 _ _ ha4,Paired.dy hp4 λ_ _ e=>s5 _ _ e⟩,⟨kvs4,s5 _ _ hd4,wp4.bR s5.bR⟩,hf,ac,λH6 q6 b6 nq6 S6 W6 ac6=>?_⟩
    have lv:=UfBfs.jy (graph ms) ts wy
    have gn:=good.next hbad
    have sB:ar H H6:=λc o e=>b6 c o ((s4.trans s5) c o e) (ak e nd)
    have lk:(UfBfs.cT (graph ms) ts wy).1.length=wy.length+(UfBfs.cT (graph ms) ts wy).2.length:=by
     have:=zw List.length lv.keys
     rw[yp,yf,yf]at this
     exact this
    have few6:=ac6.oV so
    refine⟨_,?_,L+1,(UfBfs.cT (graph ms) ts wy).1,(UfBfs.cT (graph ms) ts wy).2,q6,_,_,rfl,sB,(s4.trans s5).free nq6,S6,W6,gn,⟨ac6.nd,ac6.fine,yC _⟩,λt ht=>?_,λhne=>?_,rfl⟩
    ·rw[em,yt hts]
     by_cases h0:(UfBfs.cT (graph ms) ts wy).2=[]
     ·rw[yF h0,lk,h0]
      simp
     ·rw[yt h0]
      have:=Aa.mpr h0
      lia
    ·refine ac6.fine t ?_
     rw[lv.keys]
     exact yP _ ht
    ·have:=Aa.mpr hne
     lia
def mV:az ["net"] ["net"] (av dS):=fo
def lO{f C c:Addr}{fd:FuncData}(F:dt K "crowding" "crowding" dS f fd)(hfc:fd.code=.ref c)(hch:PySem.W.codeHdIn K c TB=true)(hbm:k4 mg base)
  (DR:h9 P w K mg base "shortest_row" kA ["net", "last_in"] 7 (nX C)):aI P w K mg base cj 8 f fd ["net"] (iY C):=by
 refine F.okD mV (λvs H Q E h=>?_) (λcdv A outer s H vs Q E hcv hr h=>?_)
 ·obtain⟨p,ms,st,rfl,_⟩:=h
  rfl
 ·obtain⟨p,ms,st,rfl,N,kn,ks⟩:=h
  have hcd:cdv=.ref c:=hcv.symm.trans hfc
  refine⟨_,ao (aB (qL (i:=0) (n:="net") (c0:=s.heap.objs.size+1) DR.g hr rfl DR.d.mg DR.d.fn.kp DR.d.bd (aa (pv 0) (aa (uR (l:=gJ) (TB:=TB) (c:=c) (c0:=s.heap.objs.size+1) hcd hch rfl rfl rfl hbm) ae)) rfl rfl rfl rfl)),?_⟩
  try dsimp only[bq,Cx.eE,Cx.cM]
  refine⟨_,rfl,N.tb,λlf c' pm ctv oc H1 s1 nlf hlf hc' icd=>⟨p,rfl,λocl hcl n0=>?_⟩⟩
  have s2:ar H1 (upd H1 (s.heap.objs.size+1) (.frz ocl (.own (s.heap.objs.size+1)))):=ag n0
  have un:∀{H':Hp},ar (upd H1 (s.heap.objs.size+1) (.frz ocl (.own (s.heap.objs.size+1)))) H'->ar H (ug (s.heap.objs.size+1) H'):=λ{H'} s3 b o e=>by
   rw[gC (ak (s1 _ _ e) n0)]
   exact(s1.trans (s2.trans s3)) _ _ e
  refine⟨p,lf,s.heap.objs.size+1,c',ms,st,pm,ctv,oc,ocl,rfl,N.same (s1.trans s2),⟨s2 _ _ hlf,s2 _ _ hc',icd,ab,hcl⟩,λH' s3 t=>kn _ (un s3) t,λH' q row s3 t lr nq hq=>ks _ q row (un s3) t lr ((s1.trans s2).free nq) ?_⟩
  rw[gC (aN hq (s3 _ _ ab) (λz=>nomatch z))]
  exact hq
def dM{xs:List Str}(h:∀x∈xs,isNm x=true)(hl:xs.length<=200):Short xs:=⟨hl,λx hx=>by have:=kF (h x hx);lia⟩
def rQ{ms:List Mv}{st ns:List Str}(h:Made ms st ns)(hu:unlike ns=true)(hn:ns.length<=12):dN ms st=true/\Fits ms st:=by
 obtain⟨⟨ps,hp,mo,hs⟩,su⟩:=h
 have enm:=mo.nm
 have lms:ms.length<=12:=by
  have:=zw List.length enm
  unfold names at this
  rw[yf]at this
  lia
 have hdd:∀x∈UfSet.dd (st++gP ms),x∈ps:=λx hx=>by
  rcases yo.mp (UfSet.mY.mp hx) with z|z
  ·exact hs x z
  ·unfold gP at z
   obtain⟨m,hm,hxm⟩:=Bo.mp z
   exact mo.sub m hm x (yo.mp hxm)
 have ldd:(UfSet.dd (st++gP ms)).length<=12:=yI (dk (UfSet.lE _) hdd) hp
 have lst:st.length<=12:=yI (dk (a5 su) hs) hp
 have lpl:∀l:List Mv,(∀m∈l,cP m.2.1 m.2.2=true)->(gP l).length<=8*l.length:=λl=>by
  induction l with
  |nil=>intro _;exact yi _
  |cons m r ih =>
   intro hl
   have h1:=ih λm hm=>hl m (yM _ hm)
   obtain⟨_,_,_,a1,a2⟩:=cF (hl m yW)
   unfold gP at h1 ⊢
   rw[List.flatMap_cons,yp,yp,yQ]
   lia
 have lp:=lpl ms mo.mv
 constructor
 ·unfold dN
  rw[decide_eq_true lms,enm,hu,List.all_eq_true.mpr mo.mv,su,decide_eq_true (show(dw ms st).length<=12 by unfold dw;rw[dH];exact ldd)]
  rfl
 ·refine⟨by rw[enm];exact dM (λx hx=>bQ hu hx) (by lia),λm hm=>?_,λm hm=>?_,dM (λx hx=>bQ su hx) (by lia),by rw[yp];lia,by lia⟩
  ·obtain⟨u1,_,_,a1,_⟩:=cF (mo.mv m hm)
   exact dM (λx hx=>bQ u1 hx) (by lia)
  ·obtain⟨_,u2,_,_,a2⟩:=cF (mo.mv m hm)
   exact dM (λx hx=>bQ u2 hx) (by lia)
def mG(ns:List Int):∃cs:List Int,dO (ns.map V.int) (some 5) (some 11)=cs.map V.int/\cs.length<=6:=by
 refine⟨(ns.drop (HT.ja ns.length 0 (some 5))).take (HT.ja ns.length ns.length (some 11)-HT.ja ns.length 0 (some 5)),?_,?_⟩
 ·unfold dO
  rw[yf,List.map_take,List.map_drop]
 ·rw[yB]
  have e1:HT.ja ns.length 0 (some 5)=min 5 ns.length:=HT.ib _ _ 5
  have e2:HT.ja ns.length ns.length (some 11)=min 11 ns.length:=HT.ib _ _ 11
  rw[e1,e2,AR]
  lia
def Ready(H:Hp)(d l:Addr)(ms:List Mv)(st:List Str):Prop:=bY H d ms/\H l=some (.lst (au st))/\dN ms st=true/\Fits ms st/\H TB=some oG
def oP(K:PySem.W.Frag):Sp:=λvs H Q _=>∃(a:Addr) (ns:List Int),vs=[.ref a]/\aA K H a (ns.map V.int)/\ns.length<=63/\H TB=some oG/\∀H',Q (.bl true) H'
def cU:az ["_law_script", "_law_head", "_law_names", "_law_moves", "_law_start", "_law_pool_here", "_law_net", "_law_begun", "_law_far_here", "_law_found"] ["_law_script"] (av oU):=fo
def uU{f C fI:Addr}{fd fdI:FuncData}(F:dt K "law" "law" oU f fd)(T:Txt K mg)(T2:Txt2 mg)(CT:fW K C)(mgC:mg "Net"=some (.ref C))
  (M:Mk K C fI) (bI:Binds K fdI ["self", "moves", "start"] []) (GI:aI P w K mg base cj 5 fI fdI ["self", "moves", "start"] (ri K C))
  (DCe:h9 P w K mg base "_law_cell_at" oA ["_law_script", "_law_k"] 1 (qT K))
  (DNm:h9 P w K mg base "_law_named" j6 ["_law_cell", "_law_many"] 2 oz)
  (DCo:h9 P w K mg base "_law_counter" fV ["_law_cell", "_law_names"] 1 (jl K))
  (DFr:h9 P w K mg base "_law_free" nZ ["_law_cells", "_law_pool_here", "_law_names"] 2 (rW K))
  (DCh:h9 P w K mg base "_law_choice" fY ["_law_pool_here", "_law_number", "_law_many"] 1 (iL K))
  (DRi:h9 P w K mg base "_law_rings" jP ["_law_cells", "_law_pool_here", "_law_names", "_law_more"] 1 (oM K))
  (DFa:h9 P w K mg base "_law_far" sS ["_law_moves", "_law_start"] 2 uw)
  (DCr:h9 P w K mg base "crowding" dS ["net"] 8 (iY C))
  (DCw:h9 P w K mg base "_law_crowds" ij ["_law_row", "_law_moves", "_law_start", "_law_many"] 2 ly) :
  aI P w K mg base cj 9 f fd ["_law_script"] (oP K):=by
 refine F.oK cU λcdv A outer s H vs Q E hr h=>?_
 ·obtain⟨a,ns,rfl,ha,hz,tb,kk⟩:=h
  have hsl:=yK
  have hu:=df hr
  have hr1:bz 1 _:=hr.mono (by decide)
  have hr2:bz 2 _:=hr.mono (by decide)
  have hr6:bz 6 _:=hr.mono (by decide)
  refine⟨_,af (bV 1 cU (eM DCe hr1 (aa (pv 0) (aa aj ae))))
   (af (bV 2 cU (eM DNm hr2 (aa (eM DCe hr1 (aa (pv 0) (aa aj ae))) (aa aj ae))))
   (af (br (aE ft (aw aV (pv 1) aj) aj (aZ _))
    (ao (j9 (eM DCo hr1 (aa (eM DCe hr1 (aa (pv 0) (aa aj ae))) (aa (pv 2) ae))) (dP rfl (aF (fm 3 cU) (aF (fm 4 cU) cI)))))
    (ao (br (aE uA (aw aV (pv 1) aj) aj (aZ _))
     (af (bV 5 cU (eM DNm hr2 (aa (eM DCe hr1 (aa (pv 0) (aa aj ae))) (aa (aw bZ aj (aw aV (aw aM (pv 1) aj) aj)) ae))))
     (af (bV 3 cU (eM DFr hr2 (aa (cn e8 (pv 0) (cu aj) (cu aj)) (aa (pv 5) (aa (pv 2) ae)))))
     (ao (bV 4 cU (eM DCh hr1 (aa (pv 5) (aa (eM DCe hr1 (aa (pv 0) (aa aj ae))) (aa (aw aV (eM DCe hr1 (aa (pv 0) (aa aj ae))) (aw bZ (ay aU rfl T.len cm (aa (pv 5) ae)) aj)) ae))))))))
     (af (bV 5 cU (eM DNm hr2 (aa (eM DCe hr1 (aa (pv 0) (aa aj ae))) (aa (aw bZ aj (aw aV (aw aM (pv 1) aj) aj)) ae))))
     (ao (j9 (eM DRi hr1 (aa (cn e8 (pv 0) (cu aj) (cu aj)) (aa (pv 5) (aa (pv 2) (aa (aw aM (pv 1) aj) ae))))) (dP rfl (aF (fm 3 cU) (aF (fm 4 cU) cI)))))))))
   (af (bV 6 cU (tE M GI hr6 rfl mgC bI .nil bE (aa (bD (N:=["_law_move", "_law_moves"]) (n:=1) (ci:=[3]) rfl (ou (pv 3))
    (mn cU)
    (λz=>⟨kD 0,dB,eN (aa (pv 0) (aa (aW i7 (cD hu (pv 1) (pv 0) (λ_ _=>rfl)) aj (λ_ _=>rfl)) (aa (aW i7 (cD hu (pv 1) (pv 0) (λ_ _=>rfl)) aj (λ_ _=>rfl)) ae)))⟩)) (aa (pv 4) ae))))
   (af (bV 7 cU (aO bj rfl T.tup eI (aa (ay cA rfl T.aD cN (aa (pv 4) ae)) ae)))
   (af (bV 8 cU (eM DFa hr2 (aa (pv 3) (aa (pv 7) ae))))
   (af (bV 9 cU (eM DCr hr (aa (pv 6) ae)))
   (af (br (fR (nE (pv 8))) (ao (aB (ke (qX (nE (pv 9))) (jS (qX (nE (eM DCr hr (aa (pv 6) ae)))))))) aK)
   (af (br (cy (cv (eM DCw hr2 (aa (pv 9) (aa (pv 3) (aa (pv 7) (aa (pv 8) ae))))))) (ao (aB hE)) aK)
   (af (bN (eK yO yS yT bb (pv 9) (aa ba ae)))
   (ao (aB (eM DCw hr2 (aa (eM DCr hr (aa (pv 6) ae)) (aa (pv 3) (aa (pv 7) (aa (pv 8) ae)))))))))))))))),?_⟩
  clear hu
  dsimp only[bq,Cx.eE]
  refine⟨_,rfl,a,ns,0,rfl,ha,hz,?_⟩
  refine⟨_,rfl,a,ns,2,rfl,ha,hz,_,9,rfl,by decide,λH1 nm nms s1 nnm hnm hun hlen=>?_⟩
  have cell:∀{H':Hp},ar H H'->aA K H' a (ns.map V.int):=λs=>s.seq ha
  dsimp only[iH]
  refine iG (λσ H2=>∃(d l:Addr) (ms:List Mv) (st:List Str) (v5:Option V),σ=[some (.ref a),some (.int (ns.getD 0 0)),some (.ref nm),some (.ref d),some (.ref l),v5,none,none,none,none]/\Ready H2 d l ms st) ?_ (λcont=>?_)
  ·rintro σ H2 ⟨d,l,ms,st,v5,rfl,md,hl,hmk,hfit,tb2⟩
   have so:=kN hmk
   obtain⟨o,kvs,hd,mp⟩:=id md
   have lk:kvs.length=ms.length:=(yG mp).symm
   have lm:=so.ml
   refine⟨_,rfl,d,o,kvs,rfl,hd,λz D hD=>pE (a:=d) (o:=o) (kvs:=kvs) (λi ys H3=>∃qs:List Addr,ys=qs.map V.ref/\H3 D=some (.lst ys)/\ar H2 H3/\Paired (λ(m:Mv) q=>∃l g,H3 q=some (.tup [.str m.1,.ref l,.ref g])/\H2 l=some (.lst (au m.2.1))/\H2 g=some (.lst (au m.2.2))) (ms.take i) qs) ⟨[],rfl,ab,ag hD,.nil⟩ (λi ys H3 _ ⟨_,_,_,s3,_⟩=>s3 _ _ hd) ?_ ?_⟩
   ·rintro i k v ys H3 hk ⟨qs,rfl,hys,s3,pq⟩
    obtain⟨m,hm,ek,hv⟩:=a7 mp hk
    have ek:k=Sum.inr m.1:=ek
    subst ek
    have hmem:=yq hm
    obtain⟨v',dg,t,l',g',rfl,ht,hl',hg'⟩:=md.get so.nd hmem
    have dg3:dW H3 d (.str m.1) (some (.ref t)):=by
     rcases dg with⟨kv,k,e1,e2,e3⟩|⟨_,_,_,_,e2,_⟩
     ·refine .inl ⟨kv,k,?_,e2,e3⟩
      rcases e1 with e1|⟨oo,e1⟩
      ·exact .inl (s3 _ _ e1)
      ·exact .inr ⟨oo,s3 _ _ e1⟩
     ·cases e2
    have hlen:(qs.map V.ref).length<sizeLine:=by
     have:=yG pq
     rw[yB]at this
     rw[yf]
     lia
    refine⟨_,rfl,_,rfl,_,rfl,d,_,rfl,dg3,t,_,0,_,rfl,rfl,cY.of (s3 _ _ ht),cG (j:=0) rfl,_,rfl,_,rfl,d,_,rfl,dg3,t,_,1,_,rfl,rfl,cY.of (s3 _ _ ht),cG (j:=1) rfl,by show 3<=sizeLine;lia,λq nq=>?_⟩
    have s4:ar H3 (upd H3 q (.tup [kV (Sum.inr m.1),.ref l',.ref g'])):=ag nq
    have hq4:(upd H3 q (.tup [kV (Sum.inr m.1),.ref l',.ref g'])) q=some (.tup [.str m.1,.ref l',.ref g']):=ab
    generalize upd H3 q (.tup [kV (Sum.inr m.1),.ref l',.ref g'])=H4 at s4 hq4 ⊢
    have hys4:=s4 _ _ hys
    refine⟨hys4,hlen,qs++[q],by rw[yk];rfl,ab,ax (s3.trans s4) hD,?_⟩
    rw[aq hm]
    refine zu (Paired.dy pq λm q ⟨l,g,e1,e2,e3⟩=>⟨l,g,?_,e2,e3⟩) ⟨l',g',?_,hl',hg'⟩
    ·rw[ai (aN (s4 _ _ e1) hys4 (λz=>nomatch z))]
     exact s4 _ _ e1
    ·rw[ai (aN hq4 hys4 (λz=>nomatch z))]
     exact hq4
   ·rintro ys H3 ⟨qs,rfl,hys,s3,pq⟩
    rw[lk,yH]at pq
    refine⟨_,rfl,?_⟩
    intro x dx nx ndx nex
    have sn:ar H3 (upd (upd H3 dx (.own x)) x (.ins C dx [])):=λb o e=>by
     rw[ai (ak e nx),ai (ak e ndx)]
     exact e
    refine⟨x,dx,D,l,ms,st,rfl,ab,⟨qs,aA.of (sn _ _ hys),Paired.dy pq λm q ⟨l,g,e1,e2,e3⟩=>⟨l,g,sn _ _ e1,sn _ _ (s3 _ _ e2),sn _ _ (s3 _ _ e3)⟩⟩,aA.of (sn _ _ (s3 _ _ hl)),hfit,hmk,λH4 NA kp=>⟨rfl,?_⟩⟩
    have s34:ar H3 H4:=λb o e=>kp b o (sn b o e) (ak e nx)
    have s24:=s3.trans s34
    have N4:cz C H4 x ms st:=⟨NA,so,s24 _ _ tb2⟩
    have hstl:=so.stl
    refine⟨_,rfl,l,st,rfl,aA.of (s24 _ _ hl),by lia,λq1 n1=>⟨q1,_,rfl,.inl ⟨aA.of ab,λbg nbg=>?_⟩⟩⟩
    have s5:=(ag (o:=.lst (au (aD st))) n1).trans (ag (o:=.tup (au (aD st))) nbg)
    have hbg:(upd (upd H4 q1 (.lst (au (aD st)))) bg (.tup (au (aD st)))) bg=some (.tup (au (aD st))):=ab
    have md5:=md.same (s24.trans s5)
    have N5:=N4.same s5
    generalize upd (upd H4 q1 (.lst (au (aD st)))) bg (.tup (au (aD st)))=H5 at s5 hbg md5 N5 ⊢
    have noSome:(∀k t,UfBfs.At (graph ms) (aD st) k t->bK ms t=none)->∀row,¬UfBfs.Told (graph ms) (aD st) (some row):=λhno row told=>by
     obtain⟨r,t,m,_,hle,hb,_⟩:=told
     have h1:=hno r.length t ⟨r,rfl,hle⟩
     have h2:bK ms t=some m:=hb
     rw[h1]at h2
     cases h2
    refine⟨_,rfl,_,rfl,d,bg,ms,st,rfl,md5,so,hbg,λH6 s6 hno=>?_,λH6 dd t s6 hat hbad hmin=>?_⟩
    ·-- nothing crowds
     refine⟨_,rfl,x,ms,st,rfl,N5.same s6,λH7 s7 _=>?_,λH7 q row s7 told _ _ _=>(noSome hno row told).elim⟩
     refine⟨_,rfl,_,rfl,?_⟩
     refine a9 ?_
     refine⟨_,rfl,_,rfl,?_⟩
     refine a9 ?_
     refine⟨_,rfl,x,ms,st,rfl,N5.same (s6.trans s7),λH8 s8 _=>kk H8,λH8 q row s8 told _ _ _=>(noSome hno row told).elim⟩
    ·-- it crowds
     have noNone:¬UfBfs.Told (graph ms) (aD st) none:=λtold=>hbad (told dd t hat)
     have short:∀row,UfBfs.Told (graph ms) (aD st) (some row)->∃r t m,row=r++[m]/\UfBfs.bx (graph ms) (aD st) r t/\bK ms t=some m/\r.length=dd:=λrow told=>by
      obtain⟨r,t2,m,e,hle,hb,hmn⟩:=told
      have h1:=hmn dd t hat hbad
      have h2:=hmin r.length t2 ⟨r,rfl,hle⟩ (by
       have h3:bK ms t2=some m:=hb
       rw[h3]
       simp)
      exact⟨r,t2,m,e,hle,hb,by lia⟩
     have md6:=md5.same s6
     have N6:=N5.same s6
     have hbg6:=s6 _ _ hbg
     refine⟨_,rfl,x,ms,st,rfl,N6,λH7 s7 told=>(noNone told).elim,λH7 q row s7 told hrl nq hq=>?_⟩
     obtain⟨r,t2,m,rfl,hle,hcr,hrd⟩:=short row told
     subst hrd
     rw[yp]at hrl
     have hrl:r.length<=5000:=by
      have:r.length+1<=5001:=hrl
      lia
     refine⟨_,rfl,_,rfl,?_⟩
     refine aQ ?_
     refine⟨_,rfl,_,rfl,_,rfl,_,rfl,q,d,bg,ms,st,r,m,t2,rfl,hq,md6.same s7,so,s7 _ _ hbg6,hrl,hle,hcr,λH8 s8=>⟨_,rfl,?_⟩⟩
     refine aQ ?_
     have hq8:=s8 _ _ hq
     refine⟨_,rfl,.inl ⟨rfl,_,aA.of hq8⟩,q,_,_,rfl,rfl,hq8,(by rw[ah,yp];show _+1<sizeLine;lia),?_⟩
     have s9:ar H6 (upd H8 q (.lst (au (r++[m])++[V.str "x"]))):=ax (s7.trans s8) nq
     generalize upd H8 q (.lst (au (r++[m])++[V.str "x"]))=H9 at s9 ⊢
     refine⟨_,rfl,x,ms,st,rfl,N6.same s9,λH10 s10 told=>(noNone told).elim,λH10 q' row' s10 told' hrl' nq' hq'=>?_⟩
     obtain⟨r',t3,m',rfl,hle',hcr',hrd'⟩:=short row' told'
     have sA:=s9.trans s10
     refine⟨_,rfl,_,rfl,_,rfl,q',d,bg,ms,st,r',m',t3,?_,hq',md6.same sA,so,sA _ _ hbg6,by lia,hle',hcr',λH11 s11=>kk H11⟩
     rw[hrd']
     rfl
  ·-- the three ways to make a net
   have done:∀{d l:Addr} {ms:List Mv} {st ns':List Str} {v5:Option V} {H2:Hp},bY H2 d ms->H2 l=some (.lst (au st))->Made ms st ns'->unlike ns'=true->ns'.length<=12->H2 TB=some oG ->
     ∃(d' l':Addr) (ms:List Mv) (st:List Str) (v5':Option V),[some (.ref a),some (.int (ns.getD 0 0)),some (.ref nm),some (.ref d),some (.ref l),v5,none,none,none,none]=[some (.ref a),some (.int (ns.getD 0 0)),some (.ref nm),some (.ref d'),some (.ref l'),v5',none,none,none,none]/\Ready H2 d' l' ms st:=λ{d l ms st ns' v5 H2} h1 h2 h3 h4 h5 h8=>by
    obtain⟨h6,h7⟩:=rQ h3 h4 h5
    exact⟨d,l,ms,st,v5,rfl,h1,h2,h6,h7,h8⟩
   refine⟨_,rfl,_,_,rfl,rfl,(by show(0:Int)<9;decide),rfl,_,rfl,?_⟩
   refine mZ (λ_=>?_) (λ_=>?_)
   ·refine⟨_,rfl,a,ns,1,rfl,cell s1,hz,_,rfl,nm,_,nms,rfl,aA.of hnm,hlen,hun,λH2 q d l ms st ns' s2 nq hq nl hl md hmade hu' hn'=>?_⟩
    exact⟨q,_,rfl,cY.of hq,rfl,_,_,rfl,_,_,rfl,rfl,cont _ _ (done md hl hmade hu' hn' ((s1.trans s2) _ _ tb))⟩
   ·refine⟨_,rfl,_,_,rfl,rfl,(by show(0:Int)<3;decide),_,_,rfl,rfl,_,rfl,?_⟩
    obtain⟨cs,ecs,lcs⟩:=mG ns
    refine mZ (λ_=>?_) (λ_=>?_)
    ·-- any moves
     refine⟨_,rfl,a,ns,1,rfl,cell s1,hz,_,rfl,_,_,rfl,rfl,⟨by decide,by decide⟩,_,_,rfl,rfl,(by show(0:Int)<6;decide),_,_,rfl,rfl,ns.getD 1 0,(1+ns.getD 0 0 / 3 % 6).toNat,?_,by lia,λH2 po L s2 npo hpo huL hLl=>?_⟩
     ·have e:(((1+ns.getD 0 0 / 3 % 6).toNat:Nat):Int)=1+ns.getD 0 0 / 3 % 6:=by lia
      rw[e]
      rfl
     have hL1:1<=L.length:=by lia
     have hL6:L.length<=6:=by lia
     have s12:=s1.trans s2
     refine⟨_,rfl,_,rfl,_,rfl,a,_,rfl,cell s12,λq3 n3=>?_⟩
     rw[ecs]
     obtain⟨H3,eU,s3,hq3⟩:=ya n3 (.lst (cs.map V.int))
     rw[eU]
     refine⟨_,rfl,_,rfl,q3,po,nm,cs,L,nms,rfl,aA.of hq3,aA.of (s3 _ _ hpo),aA.of ((s2.trans s3) _ _ hnm),by lia,by lia,hun,huL,(λz=>by rw[z]at hL1;simp at hL1),by lia,λH4 d ms s4 nd md mo=>?_⟩
     have s14:=s12.trans (s3.trans s4)
     refine⟨_,rfl,_,rfl,a,ns,3,rfl,cell s14,hz,_,rfl,a,ns,4,rfl,cell s14,hz,_,rfl,_,L.length,rfl,.inl ⟨_,aA.of (s4 _ _ (s3 _ _ hpo)),(ah L).symm⟩,_,_,rfl,rfl,_,_,rfl,rfl,(by lia),po,L,_,_,rfl,aA.of (s4 _ _ (s3 _ _ hpo)),a5 huL,by lia,λH5 q5 R s5 nq5 hq5 ch=>?_⟩
     refine cont _ _ (done (md.same s5) hq5 (ns':=nms.take cs.length) ⟨⟨L,by lia,mo,ch.sub⟩,eF huL ch.nd ch.sub⟩ (gY hun _) (by rw[yB];lia) (s5 _ _ (s14 _ _ tb)))
    ·-- rings
     refine⟨_,rfl,a,ns,1,rfl,cell s1,hz,_,rfl,_,_,rfl,rfl,⟨by decide,by decide⟩,_,_,rfl,rfl,(by show(0:Int)<5;decide),_,_,rfl,rfl,ns.getD 1 0,(2+ns.getD 0 0 / 3 % 5).toNat,?_,by lia,λH2 po L s2 npo hpo huL hLl=>?_⟩
     ·have e:(((2+ns.getD 0 0 / 3 % 5).toNat:Nat):Int)=2+ns.getD 0 0 / 3 % 5:=by lia
      rw[e]
      rfl
     have hL1:2<=L.length:=by lia
     have hL6:L.length<=6:=by lia
     have s12:=s1.trans s2
     refine⟨_,rfl,_,rfl,_,rfl,a,_,rfl,cell s12,λq3 n3=>?_⟩
     rw[ecs]
     obtain⟨H3,eU,s3,hq3⟩:=ya n3 (.lst (cs.map V.int))
     rw[eU]
     refine⟨_,rfl,_,rfl,_,rfl,_,_,rfl,rfl,⟨by decide,by decide⟩,q3,po,nm,cs,L,nms,_,rfl,aA.of hq3,aA.of (s3 _ _ hpo),aA.of ((s2.trans s3) _ _ hnm),by lia,by lia,hun,huL,hL1,by lia,λH4 q d l ms st s4 nq hq nl hl md hmade=>?_⟩
     exact⟨q,_,rfl,cY.of hq,rfl,_,_,rfl,_,_,rfl,rfl,cont _ _ (done md hl hmade (gY hun _) (by rw[yB];lia) ((s12.trans (s3.trans s4)) _ _ tb))⟩
end Uf
end
section
namespace Att
open PySem PySem.W PySem.Calls PyProof.Rows
theorem jH{n:Int}:∀{ns:List Int},n∈ns->WData.weight (.int n)<=WData.weightAll (ns.map WData.int)
 |m::ns,h=>by
  rw[yX,WData.weightAll]
  rcases yr.mp h with z|z
  ·rw[z]
   lia
  ·have:=jH z
   lia
def oX{ns:List Int}(h:WData.layableAll [WData.list (ns.map WData.int)]=true){n:Int}(hn:n∈ns):Builtin.Int.intBits n<=2 ^ 20:=by
 unfold WData.layableAll WData.layable at h
 rw[AO,Ao,Ao,Ao,AN,AN]at h
 have h1:=h.1.2
 rw[WData.weight]at h1
 have h2:=yI (jH hn) h1
 rw[WData.weight]at h2
 exact h2
def kr{l:OpenLaw}{n:Nat}{q:Program}{loose:List Str}{XP:(Str->Option Value)->Heap->Prop}{YP:World->Heap->Prop}{d:DefRec}
  (hn:l.most=some n) (hdf:d.params.defaults=[])
  (call:∀(w:World) (s₀ s₁:Shared) (mg mb:Str->Option Value) (fa:Addr) (o:Obj) (pm cd doc:Value) (a:Addr) (vs:List Value) (ns:List Int),
   Ground q loose [] XP w s₀ mg mb s₁.heap->YP w s₁.heap ->
   s₁.heap.get? fa=some o->o.data=.func (docDef d.name d.params d.body d.scope pm cd doc)->s₁.heap.CodeRec cd d.name->mg d.name=some (.ref fa) ->
   s₁.heap.get? a=some { cls:=.type "list",data:=.seq vs.toArray }->IntsAre vs ns->ns.length<=n->(∀n∈ns,Builtin.Int.intBits n<=2 ^ 20)->s₁.gens = #[] ->
   codeAny (model l.prog w) callerA (.call (.ref fa) ⟨[.ref a],[]⟩) (λr s'=>r=.ok (.ret (.bool true))/\OldK s₁.heap s'.heap/\s'.os=s₁.os/\AllBare s'.gens) s₁) :
  WalkO q loose XP YP l.row.toRowW d [] (λf vs=>PySem.call f vs):=by
 intro w s₀ s₁ mg mb G Y fa o pm cd doc dV kV ho hd hcd hD hmg hg args vals as hpre hlay hrd hwl hlo
 obtain rfl:dV=.none:=Dflts.none hD hdf
 obtain rfl:kV=.none:=Dflts.noKw hD
 obtain⟨a,vs,ns,rfl,rfl,hobj,hints,hlen⟩:=o6 hn hpre hwl
 refine enter_call (zX (call w s₀ s₁ mg mb fa o pm cd doc a vs ns G Y ho (fd_plain hd) hcd hmg hobj hints hlen (λn hn=>oX hlay hn) hg) λr s' hq=>?_)
 obtain⟨rfl,h2,h3,h4⟩:=hq
 exact⟨.inl ⟨.bool true,.bool true,[],rfl,λ_=>rfl,.bool true,pW l _,λ_=>⟨List.Pairwise.nil,λ_ hm=>(nomatch hm)⟩⟩,h2,h3,h4⟩
end Att
namespace L2
open PySem PySem.Spec PyProof.Rows
end L2
namespace Uf
open PySem PyProof.Rows
end Uf
end
section
namespace L2
open PySem PySem.Spec PyProof.Rows
def pR{P:Program}{w:World}{K:PySem.W.Frag}{mg mb:Str->Option Value}{CX:rS}{k:Nat}{fa a TB c:Addr}{fd:FuncData}{x:Str}{sp:Sp}{s₁:Shared}{vs:List Value}{ns:List Int}(pos:Pos)(q:Str)
  (KX:K.In s₁.heap) (hns:s₁.heap.Ns mainGlobals mg) (hb:s₁.heap.Ns builtinsNs mb) (hbb:∀x:Str,x≠"__name__"->mb x=bootBuiltins x) (hlim:s₁.heap.NoLimit) (hg:s₁.gens = #[])
  (ha:s₁.heap.get? a=some { cls:=.type "list",data:=.seq vs.toArray }) (hi:IntsAre vs ns) (hl:ns.length<=sizeLine) (hr:bz k callerA) (hT:s₁.heap.get? TB=some (PySem.W.tabObj #[])) (hC:PySem.W.CodeHd s₁.heap c TB) (hKT:K.lookup TB=none) (hbm:k4 mg s₁.heap)
  (F:∀base:Heap,K.In base->base.Ns mainGlobals mg->k4 mg base->aI P w K mg base CX k fa fd [x] sp) (hbind:∀(s:Shared) (u:Value),BindsTo s fd ⟨[u],[]⟩ [(x,u)])
  (hsp:∀H:Hp,aA K H a (ns.map V.int)->H TB=some (.tbl (jb pos q))->sp [.ref a] H (λv _=>v=.bl true) λ_ _ _=>False)
  (hCX:∀H e s',CX [] H s₁ (λ_ _ _=>False) e s'->False) :
  codeAny (model P w) callerA (.call (.ref fa) ⟨[.ref a],[]⟩) (λr s'=>r=.ok (.ret (.bool true))/\OldK s₁.heap s'.heap/\s'.os=s₁.os/\AllBare s'.gens) s₁:=by
 have rv:=jA hi
 have lenV:=hi.length
 have naT:a≠TB:=λz=>by rw[z,hT]at ha;cases ha
 have core:∀H:Hp,(∀b,b≠TB->H b=none\/(b=a/\∃o xs,H b=some (.frz o (.lst xs))))->H TB=some (.tbl (jb pos q))->aA K H a (ns.map V.int)->fe P w H s₁.heap->(H a≠none->K.lookup a=none) ->
   codeAny (model P w) callerA (.call (.ref fa) ⟨[.ref a],[]⟩) (λr s'=>r=.ok (.ret (.bool true))/\OldK s₁.heap s'.heap/\s'.os=s₁.os/\AllBare s'.gens) s₁:=by
  intro H hO hHT hS hok hK
  have base_of:∀{b:Addr} {o:Obj},s₁.heap.get? b=some o->H b=none->(jh s₁.heap H).get? b=some o:=λe n=>qh e n
  have free:∀{b:Addr} {o:Obj},s₁.heap.get? b=some o->(∀y z,o.data≠.seq y z)->(∀y,o.data≠.fields y)->H b=none:=λ{b o} e n1 n2=>by
   by_cases hb:b=TB
   ·rw[hb,hT]at e
    cases e
    exact absurd rfl (n2 _)
   ·rcases hO b hb with z|⟨z,_⟩
    ·exact z
    ·rw[z,ha]at e
     cases e
     exact absurd rfl (n1 _ _)
  have nsK:∀{b:Addr} {m:Str->Option Value},s₁.heap.Ns b m->(jh s₁.heap H).Ns b m:=λ{b m} ⟨o,es,ep,e,d,r⟩=>⟨o,es,ep,base_of e (free e (λy z q=>by rw[d]at q;cases q) λy q=>by rw[d]at q;cases q),d,r⟩
  have hKb:K.In (jh s₁.heap H):=λb o e=>base_of (KX b o e) (by
   by_cases hb:b=TB
   ·rw[hb,hKT]at e;cases e
   ·rcases hO b hb with z|⟨z,o',xs,y⟩
    ·exact z
    ·subst z
     rw[hK (by rw[y];exactλq=>nomatch q)]at e
     cases e)
  have hM:Mod K mg (jh s₁.heap H):=⟨hKb,nsK hns,⟨mb,nsK hb,hbb⟩,let ⟨mc,h1,h2⟩:=hlim;⟨mc,nsK h1,h2⟩⟩
  have hB:k4 mg (jh s₁.heap H):=by
   obtain⟨bm,ob,b1,b2,b3,b4,b5,b6⟩:=hbm
   exact⟨bm,ob,b1,b2,base_of b3 (free b3 (λy z q=>by rw[b6]at q;cases q) λy q=>by rw[b6]at q;cases q),b4,b5,b6⟩
  have e0:kq P w K mg (jh s₁.heap H) callerA [] s₁ H:=⟨rfl,hM,λb o e=>tp e,Nat.le_of_eq (pj _ _),trivial,λb hb=>absurd (show b∈([]:List Addr) from hb) (by simp),hok,.of_eq hg⟩
  refine zX ((F _ hKb (nsK hns) hB).run callerA [] s₁ H ⟨[.ref a],[]⟩ [.ref a] [.ref a] _ _ hr e0 (hbind s₁ (.ref a)) (.cons rfl .nil) (hsp H hS hHT)) λr s' h=>?_
  cases r with
  |error e=>exact(hCX H e s' h).elim
  |ok fl =>
   cases fl with
   |next=>exact False.elim h
   |brk=>exact False.elim h
   |cont=>exact False.elim h
   |ret u =>
    obtain⟨v,H',os,bare,un,hok',r',q'⟩:=h
    have q':v=.bl true:=q'
    subst q'
    obtain rfl:u=Value.bool true:=r'
    obtain⟨more,eT⟩:=un.tbls TB _ hHT
    obtain⟨_,_,qs,_,gT,_⟩:=(show og H' s'.heap TB _ from hok' TB _ eT)
    have keep:∀b o,b≠TB->s₁.heap.get? b=some o->s'.heap.get? b=some o:=λb o hb e=>by
     cases q:H b with
     |none=>exact un.keep b o e q (by intro z;exact absurd (show b∈([]:List Addr) from z) (by simp)) (by simp)
     |some u =>
      rcases hO b hb with z|⟨_,ob,xs,z⟩
      ·rw[q]at z;cases z
      ·have z2:=un.frzs b ob _ z
       obtain⟨e1,_⟩:=hok b _ z
       obtain⟨e2,_⟩:=hok' b _ z2
       rw[e]at e1;cases e1
       exact e2
    refine⟨rfl,⟨λb o e=>?_,λb o e=>?_⟩,os,bare⟩
    ·by_cases hb:b=TB
     ·subst hb
      rw[hT]at e
      cases e
      exact .inr (.inl ⟨(hC.tab hT).isCodeTable,rfl,#[],qs,rfl,by rw[Array.empty_append];exact gT⟩)
     ·exact .inl (keep b o hb e)
    ·by_cases hb:b=TB
     ·rw[hb];exact⟨_,gT⟩
     ·exact⟨o,keep b o hb e⟩
 have tabok:∀H:Hp,og H s₁.heap TB (jb pos q):=λH=>⟨pos,q,#[],rfl,hT,trivial,.inl rfl⟩
 cases hk:K.lookup a with
 |some o =>
  have e:=KX a o hk
  rw[ha]at e
  cases e
  refine core (λb=>if b=TB then some (.tbl (jb pos q)) else none) (λb hb=>.inl (yt hb)) (yF rfl) (.inr ⟨_,vs.toArray,_,hk,rfl,rfl,rfl,by rw[yw,lenV];exact hl,by simpa using rv⟩) (λb u z=>?_) λz=>absurd (yt naT) z
  by_cases hb:b=TB
  ·have z':=(yF hb).symm.trans z
   cases z'
   subst hb
   exact tabok _
  ·have z':=(yt hb).symm.trans z
   cases z'
 |none =>
  refine core (λb=>if b=TB then some (.tbl (jb pos q)) else if b=a then some (.frz { cls:=.type "list",data:=.seq vs.toArray } (.lst (ns.map V.int))) else none) (λb hb=>?_) (yF rfl) (.inl (.inr ⟨{ cls:=.type "list",data:=.seq vs.toArray },(yt naT).trans (yF rfl)⟩)) (λb u z=>?_) λ_=>hk
  ·by_cases h2:b=a
   ·exact .inr ⟨h2,_,_,(yt hb).trans (yF h2)⟩
   ·exact .inl ((yt hb).trans (yt h2))
  ·by_cases hb:b=TB
   ·have z':=(yF hb).symm.trans z
    cases z'
    subst hb
    exact tabok _
   ·have z:=(yt hb).symm.trans z
    by_cases h2:b=a
    ·have z':=(yF h2).symm.trans z
     cases z'
     subst h2
     exact⟨ha,by rw[yf];exact hl,vs,_,rv,ha⟩
    ·have z':=(yt h2).symm.trans z
     cases z'
def rO{l:PySem.W.OpenLaw}{n k:Nat}{q:Program}{loose:List Str}{XP:(Str->Option Value)->Heap->Prop}{YP:World->Heap->Prop}{d:DefRec}{K:Params->PySem.W.Frag}{CX:World->rS}{sp:World->Sp}{x:Str}{TB c:Addr}(pos:Pos)(qn:Str)
  (hn:l.most=some n) (hn2:n<=sizeLine) (hdf:d.params.defaults=[]) (hr:bz k callerA)
  (hY:∀(w:World) (h:Heap),YP w h->(K w.params).In h/\h.get? TB=some (PySem.W.tabObj #[])) (hch:∀w:World,PySem.W.codeHdIn (K w.params) c TB=true) (hKT:∀w:World,(K w.params).lookup TB=none)
  (F:∀(w:World) (mg:Str->Option Value) (fa:Addr) (h:Heap),(K w.params).In h->h.Ns mainGlobals mg->mg d.name = some (.ref fa) ->
   ∃fd:FuncData,(∀(s:Shared) (u:Value),BindsTo s fd ⟨[u],[]⟩ [(x,u)]) /\
    ∀base:Heap,(K w.params).In base->base.Ns mainGlobals mg->k4 mg base->aI l.prog w (K w.params) mg base (CX w) k fa fd [x] (sp w))
  (hsp:∀(w:World) (H:Hp) (a:Addr) (ns:List Int),ns.length<=n->(∀n∈ns,Builtin.Int.intBits n<=2 ^ 20)->aA (K w.params) H a (ns.map V.int)->H TB=some (.tbl (jb pos qn))->sp w [.ref a] H (λv _=>v=.bl true) λ_ _ _=>False)
  (hCX:∀(w:World) (H:Hp) (s:Shared) (e:Value) (s':Shared),CX w [] H s (λ_ _ _=>False) e s'->False) :
  PySem.W.WalkO q loose XP YP l.row.toRowW d [] (λf vs=>PySem.call f vs):=by
 refine Att.kr hn hdf λw s₀ s₁ mg mb fa o pm cd doc a vs ns G Y ho hd hcd hmg hobj hints hlen hbit hg=>?_
 obtain⟨KX,hT⟩:=hY w _ Y
 obtain⟨fd,hb,hF⟩:=F w mg fa _ KX G.T.g hmg
 exact pR pos qn KX G.T.g G.T.b G.T.builtins G.T.nolimit hg hobj hints (yI hlen hn2) hr hT (BQ KX (hch w)) (hKT w) G.T.bmain hF hb (λH hS hH=>hsp w H a ns hlen hbit hS hH) λH e s'=>hCX w H s₁ e s'
end L2
end
section
namespace Uf
open PySem L2 UfSrt PyProof.Rows
def vt{n:Nat}{us:List Value}(h:us.length=n+1):∃a t,us=a::t/\t.length=n:=by
 cases us with
 |nil=>cases h
 |cons a t=>exact⟨a,t,rfl,Nat.succ.inj h⟩
def tf{us:List Value}(h:us.length=1):∃a,us=[a]:=BC.mp h
def vb{us:List Value}(h:us.length=2):∃a b,us=[a,b]:=by
 obtain⟨a,t,rfl,k⟩:=vt h
 obtain⟨b,rfl⟩:=tf k
 exact⟨a,b,rfl⟩
def uX{us:List Value}(h:us.length=3):∃a b c,us=[a,b,c]:=by
 obtain⟨a,t,rfl,k⟩:=vt h
 obtain⟨b,c,rfl⟩:=vb k
 exact⟨a,b,c,rfl⟩
def we{us:List Value}(h:us.length=4):∃a b c d,us=[a,b,c,d]:=by
 obtain⟨a,t,rfl,k⟩:=vt h
 obtain⟨b,c,d,rfl⟩:=uX k
 exact⟨a,b,c,d,rfl⟩
def DX(K:W.Frag)(x:Str)(st:Stmt)(ps:List Str):Prop:=∃f fd,W.nsIn K mainGlobals x=some (some (.ref f))/\dt K x x st f fd/\Binds K fd ps []
def wR(K:W.Frag)(x:Str)(st:Stmt)(ps:List Str)(c:Addr):Prop:=∃f fd,W.nsIn K mainGlobals x=some (some (.ref f))/\dt K x x st f fd/\Binds K fd ps []/\fd.code=.ref c
def MX(K:W.Frag)(C:Addr)(x q:Str)(st:Stmt)(ps:List Str):Prop:=∃f fd,W.findIn K (.ref C) x=some (some (.ref f))/\W.isFn K (.ref f)=true/\dt K x q st f fd/\Binds K fd ps []
section
variable {K:W.Frag}{h:Heap}{mg:Str->Option Value}{C:Addr}{x q:Str}{st:Stmt}{ps:List Str}
theorem wR.d{c:Addr}(X:K.In h)(G:h.Ns mainGlobals mg)(l:wR K x st ps c):∃f fd,Def K mg x st ps f fd/\fd.code=.ref c:=let ⟨_,_,a,b,d,e⟩:=l;⟨_,_,⟨b,Ay X G a,d⟩,e⟩
def DX.d(X:K.In h)(G:h.Ns mainGlobals mg)(l:DX K x st ps):∃f fd,Def K mg x st ps f fd:=let ⟨_,_,a,b,c⟩:=l;⟨_,_,b,Ay X G a,c⟩
def MX.d(l:MX K C x q st ps):∃f fd,sy K C x q st ps f fd:=let ⟨_,_,a,i,b,c⟩:=l;⟨_,_,b,⟨a,i,b.kp⟩,c⟩
variable {f:Addr}{oc:Value}{od an:Option Addr}{osl:Array (Option Value)}{kV doc pm cdv ct:Value}
def wm(a:W.nsIn K mainGlobals x=some (some (.ref f)))(l:K.lookup f=some ⟨oc,od,.func (W.fnOf x x (bX st) (bo st) (av st) .none kV doc pm an cdv ct),osl⟩)(c:W.codeIn K cdv x=true)(k:W.keepIn K (.ref f)=true)
  (b:∀(kV doc pm:Value) (an:Option Addr) (cdv ct:Value) (us:List Value),us.length=ps.length->bindArgs (W.fnOf x x (bX st) (bo st) (av st) .none kV doc pm an cdv ct) ⟨us,[]⟩=pure (ps.zip us):=by intro _ _ _ _ _ _ us hl;first|(obtain⟨_,rfl⟩:=Uf.tf hl;rfl)|(obtain⟨_,_,rfl⟩:=Uf.vb hl;rfl)|(obtain⟨_,_,_,rfl⟩:=Uf.uX hl;rfl)|(obtain⟨_,_,_,_,rfl⟩:=Uf.we hl;rfl)):DX K x st ps:=⟨f,_,a,gE l c k,(gE l c k).binds b⟩
def uY{c:Addr}(a:W.nsIn K mainGlobals x=some (some (.ref f)))(l:K.lookup f=some ⟨oc,od,.func (W.fnOf x x (bX st) (bo st) (av st) .none kV doc pm an (.ref c) ct),osl⟩)(d:W.codeIn K (.ref c) x=true)(k:W.keepIn K (.ref f)=true)
  (b:∀(kV doc pm:Value) (an:Option Addr) (cdv ct:Value) (us:List Value),us.length=ps.length->bindArgs (W.fnOf x x (bX st) (bo st) (av st) .none kV doc pm an cdv ct) ⟨us,[]⟩=pure (ps.zip us):=by intro _ _ _ _ _ _ us hl;obtain⟨_,rfl⟩:=Uf.tf hl;rfl):wR K x st ps c:=⟨f,_,a,gE l d k,(gE l d k).binds b,rfl⟩
def wz(a:W.findIn K (.ref C) x=some (some (.ref f)))(i:W.isFn K (.ref f)=true)(l:K.lookup f=some ⟨oc,od,.func (W.fnOf x q (bX st) (bo st) (av st) .none kV doc pm an cdv ct),osl⟩)(c:W.codeIn K cdv q=true)(k:W.keepIn K (.ref f)=true)
  (b:∀(kV doc pm:Value) (an:Option Addr) (cdv ct:Value) (us:List Value),us.length=ps.length->bindArgs (W.fnOf x q (bX st) (bo st) (av st) .none kV doc pm an cdv ct) ⟨us,[]⟩=pure (ps.zip us):=by intro _ _ _ _ _ _ us hl;first|(obtain⟨_,rfl⟩:=Uf.tf hl;rfl)|(obtain⟨_,_,rfl⟩:=Uf.vb hl;rfl)|(obtain⟨_,_,_,rfl⟩:=Uf.uX hl;rfl)|(obtain⟨_,_,_,_,rfl⟩:=Uf.we hl;rfl)):MX K C x q st ps:=⟨f,_,a,i,gE l c k,(gE l c k).binds b⟩
end
def all_mk{l:W.OpenLaw}{w:World}{K:W.Frag}{h:Heap}{mg:Str->Option Value}{fa C:Addr}(X:K.In h)(G:h.Ns mainGlobals mg)(hfa:mg "law"=some (.ref fa))
  {tk1 tk2 tk3 tk4 tk5 tk6 tk7:Tok}
  (aC:W.nsIn K mainGlobals "Net"=some (some (.ref C)))
  (l1:DX K "is_name" cJ ["thing"])
  (l2:DX K "are_unlike_names" fc ["things"])
  (l3:DX K "is_move" gq ["taken", "given"])
  (l4:DX K "places_of" fX ["moves", "start"])
  (l5:DX K "makes_net" jN ["moves", "start"])
  (l6:DX K "lacks_bead" iO ["net", "state", "move"])
  (l7:DX K "gives_second" gu ["net", "state", "move"])
  (l8:DX K "state_behind" ic ["net", "state", "move"])
  (l9:DX K "may" sC ["net", "state"])
  (l10:DX K "crowder" gj ["net", "state"])
  (l11:DX K "newly_reached" kC ["net", "states", "ways"])
  (l12:DX K "row_by_ways" kg ["ways", "state"])
  (l13:DX K "shortest_row" kA ["net", "last_in"])
  (l14:wR K "crowding" dS ["net"] 119)
  (l15:DX K "_law_cell_at" oA ["_law_script", "_law_k"])
  (l16:DX K "_law_pool" oR ["_law_cell", "_law_many"])
  (l17:DX K "_law_named" j6 ["_law_cell", "_law_many"])
  (l18:DX K "_law_choice" fY ["_law_pool_here", "_law_number", "_law_many"])
  (l19:DX K "_law_free" nZ ["_law_cells", "_law_pool_here", "_law_names"])
  (l20:DX K "_law_rings" jP ["_law_cells", "_law_pool_here", "_law_names", "_law_more"])
  (l21:DX K "_law_counter" fV ["_law_cell", "_law_names"])
  (l22:DX K "_law_word" lY ["_law_moves", "_law_state", "_law_move"])
  (l23:DX K "_law_behind" eS ["_law_moves", "_law_state", "_law_move"])
  (l24:DX K "_law_far" sS ["_law_moves", "_law_start"])
  (l25:DX K "_law_crowds" ij ["_law_row", "_law_moves", "_law_start", "_law_many"])
  (l26:DX K "law" oU ["_law_script"])
  (l27:MX K C "__init__" "Net.__init__" qG ["self", "moves", "start"])
  (l28:MX K C "moves" "Net.moves" lZ ["self"])
  (l29:MX K C "start" "Net.start" j4 ["self"])
  (l30:MX K C "must_have" "Net.must_have" kU ["self", "move"])
  (l31:MX K C "takes" "Net.takes" gK ["self", "move"])
  (l32:MX K C "gives" "Net.gives" ix ["self", "move"])
  (pg:W.plainGet K C Str.empty=true)
  (hd:W.hasDictIn K C=true)
  (po:W.plainOver K C=true)
  (sa:W.findIn K (.ref C) "__setattr__"=some (some (.builtin "object.__setattr__")))
  (mk:W.makesIn K C=true)
  (kc:W.keepIn K (.ref C)=true)
  (nP:W.findIn K (.ref C) "place_names"=some none)
  (nS:W.findIn K (.ref C) "start_state"=some none)
  (nT:W.findIn K (.ref C) "taken_by"=some none)
  (nG:W.findIn K (.ref C) "given_by"=some none)
  (z1:W.nsIn K mainGlobals "all"=some none)
  (z2:W.nsIn K mainGlobals "len"=some none)
  (z3:W.nsIn K mainGlobals "set"=some none)
  (z4:W.nsIn K mainGlobals "list"=some none)
  (z5:W.nsIn K mainGlobals "tuple"=some none)
  (z6:W.nsIn K mainGlobals "str"=some none)
  (z7:W.nsIn K mainGlobals "sorted"=some none)
  (z8:W.nsIn K mainGlobals "isinstance"=some none)
  (z9:W.nsIn K mainGlobals "range"=some none)
  (z10:W.nsIn K mainGlobals "enumerate"=some none)
  (z11:W.nsIn K mainGlobals "any"=some none)
  (z12:W.nsIn K mainGlobals "reversed"=some none)
  (z13:W.nsIn K mainGlobals "int"=some none)
  (y1:W.nsIn K mainGlobals "LETTERS"=some (some (.str dI tk1)))
  (y2:W.nsIn K mainGlobals "LONGEST_NAME"=some (some (.int 8 tk2)))
  (y3:W.nsIn K mainGlobals "MOST_PLACES"=some (some (.int 12 tk3)))
  (y4:W.nsIn K mainGlobals "MOST_MOVES"=some (some (.int 12 tk4)))
  (y5:W.nsIn K mainGlobals "LEAST_TAKEN"=some (some (.int 1 tk5)))
  (y6:W.nsIn K mainGlobals "MOST_TAKEN"=some (some (.int 4 tk6)))
  (y7:W.nsIn K mainGlobals "MOST_GIVEN"=some (some (.int 4 tk7)))
  (hch:W.codeHdIn K 119 TB=true) :
  ∃fd:FuncData,(∀(s:Shared) (v:Value),BindsTo s fd ⟨[v],[]⟩ [("_law_script",v)])/\∀base:Heap,K.In base->base.Ns mainGlobals mg->k4 mg base->aI l.prog w K mg base cj 9 fa fd ["_law_script"] (oP K):=by
 have T:Txt K mg:=⟨zi X G z1,zi X G z2,zi X G z3,zi X G z4,zi X G z5,zi X G z6,zi X G z7,zi X G z8,⟨_,Ay X G y1⟩,⟨_,Ay X G y2⟩,⟨_,Ay X G y3⟩,⟨_,Ay X G y4⟩,⟨_,Ay X G y5⟩,⟨_,Ay X G y6⟩,⟨_,Ay X G y7⟩⟩
 have T2:Txt2 mg:=⟨zi X G z9,zi X G z10,zi X G z11,zi X G z12,zi X G z13⟩
 have NC:fW K C:=⟨⟨pg,hd,po,sa⟩,nP,nS,nT,nG⟩
 obtain⟨f1,d1,D1⟩:=l1.d X G
 obtain⟨f2,d2,D2⟩:=l2.d X G
 obtain⟨f3,d3,D3⟩:=l3.d X G
 obtain⟨f4,d4,D4⟩:=l4.d X G
 obtain⟨f5,d5,D5⟩:=l5.d X G
 obtain⟨f6,d6,D6⟩:=l6.d X G
 obtain⟨f7,d7,D7⟩:=l7.d X G
 obtain⟨f8,d8,D8⟩:=l8.d X G
 obtain⟨f9,d9,D9⟩:=l9.d X G
 obtain⟨f10,d10,D10⟩:=l10.d X G
 obtain⟨f11,d11,D11⟩:=l11.d X G
 obtain⟨f12,d12,D12⟩:=l12.d X G
 obtain⟨f13,d13,D13⟩:=l13.d X G
 obtain⟨f14,d14,D14,hfc⟩:=l14.d X G
 obtain⟨f15,d15,D15⟩:=l15.d X G
 obtain⟨f16,d16,D16⟩:=l16.d X G
 obtain⟨f17,d17,D17⟩:=l17.d X G
 obtain⟨f18,d18,D18⟩:=l18.d X G
 obtain⟨f19,d19,D19⟩:=l19.d X G
 obtain⟨f20,d20,D20⟩:=l20.d X G
 obtain⟨f21,d21,D21⟩:=l21.d X G
 obtain⟨f22,d22,D22⟩:=l22.d X G
 obtain⟨f23,d23,D23⟩:=l23.d X G
 obtain⟨f24,d24,D24⟩:=l24.d X G
 obtain⟨f25,d25,D25⟩:=l25.d X G
 obtain⟨f27,d27,D27⟩:=l27.d
 obtain⟨f28,d28,D28⟩:=l28.d
 obtain⟨f29,d29,D29⟩:=l29.d
 obtain⟨f30,d30,D30⟩:=l30.d
 obtain⟨f31,d31,D31⟩:=l31.d
 obtain⟨f32,d32,D32⟩:=l32.d
 obtain⟨fl,_,a,FL,_⟩:=l26
 cases hfa.symm.trans (Ay X G a)
 obtain⟨oc,od,kV,doc,pm,an,cdv,ct,osl,rfl,lk,hcd⟩:=id FL.ex
 refine⟨W.fnOf "law" "law" (bX oU) (bo oU) (av oU) .none kV doc pm an cdv ct,λs v=>.of_eq rfl,λbase _ _ hbm=>?_⟩
 have GI:=tu (P:=l.prog) (w:=w) (mg:=mg) (base:=base) D27.fn T NC D1 D2 D3 D4 D5
 have GM:=sh (P:=l.prog) (w:=w) (mg:=mg) (base:=base) D28.fn T NC
 have GS:=ql (P:=l.prog) (w:=w) (mg:=mg) (base:=base) D29.fn NC
 have GT:=qW (P:=l.prog) (w:=w) (mg:=mg) (base:=base) D31.fn T NC D1 D30
 have GG:=qR (P:=l.prog) (w:=w) (mg:=mg) (base:=base) D32.fn T NC D1 D30
 have GL:=qw (P:=l.prog) (w:=w) (mg:=mg) (base:=base) D6.fn T T2.any NC ⟨_,_,D31,GT⟩
 have GSe:=oS (P:=l.prog) (w:=w) (mg:=mg) (base:=base) D7.fn T T2.any NC ⟨_,_,D31,GT⟩ ⟨_,_,D32,GG⟩
 have GB:=ph (P:=l.prog) (w:=w) (mg:=mg) (base:=base) D8.fn T NC ⟨_,_,D31,GT⟩ ⟨_,_,D32,GG⟩
 have GMay:=uW (P:=l.prog) (w:=w) (mg:=mg) (base:=base) D9.fn NC ⟨_,_,D28,GM⟩ ⟨_,_,D6,GL⟩ ⟨_,_,D7,GSe⟩
 have GCd:=mI (P:=l.prog) (w:=w) (mg:=mg) (base:=base) D10.fn NC ⟨_,_,D28,GM⟩ ⟨_,_,D6,GL⟩ ⟨_,_,D7,GSe⟩
 have GN:=rF (P:=l.prog) (w:=w) (mg:=mg) (base:=base) D11.fn ⟨_,_,D9,GMay⟩ ⟨_,_,D8,GB⟩
 have GR:=qr (P:=l.prog) (w:=w) (mg:=mg) (base:=base) D12.fn T T2.rev
 have GSh:=qN (P:=l.prog) (w:=w) (mg:=mg) (base:=base) D13.fn NC ⟨_,_,D29,GS⟩ ⟨_,_,D10,GCd⟩ ⟨_,_,D11,GN⟩ ⟨_,_,D12,GR⟩
 have GCr:=lO (P:=l.prog) (w:=w) (mg:=mg) (base:=base) D14.fn hfc hch hbm ⟨_,_,D13,GSh⟩
 have GCe:=sV (P:=l.prog) (w:=w) (mg:=mg) (base:=base) D15.fn T
 have GP:=sf (P:=l.prog) (w:=w) (mg:=mg) (base:=base) D16.fn T2
 have GNm:=qQ (P:=l.prog) (w:=w) (mg:=mg) (base:=base) D17.fn T2 ⟨_,_,D16,GP⟩
 have GCh:=qd (P:=l.prog) (w:=w) (mg:=mg) (base:=base) D18.fn T
 have GFr:=sM (P:=l.prog) (w:=w) (mg:=mg) (base:=base) D19.fn T2 ⟨_,_,D18,GCh⟩
 have GRi:=qS (P:=l.prog) (w:=w) (mg:=mg) (base:=base) D20.fn T T2
 have GCo:=nk (P:=l.prog) (w:=w) (mg:=mg) (base:=base) D21.fn T T2
 have GW:=sJ (P:=l.prog) (w:=w) (mg:=mg) (base:=base) D22.fn
 have GLB:=nF (P:=l.prog) (w:=w) (mg:=mg) (base:=base) D23.fn T
 have GFa:=uT (P:=l.prog) (w:=w) (mg:=mg) (base:=base) D24.fn T ⟨_,_,D22,GW⟩ ⟨_,_,D23,GLB⟩
 have GCw:=p9 (P:=l.prog) (w:=w) (mg:=mg) (base:=base) D25.fn T T2 ⟨_,_,D22,GW⟩ ⟨_,_,D23,GLB⟩
 exact uU FL T T2 NC (Ay X G aC) ⟨mk,D27.mt.at_,D27.mt.fn,kc⟩ D27.bd GI ⟨_,_,D15,GCe⟩ ⟨_,_,D17,GNm⟩ ⟨_,_,D21,GCo⟩ ⟨_,_,D19,GFr⟩ ⟨_,_,D18,GCh⟩ ⟨_,_,D20,GRi⟩ ⟨_,_,D24,GFa⟩ ⟨_,_,D14,GCr⟩ ⟨_,_,D25,GCw⟩
def walk{l:W.OpenLaw}{q:Program}{loose:List Str}{XP:(Str->Option Value)->Heap->Prop}{YP:World->Heap->Prop}{d:DefRec}{K:Params->W.Frag}(hn:l.most=some 63)(hdf:d.params.defaults=[])
  (hY:∀(w:World) (h:Heap),YP w h->(K w.params).In h/\h.get? TB=some (W.tabObj #[])) (hch:∀w:World,W.codeHdIn (K w.params) 119 TB=true) (hKT:∀w:World,(K w.params).lookup TB=none)
  (F:∀(w:World) (mg:Str->Option Value) (fa:Addr) (h:Heap),(K w.params).In h->h.Ns mainGlobals mg->mg d.name = some (.ref fa) ->
   ∃fd:FuncData,(∀(s:Shared) (u:Value),BindsTo s fd ⟨[u],[]⟩ [("_law_script",u)])/\∀base:Heap,(K w.params).In base->base.Ns mainGlobals mg->k4 mg base->aI l.prog w (K w.params) mg base cj 9 fa fd ["_law_script"] (oP (K w.params))) :
  W.WalkO q loose XP YP l.row.toRowW d [] (λf vs=>PySem.call f vs) :=
 L2.rO (n:=63) (k:=9) (x:="_law_script") (CX:=λ_=>cj) (sp:=λw=>oP (K w.params)) qg "crowding.<locals>.<lambda>" hn (by decide) hdf ⟨rfl,by decide,by decide,rfl⟩ hY hch hKT F (λ_ _ a ns hl hb hS hT=>⟨a,ns,rfl,hS,hl,hT,λ_=>rfl⟩) λ_ _ _ _ _ z=>z
end Uf
end
section
open PySem PySem.W PyProof.Rows
namespace PySem.W.Fast
def tw11454919953583775632:=()
def tw14824281030261998453:=()
def tw3409726498507361092:=()
def tw8983739995485301896:=()
def tw15267936882854865911:=()
def tw12035189427433729024:=()
def tw5707336047740331892:=()
def tw7261250640854862714:=()
def tw13215554791767162395:=()
def tw7647655239708240441:=()
def tw11466533923957535839:=()
def tw13366917144549901610:=()
def tw9377343191111782323:=()
def tw8539450203947378885:=()
def tw3995846132400071684:=()
def tw16141232027325444270:=()
def tw4354642401476818354:=()
def tw8626642930638688879:=()
def tw14141373115312348647:=()
def tw8884027430319267962:=()
def tw4303664964406858004:=()
def tw2810184543592988974:=()
def tw10680768275832004748:=()
def tw15798283027397288977:=()
def tw7733039507413426187:=()
def tw6622159085465449166:=()
def tw15724376514919984525:=()
def tw16033058080833351016:=()
def tw5518090958558244641:=()
def tw10352435460027020942:=()
def tw13377544135880140791:=()
def tw13986244846251058772:=()
def tw4026503327758162586:=()
def tw2275466308786148063:=()
def tw6506006835789067263:=()
def tw10133402642414788252:=()
def tw2384846182124826062:=()
def tw326791042523108189:=()
def tw5430489383743782021:=()
def tw268094529758053324:=()
def tw13017882868849279804:=()
def tw3559491466745691714:=()
def tw2099489124837306253:=()
def tw2315551768313838344:=()
def tw4027188841862353708:=()
def tw16093933677003301626:=()
def tw14867185901481365543:=()
def tw12739537095897514134:=()
def tw7005450388180263547:=()
def tw17337120916264926987:=()
def tw4897178800828256096:=()
def tw2442137939342141119:=()
def tw10160396865210250102:=()
def tw16647431296453778989:=()
def tw6435422873303015705:=()
def tw8461471272540404557:=()
def tw4669668136129838896:=()
def tw13882849582259774272:=()
def tw1147806993138742240:=()
def tw478753977650878271:=()
def tw9114941387419497654:=()
def tw13490653705190198047:=()
def tw586987830767862155:=()
def tw17990570696673921438:=()
def tw4501734212190889212:=()
def tw17913683217697633157:=()
def tw14497441432301251164:=()
def tw1249974814708715436:=()
def tw2659389470848016714:=()
def tw7102822601499670617:=()
def tw18346821946038664455:=()
def tw9003684865434991525:=()
def tw8825631438270282793:=()
def tw15345617595745168224:=()
def tw15033399768507011039:=()
def tw4483243292269449575:=()
def tw12447918339197120353:=()
def tw9647943817366130243:=()
def tw15821474914143469077:=()
def tw4692603276116700448:=()
def tw8022676198407837988:=()
def tw4662151152531072078:=()
def tw9728893183055070877:=()
def tw15181927166097640652:=()
def tw17305146239595299856:=()
def tw8848597187988294139:=()
def tw14190338128884645738:=()
def tw17866790567892764154:=()
def tw4519150709870647897:=()
def tw5105769146606131082:=()
def tw13060237363483727363:=()
def tw12645204513766998419:=()
def tw12003982703095774740:=()
def tw16030734372748412435:=()
def tw16408703823956509428:=()
def tw18188132642130234076:=()
def tw6903912079436632187:=()
def tw15325940147799330995:=()
def tw5766104874234022508:=()
def tw10774513526999532406:=()
def tw8042884890013983238:=()
def tw13927963311205973623:=()
def tw15534289027581737742:=()
def tw14145997719928385280:=()
def tw5354951572852966061:=()
def tw4619363139188530578:=()
def tw390027342922890283:=()
def tw2512961546689804089:=()
def tw2904506150677502962:=()
def tw3099917435162251774:=()
def tw3471078934603933469:=()
def tw14618879895448884008:=()
def tw11407075433142681912:=()
def tw286919421665406646:=()
def tw14474841586764520054:=()
def tw6359878686091688761:=()
def tw4808477753900214971:=()
def tw17341497631141218396:=()
def tw10692162360899249440:=()
def tw8058835420102991858:=()
def tw12124975508216394927:=()
def tw9374689329842035790:=()
def tw4367717450276616699:=()
def tw11096408507976644305:=()
def tw15899519842701441043:=()
def tw6465222101224826309:=()
def tw14390604959316631687:=()
def tw3259159456089794606:=()
def tw6699431779148544772:=()
def tw5002349539407073101:=()
def tw10364750134372493015:=()
def tw14971137925784489159:=()
def tw9874846846519398599:=()
def tw17991096887773753469:=()
def tw943363170437387065:=()
def tw11882667295357984377:=()
def tw10729068481751535847:=()
def tw11905862937642490792:=()
def tw11286966758355401164:=()
def tw15420310895557388517:=()
def tw15108058041768889894:=()
def tw8530038078296497310:=()
def tw1217949027337452755:=()
def tw12792404924454679107:=()
def tw3998545914254914573:=()
def tw13976730363078629810:=()
def tw11546709520702021589:=()
def tw13317716614845619811:=()
def tw419160631799429476:=()
def tw16238818277281694095:=()
def tw4416137040505842603:=()
def tw10292534245323631472:=()
def tw17377849133943150808:=()
def tw13894764436576876980:=()
def tw4237535974546990340:=()
def tw504531844173991106:=()
def tw3297989030468123665:=()
def tw2491685611326109550:=()
def tw11201429635998936057:=()
def tw5254892678477497357:=()
def tw17399782585892821331:=()
def tw18288501587475823906:=()
def tw8362153100834597309:=()
def tw15897839977356160400:=()
def tw15012251355093298521:=()
def tw11475397543030222265:=()
def tw4468006584224597658:=()
def tw2809576212889695334:=()
def tw7085785594212729560:=()
def tw16464476267700454661:=()
def tw2097149270591034692:=()
def tw1148265361137917989:=()
def tw13880294199462879998:=()
def tw13041549437158884805:=()
def tw10830549152527533124:=()
def tw15656398745790024656:=()
def tw12873429740008223450:=()
def tw16530552919529205555:=()
def tw8806631753795651058:=()
def tw5204851886995670847:=()
def tw9507936020372292409:=()
def tw8674423745612711264:=()
def tw17580673687440356472:=()
def tw16688947965525249218:=()
def tw253936418948138777:=()
def tw16751876534246148032:=()
def tw6582596637784018262:=()
def tw15632481465141438249:=()
def tw211303404568136626:=()
def tw10972178750369864227:=()
def tw11340052240580129105:=()
def tw17685615955120932556:=()
def tw12896589648170069848:=()
def tw3396777091864907771:=()
def tw16065700045553045459:=()
def tw3247295847019632836:=()
def tw1747871451620131881:=()
def tw1790424929699398826:=()
def tw10786352323004582693:=()
def tw9591105830066557020:=()
def tw3283868225588787416:=()
def tw7541195057261269772:=()
def tw11756990326792152118:=()
def tw18322557675443296853:=()
def tw13364851722927757416:=()
def tw11169150918707836576:=()
def tw13224983137037658785:=()
def tw14406101198776641006:=()
def tw9378276368128004753:=()
def tw12730338259508556190:=()
def tw1456224641481403613:=()
def tw482072201244118716:=()
def tw17881194912238768400:=()
def tw7129319843330985875:=()
def tw14169233241551852443:=()
def tw9438914248269870365:=()
def tw15508071852471434707:=()
def tw5256119265763973220:=()
def tw17659559695200158928:=()
def tw4234934931381901445:=()
def tw16790512301866322469:=()
def tw17782749838413022934:=()
def tw12328784426356847540:=()
def tw3100055248953656453:=()
def tw415221464422741470:=()
def tw179817929083528825:=()
def tw12954154755613527635:=()
def tw12132304478515994124:=()
def tw15550164826769524396:=()
def tw4191376035697857712:=()
def tw11486905717496892906:=()
def tw5592392188189600298:=()
def tw1358056029506256453:=()
def tw177016889595119653:=()
def tw6128994756461359356:=()
def tw4815841616173133404:=()
def tw7009552895235729317:=()
def tw2918562115689157654:=()
def tw9386383023071326574:=()
def tw3416695474713535807:=()
def tw5752749030045994948:=()
def tw7670681501505143143:=()
def tw15809489542099444043:=()
def tw11935805047716816023:=()
def tw17823714664958822189:=()
def tw9921004895646067702:=()
def tw8682281319164414127:=()
def tw17428932069648872088:=()
def tw788926647826707267:=()
def tw13026849714535011267:=()
def tw218274490414206428:=()
def tw12131907427379730130:=()
def tw3232586190583251227:=()
def tw16829870131308383795:=()
def tw576722232300021426:=()
def tw17976341576653613578:=()
def tw3823996871167647550:=()
def tw2463168669318097698:=()
def tw5350754291314919285:=()
def tw4632566263115680264:=()
def tw8266767378466901767:=()
def tw3497322965973168045:=()
def tw11731940043213424590:=()
def tw8021974012550984535:=()
def tw18358605472968213442:=()
def tw9951327389426161923:=()
def tw10011185040997280760:=()
def tw11870544780129596388:=()
def tw16989829114489999429:=()
def tw7583931954164764989:=()
def tw8139927433928526611:=()
def tw1739038628921764344:=()
def tw44924452735011980:=()
def tw3136778797163837926:=()
def tw16366757428094883347:=()
def tw13660597955593914065:=()
def tw12647383298908280613:=()
def tw10651452018229995518:=()
def tw309702203722762314:=()
def tw11971693616995432911:=()
def tw8433559269969682916:=()
def tw12313239738968644800:=()
def tw1647848263849987415:=()
def tw2749915451794508156:=()
def tw15516080717737960134:=()
def tw5378675529339128172:=()
def tw18218673235250134661:=()
def tw248969095201096724:=()
def tw15004596530067928026:=()
def tw15824060704351635125:=()
def tw9942861155838094896:=()
def tw17555461174386200823:=()
def tw13162663443543950415:=()
def tw12436098322042509001:=()
def tw3657107929899236841:=()
def tw5969248140860002595:=()
def tw402476363383353269:=()
def tw14576564083470979933:=()
def tw14141947569024022824:=()
def tw7053843371334614880:=()
def tw16347737744438747186:=()
def tw4793552230621103694:=()
def tw6938367943217448317:=()
def tw13263511332955658093:=()
def tw15684965201853283636:=()
def tw6852452336147542183:=()
def tw11030254568112440987:=()
end PySem.W.Fast
set_option maxRecDepth 100000 in
set_option maxHeartbeats 0 in
theorem PySem.Challenge.cw_unfoldnet_k14_whole_crowding_holds : PySem.Challenge.rw_unfoldnet_k14_whole_crowding.Holds := by
 w_on;o_law;k_head;(case hw=>w_witness2)
 k_fill
 refine Uf.walk (l:=PySem.Challenge.rw_unfoldnet_k14_whole_crowding) rfl rfl (fun w h Y=>⟨PySem.W.km_in_of Y,PySem.W.km_tabs_of Y _ yW⟩) (fun w=>by kernel_rfl) (fun w=>by kernel_rfl) ?F
 case F =>
  intro w mg fa h KX G hmg
  refine' Uf.all_mk KX G hmg ..
  all_goals try first|refine' Uf.wm ?_ ?_ ?_ ?_|refine' Uf.uY ?_ ?_ ?_ ?_|refine' Uf.wz ?_ ?_ ?_ ?_ ?_
  all_goals first|k_is|rfl|kernel_rfl|decide +kernel|skip
end
