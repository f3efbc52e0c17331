import PyProof.Rows.All
import Wide.All
import OpenK.AllK
import Wide.FinOn
import Lean
import PyProof.EqAt
import PyProof.EqKinds
import PyProof.TupleCall
import PyProof.SetKind
import PyProof.DictKinds
import PyProof.CompFree
import PyProof.FactsAll.set_1
import PyProof.Seq
import PyProof.Walks
import PyProof.CollectWalk
import PyProof.WalkLemmas
import PyProof.Rows.TmSorted
import PyProof.Rows.StrMeet
import PyProof.Rows.SortStr
import PyProof.Rows.SetFrom
import KE.KDictList
import PyProof.NeKinds
import PyProof.Rows.TupDisplay
import PyProof.StrOps2
import PyProof.StrBlockH
import PyProof.StrCalls2
import PyProof.StrLawsTight
import PyProof.StrLawsFirst
import PyProof.WalksEnum
import PyProof.EnumMake
import KE.BitLaws
import PyProof.ListRange
import KE.KEqDict
import PyProof.Rows.RuleM_int
import PyProof.FactsAll.int_6
import PyProof.AttrMissHeap
import KE.KDictOf
import PyProof.Rows.SortShellK
import PyProof.TupleOfSeq
import KE.KMinKey
import PyProof.Rows.CallKwBuiltin
import PyProof.DictValues
import PyProof.DictWalks
import KE.KPairComp
import PyProof.DictItems
import PySem.Challenge.RW_unfoldnet_k42_whole_a_total_order
set_option Elab.async false
set_option linter.all false
set_option maxRecDepth 100000
set_option maxHeartbeats 8000000
variable{P prog:PySem.Program}{w:PySem.World}{K:PySem.W.Frag}{mg:PySem.Str->Option PySem.Value}{base:PySem.Heap}{A:PySem.Around}{E:PySem.Value->PySem.Shared->Prop}{s:PySem.Shared}
def Kv:=@PySem.wpAny_bind
def Kw:=@List.length_map
def Kx:=@List.getElem?_eq_getElem
def Ky:=@PySem.Heap.get?_push_of_some
def Kz:=@PySem.wpAny_pure
def KA:=@List.length_append
def KC:=@decide_eq_true
def KD:=@if_neg
def KG:=@List.mem_singleton
def KH:=@List.getElem?_map
def KI:=@PyProof.Rows.wpS_bind
def KJ:=@List.mem_of_getElem?
def KL:=@Nat.le_refl
def KN:=@List.getD_eq_getElem?_getD
def KO:=@PySem.Heap.lt_size
def KP:=@if_pos
def KQ:=@List.getElem?_eq_some_iff
def KR:=@List.mem_cons
def KS:=@List.map_append
def KU:=@decide_eq_false
def KW:=@List.mem_append
def KY:=@PySem.Heap.get?_push_size
def KZ:=@PySem.Paired.length
def K0:=@List.mem_map
def K1:=@List.mem_filter
def K2:=@Nat.zero_le
def K3:=@PyProof.Rows.wpS_pure
def K4:=@Nat.lt_of_lt_of_le
def K5:=@Nat.ne_of_lt
def K6:=@List.mem_cons_of_mem
def K7:=@PySem.PassesOwn.never
def K8:=@List.size_toArray
def K9:=@List.mem_cons_self
def La:=@List.length_take
def Lb:=@Bool.false_ne_true
def Lc:=@PySem.F.slot_list_append
def Ld:=@PySem.F.type_list_append
def Le:=@List.take_length
def Lf:=@PySem.F.plainAttrs_list
def Lg:=@PySem.sizeLine_eq
def Lh:=@Nat.le_trans
def Li:=@Ne.symm
def Lj:=@List.length_cons
def Lk:=@List.map_map
def Ll:=@List.getElem?_eq_none
def Ln:=@of_decide_eq_true
def Lp:=@decide_eq_true_eq
def Lq:=@Option.some.inj
def Lr:=@List.mem_append_left
def Ls:=@List.getElem?_append_left
def Lu:=@Bool.eq_iff_iff
def Lv:=@Bool.and_eq_true_iff
def Lw:=@Nat.lt_succ_of_lt
def Lx:=@List.not_mem_nil
def Ly:=@List.mem_range
def Lz:=@Nat.lt_of_le_of_lt
def LA:=@Nat.lt_irrefl
def LB:=@List.getElem?_append_right
def LC:=@Nat.pow_le_pow_right
def LD:=@PyProof.Rows.wpS_forRange
def LF:=@PySem.sizeLine_eq
def LG:=@List.mem_append_right
def LH:=@List.length_filter_le
def LI:=@Int.toNat_natCast
def LJ:=@PySem.Heap.get?_update_other
def LK:=@List.map_cons
def LM:=@List.nodup_append
def LN:=@Bool.false_eq_true
def LO:=@List.drop_eq_getElem_cons
def LP:=@List.drop_of_length_le
def LQ:=@PySem.Around.under_plainId
def LR:=@List.nodup_cons
def LS:=@List.all_eq_true
def LU:=@PySem.wpAny_truthy_bool
def LV:=@List.length_range
def LW:=@Option.map_eq_some_iff
def LX:=@PySem.Heap.SameBut.update
def LY:=@PySem.wpAny_holding
def LZ:=@congrArg
def L0:=@List.mem_of_mem_take
def L1:=@PySem.Paired.snoc
def L3:=@List.filter_eq_nil_iff
def L4:=@PySem.codeAny_builtin
def L5:=@List.foldl_cons
def L6:=@PySem.W.mg_none_of
def L7:=@Array.length_toList
def L8:=@PySem.Heap.get?_update_self
def L9:=@Array.getElem?_toList
def Ma:=@PyProof.Rows.wpS_mono
def Mb:=@List.filter_append
def Mc:=@Nat.lt_succ_self
def Md:=@Bool.and_eq_true
def Me:=@beq_eq_false_iff_ne
def Mf:=@PySem.plainId_quiet
def Mg:=@List.length_singleton
def Mh:=@PySem.W.kia_one
def Mi:=@or_false
def Mj:=@decide_eq_decide
def Ml:=@List.perm_ext_iff_of_nodup
def Mm:=@PySem.Heap.size_push
def Mn:=@Nat.le_succ
def Mo:=@PySem.wpAny_newObj_type
def Mp:=@PySem.wpAny_mono
def Mq:=@List.any_eq_true
def Mr:=@List.getElem_mem
def Ms:=@PySem.wpAny_call_entry
def Mt:=@PySem.F.called_set
def Mu:=@PySem.wpAny_rule
def Mw:=@List.append_assoc
def Mx:=@PyProof.Rows.callWith_type1
def My:=@PySem.wpAny_setEntries_of
def Mz:=@List.getElem?_range
def MA:=@List.take_of_length_le
def MB:=@Nat.testBit_lt_two_pow
def MC:=@if_false
def MD:=@List.lookup_cons
def ME:=@Nat.le_add_right
def MF:=@List.mem_filterMap
def MG:=@PySem.wpAny_Call_Name_kw
def MH:=@List.length_replicate
def MI:=@PySem.wpAny_setField
def MJ:=@List.mem_iff_getElem?
def MK:=@Nat.ne_of_gt
def ML:=@beq_iff_eq
def MM:=@List.append_nil
def MN:=@List.find?_cons
def MO:=@List.forIn_cons
def MP:=@List.Perm.eq_of_pairwise
def MQ:=@List.eq_nil_of_length_eq_zero
def MR:=@PySem.mem_of_lookup
def MS:=@Nat.testBit_two_pow
def MT:=@List.map_congr_left
def MU:=@List.flatten_append
def MV:=@PySem.Heap.size_update
def MW:=@PySem.F.plain_max_loop
def MY:=@PyProof.Rows.wpS_modify
def MZ:=@List.flatten_singleton
def M0:=@PyProof.Rows.F.plain_set_update_loop
def M3:=@Int.emod_lt_of_pos
def M4:=@Nat.testBit_two_pow_sub_one
def M5:=@of_decide_eq_false
def M6:=@PySem.wpAny_passesOwn
def M7:=@PySem.SeqAt.EqAt.same
def M8:=@List.take_append_drop
def M9:=@List.nil_append
def Na:=@List.any_cons
def Nb:=@Bool.true_and
def Nc:=@PySem.wpAny_setState_of
def Nd:=@Array.toList_push
def Nf:=@List.pairwise_map
def Ng:=@PySem.Calls.call_function_entry
def Nh:=@Nat.mul_le_mul_right
def Ni:=@PySem.wpAny_seqItems
def Nj:=@PySem.wpAny_askSetting
def Nk:=@List.filter_cons
def Nl:=@List.nodup_range
def Nn:=@List.getElem?_replicate
def Np:=@PySem.wpAny_getItem_str_slice
def Nq:=@PyProof.Rows.wpS_get
def Nr:=@PySem.wpAny_specialOf
def Nt:=@PyProof.Rows.size_push'
def Nu:=@Int.emod_nonneg
def Nv:=@Nat.testBit_and
def Nx:=@PySem.wpAny_pyIter_list
def Ny:=@List.take_sublist
def Nz:=@PySem.SeqAt.RcAt.tuples
def NB:=@List.ext_getElem?
def ND:=@List.foldl_append
def NF:=@Array.getElem_mem
def NG:=@PySem.codeAny_mono
def NH:=@PySem.builtinLookup_eq_fast
def NI:=@PySem.wpAny_fieldsOf
def NJ:=@Nat.testBit_or
def NK:=@PySem.wpAny_tryCatch
def NL:=@Nat.testBit_two_pow_mul_add
def NM:=@List.length_drop
def NN:=@Array.toArray_toList
def NO:=@List.pairwise_append
def NP:=@Sum.inr.inj
def NQ:=@PySem.W.mg_of
def NR:=@List.flatMap_append
def NS:=@List.filter_sublist
def NT:=@List.replicate_succ
def NU:=@List.length_nil
def NV:=@PySem.wpAny_updateSeq
def NW:=@Nat.min_le_left
def NX:=@Nat.lt_pow_two_of_testBit
def NY:=@Int.natCast_nonneg
def NZ:=@PySem.F.args_tuple_add_2
def N3:=@PySem.tupleKind_room_in1
def N4:=@PyProof.Rows.F.entry_set_update_loop
def N5:=@List.all_map
def N8:=@List.find?_eq_none
def Oa:=@List.map_inj_right
def Ob:=@Nat.sub_self
def Oc:=@PySem.F.slot_list_getattribute
def Od:=@Array.size_extract
def Oe:=@Bool.false_and
def Of:=@if_true
def Og:=@PySem.F.entry_tuple_add
def Oh:=@Nat.exists_eq_add_of_le
def Oi:=@Option.isSome_map
def Oj:=@PySem.fits_of_scanBound
def Ol:=@PySem.Heap.get?_push_ne
def Om:=@PySem.F.slot_tuple_hash
def Oo:=@List.flatten_cons
def Oq:=@PySem.richCompare_meets_room
def Ot:=@PySem.F.slot_tuple_add
def Ou:=@Bool.or_false
def Ov:=@List.all_cons
def Ow:=@PySem.wpAny_newList
def Ox:=@List.map_take
def Oy:=@Bool.not_true
def Oz:=@List.getElem_inj
def OA:=@PySem.wpAny_isInstance
def OB:=@Nat.lt_of_not_le
def OC:=@PyProof.Rows.wpS_lift
def OD:=@Nat.le_of_lt
def OE:=@PySem.Heap.get?_none_of_le
def OF:=@PySem.wpAny_execs_nil
def OG:=@PySem.typeLookup_type
def OH:=@PySem.wpAny_typeOf
def OI:=@PyProof.Rows.entry_list_sort
def OJ:=@Nat.zero_add
def OL:=@List.any_map
def OM:=@PySem.post_val_or_str
def ON:=@PySem.Txt.slice_le
def OO:=@Nat.min_eq_left
def OP:=@Bool.or_eq_true
def OQ:=@Nat.eq_of_testBit_eq
def OR:=@List.filterMap_cons
def OS:=@PySem.W.plainGet_of
def OT:=@Nat.add_le_add_left
def OU:=@List.filter_eq_self
def OV:=@PyProof.Rows.slot_list_sort
def OW:=@PyProof.Rows.args_list_sort
def OX:=@PyProof.Rows.sortedHeap_old
def OY:=@List.drop_zero
def OZ:=@List.forIn_nil
def O0:=@List.dropLast_concat_getLast
def O1:=@Nat.mul_le_mul
def O2:=@List.foldl_nil
def O3:=@PySem.W.callWith_K
def O4:=@List.pairwise_cons
def O5:=@not_or
def O6:=@PySem.SeqAt.RcNeAt.lists
def O7:=@Array.forIn_toList
def O8:=@PySem.Calls.Name_function_global
def O9:=@PySem.wpAny_standAt
def Pa:=@Int.fdiv_eq_ediv_of_nonneg
def Pb:=@PyProof.Rows.sortedHeap_at
def Pc:=@PySem.MeetsSeq3.plain_eq_loop
def Pd:=@List.any_eq_false
def Pe:=@List.filter_congr
def Pf:=@PySem.F.plain_extend_loop
def Pg:=@Classical.byContradiction
def Ph:=@List.pairwise_iff_getElem
def Pj:=@Nat.le_of_eq
def Pk:=@PySem.AutoSeq1.sub_tuple_tuple
def Pl:=@PySem.wpAny_forIn_list
def Pm:=@PySem.noFill_tuple_add
def Pn:=@List.map_nil
def Po:=@PySem.wpAny_comprehension_free
def Pp:=@Array.toList_inj
def Pq:=@PyProof.Rows.plain_sorted
def Pt:=@PyProof.Rows.entry_sorted
def Pu:=@PyProof.Rows.args_sorted1
def Pw:=@Nat.min_eq_right
def Px:=@List.mem_flatMap
def Py:=@PyProof.Rows.listItems_at
def Pz:=@List.map_fst_zip
def PB:=@Nat.zero_testBit
def PF:=@PySem.F.entry_max_loop
def PH:=@Nat.lt_succ_iff_lt_or_eq
def PJ:=@PySem.F.args_tuple_lt_2
def PL:=@Option.bind_eq_some_iff
def PM:=@PySem.wpAny_callSpecial?_slot
def PN:=@PySem.F.plain_list_iadd
def PQ:=@List.pairwise_mergeSort
def PR:=@List.length_eq_zero_iff
def PU:=@Nat.add_sub_cancel_left
def PV:=@List.of_mem_zip
def PX:=@List.length_set
def PY:=@PySem.wpAny_ite_split
def PZ:=@Nat.two_pow_pos
def P0:=@Nat.and_le_left
def P9:=@List.getElem?_set_self
def Qa:=@PySem.W.cellsFrom_some
def Qb:=@PySem.F.entry_tuple_lt
def Qc:=@List.range_succ_eq_map
def Qd:=@List.map_id
def Qe:=@PySem.wpAny_letGo
def Qf:=@PySem.W.methodCall_KW
def Qg:=@PySem.F.slot_tuple_lt
def Qh:=@PySem.isSubtype_type
def Qi:=@PySem.F.slot_set_iter
def Qj:=@PySem.F.plain_set_new
def Qk:=@List.range_add
def Ql:=@Array.size_map
def Qm:=@List.getElem?_set_ne
def Qn:=@PySem.typeIs_str
def Qo:=@List.length_eraseIdx
def Qp:=@PySem.Walks.list
def Qq:=@List.getElem_toArray
def Qr:=@PySem.seq_tuple_add
def Qs:=@Bool.false_or
def Qt:=@PySem.wpAny_attempt
def Qu:=@List.map_drop
def Qv:=@Bool.and_true
def Qw:=@Option.bind_eq_bind
def Qx:=@List.mergeSort_perm
def Qy:=@List.length_pos_iff
def Qz:=@Array.toList_modify
def QA:=@Nat.add_zero
def QB:=@Nat.le_total
def QC:=@getElem?_pos
def QD:=@List.not_lt
def QE:=@Nat.one_mul
section
namespace L2
open PySem PySem.Spec PyProof.Rows
abbrev Key:=Sum Int Str
def jm:Key->Value->Bool
 |.inl k,v=>Value.isInt k v
 |.inr x,v=>Value.isStrOf x v
def JG(w:World):Key->Int
 |.inl k=>hashInt k
 |.inr x=>hashStr w x
def cq:∀{k:Key} {v:Value},jm k v=true->(∃i t,k=Sum.inl i/\v=Value.int i t)\/(∃x t,k=Sum.inr x/\v=Value.str x t)
 |.inl i,v,h=>by
  obtain⟨t,e⟩:=Value.isInt_shape (k:=i) (v:=v) h
  exact .inl ⟨i,t,rfl,e⟩
 |.inr x,v,h=>by
  obtain⟨t,e⟩:=Value.isStrOf_shape (x:=x) (v:=v) h
  exact .inr ⟨x,t,rfl,e⟩
def yh(i:Int)(t:Tok):jm (.inl i) (.int i t)=true:=by simp[jm,Value.isInt]
def yR(x:Str)(t:Tok):jm (.inr x) (.str x t)=true:=by simp[jm,Value.isStrOf]
def GD(a b:Int):decide ((Sum.inl a:Key)=Sum.inl b)=(a==b):=by
 by_cases e:a=b
 ·subst e;simp
 ·have h:¬(Sum.inl a:Key)=Sum.inl b:=λq=>e (Sum.inl.inj q)
  rw[KU h]
  exact(Me.mpr e).symm
def FK(a b:Str):decide ((Sum.inr a:Key)=Sum.inr b)=decide (a=b):=by
 by_cases e:a=b
 ·subst e;simp
 ·have h:¬(Sum.inr a:Key)=Sum.inr b:=λq=>e (NP q)
  rw[KU h,KU e]
def FY(a:Int)(b:Str):decide ((Sum.inl a:Key)=Sum.inr b)=false:=KU (λq=>nomatch q)
def Gf(a:Str)(b:Int):decide ((Sum.inr a:Key)=Sum.inl b)=false:=KU (λq=>nomatch q)
def aR(prog:Program)(w:World):PySem.KeyKind prog w Key where
 is:=jm
 hash:=JG w
 inj:=λv a b ha hb=>by
  rcases cq ha with⟨i,t,rfl,rfl⟩|⟨x,t,rfl,rfl⟩
  ·rcases cq hb with⟨j,u,rfl,e⟩|⟨y,u,rfl,e⟩
   ·injection e with e1 _;rw[e1]
   ·exact nomatch e
  ·rcases cq hb with⟨j,u,rfl,e⟩|⟨y,u,rfl,e⟩
   ·exact nomatch e
   ·injection e with e1 _;rw[e1]
 byValue:=λk v h=>by
  rcases cq h with⟨i,t,rfl,rfl⟩|⟨x,t,rfl,rfl⟩ <;> rfl
 pyHash:=λhv h=>by
  rcases cq hv with⟨i,t,rfl,rfl⟩|⟨x,t,rfl,rfl⟩
  ·exact wpAny_pyHash_int h
  ·exact wpAny_pyHash_str h
 eqBool:=λhu hv h=>by
  rcases cq hu with⟨i,t,rfl,rfl⟩|⟨x,t,rfl,rfl⟩
  ·rcases cq hv with⟨j,u,rfl,rfl⟩|⟨y,u,rfl,rfl⟩
   ·rw[GD]at h;exact wpAny_eqBool_int h
   ·rw[FY]at h;exact SeqAt.EqAt.int_str i t y u _ _ _ _ h
  ·rcases cq hv with⟨j,u,rfl,rfl⟩|⟨y,u,rfl,rfl⟩
   ·rw[Gf]at h;exact SeqAt.EqAt.str_int x t j u _ _ _ _ h
   ·rw[FK]at h;exact wpAny_eqBool_str h
 «strs»:=λk x t v h=>by
  rcases cq h with⟨i,u,rfl,e⟩|⟨y,u,rfl,e⟩
  ·exact nomatch e
  ·injection e with e1 _
   subst e1
   cases v <;> rfl
def uw(prog:Program)(w:World)(k:Key)(v:Value):(aR prog w).is k v=jm k v:=rfl
def rC(prog:Program)(w:World)(i:Int)(t:Tok):(aR prog w).is (.inl i) (.int i t)=true:=yh i t
def qZ(prog:Program)(w:World)(x:Str)(t:Tok):(aR prog w).is (.inr x) (.str x t)=true:=yR x t
end L2
namespace L2
open PySem PySem.Spec PyProof.Rows
inductive V where
 |non|bl (b:Bool)|int (i:Int)|str (x:Str)|byt (b:Array UInt8)|flt (b:UInt64)|ref (a:Addr)|ty (n:String)
 deriving DecidableEq
def RelV:V->Value->Prop
 |.non,u=>u=Value.none
 |.bl b,u=>u=Value.bool b
 |.int i,u=>∃t,u=Value.int i t
 |.str x,u=>∃t,u=Value.str x t
 |.byt b,u=>∃t,u=Value.bytes b t
 |.flt b,u=>∃t,u=Value.float b t
 |.ref a,u=>u=Value.ref a
 |.ty n,u=>u=Value.type n
abbrev Vals:List V->List Value->Prop:=Paired RelV
theorem Vals.length{xs:List V}{us:List Value}(r:Vals xs us):xs.length=us.length:=KZ r
theorem Vals.get:∀{xs:List V} {us:List Value} {i:Nat} {x:V},Vals xs us->xs[i]?=some x->∃u,us[i]?=some u/\RelV x u
 |_,_,_,_,.nil,e=>by simp at e
 |_,_,0,_,.cons r _,e=>by simp at e;subst e;exact⟨_,rfl,r⟩
 |_,_,i+1,x,.cons _ t,e=>by
  obtain⟨u,h1,h2⟩:=Vals.get (i:=i) (x:=x) t (by simpa using e)
  exact⟨u,by simpa using h1,h2⟩
theorem Vals.set{x:V}{u:Value}(r:RelV x u):∀{xs:List V} {us:List Value} (i:Nat),Vals xs us->Vals (xs.set i x) (us.set i u)
 |_,_,_,.nil=>.nil
 |_,_,0,.cons _ t=>.cons r t
 |_,_,i+1,.cons q t=>.cons q (Vals.set r i t)
theorem Vals.append:∀{xs ys:List V} {us ws:List Value},Vals xs us->Vals ys ws->Vals (xs++ys) (us++ws)
 |_,_,_,_,.nil,s=>s
 |_,_,_,_,.cons r t,s=>.cons r (Vals.append t s)
theorem Vals.take:∀{xs:List V} {us:List Value} (n:Nat),Vals xs us->Vals (xs.take n) (us.take n)
 |_,_,0,_=>.nil
 |_,_,_+1,.nil=>.nil
 |_,_,n+1,.cons r t=>.cons r (Vals.take n t)
theorem Vals.drop:∀{xs:List V} {us:List Value} (n:Nat),Vals xs us->Vals (xs.drop n) (us.drop n)
 |_,_,0,r=>r
 |_,_,_+1,.nil=>.nil
 |_,_,n+1,.cons _ t=>Vals.drop n t
def iP:Option V->Option Value->Prop
 |some v,some u=>RelV v u
 |none,none=>True
 |_,_=>False
def KV{κ:Type}:List (κ×V)->List (κ×Value)->Prop:=Paired λ(p:κ×V) (q:κ×Value)=>p.1=q.1/\RelV p.2 q.2
def kV:Key->V
 |.inl i=>.int i
 |.inr x=>.str x
inductive HO where
 |lst (xs:List V)
 |tup (xs:List V)
 |dK (kvs:List (Key×V))|dT (kvs:List (List Key×V))
 |set (S:Int->Bool) (n:Nat)
 |ins (C dx:Addr) (fs:List (Str×V))
 |own (x:Addr)
 |xd (fs:List (Str×V))
 |met (f x:Addr)
 |rng (lo hi:Int)
 |frz (o:Obj) (u:HO)
 |tbl (ps:Array Value)
 |ext (φ:Heap->Prop)
abbrev Hp:=Addr->Option HO
def upd(H:Hp)(a:Addr)(o:HO):Hp:=λb=>if b=a then some o else H b
def ag{H:Hp}{a:Addr}{o:HO}:upd H a o a=some o:=by unfold upd;rw[if_pos rfl]
def ah{H:Hp}{a b:Addr}{o:HO}(h:b≠a):upd H a o b=H b:=by unfold upd;rw[if_neg h]
def CQ{H:Hp}{a:Addr}{o u:HO}:upd (upd H a o) a u=upd H a u:=by
 funext b;unfold upd;split <;> rfl
def aQ{H:Hp}{a b:Addr}{o u:HO}(h:H a=some o)(h':H b=some u)(d:o≠u):a≠b:=by
 intro e;subst e;rw[h]at h';exact d (Lq h')
def ai{H:Hp}{a b:Addr}{o:HO}(h:H a=some o)(h':H b=none):a≠b:=by
 intro e;subst e;rw[h]at h';cases h'
section
variable (P:Program)(w:World)
def bU(H:Hp)(h:Heap)(a:Addr):HO->Prop
 |.lst xs=>xs.length<=sizeLine/\∃(its:List Value) (n:Nat),Vals xs its/\h.get? a=some { cls:=.type "list",data:=.seq its.toArray n }
 |.tup xs=>xs.length<=sizeLine/\∃its:List Value,Vals xs its/\IsTup h a its.toArray
 |.dK kvs=>kvs.length<=sizeLine/\(a==sysModules)=false/\∃vs,KV kvs vs/\h.DictOf (aR P w) a vs
 |.dT kvs=>kvs.length<=sizeLine/\(a==sysModules)=false/\∃xs:List (List Key×Addr×Value),
   Paired (λ(p:List Key×V) (q:List Key×Addr×Value)=>p.1=q.1/\H q.2.1=some (.tup (p.1.map kV))/\RelV p.2 q.2.2) kvs xs /\
   ∃o es ep,h.get? a=some o/\o.ExactDict/\o.data=.dict es ep/\es.toList=xs.map (entryOfKey (tupleKind (aR P w)))/\(xs.map (·.1)).Nodup
 |.set S n=>h.SetOf (intKind P w) a S n
 |.ins C dx fs=>H dx=some (.own a)/\fs.length<=1000/\dx≠a/\h.get? a=some (PySem.W.instObj C dx) /\
   ∃mA,h.Ns1 dx mA/\(∀f,iP (fs.lookup f) (mA f))/\PySem.Within mA (fs.map (·.1))
 |.own _=>∃o,h.get? a=some o
 |.xd fs=>∃mA,h.Ns1 a mA/\∀f,iP (fs.lookup f) (mA f)
 |.rng lo hi=>∃t u v,h.get? a=some { cls:=.type "range",data:=.fields #[.int lo t,.int hi u,.int 1 v] }
 |.frz o u=>h.get? a=some o/\bU H h a u
 |.tbl ps=>h.get? a=some { cls:=.none,data:=.fields ps }
 |.met f x=>h.get? a=some (PySem.W.methodObj (.ref f) (.ref x))
 |.ext φ=>φ h/\(∃o,h.get? a=some o)/\∀h1 h2:Heap,φ h1->(∀o,h1.get? a=some o->h2.get? a=some o)->φ h2
def ja(H:Hp)(h:Heap):Prop:=∀a o,H a=some o->bU P w H h a o
end
section
variable {P:Program}{w:World}{H H':Hp}{h h':Heap}{a:Addr}{o:HO}
theorem bU.lt(x:bU P w H h a o):a<h.objs.size:=by
 cases o with
 |lst xs=>obtain⟨_,_,_,_,e⟩:=x;exact KO e
 |tup xs=>obtain⟨_,_,_,p⟩:=x;exact p.lt
 |dK kvs=>obtain⟨_,_,_,_,o,_,_,e,_⟩:=x;exact KO e
 |dT kvs=>obtain⟨_,_,_,_,o,_,_,e,_⟩:=x;exact KO e
 |set S n=>obtain⟨o,_,_,_,e,_⟩:=x;exact KO e
 |ins C dx fs=>obtain⟨_,_,_,e,_⟩:=x;exact KO e
 |own y=>obtain⟨_,e⟩:=x;exact KO e
 |xd fs=>obtain⟨_,⟨_,_,_,e,_⟩,_⟩:=x;exact KO e
 |rng lo hi=>obtain⟨_,_,_,e⟩:=x;exact KO e
 |frz ob u=>obtain⟨e,_⟩:=x;exact KO e
 |tbl ps=>exact KO (show h.get? a=some _ from x)
 |met f y=>exact KO (show h.get? a=some _ from x)
 |ext φ=>obtain⟨_,⟨_,e⟩,_⟩:=x;exact KO e
theorem Paired.cH{α β:Type}{F G:α->β->Prop}:∀{l₁:List α} {l₂:List β},Paired F l₁ l₂->(∀a b,F a b->G a b)->Paired G l₁ l₂
 |_,_,.nil,_=>.nil
 |_,_,.cons r t,f=>.cons (f _ _ r) (Paired.cH t f)
def bU.lX(x:bU P w H h a o)(k:∀b u,(b=a\/H b=some (.own a))->h.get? b=some u->h'.get? b=some u)
  (ho:∀b,H b=some (.own a)->H' b=some (.own a)) (ht:∀b xs,H b=some (.tup xs)->H' b=some (.tup xs)):bU P w H' h' a o:=by
 induction o with
 |lst xs=>obtain⟨z,its,n,r,e⟩:=x;exact⟨z,its,n,r,k _ _ (.inl rfl) e⟩
 |tup xs=>obtain⟨z,its,r,ob,e,c⟩:=x;exact⟨z,its,r,ob,k _ _ (.inl rfl) e,c⟩
 |dK kvs=>obtain⟨z,y,vs,r,ob,es,ep,e,c⟩:=x;exact⟨z,y,vs,r,ob,es,ep,k _ _ (.inl rfl) e,c⟩
 |dT kvs =>
  obtain⟨z,y,xs,r,ob,es,ep,e,c⟩:=x
  exact⟨z,y,xs,Paired.cH r λp q z=>⟨z.1,ht _ _ z.2.1,z.2.2⟩,ob,es,ep,k _ _ (.inl rfl) e,c⟩
 |set S n=>obtain⟨ob,es,ep,t,e,c⟩:=x;exact⟨ob,es,ep,t,k _ _ (.inl rfl) e,c⟩
 |ins C dx fs =>
  obtain⟨d,z,ne,e,mA,⟨od,es,ep,e2,c⟩,r⟩:=x
  exact⟨ho _ d,z,ne,k _ _ (.inl rfl) e,mA,⟨od,es,ep,k _ _ (.inr d) e2,c⟩,r⟩
 |own y=>obtain⟨ob,e⟩:=x;exact⟨ob,k _ _ (.inl rfl) e⟩
 |xd fs=>obtain⟨mA,⟨od,es,ep,e,c⟩,r⟩:=x;exact⟨mA,⟨od,es,ep,k _ _ (.inl rfl) e,c⟩,r⟩
 |rng lo hi=>obtain⟨t,u,v,e⟩:=x;exact⟨t,u,v,k _ _ (.inl rfl) e⟩
 |frz ob u ih=>obtain⟨e,q⟩:=x;exact⟨k _ _ (.inl rfl) e,ih q⟩
 |tbl ps =>
  have e:h.get? a=some { cls:=.none,data:=.fields ps }:=x
  show h'.get? a=some { cls:=.none,data:=.fields ps }
  exact k a _ (.inl rfl) e
 |met f y =>
  have e:h.get? a=some (PySem.W.methodObj (.ref f) (.ref y)):=x
  show h'.get? a=some (PySem.W.methodObj (.ref f) (.ref y))
  exact k a _ (.inl rfl) e
 |ext φ=>obtain⟨p,⟨o,e⟩,st⟩:=x;exact⟨st _ _ p λo q=>k _ _ (.inl rfl) q,⟨o,k _ _ (.inl rfl) e⟩,st⟩
theorem ja.lt(x:ja P w H h)(e:H a=some o):a<h.objs.size:=(x a o e).lt
def ja.fresh(x:ja P w H h)(e:h.objs.size<=a):H a=none:=by
 cases q:H a with
 |none=>rfl
 |some u=>exact absurd (K4 (x.lt q) e) (LA _)
def ja.kept(x:ja P w H h)(k:∀b u,h.get? b=some u->h'.get? b=some u):ja P w H h':=λa o e =>
 (x a o e).lX (λb u _ q=>k b u q) (λ_ q=>q) λ_ _ q=>q
def ja.laid(x:ja P w H h)(k:∀b u,h.get? b=some u->h'.get? b=some u)(hp:h.objs.size<=a)(new:bU P w (upd H a o) h' a o):ja P w (upd H a o) h':=λb u e=>by
 have hn:=x.fresh hp
 by_cases hb:b=a
 ·subst hb;rw[ag]at e;cases e;exact new
 ·rw[ah hb]at e
  exact(x b u e).lX (λc v _ q=>k c v q) (λc q=>by rw[ah (ai q hn)];exact q) λc xs q=>by rw[ah (ai q hn)];exact q
end
def Rd(H:Hp)(a:Addr)(u:HO):Prop:=H a=some u\/∃o,H a=some (.frz o u)
def Rd.ok{P:Program}{w:World}{H:Hp}{h:Heap}{a:Addr}{u:HO}(r:Rd H a u)(x:ja P w H h):bU P w H h a u:=by
 rcases r with r|⟨o,r⟩
 ·exact x a u r
 ·obtain⟨_,q⟩:=x a _ r
  exact q
def IF:Option HO->Prop
 |some (.lst _)=>True
 |some (.dK _)=>True
 |some (.dT _)=>True
 |some (.set _ _)=>True
 |some (.ins _ _ _)=>True
 |some (.ext _)=>True
 |_=>False
section
variable {P:Program}{w:World}{H:Hp}{h h':Heap}{x e:Addr}{o':HO}
def ja.write(ok:ja P w H h)(mu:IF (H x))(he:e=x\/H e=some (.own x))(k:∀b u,b≠e->h.get? b=some u->h'.get? b=some u)(heo:∃u,h'.get? e=some u)
  (new:bU P w (upd H x o') h' x o'):ja P w (upd H x o') h':=λb u q=>by
 have nown:∀c y,H c=some (.own y)->c≠x:=λc y r z=>by subst z;rw[r]at mu;exact mu
 have ntup:∀c xs,H c=some (.tup xs)->c≠x:=λc xs r z=>by subst z;rw[r]at mu;exact mu
 by_cases hb:b=x
 ·subst hb;rw[ag]at q;cases q;exact new
 ·rw[ah hb]at q
  by_cases hbe:b=e
  ·have q':H b=some (.own x):=by
    rcases he with z|z
    ·exact absurd (hbe.trans z) hb
    ·rw[hbe];exact z
   rw[q]at q';cases q'
   obtain⟨v,hv⟩:=heo
   exact⟨v,by rw[hbe];exact hv⟩
  ·refine(ok b u q).lX (λc v hc r=>k c v ?_ r) (λc r=>by rw[ah (nown c b r)];exact r) λc xs r=>by rw[ah (ntup c xs r)];exact r
   rcases hc with rfl|hc
   ·exact hbe
   ·rintro rfl
    rcases he with z|z
    ·exact nown c b hc z
    ·rw[hc]at z;cases z;exact hb rfl
end
structure Un(fs ex:List Addr)(H H':Hp)(h h':Heap):Prop where
 keep:∀b o,h.get? b=some o->H b=none->b∉fs->b∉ex->h'.get? b=some o
 slot:∀b o,h.get? b=some o->H b=none->b∈fs->b∉ex->∃sl,h'.get? b=some { o with slots:=sl }
 free:∀b o,h.get? b=some o->H b=none->b∉ex->H' b=none
 there:∀b o,h.get? b=some o->b∉ex->∃o',h'.get? b=some o'
 lJ:∀b xs,H b=some (.tup xs)->H' b=some (.tup xs)
 frzs:∀b o u,H b=some (.frz o u)->H' b=some (.frz o u)
 tbls:∀b ps,H b=some (.tbl ps)->∃more,H' b=some (.tbl (ps++more))
section
variable {fs fs' ex ex':List Addr}{H H1 H2:Hp}{h h1 h2 h':Heap}{a x e:Addr}{o:HO}
def Un.any(u:Un fs ex H H1 h h1){b:Addr}{ob:Obj}(q:h.get? b=some ob)(n:H b=none)(hx:b∉ex):∃sl,h1.get? b=some { ob with slots:=sl }:=by
 by_cases hb:b∈fs
 ·exact u.slot b ob q n hb hx
 ·exact⟨ob.slots,u.keep b ob q n hb hx⟩
def Un.kept(k:∀b u,h.get? b=some u->h'.get? b=some u):Un fs ex H H h h' :=
 ⟨λb ob q _ _ _=>k b ob q,λb ob q _ _ _=>⟨ob.slots,k b ob q⟩,λ_ _ _ n _=>n,λb ob q _=>⟨ob,k b ob q⟩,λ_ _ q=>q,λ_ _ _ q=>q,λ_ ps q=>⟨#[],by rw[q];simp⟩⟩
def Un.refl:Un fs ex H H h h:=Un.kept λ_ _ q=>q
def Un.laid(k:∀b u,h.get? b=some u->h'.get? b=some u)(hp:h.objs.size<=a)(hn:H a=none):Un fs ex H (upd H a o) h h' where
 keep:=λb u q _ _ _=>k b u q
 slot:=λb u q _ _ _=>⟨u.slots,k b u q⟩
 free:=λb u q n _=>by rw[ah (K5 (K4 (KO q) hp))];exact n
 there:=λb u q _=>⟨u,k b u q⟩
 lJ:=λb xs q=>by rw[ah (ai q hn)];exact q
 frzs:=λb u xs q=>by rw[ah (ai q hn)];exact q
 tbls:=λb ps q=>⟨#[],by rw[ah (ai q hn),q];simp⟩
def Un.write(mu:IF (H x))(he:e=x\/H e=some (.own x))(k:∀b u,b≠e->h.get? b=some u->h'.get? b=some u)(heo:∃u,h'.get? e=some u):Un fs ex H (upd H x o) h h':=by
 have hx:∀b,H b=none->b≠x:=λb n z=>by subst z;rw[n]at mu;exact mu
 have hb:∀b,H b=none->b≠e:=λb n z=>by
  subst z
  rcases he with r|r
  ·exact hx b n r
  ·rw[n]at r;cases r
 have hm:∀b u,H b=some u->¬IF (some u)->b≠x:=λb u q nm z=>by subst z;rw[q]at mu;exact nm mu
 refine⟨λb u q n _ _=>k b u (hb b n) q,λb u q n _ _=>⟨u.slots,k b u (hb b n) q⟩,λb u q n _=>by rw[ah (hx b n)];exact n,λb u q _=>?_,
  λb xs q=>by rw[ah (hm b _ q λz=>z)];exact q,λb u xs q=>by rw[ah (hm b _ q λz=>z)];exact q,λb ps q=>⟨#[],by rw[ah (hm b _ q λz=>z),q];simp⟩⟩
 by_cases hbe:b=e
 ·subst hbe;exact heo
 ·exact⟨u,k b u hbe q⟩
end
def Jp(h:Heap)(H:Hp):List Addr:=(List.range h.objs.size).filter λa=>(H a).isSome
def qE(h:Heap)(H:Hp):Heap:=PySem.W.hideAll h (Jp h H)
def yw(h:Heap)(H:Hp):(qE h H).objs.size=h.objs.size:=PySem.W.hideAll_size _ _
def Ap{h:Heap}{H:Hp}{b:Addr}{o:Obj}(e:h.get? b=some o)(n:H b=none):(qE h H).get? b=some o :=
 PySem.W.hideAll_get _ e λhm=>by
  have q:(H b).isSome=true:=(K1.mp hm).2
  rw[n]at q;simp at q
def BW{h:Heap}{H:Hp}{b:Addr}{o:Obj}(e:(qE h H).get? b=some o):h.get? b=some o/\H b=none:=by
 have e':h.get? b=some o:=PySem.W.of_hideAll (Jp h H) e
 refine⟨e',?_⟩
 cases q:H b with
 |none=>rfl
 |some x =>
  have hm:b∈Jp h H:=K1.mpr ⟨Ly.mpr (KO e'),by simp[q]⟩
  have z:(qE h H).get? b=none:=PySem.W.hideAll_none (Jp h H) hm
  rw[z]at e;cases e
end L2
namespace L2
open PySem PySem.Spec PyProof.Rows
structure Mod(K:PySem.W.Frag)(mg:Str->Option Value)(base:Heap):Prop where
 kin:K.In base
 glob:base.Ns mainGlobals mg
 blt:∃mb,base.Ns builtinsNs mb/\∀x:Str,x≠"__name__"->mb x=bootBuiltins x
 nolimit:base.NoLimit
structure Cx where
 prog:Program
 w:World
 K:PySem.W.Frag
 mg:Str->Option Value
 base:Heap
 A:Around
 N:List Str
 s₀:Shared
 H₀:Hp
 env:Env
 outer:List Env
 stack:List Env
 ex:List Addr
 fn:Str->Bool
 calm:Bool
 pn:List (Addr×Obj)
 xe:Value->Shared->Prop
def iU(l:List Env):List Addr:=l.filterMap (·.frame)
abbrev Cx.fs(X:Cx):List Addr:=iU X.outer
def Jk(sc:Scope)(x:Str):Prop:=sc.names.lookup x=some .local\/sc.names.lookup x=some .cell\/sc.names.lookup x=some .free
def Loc(sc:Scope)(x:Str):Prop:=sc.names.lookup x=some .local\/sc.names.lookup x=some .cell
def Look(env:Env)(h:Heap)(m:Str->Option Value)(x:Str)(u:Value):Prop :=
 (env.kindOf x=some .local/\m x=some u)\/((env.kindOf x=some .cell\/env.kindOf x=some .free)/\∃c,env.cells.lookup x=some c/\h.IsCell c (some u))
structure Cx.Ok(X:Cx):Prop where
 mod:Mod X.K X.mg X.base
 kind:X.env.scope.kind=.function
 glob:X.env.globals=mainGlobals
 blt:X.env.builtins=builtinsNs
 above:X.s₀.heap.objs.size<=X.env.locals
 inj:∀x y c,X.env.cells.lookup x=some c->X.env.cells.lookup y=some c->x=y
 has:∀x,(X.env.kindOf x=some .cell\/X.env.kindOf x=some .free)->∃c,X.env.cells.lookup x=some c
 cab:∀x c,X.fn x=true->X.env.cells.lookup x=some c->X.s₀.heap.objs.size<=c
 hd:X.calm=true->X.A.handled=none
 frames:X.A.frames=some X.stack
 stk:X.stack=X.outer\/(X.stack=X.env::X.outer/\X.env.frame=some X.env.locals)
 exf:∀b∈X.ex,b≠X.env.locals/\∀x c,X.env.cells.lookup x=some c->c≠b
 bs:∀b o,X.base.get? b=some o->X.s₀.heap.get? b=some o/\X.H₀ b=none
 bsz:X.base.objs.size<=X.s₀.heap.objs.size
 noex:∀b o,X.base.get? b=some o->b∉X.ex
 exfs:∀b∈X.ex,b∉X.fs
 jJ:X.s₀.heap.FunFrames X.base X.outer
 frf:∀b∈X.fs,X.H₀ b=none
structure Inv(X:Cx)(pins:List (Addr×Obj))(σ:List (Option V))(H:Hp)(s:Shared):Prop where
 ok:X.Ok
 os:s.os=X.s₀.os
 bare:AllBare s.gens
 base:Un X.fs X.ex X.H₀ H X.s₀.heap s.heap
 loc:∃m,s.heap.Ns X.env.locals m/\∀(i:Nat) (x:Str) (v:V),X.N[i]?=some x->σ[i]?=some (some v)->Jk X.env.scope x->∃u,RelV v u/\Look X.env s.heap m x u
 cell:∀x c,X.env.cells.lookup x=some c->∃v,s.heap.IsCell c v
 free:H X.env.locals=none
 freeC:∀x c,X.env.cells.lookup x=some c->H c=none
 pin:∀p∈X.pn++pins,s.heap.get? p.1=some p.2/\H p.1=none/\p.1≠X.env.locals/\p.1∉X.fs/\∀v,p.2.data≠.cell v
 hok:ja X.prog X.w H s.heap
 len:σ.length=X.N.length
section
variable {X:Cx}{pins:List (Addr×Obj)}{σ:List (Option V)}{H H':Hp}{s:Shared}{h':Heap}
def Cx.Ok.JK(ok:X.Ok){b:Addr}{o:Obj}(e:X.base.get? b=some o):b∉X.fs:=λhb=>by
 have:=(ok.jJ.mem hb).1
 rw[e]at this;cases this
theorem Inv.bs(I:Inv X pins σ H s):∀b o,X.base.get? b=some o->s.heap.get? b=some o/\H b=none:=λb o e =>
 ⟨I.base.keep b o (I.ok.bs b o e).1 (I.ok.bs b o e).2 (I.ok.JK e) (I.ok.noex b o e),I.base.free b o (I.ok.bs b o e).1 (I.ok.bs b o e).2 (I.ok.noex b o e)⟩
def Inv.bk(I:Inv X pins σ H s):∀b o,X.base.get? b=some o->s.heap.get? b=some o:=λb o e=>(I.bs b o e).1
theorem Inv.mod(I:Inv X pins σ H s):Mod X.K X.mg X.base:=I.ok.mod
def Inv.kP(I:Inv X pins σ H s):X.K.In s.heap:=I.ok.mod.kin.keeps I.bk
theorem Inv.lt(I:Inv X pins σ H s):X.env.locals<s.heap.objs.size:=let ⟨_,hn,_⟩:=I.loc;hn.lt
def Inv.sz(I:Inv X pins σ H s):X.s₀.heap.objs.size<=s.heap.objs.size:=Lh I.ok.above (OD I.lt)
def Inv.J5(I:Inv X pins σ H s){a:Addr}(h:s.heap.objs.size<=a):a∉X.fs:=λhb=>by
 obtain⟨_,o,ho,_⟩:=I.ok.jJ.mem hb
 exact absurd (K4 (KO ho) (Lh I.sz h)) (LA _)
def Inv.FG(I:Inv X pins σ H s):∀x c,X.env.cells.lookup x=some c->c≠X.env.locals:=λx c e z=>by
 obtain⟨v,o,ho,hd⟩:=I.cell x c e
 obtain⟨m,⟨o',es,ep,ho',hd',_⟩,_⟩:=I.loc
 rw[z,ho']at ho;cases ho;rw[hd']at hd;cases hd
theorem Inv.jJ(I:Inv X pins σ H s):s.heap.FunFrames X.base X.outer:=by
 have all:∀(l:List Env),(∀b∈iU l,b∈X.fs)->X.s₀.heap.FunFrames X.base l->s.heap.FunFrames X.base l:=by
  intro l
  induction l with
  |nil=>intro _ _;trivial
  |cons env r ih =>
   intro hs hl
   obtain⟨hk,⟨L,o,hf,hn,ho,hd⟩,hr⟩:=hl
   have hL:L∈X.fs:=hs L (by unfold iU;rw[List.filterMap_cons,hf];exact List.mem_cons_self)
   obtain⟨sl,e⟩:=I.base.slot L o ho (I.ok.frf L hL) hL λz=>I.ok.exfs L z hL
   exact⟨hk,⟨L,_,hf,hn,e,hd⟩,ih (λb hb=>hs b (by unfold iU;rw[List.filterMap_cons,hf];exact List.mem_cons_of_mem _ hb)) hr⟩
 exact all X.outer (λ_ hb=>hb) I.ok.jJ
theorem Inv.stack(I:Inv X pins σ H s):s.heap.FunFrames X.base X.stack:=by
 rcases I.ok.stk with e|⟨e,hf⟩
 ·rw[e];exact I.jJ
 ·rw[e]
  obtain⟨m,hn,_⟩:=I.loc
  refine .cons (by rw[I.ok.kind];decide) hf hn ?_ I.jJ
  exact OE (Lh I.ok.bsz I.ok.above)
def Inv.uz(I:Inv X pins σ H s):∀b∈iU X.stack,b∈X.env.locals::X.fs:=λb hb=>by
 rcases I.ok.stk with e|⟨e,hf⟩
 ·rw[e]at hb;exact K6 _ hb
 ·rw[e]at hb
  unfold iU at hb
  rw[OR,hf]at hb
  exact hb
def Inv.wI(I:Inv X pins σ H s):∀b∈iU X.stack,H b=none:=λb hb=>by
 rcases KR.mp (I.uz b hb) with e|hb
 ·rw[e];exact I.free
 ·obtain⟨_,o,ho,_⟩:=I.ok.jJ.mem hb
  exact I.base.free b o ho (I.ok.frf b hb) λz=>I.ok.exfs b z hb
def Inv.step{g':Array GenState}{t':Nat}{d':Drawn}{ch:List Addr}(I:Inv X pins σ H s)
  (hch:∀b∈ch,(b∈X.ex\/X.s₀.heap.objs.size<=b)/\b≠X.env.locals/\(∀x c,X.env.cells.lookup x=some c->c≠b)/\∀p∈X.pn++pins,p.1≠b)
  (keep:∀b o,b≠X.env.locals->b∉X.fs->b∉ch->s.heap.get? b=some o->H b=none->h'.get? b=some o)
  (slot:∀b o,b≠X.env.locals->b∈X.fs->b∉ch->s.heap.get? b=some o->H b=none->∃sl,h'.get? b=some { o with slots:=sl }) (free:∀b o,b∉ch->s.heap.get? b=some o->H b=none->H' b=none)
  (there:∀b o,b∉ch->s.heap.get? b=some o->∃o',h'.get? b=some o')
  (lJ:∀b xs,H b=some (.tup xs)->H' b=some (.tup xs)) (frzs:∀b o u,H b=some (.frz o u)->H' b=some (.frz o u)) (tbls:∀b ps,H b=some (.tbl ps)->∃more,H' b=some (.tbl (ps++more)))
  (ns:∀m,s.heap.Ns X.env.locals m->h'.Ns X.env.locals m) (hok:ja X.prog X.w H' h') (hg:AllBare g') :
  Inv X pins σ H' { s with heap:=h',gens:=g',drawn:=d',toks:=t' }:=by
 have neL:∀b o,X.s₀.heap.get? b=some o->b≠X.env.locals:=λb o e=>K5 (K4 (KO e) I.ok.above)
 have neC:∀b o,X.s₀.heap.get? b=some o->b∉X.ex->b∉ch:=λb o e hx hb=>by
  rcases(hch b hb).1 with z|z
  ·exact hx z
  ·exact absurd (K4 (KO e) z) (LA _)
 have cellK:∀x c,X.env.cells.lookup x=some c->∀v,s.heap.IsCell c v->h'.IsCell c v:=λx c e v ⟨o,ho,hd⟩=>by
  have nch:c∉ch:=λz=>(hch c z).2.2.1 x c e rfl
  by_cases hc:c∈X.fs
  ·obtain⟨sl,q⟩:=slot c o (I.FG x c e) hc nch ho (I.freeC x c e)
   exact⟨_,q,hd⟩
  ·exact⟨o,keep c o (I.FG x c e) hc nch ho (I.freeC x c e),hd⟩
 refine⟨I.ok,I.os,hg,⟨λb o e n hb hx=>?_,λb o e n hb hx=>?_,λb o e n hx=>?_,λb o e hx=>?_,λb xs e=>lJ b xs (I.base.lJ b xs e),λb o xs e=>frzs b o xs (I.base.frzs b o xs e),λb ps e=>?_⟩,?_,λx c e=>?_,?_,λx c e=>?_,λp hp=>?_,hok,I.len⟩
 ·exact keep b o (neL b o e) hb (neC b o e hx) (I.base.keep b o e n hb hx) (I.base.free b o e n hx)
 ·obtain⟨sl,e1⟩:=I.base.slot b o e n hb hx
  obtain⟨sl',e2⟩:=slot b _ (neL b o e) hb (neC b o e hx) e1 (I.base.free b o e n hx)
  exact⟨sl',e2⟩
 ·obtain⟨o',e1⟩:=I.base.there b o e hx
  exact free b o' (neC b o e hx) e1 (I.base.free b o e n hx)
 ·obtain⟨o',e1⟩:=I.base.there b o e hx
  exact there b o' (neC b o e hx) e1
 ·obtain⟨m1,e1⟩:=I.base.tbls b ps e
  obtain⟨m2,e2⟩:=tbls b _ e1
  exact⟨m1++m2,by rw[e2,Array.append_assoc]⟩
 ·obtain⟨m,hn,hl⟩:=I.loc
  refine⟨m,ns m hn,λi x v e1 e2 e3=>?_⟩
  obtain⟨u,r,l⟩:=hl i x v e1 e2 e3
  refine⟨u,r,?_⟩
  rcases l with l|⟨k,c,e,z⟩
  ·exact .inl l
  ·exact .inr ⟨k,c,e,cellK x c e _ z⟩
 ·obtain⟨v,z⟩:=I.cell x c e
  exact⟨v,cellK x c e v z⟩
 ·obtain⟨m,⟨o,_,_,ho,_⟩,_⟩:=I.loc
  exact free _ o (λz=>(hch _ z).2.1 rfl) ho I.free
 ·obtain⟨v,o,ho,hd⟩:=I.cell x c e
  exact free c o (λz=>(hch c z).2.2.1 x c e rfl) ho (I.freeC x c e)
 ·obtain⟨e,n,ne,nf,d⟩:=I.pin p hp
  have nch:p.1∉ch:=λz=>(hch p.1 z).2.2.2 p hp rfl
  exact⟨keep p.1 p.2 ne nf nch e n,free p.1 p.2 nch e n,ne,nf,d⟩
def Inv.un{t':Nat}(I:Inv X pins σ H s)(u:Un X.fs [] H H' s.heap h')(hok:ja X.prog X.w H' h'):Inv X pins σ H' { s with heap:=h',toks:=t' }:=by
 obtain⟨m,⟨o,es,ep,ho,r⟩,_⟩:=id I.loc
 obtain⟨sl,hL⟩:=u.any ho I.free (by simp)
 exact I.step (g':=s.gens) (d':=s.drawn) (ch:=[]) (λ_ z=>nomatch z) (λb o _ hb _ e n=>u.keep b o e n hb (by simp)) (λb o _ hb _ e n=>u.slot b o e n hb (by simp)) (λb o _ e n=>u.free b o e n (by simp)) (λb o _ e=>u.there b o e (by simp)) u.lJ u.frzs u.tbls (λm' hm=>by
  obtain⟨o',es',ep',ho',r'⟩:=hm
  rw[ho]at ho';cases ho'
  exact⟨_,es',ep',hL,r'⟩) hok I.bare
def Inv.call{g':Array GenState}{t':Nat}{d':Drawn}{ch:List Addr}(I:Inv X pins σ H s)(u:Un (iU X.stack) ch H H' s.heap h')(hok:ja X.prog X.w H' h')(hg:AllBare g')
  (hch:∀b∈ch,(b∈X.ex\/X.s₀.heap.objs.size<=b)/\b≠X.env.locals/\(∀x c,X.env.cells.lookup x=some c->c≠b)/\∀p∈X.pn++pins,p.1≠b) :
  Inv X pins σ H' { s with heap:=h',gens:=g',drawn:=d',toks:=t' }:=by
 obtain⟨m,⟨o,es,ep,ho,r⟩,_⟩:=id I.loc
 obtain⟨sl,hL⟩:=u.any ho I.free λz=>(hch _ z).2.1 rfl
 exact I.step (ch:=ch) hch (λb o hL hb hc e n=>u.keep b o e n (λz=>(KR.mp (I.uz b z)).elim hL hb) hc) (λb o _ _ hc e n=>u.any e n hc) (λb o hc e n=>u.free b o e n hc) (λb o hc e=>u.there b o e hc) u.lJ u.frzs u.tbls (λm' hm=>by
  obtain⟨o',es',ep',ho',r'⟩:=hm
  rw[ho]at ho';cases ho'
  exact⟨_,es',ep',hL,r'⟩) hok hg
def Inv.turned{t':Nat}{it:Addr}(I:Inv X pins σ H s)(k:∀b o,b≠it->s.heap.get? b=some o->h'.get? b=some o)(hn:H it=none)(hL:it≠X.env.locals)
  (h1:it∈X.ex\/X.s₀.heap.objs.size<=it) (h2:∀x c,X.env.cells.lookup x=some c->c≠it) (h3:∀p∈X.pn++pins,p.1≠it):Inv X pins σ H { s with heap:=h',toks:=t' }:=by
 have nit:∀b u,H b=some u->b≠it:=λb u e z=>by rw[z,hn]at e;cases e
 refine I.step (g':=s.gens) (d':=s.drawn) (ch:=[it]) (λb hb=>?_) (λb o _ _ hc e _=>k b o (λz=>hc (by simp[z])) e) (λb o _ _ hc e _=>⟨o.slots,k b o (λz=>hc (by simp[z])) e⟩) (λ_ _ _ _ n=>n)
  (λb o hc e=>⟨o,k b o (λz=>hc (by simp[z])) e⟩) (λ_ _ e=>e) (λ_ _ _ e=>e) (λb ps e=>⟨#[],by rw[e];simp⟩) (λm hm=>?_) (λb u e=>?_) I.bare
 ·have e:b=it:=by simpa using hb
  subst e
  exact⟨h1,hL,h2,h3⟩
 ·obtain⟨o,es,ep,ho,r⟩:=hm
  exact⟨o,es,ep,k _ o (Li hL) ho,r⟩
 ·refine(I.hok b u e).lX (λc v hc q=>k c v ?_ q) (λ_ q=>q) λ_ _ q=>q
  rcases hc with z|z
  ·rw[z];exact nit b u e
  ·exact nit c _ z
def Inv.tok(I:Inv X pins σ H s)(t:Nat):Inv X pins σ H { s with toks:=t }:=I.un (h':=s.heap) (t':=t) Un.refl I.hok
theorem Inv.kept{t':Nat}(I:Inv X pins σ H s)(k:∀b u,s.heap.get? b=some u->h'.get? b=some u):Inv X pins σ H { s with heap:=h',toks:=t' }:=I.un (Un.kept k) (I.hok.kept k)
theorem Inv.laid{a:Addr}{o:HO}{t':Nat}(I:Inv X pins σ H s)(k:∀b u,s.heap.get? b=some u->h'.get? b=some u)(hp:s.heap.objs.size<=a)(new:bU X.prog X.w (upd H a o) h' a o) :
  Inv X pins σ (upd H a o) { s with heap:=h',toks:=t' }:=I.un (Un.laid k hp (I.hok.fresh hp)) (I.hok.laid k hp new)
theorem Inv.write{x e:Addr}{o:HO}{t':Nat}(I:Inv X pins σ H s)(mu:IF (H x))(he:e=x\/H e=some (.own x))(k:∀b u,b≠e->s.heap.get? b=some u->h'.get? b=some u)(heo:∃u,h'.get? e=some u)
  (new:bU X.prog X.w (upd H x o) h' x o):Inv X pins σ (upd H x o) { s with heap:=h',toks:=t' }:=I.un (Un.write mu he k heo) (I.hok.write mu he k heo new)
def Inv.wx{pins':List (Addr×Obj)}(I:Inv X pins σ H s)(h:∀p∈pins',s.heap.get? p.1=some p.2/\H p.1=none/\p.1≠X.env.locals/\p.1∉X.fs/\∀v,p.2.data≠.cell v):Inv X pins' σ H s :=
 ⟨I.ok,I.os,I.bare,I.base,I.loc,I.cell,I.free,I.freeC,λp hp=>(KW.mp hp).elim (λz=>I.pin p (Lr _ z)) (h p),I.hok,I.len⟩
def sQ{N:List Str}(hN:N.Nodup){i j:Nat}{x:Str}(a:N[i]?=some x)(b:N[j]?=some x):i=j:=by
 obtain⟨h1,e1⟩:=KQ.mp a
 obtain⟨h2,e2⟩:=KQ.mp b
 exact(Oz hN).mp (e1.trans e2.symm)
def oz{M:Model}{A:Around}{E:Value->Shared->Prop}{i:Nat}{x:Str}{v:V}{u:Value}{Q:Unit->Shared->Prop}(I:Inv X pins σ H s)(hN:X.N.Nodup)(hi:X.N[i]?=some x)(hx:Loc X.env.scope x)(r:RelV v u)
  (h:∀s',Inv X pins (σ.set i (some v)) H s'->(∃a,Heap.SameBut a s.heap s'.heap/\(a=X.env.locals\/X.env.cells.lookup x=some a))->Q () s') (hf:X.fn x=true\/X.env.scope.names.lookup x=some .local:=by first|exact .inl rfl|exact .inr rfl|assumption):wpAny M A (storeName X.env x u) Q E s:=by
 obtain⟨m,hn,hl⟩:=id I.loc
 have hcls:(X.env.scope.kind==.class || (X.env.scope.kind==.module&&X.env.locals != X.env.globals))=false:=by rw[I.ok.kind];rfl
 have hiσ:i<σ.length:=by rw[I.len];exact(KQ.mp hi).1
 have FG:=I.FG
 have tracked:∀{a:Addr} {h':Heap},(∃o,s.heap.get? a=some o/\H a=none)->Heap.SameBut a s.heap h'->ja X.prog X.w H h':=λ{a h'} ha hs b ob e=>by
  obtain⟨_,_,hfree⟩:=ha
  refine(I.hok b ob e).lX (λc w' hc q=>(hs.2 c ?_).trans q) (λ_ q=>q) λ_ _ q=>q
  rintro rfl
  rcases hc with rfl|hc
  ·rw[hfree]at e;cases e
  ·rw[hfree]at hc;cases hc
 rcases hx with hk|hk
 ·refine wpAny_storeName_local hk hn (λh' hn' hs=>?_) hcls
  obtain⟨oL,_,_,hoL,_⟩:=id hn
  refine h _ ⟨I.ok,I.os,I.bare,⟨λb o e n hb hx=>?_,λb o e n hb hx=>?_,I.base.free,λb o e hx=>?_,I.base.lJ,I.base.frzs,I.base.tbls⟩,⟨_,hn',λj y v' e1 e2 e3=>?_⟩,λy c e=>?_,I.free,I.freeC,λp hp=>?_,tracked ⟨oL,hoL,I.free⟩ hs,by simpa using I.len⟩ ⟨_,hs,.inl rfl⟩
  ·exact(hs.2 b (K5 (K4 (KO e) I.ok.above))).trans (I.base.keep b o e n hb hx)
  ·obtain⟨sl,e1⟩:=I.base.slot b o e n hb hx
   exact⟨sl,(hs.2 b (K5 (K4 (KO e) I.ok.above))).trans e1⟩
  ·obtain⟨o',e1⟩:=I.base.there b o e hx
   exact⟨o',(hs.2 b (K5 (K4 (KO e) I.ok.above))).trans e1⟩
  ·by_cases hj:j=i
   ·subst hj
    rw[hi]at e1;cases e1
    rw[P9 hiσ]at e2
    cases e2
    exact⟨u,r,.inl ⟨hk,by simp⟩⟩
   ·rw[Qm (Li hj)]at e2
    obtain⟨u',r',q⟩:=hl j y v' e1 e2 e3
    refine⟨u',r',?_⟩
    rcases q with⟨k,e⟩|⟨k,c,e,z⟩
    ·refine .inl ⟨k,?_⟩
     have:y≠x:=λe=>hj (sQ hN e1 (e ▸ hi))
     simp[this,e]
    ·exact .inr ⟨k,c,e,z.sameBut hs (FG y c e)⟩
  ·obtain⟨w',z⟩:=I.cell y c e
   exact⟨w',z.sameBut hs (FG y c e)⟩
  ·obtain⟨e,n,ne,nf,d⟩:=I.pin p hp
   exact⟨(hs.2 p.1 ne).trans e,n,ne,nf,d⟩
 ·have hfn:X.fn x=true:=by
   rcases hf with z|z
   ·exact z
   ·rw[z]at hk;cases hk
  obtain⟨c,hc⟩:=I.ok.has x (.inl hk)
  obtain⟨w',z⟩:=I.cell x c hc
  refine wpAny_storeName_cell I.ok.kind hk hc z (λh' hc' hs=>?_)
  obtain⟨oc,hoc,hocd⟩:=id z
  refine h { s with heap:=h' } ⟨I.ok,I.os,I.bare,⟨λb o e n hb hx=>?_,λb o e n hb hx=>?_,I.base.free,λb o e hx=>?_,I.base.lJ,I.base.frzs,I.base.tbls⟩,⟨m,hn.sameBut hs (Li (FG x c hc)),λj y v' e1 e2 e3=>?_⟩,λy c' e=>?_,I.free,I.freeC,λp hp=>?_,tracked ⟨oc,hoc,I.freeC x c hc⟩ hs,by simpa using I.len⟩ ⟨c,hs,.inr hc⟩
  ·exact(hs.2 b (K5 (K4 (KO e) (I.ok.cab x c hfn hc)))).trans (I.base.keep b o e n hb hx)
  ·obtain⟨sl,e1⟩:=I.base.slot b o e n hb hx
   exact⟨sl,(hs.2 b (K5 (K4 (KO e) (I.ok.cab x c hfn hc)))).trans e1⟩
  ·obtain⟨o',e1⟩:=I.base.there b o e hx
   exact⟨o',(hs.2 b (K5 (K4 (KO e) (I.ok.cab x c hfn hc)))).trans e1⟩
  ·by_cases hj:j=i
   ·subst hj
    rw[hi]at e1;cases e1
    rw[P9 hiσ]at e2
    cases e2
    exact⟨u,r,.inr ⟨.inl hk,c,hc,hc'⟩⟩
   ·rw[Qm (Li hj)]at e2
    obtain⟨u',r',q⟩:=hl j y v' e1 e2 e3
    refine⟨u',r',?_⟩
    rcases q with q|⟨k,c',e,z'⟩
    ·exact .inl q
    ·refine .inr ⟨k,c',e,z'.sameBut hs ?_⟩
     rintro rfl
     exact hj (sQ hN e1 (I.ok.inj _ _ _ e hc ▸ hi))
  ·by_cases hcc:c'=c
   ·subst hcc;exact⟨_,hc'⟩
   ·obtain⟨w2,z2⟩:=I.cell y c' e
    exact⟨w2,z2.sameBut hs hcc⟩
  ·obtain⟨e,n,ne,nf,d⟩:=I.pin p hp
   refine⟨(hs.2 p.1 ?_).trans e,n,ne,nf,d⟩
   intro q
   rw[q,hoc]at e
   have q':oc=p.2:=Lq e
   exact d w' (by rw[<-q'];exact hocd)
def qS{M:Model}{A:Around}{E:Value->Shared->Prop}{i:Nat}{x:Str}{v:V}{u:Value}{Q:Unit->Shared->Prop}(I:Inv X pins σ H s)(hN:X.N.Nodup)(hi:X.N[i]?=some x)(hx:Loc X.env.scope x)(r:RelV v u)
  (h:∀s',Inv X pins (σ.set i (some v)) H s'->Q () s') (hf:X.fn x=true\/X.env.scope.names.lookup x=some .local:=by first|exact .inl rfl|exact .inr rfl|assumption):wpAny M A (storeName X.env x u) Q E s :=
 oz I hN hi hx r (λs' I' _=>h s' I') hf
def Inv.Ih{s':Shared}{ch:List Addr}(I:Inv X pins σ H s)(ho:s'.os=s.os)(u:Un (iU X.stack) ch H H' s.heap s'.heap)(hok:ja X.prog X.w H' s'.heap)(hg:AllBare s'.gens)
  (hch:∀b∈ch,(b∈X.ex\/X.s₀.heap.objs.size<=b)/\b≠X.env.locals/\(∀x c,X.env.cells.lookup x=some c->c≠b)/\∀p∈X.pn++pins,p.1≠b):Inv X pins σ H' s':=by
 obtain⟨h',g',d',t',o'⟩:=s'
 have e:o'=s.os:=ho
 subst e
 exact I.call (g':=g') (t':=t') (d':=d') u hok hg hch
end
abbrev XK:=Value->Option Addr->Hp->Prop
abbrev St:=List (Option V)
abbrev VK:=V->Hp->Prop
abbrev TE:=St->Hp->VK->Prop
abbrev TT:=St->Hp->(Bool->Hp->Prop)->Prop
abbrev TA:=St->Hp->(List V->Hp->Prop)->Prop
structure Ends where
 nx:St->Hp->Prop
 rt:VK
 bk:St->Hp->Prop:=λ_ _=>False
 ct:St->Hp->Prop:=λ_ _=>False
abbrev TS:=Ends->St->Hp->Prop
def EP(X:Cx)(pins:List (Addr×Obj))(σ:St)(Q:VK)(u:Value)(s':Shared):Prop:=∃v H',Inv X pins σ H' s'/\RelV v u/\Q v H'
def TP(X:Cx)(pins:List (Addr×Obj))(σ:St)(Q:Bool->Hp->Prop)(b:Bool)(s':Shared):Prop:=∃H',Inv X pins σ H' s'/\Q b H'
def AP(X:Cx)(pins:List (Addr×Obj))(σ:St)(Q:List V->Hp->Prop)(us:List Value)(s':Shared):Prop:=∃vs H',Inv X pins σ H' s'/\Vals vs us/\Q vs H'
def SP(X:Cx)(pins:List (Addr×Obj))(D:Ends)(f:Flow)(s':Shared):Prop :=
 match f with
 |.next=>∃σ' H',Inv X pins σ' H' s'/\D.nx σ' H'
 |.brk=>∃σ' H',Inv X pins σ' H' s'/\D.bk σ' H'
 |.cont=>∃σ' H',Inv X pins σ' H' s'/\D.ct σ' H'
 |.ret u=>∃v σ' H',Inv X pins σ' H' s'/\RelV v u/\D.rt v H'
def PE(X:Cx)(e:Expr)(t:TE):Prop :=
 ∀(pins:List (Addr×Obj)) (s:Shared) (σ:St) (H:Hp) (Q:VK),Inv X pins σ H s->t σ H Q->wpAny (model X.prog X.w) X.A (eval e X.env) (EP X pins σ Q) X.xe s
def PT(X:Cx)(e:Expr)(t:TT):Prop :=
 ∀(pins:List (Addr×Obj)) (s:Shared) (σ:St) (H:Hp) (Q:Bool->Hp->Prop),Inv X pins σ H s->t σ H Q->wpAny (model X.prog X.w) X.A (isTrue e X.env (eval e X.env)) (TP X pins σ Q) X.xe s
def PW(X:Cx)(e:Expr)(t:TT):Prop :=
 ∀(whole:Sem Value) (pins:List (Addr×Obj)) (s:Shared) (σ:St) (H:Hp) (Q:Bool->Hp->Prop),Inv X pins σ H s->t σ H Q->wpAny (model X.prog X.w) X.A (isTrue e X.env whole) (TP X pins σ Q) X.xe s
def PW.pt{X:Cx}{e:Expr}{t:TT}(h:PW X e t):PT X e t:=h _
def PA(X:Cx)(es:List Expr)(t:TA):Prop :=
 ∀(pos:Pos) (pins:List (Addr×Obj)) (s:Shared) (σ:St) (H:Hp) (Q:List V->Hp->Prop),Inv X pins σ H s->t σ H Q->wpAny (model X.prog X.w) X.A (spliced (backTo pos (starEach es X.env))) (AP X pins σ Q) X.xe s
def PS(X:Cx)(st:Stmt)(t:TS):Prop :=
 ∀(pins:List (Addr×Obj)) (s:Shared) (σ:St) (H:Hp) (D:Ends),Inv X pins σ H s->t D σ H->wpAny (model X.prog X.w) X.A (exec st X.env) (SP X pins D) X.xe s
def ue(X:Cx)(st:List Stmt)(t:TS):Prop :=
 ∀(pins:List (Addr×Obj)) (s:Shared) (σ:St) (H:Hp) (D:Ends),Inv X pins σ H s->t D σ H->wpAny (model X.prog X.w) X.A (execs st X.env) (SP X pins D) X.xe s
def cc{α:Type}{t:Sem α}{Q Q':α->Shared->Prop}{M:Model}{A:Around}{E:Value->Shared->Prop}{s:Shared}(h:wpAny M A t Q E s)(hQ:∀a s,Q a s->Q' a s):wpAny M A t Q' E s:=Mp h hQ λ_ _ x=>x
end L2
namespace L2
open PySem PySem.Spec PyProof.Rows
section
variable {X:Cx}
def Iy(i:Nat):TE:=λσ H Q=>∃v,σ[i]?=some (some v)/\Q v H
def tC(v:V):TE:=λ_ H Q=>Q v H
def Fl{i:Nat}{x:Str}{pos:Pos}(hN:X.N[i]?=some x)(hv:Jk X.env.scope x)(hd:(x==("__debug__":Str))=false:=by decide)(hcd:(x==("__classdict__":Str))=false:=by decide):PE X (.Name x pos) (Iy i):=by
 intro pins s σ H Q I h
 obtain⟨v,e,h⟩:=h
 obtain⟨m,hn,hl⟩:=I.loc
 obtain⟨u,r,l⟩:=hl i x v hN e hv
 have fin:EP X pins σ Q u s:=⟨v,H,I,r,h⟩
 rcases l with⟨hk,hm⟩|⟨hk,c,hc,hcell⟩
 ·exact wpAny_Name (wpAny_loadName_local I.ok.kind hk hn hm fin) hd
 ·rcases hk with hk|hk
  ·exact wpAny_Name (wpAny_loadName_cell I.ok.kind hk hc hcell fin) hd
  ·exact wpAny_Name (wpAny_loadName_free I.ok.kind hk hc hcell fin hcd) hd
def ak{i j pos}:PE X (.Constant (.int i) j pos) (tC (.int i)):=λ_ _ _ H _ I h=>wpAny_Constant_int ⟨.int i,H,I.tok _,⟨_,rfl⟩,h⟩
def jB{b j pos}:PE X (.Constant (.bool b) j pos) (tC (.bl b)):=λ_ _ _ H _ I h=>Constant_bool ⟨.bl b,H,I,rfl,h⟩
def gS{j pos}:PE X (.Constant .none j pos) (tC .non):=λ_ _ _ H _ I h=>Constant_none ⟨.non,H,I,rfl,h⟩
def mT{x j pos}:PE X (.Constant (.str x) j pos) (tC (.str x)):=λ_ _ _ H _ I h=>Calls.Constant_str ⟨.str x,H,I.tok _,⟨_,rfl⟩,h⟩
def Gl(X:Cx)(x:Str):Prop:=X.env.kindOf x=some .globalImplicit
def pU{E:Value->Shared->Prop}{pins:List (Addr×Obj)}{s:Shared}{σ:St}{H:Hp}{x:Str}{u:Value}{pos:Pos}{Q:Value->Shared->Prop}(I:Inv X pins σ H s)(hg:Gl X x)(hm:X.mg x=some u)(h:Q u s)
  (hd:(x==("__debug__":Str))=false:=by decide):wpAny (model X.prog X.w) X.A (eval (.Name x pos) X.env) Q E s :=
 O8 I.ok.kind hg (Calls.loadGlobal_global (by rw[I.ok.glob];exact I.mod.glob.keeps I.bk) hm h) hd
def iA{E:Value->Shared->Prop}{pins:List (Addr×Obj)}{s:Shared}{σ:St}{H:Hp}{x:Str}{u:Value}{pos:Pos}{Q:Value->Shared->Prop}(I:Inv X pins σ H s)(hg:Gl X x)(hm:X.mg x=none)(hv:bootBuiltins x=some u)(h:Q u s)
  (hn:x≠"__name__":=by decide) (hd:(x==("__debug__":Str))=false:=by decide):wpAny (model X.prog X.w) X.A (eval (.Name x pos) X.env) Q E s:=by
 obtain⟨mb,h1,h2⟩:=I.mod.blt
 exact O8 I.ok.kind hg (Calls.loadGlobal_builtin (by rw[I.ok.glob];exact I.mod.glob.keeps I.bk) hm (by rw[I.ok.blt];exact h1.keeps I.bk) ((h2 x hn).trans hv) h) hd
def gU{x:Str}{v:V}{u:Value}{pos:Pos}(hg:Gl X x)(hm:X.mg x=some u)(r:RelV v u)(hd:(x==("__debug__":Str))=false:=by decide):PE X (.Name x pos) (tC v) :=
 λ_ _ _ H _ I h=>pU I hg hm ⟨v,H,I,r,h⟩ hd
def xg{x:Str}{v:V}{u:Value}{pos:Pos}(hg:Gl X x)(hm:X.mg x=none)(hv:bootBuiltins x=some u)(r:RelV v u)(hn:x≠"__name__":=by decide)(hd:(x==("__debug__":Str))=false:=by decide):PE X (.Name x pos) (tC v) :=
 λ_ _ _ H _ I h=>iA I hg hm hv ⟨v,H,I,r,h⟩ hn hd
variable {a b:Expr}{ta tb:TE}{pos:Pos}
def PC(X:Cx)(op:CmpOp)(a b:Expr)(t:TE):Prop :=
 ∀(pins:List (Addr×Obj)) (s:Shared) (σ:St) (H:Hp) (Q:VK),Inv X pins σ H s->t σ H Q ->
  wpAny (model X.prog X.w) X.A (eval a X.env) (λv s₁=>wpAny (model X.prog X.w) X.A (eval b X.env) (λu s₂=>wpAny (model X.prog X.w) X.A (compareOp op v u) (EP X pins σ Q) X.xe s₂) X.xe s₁) X.xe s
def Aq(b:Expr){op:CmpOp}(h:op≠.In)(h2:op≠.NotIn):behindInMarks op b=false:=by
 have e1:(op==CmpOp.In)=false:=by cases op <;> first|rfl|exact absurd rfl h
 have e2:(op==CmpOp.NotIn)=false:=by cases op <;> first|rfl|exact absurd rfl h2
 cases b <;> simp[behindInMarks,e1,e2]
def IH(ta:TE):TE:=λσ H Q=>ta σ H λx H1=>Q (.bl (!decide (x=.non))) H1
def RelV.zx{x:V}{v:Value}(r:RelV x v):(v==Value.none)=decide (x=.non):=by
 cases x with
 |non=>cases r;rfl
 |bl _=>cases r;rfl
 |int _=>obtain⟨t,rfl⟩:=r;rfl
 |str _=>obtain⟨t,rfl⟩:=r;rfl
 |byt _=>obtain⟨t,rfl⟩:=r;rfl
 |flt _=>obtain⟨t,rfl⟩:=r;rfl
 |ref _=>cases r;rfl
 |ty _=>cases r;rfl
def xx{j pos'}(ha:PE X a ta):PC X .IsNot a (.Constant .none j pos') (IH ta):=by
 intro pins s σ H Q I h
 refine cc (ha pins s σ H _ I h) λv s1 hZ=>?_
 obtain⟨x,H1,I1,r1,q1⟩:=hZ
 exact Constant_none (isnot_none_gen ⟨.bl _,H1,I1,by rw[r1.zx];rfl,q1⟩)
def tB(t:TE):TT:=λσ H Q=>t σ H λx H1=>∃c,x=.bl c/\Q c H1
def mr{op:CmpOp}{t:TE}(h:PC X op a b t)(h1:behindInMarks op b=false:=by first|exact Aq _ (by decide) (by decide)|rfl):PT X (.Compare a [op] [b] pos) (tB t):=by
 intro pins s σ H Q I hw
 refine wpAny_isTrue_Compare1 (cc (h pins s σ H _ I hw) λv s1 h1=>cc h1 λu s2 h2=>cc h2 λc s3 ⟨x,H1,I1,r1,q1⟩=>?_) h1
 obtain⟨d,rfl,q⟩:=q1
 cases r1
 exact LU ⟨H1,I1,q⟩
def cG{e:Expr}{t:TE}(h:PE X e t)(he:∀whole,isTrue e X.env whole=(do let v <-whole;standAt e.pos;holding [v] (truthy v)):=by intro _;rfl):PT X e (tB t):=by
 intro pins s σ H Q I hw
 refine isTrue_plain (cc (h pins s σ H _ I hw) λv s1 ⟨x,H1,I1,r1,q1⟩=>?_) (he _)
 obtain⟨d,rfl,q⟩:=q1
 cases r1
 exact LU ⟨H1,I1,q⟩
variable {tA tB':TT}{rest:List Expr}
def Js(t u:TT):TT:=λσ H Q=>t σ H λc H1=>if c=true then u σ H1 Q else Q false H1
def tOr(t u:TT):TT:=λσ H Q=>t σ H λc H1=>if c=true then Q true H1 else u σ H1 Q
def Jy(t:TT):TT:=λσ H Q=>t σ H λc H1=>Q (!c) H1
def pw_and1(ha:PT X a tA):PW X (.BoolOp .And [a] pos) tA:=by
 intro wh pins s σ H Q I h
 refine isTrue_and (cc (ha pins s σ H Q I h) λc s1 e=>?_)
 cases c with
 |true=>exact isTrue_and_nil e
 |false=>exact e
def pw_or1(ha:PT X a tA):PW X (.BoolOp .Or [a] pos) tA:=by
 intro wh pins s σ H Q I h
 refine isTrue_or (cc (ha pins s σ H Q I h) λc s1 e=>?_)
 cases c with
 |false=>exact isTrue_or_nil e
 |true=>exact e
def pw_and(ha:PT X a tA)(hb:PW X (.BoolOp .And (b::rest) pos) tB'):PW X (.BoolOp .And (a::b::rest) pos) (Js tA tB'):=by
 intro wh pins s σ H Q I h
 refine isTrue_and (cc (ha pins s σ H _ I h) λc s1 hZ=>?_)
 obtain⟨H1,I1,q1⟩:=hZ
 cases c with
 |true=>exact hb wh pins s1 σ H1 Q I1 q1
 |false=>exact⟨H1,I1,q1⟩
def pw_or(ha:PT X a tA)(hb:PW X (.BoolOp .Or (b::rest) pos) tB'):PW X (.BoolOp .Or (a::b::rest) pos) (tOr tA tB'):=by
 intro wh pins s σ H Q I h
 refine isTrue_or (cc (ha pins s σ H _ I h) λc s1 hZ=>?_)
 obtain⟨H1,I1,q1⟩:=hZ
 cases c with
 |true=>exact⟨H1,I1,q1⟩
 |false=>exact hb wh pins s1 σ H1 Q I1 q1
def c9(ha:PT X a tA):PT X (.UnaryOp .Not a pos) (Jy tA):=by
 intro pins s σ H Q I h
 exact isTrue_not (ha pins s σ H (λc H1=>Q (!c) H1) I h)
def HU(ta tb:TE):TE:=λσ H Q=>ta σ H λx H1=>∃c,x=.bl c/\if c=true then tb σ H1 Q else Q (.bl false) H1
def vv{op}{t:TE}(h:PE X a t):PE X (.BoolOp op [a] pos) t:=λpins s σ H Q I hw=>BoolOp_one (h pins s σ H Q I hw)
def vj(ha:PE X a ta)(hb:PE X (.BoolOp .And (b::rest) pos) tb):PE X (.BoolOp .And (a::b::rest) pos) (HU ta tb):=by
 intro pins s σ H Q I h
 refine BoolOp_and (cc (ha pins s σ H _ I h) λv s1 hZ=>?_)
 obtain⟨x,H1,I1,r1,q1⟩:=hZ
 obtain⟨c,rfl,q1⟩:=q1
 cases r1
 refine LU ?_
 cases c with
 |true=>exact hb pins s1 σ H1 Q I1 q1
 |false=>exact⟨.bl false,H1,I1,rfl,q1⟩
end
end L2
namespace L2
open PySem PySem.Spec PyProof.Rows
def aA(K:PySem.W.Frag)(H:Hp)(a:Addr)(xs:List V):Prop :=
 Rd H a (.lst xs) \/
  ∃(o:Obj) (its:Array Value) (n:Nat),K.lookup a=some o/\o.cls=.type "list"/\o.dict=none/\o.data=.seq its n/\its.size<=sizeLine/\Vals xs its.toList
def bX(K:PySem.W.Frag)(H:Hp)(a:Addr)(xs:List V):Prop :=
 Rd H a (.tup xs) \/
  ∃(o:Obj) (its:Array Value) (n:Nat),K.lookup a=some o/\o.cls=.type "tuple"/\o.data=.seq its n/\its.size<=sizeLine/\Vals xs its.toList
def Kh:Value->Option V
 |.none=>some .non
 |.bool b=>some (.bl b)
 |.int i _=>some (.int i)
 |.str x _=>some (.str x)
 |.bytes b _=>some (.byt b)
 |.float b _=>some (.flt b)
 |.ref a=>some (.ref a)
 |.type n=>some (.ty n)
 |_=>none
def RelV.abs{x:V}{u:Value}(r:RelV x u):Kh u=some x:=by
 cases x with
 |non=>cases r;rfl
 |bl _=>cases r;rfl
 |int _=>obtain⟨t,rfl⟩:=r;rfl
 |str _=>obtain⟨t,rfl⟩:=r;rfl
 |byt _=>obtain⟨t,rfl⟩:=r;rfl
 |flt _=>obtain⟨t,rfl⟩:=r;rfl
 |ref _=>cases r;rfl
 |ty _=>cases r;rfl
theorem RelV.inj{x y:V}{u:Value}(r:RelV x u)(q:RelV y u):x=y:=Lq (r.abs.symm.trans q.abs)
theorem Vals.inj:∀{xs ys:List V} {us:List Value},Vals xs us->Vals ys us->xs=ys
 |_,_,_,.nil,.nil=>rfl
 |_,_,_,.cons r t,.cons r' t'=>by rw[r.inj r',Vals.inj t t']
section
variable {X:Cx}{pins:List (Addr×Obj)}{σ:St}{H:Hp}{s:Shared}{a:Addr}{xs ys:List V}
def aA.of{K:PySem.W.Frag}(h:H a=some (.lst xs)):aA K H a xs:=.inl (.inl h)
def bX.of{K:PySem.W.Frag}(h:H a=some (.tup xs)):bX K H a xs:=.inl (.inl h)
def Inv.list(I:Inv X pins σ H s)(h:aA X.K H a xs):∃its:List Value,Vals xs its/\PlainL s.heap a its.toArray/\xs.length<=sizeLine:=by
 rcases h with h|⟨o,its,n,hk,hc,hd,hs,hz,r⟩
 ·obtain⟨z,its,n,r,e⟩:=h.ok I.hok
  exact⟨its,r,⟨_,n,e,rfl,rfl,rfl⟩,z⟩
 ·refine⟨its.toList,r,⟨o,n,I.kP a o hk,hc,hd,by simpa using hs⟩,?_⟩
  have e:=r.length
  simp only[L7]at e
  lia
def Inv.tuple(I:Inv X pins σ H s)(h:bX X.K H a xs):∃its:List Value,Vals xs its/\IsTup s.heap a its.toArray/\xs.length<=sizeLine:=by
 rcases h with h|⟨o,its,n,hk,hc,hs,hz,r⟩
 ·obtain⟨z,its,r,p⟩:=h.ok I.hok
  exact⟨its,r,p,z⟩
 ·refine⟨its.toList,r,⟨o,I.kP a o hk,hc,n,by simpa using hs⟩,?_⟩
  have e:=r.length
  simp only[L7]at e
  lia
def Inv.tD(I:Inv X pins σ H s)(h:aA X.K H a xs)(h':aA X.K H a ys):xs=ys:=by
 obtain⟨its,r,⟨o,n,e,_,_,d⟩,_⟩:=I.list h
 obtain⟨its',r',⟨o',n',e',_,_,d'⟩,_⟩:=I.list h'
 rw[e]at e';cases e'
 rw[d]at d'
 injection d' with d1 _
 have:its=its':=by simpa using LZ Array.toList d1
 subst this
 exact r.inj r'
def Inv.oG(I:Inv X pins σ H s)(h:bX X.K H a xs)(h':bX X.K H a ys):xs=ys:=by
 obtain⟨its,r,⟨o,e,_,n,d⟩,_⟩:=I.tuple h
 obtain⟨its',r',⟨o',e',_,n',d'⟩,_⟩:=I.tuple h'
 rw[e]at e';cases e'
 rw[d]at d'
 injection d' with d1 _
 have:its=its':=by simpa using LZ Array.toList d1
 subst this
 exact r.inj r'
end
abbrev Cx.bQ(X:Cx)(E:Value->Shared->Prop):Cx:={ X with xe:=E }
abbrev Cx.dP(X:Cx):Cx:=X.bQ λ_ _=>False
theorem Cx.Ok.bQ{X:Cx}(ok:X.Ok)(E:Value->Shared->Prop):(X.bQ E).Ok :=
 ⟨ok.mod,ok.kind,ok.glob,ok.blt,ok.above,ok.inj,ok.has,ok.cab,ok.hd,ok.frames,ok.stk,ok.exf,ok.bs,ok.bsz,ok.noex,ok.exfs,ok.jJ,ok.frf⟩
def Cx.Ok.ip{X:Cx}{E:Value->Shared->Prop}(ok:(X.bQ E).Ok):X.Ok :=
 ⟨ok.mod,ok.kind,ok.glob,ok.blt,ok.above,ok.inj,ok.has,ok.cab,ok.hd,ok.frames,ok.stk,ok.exf,ok.bs,ok.bsz,ok.noex,ok.exfs,ok.jJ,ok.frf⟩
section
variable {X:Cx}{pins:List (Addr×Obj)}{σ:St}{H:Hp}{s:Shared}{E:Value->Shared->Prop}
theorem Inv.bQ(I:Inv X pins σ H s)(E:Value->Shared->Prop):Inv (X.bQ E) pins σ H s:=⟨I.ok.bQ E,I.os,I.bare,I.base,I.loc,I.cell,I.free,I.freeC,I.pin,I.hok,I.len⟩
theorem Inv.ip(I:Inv (X.bQ E) pins σ H s):Inv X pins σ H s:=⟨I.ok.ip,I.os,I.bare,I.base,I.loc,I.cell,I.free,I.freeC,I.pin,I.hok,I.len⟩
theorem SP.ip{D:Ends}{f:Flow}{s':Shared}(h:SP (X.bQ E) pins D f s'):SP X pins D f s':=by
 cases f with
 |next=>obtain⟨σ',H',I,q⟩:=h;exact⟨σ',H',I.ip,q⟩
 |brk=>obtain⟨σ',H',I,q⟩:=h;exact⟨σ',H',I.ip,q⟩
 |cont=>obtain⟨σ',H',I,q⟩:=h;exact⟨σ',H',I.ip,q⟩
 |ret u=>obtain⟨v,σ',H',I,r,q⟩:=h;exact⟨v,σ',H',I.ip,r,q⟩
theorem ue.dP{st:List Stmt}{t:TS}(h:ue X.dP st t):ue X st t:=λpins s σ H D I hw =>
 Mp (h pins s σ H D (I.bQ _) hw) (λ_ _ q=>q.ip) λ_ _ z=>False.elim z
end
section
variable {X:Cx}{st:Stmt}{rest:List Stmt}{t u:TS}{e:Expr}{te:TE}{pos:Pos}
def HD:TS:=λD σ H=>D.nx σ H
def Iq(t u:TS):TS:=λD σ H=>t { D with nx:=u D } σ H
def aX:ue X [] HD:=λ_ _ σ H _ I h=>OF ⟨σ,H,I,h⟩
def af(h1:PS X st t)(h2:ue X rest u):ue X (st::rest) (Iq t u):=by
 intro pins s σ H D I h
 refine wpAny_execs_cons (cc (h1 pins s σ H { D with nx:=u D } I h) λf s1 q=>?_)
 cases f with
 |next =>
  obtain⟨σ',H',I',q⟩:=q
  exact h2 pins s1 σ' H' D I' q
 |ret v=>exact q
 |brk=>exact q
 |cont=>exact q
def aj(h1:PS X st t):ue X [st] t:=by
 intro pins s σ H D I h
 refine wpAny_execs_cons (cc (h1 pins s σ H D I h) λf s1 q=>?_)
 cases f with
 |next=>exact OF q
 |ret v=>exact q
 |brk=>exact q
 |cont=>exact q
def Inv.quiet{pins:List (Addr×Obj)}{σ:St}{H:Hp}{s:Shared}(I:Inv X pins σ H s):interactive X.env=false:=by simp[interactive,I.ok.kind]
def GY(te:TE):TS:=λD σ H=>te σ H λ_ H1=>D.nx σ H1
def bj(he:PE X e te)(hs:swapsWith e none pos.line X.env=pure false:=by rfl):PS X (.Expr e pos) (GY te):=by
 intro pins s σ H D I h
 exact wpAny_Expr_any (cc (he pins s σ H _ I h) λv s1 ⟨x,H1,I1,r1,q1⟩=>⟨σ,H1,I1,q1⟩) I.quiet hs
def Kn(te:TE):TS:=λD σ H=>te σ H D.rt
def aK(he:PE X e te):PS X (.Return (some e) pos) (Kn te):=by
 intro pins s σ H D I h
 exact wpAny_Return_some (cc (he pins s σ H _ I h) λv s1 ⟨x,H1,I1,r1,q1⟩=>⟨x,σ,H1,I1,r1,q1⟩)
def Ku(c:TT)(t u:TS):TS:=λD σ H=>c σ H λb H1=>if b=true then t D σ H1 else u D σ H1
def bO{c:Expr}{a b:List Stmt}{tc:TT}(hc:PT X c tc)(ha:ue X a t)(hb:ue X b u):PS X (.If c a b pos) (Ku tc t u):=by
 intro pins s σ H D I h
 refine wpAny_If (cc (hc pins s σ H _ I h) λd s1 hZ=>?_)
 obtain⟨H1,I1,q1⟩:=hZ
 cases d with
 |true=>exact ha pins s1 σ H1 D I1 q1
 |false=>exact hb pins s1 σ H1 D I1 q1
def Ba:TS:=λ_ _ _=>False
def dq:PS X st Ba:=λ_ _ _ _ _ _ h=>h.elim
def oB{sts:List Stmt}:ue X sts Ba:=λ_ _ _ _ _ _ h=>h.elim
end
abbrev TG:=V->St->Hp->(St->Hp->Prop)->Prop
abbrev FP:=List V->St->Hp->(St->Hp->Prop)->Prop
def PG(X:Cx)(target:Expr)(t:TG):Prop :=
 ∀(pins:List (Addr×Obj)) (s:Shared) (σ:St) (H:Hp) (v:V) (u:Value) (Q:St->Hp->Prop),Inv X pins σ H s->RelV v u->t v σ H Q ->
  wpAny (model X.prog X.w) X.A (assign target X.env u) (λ_ s'=>∃σ' H',Inv X pins σ' H' s'/\Q σ' H') X.xe s
def Jm(X:Cx)(ts:List Expr)(t:FP):Prop :=
 ∀(pins:List (Addr×Obj)) (s:Shared) (σ:St) (H:Hp) (vs:List V) (us:List Value) (Q:St->Hp->Prop),Inv X pins σ H s->Vals vs us->t vs σ H Q ->
  wpAny (model X.prog X.w) X.A (assignInOrder ((assignEach ts X.env).map (·.2)) us) (λ_ s'=>∃σ' H',Inv X pins σ' H' s'/\Q σ' H') X.xe s
abbrev E8:=V->V->V->Hp->(Hp->Prop)->Prop
def HI(X:Cx)(t:E8):Prop :=
 ∀(pins:List (Addr×Obj)) (s:Shared) (σ:St) (H:Hp) (o i v:V) (ov iv u:Value) (Q:Hp->Prop),Inv X pins σ H s->RelV o ov->RelV i iv->RelV v u->t o i v H Q ->
  wpAny (model X.prog X.w) X.A (setItem ov iv u) (λ_ s'=>∃H',Inv X pins σ H' s'/\Q H') X.xe s
section
variable {X:Cx}{pos:Pos}
def ix(i:Nat):TG:=λv σ H Q=>Q (σ.set i (some v)) H
def vV{i:Nat}{x:Str}(hN:X.N.Nodup)(hi:X.N[i]?=some x)(hx:Loc X.env.scope x)(hf:X.fn x=true\/X.env.scope.names.lookup x=some .local:=by first|exact .inl rfl|exact .inr rfl|assumption):PG X (.Name x pos) (ix i):=by
 intro pins s σ H v u Q I r h
 exact wpAny_assign_Name (qS I hN hi hx r (λs' I'=>⟨_,H,I',h⟩) hf)
def JQ:FP:=λvs σ H Q=>vs=[]/\Q σ H
def Hu(t:TG)(u:FP):FP:=λvs σ H Q=>∃v r,vs=v::r/\t v σ H λσ' H'=>u r σ' H' Q
def cZ:Jm X [] JQ:=by
 intro pins s σ H vs us Q I r h
 obtain⟨e,h⟩:=h
 subst e
 cases r
 exact assignInOrder_nil ⟨σ,H,I,h⟩
def aV{e:Expr}{es:List Expr}{t:TG}{u:FP}(h1:PG X e t)(h2:Jm X es u)
  (hs:(assignEach (e::es) X.env).map (·.2)=assign e X.env::(assignEach es X.env).map (·.2):=by rfl):Jm X (e::es) (Hu t u):=by
 intro pins s σ H vs us Q I r h
 obtain⟨v,vr,e1,h⟩:=h
 subst e1
 cases r with
 |cons r rr =>
  rw[hs]
  refine assignInOrder_cons (cc (h1 pins s σ H _ _ _ I r h) λ_ s1 hZ=>?_)
  obtain⟨σ1,H1,I1,q1⟩:=hZ
  exact h2 pins s1 σ1 H1 _ _ Q I1 rr q1
def J0(K:PySem.W.Frag)(n:Nat)(t:FP):TG:=λv σ H Q=>∃a xs,v=.ref a/\bX K H a xs/\xs.length=n/\t xs σ H Q
def dQ{es:List Expr}{k:Nat}{t:FP}{n:Nat}(hc:X.calm=true)(h:Jm X es t)
  (hn:(assignEach es X.env).length=n:=by rfl) (hst:(assignEach es X.env).findIdx? (·.1)=none:=by rfl):PG X (.Tuple es k pos) (J0 X.K n t):=by
 intro pins s σ H v u Q I r hw
 obtain⟨a,xs,e1,hq,hl,hw⟩:=hw
 subst e1
 cases r
 obtain⟨its,rv,ht,hz⟩:=I.tuple hq
 refine assign_Tuple_tuple (I.ok.hd hc) ht (by simp[hn,<-hl,rv.length]) hst λh' hx=>?_
 have I1:Inv X pins σ H { s with heap:=h' }:=I.kept (t':=s.toks) λb o e=>hx b o (K5 (KO e)) e
 exact h pins _ σ H xs _ Q I1 (by simpa using rv) hw
def JM(to ti:TE)(t:E8):TG:=λv σ H Q=>to σ H λo H1=>ti σ H1 λi H2=>t o i v H2 λH3=>Q σ H3
def uP{o i:Expr}{to ti:TE}{t:E8}(ho:PE X o to)(hi:PE X i ti)(hs:HI X t)
  (ha:∀v,assign (.Subscript o i pos) X.env v = (do
   let ov <-holding [v] (eval o X.env)
   let iv <-holding [v,ov] (eval i X.env)
   standAt pos
   holding [v,ov,iv] (setItem ov iv v)
   release [v,ov,iv] []):=by intro _;rfl):PG X (.Subscript o i pos) (JM to ti t):=by
 intro pins s σ H v u Q I r h
 rw[ha]
 refine Kv (LY (cc (ho pins s σ H _ I h) λov s1 hZ=>?_))
 obtain⟨x,H1,I1,r1,q1⟩:=hZ
 refine Kv (LY (cc (hi pins s1 σ H1 _ I1 q1) λiv s2 hZ=>?_))
 obtain⟨y,H2,I2,r2,q2⟩:=hZ
 refine Kv (O9 (Kv (LY (cc (hs pins s2 σ H2 x y v ov iv u _ I2 r1 r2 r q2) λ_ s3 hZ=>?_))))
 obtain⟨H3,I3,q3⟩:=hZ
 exact wpAny_release ⟨σ,H3,I3,q3⟩
def Cb(te:TE)(g:TG):TS:=λD σ H=>te σ H λx H1=>g x σ H1 D.nx
def ko{tg e:Expr}{te:TE}{g:TG}(he:PE X e te)(hg:PG X tg g)(hs:swapsWithSole [tg] e pos.line X.env=pure false:=by rfl)(hw:swappedStores [tg] e X.env=pure none:=by rfl)
  (h1:(assignEach [tg] X.env).map (·.2)=[assign tg X.env]:=by rfl):PS X (.Assign [tg] e pos) (Cb te g):=by
 intro pins s σ H D I h
 refine wpAny_Assign_stores (cc (he pins s σ H _ I h) λv s1 ⟨x,H1,I1,r1,q1⟩=>?_) hs hw
 rw[h1]
 exact cc (hg pins s1 σ H1 x v _ I1 r1 q1) λ_ s2 q=>q
def F4{i:Nat}{x:Str}{e:Expr}{te:TE}{pos':Pos}(hN:X.N.Nodup)(hi:X.N[i]?=some x)(hx:Loc X.env.scope x)(he:PE X e te)(hs:swapsWith e (some (.Name x pos')) pos.line X.env=pure false:=by rfl)(hf:X.fn x=true\/X.env.scope.names.lookup x=some .local:=by first|exact .inl rfl|exact .inr rfl|assumption) :
  PS X (.Assign [.Name x pos'] e pos) (Cb te (ix i)):=by
 intro pins s σ H D I h
 refine wpAny_Assign_Name (cc (he pins s σ H _ I h) λv s1 ⟨y,H1,I1,r1,q1⟩=>?_) hs
 exact qS I1 hN hi hx r1 (λs2 I2=>⟨_,H1,I2,q1⟩) hf
end
section
variable {X:Cx}{pos:Pos}
def Gz(c:TT)(tb:TS):TS:=λD σ H=>∃W:Nat->St->Hp->Prop,(∃m,W m σ H)/\∀m σ H,W m σ H ->
 c σ H λb H1=>if b=true then ∃N:St->Hp->Prop,(∀σ' H',N σ' H'->∃m',m'<m/\W m' σ' H')/\tb { D with nx:=N,ct:=N,bk:=D.nx } σ H1 else D.nx σ H1
def mS{c:Expr}{body:List Stmt}{tc:TT}{tb:TS}(hp:PassesOwn (model X.prog X.w) X.A X.env X.xe)(hc:PT X c tc)(hb:ue X body tb):PS X (.While c body [] pos) (Gz tc tb):=by
 intro pins s σ H D I h
 obtain⟨W,⟨m0,w0⟩,turn⟩:=h
 refine wpAny_While (codeAny_whileLoop (λn s'=>∃σ' H',Inv X pins σ' H' s'/\W n σ' H') ?_ m0 ⟨σ,H,I,w0⟩)
 rintro n s1 ⟨σ1,H1,I1,w1⟩
 refine M6 hp (cc (hc pins s1 σ1 H1 _ I1 (turn n σ1 H1 w1)) λb s2 hZ=>?_)
 obtain⟨H2,I2,q2⟩:=hZ
 cases b with
 |true =>
  obtain⟨N,hN,q2⟩:=q2
  rw[KP rfl]
  refine M6 hp (cc (hb pins s2 σ1 H2 _ I2 q2) λf s3 q3=>?_)
  cases f with
  |next =>
   obtain⟨σ3,H3,I3,n3⟩:=q3
   obtain⟨m',hm,w3⟩:=hN σ3 H3 n3
   exact⟨m',hm,σ3,H3,I3,w3⟩
  |cont =>
   obtain⟨σ3,H3,I3,n3⟩:=q3
   obtain⟨m',hm,w3⟩:=hN σ3 H3 n3
   exact⟨m',hm,σ3,H3,I3,w3⟩
  |brk=>exact q3
  |ret v=>exact q3
 |false =>
  rw[KD Lb]
  exact OF ⟨σ1,H2,I2,q2⟩
end
structure It where
 go:Nat->Hp->Prop
 yld:Nat->Hp->V->Hp->Prop
 stop:Nat->Hp->Prop
def iq(X:Cx)(pins:List (Addr×Obj))(H:Hp)(b:Addr):Prop :=
 H b=none/\b≠X.env.locals/\b∉X.fs/\(b∈X.ex\/X.s₀.heap.objs.size<=b)/\(∀x c,X.env.cells.lookup x=some c->c≠b)/\∀p∈X.pn++pins,p.1≠b
def Inv.Bn{X:Cx}{pins:List (Addr×Obj)}{σ:St}{H H':Hp}{s:Shared}{b:Addr}(I:Inv X pins σ H s)(hb:s.heap.objs.size<=b)(hn:H' b=none):iq X pins H' b:=by
 refine⟨hn,MK (K4 I.lt hb),I.J5 hb,.inr (Lh I.sz hb),λx c e z=>?_,λp hp z=>?_⟩
 ·obtain⟨v,q⟩:=I.cell x c e
  exact absurd (K4 q.lt (by rw[z];exact hb)) (LA _)
 ·exact absurd (K4 (KO (I.pin p hp).1) (by rw[z];exact hb)) (LA _)
structure Turn(P:Program)(w:World)(K:PySem.W.Frag)(tg:Expr)(J:It)(fp:List Addr)(it:Addr)(tn:Nat->Heap->Prop):Prop where
 mem:it∈fp
 obj:∀i h,tn i h->∀b∈fp,∃o,h.get? b=some o/\∀v,o.data≠.cell v
 keep:∀i h h',tn i h->(∀b∈fp,∀o,h.get? b=some o->h'.get? b=some o)->tn i h'
 item:∀(X:Cx),X.prog=P->X.w=w->X.K=K->X.calm=true->∀(i:Nat) (pins:List (Addr×Obj)) (s:Shared) (σ:St) (H:Hp) (E:Value->Shared->Prop),Inv X pins σ H s->(∀b∈fp,iq X pins H b)->tn i s.heap->J.go i H ->
  wpAny (model P w) X.A (pyNext (.ref it)) (λr s1=>∃u,r=some u /\
   wpAny (model P w) X.A (letOwnedTupleGo tg (.ref it) u) (λ_ s2=>∃x H',Inv X pins σ H' s2/\RelV x u/\J.yld i H x H'/\tn (i+1) s2.heap/\∀b∈fp,H' b=none) E s1) E s
 done:∀(X:Cx),X.prog=P->X.w=w->X.K=K->X.calm=true->∀(i:Nat) (pins:List (Addr×Obj)) (s:Shared) (σ:St) (H:Hp) (E:Value->Shared->Prop),Inv X pins σ H s->(∀b∈fp,iq X pins H b)->tn i s.heap->J.stop i H ->
  wpAny (model P w) X.A (pyNext (.ref it)) (λr s1=>r=none/\Inv X pins σ H s1) E s
 self:∀(A:Around) (i:Nat) (s:Shared) (Q:Value->Shared->Prop) (E:Value->Shared->Prop),tn i s.heap->Q (.ref it) s->wpAny (model P w) A (pyIter (.ref it)) Q E s
abbrev TI:=St->Hp->(It->Hp->Prop)->Prop
def PIE(X:Cx)(pins:List (Addr×Obj))(σ:St)(tg:Expr)(R:It->Hp->Prop)(itv:Value)(s2:Shared):Prop :=
 ∃(it:Addr) (fp:List Addr) (tn:Nat->Heap->Prop) (J:It) (H':Hp),itv=.ref it/\Inv X pins σ H' s2/\Turn X.prog X.w X.K tg J fp it tn/\tn 0 s2.heap/\(∀b∈fp,iq X pins H' b)/\R J H'
def PI(X:Cx)(tg iter:Expr)(wi:TI):Prop :=
 ∀(pins:List (Addr×Obj)) (s:Shared) (σ:St) (H:Hp) (R:It->Hp->Prop),Inv X pins σ H s->wi σ H R ->
  wpAny (model X.prog X.w) X.A (eval iter X.env) (λv s1=>wpAny (model X.prog X.w) X.A (pyIter v) (PIE X pins σ tg R) X.xe s1) X.xe s
def xA{M:Model}{A:Around}{E:Value->Shared->Prop}{s:Shared}{tg:Expr}{it:Addr}{u:Value}{o:Obj}{n:String}{vs:Array Value}{Q:Unit->Shared->Prop}(ho:s.heap.get? it=some o)(hc:o.cls=.type n)(hd:o.data=.fields vs)
    (hn:["enumerate", "zip", "dict_itemiterator", "dict_reverseitemiterator", "odict_iterator", "itertools.zip_longest", "itertools.pairwise"].contains n=false) (hQ:Q () s):wpAny M A (letOwnedTupleGo tg (.ref it) u) Q E s:=by
  unfold letOwnedTupleGo
  cases tg <;> first
    |exact Kz hQ
    |(cases u <;> first
        |exact Kz hQ
        | (refine Kv (wpAny_load ho ?_)
           rw[hc,hd]
           show wpAny M A (if (["enumerate", "zip", "dict_itemiterator", "dict_reverseitemiterator", "odict_iterator", "itertools.zip_longest", "itertools.pairwise"].contains n&&vs[0]?==some (rawInt _))=true then _ else _) Q E s
           rw[KD (by intro h;rw[hn,Oe]at h;cases h)]
           exact Kz hQ))
def FV(K:PySem.W.Frag)(a:Addr):It :=
 ⟨λi H=>∃xs x,aA K H a xs/\xs[i]?=some x,λi H x H'=>H'=H/\∀xs,aA K H a xs->xs[i]?=some x,λi H=>∃xs,aA K H a xs/\xs.length<=i⟩
def F9(K:PySem.W.Frag)(a:Addr):It :=
 ⟨λi H=>∃xs x,bX K H a xs/\xs[i]?=some x,λi H x H'=>H'=H/\∀xs,bX K H a xs->xs[i]?=some x,λi H=>∃xs,bX K H a xs/\xs.length<=i⟩
def Gb(lo:Int)(n:Nat):It:=⟨λi _=>i<n,λi H x H'=>H'=H/\x=.int (lo+i),λi _=>n<=i⟩
def x8{P:Program}{w:World}{K:PySem.W.Frag}{tg:Expr}(a it:Addr):Turn P w K tg (FV K a) [it] it (λi h=>h.IsListIter it a i) where
 mem:=by simp
 obj:=λi h st b hb=>by
  have e:b=it:=by simpa using hb
  subst e
  obtain⟨o,e,c,d⟩:=st
  exact⟨o,e,λv z=>by rw[d]at z;cases z⟩
 keep:=λi h h' st k=>st.at λo e=>k it (by simp) o e
 item:=by
  intro X hP hw hK hc i pins s σ H E I hf st hg
  subst hP hw hK
  obtain⟨xs,x,hq,hx⟩:=hg
  obtain⟨its,rv,p,hz⟩:=I.list hq
  obtain⟨u,hu,ru⟩:=rv.get hx
  obtain⟨f0,f1,f2,f3,f4,f5⟩:=hf it (by simp)
  refine wpAny_pyNext_list_item st p.isList (x:=u) (by simpa using hu) λh' st' sb=>?_
  have I1:Inv X pins σ H { s with heap:=h' }:=I.turned (t':=s.toks) (λb o hb e=>(sb.2 b hb).trans e) f0 f1 f3 f4 f5
  obtain⟨o,e,c,d⟩:=id st'
  exact⟨u,rfl,xA (s:={ s with heap:=h' }) e c d (by decide) ⟨x,H,I1,ru,⟨rfl,λys hy=>by rw[I.tD hy hq];exact hx⟩,st',λb hb=>(hf b hb).1⟩⟩
 done:=by
  intro X hP hw hK hc i pins s σ H E I hf st hg
  subst hP hw hK
  obtain⟨xs,hq,hx⟩:=hg
  obtain⟨its,rv,p,hz⟩:=I.list hq
  obtain⟨f0,f1,f2,f3,f4,f5⟩:=hf it (by simp)
  have hl:=rv.length
  exact wpAny_pyNext_list_end (I.ok.hd hc) st p.isList (by simp;lia) λh' eb=>⟨rfl,I.turned (t':=s.toks) (λb o hb e=>eb b o hb e) f0 f1 f3 f4 f5⟩
 self:=λ_ _ _ _ _ st h=>wpAny_pyIter_listiter st h
def uW{P:Program}{w:World}{K:PySem.W.Frag}{tg:Expr}(a it:Addr):Turn P w K tg (F9 K a) [it] it (λi h=>h.IsTupleIter it a i) where
 mem:=by simp
 obj:=λi h st b hb=>by
  have e:b=it:=by simpa using hb
  subst e
  obtain⟨o,e,c,d⟩:=st
  exact⟨o,e,λv z=>by rw[d]at z;cases z⟩
 keep:=λi h h' st k=>st.at λo e=>k it (by simp) o e
 item:=by
  intro X hP hw hK hc i pins s σ H E I hf st hg
  subst hP hw hK
  obtain⟨xs,x,hq,hx⟩:=hg
  obtain⟨its,rv,p,hz⟩:=I.tuple hq
  obtain⟨u,hu,ru⟩:=rv.get hx
  obtain⟨f0,f1,f2,f3,f4,f5⟩:=hf it (by simp)
  refine wpAny_pyNext_tuple_item st (show s.heap.IsTuple a its.toArray from p) (x:=u) (by simpa using hu) λh' st' sb=>?_
  have I1:Inv X pins σ H { s with heap:=h' }:=I.turned (t':=s.toks) (λb o hb e=>(sb.2 b hb).trans e) f0 f1 f3 f4 f5
  obtain⟨o,e,c,d⟩:=id st'
  exact⟨u,rfl,xA (s:={ s with heap:=h' }) e c d (by decide) ⟨x,H,I1,ru,⟨rfl,λys hy=>by rw[I.oG hy hq];exact hx⟩,st',λb hb=>(hf b hb).1⟩⟩
 done:=by
  intro X hP hw hK hc i pins s σ H E I hf st hg
  subst hP hw hK
  obtain⟨xs,hq,hx⟩:=hg
  obtain⟨its,rv,p,hz⟩:=I.tuple hq
  obtain⟨f0,f1,f2,f3,f4,f5⟩:=hf it (by simp)
  have hl:=rv.length
  exact wpAny_pyNext_tuple_end (I.ok.hd hc) st (show s.heap.IsTuple a its.toArray from p) (by simp;lia) λh' eb=>⟨rfl,I.turned (t':=s.toks) (λb o hb e=>eb b o hb e) f0 f1 f3 f4 f5⟩
 self:=λ_ _ _ _ _ st h=>wpAny_pyIter_tupleiter st h
def tZ{P:Program}{w:World}{K:PySem.W.Frag}{tg:Expr}(it:Addr)(lo:Int)(n:Nat):Turn P w K tg (Gb lo n) [it] it (λi h=>IsRangeIter h it (lo+(i:Nat)*1) ((n:Int)-(i:Nat)) 1) where
 mem:=by simp
 obj:=λi h st b hb=>by
  have e:b=it:=by simpa using hb
  subst e
  exact⟨_,st,λv z=>by
   have z':Data.fields _=Data.cell v:=z
   cases z'⟩
 keep:=λi h h' st k=>k it (by simp) _ st
 item:=by
  intro X hP hw hK hc i pins s σ H E I hf st hg
  subst hP hw hK
  obtain⟨f0,f1,f2,f3,f4,f5⟩:=hf it (by simp)
  have W:=Walks.range (prog:=X.prog) (w:=X.w) (I.ok.hd hc) it lo 1 n
  refine W.item i s _ _ hg st λv h' tk hv st' kk=>?_
  obtain⟨t,rfl⟩:=hv
  have I1:Inv X pins σ H { s with heap:=h',toks:=tk }:=I.turned (λb o hb e=>kk b o (by simpa using hb) e) f0 f1 f3 f4 f5
  refine⟨_,rfl,xA (s:={ s with heap:=h',toks:=tk }) (n:="range_iterator") st' rfl rfl (by decide) ⟨.int (lo+i),H,I1,⟨t,?_⟩,⟨rfl,rfl⟩,st',λb hb=>(hf b hb).1⟩⟩
  rw[Int.mul_one]
 done:=by
  intro X hP hw hK hc i pins s σ H E I hf st hg
  subst hP hw hK
  obtain⟨f0,f1,f2,f3,f4,f5⟩:=hf it (by simp)
  exact wpAny_pyNext_range_end (I.ok.hd hc) st (by have:n<=i:=hg;lia) λh' eb=>⟨rfl,I.turned (t':=s.toks) (λb o hb e=>eb b o hb e) f0 f1 f3 f4 f5⟩
 self:=λ_ _ _ _ _ st h=>wpAny_pyIter_rangeiter st h
end L2
namespace L2
open PySem PySem.Spec PyProof.Rows
section
variable {X:Cx}{tg:Expr}
def El(K:PySem.W.Frag)(tl:TE):TI:=λσ H R=>tl σ H λx H1=>∃a,x=.ref a/\(∃xs,aA K H1 a xs)/\R (FV K a) H1
def IT(K:PySem.W.Frag)(tl:TE):TI:=λσ H R=>tl σ H λx H1=>∃a,x=.ref a/\(∃xs,bX K H1 a xs)/\R (F9 K a) H1
def aL{l:Expr}{tl:TE}(hl:PE X l tl):PI X tg l (El X.K tl):=by
 intro pins s σ H R I h
 refine cc (hl pins s σ H _ I h) λv s1 hZ=>?_
 obtain⟨x,H1,I1,r1,q1⟩:=hZ
 obtain⟨a,e,⟨xs,hq⟩,q⟩:=q1
 subst e
 cases r1
 obtain⟨its,rv,p,hz⟩:=I1.list hq
 refine Nx p.isList ?_
 refine⟨s1.heap.objs.size,[s1.heap.objs.size],_,_,H1,rfl,I1.kept (t':=s1.toks) λb o e=>Ky _ e,x8 a _,⟨_,KY _ rfl,rfl,rfl⟩,λb hb=>?_,q⟩
 have e:b=s1.heap.objs.size:=by simpa using hb
 subst e
 exact I1.Bn (KL _) (I1.hok.fresh (KL _))
def gN{l:Expr}{tl:TE}(hl:PE X l tl):PI X tg l (IT X.K tl):=by
 intro pins s σ H R I h
 refine cc (hl pins s σ H _ I h) λv s1 hZ=>?_
 obtain⟨x,H1,I1,r1,q1⟩:=hZ
 obtain⟨a,e,⟨xs,hq⟩,q⟩:=q1
 subst e
 cases r1
 obtain⟨its,rv,p,hz⟩:=I1.tuple hq
 refine wpAny_pyIter_tuple (show s1.heap.IsTuple a its.toArray from p) ?_
 refine⟨s1.heap.objs.size,[s1.heap.objs.size],_,_,H1,rfl,I1.kept (t':=s1.toks) λb o e=>Ky _ e,uW a _,⟨_,KY _ rfl,rfl,rfl⟩,λb hb=>?_,q⟩
 have e:b=s1.heap.objs.size:=by simpa using hb
 subst e
 exact I1.Bn (KL _) (I1.hok.fresh (KL _))
def Av{pins:List (Addr×Obj)}{σ:St}{H:Hp}{s:Shared}{R:It->Hp->Prop}{E:Value->Shared->Prop}{lo hi:Int}{t u v:Tok}{tk:Nat}(I:Inv X pins σ H s)(h1 : -(2 ^ 62)<=lo)(h2:lo<2 ^ 62)(h3 : -(2 ^ 62)<=hi)(h4:hi<2 ^ 62)
  (q:R (Gb lo (hi-lo).toNat) H):wpAny (model X.prog X.w) X.A (pyIter (.ref s.heap.objs.size)) (PIE X pins σ tg R) E { s with heap:=s.heap.push { cls:=.type "range",data:=.fields #[.int lo t,.int hi u,.int 1 v] },toks:=tk }:=by
 refine wpAny_pyIter_range (IsRange.new ..) (small_one h1 h2 h3 h4) ?_
 have I1:Inv X pins σ H { s with heap:=s.heap.push { cls:=.type "range",data:=.fields #[.int lo t,.int hi u,.int 1 v] },toks:=tk }:=I.kept λb o e=>Ky _ e
 refine⟨(s.heap.push { cls:=.type "range",data:=.fields #[.int lo t,.int hi u,.int 1 v] }).objs.size,[(s.heap.push { cls:=.type "range",data:=.fields #[.int lo t,.int hi u,.int 1 v] }).objs.size],_,_,H,rfl,
  I1.kept (t':=tk) λb o e=>Ky _ e,tZ _ lo (hi-lo).toNat,?_,λb hb=>?_,q⟩
 ·have e1:lo+((0:Nat):Int)*1=lo:=by simp
  have e2:(((hi-lo).toNat:Nat):Int)-((0:Nat):Int)=Builtin.Range.rangeSize lo hi 1:=by rw[rangeSize_one];split <;> lia
  show IsRangeIter _ _ (lo+((0:Nat):Int)*1) ((((hi-lo).toNat:Nat):Int)-((0:Nat):Int)) 1
  rw[e1,e2]
  exact KY _ rfl
 ·have e:b=(s.heap.push { cls:=.type "range",data:=.fields #[.int lo t,.int hi u,.int 1 v] }).objs.size:=by simpa using hb
  subst e
  exact I1.Bn (KL _) (I1.hok.fresh (KL _))
def IU(ta:TA):TI:=λσ H R=>ta σ H λvs H1=>∃j:Int,vs=[.int j]/\-(2 ^ 62)<=j/\j<2 ^ 62/\R (Gb 0 j.toNat) H1
def cu{a:Expr}{ta:TA}{p pos:Pos}(hg:Gl X "range")(hm:X.mg "range"=none)(ha:PA X [a] ta)(hs:starEach [a] X.env=[(false,eval a X.env)]:=by rfl):PI X tg (.Call (.Name "range" p) [a] [] pos) (IU ta):=by
 intro pins s σ H R I h
 refine Call_ (iA I hg hm boot_range (Mx (cc (ha pos pins s σ H _ I h) λus s1 ⟨vs,H1,I1,r1,q1⟩=>?_) hs rfl))
 obtain⟨j,e,q1,q2,q⟩:=q1
 subst e
 cases r1 with
 |cons r rr =>
  cases rr
  obtain⟨t,rfl⟩:=r
  exact call_range_1 (Av I1 (by lia) (by lia) q1 q2 (by simpa using q))
def Ia(wi:TI)(g:TG)(tb:TS):TS:=λD σ H=>wi σ H λJ H1=>∃W:Nat->Nat->St->Hp->Prop,(∃m,W 0 m σ H1)/\∀i m σ H,W i m σ H ->
 (J.stop i H/\D.nx σ H)\/(J.go i H/\∃N:St->Hp->Prop,(∀σ' H',N σ' H'->∃m',m'<m/\W (i+1) m' σ' H')/\∀x H',J.yld i H x H'->g x σ H' λσ2 H2=>tb { D with nx:=N,ct:=N,bk:=D.nx } σ2 H2)
def nA(fp:List Addr)(h:Heap):List (Addr×Obj):=fp.filterMap λb=>(h.get? b).map λo=>(b,o)
def gY{fp:List Addr}{h:Heap}{b:Addr}{o:Obj}(hb:b∈fp)(e:h.get? b=some o):(b,o)∈nA fp h:=MF.mpr ⟨b,hb,by rw[e];rfl⟩
def x6{fp:List Addr}{h:Heap}{p:Addr×Obj}(hp:p∈nA fp h):p.1∈fp/\h.get? p.1=some p.2:=by
 obtain⟨b,hb,e⟩:=MF.mp hp
 cases q:h.get? b with
 |none=>rw[q]at e;cases e
 |some o =>
  rw[q]at e
  have e':(b,o)=p:=Lq e
  subst e'
  exact⟨hb,q⟩
def Inv.pinned{pins:List (Addr×Obj)}{σ:St}{H:Hp}{s:Shared}{fp:List Addr}(I:Inv X pins σ H s)(hf:∀b∈fp,iq X pins H b)(ho:∀b∈fp,∃o,s.heap.get? b=some o/\∀v,o.data≠.cell v):Inv X (pins++nA fp s.heap) σ H s :=
 I.wx λp hp=>(KW.mp hp).elim (λz=>I.pin p (LG _ z)) λz=>by
  obtain⟨hb,e⟩:=x6 z
  obtain⟨f0,f1,f2,_⟩:=hf p.1 hb
  obtain⟨o,e',d⟩:=ho p.1 hb
  rw[e]at e';cases e'
  exact⟨e,f0,f1,f2,d⟩
def Inv.jK{pins pl:List (Addr×Obj)}{σ:St}{H:Hp}{s:Shared}(I:Inv X (pins++pl) σ H s):Inv X pins σ H s:=I.wx λp hp=>I.pin p (LG _ (Lr _ hp))
def bo{iter:Expr}{body:List Stmt}{wi:TI}{g:TG}{tb:TS}{pos:Pos}(hp:PassesOwn (model X.prog X.w) X.A X.env X.xe)(hc:X.calm=true)(hi:PI X tg iter wi)(hg:PG X tg g)(hb:ue X body tb)
  (hs:∀x,foldedSetIterable iter X.env x=pure x:=by intro _;rfl):PS X (.For tg iter body [] pos) (Ia wi g tb):=by
 intro pins s σ H D I h
 refine wpAny_For (cc (hi pins s σ H _ I h) λv s1 h1=>cc h1 λitv s2 h2=>?_) hs
 obtain⟨it,fp,tn,J,H2,e,I2,T,st2,f2,W,⟨m0,w0⟩,turn⟩:=h2
 subst e
 have stat:∀{H':Hp},(∀b∈fp,H' b=none)->∀b∈fp,iq X pins H' b:=λhn b hb=>⟨hn b hb,(f2 b hb).2⟩
 refine codeAny_forLoop_any (λn s'=>∃i σ' H',Inv X pins σ' H' s'/\tn i s'.heap/\(∀b∈fp,H' b=none)/\W i n σ' H') ?_ m0 ⟨0,σ,H2,I2,st2,λb hb=>(f2 b hb).1,w0⟩
 rintro n s3 ⟨i,σ3,H3,I3,st3,fr3,w3⟩
 rcases turn i n σ3 H3 w3 with⟨stop,qn⟩|⟨go,N,hN,step⟩
 ·refine M6 hp (cc (T.done X rfl rfl rfl hc i pins s3 σ3 H3 X.xe I3 (stat fr3) st3 stop) λr s4 hZ=>?_)
  obtain⟨hr,I4⟩:=hZ
  subst hr
  exact OF ⟨σ3,H3,I4,qn⟩
 ·refine M6 hp (cc (T.item X rfl rfl rfl hc i pins s3 σ3 H3 X.xe I3 (stat fr3) st3 go) λr s4 hZ=>?_)
  obtain⟨u,hr,h4⟩:=hZ
  subst hr
  refine M6 hp (cc h4 λ_ s5 hZ=>?_)
  obtain⟨x,H5,I5,r5,y5,st5,fr5⟩:=hZ
  have I5':=I5.pinned (stat fr5) (T.obj _ _ st5)
  refine M6 hp (cc (hg _ s5 σ3 H5 x u _ I5' r5 (step x H5 y5)) λ_ s6 hZ=>?_)
  obtain⟨σ6,H6,I6,q6⟩:=hZ
  refine M6 hp (cc (hb _ s6 σ6 H6 _ I6 q6) λf s7 q7=>?_)
  have again:∀{σ7:St} {H7:Hp},Inv X (pins++nA fp s5.heap) σ7 H7 s7->N σ7 H7->∃m,m<n/\∃i σ' H',Inv X pins σ' H' s7/\tn i s7.heap/\(∀b∈fp,H' b=none)/\W i m σ' H':=λ{σ7 H7} I7 n7=>by
   obtain⟨m',hm,w7⟩:=hN σ7 H7 n7
   refine⟨m',hm,i+1,σ7,H7,I7.jK,T.keep _ _ _ st5 λb hb o e=>(I7.pin (b,o) (LG _ (LG _ (gY hb e)))).1,λb hb=>?_,w7⟩
   obtain⟨o,e,d⟩:=T.obj _ _ st5 b hb
   exact(I7.pin (b,o) (LG _ (LG _ (gY hb e)))).2.1
  cases f with
  |next=>obtain⟨σ7,H7,I7,n7⟩:=q7;exact again I7 n7
  |cont=>obtain⟨σ7,H7,I7,n7⟩:=q7;exact again I7 n7
  |brk=>obtain⟨σ7,H7,I7,q7⟩:=q7;exact⟨σ7,H7,I7.jK,q7⟩
  |ret v=>obtain⟨x7,σ7,H7,I7,r7,q7⟩:=q7;exact⟨x7,σ7,H7,I7.jK,r7,q7⟩
end
def bq{K:PySem.W.Frag}{a:Addr}{xs:List V}{g:TG}{tb:TS}{D:Ends}{σ:St}{H:Hp}(Pv:Nat->St->Hp->Prop)(h0:Pv 0 σ H)(hl:∀i σ H,i<=xs.length->Pv i σ H->aA K H a xs)
  (hs:∀i x σ H,xs[i]?=some x->Pv i σ H->g x σ H λσ2 H2=>tb { D with nx:=Pv (i+1),ct:=Pv (i+1),bk:=D.nx } σ2 H2) (hd:∀σ H,Pv xs.length σ H->D.nx σ H) :
  ∃W:Nat->Nat->St->Hp->Prop,(∃m,W 0 m σ H)/\∀i m σ H,W i m σ H ->
   ((FV K a).stop i H/\D.nx σ H)\/((FV K a).go i H/\∃N:St->Hp->Prop,(∀σ' H',N σ' H'->∃m',m'<m/\W (i+1) m' σ' H')/\∀x H',(FV K a).yld i H x H'->g x σ H' λσ2 H2=>tb { D with nx:=N,ct:=N,bk:=D.nx } σ2 H2):=by
 refine⟨λi m σ H=>m=xs.length-i/\i<=xs.length/\Pv i σ H,⟨xs.length,by simp,K2 _,h0⟩,?_⟩
 rintro i m σ H ⟨rfl,hi,p⟩
 have q:=hl i σ H hi p
 by_cases hlt:i<xs.length
 ·refine .inr ⟨⟨xs,xs[i],q,by simp[hlt]⟩,Pv (i+1),λσ' H' p'=>⟨xs.length-(i+1),by lia,rfl,hlt,p'⟩,λx H' y=>?_⟩
  obtain⟨e,y⟩:=y
  subst e
  exact hs i x σ _ (y xs q) p
 ·have e:i=xs.length:=by lia
  subst e
  exact .inl ⟨⟨xs,q,KL _⟩,hd σ H p⟩
def ju{K:PySem.W.Frag}{a:Addr}{xs:List V}{g:TG}{tb:TS}{D:Ends}{σ:St}{H:Hp}(Pv:Nat->St->Hp->Prop)(h0:Pv 0 σ H)(hl:∀i σ H,i<=xs.length->Pv i σ H->bX K H a xs)
  (hs:∀i x σ H,xs[i]?=some x->Pv i σ H->g x σ H λσ2 H2=>tb { D with nx:=Pv (i+1),ct:=Pv (i+1),bk:=D.nx } σ2 H2) (hd:∀σ H,Pv xs.length σ H->D.nx σ H) :
  ∃W:Nat->Nat->St->Hp->Prop,(∃m,W 0 m σ H)/\∀i m σ H,W i m σ H ->
   ((F9 K a).stop i H/\D.nx σ H)\/((F9 K a).go i H/\∃N:St->Hp->Prop,(∀σ' H',N σ' H'->∃m',m'<m/\W (i+1) m' σ' H')/\∀x H',(F9 K a).yld i H x H'->g x σ H' λσ2 H2=>tb { D with nx:=N,ct:=N,bk:=D.nx } σ2 H2):=by
 refine⟨λi m σ H=>m=xs.length-i/\i<=xs.length/\Pv i σ H,⟨xs.length,by simp,K2 _,h0⟩,?_⟩
 rintro i m σ H ⟨rfl,hi,p⟩
 have q:=hl i σ H hi p
 by_cases hlt:i<xs.length
 ·refine .inr ⟨⟨xs,xs[i],q,by simp[hlt]⟩,Pv (i+1),λσ' H' p'=>⟨xs.length-(i+1),by lia,rfl,hlt,p'⟩,λx H' y=>?_⟩
  obtain⟨e,y⟩:=y
  subst e
  exact hs i x σ _ (y xs q) p
 ·have e:i=xs.length:=by lia
  subst e
  exact .inl ⟨⟨xs,q,KL _⟩,hd σ H p⟩
def fk{lo:Int}{n:Nat}{g:TG}{tb:TS}{D:Ends}{σ:St}{H:Hp}(Pv:Nat->St->Hp->Prop)(h0:Pv 0 σ H)
  (hs:∀i σ H,i<n->Pv i σ H->g (.int (lo+i)) σ H λσ2 H2=>tb { D with nx:=Pv (i+1),ct:=Pv (i+1),bk:=D.nx } σ2 H2) (hd:∀σ H,Pv n σ H->D.nx σ H) :
  ∃W:Nat->Nat->St->Hp->Prop,(∃m,W 0 m σ H)/\∀i m σ H,W i m σ H ->
   ((Gb lo n).stop i H/\D.nx σ H)\/((Gb lo n).go i H/\∃N:St->Hp->Prop,(∀σ' H',N σ' H'->∃m',m'<m/\W (i+1) m' σ' H')/\∀x H',(Gb lo n).yld i H x H'->g x σ H' λσ2 H2=>tb { D with nx:=N,ct:=N,bk:=D.nx } σ2 H2):=by
 refine⟨λi m σ H=>m=n-i/\i<=n/\Pv i σ H,⟨n,by simp,K2 _,h0⟩,?_⟩
 rintro i m σ H ⟨rfl,hi,p⟩
 by_cases hlt:i<n
 ·refine .inr ⟨hlt,Pv (i+1),λσ' H' p'=>⟨n-(i+1),by lia,rfl,hlt,p'⟩,λx H' y=>?_⟩
  obtain⟨e,y⟩:=y
  subst e y
  exact hs i σ _ hlt p
 ·have e:i=n:=by lia
  subst e
  exact .inl ⟨KL _,hd σ H p⟩
end L2
namespace L2
open PySem PySem.Spec PyProof.Rows
abbrev R2:=V->V->Hp->VK->Prop
def fZ(X:Cx)(f:Value->Value->Sem Value)(r:R2):Prop :=
 ∀(pins:List (Addr×Obj)) (s:Shared) (σ:St) (H:Hp) (x y:V) (v u:Value) (Q:VK),Inv X pins σ H s->RelV x v->RelV y u->r x y H Q ->
  wpAny (model X.prog X.w) X.A (f v u) (EP X pins σ Q) X.xe s
def Jw(X:Cx)(f:Value->Sem Value)(r:V->Hp->VK->Prop):Prop :=
 ∀(pins:List (Addr×Obj)) (s:Shared) (σ:St) (H:Hp) (x:V) (v:Value) (Q:VK),Inv X pins σ H s->RelV x v->r x H Q ->
  wpAny (model X.prog X.w) X.A (f v) (EP X pins σ Q) X.xe s
def dS(X:Cx)(f:Value)(r:List V->Hp->VK->Prop):Prop :=
 ∀(pins:List (Addr×Obj)) (s:Shared) (σ:St) (H:Hp) (xs:List V) (us:List Value) (Q:VK),Inv X pins σ H s->Vals xs us->r xs H Q ->
  wpAny (model X.prog X.w) X.A (call f us) (EP X pins σ Q) X.xe s
def JW(X:Cx)(r:V->Hp->(Bool->Hp->Prop)->Prop):Prop :=
 ∀(pins:List (Addr×Obj)) (s:Shared) (σ:St) (H:Hp) (x:V) (v:Value) (Q:Bool->Hp->Prop),Inv X pins σ H s->RelV x v->r x H Q ->
  wpAny (model X.prog X.w) X.A (truthy v) (TP X pins σ Q) X.xe s
def Jj(r:R2)(ta tb:TE):TE:=λσ H Q=>ta σ H λx H1=>tb σ H1 λy H2=>r x y H2 Q
def tUn(r:V->Hp->VK->Prop)(ta:TE):TE:=λσ H Q=>ta σ H λx H1=>r x H1 Q
def rI(C:Int->Int->Prop)(g:Int->Int->V):R2:=λx y H Q=>∃i j,x=.int i/\y=.int j/\C i j/\Q (g i j) H
def BR(g:Int->Int->V):R2:=λx y H Q=>∃i j,x=.int i/\y=.int j/\Q (g i j) H
def rU(g:Int->V):V->Hp->VK->Prop:=λx H Q=>∃i,x=.int i/\Q (g i) H
section
variable {X:Cx}{a b c:Expr}{ta tb tc:TE}{pos:Pos}
def Fz(ha:PE X a ta)(hb:PE X b tb){pins:List (Addr×Obj)}{s:Shared}{σ:St}{H:Hp}{R:V->V->Hp->Prop}(I:Inv X pins σ H s)
  (h:ta σ H λx H1=>tb σ H1 λy H2=>R x y H2) {Q:Value->Shared->Prop} {f:Value->Value->Sem Value}
  (hf:∀v u s2 x y H2,Inv X pins σ H2 s2->RelV x v->RelV y u->R x y H2->wpAny (model X.prog X.w) X.A (f v u) Q X.xe s2) :
  wpAny (model X.prog X.w) X.A (eval a X.env) (λv s₁=>wpAny (model X.prog X.w) X.A (eval b X.env) (λu s₂=>wpAny (model X.prog X.w) X.A (f v u) Q X.xe s₂) X.xe s₁) X.xe s:=by
 refine cc (ha pins s σ H _ I h) λv s1 hZ=>?_
 obtain⟨x,H1,I1,r1,q1⟩:=hZ
 refine cc (hb pins s1 σ H1 _ I1 q1) λu s2 hZ=>?_
 obtain⟨y,H2,I2,r2,q2⟩:=hZ
 exact hf v u s2 x y H2 I2 r1 r2 q2
def az{op:Operator}{r:R2}(ho:fZ X (binaryOp op) r)(ha:PE X a ta)(hb:PE X b tb):PE X (.BinOp a op b pos) (Jj r ta tb):=by
 intro pins s σ H Q I h
 exact wpAny_BinOp (Fz ha hb I h λv u s2 x y H2 I2 rx ry q=>ho pins s2 σ H2 x y v u Q I2 rx ry q)
def zR{op:UnaryOp}{r:V->Hp->VK->Prop}(ho:Jw X (unaryOp op) r)(ha:PE X a ta):PE X (.UnaryOp op a pos) (tUn r ta):=by
 intro pins s σ H Q I h
 exact UnaryOp_ (cc (ha pins s σ H _ I h) λv s1 ⟨x,H1,I1,r1,q1⟩=>ho pins s1 σ H1 x v Q I1 r1 q1)
def IY{f:Value->Value->Sem Value}{C:Int->Int->Prop}{g:Int->Int->Int}
  (rule:∀(i j:Int) (t u:Tok) (s:Shared) (Q:Value->Shared->Prop) (E:Value->Shared->Prop),C i j->Q (.int (g i j) s.toks) { s with toks:=s.toks+1 }->wpAny (model X.prog X.w) X.A (f (.int i t) (.int j u)) Q E s) :
  fZ X f (rI C λi j=>.int (g i j)):=by
 intro pins s σ H x y v u Q I rx ry h
 obtain⟨i,j,rfl,rfl,hc,q⟩:=h
 obtain⟨t,rfl⟩:=rx
 obtain⟨t',rfl⟩:=ry
 exact rule i j t t' s _ _ hc ⟨.int (g i j),H,I.tok _,⟨_,rfl⟩,q⟩
def Bh{f:Value->Value->Sem Value}{g:Int->Int->Int}
  (rule:∀(i j:Int) (t u:Tok) (s:Shared) (Q:Value->Shared->Prop) (E:Value->Shared->Prop),Q (.int (g i j) s.toks) { s with toks:=s.toks+1 }->wpAny (model X.prog X.w) X.A (f (.int i t) (.int j u)) Q E s) :
  fZ X f (BR λi j=>.int (g i j)):=by
 intro pins s σ H x y v u Q I rx ry h
 obtain⟨i,j,rfl,rfl,q⟩:=h
 obtain⟨t,rfl⟩:=rx
 obtain⟨t',rfl⟩:=ry
 exact rule i j t t' s _ _ ⟨.int (g i j),H,I.tok _,⟨_,rfl⟩,q⟩
def Ft{f:Value->Value->Sem Value}{g:Int->Int->Bool}
  (rule:∀(i j:Int) (t u:Tok) (s:Shared) (Q:Value->Shared->Prop) (E:Value->Shared->Prop),Q (.bool (g i j)) s->wpAny (model X.prog X.w) X.A (f (.int i t) (.int j u)) Q E s) :
  fZ X f (BR λi j=>.bl (g i j)):=by
 intro pins s σ H x y v u Q I rx ry h
 obtain⟨i,j,rfl,rfl,q⟩:=h
 obtain⟨t,rfl⟩:=rx
 obtain⟨t',rfl⟩:=ry
 exact rule i j t t' s _ _ ⟨.bl (g i j),H,I,rfl,q⟩
def Kk(i j:Int):Prop:=0<j/\j<1073741824
def Jx(i j:Int):Prop:=0<=j/\j<=1000000/\i.natAbs<2 ^ 64
def F0(i j:Int):Prop:=(-(2 ^ 64)<i/\i<2 ^ 64)\/(-(2 ^ 64)<j/\j<2 ^ 64)
def F0.ok{i j:Int}(h:F0 i j):IntMulOk i j:=by
 rcases h with⟨h1,h2⟩|⟨h1,h2⟩
 ·exact .of_left (intBits_le_64 h1 h2)
 ·exact .of_right (intBits_le_64 h1 h2)
def two_pow_nn(k:Nat):(0:Int)<=2 ^ k:=by
 rw[two_pow_cast]
 exact NY _
def cY:fZ X (binaryOp .Add) (BR λi j=>.int (i+j)):=Bh λ_ _ _ _ _ _ _ q=>add_int q
def nK:fZ X (binaryOp .Sub) (BR λi j=>.int (i-j)):=Bh λ_ _ _ _ _ _ _ q=>sub_int q
def fC:fZ X (binaryOp .Mult) (rI F0 λi j=>.int (i*j)):=IY λ_ _ _ _ _ _ _ hc q=>mul_int q hc.ok
def cA:fZ X (binaryOp .FloorDiv) (rI Kk λi j=>.int (i / j)):=IY λi j _ _ _ _ _ hc q=>by
 have h1:(0:Int)<j:=hc.1
 have h2:j<1073741824:=hc.2
 exact floordiv_int (by lia) (by rw[Pa i (by lia)];exact q) (.inl (PyProof.noPylong_small (by lia)))
def bY:fZ X (binaryOp .Mod) (rI (λ_ j=>0<j) λi j=>.int (i % j)):=IY λi j _ _ _ _ _ hc q=>by
 have h1:(0:Int)<j:=hc
 exact mod_int' (by lia) (by rw[Int.fmod_eq_emod_of_nonneg i (by lia)];exact q)
def BM:fZ X (binaryOp .LShift) (rI Jx λi j=>.int (i*2 ^ j.toNat)):=IY λ_ _ _ _ _ _ _ hc q=>lshift_int_small hc.1 hc.2.1 hc.2.2 q
def lK:fZ X (binaryOp .RShift) (rI (λ_ j=>0<=j) λi j=>.int (i / 2 ^ j.toNat)):=IY λi j _ _ _ _ _ hc q =>
 rshift_int hc (by rw[Pa i (two_pow_nn _)];exact q)
def gf:fZ X (binaryOp .BitAnd) (BR λi j=>.int (Builtin.bitAnd i j)):=Bh λ_ _ _ _ _ _ _ q=>and_int q
def oP:fZ X (binaryOp .BitOr) (BR λi j=>.int (Builtin.bitOr i j)):=Bh λ_ _ _ _ _ _ _ q=>or_int q
def FF:fZ X (binaryOp .BitXor) (BR λi j=>.int (Builtin.bitXor i j)):=Bh λ_ _ _ _ _ _ _ q=>xor_int q
def unI{f:Value->Sem Value}{g:Int->Int}
  (rule:∀(i:Int) (t:Tok) (s:Shared) (Q:Value->Shared->Prop) (E:Value->Shared->Prop),Q (.int (g i) s.toks) { s with toks:=s.toks+1 }->wpAny (model X.prog X.w) X.A (f (.int i t)) Q E s) :
  Jw X f (rU λi=>.int (g i)):=by
 intro pins s σ H x v Q I rx h
 obtain⟨i,rfl,q⟩:=h
 obtain⟨t,rfl⟩:=rx
 exact rule i t s _ _ ⟨.int (g i),H,I.tok _,⟨_,rfl⟩,q⟩
def vw:Jw X (unaryOp .USub) (rU λi=>.int (-i)):=unI λ_ _ _ _ _ q=>neg_int q
end
def IB:V->V->Bool
 |.non,.non=>true|.non,.int _=>true|.int _,.non=>true|.non,.bl _=>true|.bl _,.non=>true|.non,.str _=>true|.str _,.non=>true
 |.int _,.int _=>true|.bl _,.bl _=>true|.str _,.str _=>true|.byt _,.byt _=>true
 |.int _,.str _=>true|.str _,.int _=>true|.bl _,.str _=>true|.str _,.bl _=>true
 |_,_=>false
def rEq:R2:=λx y H Q=>IB x y=true/\Q (.bl (decide (x=y))) H
def rNe:R2:=λx y H Q=>IB x y=true/\Q (.bl (!decide (x=y))) H
def wZ{i j:Int}:decide (V.int i=V.int j)=(i==j):=by
 rw[Lu]
 simp
def BJ{i j:Bool}:decide (V.bl i=V.bl j)=(i==j):=by
 rw[Lu]
 simp
def vN{i j:Str}:decide (V.str i=V.str j)=(i==j):=by
 rw[Lu]
 simp
def vT{i j:Array UInt8}:decide (V.byt i=V.byt j)=(i.toList==j.toList):=by
 rw[Lu]
 cases i
 cases j
 simp
section
variable {X:Cx}{a b c:Expr}{ta tb tc:TE}{pos:Pos}
def bx{pins:List (Addr×Obj)}{σ:St}{H:Hp}{s:Shared}{Q:VK}{k k':Bool}(I:Inv X pins σ H s)(q:Q (.bl k) H)(e:k=k'):EP X pins σ Q (.bool k') s:=by
 subst e
 exact⟨.bl k,H,I,rfl,q⟩
def hX:fZ X (compareOp .Eq) rEq:=by
 intro pins s σ H x y v u Q I rx ry h
 obtain⟨hs,q⟩:=h
 cases x with
 |non =>
  cases rx
  cases y with
  |non=>cases ry;exact PySem.EqNone.eq_none_none (bx I q (by simp))
  |bl j=>cases ry;exact PySem.EqNone.eq_none_bool (bx I q (by simp))
  |int j=>obtain⟨t',rfl⟩:=ry;exact PySem.EqNone.eq_none_int (bx I q (by simp))
  |str j=>obtain⟨t',rfl⟩:=ry;exact PySem.EqNone.eq_none_str (bx I q (by simp))
  |_=>exact absurd (show false=true from hs) Lb
 |bl i =>
  cases rx
  cases y with
  |non=>cases ry;exact PySem.EqNone.eq_bool_none (bx I q (by simp))
  |bl j=>cases ry;exact eq_bool (bx I q BJ)
  |str j=>obtain⟨t',rfl⟩:=ry;exact PySem.EqMixed.eq_bool_str (bx I q (by simp))
  |_=>exact absurd (show false=true from hs) Lb
 |int i =>
  obtain⟨t,rfl⟩:=rx
  cases y with
  |non=>cases ry;exact PySem.EqNone.eq_int_none (bx I q (by simp))
  |int j=>obtain⟨t',rfl⟩:=ry;exact eq_int (bx I q wZ)
  |str j=>obtain⟨t',rfl⟩:=ry;exact PySem.EqMixed.eq_int_str (bx I q (by simp))
  |_=>exact absurd (show false=true from hs) Lb
 |str i =>
  obtain⟨t,rfl⟩:=rx
  cases y with
  |non=>cases ry;exact PySem.EqNone.eq_str_none (bx I q (by simp))
  |bl j=>cases ry;exact PySem.EqMixed.eq_str_bool (bx I q (by simp))
  |int j=>obtain⟨t',rfl⟩:=ry;exact PySem.EqMixed.eq_str_int (bx I q (by simp))
  |str j=>obtain⟨t',rfl⟩:=ry;exact eq_str (bx I q vN)
  |_=>exact absurd (show false=true from hs) Lb
 |byt i =>
  obtain⟨t,rfl⟩:=rx
  cases y with
  |byt j=>obtain⟨t',rfl⟩:=ry;exact PySem.W.eq_bytes (bx I q vT)
  |_=>exact absurd (show false=true from hs) Lb
 |_=>cases y <;> exact absurd (show false=true from hs) Lb
def Iw:fZ X (compareOp .NotEq) rNe:=by
 intro pins s σ H x y v u Q I rx ry h
 obtain⟨hs,q⟩:=h
 cases x with
 |non =>
  cases rx
  cases y with
  |non=>cases ry;exact PySem.EqNone.ne_none_none (bx I q (by simp))
  |bl j=>cases ry;exact PySem.EqNone.ne_none_bool (bx I q (by simp))
  |int j=>obtain⟨t',rfl⟩:=ry;exact PySem.EqNone.ne_none_int (bx I q (by simp))
  |str j=>obtain⟨t',rfl⟩:=ry;exact PySem.EqNone.ne_none_str (bx I q (by simp))
  |_=>exact absurd (show false=true from hs) Lb
 |bl i =>
  cases rx
  cases y with
  |non=>cases ry;exact PySem.EqNone.ne_bool_none (bx I q (by simp))
  |bl j=>cases ry;exact ne_bool (bx I q (LZ not BJ))
  |str j=>obtain⟨t',rfl⟩:=ry;exact PySem.EqMixed.ne_bool_str (bx I q (by simp))
  |_=>exact absurd (show false=true from hs) Lb
 |int i =>
  obtain⟨t,rfl⟩:=rx
  cases y with
  |non=>cases ry;exact PySem.EqNone.ne_int_none (bx I q (by simp))
  |int j=>obtain⟨t',rfl⟩:=ry;exact ne_int (bx I q (LZ not wZ))
  |str j=>obtain⟨t',rfl⟩:=ry;exact PySem.EqMixed.ne_int_str (bx I q (by simp))
  |_=>exact absurd (show false=true from hs) Lb
 |str i =>
  obtain⟨t,rfl⟩:=rx
  cases y with
  |non=>cases ry;exact PySem.EqNone.ne_str_none (bx I q (by simp))
  |bl j=>cases ry;exact PySem.EqMixed.ne_str_bool (bx I q (by simp))
  |int j=>obtain⟨t',rfl⟩:=ry;exact PySem.EqMixed.ne_str_int (bx I q (by simp))
  |str j=>obtain⟨t',rfl⟩:=ry;exact ne_str (bx I q (LZ not vN))
  |_=>exact absurd (show false=true from hs) Lb
 |byt i =>
  obtain⟨t,rfl⟩:=rx
  cases y with
  |byt j=>obtain⟨t',rfl⟩:=ry;exact PySem.W.ne_bytes (bx I q (LZ not vT))
  |_=>exact absurd (show false=true from hs) Lb
 |_=>cases y <;> exact absurd (show false=true from hs) Lb
def xa:fZ X (compareOp .Lt) (BR λi j=>.bl (decide (i<j))):=Ft λ_ _ _ _ _ _ _ q=>lt_int q
def mY:fZ X (compareOp .LtE) (BR λi j=>.bl (decide (i<=j))):=Ft λ_ _ _ _ _ _ _ q=>le_int q
def AD:fZ X (compareOp .Gt) (BR λi j=>.bl (decide (j<i))):=Ft λ_ _ _ _ _ _ _ q=>gt_int q
def yK:fZ X (compareOp .In) (λx y H Q=>∃i j,x=.str i/\y=.str j/\Q (.bl (!(Builtin.Str.occurrences j i 0 j.length 1).isEmpty)) H):=by
 intro pins s σ H x y v u Q I rx ry h
 obtain⟨i,j,rfl,rfl,q⟩:=h
 obtain⟨t,rfl⟩:=rx
 obtain⟨t',rfl⟩:=ry
 exact in_str (bx I q rfl)
def FT:fZ X (compareOp .Is) (λx y H Q=>y=.non/\Q (.bl (decide (x=.non))) H):=by
 intro pins s σ H x y v u Q I rx ry h
 obtain⟨rfl,q⟩:=h
 cases ry
 refine is_none_gen (bx I q ?_)
 cases x <;> first
  |(cases rx;rfl)
  |(obtain⟨t,rfl⟩:=rx;rfl)
def lB:fZ X (compareOp .IsNot) (λx y H Q=>y=.non/\Q (.bl (!decide (x=.non))) H):=by
 intro pins s σ H x y v u Q I rx ry h
 obtain⟨rfl,q⟩:=h
 cases ry
 refine isnot_none_gen (bx I q ?_)
 cases x <;> first
  |(cases rx;rfl)
  |(obtain⟨t,rfl⟩:=rx;rfl)
def bC(b:Expr){op:CmpOp}(h:op≠.In:=by decide)(h2:op≠.NotIn:=by decide):behindInMarks op b=false:=by
 have e1:(op==CmpOp.In)=false:=by cases op <;> first|rfl|exact absurd rfl h
 have e2:(op==CmpOp.NotIn)=false:=by cases op <;> first|rfl|exact absurd rfl h2
 cases b <;> simp[behindInMarks,e1,e2]
def de{op:CmpOp}{r:R2}(ho:fZ X (compareOp op) r)(ha:PE X a ta)(hb:PE X b tb)(hm:behindInMarks op b=false):PE X (.Compare a [op] [b] pos) (Jj r ta tb):=by
 intro pins s σ H Q I h
 exact wpAny_Compare1 (Fz ha hb I h λv u s2 x y H2 I2 rx ry q=>ho pins s2 σ H2 x y v u Q I2 rx ry q) hm
def Ez(t:TE):TT:=λσ H Q=>t σ H λx H'=>∃k,x=.bl k/\Q k H'
def a8{op:CmpOp}{r:R2}(ho:fZ X (compareOp op) r)(ha:PE X a ta)(hb:PE X b tb)(hm:behindInMarks op b=false):PT X (.Compare a [op] [b] pos) (Ez (Jj r ta tb)):=by
 intro pins s σ H Q I h
 refine wpAny_isTrue_Compare1 (cc (ha pins s σ H _ I h) λv s1 ⟨x,H1,I1,r1,q1⟩=>cc (hb pins s1 σ H1 _ I1 q1) λu s2 ⟨y,H2,I2,r2,q2⟩ =>
  cc (ho pins s2 σ H2 x y v u _ I2 r1 r2 q2) λc s3 ⟨z,H3,I3,r3,k,e,q3⟩=>?_) hm
 subst e
 cases r3
 exact LU ⟨H3,I3,q3⟩
def Aj(r r':R2)(ta tb tc:TE):TE:=λσ H Q=>ta σ H λx H1=>tb σ H1 λy H2=>r x y H2 λz H3=>∃k,z=.bl k /\
 (if k=true then tc σ H3 λw' H4=>r' y w' H4 Q else Q (.bl false) H3)
def zV{op op':CmpOp}{r r':R2}(ho:fZ X (compareOp op) r)(ho':fZ X (compareOp op') r')(ha:PE X a ta)(hb:PE X b tb)(hc:PE X c tc)
  (hm:lastMarks [op,op'] [b,c]=false:=by with_unfolding_all rfl):PE X (.Compare a [op,op'] [b,c] pos) (Aj r r' ta tb tc):=by
 intro pins s σ H Q I h
 refine Compare_chain (cc (ha pins s σ H _ I h) λv s1 ⟨x,H1,I1,r1,q1⟩=>chain_link (cc (hb pins s1 σ H1 _ I1 q1) λu s2 ⟨y,H2,I2,r2,q2⟩ =>
  cc (ho pins s2 σ H2 x y v u _ I2 r1 r2 q2) λd s3 ⟨z,H3,I3,r3,k,e,q3⟩=>?_)) hm
 subst e
 cases r3
 refine LU ?_
 cases k with
 |false=>exact ite_ff ⟨.bl false,H3,I3,rfl,q3⟩
 |true=>exact ite_tt (chain_last (cc (hc pins s3 σ H3 _ I3 q3) λw' s4 ⟨z',H4,I4,r4,q4⟩=>ho' pins s4 σ H4 y z' u w' Q I4 r2 r4 q4))
def tQ{op op':CmpOp}{r r':R2}(ho:fZ X (compareOp op) r)(ho':fZ X (compareOp op') r')(ha:PE X a ta)(hb:PE X b tb)(hc:PE X c tc)
  (hm:lastMarks [op,op'] [b,c]=false:=by with_unfolding_all rfl):PT X (.Compare a [op,op'] [b,c] pos) (Ez (Aj r r' ta tb tc)):=by
 intro pins s σ H Q I h
 refine isTrue_chain (cc (ha pins s σ H _ I h) λv s1 ⟨x,H1,I1,r1,q1⟩=>test_link (cc (hb pins s1 σ H1 _ I1 q1) λu s2 ⟨y,H2,I2,r2,q2⟩ =>
  cc (ho pins s2 σ H2 x y v u _ I2 r1 r2 q2) λd s3 ⟨z,H3,I3,r3,k,e,q3⟩=>?_)) hm
 subst e
 cases r3
 refine LU ?_
 cases k with
 |false =>
  obtain⟨k',e',q'⟩:=q3
  cases e'
  exact ite_ff ⟨H3,I3,q'⟩
 |true =>
  refine ite_tt (test_last (cc (hc pins s3 σ H3 _ I3 q3) λw' s4 ⟨z',H4,I4,r4,q4⟩=>cc (ho' pins s4 σ H4 y z' u w' _ I4 r2 r4 q4) λd' s5 hZ=>?_))
  obtain⟨z2,H5,I5,r5,k2,e2,q5⟩:=hZ
  subst e2
  cases r5
  exact LU ⟨H5,I5,q5⟩
def Ht(K:PySem.W.Frag)(x:V)(H:Hp)(k:Bool):Prop :=
 match x with
 |.non=>k=false
 |.bl b=>k=b
 |.int i=>k=(i != 0)
 |.str y=>y.length<=sizeLine/\k=((y.length:Int) != 0)
 |.byt y=>y.size<=sizeLine/\k=((y.size:Int) != 0)
 |.ref p=>(∃xs,aA K H p xs/\k = !xs.isEmpty)\/(∃xs,bX K H p xs/\k = !xs.isEmpty)\/∃kvs,H p=some (.dK kvs)/\k = !kvs.isEmpty
 |_=>False
def um{κ:Type}{kvs:List (κ×V)}{vs:List (κ×Value)}(r:KV kvs vs):(!vs.isEmpty) = !kvs.isEmpty:=by
 cases r <;> rfl
def lM{xs:List V}{its:List Value}(r:Vals xs its):(!its.toArray.isEmpty) = !xs.isEmpty:=by
 cases r <;> simp
def kj:(sizeLine:Nat)<2 ^ 63:=by rw[LF];decide
def Fe:JW X (λx H Q=>∃k,Ht X.K x H k/\Q k H):=by
 intro pins s σ H x v Q I rx h
 obtain⟨k,e,q⟩:=h
 have hl:=kj
 have hs:sizeLine=16777216:=LF
 cases x with
 |non =>
  cases rx
  have e':k=false:=e
  subst e'
  exact truthy_none ⟨H,I,q⟩
 |bl b =>
  cases rx
  have e':k=b:=e
  subst e'
  exact LU ⟨H,I,q⟩
 |int i =>
  obtain⟨t,rfl⟩:=rx
  have e':k=(i != 0):=e
  subst e'
  exact PySem.P.truthy_int ⟨H,I,q⟩
 |str y =>
  obtain⟨t,rfl⟩:=rx
  obtain⟨hy,e'⟩:y.length<=sizeLine/\k=((y.length:Int) != 0):=e
  subst e'
  exact PySem.P.truthy_str (by lia) ⟨H,I.tok _,q⟩
 |byt y =>
  obtain⟨t,rfl⟩:=rx
  obtain⟨hy,e'⟩:y.size<=sizeLine/\k=((y.size:Int) != 0):=e
  subst e'
  exact PySem.W.truthy_bytes (by lia) ⟨H,I.tok _,q⟩
 |ref p =>
  cases rx
  have e':(∃xs,aA X.K H p xs/\k = !xs.isEmpty)\/(∃xs,bX X.K H p xs/\k = !xs.isEmpty)\/∃kvs,H p=some (.dK kvs)/\k = !kvs.isEmpty:=e
  rcases e' with⟨xs,hx,e'⟩|⟨xs,hx,e'⟩|⟨kvs,hx,e'⟩
  ·subst e'
   obtain⟨its,r,pl,hz⟩:=I.list hx
   have hlen:=r.length
   exact wpAny_truthy_list pl.isList (by simp only[K8];lia) ⟨H,I.tok _,by rw[lM r];exact q⟩
  ·subst e'
   obtain⟨its,r,pl,hz⟩:=I.tuple hx
   have hlen:=r.length
   exact truthy_tuple pl (by simp only[K8];lia) ⟨H,I.tok _,by rw[lM r];exact q⟩
  ·subst e'
   obtain⟨hz,hS,vs,r,m⟩:kvs.length<=sizeLine/\(p==sysModules)=false/\∃vs,KV kvs vs/\s.heap.DictOf (aR X.prog X.w) p vs:=I.hok p _ hx
   have hlen:kvs.length=vs.length:=KZ r
   exact wpAny_truthy_dict hS m (by lia) ⟨H,I.tok _,by rw[um r];exact q⟩
 |_=>exact(show False from e).elim
def sY(ha:PE X a ta)(he:∀whole,isTrue a X.env whole=(do let v <-whole;standAt a.pos;holding [v] (truthy v))) :
  PT X a (λσ H Q=>ta σ H λx H'=>∃k,Ht X.K x H' k/\Q k H'):=by
 intro pins s σ H Q I h
 exact isTrue_plain (cc (ha pins s σ H _ I h) λv s1 ⟨x,H1,I1,r1,q1⟩=>Fe pins s1 σ H1 x v Q I1 r1 q1) (he _)
def vn:fZ X (binaryOp .Add) (λx y H Q=>∃i j,x=.str i/\y=.str j/\i.length+j.length<=sizeLine/\Q (.str (i++j)) H):=by
 intro pins s σ H x y v u Q I rx ry h
 obtain⟨i,j,rfl,rfl,hz,q⟩:=h
 obtain⟨t,rfl⟩:=rx
 obtain⟨t',rfl⟩:=ry
 exact add_str (λt' tk=>⟨.str (i++j),H,I.tok _,⟨_,rfl⟩,q⟩) hz
def vals1{x:V}{us:List Value}(r:Vals [x] us):∃u,us=[u]/\RelV x u:=by
 cases r with
 |cons r1 r2=>cases r2;exact⟨_,rfl,r1⟩
def vals2{x y:V}{us:List Value}(r:Vals [x,y] us):∃u w',us=[u,w']/\RelV x u/\RelV y w':=by
 cases r with
 |cons r1 r2 =>
  cases r2 with
  |cons r3 r4=>cases r4;exact⟨_,_,rfl,r1,r3⟩
def yH(hc:X.calm=true):dS X (.builtin "min") (λxs H Q=>∃i j,xs=[.int i,.int j]/\Q (.int (if j<i then j else i)) H):=by
 intro pins s σ H xs us Q I r h
 obtain⟨i,j,rfl,q⟩:=h
 obtain⟨u,w',rfl,⟨t,rfl⟩,⟨t',rfl⟩⟩:=vals2 r
 refine min_two_ints (I.ok.hd hc) λh' tk k=>⟨_,H,I.kept k,?_,q⟩
 by_cases hj:j<i
 ·rw[KP hj,KP hj];exact⟨_,rfl⟩
 ·rw[KD hj,KD hj];exact⟨_,rfl⟩
def FU(K:PySem.W.Frag)(x:V)(H:Hp)(n:Nat):Prop :=
 match x with
 |.str y=>y.length<=sizeLine/\n=y.length
 |.byt y=>y.size<=sizeLine/\n=y.size
 |.ref p=>(∃xs,aA K H p xs/\n=xs.length)\/∃xs,bX K H p xs/\n=xs.length
 |_=>False
def aY:dS X (.builtin "len") (λxs H Q=>∃x n,xs=[x]/\FU X.K x H n/\Q (.int n) H):=by
 intro pins s σ H xs us Q I r h
 obtain⟨x,n,rfl,e,q⟩:=h
 obtain⟨u,rfl,rx⟩:=vals1 r
 have hl:=kj
 have hs:sizeLine=16777216:=LF
 cases x with
 |str y =>
  obtain⟨t,rfl⟩:=rx
  obtain⟨hy,e'⟩:y.length<=sizeLine/\n=y.length:=e
  subst e'
  exact len_str (by lia) ⟨.int _,H,I.tok _,⟨_,rfl⟩,q⟩
 |byt y =>
  obtain⟨t,rfl⟩:=rx
  obtain⟨hy,e'⟩:y.size<=sizeLine/\n=y.size:=e
  subst e'
  exact PySem.W.len_bytes (by lia) ⟨.int _,H,I.tok _,⟨_,rfl⟩,q⟩
 |ref p =>
  cases rx
  have e':(∃xs,aA X.K H p xs/\n=xs.length)\/∃xs,bX X.K H p xs/\n=xs.length:=e
  rcases e' with⟨xs,hx,e'⟩|⟨xs,hx,e'⟩
  ·subst e'
   obtain⟨its,r',pl,hz⟩:=I.list hx
   have hlen:=r'.length
   exact Calls.call_len_list pl.isList (by simp only[K8];lia) ⟨.int xs.length,H,I.tok _,⟨_,by simp only[K8];rw[hlen]⟩,q⟩
  ·subst e'
   obtain⟨its,r',pl,hz⟩:=I.tuple hx
   have hlen:=r'.length
   exact len_tuple pl (by simp only[K8];lia) ⟨.int xs.length,H,I.tok _,⟨_,by simp only[K8];rw[hlen]⟩,q⟩
 |_=>exact(show False from e).elim
end
end L2
namespace L2
open PySem PySem.Spec PyProof.Rows
structure uQ(h:Heap)(x dx C:Addr)(mA:Str->Option Value):Prop where
 obj:h.get? x=some (PySem.W.instObj C dx)
 ns:h.Ns1 dx mA
 ne:dx≠x
def yL{h:Heap}{dx:Addr}{mA:Str->Option Value}(n:h.Ns1 dx mA):∃od,h.get? dx=some od/\∀name,PySem.W.lookIn name od=some (mA name):=by
 obtain⟨o,es,ep,ho,hd,hk,_,hm⟩:=n
 refine⟨o,ho,λname=>?_⟩
 have e:=hm name
 unfold nsFind findBy at e
 rw[<-Array.find?_toList]at e
 unfold PySem.W.lookIn
 rw[hd]
 dsimp only
 split
 ·rename_i y q
  rw[q]at e
  exact LZ some e
 ·rename_i q
  rw[q]at e
  have a:es.toList.any (·.refKey)=false:=by
   rw[Pd]
   intro y hy
   obtain⟨z,t,hkey⟩:=hk y (Array.mem_toList_iff.mp hy)
   simp[DictEntry.refKey,hkey]
  have a':¬es.toList.any (·.refKey)=true:=by rw[a];exact Lb
  rw[KD a']
  exact LZ some e
def uQ.look{h:Heap}{x dx C:Addr}{mA:Str->Option Value}(I:uQ h x dx C mA):∃od,PySem.W.InstAt h x (PySem.W.instObj C dx) C (some od)/\∀name,PySem.W.lookIn name od=some (mA name) :=
 let ⟨od,ho,hl⟩:=yL I.ns
 ⟨od,⟨I.obj,rfl,rfl,ho⟩,hl⟩
section
variable {prog:Program}{w:World}{A:Around}{E:Value->Shared->Prop}{s:Shared}{K:PySem.W.Frag}{x dx C f:Addr}{mA:Str->Option Value}{name:Str}{v:Value}
def get_map{expr:Bool}{Q:Value->Shared->Prop}(X:K.In s.heap)(I:uQ s.heap x dx C mA)(hg:PySem.W.plainGet K C name=true)(hh:PySem.W.hasDictIn K C=true)
  (ha:PySem.W.findIn K (.ref C) name=some none) (hv:mA name=some v) (hv':PySem.W.handedIn v=true) (h:Q v { s with toks:=s.toks+1 }) :
  wpAny (model prog w) A (getAttr (.ref x) name expr) Q E s:=by
 obtain⟨od,J,hl⟩:=I.look
 exact PySem.W.get_value X J (OS hg).1 (PySem.W.findObj_own hh ha rfl (by rw[hl,hv])) hv' h
def Bp{pl:Sem Bool}{Q:Value×List Value->Shared->Prop}(X:K.In s.heap)(I:uQ s.heap x dx C mA)(hg:PySem.W.plainGet K C name=true)
  (hf:PySem.W.findIn K (.ref C) name=some (some (.ref f))) (ht:PySem.W.isFn K (.ref f)=true) (hv:mA name=none) (h:Q (.ref f,[.ref x]) s) :
  wpAny (model prog w) A (getMethod (.ref x) name pl) Q E s:=by
 obtain⟨od,J,hl⟩:=I.look
 exact PySem.W.method_fn X J (OS hg).1 (OS hg).2 hf (ML.mp ht) (by show(PySem.W.lookIn name od).map (·.isSome)=some false;rw[hl,hv];rfl) h
def qe{ns:List Str}{Q:Unit->Shared->Prop}(X:K.In s.heap)(I:uQ s.heap x dx C mA)
  (hs:PySem.W.findIn K (.ref C) "__setattr__"=some (some (.builtin "object.__setattr__"))) (hp:PySem.W.plainOver K C=true) (ht:PySem.W.takerIn K C name=some none) (hh:PySem.W.hasDictIn K C=true)
  (hw:PySem.Within mA ns) (hsz:ns.length<=sizeLine)
  (h:∀h',uQ h' x dx C (λy=>if y=name then some v else mA y)->Heap.SameBut dx s.heap h'->Q () { s with heap:=h',toks:=s.toks+2 }) :
  wpAny (model prog w) A (setAttr (.ref x) name v) Q E s:=by
 obtain⟨od,J,hl⟩:=I.look
 refine PySem.W.set_plain X J hs (PySem.W.osa_open (s:={ s with toks:=s.toks+1 }) (r:=none) X J hp ht λb=>?_)
 obtain⟨cd,hc,hd'⟩:=PySem.W.any_some hh
 have hx:s.heap.get? x=some ⟨.ref C,some dx,.plain,#[]⟩:=I.obj
 refine Kv (Kz (Kv (Kv (wpAny_loadPart hx (Kv (PySem.W.Looks.here (s:={ s with toks:=s.toks+1 }) (PySem.W.looks_clsIn X hc) ?_))))))
 rw[hd']
 refine Kz (a:=some dx) (Kv (Kz (Kv ?_)))
 refine wpAny_nsSet1 (s:={ s with toks:=s.toks+1 }) I.ns λh' hn2 hs2=>?_
 obtain⟨oD,esD,epD,hoD,hdD,hcD⟩:=hn2.count (PySem.Within.cons name v hw)
 refine Kv (wpAny_lookBehind hoD (by rw[hdD];exact pastItsLine_dict (Lh hcD (by rw[Lj];lia))) ?_)
 exact Kz (h _ ⟨(hs2.2 _ (Li I.ne)).trans I.obj,hn2,I.ne⟩ hs2)
def Bd{R:Result->Shared->Prop}{vs:List Value}{kw:List (Str×Value)}(X:K.In s.heap)(hm:PySem.W.makesIn K C=true)
  (hi:PySem.W.findIn K (.ref C) "__init__"=some (some (.ref f))) (hf:PySem.W.typeIn K (.ref f)=some (.type "function"))
  (h:codeAny (model prog w) (A.under (.builtin "type.__call__" ⟨.ref C :: vs,kw⟩)) (.call (.ref f) ⟨.ref (s.heap.objs.size + 1) :: vs,kw⟩) (PySem.W.InitBack (s.heap.objs.size + 1) R)
   { s with heap:=(s.heap.push PySem.W.emptyDict).push (PySem.W.instObj C s.heap.objs.size) }) :
  codeAny (model prog w) A (.call (.ref C) ⟨vs,kw⟩) R s:=by
 obtain⟨hh,g,d,t,os⟩:=s
 exact PySem.W.make_core (PySem.W.makes_of X hm) (PySem.W.looks_findIn X hi) (λself=>PySem.W.bind_fn X self hf) (.inl rfl) h
end
def bh(f:Str)(v:V):List (Str×V)->List (Str×V)
 |[]=>[(f,v)]
 |(g,x)::r=>if g=f then(g,v)::r else(g,x)::bh f v r
theorem av(f g:Str)(v:V):∀fs:List (Str×V),(bh f v fs).lookup g=if g=f then some v else fs.lookup g
 |[]=>by
  show List.lookup g [(f,v)]=_
  by_cases h:g=f
  ·have hb:(g==f)=true:=ML.mpr h
   simp only[List.lookup,hb,KP h]
  ·have hb:(g==f)=false:=Me.mpr h
   simp only[List.lookup,hb,KD h]
 |(k,x)::r=>by
  have ih:=av f g v r
  rw[show bh f v ((k,x)::r)=(if k=f then(k,v)::r else(k,x)::bh f v r) from rfl]
  by_cases hk:k=f
  ·rw[KP hk]
   by_cases h:g=k
   ·have hb:(g==k)=true:=ML.mpr h
    simp only[List.lookup,hb,KP (h.trans hk)]
   ·have hb:(g==k)=false:=Me.mpr h
    simp only[List.lookup,hb,KD (λe:g=f=>h (e.trans hk.symm))]
  ·rw[KD hk]
   by_cases h:g=k
   ·have hb:(g==k)=true:=ML.mpr h
    simp only[List.lookup,hb,KD (λe:g=f=>hk (h.symm.trans e))]
   ·have hb:(g==k)=false:=Me.mpr h
    simp only[List.lookup,hb]
    exact ih
theorem jZ(f:Str)(v:V):∀fs:List (Str×V),f∈(bh f v fs).map (·.1)/\∀g,g∈fs.map (·.1)->g∈(bh f v fs).map (·.1)
 |[]=>⟨by simp[bh],λg h=>by simp at h⟩
 |(k,x)::r=>by
  obtain⟨i1,i2⟩:=jZ f v r
  rw[show bh f v ((k,x)::r)=(if k=f then(k,v)::r else(k,x)::bh f v r) from rfl]
  by_cases hk:k=f
  ·rw[KP hk]
   subst hk
   exact⟨by simp,λg h=>by simpa using h⟩
  ·rw[KD hk]
   refine⟨?_,λg h=>?_⟩
   ·rw[LK]
    exact K6 _ i1
   ·rw[LK]at h ⊢
    rcases KR.mp h with e|e
    ·exact KR.mpr (.inl e)
    ·exact K6 _ (i2 g e)
theorem kF(f:Str)(v:V):∀fs:List (Str×V),(bh f v fs).length<=fs.length+1
 |[]=>by simp[bh]
 |(k,x)::r=>by
  have ih:=kF f v r
  rw[show bh f v ((k,x)::r)=(if k=f then(k,v)::r else(k,x)::bh f v r) from rfl]
  by_cases hk:k=f
  ·rw[KP hk,Lj,Lj];lia
  ·rw[KD hk,Lj,Lj];lia
def iP.some_of{v:V}{o:Option Value}(r:iP (some v) o):∃u,o=some u/\RelV v u:=by
 cases o with
 |none=>exact(show False from r).elim
 |some u=>exact⟨u,rfl,r⟩
def iP.none_of{o:Option Value}(r:iP none o):o=none:=by
 cases o with
 |none=>rfl
 |some u=>exact(show False from r).elim
def y8{v:V}{u:Value}(r:RelV v u):PySem.W.handedIn u=true:=by
 cases v with
 |non=>cases (show u=Value.none from r);rfl
 |bl b=>cases (show u=Value.bool b from r);rfl
 |int i=>obtain⟨t,e⟩:=(show ∃t,u=Value.int i t from r);cases e;rfl
 |str x=>obtain⟨t,e⟩:=(show ∃t,u=Value.str x t from r);cases e;rfl
 |byt b=>obtain⟨t,e⟩:=(show ∃t,u=Value.bytes b t from r);cases e;rfl
 |flt b=>obtain⟨t,e⟩:=(show ∃t,u=Value.float b t from r);cases e;rfl
 |ref a=>cases (show u=Value.ref a from r);rfl
 |ty n=>cases (show u=Value.type n from r);rfl
section
variable {P:Program}{w:World}{H H':Hp}{h h':Heap}{a C dx:Addr}{fs fs':List (Str×V)}
def lu(hok:ja P w H h)(e:H a=some (.ins C dx fs)):∃mA,uQ h a dx C mA/\(∀f,iP (fs.lookup f) (mA f))/\PySem.Within mA (fs.map (·.1))/\fs.length<=1000/\H dx=some (.own a):=by
 obtain⟨d,z,ne,ob,mA,n,r,q⟩:=(show bU P w H h a (.ins C dx fs) from hok a _ e)
 exact⟨mA,⟨ob,n,ne⟩,r,q,z,d⟩
end
structure zf(K:PySem.W.Frag)(C:Addr):Prop where
 pg:PySem.W.plainGet K C Str.empty=true
 hd:PySem.W.hasDictIn K C=true
 po:PySem.W.plainOver K C=true
 sa:PySem.W.findIn K (.ref C) "__setattr__"=some (some (.builtin "object.__setattr__"))
def zf.get{K:PySem.W.Frag}{C:Addr}(c:zf K C)(f:Str):PySem.W.plainGet K C f=true:=c.pg
def cP(K:PySem.W.Frag)(C:Addr)(f:Str):Prop:=PySem.W.findIn K (.ref C) f=some none
def cP.Im{K:PySem.W.Frag}{C:Addr}{f:Str}(n:cP K C f):PySem.W.takerIn K C f=some none:=by
 unfold PySem.W.takerIn
 rw[show PySem.W.findIn K (.ref C) f=some none from n]
 rfl
structure Con(K:PySem.W.Frag)(C:Addr)(f:Str)(v:V)(u:Value):Prop where
 at_:PySem.W.findIn K (.ref C) f=some (some u)
 rel:RelV v u
 get:PySem.W.specialIn K u "__get__"=some none
 cp:PySem.W.copiedNames.contains f=false
structure Meth(K:PySem.W.Frag)(C:Addr)(m:Str)(f:Addr):Prop where
 at_:PySem.W.findIn K (.ref C) m=some (some (.ref f))
 fn:PySem.W.isFn K (.ref f)=true
 kp:PySem.W.keepIn K (.ref f)=true
section
variable {X:Cx}{pins:List (Addr×Obj)}{σ:St}{H:Hp}{s:Shared}{a C dx:Addr}{fs:List (Str×V)}{f:Str}{v:V}{A:Around}{E:Value->Shared->Prop}
def uy{b:Bool}{Q:Value->Shared->Prop}(I:Inv X pins σ H s)(e:H a=some (.ins C dx fs))(c:zf X.K C)(n:cP X.K C f)(l:fs.lookup f=some v)
  (h:∀u s',Inv X pins σ H s'->RelV v u->Q u s'):wpAny (model X.prog X.w) A (getAttr (.ref a) f b) Q E s:=by
 obtain⟨mA,O,r,_,_,_⟩:=lu I.hok e
 obtain⟨u,hu,ru⟩:=iP.some_of (v:=v) (o:=mA f) (by rw[<-l];exact r f)
 exact get_map I.kP O (c.get f) c.hd n hu (y8 ru) (h u _ (I.tok _) ru)
def mP{m:Str}{g:Addr}{pl:Sem Bool}{Q:Value×List Value->Shared->Prop}(I:Inv X pins σ H s)(e:H a=some (.ins C dx fs))(c:zf X.K C)(k:Meth X.K C m g)(l:fs.lookup m=none)
  (h:Q (.ref g,[.ref a]) s):wpAny (model X.prog X.w) A (getMethod (.ref a) m pl) Q E s:=by
 obtain⟨mA,O,r,_,_,_⟩:=lu I.hok e
 have hn:mA m=none:=iP.none_of (by rw[<-l];exact r m)
 exact Bp I.kP O (c.get m) k.at_ k.fn hn h
def vx{y:V}{u:Value}{Q:Unit->Shared->Prop}(I:Inv X pins σ H s)(e:H a=some (.ins C dx fs))(c:zf X.K C)(n:cP X.K C f)(hl:fs.length<1000)(ry:RelV y u)
  (h:∀s',Inv X pins σ (upd H a (.ins C dx (bh f y fs))) s'->Q () s'):wpAny (model X.prog X.w) A (setAttr (.ref a) f u) Q E s:=by
 obtain⟨mA,O,r,wi,_,ho⟩:=lu I.hok e
 have hz:(fs.map (·.1)).length<=sizeLine:=by rw[Kw,LF];lia
 refine qe I.kP O c.sa c.po n.Im c.hd wi hz λh' O' sb=>h _ ?_
 have hd:∃o,h'.get? dx=some o:=let ⟨o,_,_,e',_⟩:=O'.ns;⟨o,e'⟩
 refine I.write (x:=a) (e:=dx) (by rw[e];exact True.intro) (.inr ho) (λb q hb z=>(sb.2 b hb).trans z) hd ?_
 refine⟨by rw[ah O.ne];exact ho,?_,O.ne,O'.obj,_,O'.ns,λg=>?_,λg hg=>?_⟩
 ·have:=kF f y fs;lia
 ·show iP ((bh f y fs).lookup g) (if g=f then some u else mA g)
  rw[av]
  by_cases q:g=f
  ·rw[KP q,KP q];exact ry
  ·rw[KD q,KD q];exact r g
 ·by_cases q:g=f
  ·rw[q];exact(jZ f y fs).1
  ·refine(jZ f y fs).2 g (wi g λz=>hg ?_)
   show(if g=f then some u else mA g)=none
   rw[KD q];exact z
def Inv.made(I:Inv X pins σ H s):Inv X pins σ (upd (upd H s.heap.objs.size (.own (s.heap.objs.size+1))) (s.heap.objs.size+1) (.ins C s.heap.objs.size []))
  { s with heap:=(s.heap.push PySem.W.emptyDict).push (PySem.W.instObj C s.heap.objs.size) }:=by
 have e1:(s.heap.push PySem.W.emptyDict).get? s.heap.objs.size=some PySem.W.emptyDict:=KY s.heap rfl
 have e2:((s.heap.push PySem.W.emptyDict).push (PySem.W.instObj C s.heap.objs.size)).get? (s.heap.objs.size+1)=some (PySem.W.instObj C s.heap.objs.size):=by
  have:=KY (s.heap.push PySem.W.emptyDict) (o:=PySem.W.instObj C s.heap.objs.size) rfl
  rwa[Mm]at this
 have e3:(s.heap.push PySem.W.emptyDict).Ns s.heap.objs.size (λ_=>none):=⟨PySem.W.emptyDict,#[],_,e1,rfl,(λe he=>absurd he (by simp)),λ_=>rfl⟩
 have I1:=I.laid (a:=s.heap.objs.size) (o:=.own (s.heap.objs.size+1)) (h':=s.heap.push PySem.W.emptyDict) (t':=s.toks) (λb u q=>Ky _ q) (KL _) ⟨_,e1⟩
 refine I1.laid (a:=s.heap.objs.size+1) (o:=.ins C s.heap.objs.size []) (t':=s.toks) (λb u q=>Ky _ q) (Pj (Mm _ _)) ?_
 have ne:s.heap.objs.size≠s.heap.objs.size+1:=K5 (Mc _)
 refine⟨by rw[ah ne,ag],K2 _,ne,e2,λ_=>none,(Heap.Ns1.of_empty e3).at λo q=>Ky _ q,λ_=>True.intro,λy hy=>absurd rfl hy⟩
def CO{prog:Program}{w:World}{env:Env}{e:Expr}{f:Str}{pos:Pos}{s:Shared}{Q:Value->Shared->Prop}(hb:attributeBase e f env (eval e env)=eval e env)
  (h:wpAny (model prog w) A (eval e env) (λo s₁=>wpAny (model prog w) A (getAttr o f true) Q E s₁) E s):wpAny (model prog w) A (eval (.Attribute e f pos) env) Q E s :=
 Attribute_any_ h (by rw[arm_eval_Attribute,hb])
end
def Ke(K:PySem.W.Frag)(ta:TE)(f:Str):TE:=λσ H Q=>ta σ H λx H1=>∃a C dx fs v,x=.ref a/\H1 a=some (.ins C dx fs)/\zf K C/\cP K C f/\fs.lookup f=some v/\Q v H1
def Ks(K:PySem.W.Frag)(ta tv:TE)(f:Str):TS:=λD σ H=>tv σ H λy H1=>ta σ H1 λx H2=>∃a C dx fs,x=.ref a/\H2 a=some (.ins C dx fs)/\zf K C/\cP K C f/\fs.length<1000 /\
 D.nx σ (upd H2 a (.ins C dx (bh f y fs)))
section
variable {X:Cx}{o e value:Expr}{f:Str}{pos pos' tpos:Pos}{ta tv:TE}
def aZ(he:PE X e ta)(hb:attributeBase e f X.env (eval e X.env)=eval e X.env):PE X (.Attribute e f pos) (Ke X.K ta f):=by
 intro pins s σ H Q I h
 refine CO hb (cc (he pins s σ H _ I h) λu s1 hZ=>?_)
 obtain⟨x,H1,I1,rx,a,C,dx,fs,v,ex,ea,c,n,l,q⟩:=hZ
 subst ex
 obtain rfl:u=Value.ref a:=rx
 exact uy I1 ea c n l λu' s2 I2 ru=>⟨v,H1,I2,ru,q⟩
def d0(ha:PE X o ta)(hv:PE X value tv)(hs:swapsWith value (some (.Attribute o f pos')) pos.line X.env=pure false):PS X (.Assign [.Attribute o f pos'] value pos) (Ks X.K ta tv f):=by
 intro pins s σ H D I h
 refine plainObj_wpAny_Assign_Attribute (cc (hv pins s σ H _ I h) λu s1 ⟨y,H1,I1,ry,q⟩=>cc (ha pins s1 σ H1 _ I1 q) λov s2 ⟨x,H2,I2,rx,a,C,dx,fs,ex,ea,c,n,l,q2⟩=>?_) hs
 subst ex
 obtain rfl:ov=Value.ref a:=rx
 exact vx I2 ea c n l ry λs3 I3=>⟨σ,_,I3,q2⟩
end
section
variable {X:Cx}{pins:List (Addr×Obj)}{σ:St}{H:Hp}{s:Shared}{A:Around}{E:Value->Shared->Prop}{Q:Value->Shared->Prop}{c:Value}{b:Bool}
inductive jj(K:PySem.W.Frag)(H:Hp):V->Value->Prop where
 |non:jj K H .non (.type "NoneType")
 |bl (x:Bool):jj K H (.bl x) (.type "bool")
 |int (i:Int):jj K H (.int i) (.type "int")
 |str (x:Str):jj K H (.str x) (.type "str")
 |flt (x:UInt64):jj K H (.flt x) (.type "float")
 |lst {a:Addr} {xs:List V} (e:H a=some (.lst xs)):jj K H (.ref a) (.type "list")
 |frz {a:Addr} {o:Obj} {xs:List V} (e:H a=some (.frz o (.lst xs))):jj K H (.ref a) (.type "list")
 |tup {a:Addr} {xs:List V} (e:H a=some (.tup xs)):jj K H (.ref a) (.type "tuple")
 |dK {a:Addr} {kvs:List (Key×V)} (e:H a=some (.dK kvs)):jj K H (.ref a) (.type "dict")
 |dT {a:Addr} {kvs:List (List Key×V)} (e:H a=some (.dT kvs)):jj K H (.ref a) (.type "dict")
 |ins {a C dx:Addr} {fs:List (Str×V)} (e:H a=some (.ins C dx fs)) (cl:zf K C) (ha:PySem.W.findIn K (.ref C) "__class__"=some (some (.builtin "object.__class__")))
   (hn:PySem.W.specialIn K (.builtin "object.__class__") "__get__"=some (some (.builtin "getset_descriptor.__get__"))) (htk:PySem.W.takesIn K (.builtin "object.__class__")=some true)
   (hm:PySem.W.mroIn K C (.type "object")=some true):jj K H (.ref a) (.ref C)
def yT{x:V}{u t:Value}(I:Inv X pins σ H s)(rx:RelV x u)(ty:jj X.K H x t)(e:PySem.W.kitOne X.K t c=some b)(h:∀tk,Q (.bool b) { s with toks:=tk }) :
  wpAny (model X.prog X.w) A (call (.builtin "isinstance") [u,c]) Q E s:=by
 cases ty with
 |non=>cases (show u=Value.none from rx);exact Mh PySem.W.kitx_none I.kP True.intro e (λz=>nomatch z) h
 |bl y=>cases (show u=Value.bool y from rx);exact Mh PySem.W.kitx_bool I.kP True.intro e (λz=>nomatch z) h
 |int i=>obtain⟨t,q⟩:=(show ∃t,u=Value.int i t from rx);cases q;exact Mh PySem.W.kitx_int I.kP True.intro e (λz=>nomatch z) h
 |str y=>obtain⟨t,q⟩:=(show ∃t,u=Value.str y t from rx);cases q;exact Mh PySem.W.kitx_str I.kP True.intro e (λz=>nomatch z) h
 |flt y=>obtain⟨t,q⟩:=(show ∃t,u=Value.float y t from rx);cases q;exact Mh PySem.W.kitx_float I.kP True.intro e (λz=>nomatch z) h
 |@lst a xs ea =>
  cases (show u=Value.ref a from rx)
  obtain⟨_,_,n,_,h1⟩:=(show bU X.prog X.w H s.heap a (.lst xs) from I.hok a _ ea)
  exact Mh PySem.W.kitx_list I.kP ⟨_,h1,rfl⟩ e (λz=>nomatch z) h
 |@frz a ob xs ea =>
  cases (show u=Value.ref a from rx)
  obtain⟨_,_,_,n,_,h1⟩:=(show bU X.prog X.w H s.heap a (.frz ob (.lst xs)) from I.hok a _ ea)
  exact Mh PySem.W.kitx_list I.kP ⟨_,h1,rfl⟩ e (λz=>nomatch z) h
 |@tup a xs ea =>
  cases (show u=Value.ref a from rx)
  obtain⟨_,_,_,p⟩:=(show bU X.prog X.w H s.heap a (.tup xs) from I.hok a _ ea)
  obtain⟨o,h1,h2,_⟩:=p
  exact Mh PySem.W.kitx_tuple I.kP ⟨o,h1,h2⟩ e (λz=>nomatch z) h
 |@dK a kvs ea =>
  cases (show u=Value.ref a from rx)
  obtain⟨_,_,vs,_,p⟩:=(show bU X.prog X.w H s.heap a (.dK kvs) from I.hok a _ ea)
  obtain⟨o,es,ep,h1,h2,_⟩:=p
  exact Mh PySem.W.kitx_dict I.kP ⟨o,h1,h2.1⟩ e (λz=>nomatch z) h
 |@dT a kvs ea =>
  cases (show u=Value.ref a from rx)
  obtain⟨_,_,xs,_,o,es,ep,h1,h2,_⟩:=(show bU X.prog X.w H s.heap a (.dT kvs) from I.hok a _ ea)
  exact Mh PySem.W.kitx_dict I.kP ⟨o,h1,h2.1⟩ e (λz=>nomatch z) h
 |@ins a C dx fs ea cl ha hn htk hm =>
  cases (show u=Value.ref a from rx)
  obtain⟨mA,O,_⟩:=lu I.hok ea
  obtain⟨od,J,_⟩:=O.look
  exact Mh (PySem.W.kitx_own (cl.get _) cl.hd ha hn htk hm) I.kP J e (λz=>nomatch z) h
end
end L2
namespace L2
open PySem PySem.Spec PyProof.Rows
structure cI(k:Nat)(A:Around):Prop where
 hd:A.handled=none
 dp:A.depth+3*k+5<recursionLimit
 un:A.units+16*k+200<cLine
 gd:A.guards=some []
def cI.mono{j k:Nat}{A:Around}(r:cI k A)(h:j<=k):cI j A:=⟨r.hd,by have:=r.dp;lia,by have:=r.un;lia,r.gd⟩
theorem cI.deeper{k:Nat}{A:Around}(r:cI (k+1) A)(env:Env):cI k (A.deeper env) :=
 ⟨r.hd,by have:=r.dp;show A.depth+1+3*k+5<_;lia,by have:=r.un;show A.units+3+16*k+200<_;lia,r.gd⟩
def uK{A:Around}{C:Addr}{us:List Value}{kw:List (Str×Value)}:(A.under (.builtin "type.__call__" ⟨.ref C::us,kw⟩)).depth=A.depth+1:=by
 first|rfl|simp[Around.under,Code.weight,Code.isCreation,Code.isGuard,Code.isCaller,Code.frames,Code.isFrame,guardIds]
def uD{A:Around}{C:Addr}{us:List Value}{kw:List (Str×Value)}:(A.under (.builtin "type.__call__" ⟨.ref C::us,kw⟩)).units=A.units+1:=by
 first|rfl|simp[Around.under,Code.cUnits,Code.frames,Code.isFrame]
def cI.make{k:Nat}{A:Around}(r:cI (k+1) A)(C:Addr)(us:List Value)(kw:List (Str×Value)):cI k (A.under (.builtin "type.__call__" ⟨.ref C::us,kw⟩)) :=
 ⟨r.hd,by have:=r.dp;rw[uK];lia,by have:=r.un;rw[uD];lia,by first|exact r.gd|(simp[Around.under,Code.isGuard,guardIds];exact r.gd)⟩
theorem cI.depth{k:Nat}{A:Around}(r:cI k A):A.depth<recursionLimit:=by have:=r.dp;lia
theorem cI.units{k:Nat}{A:Around}(r:cI k A):A.units+64<cLine:=by have:=r.un;lia
def cI.zQ{k:Nat}{A:Around}(r:cI k A):A.units<cLine:=by have:=r.un;lia
def Fw:TA:=λ_ H Q=>Q [] H
def ES(ta:TE)(tr:TA):TA:=λσ H Q=>ta σ H λx H1=>tr σ H1 λxs H2=>Q (x::xs) H2
section
variable {X:Cx}{e:Expr}{es:List Expr}{te:TE}{t:TA}{pos:Pos}
def ae:PA X [] Fw:=λ_ _ _ _ H Q I h=>Calls.spliced_nil ⟨[],H,I,.nil,h⟩
def aa(ha:PE X e te)(hr:PA X es t)(hs:starEach (e::es) X.env=(false,eval e X.env)::starEach es X.env:=by rfl):PA X (e::es) (ES te t):=by
 intro pos pins s σ H Q I h
 rw[hs]
 show wpAny _ _ (spliced ((false,eval e X.env)::backTo pos (starEach es X.env))) _ _ s
 refine Calls.spliced_cons (cc (ha pins s σ H _ I h) λu s1 hZ=>?_)
 obtain⟨x,H1,I1,r1,q1⟩:=hZ
 exact cc (hr pos pins s1 σ H1 _ I1 q1) λus s2 ⟨xs,H2,I2,r2,q2⟩=>⟨x::xs,H2,I2,.cons r1 r2,q2⟩
def Ju(t:TA):TE:=λσ H Q=>t σ H λxs H1=>xs.length<=sizeLine/\∀p,H1 p=none->Q (.ref p) (upd H1 p (.tup xs))
def J4(t:TA):TE:=λσ H Q=>t σ H λxs H1=>xs.length<=sizeLine/\∀p,H1 p=none->Q (.ref p) (upd H1 p (.lst xs))
def gc{x1}(h:PA X es t):PE X (.Tuple es x1 pos) (Ju t):=by
 intro pins s σ H Q I hq
 refine wpAny_Tuple_spliced (cc (h pos pins s σ H _ I hq) λus s1 ⟨xs,H1,I1,r,z,q⟩=>⟨by rw[<-r.length];exact z,?_⟩)
 have hf:H1 s1.heap.objs.size=none:=I1.hok.fresh (KL _)
 refine⟨.ref s1.heap.objs.size,upd H1 s1.heap.objs.size (.tup xs),I1.laid (t':=s1.toks) (λb u e=>Ky _ e) (KL _) ?_,rfl,q _ hf⟩
 exact⟨z,us,r,⟨_,KY _ rfl,rfl,_,rfl⟩⟩
def eQ(h:PA X es t):PE X (.List es pos) (J4 t):=by
 intro pins s σ H Q I hq
 refine wpAny_List_spliced (cc (h pos pins s σ H _ I hq) λus s1 ⟨xs,H1,I1,r,z,q⟩=>⟨by rw[<-r.length];exact z,?_⟩)
 have hf:H1 s1.heap.objs.size=none:=I1.hok.fresh (KL _)
 refine⟨.ref s1.heap.objs.size,upd H1 s1.heap.objs.size (.lst xs),I1.laid (t':=s1.toks) (λb u e=>Ky _ e) (KL _) ?_,rfl,q _ hf⟩
 exact⟨z,us,0,r,KY _ rfl⟩
end
abbrev Sp:=List V->Hp->VK->XK->Prop
abbrev zI:=List Env->Hp->Shared->XK->Value->Shared->Prop
structure tL(P:Program)(w:World)(K:PySem.W.Frag)(mg:Str->Option Value)(base:Heap)(A:Around)(outer:List Env)(s:Shared)(H:Hp):Prop where
 frames:A.frames=some outer
 mod:Mod K mg base
 bs:∀b o,base.get? b=some o->s.heap.get? b=some o/\H b=none
 bsz:base.objs.size<=s.heap.objs.size
 jJ:s.heap.FunFrames base outer
 frf:∀b∈iU outer,H b=none
 hok:ja P w H s.heap
 bare:AllBare s.gens
def CE(outer:List Env)(P:Program)(w:World)(H:Hp)(s:Shared)(Q:VK)(u:Value)(s':Shared):Prop :=
 ∃v H',s'.os=s.os/\AllBare s'.gens/\Un (iU outer) [] H H' s.heap s'.heap/\ja P w H' s'.heap/\RelV v u/\Q v H'
def CR(CX:zI)(outer:List Env)(P:Program)(w:World)(H:Hp)(s:Shared)(Q:VK)(E:XK)(r:Result)(s':Shared):Prop :=
 match r with
 |.ok (.ret u)=>CE outer P w H s Q u s'
 |.ok _=>False
 |.error e=>CX outer H s E e s'
structure a9(P:Program)(w:World)(K:PySem.W.Frag)(mg:Str->Option Value)(base:Heap)(CX:zI)(k:Nat)(f:Addr)(fd:FuncData)(ps:List Str)(sp:Sp):Prop where
 len:∀vs H Q E,sp vs H Q E->vs.length=ps.length
 run:∀(A:Around) (outer:List Env) (s:Shared) (H:Hp) (args:Args) (us:List Value) (vs:List V) (Q:VK) (E:XK),cI k A->tL P w K mg base A outer s H->BindsTo s fd args (ps.zip us)->Vals vs us->sp vs H Q E ->
  codeAny (model P w) A (.call (.ref f) args) (CR CX outer P w H s Q E) s
def tL.make{P:Program}{w:World}{K:PySem.W.Frag}{mg:Str->Option Value}{base:Heap}{A:Around}{outer:List Env}{s:Shared}{H:Hp}(e:tL P w K mg base A outer s H)(C:Addr)(us:List Value)(kw:List (Str×Value)) :
  tL P w K mg base (A.under (.builtin "type.__call__" ⟨.ref C::us,kw⟩)) outer s H:=⟨by first|exact e.frames|(simpa[Around.under,Code.envs,Code.isFrame,pushEnvs] using e.frames),e.mod,e.bs,e.bsz,e.jJ,e.frf,e.hok,e.bare⟩
section
variable {X:Cx}{pins:List (Addr×Obj)}{σ:St}{H:Hp}{s s':Shared}
def Inv.Ik(I:Inv X pins σ H s):tL X.prog X.w X.K X.mg X.base X.A X.stack s H :=
 ⟨I.ok.frames,I.ok.mod,I.bs,Lh I.ok.bsz I.sz,I.stack,I.wI,I.hok,I.bare⟩
def Inv.after{Q:VK}{u:Value}(I:Inv X pins σ H s)(h:CE X.stack X.prog X.w H s Q u s'):EP X pins σ Q u s':=by
 obtain⟨v,H',os,bare,un,hok,r,q⟩:=h
 obtain⟨hh,g,d,t,os'⟩:=s'
 obtain rfl:os'=s.os:=os
 exact⟨v,H',I.call (h':=hh) (g':=g) (d':=d) (t':=t) (ch:=[]) un hok bare (λb z=>absurd z (by simp)),r,q⟩
end
def EV(sp:Sp)(dvs:List V)(E:XK)(t:TA):TE:=λσ H Q=>t σ H λvs H1=>sp (vs++dvs) H1 Q E
def EU(C:Addr)(m:Str)(sp:Sp)(dvs:List V)(E:XK)(ta:TE)(t:TA):TE:=λσ H Q=>ta σ H λx H1=>∃a dx fs,x=.ref a/\H1 a=some (.ins C dx fs)/\fs.lookup m=none /\
 t σ H1 λvs H2=>sp (x::(vs++dvs)) H2 Q E
def HL(C:Addr)(sp:Sp)(dvs:List V)(E:XK)(t:TA):TE:=λσ H Q=>t σ H λvs H1=>∀x dx,H1 x=none->H1 dx=none->dx≠x ->
 sp (.ref x::(vs++dvs)) (upd (upd H1 dx (.own x)) x (.ins C dx [])) (λv H2=>v=.non/\Q (.ref x) H2) E
def Binds(K:PySem.W.Frag)(fd:FuncData)(ps:List Str)(ds:List Value):Prop :=
 ∀(s:Shared) (us:List Value),K.In s.heap->(us++ds).length=ps.length->BindsTo s fd ⟨us,[]⟩ (ps.zip (us++ds))
def Binds.all{K:PySem.W.Frag}{fd:FuncData}{ps:List Str}(h:∀us:List Value,us.length=ps.length->bindArgs fd ⟨us,[]⟩=pure (ps.zip us)):Binds K fd ps []:=λs us _ hl=>by
 rw[MM]at hl ⊢
 exact .of_eq (h us hl)
def Passes(CX:zI)(X:Cx)(E:XK):Prop:=∀(pins:List (Addr×Obj)) (σ:St) (H:Hp) (s:Shared) (e:Value) (s':Shared),Inv X pins σ H s->CX X.stack H s E e s'->X.xe e s'
section
variable {X:Cx}{CX:zI}{k:Nat}{f C:Addr}{fd:FuncData}{ps:List Str}{sp:Sp}{dvs:List V}{ds:List Value}{E:XK}{x m:Str}{p pos apos:Pos}{e o:Expr}{es:List Expr}{ta:TE}{t:TA}
def uH{pins:List (Addr×Obj)}{σ:St}{H:Hp}{s:Shared}{Q:VK}{us:List Value}{vs:List V}(F:a9 X.prog X.w X.K X.mg X.base CX k f fd ps sp)(hr:cI k X.A)(hb:Binds X.K fd ps ds)(hd:Vals dvs ds)(hx:Passes CX X E)
  (I:Inv X pins σ H s) (r:Vals vs us) (h:sp (vs++dvs) H Q E):wpAny (model X.prog X.w) X.A (call (.ref f) us) (EP X pins σ Q) X.xe s:=by
 have r2:Vals (vs++dvs) (us++ds):=r.append hd
 have hl:(us++ds).length=ps.length:=by rw[<-r2.length];exact F.len _ _ _ _ h
 refine wpAny_call (NG (F.run X.A X.stack s H ⟨us,[]⟩ (us++ds) (vs++dvs) Q E hr I.Ik (hb s us I.kP hl) r2 h) λr s' hq=>?_)
 cases r with
 |error e=>exact hx pins σ H s e s' I hq
 |ok fl =>
  cases fl with
  |ret u=>exact I.after hq
  |next=>exact False.elim hq
  |brk=>exact False.elim hq
  |cont=>exact False.elim hq
def dz(F:a9 X.prog X.w X.K X.mg X.base CX k f fd ps sp)(hr:cI k X.A)(hg:Gl X x)(hm:X.mg x=some (.ref f))(hk:PySem.W.keepIn X.K (.ref f)=true)(hb:Binds X.K fd ps ds)(hd:Vals dvs ds)(hx:Passes CX X E)
  (ha:PA X (e::es) t) (hdb:(x==("__debug__":Str))=false:=by decide) (he:starEach (e::es) X.env=(false,eval e X.env)::starEach es X.env:=by rfl) (hpl:(backTo pos (starEach es X.env)).any (·.1)=false:=by rfl) :
  PE X (.Call (.Name x p) (e::es) [] pos) (EV sp dvs E t):=by
 intro pins s σ H Q I h
 refine MG (pU I hg hm ?_ hdb)
 refine O3 (h₀:=X.base) I.ok.mod.kin hk (cc (ha pos pins s σ H _ I h) λus s1 ⟨vs,H1,I1,r,q⟩=>⟨I1.kP,?_⟩) he hpl
 exact uH F hr hb hd hx I1 r q
def cz{pl:Sem Bool}(he:PE X o ta)(c:zf X.K C)(hm:Meth X.K C m f)(F:a9 X.prog X.w X.K X.mg X.base CX k f fd ps sp)(hr:cI k X.A)(hb:Binds X.K fd ps ds)(hd:Vals dvs ds)(hx:Passes CX X E)(ha:PA X (e::es) t)
  (hst:starEach (e::es) X.env=(false,eval e X.env)::starEach es X.env:=by rfl) (hpl:(backTo pos (starEach es X.env)).any (·.1)=false:=by rfl)
  (ht:eval (.Call (.Attribute o m apos) (e :: es) [] pos) X.env = (do
   let ov <-eval o X.env
   standAt apos.atName
   let (f,first) <-holding [ov] (getMethod ov m pl)
   callWith pos f first (backTo pos (starEach (e::es) X.env)) (backToKw pos (keywordEach [] X.env))):=by rfl) :
  PE X (.Call (.Attribute o m apos) (e::es) [] pos) (EU C m sp dvs E ta t):=by
 intro pins s σ H Q I h
 refine Qf (pl:=pl) (cc (he pins s σ H _ I h) λu s1 ⟨x,H1,I1,rx,a,dx,fs,ex,ea,l,q⟩=>?_) ht
 subst ex
 obtain rfl:u=Value.ref a:=rx
 refine mP I1 ea c hm l ?_
 refine O3 (first:=[.ref a]) (h₀:=X.base) I.ok.mod.kin hm.kp (cc (ha pos pins s1 σ H1 _ I1 q) λus s2 ⟨vs,H2,I2,r,q2⟩=>⟨I2.kP,?_⟩) hst hpl
 exact uH (us:=.ref a::us) (vs:=.ref a::vs) F hr hb hd hx I2 (.cons rfl r) q2
def cE{pl:Sem Bool}(he:PE X o ta)(c:zf X.K C)(hm:Meth X.K C m f)(F:a9 X.prog X.w X.K X.mg X.base CX k f fd ps sp)(hr:cI k X.A)(hb:Binds X.K fd ps ds)(hd:Vals dvs ds)(hx:Passes CX X E)
  (ht:eval (.Call (.Attribute o m apos) [] [] pos) X.env = (do
   let ov <-eval o X.env
   standAt apos.atName
   let (f,first) <-holding [ov] (getMethod ov m pl)
   callWith pos f first (backTo pos (starEach [] X.env)) (backToKw pos (keywordEach [] X.env))):=by rfl) :
  PE X (.Call (.Attribute o m apos) [] [] pos) (EU C m sp dvs E ta Fw):=by
 intro pins s σ H Q I h
 refine Qf (pl:=pl) (cc (he pins s σ H _ I h) λu s1 ⟨x,H1,I1,rx,a,dx,fs,ex,ea,l,q⟩=>?_) ht
 subst ex
 obtain rfl:u=Value.ref a:=rx
 refine mP I1 ea c hm l ?_
 exact PySem.W.callWith_K0 (first:=[.ref a]) I1.kP hm.kp (uH (us:=[.ref a]) (vs:=[.ref a]) F hr hb hd hx I1 (.cons rfl .nil) q)
structure Mk(K:PySem.W.Frag)(C f:Addr):Prop where
 makes:PySem.W.makesIn K C=true
 init:PySem.W.findIn K (.ref C) "__init__"=some (some (.ref f))
 fn:PySem.W.isFn K (.ref f)=true
 kp:PySem.W.keepIn K (.ref C)=true
def zm{pins:List (Addr×Obj)}{σ:St}{H:Hp}{s:Shared}{Q:VK}{us:List Value}{vs:List V}(M:Mk X.K C f)(F:a9 X.prog X.w X.K X.mg X.base CX k f fd ps sp)(hr:cI (k+1) X.A)(hb:Binds X.K fd ps ds)(hd:Vals dvs ds)
  (hx:Passes CX X E) (I:Inv X pins σ H s) (r:Vals vs us)
  (h:∀x dx,H x=none->H dx=none->dx≠x->sp (.ref x::(vs++dvs)) (upd (upd H dx (.own x)) x (.ins C dx [])) (λv H2=>v=.non/\Q (.ref x) H2) E) :
  wpAny (model X.prog X.w) X.A (call (.ref C) us) (EP X pins σ Q) X.xe s:=by
 have hq:=h (s.heap.objs.size+1) s.heap.objs.size (I.hok.fresh (Mn _)) (I.hok.fresh (KL _)) (K5 (Mc _))
 have I2:=Inv.made (C:=C) I
 have r2:Vals (V.ref (s.heap.objs.size+1)::(vs++dvs)) (Value.ref (s.heap.objs.size+1)::(us++ds)):=.cons rfl (r.append hd)
 have hl:(Value.ref (s.heap.objs.size+1)::us++ds).length=ps.length:=by
  have e:=r2.length
  rw[F.len _ _ _ _ hq]at e
  exact e.symm
 refine wpAny_call (Bd (f:=f) I.kP M.makes M.init (ML.mp M.fn) (NG (F.run _ X.stack _ _ ⟨Value.ref (s.heap.objs.size+1)::us,[]⟩ (Value.ref (s.heap.objs.size+1)::(us++ds)) _ _ E (hr.make C us [])
  (I2.Ik.make C us []) (hb _ (Value.ref (s.heap.objs.size+1)::us) I2.kP hl) r2 hq) λr s' hq'=>?_))
 cases r with
 |error e=>exact hx pins σ _ _ e s' I2 hq'
 |ok fl =>
  cases fl with
  |ret u =>
   obtain⟨v,H',I3,rv,ev,q3⟩:=I2.after hq'
   subst ev
   exact⟨rv,⟨V.ref (s.heap.objs.size+1),H',I3,rfl,q3⟩⟩
  |next=>exact False.elim hq'
  |brk=>exact False.elim hq'
  |cont=>exact False.elim hq'
def vW(M:Mk X.K C f)(F:a9 X.prog X.w X.K X.mg X.base CX k f fd ps sp)(hr:cI (k+1) X.A)(hg:Gl X x)(hm:X.mg x=some (.ref C))(hb:Binds X.K fd ps ds)(hd:Vals dvs ds)(hx:Passes CX X E)
  (ha:PA X (e::es) t) (hdb:(x==("__debug__":Str))=false:=by decide) (he:starEach (e::es) X.env=(false,eval e X.env)::starEach es X.env:=by rfl) (hpl:(backTo pos (starEach es X.env)).any (·.1)=false:=by rfl) :
  PE X (.Call (.Name x p) (e::es) [] pos) (HL C sp dvs E t):=by
 intro pins s σ H Q I h
 refine MG (pU I hg hm ?_ hdb)
 refine O3 (h₀:=X.base) I.ok.mod.kin M.kp (cc (ha pos pins s σ H _ I h) λus s1 ⟨vs,H1,I1,r,q⟩=>⟨I1.kP,?_⟩) he hpl
 exact zm M F hr hb hd hx I1 r q
end
def PK(X:Cx)(kws:List Keyword)(t:TA):Prop :=
 ∀(pos:Pos) (pins:List (Addr×Obj)) (s:Shared) (σ:St) (H:Hp) (Q:List V->Hp->Prop),Inv X pins σ H s->t σ H Q->wpAny (model X.prog X.w) X.A (evalAll ((backToKw pos (keywordEach kws X.env)).map (·.2))) (AP X pins σ Q) X.xe s
section
variable {X:Cx}{CX:zI}{k:Nat}{f C:Addr}{fd:FuncData}{ps ks:List Str}{sp:Sp}{E:XK}{x m:Str}{p pos apos kpos:Pos}{e o:Expr}{es:List Expr}{kws:List Keyword}{te ta:TE}{t tk:TA}{nm:Option Str}
def zD:PK X [] Fw:=λ_ _ _ _ H Q I h=>wpAny_evalAll_nil ⟨[],H,I,.nil,h⟩
def wz(ha:PE X e te)(hr:PK X kws t):PK X (⟨nm,e,kpos⟩::kws) (ES te t):=by
 intro pos pins s σ H Q I h
 show wpAny _ _ (evalAll ((do let v <-eval e X.env;standAt pos;pure v)::(backToKw pos (keywordEach kws X.env)).map (·.2))) _ _ s
 refine wpAny_evalAll_cons (Kv (cc (ha pins s σ H _ I h) λu s1 ⟨x,H1,I1,r1,q1⟩=>Kv (O9 (Kz ?_))))
 exact cc (hr pos pins s1 σ H1 _ I1 q1) λus s2 ⟨xs,H2,I2,r2,q2⟩=>⟨x::xs,H2,I2,.cons r1 r2,q2⟩
structure Kp(K:PySem.W.Frag)(fd:FuncData)(ps ks:List Str)(g:List Value->List Value->List Value)(gV:List V->List V->List V):Prop where
 to:∀(s:Shared) (us ws:List Value),K.In s.heap->(g us ws).length=ps.length->BindsTo s fd ⟨us,ks.zip ws⟩ (ps.zip (g us ws))
 rel:∀{vs:List V} {us:List Value} {zs:List V} {ws:List Value},Vals vs us->Vals zs ws->Vals (gV vs zs) (g us ws)
variable {g:List Value->List Value->List Value}{gV:List V->List V->List V}
end
structure aD(N P:List Str)(sc:Scope):Prop where
 kind:sc.kind=.function
 co:sc.isCoroutine=false
 gen:sc.isGenerator=false
 nd:N.Nodup
 pre:N.take P.length=P
 par:∀x∈P,sc.names.lookup x=some .local\/sc.names.lookup x=some .cell
 nofree:∀y∈sc.names,y.2≠.free
def eA{N P:List Str}{sc:Scope}(a:sc.kind=.function:=by rfl)(b:sc.isCoroutine=false:=by rfl)(c:sc.isGenerator=false:=by rfl)(d:N.Nodup:=by decide +kernel)(e:N.take P.length=P:=by rfl)(f:∀x∈P,sc.names.lookup x=some .local\/sc.names.lookup x=some .cell:=by decide +kernel)(g:∀y∈sc.names,y.2≠.free:=by decide +kernel):aD N P sc:=⟨a,b,c,d,e,f,g⟩
theorem oU{kindOf:Str->Option NameKind}{x:Str}:∀{binds:List (Str×Value)} {m:Str->Option Value},(∀v,(x,v)∉binds)->bindL kindOf binds m x=m x
 |[],_,_=>rfl
 |(n,v)::r,m,h=>by
  unfold bindL
  rw[oU λw hw=>h w (K6 _ hw)]
  split
  ·have:x≠n:=by rintro rfl;exact h v K9
   simp[this]
  ·rfl
theorem oA{kindOf:Str->Option NameKind}{x:Str}:∀{binds:List (Str×Value)} {m:Str->Option Value},(∀v,(x,v)∉binds)->bindC kindOf binds m x=m x
 |[],_,_=>rfl
 |(n,v)::r,m,h=>by
  unfold bindC
  rw[oA λw hw=>h w (K6 _ hw)]
  split
  ·rfl
  ·have:x≠n:=by rintro rfl;exact h v K9
   simp[this]
theorem o6{kindOf:Str->Option NameKind}{x:Str}{v:Value}:∀{P:List Str} {vs:List Value} {i:Nat} {m:Str->Option Value},P.Nodup->P[i]?=some x->vs[i]?=some v->kindOf x=some .local ->
  bindL kindOf (P.zip vs) m x=some v
 |[],_,_,_,_,h,_,_=>by simp at h
 |_::_,[],_,_,_,_,h,_=>by simp at h
 |p::P,w::vs,0,m,nd,h1,h2,hk=>by
  simp at h1 h2;subst h1;subst h2
  show bindL kindOf ((p,w)::P.zip vs) m p=_
  unfold bindL
  rw[oU λv hv=>(LR.mp nd).1 (PV hv).1,KP hk]
  simp
 |p::P,w::vs,i+1,m,nd,h1,h2,hk=>by
  show bindL kindOf ((p,w)::P.zip vs) m x=_
  unfold bindL
  exact o6 (i:=i) (LR.mp nd).2 (by simpa using h1) (by simpa using h2) hk
theorem oX{kindOf:Str->Option NameKind}{x:Str}{v:Value}:∀{P:List Str} {vs:List Value} {i:Nat} {m:Str->Option Value},P.Nodup->P[i]?=some x->vs[i]?=some v->kindOf x≠some .local ->
  bindC kindOf (P.zip vs) m x=some v
 |[],_,_,_,_,h,_,_=>by simp at h
 |_::_,[],_,_,_,_,h,_=>by simp at h
 |p::P,w::vs,0,m,nd,h1,h2,hk=>by
  simp at h1 h2;subst h1;subst h2
  show bindC kindOf ((p,w)::P.zip vs) m p=_
  unfold bindC
  rw[oA λv hv=>(LR.mp nd).1 (PV hv).1,KD hk]
  simp
 |p::P,w::vs,i+1,m,nd,h1,h2,hk=>by
  show bindC kindOf ((p,w)::P.zip vs) m x=_
  unfold bindC
  exact oX (i:=i) (LR.mp nd).2 (by simpa using h1) (by simpa using h2) hk
def start(N:List Str)(vs:List V):St:=vs.map some++List.replicate (N.length-vs.length) none
def bK(CX:zI)(P:Program)(w:World)(K:PySem.W.Frag)(mg:Str->Option Value)(base:Heap)(N:List Str)(qual:Str)(scope:Scope)(f:Addr)(cd:Value)(A:Around)(outer:List Env)(s:Shared)(H:Hp)(E:XK):Cx where
 prog:=P
 w:=w
 K:=K
 mg:=mg
 base:=base
 A:=A.deeper (envOfC qual scope s.heap.objs.size f cd)
 N:=N
 s₀:=s
 H₀:=H
 env:=envOfC qual scope s.heap.objs.size f cd
 outer:=outer
 stack:=envOfC qual scope s.heap.objs.size f cd::outer
 ex:=[]
 calm:=true
 fn:=λ_=>true
 pn:=[]
 xe:=λe s'=>wpAny (model P w) (A.deeper (envOfC qual scope s.heap.objs.size f cd)) («leaving» (envOfC qual scope s.heap.objs.size f cd) e) (λ_ s''=>CX outer H s E e s'') (λe' s''=>CX outer H s E e' s'') s'
def sD{sc:Scope}{n:Nat}{x:Str}(h:sc.names.lookup x=some .cell):∃c,(cellsFrom n sc.names []).lookup x=some c:=by
 have q:=Qa sc.names n [] (.inl h)
 exact Option.isSome_iff_exists.mp q
def xY{CX:zI}{P:Program}{w:World}{K:PySem.W.Frag}{mg:Str->Option Value}{base:Heap}{N ps:List Str}{qual:Str}{scope:Scope}{f:Addr}{cd:Value}{A:Around}{outer:List Env}{s s1:Shared}{H:Hp}{E:XK}{us:List Value}{vs:List V}
  (S:aD N ps scope) (hd:A.handled=none) (e0:tL P w K mg base A outer s H) (hl:vs.length=ps.length) (r:Vals vs us)
  (x:InCallC s s.heap.objs.size (bindL (envOfC qual scope s.heap.objs.size f cd).kindOf (ps.zip us) λ_=>none) (cellsFrom (s.heap.objs.size+1) scope.names []) (bindC (envOfC qual scope s.heap.objs.size f cd).kindOf (ps.zip us) λ_=>none) s1) :
  Inv (bK CX P w K mg base N qual scope f cd A outer s H E) [] (start N vs) H s1:=by
 have hpl:ps.length<=N.length:=by have:=LZ List.length S.pre;rw[La]at this;lia
 obtain⟨h1,tk,rfl,hk⟩:=x.done
 have noA:∀b:Addr,b∉(bK CX P w K mg base N qual scope f cd A outer s H E).ex:=λb z=>absurd (show b∈([]:List Addr) from z) (by simp)
 refine⟨⟨e0.mod,S.kind,rfl,rfl,KL _,λy z c h1 h2=>?_,λy hy=>?_,λy c _ h=>?_,λ_=>hd,Around.frames_deeper e0.frames,.inr ⟨rfl,rfl⟩,λb z=>absurd z (noA b),e0.bs,e0.bsz,λb _ _=>noA b,λb z=>absurd z (noA b),e0.jJ,e0.frf⟩,
  rfl,e0.bare,Un.kept hk,⟨_,x.toInCall.ns,λi y v h1 h2 h3=>?_⟩,λy c h=>⟨_,x.cell y c h⟩,e0.hok.fresh (KL _),λy c h=>?_,λp hp=>absurd (show p∈([]:List (Addr×Obj)) from hp) (by simp),e0.hok.kept hk,?_⟩
 ·exact name_of_addr x.apart (MR h1) (MR h2)
 ·have hy:scope.names.lookup y=some .cell\/scope.names.lookup y=some .free:=hy
  rcases hy with hy|hy
  ·exact sD hy
  ·exact absurd rfl (S.nofree _ (MR hy))
 ·exact OD (x.above y c (MR h))
 ·have hi:i<vs.length:=by
   unfold start at h2
   by_cases hi:i<vs.length
   ·exact hi
   ·rw[LB (by simpa using hi)]at h2
    rw[Nn]at h2
    split at h2 <;> cases h2
  have ha:vs[i]?=some v:=by
   unfold start at h2
   rw[Ls (by simpa using hi),KH]at h2
   cases e:vs[i]? with
   |none=>rw[e]at h2;cases h2
   |some a=>rw[e]at h2;cases h2;rfl
  obtain⟨u,hu,rv⟩:=r.get ha
  have hp:ps[i]?=some y:=by
   rw[<-S.pre,List.getElem?_take_of_lt (by lia)];exact h1
  have ndP:ps.Nodup:=by rw[<-S.pre];exact S.nd.sublist (Ny _ _)
  refine⟨u,rv,?_⟩
  rcases S.par y (KJ hp) with k|k
  ·exact .inl ⟨k,o6 ndP hp hu k⟩
  ·obtain⟨c,e⟩:=sD (n:=s.heap.objs.size+1) k
   refine .inr ⟨.inl k,c,e,?_⟩
   have q:=x.cell y c e
   rw[oX ndP hp hu (by show scope.names.lookup y≠_;rw[k];decide)]at q
   exact q
 ·exact e0.hok.fresh (OD (x.above y c (MR h)))
 ·unfold start
  show _=N.length
  rw[KA,Kw,MH]
  lia
def HK{CX:zI}{P:Program}{w:World}{K:PySem.W.Frag}{mg:Str->Option Value}{base:Heap}{k:Nat}{f:Addr}{name qual:Str}{params:Arguments}{body:List Stmt}{scope:Scope}{dV kV doc pm cdv ct oc:Value}{an od:Option Addr}
  {osl:Array (Option Value)} {N ps:List Str} {sp:Sp} (lk:K.lookup f=some ⟨oc,od,.func (PySem.W.fnOf name qual params body scope dV kV doc pm an cdv ct),osl⟩) (hcd:PySem.W.codeIn K cdv qual=true) (S:aD N ps scope)
  (len:∀vs H Q E,sp vs H Q E->vs.length=ps.length)
  (hbody:∀(A:Around) (outer:List Env) (s:Shared) (H:Hp) (vs:List V) (Q:VK) (E:XK),cI k (A.deeper (envOfC qual scope s.heap.objs.size f cdv))->sp vs H Q E ->
   ∃t,ue (bK CX P w K mg base N qual scope f cdv A outer s H E) body t/\t { nx:=λ_ H'=>Q .non H',rt:=Q } (start N vs) H) :
  a9 P w K mg base CX (k+1) f (PySem.W.fnOf name qual params body scope dV kV doc pm an cdv ct) ps sp:=by
 refine⟨len,λA outer s H args us vs Q E hr e0 hb r hsp=>?_⟩
 have hl:=len _ _ _ _ hsp
 have KX:K.In s.heap:=e0.mod.kin.keeps λb o e=>(e0.bs b o e).1
 have lim:s.heap.NoLimit:=e0.mod.nolimit.keeps λb o e=>(e0.bs b o e).1
 have hkind:∀y∈ps.zip us,scope.names.lookup y.1=some .local\/(scope.names.lookup y.1=some .cell/\((cellsFrom (s.heap.objs.size+1) scope.names []).lookup y.1).isSome=true):=λ⟨n,v⟩ hy=>by
  rcases S.par n (PV hy).1 with q|q
  ·exact .inl q
  ·exact .inr ⟨q,Qa _ _ _ (.inl q)⟩
 refine codeAny_call_function hr.depth (KX _ _ lk) rfl S.co S.gen rfl (PySem.W.codeRec_of KX hcd) (hb _ _ _ _ ?_)
 refine wpAny_newFunctionEnv_cells S.kind hkind λenv he s1 x=>?_
 subst he
 refine⟨lim.keeps x.toInCall.keep,codeAny_func ?_⟩
 obtain⟨t,ht,hq⟩:=hbody A outer s H vs Q E (hr.deeper _) hsp
 have I:Inv (bK CX P w K mg base N qual scope f cdv A outer s H E) [] (start N vs) H s1:=xY S hr.hd e0 hl r x
 refine Mp (ht [] s1 (start N vs) H _ I hq) (λfl s' hs=>?_) λe s' hs=>hs
 have fin:∀{σ':St} {H':Hp} {v:V} {u:Value},Inv (bK CX P w K mg base N qual scope f cdv A outer s H E) [] σ' H' s'->RelV v u->Q v H'->CE outer P w H s Q u s' :=
  λ{σ' H' v u} J rv q=>⟨v,H',J.os,J.bare,J.base,J.hok,rv,q⟩
 cases fl with
 |ret u =>
  obtain⟨v,σ',H',J,rv,q⟩:=hs
  exact fin J rv q
 |next =>
  obtain⟨σ',H',J,q⟩:=hs
  exact fin (v:=V.non) (u:=Value.none) J rfl q
 |brk =>
  obtain⟨_,_,_,q⟩:=hs
  exact False.elim q
 |cont =>
  obtain⟨_,_,_,q⟩:=hs
  exact False.elim q
end L2
namespace L2
open PySem PySem.Spec PyProof.Rows
section
variable {X:Cx}{x:Str}{p pos:Pos}{e:Expr}{es:List Expr}{t:TA}{id T:String}{r:List V->Hp->VK->Prop}
def tCB(r:List V->Hp->VK->Prop)(t:TA):TE:=λσ H Q=>t σ H λvs H1=>r vs H1 Q
def ay(hc:dS X (.builtin id) r)(hg:Gl X x)(hm:X.mg x=none)(hv:bootBuiltins x=some (.builtin id))(ha:PA X (e::es) t)(hn:x≠"__name__":=by decide)(hdb:(x==("__debug__":Str))=false:=by decide)
  (he:starEach (e::es) X.env=(false,eval e X.env)::starEach es X.env:=by rfl) (hpl:(backTo pos (starEach es X.env)).any (·.1)=false:=by rfl):PE X (.Call (.Name x p) (e::es) [] pos) (tCB r t):=by
 intro pins s σ H Q I h
 refine MG (iA I hg hm hv ?_ hn hdb)
 exact PyProof.Rows.callWith_builtin1 (cc (ha pos pins s σ H _ I h) λus s1 ⟨vs,H1,I1,r1,q1⟩=>hc pins s1 σ H1 vs us Q I1 r1 q1) he hpl
def bb(hc:dS X (.type T) r)(hg:Gl X x)(hm:X.mg x=none)(hv:bootBuiltins x=some (.type T))(ha:PA X (e::es) t)(hn:x≠"__name__":=by decide)(hdb:(x==("__debug__":Str))=false:=by decide)
  (he:starEach (e::es) X.env=(false,eval e X.env)::starEach es X.env:=by rfl) (hpl:(backTo pos (starEach es X.env)).any (·.1)=false:=by rfl):PE X (.Call (.Name x p) (e::es) [] pos) (tCB r t):=by
 intro pins s σ H Q I h
 refine MG (iA I hg hm hv ?_ hn hdb)
 exact Mx (cc (ha pos pins s σ H _ I h) λus s1 ⟨vs,H1,I1,r1,q1⟩=>hc pins s1 σ H1 vs us Q I1 r1 q1) he hpl
end
end L2
namespace HT
open PySem PyProof.Rows
def lexLt:List Int->List Int->Bool
 |[],[]=>false
 |[],_::_=>true
 |_::_,[]=>false
 |x::xs,y::ys=>if x=y then lexLt xs ys else decide (x<y)
def vF(x y:Int)(xs ys:List Int):lexLt (x::xs) (y::ys)=if x=y then lexLt xs ys else decide (x<y):=rfl
def og:lexLt [] []=false:=rfl
def nQ(y:Int)(ys:List Int):lexLt [] (y::ys)=true:=rfl
def lZ(x:Int)(xs:List Int):lexLt (x::xs) []=false:=rfl
def AH(A:Around)(s:Shared)(a:Int)(t:Tok)(c:Int)(u:Tok):∃e,SeqAt.EqAt A s (.int a t) (.int c u) e/\(e=true↔a=c) :=
 ⟨(a==c),SeqAt.EqAt.int_int a t c u,by simp⟩
def sM(A:Around)(s:Shared)(a:Int)(t:Tok)(c:Int)(u:Tok)(prog:Program)(w:World)(E:Value->Shared->Prop)(Q:Value->Shared->Prop)(h:Q (.bool (decide (a<c))) s) :
  wpAny (model prog w) A (richCompare .Lt (.int a t) (.int c u)) Q E s :=
 (PyProof.Rows.lt_int h:wpAny (model prog w) A (compareOp .Lt (.int a t) (.int c u)) Q E s)
section
open PySem.SeqAt
open PySem.AutoSeq1 (wpAny_loadPart')
open PySem.MeetsSeq PySem.MeetsSeq2 PySem.MeetsSeq3
def om(l b:Addr)(items items2:Array Value)(n n2:Nat)(dd dd2:Option Addr)(sl sl2:Array (Option Value))(ns ms:List Int)(hi:IntsAre items.toList ns)(hj:IntsAre items2.toList ms) :
  Meets (Builtin.«tuple.__lt__» ⟨[.ref l,.ref b],[]⟩)
   (λ_ R s=>s.heap.get? l = some { cls:=.type "tuple",dict:=dd,data:=.seq items n,slots:=sl }/\s.heap.get? b = some { cls:=.type "tuple",dict:=dd2,data:=.seq items2 n2,slots:=sl2 } /\
    R (.ok (.ret (.bool (lexLt ns ms)))) s) :=
 .of_wp λprog w A R s h=>by
  obtain⟨hp,g,d,tk,os⟩:=s;obtain⟨hl,hb,h⟩:=h
  have f2:=Pk
  have z1:items.size=ns.length:=by rw[<-hi.length];simp
  have z2:items2.size=ms.length:=by rw[<-hj.length];simp
  wp_walk using wpAny_loadPart' hl,wpAny_loadPart' hb,Pl _ (λrest b s'=>b.1=none/\s'=⟨hp,g,d,tk,os⟩/\∃(vs ws:List Value) (ns' ms':List Int),rest=vs.zip ws /\
   IntsAre vs ns'/\IntsAre ws ms'/\ns'.length+items2.size=ms'.length+items.size/\R (.ok (.ret (.bool (lexLt ns' ms')))) ⟨hp,g,d,tk,os⟩) _
  case turn =>
   rintro⟨y,x⟩ rest b s' ⟨hb',rfl,vs,ws,ns',ms',hz,hvi,hwi,hlen,hR⟩
   cases hvi with
   |nil=>rw[List.zip_nil_left]at hz;cases hz
   |cons a t hvi' =>
    cases hwi with
    |nil=>rw[List.zip_nil_right]at hz;cases hz
    |cons c u hwi' =>
     rw[List.zip_cons_cons]at hz
     injection hz with hyx hrest
     injection hyx with hy hx
     subst hy hx
     rw[vF]at hR
     simp only[Lj]at hlen
     obtain⟨e,he,hiff⟩:=AH A.in1 ⟨hp,g,d,tk,os⟩ a t c u
     refine Kv (he prog w _ _ ?_)
     cases e with
     |true =>
      rw[KP (hiff.mp rfl)]at hR
      wp_walk
      exact⟨rfl,rfl,_,_,_,_,hrest,hvi',hwi',by lia,hR⟩
     |false =>
      rw[KD (λq=>absurd (hiff.mpr q) Lb)]at hR
      have hri:=sM A.in1 ⟨hp,g,d,tk,os⟩ a t c u prog w
      wp_walk using hri
      exact⟨_,rfl,by simpa using hR⟩
  case fin =>
   rintro⟨b1,b2⟩ s' ⟨hb',rfl,vs,ws,ns',ms',hz,hvi,hwi,hlen,hR⟩
   simp only at hb'
   subst hb'
   have hv:lexLt ns' ms'=decide (items.size<items2.size):=by
    cases hvi with
    |nil =>
     cases hwi with
     |nil =>
      simp only[NU]at hlen
      rw[og]
      exact(KU (by lia)).symm
     |cons c u hw =>
      simp only[NU,Lj]at hlen
      rw[nQ]
      exact(KC (by lia)).symm
    |cons a t hv =>
     cases hwi with
     |nil =>
      simp only[NU,Lj]at hlen
      rw[lZ]
      exact(KU (by lia)).symm
     |cons c u hw =>
      rw[List.zip_cons_cons]at hz
      cases hz
   rw[hv]at hR
   wp_walk
   exact⟨_,rfl,by simpa[Builtin.Tuple.tupleCompareSizes] using hR⟩
  case h =>
   exact⟨rfl,rfl,items.toList,items2.toList,ns,ms,rfl,hi,hj,by lia,h⟩
end
def va{l b:Addr}{items items2:Array Value}{ns ms:List Int}{Q:Value->Shared->Prop}(hl:IsTup s.heap l items)(hb:IsTup s.heap b items2)(hi:IntsAre items.toList ns)(hj:IntsAre items2.toList ms)
  (hu:A.units<cLine) (h:Q (.bool (lexLt ns ms)) s):wpAny (model prog w) A (compareOp .Lt (.ref l) (.ref b)) Q E s:=by
 obtain⟨⟨cls,dd,data,sl⟩,ho,hc,n,hd⟩:=id hl
 obtain⟨⟨cls2,dd2,data2,sl2⟩,ho2,hc2,n2,hd2⟩:=id hb
 simp only at hc hd hc2 hd2
 subst hc hd hc2 hd2
 exact Oq (op:=.Lt) ⟨_,ho,rfl⟩ ⟨_,ho2,rfl⟩ Qg Qb (PJ _ _) (om l b items items2 n n2 dd dd2 sl sl2 ns ms hi hj)
  ⟨ho,ho2,show Value.bool (lexLt ns ms)≠Value.notImplemented/\Q (.bool (lexLt ns ms)) s from⟨(λx=>nomatch x),h⟩⟩ hu
def Ca{t b:Addr}{vs ws:List Value}{Q:Value->Shared->Prop}(ht:IsTup s.heap t vs.toArray)(hb:IsTup s.heap b ws.toArray)(hv:vs≠[])
  (h1:ws=[]->Q (.ref t) s) (h2:ws≠[]->Q (.ref s.heap.objs.size) { s with heap:=s.heap.push { cls:=.type "tuple",data:=.seq (vs++ws).toArray } })
  (hsz:vs.length+ws.length<=sizeLine):wpAny (model prog w) A (binaryOp .Add (.ref t) (.ref b)) Q E s:=by
 obtain⟨⟨cls,dd,data,sl⟩,ho,hc,n,hd⟩:=id ht
 obtain⟨⟨cls2,dd2,data2,sl2⟩,ho2,hc2,n2,hd2⟩:=id hb
 simp only at hc hd hc2 hd2
 subst hc hd hc2 hd2
 have e:vs.toArray++ws.toArray=(vs++ws).toArray:=by simp
 by_cases hw:ws=[]
 ·exact concat_meets ⟨_,ho,rfl⟩ ⟨_,ho2,rfl⟩ Pm Qr Ot Og (NZ _ _)
   (tuple_addW1 t b vs.toArray ws.toArray n n2 dd dd2 sl sl2 (by simpa using hv) (by simp[hw])) ⟨ho,ho2,h1 hw⟩
 ·refine concat_meets ⟨_,ho,rfl⟩ ⟨_,ho2,rfl⟩ Pm Qr Ot Og (NZ _ _)
   (tuple_addW2 t b vs.toArray ws.toArray n n2 dd dd2 sl sl2 (by simpa using hv) (by simpa using hw) (by rw[K8,K8];exact hsz)) ⟨ho,ho2,?_⟩
  rw[e]
  exact h2 hw
def mL(n d:Nat):Option Int->Nat
 |none=>d
 |some v=>if v<0 then(v+(n:Int)).toNat else min v.toNat n
def rP(n d:Nat):mL n d none=d:=rfl
def lF(n d k:Nat):mL n d (some (k:Int))=min k n:=by
 show(if (k:Int)<0 then((k:Int)+(n:Int)).toNat else min (k:Int).toNat n)=min k n
 rw[KD (by lia),LI]
end HT
namespace L2
open PySem PySem.Spec PyProof.Rows
abbrev TO:=St->Hp->(Option Int->Hp->Prop)->Prop
def PO(X:Cx)(e:Option Expr)(t:TO):Prop :=
 ∀(pins:List (Addr×Obj)) (s:Shared) (σ:St) (H:Hp) (Q:Option Int->Hp->Prop),Inv X pins σ H s->t σ H Q ->
  wpAny (model X.prog X.w) X.A (evalPart e X.env) (λu s'=>∃o H',Inv X pins σ H' s'/\IsPart u o/\Q o H') X.xe s
def C3:TO:=λ_ H Q=>Q none H
def Hr(t:TE):TO:=λσ H Q=>t σ H λx H1=>∃i,x=.int i/\Q (some i) H1
def intsAre_of{ns:List Int}:∀{us:List Value},Vals (ns.map V.int) us->IntsAre us ns:=by
 induction ns with
 |nil=>intro us r;rw[Pn]at r;cases r;exact .nil
 |cons n ns ih =>
  intro us r
  rw[LK]at r
  cases r with
  |cons r1 r2 =>
   obtain⟨t,e⟩:=r1
   subst e
   exact .cons n t (ih r2)
section
variable {X:Cx}{e:Expr}{te:TE}{lo hi:Option Expr}{tl th:TO}{pos p2:Pos}
def fY:PO X none C3:=by
 intro pins s σ H Q I h
 rw[evalPart_none]
 exact Kz ⟨none,H,I,.none,h⟩
def dw(h:PE X e te):PO X (some e) (Hr te):=by
 intro pins s σ H Q I hw
 rw[evalPart_some]
 refine cc (h pins s σ H _ I hw) λu s1 hZ=>?_
 obtain⟨x,H1,I1,r1,q1⟩:=hZ
 obtain⟨i,rfl,q⟩:=q1
 obtain⟨t,rfl⟩:=r1
 exact⟨some i,H1,I1,.int i t,q⟩
def JH(X:Cx)(r:V->Option Int->Option Int->Hp->VK->Prop):Prop :=
 ∀(pins:List (Addr×Obj)) (s:Shared) (σ:St) (H:Hp) (x:V) (v vl vu:Value) (lo hi:Option Int) (sl:Addr) (Q:VK),Inv X pins σ H s->RelV x v->s.heap.IsSliceOf sl vl vu .none->IsPart vl lo->IsPart vu hi->r x lo hi H Q ->
  ∃T id,typeLookup (.type T) "__getitem__"=pure (some (.builtin id))/\s.TypeIs v T/\wpAny (model X.prog X.w) X.A (getItem v (.ref sl)) (EP X pins σ Q) X.xe s
def tSl(r:V->Option Int->Option Int->Hp->VK->Prop)(te:TE)(tl th:TO):TE:=λσ H Q=>te σ H λx H1=>tl σ H1 λl H2=>th σ H2 λu H3=>r x l u H3 Q
def dt{r:V->Option Int->Option Int->Hp->VK->Prop}(hr:JH X r)(he:PE X e te)(hl:PO X lo tl)(hu:PO X hi th):PE X (.Subscript e (.Slice lo hi none p2) pos) (tSl r te tl th):=by
 intro pins s σ H Q I h
 refine Subscript_ (cc (he pins s σ H _ I h) λv s1 hZ=>?_)
 obtain⟨x,H1,I1,r1,q1⟩:=hZ
 refine wpAny_Slice (cc (hl pins s1 σ H1 _ I1 q1) λvl s2 ⟨l,H2,I2,pl,q2⟩=>cc (hu pins s2 σ H2 _ I2 q2) λvu s3 hZ=>?_)
 obtain⟨u,H3,I3,pu,q3⟩:=hZ
 rw[evalPart_none]
 refine Kz ?_
 have I4:Inv X pins σ H3 { s3 with heap:=s3.heap.push { cls:=.type "slice",data:=.fields #[vl,vu,.none] } }:=I3.kept (t':=s3.toks) λb ob q=>Ky _ q
 obtain⟨T,id,hT,ht,hg⟩:=hr pins { s3 with heap:=s3.heap.push { cls:=.type "slice",data:=.fields #[vl,vu,.none] } } σ H3 x v vl vu l u s3.heap.objs.size Q I4 r1 (Heap.IsSliceOf.new ..) pl pu q3
 show wpAny (model X.prog X.w) X.A (subscriptTail e (.Slice lo hi none p2) v (.ref s3.heap.objs.size)) (EP X pins σ Q) X.xe { s3 with heap:=s3.heap.push { cls:=.type "slice",data:=.fields #[vl,vu,.none] } }
 exact tail_any (ops:=[.ref s3.heap.objs.size,v]) ht hT hg (by with_unfolding_all rfl)
def hC(xs:List V)(lo hi:Option Int):List V:=(xs.drop (HT.mL xs.length 0 lo)).take (HT.mL xs.length xs.length hi-HT.mL xs.length 0 lo)
def sy(xs:List V)(lo hi:Option Int):(hC xs lo hi).length<=xs.length:=by
 unfold hC
 rw[La,NM]
 lia
def Jb(K:PySem.W.Frag):R2:=λx y H Q=>∃a b xs ys,x=.ref a/\y=.ref b/\bX K H a xs/\bX K H b ys/\xs≠[]/\xs.length+ys.length<=sizeLine /\
 (ys=[]->Q (.ref a) H)/\(ys≠[]->∀p,H p=none->Q (.ref p) (upd H p (.tup (xs++ys))))
def Vals.qQ{xs:List V}{us:List Value}(r:Vals xs us):us=[]↔xs=[]:=by
 cases r with
 |nil=>simp
 |cons _ _=>simp
def C5:fZ X (binaryOp .Add) (Jb X.K):=by
 intro pins s σ H x y v u Q I rx ry h
 obtain⟨a,b,xs,ys,rfl,rfl,ha,hb,hx,hz,q1,q2⟩:=h
 cases rx
 cases ry
 obtain⟨its,r1,p1,_⟩:=I.tuple ha
 obtain⟨its2,r2,p2,_⟩:=I.tuple hb
 refine HT.Ca p1 p2 (λz=>hx (r1.qQ.mp z)) (λz=>⟨.ref a,H,I,rfl,q1 (r2.qQ.mp z)⟩) (λz=>?_) (by rw[<-r1.length,<-r2.length];exact hz)
 refine⟨.ref s.heap.objs.size,_,I.laid (t':=s.toks) (o:=.tup (xs++ys)) (λb ob q=>Ky _ q) (KL _) ?_,rfl,q2 (λw=>z (r2.qQ.mpr w)) _ (I.hok.fresh (KL _))⟩
 exact⟨by rw[KA];exact hz,_,r1.append r2,IsTup.new _ _⟩
end
end L2
namespace L2
open PySem PySem.Spec PyProof.Rows
def zg(n:Nat)(i:Int):Option Nat:=if 0<=i then(if i<n then some i.toNat else none) else if -(n:Int)<=i then some (i+n).toNat else none
def tY{α:Type}(xs:List α)(i:Int):Option α:=(zg xs.length i).bind λj=>xs[j]?
def wQ{n:Nat}{i:Int}{j:Nat}(h:zg n i=some j):seqIndex? i n=some j/\j<n/\-(n:Int)<=i/\i<n:=by
 unfold zg at h
 by_cases h0:0<=i
 ·rw[KP h0]at h
  by_cases h1:i<n
  ·rw[KP h1]at h
   have e:i.toNat=j:=Lq h
   exact⟨by rw[seqIndex_of h0 h1,e],by lia,by lia,h1⟩
  ·rw[KD h1]at h;cases h
 ·rw[KD h0]at h
  by_cases h1 : -(n:Int)<=i
  ·rw[KP h1]at h
   have e:(i+n).toNat=j:=Lq h
   exact⟨by rw[seqIndex_neg (by lia) h1,e],by lia,h1,by lia⟩
  ·rw[KD h1]at h;cases h
def qy{α:Type}{xs:List α}{i:Int}{v:α}(h:tY xs i=some v):∃j,seqIndex? i xs.length=some j/\xs[j]?=some v/\j<xs.length/\-(xs.length:Int)<=i/\i<xs.length:=by
 unfold tY at h
 cases e:zg xs.length i with
 |none=>rw[e]at h;cases h
 |some j =>
  rw[e]at h
  obtain⟨h1,h2,h3,h4⟩:=wQ e
  exact⟨j,h1,h,h2,h3,h4⟩
def aF{α:Type}{xs:List α}{j:Nat}{v:α}(h:xs[j]?=some v):tY xs (j:Int)=some v:=by
 have hj:j<xs.length:=(KQ.mp h).1
 have e:zg xs.length (j:Int)=some j:=by
  unfold zg
  rw[KP (by lia),KP (by lia)];simp
 unfold tY;rw[e];exact h
def Dn(b:Expr):Prop:=∀o i,subscripted b false o i=operate [o,i] (getItem o i)
def Jo(X:Cx)(r:R2):Prop :=
 ∀(value slice:Expr) (pins:List (Addr×Obj)) (s:Shared) (σ:St) (H:Hp) (x y:V) (v u:Value) (Q:VK),Inv X pins σ H s->RelV x v->RelV y u->r x y H Q ->
  subscripted slice false v u=operate [v,u] (getItem v u)->wpAny (model X.prog X.w) X.A (subscriptTail value slice v u) (EP X pins σ Q) X.xe s
def MtR(X:Cx)(id:String)(r:V->List V->Hp->VK->Prop):Prop :=
 ∀(pins:List (Addr×Obj)) (s:Shared) (σ:St) (H:Hp) (x:V) (xs:List V) (v:Value) (us:List Value) (Q:VK),Inv X pins σ H s->RelV x v->Vals xs us->r x xs H Q ->
  wpAny (model X.prog X.w) X.A (call (.builtin id) (v::us)) (EP X pins σ Q) X.xe s
section
variable {X:Cx}{a b:Expr}{ta tb:TE}{pos:Pos}
def aM{r:R2}(hr:Jo X r)(ha:PE X a ta)(hb:PE X b tb)(hs:Dn b):PE X (.Subscript a b pos) (Jj r ta tb):=by
 intro pins s σ H Q I h
 exact Subscript_ (Fz ha hb I h λv u s2 x y H2 I2 rx ry q=>hr a b pins s2 σ H2 x y v u Q I2 rx ry q (hs _ _))
def JS(K:PySem.W.Frag):R2:=λx y H Q=>∃p xs i v,x=.ref p/\y=.int i/\aA K H p xs/\tY xs i=some v/\Q v H
def J7(K:PySem.W.Frag):R2:=λx y H Q=>∃p xs i v,x=.ref p/\y=.int i/\bX K H p xs/\tY xs i=some v/\Q v H
def JR:R2:=λx y H Q=>∃z i c,x=.str z/\y=.int i/\z.length<=sizeLine/\tY z.cps.toList i=some c/\Q (.str ⟨#[c]⟩) H
def aE:Jo X (JS X.K):=by
 intro value slice pins s σ H x y v u Q I rx ry h hs
 obtain⟨p,xs,i,z,rfl,rfl,hq,he,q⟩:=h
 cases rx
 obtain⟨t,rfl⟩:=ry
 obtain⟨its,r,pl,hz⟩:=I.list hq
 obtain⟨j,h1,h2,h3,h4,h5⟩:=qy he
 obtain⟨w,ew,rw'⟩:=r.get h2
 have hl:=r.length
 have hn:=kj
 have fin:EP X pins σ Q w s:=⟨z,H,I,rw',q⟩
 by_cases h0:0<=i
 ·have hj:i.toNat=j:=by
   rw[seqIndex_of h0 h5]at h1
   exact Lq h1
  exact item_listR pl.isList h0 (by lia) (by rw[hj];simpa using ew) fin hs
 ·have hj:(i+(its.toArray.size:Int)).toNat=j:=by
   rw[seqIndex_neg (by lia) h4]at h1
   rw[K8,<-hl]
   exact Lq h1
  exact subscriptTail_builtinR (x:=w) pl.isList.typeIs slot_list_getitem.lookup
   (wpAny_getItem_list_neg (Q:=λr s'=>r=w/\EP X pins σ Q r s') pl.isList (by lia) (by rw[K8] <;> lia) (by lia) (by rw[hj];simpa using ew) ⟨rfl,fin⟩) hs
def dF:Jo X (J7 X.K):=by
 intro value slice pins s σ H x y v u Q I rx ry h hs
 obtain⟨p,xs,i,z,rfl,rfl,hq,he,q⟩:=h
 cases rx
 obtain⟨t,rfl⟩:=ry
 obtain⟨its,r,pl,hz⟩:=I.tuple hq
 obtain⟨j,h1,h2,h3,h4,h5⟩:=qy he
 obtain⟨w,ew,rw'⟩:=r.get h2
 have hl:=r.length
 have hn:=kj
 have fin:EP X pins σ Q w s:=⟨z,H,I,rw',q⟩
 exact subscriptTail_builtinR (x:=w) pl.typeIs slot_tuple_getitem.lookup
  (getItem_tuple (j:=j) (Q:=λr s'=>r=w/\EP X pins σ Q r s') pl (by lia) (by lia) (by rw[K8,<-hl];exact h1) (by simpa using ew) ⟨rfl,fin⟩) hs
def uR:Jo X JR:=by
 intro value slice pins s σ H x y v u Q I rx ry h hs
 obtain⟨z,i,c,rfl,rfl,hz,he,q⟩:=h
 obtain⟨t,rfl⟩:=rx
 obtain⟨t',rfl⟩:=ry
 obtain⟨j,h1,h2,h3,h4,h5⟩:=qy he
 have hl:z.cps.toList.length=z.length:=by simp[Str.length]
 rw[hl]at h1 h4 h5
 have hn:=kj
 exact tail_any (Qn s z t) slot_str_getitem.lookup (getItem_str (c:=c) (by
  have e1:decide (i < -(2 ^ 63:Int))=false:=KU (by lia)
  have e2:decide (i>=2 ^ 63)=false:=KU (by lia)
  rw[e1,e2,Ou]) (by rw[h1];simpa using h2) ⟨.str ⟨#[c]⟩,H,I.tok _,⟨_,rfl⟩,q⟩) hs
def vy(its:List Value)(n j:Nat)(u:Value):Obj.mapSeq (·.setIfInBounds j u) { cls:=.type "list",data:=.seq its.toArray n }={ cls:=.type "list",data:=.seq (its.set j u).toArray n }:=by
 simp[Obj.mapSeq]
theorem Inv.lst{pins:List (Addr×Obj)}{σ:St}{H:Hp}{s:Shared}{p:Addr}{xs:List V}(I:Inv X pins σ H s)(h:H p=some (.lst xs)) :
  ∃(its:List Value) (n:Nat),Vals xs its/\s.heap.get? p=some { cls:=.type "list",data:=.seq its.toArray n }/\xs.length<=sizeLine:=by
 obtain⟨z,its,n,r,e⟩:=I.hok p _ h
 exact⟨its,n,r,e,z⟩
def Inv.Fs{pins:List (Addr×Obj)}{σ:St}{H:Hp}{s:Shared}{p:Addr}{xs ys:List V}{its its':List Value}{n n':Nat}{f:Obj->Obj}(I:Inv X pins σ H s)(h:H p=some (.lst xs))
  (ho:s.heap.get? p=some { cls:=.type "list",data:=.seq its.toArray n }) (hf:f { cls:=.type "list",data:=.seq its.toArray n }={ cls:=.type "list",data:=.seq its'.toArray n' }) (r:Vals ys its') (hz:ys.length<=sizeLine) (t:Nat) :
  Inv X pins σ (upd H p (.lst ys)) { s with heap:=s.heap.update p f,toks:=t }:=by
 have e:(s.heap.update p f).get? p=some { cls:=.type "list",data:=.seq its'.toArray n' }:=by
  rw[L8 f ho (by rw[hf] <;> rfl),hf]
 refine I.write (x:=p) (e:=p) (by rw[h];trivial) (.inl rfl) (λb u hb q=>(LJ _ _ (Li hb)).trans q) ⟨_,e⟩ ?_
 exact⟨hz,its',n',r,e⟩
def Ip:V->V->V->Hp->(Hp->Prop)->Prop:=λo i v H Q=>∃p xs k j,o=.ref p/\i=.int k/\H p=some (.lst xs)/\zg xs.length k=some j/\Q (upd H p (.lst (xs.set j v)))
def set_list:HI X Ip:=by
 intro pins s σ H o i v ov iv u Q I ro ri rv h
 obtain⟨p,xs,k,j,rfl,rfl,hp,hj,q⟩:=h
 cases ro
 obtain⟨t,rfl⟩:=ri
 obtain⟨its,n,r,ho,hz⟩:=I.lst hp
 obtain⟨h1,h2,h3,h4⟩:=wQ hj
 have hl:=r.length
 have hn:=kj
 have I':Inv X pins σ (upd H p (.lst (xs.set j v))) { s with heap:=s.heap.update p (Obj.mapSeq (·.setIfInBounds j u)) } :=
  I.Fs hp ho (vy its n j u) (r.set rv j) (by rw[PX];exact hz) s.toks
 by_cases h0:0<=k
 ·have hk:k.toNat=j:=by
   rw[seqIndex_of h0 h4]at h1
   exact Lq h1
  exact PySem.W.ki_setAt ho h0 (by lia) (by rw[K8,<-hl];exact h4) (by rw[hk];exact⟨_,I',q⟩)
 ·have hk:(k+(its.toArray.size:Int)).toNat=j:=by
   rw[seqIndex_neg (by lia) h3]at h1
   rw[K8,<-hl]
   exact Lq h1
  exact PySem.W.ki_setBack ho (by lia) (by rw[K8,<-hl];exact h3) (by lia) (by rw[hk];exact⟨_,I',q⟩)
def qu(lo hi:Option Int)(n:Nat):(sliceBounds lo hi none n).1=((HT.mL n 0 lo:Nat):Int)/\(sliceBounds lo hi none n).2.1=((HT.mL n n hi:Nat):Int)/\(sliceBounds lo hi none n).2.2=1:=by
 refine⟨?_,?_,rfl⟩
 ·cases lo with
  |none=>simp[sliceBounds,HT.mL]
  |some i =>
   simp only[sliceBounds,HT.mL,Option.getD_none,show(1:Int) > 0 by decide,Of]
   by_cases h:i<0
   ·simp only[h,Of] <;> lia
   ·simp only[h,MC] <;> lia
 ·cases hi with
  |none=>simp[sliceBounds,HT.mL]
  |some i =>
   simp only[sliceBounds,HT.mL,Option.getD_none,show(1:Int) > 0 by decide,Of]
   by_cases h:i<0
   ·simp only[h,Of] <;> lia
   ·simp only[h,MC] <;> lia
def oi(its:List Value)(lo hi:Option Int):slicePick its.toArray lo hi none=((its.drop (HT.mL its.length 0 lo)).take (HT.mL its.length its.length hi-HT.mL its.length 0 lo)).toArray:=by
 obtain⟨h1,h2,h3⟩:=qu lo hi its.toArray.size
 unfold slicePick
 rw[h1,h2,h3]
 simp only[sliceRange_one,pick_run,K8] <;> rfl
def JE(K:PySem.W.Frag):V->Option Int->Option Int->Hp->VK->Prop:=λx lo hi H Q=>∃a xs,x=.ref a/\aA K H a xs/\∀p,H p=none->Q (.ref p) (upd H p (.lst (hC xs lo hi)))
def fQ:JH X (JE X.K):=by
 intro pins s σ H x v vl vu lo hi sl Q I rx hs pl pu h
 obtain⟨a,xs,rfl,hx,q⟩:=h
 cases rx
 obtain⟨its,r,ht,hz⟩:=I.list hx
 have hlen:=r.length
 refine⟨"list",_,slot_list_getitem.lookup,ht.isList.typeIs,?_⟩
 refine wpAny_getItem_list_slice ht.isList hs pl pu .none (by simp) ?_ (by rw[K8] <;> lia)
 rw[oi,<-hlen]
 refine⟨.ref s.heap.objs.size,_,I.laid (t':=s.toks) (o:=.lst (hC xs lo hi)) (λb ob q=>Ky _ q) (KL _) ?_,rfl,q _ (I.hok.fresh (KL _))⟩
 exact⟨Lh (sy xs lo hi) hz,_,0,(r.drop (HT.mL xs.length 0 lo)).take (HT.mL xs.length xs.length hi-HT.mL xs.length 0 lo),KY _ rfl⟩
def eX:V->Bool
 |.non=>true
 |.bl _=>true
 |.int _=>true
 |.str _=>true
 |_=>false
def pD:V->V->Bool
 |.non,.non=>true
 |.bl a,.bl b=>a==b
 |.bl a,.int b=>(if a then 1 else 0)==b
 |.int a,.bl b=>a==(if b then 1 else 0)
 |.int a,.int b=>a==b
 |.str a,.str b=>a==b
 |_,_=>false
def ft{A:Around}{s:Shared}{y x:V}{u v:Value}(ry:RelV y u)(rx:RelV x v)(fy:eX y=true)(fx:eX x=true):SeqAt.EqAt A s u v (pD y x):=by
 cases y with
 |non =>
  cases ry
  cases x with
  |non=>cases rx;exact M7 _
  |bl b=>cases rx;exact SeqAt.EqAt.none_bool b
  |int b=>obtain⟨t,rfl⟩:=rx;exact SeqAt.EqAt.none_int b t
  |str b=>obtain⟨t,rfl⟩:=rx;exact SeqAt.EqAt.none_str b t
  |_=>exact absurd (show false=true from fx) Lb
 |bl a =>
  cases ry
  cases x with
  |non=>cases rx;exact SeqAt.EqAt.bool_none a
  |bl b=>cases rx;exact SeqAt.EqAt.bool_bool a b
  |int b=>obtain⟨t,rfl⟩:=rx;exact SeqAt.EqAt.bool_int a b t
  |str b=>obtain⟨t,rfl⟩:=rx;exact SeqAt.EqAt.bool_str a b t
  |_=>exact absurd (show false=true from fx) Lb
 |int a =>
  obtain⟨t',rfl⟩:=ry
  cases x with
  |non=>cases rx;exact SeqAt.EqAt.int_none a t'
  |bl b=>cases rx;exact SeqAt.EqAt.int_bool a t' b
  |int b=>obtain⟨t,rfl⟩:=rx;exact SeqAt.EqAt.int_int a t' b t
  |str b=>obtain⟨t,rfl⟩:=rx;exact SeqAt.EqAt.int_str a t' b t
  |_=>exact absurd (show false=true from fx) Lb
 |str a =>
  obtain⟨t',rfl⟩:=ry
  cases x with
  |non=>cases rx;exact SeqAt.EqAt.str_none a t'
  |bl b=>cases rx;exact SeqAt.EqAt.str_bool a t' b
  |int b=>obtain⟨t,rfl⟩:=rx;exact SeqAt.EqAt.str_int a t' b t
  |str b=>obtain⟨t,rfl⟩:=rx;exact SeqAt.EqAt.str_str a t' b t
  |_=>exact absurd (show false=true from fx) Lb
 |_=>exact absurd (show false=true from fy) Lb
def uq(x:V)(u:Value):Bool:=match u with
 |.none=>pD .non x
 |.bool b=>pD (.bl b) x
 |.int i _=>pD (.int i) x
 |.str z _=>pD (.str z) x
 |_=>false
def BC{x y:V}{u:Value}(r:RelV y u)(f:eX y=true):uq x u=pD y x:=by
 cases y with
 |non=>cases r;rfl
 |bl b=>cases r;rfl
 |int i=>obtain⟨t,rfl⟩:=r;rfl
 |str z=>obtain⟨t,rfl⟩:=r;rfl
 |_=>exact absurd (show false=true from f) Lb
theorem jw{x:V}:∀{xs:List V} {us:List Value},Vals xs us->xs.all eX=true->us.any (uq x)=xs.any λy=>pD y x
 |_,_,.nil,_=>rfl
 |y::xs,u::us,.cons r t,f=>by
  rw[Ov,Md]at f
  rw[Na,Na,BC r f.1,jw t f.2]
theorem iw{A:Around}{s:Shared}{x:V}{v:Value}(rx:RelV x v)(fx:eX x=true):∀{xs:List V} {us:List Value},Vals xs us->xs.all eX=true->∀u∈us,SeqAt.EqAt A s u v (uq x u)
 |_,_,.nil,_=>λu hu=>by cases hu
 |y::xs,u::us,.cons r t,f=>λu' hu=>by
  rw[Ov,Md]at f
  rcases KR.mp hu with rfl|hu
  ·rw[BC r f.1];exact ft r rx f.1 fx
  ·exact iw rx fx t f.2 u' hu
def Cp(x:V)(xs:List V):Bool:=xs.any λy=>pD y x
def rIn(K:PySem.W.Frag)(neg:Bool):R2:=λx y H Q=>∃p xs,y=.ref p/\(aA K H p xs\/bX K H p xs)/\eX x=true/\xs.all eX=true/\Q (.bl (if neg then !Cp x xs else Cp x xs)) H
def gA:fZ X (compareOp .In) (rIn X.K false):=by
 intro pins s σ H x y v u Q I rx ry h
 obtain⟨p,xs,rfl,hq,fx,fs,q⟩:=h
 cases ry
 rcases hq with hq|hq
 ·obtain⟨its,r,pl,hz⟩:=I.list hq
  refine SeqAt.in_listAt (uq x) pl.isList (λw hw=>iw rx fx r fs w (by simpa using hw)) ⟨.bl _,H,I,rfl,?_⟩
  rw[show its.toArray.any (uq x)=its.any (uq x) by simp,jw r fs]
  exact q
 ·obtain⟨its,r,pl,hz⟩:=I.tuple hq
  refine SeqAt.in_tupleAt (uq x) pl (λw hw=>iw rx fx r fs w (by simpa using hw)) ⟨.bl _,H,I,rfl,?_⟩
  rw[show its.toArray.any (uq x)=its.any (uq x) by simp,jw r fs]
  exact q
def dc:fZ X (compareOp .NotIn) (rIn X.K true):=by
 intro pins s σ H x y v u Q I rx ry h
 obtain⟨p,xs,rfl,hq,fx,fs,q⟩:=h
 cases ry
 rcases hq with hq|hq
 ·obtain⟨its,r,pl,hz⟩:=I.list hq
  refine SeqAt.notIn_listAt (uq x) pl.isList (λw hw=>iw rx fx r fs w (by simpa using hw)) ⟨.bl _,H,I,rfl,?_⟩
  rw[show its.toArray.any (uq x)=its.any (uq x) by simp,jw r fs]
  exact q
 ·obtain⟨its,r,pl,hz⟩:=I.tuple hq
  refine SeqAt.notIn_tupleAt (uq x) pl (λw hw=>iw rx fx r fs w (by simpa using hw)) ⟨.bl _,H,I,rfl,?_⟩
  rw[show its.toArray.any (uq x)=its.any (uq x) by simp,jw r fs]
  exact q
def cn:dS X (.type "list") (λxs H Q=>∃p ys,xs=[.ref p]/\(aA X.K H p ys\/bX X.K H p ys)/\∀l,H l=none->Q (.ref l) (upd H l (.lst ys))):=by
 intro pins s σ H xs us Q I r h
 obtain⟨p,ys,rfl,hq,q⟩:=h
 obtain⟨u,rfl,rx⟩:=vals1 r
 cases rx
 have fin:∀(its:List Value),Vals ys its->ys.length<=sizeLine->∀(h':Heap) (c':Nat),(∀b o',s.heap.get? b=some o'->h'.get? b=some o') ->
   h'.get? s.heap.objs.size=some { cls:=.type "list",dict:=none,data:=.seq its.toArray c',slots:=#[] }->EP X pins σ Q (.ref s.heap.objs.size) { s with heap:=h' }:=λits r' hz h' c' kp e =>
  ⟨.ref s.heap.objs.size,_,I.laid (t':=s.toks) kp (KL _) (show bU X.prog X.w _ h' _ (.lst ys) from⟨hz,its,c',r',e⟩),rfl,q _ (I.hok.fresh (KL _))⟩
 rcases hq with hq|hq
 ·obtain⟨its,r',pl,hz⟩:=I.list hq
  have hlen:=r'.length
  obtain⟨o,ho,hc,n,hd⟩:=pl.isList
  exact call_list_seq p (.inl rfl) ho hc hd (λh' c' kp e=>fin its r' hz h' c' kp e) (by simp only[K8] <;> lia)
 ·obtain⟨its,r',pl,hz⟩:=I.tuple hq
  have hlen:=r'.length
  obtain⟨o,ho,hc,n,hd⟩:=pl
  exact call_list_seq p (.inr rfl) ho hc hd (λh' c' kp e=>fin its r' hz h' c' kp e) (by simp only[K8] <;> lia)
def bV:dS X (.type "tuple") (λxs H Q=>∃p ys,xs=[.ref p]/\((aA X.K H p ys/\∀l,H l=none->Q (.ref l) (upd H l (.tup ys)))\/(bX X.K H p ys/\Q (.ref p) H))):=by
 intro pins s σ H xs us Q I r h
 obtain⟨p,ys,rfl,h⟩:=h
 obtain⟨u,rfl,rx⟩:=vals1 r
 cases rx
 rcases h with⟨hq,q⟩|⟨hq,q⟩
 ·obtain⟨its,r',pl,hz⟩:=I.list hq
  have hlen:=r'.length
  refine call_tuple_list pl.isList (λh' kp=>?_) (by simp only[K8] <;> lia)
  have I1:Inv X pins σ H { s with heap:=h' }:=I.kept (t':=s.toks) kp
  have I2:Inv X pins σ (upd H h'.objs.size (.tup ys)) { s with heap:=h'.push { cls:=.type "tuple",data:=.seq its.toArray } } :=
   I1.laid (t':=s.toks) (λb o e=>Ky _ e) (KL _) (show bU X.prog X.w _ _ _ (.tup ys) from⟨hz,its,r',IsTup.new _ _⟩)
  exact⟨.ref h'.objs.size,_,I2,rfl,q _ (I1.hok.fresh (KL _))⟩
 ·obtain⟨its,r',pl,hz⟩:=I.tuple hq
  exact call_tuple_same pl ⟨.ref p,H,I,rfl,q⟩
def JO(K:PySem.W.Frag)(T:String)(x:V)(H:Hp):Prop:=match x with
 |.str _=>T="str"
 |.int _=>T="int"
 |.ref p=>(T="list"/\∃xs,aA K H p xs)\/(T="tuple"/\∃o,K.lookup p=some o/\o.cls=.type "tuple"/\o.dict=none) \/
   (T="dict"/\((∃kvs,H p=some (.dK kvs))\/∃kvs,H p=some (.dT kvs)))\/(T="set"/\∃S n,H p=some (.set S n))
 |_=>False
def zj{pins:List (Addr×Obj)}{σ:St}{H:Hp}{s:Shared}{T:String}{x:V}{v:Value}(I:Inv X pins σ H s)(r:RelV x v)(ty:JO X.K T x H) :
  s.TypeIs v T/\∀a,v=.ref a->∃ob,s.heap.get? a=some ob/\ob.dict=none:=by
 cases x with
 |str z =>
  obtain⟨t,rfl⟩:=r
  cases (show T="str" from ty)
  exact⟨Qn s z t,λ_ e=>nomatch e⟩
 |int i =>
  obtain⟨t,rfl⟩:=r
  cases (show T="int" from ty)
  exact⟨typeIs_int s i t,λ_ e=>nomatch e⟩
 |ref p =>
  cases r
  rcases ty with⟨rfl,xs,hq⟩|⟨rfl,o,hk,hc,hd⟩|⟨rfl,hk⟩|⟨rfl,S,n,hk⟩
  ·obtain⟨its,_,pl,_⟩:=I.list hq
   refine⟨pl.isList.typeIs,λa e=>?_⟩
   cases e
   obtain⟨o,n,e,c,hd,_⟩:=pl
   exact⟨o,e,hd⟩
  ·refine⟨⟨o,I.kP p o hk,hc⟩,λa e=>?_⟩
   cases e
   exact⟨o,I.kP _ o hk,hd⟩
  ·have z:∃o,s.heap.get? p=some o/\o.ExactDict:=by
    rcases hk with⟨kvs,hk⟩|⟨kvs,hk⟩
    ·obtain⟨_,_,_,_,o,_,_,e,ex,_⟩:=I.hok p _ hk
     exact⟨o,e,ex⟩
    ·obtain⟨_,_,_,_,o,_,_,e,ex,_⟩:=I.hok p _ hk
     exact⟨o,e,ex⟩
   obtain⟨o,e,ex⟩:=z
   refine⟨⟨o,e,ex.1⟩,λa e2=>?_⟩
   cases e2
   exact⟨o,e,ex.2.1⟩
  ·obtain⟨o,_,_,_,e,ex,_⟩:=I.hok p _ hk
   refine⟨⟨o,e,ex.1⟩,λa e2=>?_⟩
   cases e2
   exact⟨o,e,ex.2.1⟩
 |_=>exact False.elim ty
def Kr(K:PySem.W.Frag)(T:String)(r:V->List V->Hp->VK->Prop)(to:TE):TE:=λσ H Q=>to σ H λx H1=>JO K T x H1/\r x [] H1 Q
def tBM(K:PySem.W.Frag)(T:String)(r:V->List V->Hp->VK->Prop)(to:TE)(t:TA):TE:=λσ H Q=>to σ H λx H1=>JO K T x H1/\t σ H1 λxs H2=>r x xs H2 Q
variable {o e:Expr}{es:List Expr}{to:TE}{t:TA}{name:Str}{apos cpos:Pos}{T id:String}{r:V->List V->Hp->VK->Prop}
def E3(pa:PlainAttrs T)(slot:Slot T name id)(hty:typeOf (.builtin id)=pure (.type "method_descriptor"))(hm:MtR X id r)(ho:PE X o to)
  (hbase:attributeBase o name X.env (eval o X.env)=eval o X.env:=by rfl) (hline:(apos.endLine==cpos.line)=true:=by rfl):PE X (.Call (.Attribute o name apos) [] [] cpos) (Kr X.K T r to):=by
 intro pins s σ H Q I h
 refine wpAny_Call_method0_late hbase hline (cc (ho pins s σ H _ I h) λv s1 hZ=>?_)
 obtain⟨x,H1,I1,r1,ty,q1⟩:=hZ
 obtain⟨h1,h2⟩:=zj I1 r1 ty
 exact⟨T,id,pa,slot,hty,h1,h2,Calls.callWith_builtin rfl (PySem.evalArgs_none (hm pins s1 σ H1 x [] v [] Q I1 r1 .nil q1))⟩
def c8(pa:PlainAttrs T)(slot:Slot T name id)(hty:typeOf (.builtin id)=pure (.type "method_descriptor"))(hm:MtR X id r)(ho:PE X o to)(ha:PA X (e::es) t)
  (hbase:attributeBase o name X.env (eval o X.env)=eval o X.env:=by rfl)
  (hfew:((backTo cpos (starEach (e :: es) X.env)).all (λx=>!x.1) && (backToKw cpos (keywordEach [] X.env)).all (λx=>x.1.isSome)
   && decide ((e::es).length+([]:List Keyword).length+(if ([]:List Keyword).isEmpty then 0 else 1)<30))=true:=by rfl)
  (hline:(apos.endLine==cpos.line)=true:=by rfl) (hs:starEach (e::es) X.env=(false,eval e X.env)::starEach es X.env:=by rfl) (hplain:(backTo cpos (starEach es X.env)).any (·.1)=false:=by rfl) :
  PE X (.Call (.Attribute o name apos) (e::es) [] cpos) (tBM X.K T r to t):=by
 intro pins s σ H Q I h
 refine wpAny_Call_method_late hbase hfew hline rfl (cc (ho pins s σ H _ I h) λv s1 hZ=>?_)
 obtain⟨x,H1,I1,r1,ty,q1⟩:=hZ
 obtain⟨h1,h2⟩:=zj I1 r1 ty
 refine⟨T,id,pa,slot,hty,h1,h2,?_⟩
 have hA:=ha cpos pins s1 σ H1 _ I1 q1
 rw[hs]at hA ⊢
 refine Calls.callWith_builtin (by show(false || (backTo cpos (starEach es X.env)).any (·.1))=false;rw[hplain] <;> rfl) (Calls.evalArgs_plain ?_)
 exact cc hA λus s2 ⟨vs,H2,I2,r2,q2⟩=>hm pins s2 σ H2 x vs v us Q I2 r1 r2 q2
end
end L2
namespace L2
open PySem PySem.Spec PyProof.Rows
def JZ(X:Cx)(id:String)(r:V->List V->Hp->VK->Prop):Prop :=
 ∀(pins:List (Addr×Obj)) (s:Shared) (σ:St) (H:Hp) (x:V) (xs:List V) (v:Value) (us:List Value) (Q:VK),Inv X pins σ H s->RelV x v->Vals xs us->r x xs H Q ->
  wpAny (model X.prog X.w) X.A (call (.builtin id) (v::us)) (EP X pins σ Q) X.xe s
def Vals.one{x:V}{us:List Value}(h:Vals [x] us):∃u,us=[u]/\RelV x u:=by
 cases h with
 |cons r q =>
  cases q
  exact⟨_,rfl,r⟩
def Vals.two{x y:V}{us:List Value}(h:Vals [x,y] us):∃u v,us=[u,v]/\RelV x u/\RelV y v:=vals2 h
def Vals.zero:∀{us:List Value},Vals [] us->us=[]
 |_,.nil=>rfl
section
variable {X:Cx}{pins:List (Addr×Obj)}{σ:St}{H:Hp}{s:Shared}{l b:Addr}{xs ys zs:List V}
def Inv.Jt{its its':List Value}{n:Nat}{f:Array Value->Array Value}{t':Nat}(I:Inv X pins σ H s)(hH:H l=some (.lst xs))
  (e:s.heap.get? l=some { cls:=.type "list",data:=.seq its.toArray n }) (hf:f its.toArray=its'.toArray) (hv:Vals ys its') (hz:ys.length<=sizeLine) :
  Inv X pins σ (upd H l (.lst ys)) { s with heap:=s.heap.update l (Obj.mapSeq f),toks:=t' }:=by
 have q:=PySem.IsL.update e f
 rw[hf]at q
 refine I.write (x:=l) (e:=l) (by rw[hH];exact trivial) (.inl rfl) (λb' u hb hu=>(LJ s.heap (Obj.mapSeq f) (Li hb)).trans hu) ⟨_,q⟩ ?_
 exact⟨hz,its',_,hv,q⟩
def Inv.Fu{its:List Value}{t':Nat}(I:Inv X pins σ H s)(hv:Vals ys its)(hz:ys.length<=sizeLine) :
  Inv X pins σ (upd H s.heap.objs.size (.lst ys)) { s with heap:=s.heap.push { cls:=.type "list",data:=.seq its.toArray },toks:=t' } :=
 I.laid (λ_ _ q=>Ky _ q) (KL _) ⟨hz,its,0,hv,KY _ rfl⟩
theorem Inv.fresh(I:Inv X pins σ H s):H s.heap.objs.size=none:=I.hok.fresh (KL _)
def Inv.C6(I:Inv X pins σ H s)(hH:H l=some (.lst xs)):xs.length<=sizeLine/\∃(its:List Value) (n:Nat),Vals xs its/\xs.length=its.length/\s.heap.get? l=some { cls:=.type "list",data:=.seq its.toArray n }:=by
 obtain⟨z,its,n,r,e⟩:=I.hok l _ hH
 exact⟨z,its,n,r,r.length,e⟩
end
section
variable {X:Cx}
def B2:V->List V->Hp->VK->Prop:=λx vs H Q=>∃l xs y,x=.ref l/\vs=[y]/\H l=some (.lst xs)/\xs.length<sizeLine/\Q .non (upd H l (.lst (xs++[y])))
def bf:JZ X "list.append" B2:=by
 intro pins s σ H x vs v us Q I rx rv h
 obtain⟨l,xs,y,rfl,rfl,hH,hz,q⟩:=h
 cases rx
 obtain⟨u,rfl,ru⟩:=rv.one
 obtain⟨z,its,n,r,hl,e⟩:=I.C6 hH
 refine call_meets F.slot_list_append ⟨_,e,rfl⟩ F.entry_list_append (F.args_list_append_2 _ _) (PySem.list_append l its.toArray n u (by rw[K8];lia)) ⟨e,?_⟩
 refine⟨.non,_,I.Jt (its':=its++[u]) hH e (by simp) (r.append (.cons ru .nil)) ?_,rfl,q⟩
 rw[KA,Mg]
 lia
def JN:R2:=λx y H Q=>∃l b xs zs,x=.ref l/\y=.ref b/\H l=some (.lst xs)/\H b=some (.lst zs)/\xs.length+zs.length<=sizeLine/\∀p,H p=none->Q (.ref p) (upd H p (.lst (xs++zs)))
def jf:fZ X (binaryOp .Add) JN:=by
 intro pins s σ H x y v u Q I rx ry h
 obtain⟨l,b,xs,zs,rfl,rfl,hH,hB,hz,q⟩:=h
 cases rx
 cases ry
 obtain⟨z,its,n,r,hl,e⟩:=I.C6 hH
 obtain⟨z2,its2,n2,r2,hl2,e2⟩:=I.C6 hB
 refine PySem.P.add_list e e2 ?_ (by rw[K8,K8];lia)
 have ea:its.toArray++its2.toArray=(its++its2).toArray:=by simp
 rw[ea]
 exact⟨.ref _,_,I.Fu (t':=s.toks) (r.append r2) (by rw[KA];lia),rfl,q _ I.fresh⟩
end
section
variable {X:Cx}
end
end L2
namespace L2
open PySem PySem.Spec PyProof.Rows
section
variable {κ:Type}[DecidableEq κ]
def dv(kvs:List (κ×V))(k:κ):Option V:=(kvs.find? λkv=>decide (kv.1=k)).map (·.2)
def putK(kvs:List (κ×V))(k:κ)(v:V):List (κ×V) :=
 if (kvs.any λkv=>decide (kv.1=k))=true then kvs.map (λkv=>if kv.1=k then(kv.1,v) else kv) else kvs++[(k,v)]
def cJ{p:κ×V}{r:List (κ×V)}{k:κ}(e:p.1=k):dv (p::r) k=some p.2:=by simp[dv,MN,e]
def cK{p:κ×V}{r:List (κ×V)}{k:κ}(e:¬p.1=k):dv (p::r) k=dv r k:=by simp[dv,MN,e]
theorem gG(k:κ):∀kvs:List (κ×V),(kvs.any λkv=>decide (kv.1=k))=(dv kvs k).isSome
 |[]=>rfl
 |p::r=>by
  rw[Na]
  by_cases e:p.1=k
  ·simp only[cJ e,KC e,Bool.true_or,Option.isSome_some]
  ·rw[cK e,KU e,Qs];exact gG k r
theorem o8(k j:κ)(y:V):∀kvs:List (κ×V),dv kvs k=none->dv (kvs++[(k,y)]) j=if j=k then some y else dv kvs j
 |[],_=>by
  by_cases e:k=j
  ·rw[KP e.symm];exact cJ (p:=(k,y)) e
  ·rw[KD (λz=>e z.symm)];exact cK (p:=(k,y)) e
 |p::r,hn=>by
  rw[List.cons_append]
  have hk:¬p.1=k:=λz=>by rw[cJ z]at hn;cases hn
  rw[cK hk]at hn
  have ih:=o8 k j y r hn
  by_cases e:p.1=j
  ·rw[cJ e,cJ e,KD (λz=>hk (e.trans z))]
  ·rw[cK e,cK e,ih]
def kI(kvs:List (κ×V))(k:κ)(v:V):(putK kvs k v).length<=kvs.length+1:=by
 unfold putK
 split
 ·rw[Kw];lia
 ·rw[KA,Lj,NU];lia
def jr{kvs:List (κ×V)}{k:κ}(v:V)(h:dv kvs k=none):putK kvs k v=kvs++[(k,v)]:=by
 unfold putK
 rw[gG,h]
 exact KD (by decide)
def iP.gD{o:Option V}{u:Option Value}(r:iP o u):o.isSome=u.isSome:=by
 cases o with
 |none=>cases u with
  |none=>rfl
  |some _=>exact(show False from r).elim
 |some _=>cases u with
  |none=>exact(show False from r).elim
  |some _=>rfl
def KV.val{kvs:List (κ×V)}{vs:List (κ×Value)}(r:KV kvs vs)(k:κ):iP (dv kvs k) (valueAt vs k):=by
 unfold KV at r
 induction r with
 |nil=>exact True.intro
 |@cons p q ps qs h t ih =>
  obtain⟨h1,h2⟩:=h
  by_cases e:p.1=k
  ·have e':q.1=k:=h1.symm.trans e
   have b:valueAt (q::qs) k=some q.2:=by simp[valueAt,MN,e']
   rw[cJ e,b];exact h2
  ·have e':¬q.1=k:=λz=>e (h1.trans z)
   have b:valueAt (q::qs) k=valueAt qs k:=by simp[valueAt,MN,e']
   rw[cK e,b];exact ih
theorem KV.any{kvs:List (κ×V)}{vs:List (κ×Value)}(r:KV kvs vs)(k:κ):(kvs.any λkv=>decide (kv.1=k))=vs.any λkv=>decide (kv.1=k):=by
 unfold KV at r
 induction r with
 |nil=>rfl
 |cons h t ih=>rw[Na,Na,ih,h.1]
def KV.Gd{kvs:List (κ×V)}{vs:List (κ×Value)}(r:KV kvs vs)(k:κ){y:V}{u:Value}(ry:RelV y u) :
  KV (kvs.map λkv=>if kv.1=k then(kv.1,y) else kv) (vs.map λkv=>if kv.1=k then(kv.1,u) else kv):=by
 unfold KV at r ⊢
 induction r with
 |nil=>exact .nil
 |@cons p q ps qs h t ih =>
  rw[LK,LK]
  refine .cons ?_ ih
  obtain⟨h1,h2⟩:=h
  by_cases e:p.1=k
  ·rw[KP e,KP (h1.symm.trans e)];exact⟨h1,ry⟩
  ·rw[KD e,KD (λz=>e (h1.trans z))];exact⟨h1,h2⟩
def KV.put{kvs:List (κ×V)}{vs:List (κ×Value)}(r:KV kvs vs)(k:κ){y:V}{u:Value}(ry:RelV y u):KV (putK kvs k y) (stored vs k u):=by
 unfold putK stored
 rw[r.any k]
 by_cases e:(vs.any λkv=>decide (kv.1=k))=true
 ·rw[KP e,KP e];exact r.Gd k ry
 ·rw[KD e,KD e];exact L1 r ⟨rfl,ry⟩
def KV.keys{kvs:List (κ×V)}{vs:List (κ×Value)}(r:KV kvs vs):kvs.map (·.1)=vs.map (·.1):=by
 unfold KV at r
 induction r with
 |nil=>rfl
 |cons h t ih=>rw[LK,LK,ih,h.1]
theorem KV.length{kvs:List (κ×V)}{vs:List (κ×Value)}(r:KV kvs vs):kvs.length=vs.length:=KZ r
end
def m7{P:Program}{w:World}{k:Key}{u:Value}(r:RelV (kV k) u):(aR P w).is k u=true:=by
 cases k with
 |inl i=>obtain⟨t,e⟩:=(show ∃t,u=Value.int i t from r);subst e;exact rC P w i t
 |inr x=>obtain⟨t,e⟩:=(show ∃t,u=Value.str x t from r);subst e;exact qZ P w x t
theorem oJ{P:Program}{w:World}:∀{ks:List Key} {us:List Value},Vals (ks.map kV) us->ItemsAre (aR P w) ks us
 |[],_,r=>by rw[Pn]at r;cases r;exact .nil
 |k::ks,_,r=>by
  rw[LK]at r
  cases r with
  |cons h t=>exact .cons (m7 h) (oJ t)
abbrev KT(H:Hp):List (List Key×V)->List (List Key×Addr×Value)->Prop:=Paired λp q=>p.1=q.1/\H q.2.1=some (.tup (p.1.map kV))/\RelV p.2 q.2.2
def KT.val{H:Hp}{kvs:List (List Key×V)}{xs:List (List Key×Addr×Value)}(r:KT H kvs xs)(k:List Key):iP (dv kvs k) ((atKey xs k).map (·.2)):=by
 induction r with
 |nil=>exact True.intro
 |@cons p q ps qs h t ih =>
  obtain⟨h1,_,h2⟩:=h
  by_cases e:p.1=k
  ·have e':q.1=k:=h1.symm.trans e
   have b:atKey (q::qs) k=some q.2:=by simp[atKey,MN,e']
   rw[cJ e,b];exact h2
  ·have e':¬q.1=k:=λz=>e (h1.trans z)
   have b:atKey (q::qs) k=atKey qs k:=by simp[atKey,MN,e']
   rw[cK e,b];exact ih
def KT.Gd{H:Hp}{kvs:List (List Key×V)}{xs:List (List Key×Addr×Value)}(r:KT H kvs xs)(k:List Key){y:V}{u:Value}(ry:RelV y u) :
  KT H (kvs.map λkv=>if kv.1=k then(kv.1,y) else kv) (xs.map (putAt k u)):=by
 induction r with
 |nil=>exact .nil
 |@cons p q ps qs h t ih =>
  rw[LK,LK]
  refine .cons ?_ ih
  obtain⟨h1,h2,h3⟩:=h
  unfold putAt
  by_cases e:p.1=k
  ·rw[KP e,KP (h1.symm.trans e)];exact⟨h1,h2,ry⟩
  ·rw[KD e,KD (λz=>e (h1.trans z))];exact⟨h1,h2,h3⟩
def KT.put{H:Hp}{kvs:List (List Key×V)}{xs:List (List Key×Addr×Value)}(r:KT H kvs xs)(k:List Key){b:Addr}{y:V}{u:Value}(hb:H b=some (.tup (k.map kV)))(ry:RelV y u) :
  KT H (putK kvs k y) (storedH xs k b u):=by
 have e:(kvs.any λkv=>decide (kv.1=k))=(atKey xs k).isSome:=by
  rw[gG,(r.val k).gD,Oi]
 unfold putK storedH
 rw[e]
 by_cases q:(atKey xs k).isSome=true
 ·rw[KP q,KP q];exact r.Gd k ry
 ·rw[KD q,KD q];exact L1 r ⟨rfl,hb,ry⟩
def KT.keeps{H H':Hp}{kvs:List (List Key×V)}{xs:List (List Key×Addr×Value)}(r:KT H kvs xs)(ht:∀b ys,H b=some (.tup ys)->H' b=some (.tup ys)):KT H' kvs xs :=
 Paired.cH r λ_ _ z=>⟨z.1,ht _ _ z.2.1,z.2.2⟩
section
variable {P:Program}{w:World}{H:Hp}{h:Heap}{a:Addr}
def Ey{u:HO}(ok:ja P w H h)(e:Rd H a u):bU P w H h a u:=e.ok ok
def oW{kvs:List (Key×V)}(ok:ja P w H h)(e:Rd H a (.dK kvs)):kvs.length<=sizeLine/\(a==sysModules)=false/\∃vs,KV kvs vs/\h.DictOf (aR P w) a vs :=
 show bU P w H h a (.dK kvs) from Ey ok e
def EW{kvs:List (Key×V)}(ok:ja P w H h)(e:H a=some (.dK kvs)):kvs.length<=sizeLine/\(a==sysModules)=false/\∃vs,KV kvs vs/\h.DictOf (aR P w) a vs:=oW ok (.inl e)
def j0{ks:List Key}(ok:ja P w H h)(e:H a=some (.tup (ks.map kV))):(tupleKind (aR P w)).is h ks a:=by
 obtain⟨_,its,r,o,h1,h2,n,h3⟩:=(show bU P w H h a (.tup (ks.map kV)) from ok a _ e)
 exact⟨o,its.toArray,n,h1,h2,h3,by simpa using oJ r⟩
def sO{kvs:List (List Key×V)}(ok:ja P w H h)(e:Rd H a (.dT kvs)):kvs.length<=sizeLine/\(a==sysModules)=false /\
  ∃xs,KT H kvs xs/\h.DictOfH (tupleKind (aR P w)) a xs:=by
 obtain⟨z,y,xs,r,o,es,ep,h1,h2,h3,h4,h5⟩:=(show bU P w H h a (.dT kvs) from Ey ok e)
 refine⟨z,y,xs,r,o,es,ep,h1,h2,h3,h4,λx hx=>?_,h5⟩
 have all:∀{l:List (List Key×V)} {m:List (List Key×Addr×Value)},KT H l m->∀x∈m,(tupleKind (aR P w)).is h x.1 x.2.1:=by
  intro l m q
  induction q with
  |nil=>intro x hx;exact nomatch hx
  |@cons p q ps qs hq t ih =>
   intro x hx
   rcases KR.mp hx with e|hx
   ·subst e
    exact j0 ok (by rw[<-hq.1];exact hq.2.1)
   ·exact ih x hx
 exact all r x hx
def ED{kvs:List (List Key×V)}(ok:ja P w H h)(e:H a=some (.dT kvs)):kvs.length<=sizeLine/\(a==sysModules)=false /\
  ∃xs,KT H kvs xs/\h.DictOfH (tupleKind (aR P w)) a xs:=sO ok (.inl e)
end
def gP(H:Hp)(a:Addr)(y:V)(r:Option V):Prop :=
 (∃kvs k,Rd H a (.dK kvs)/\y=kV k/\r=dv kvs k)\/∃kvs k b,Rd H a (.dT kvs)/\y=.ref b/\H b=some (.tup (k.map kV))/\r=dv kvs k
def ku(H:Hp)(a:Addr)(y v:V)(H':Hp):Prop :=
 (∃kvs k,H a=some (.dK kvs)/\y=kV k/\kvs.length<sizeLine/\H'=upd H a (.dK (putK kvs k v))) \/
 ∃kvs k b,H a=some (.dT kvs)/\y=.ref b/\H b=some (.tup (k.map kV))/\kvs.length<sizeLine/\H'=upd H a (.dT (putK kvs k v))
theorem gP.k{H:Hp}{a:Addr}{kvs:List (Key×V)}{k:Key}(e:H a=some (.dK kvs)):gP H a (kV k) (dv kvs k):=.inl ⟨kvs,k,.inl e,rfl,rfl⟩
def gP.t{H:Hp}{a b:Addr}{kvs:List (List Key×V)}{k:List Key}(e:H a=some (.dT kvs))(eb:H b=some (.tup (k.map kV))):gP H a (.ref b) (dv kvs k):=.inr ⟨kvs,k,b,.inl e,rfl,eb,rfl⟩
theorem ku.k{H:Hp}{a:Addr}{kvs:List (Key×V)}{k:Key}{v:V}(e:H a=some (.dK kvs))(hl:kvs.length<sizeLine):ku H a (kV k) v (upd H a (.dK (putK kvs k v))):=.inl ⟨kvs,k,e,rfl,hl,rfl⟩
def ku.t{H:Hp}{a b:Addr}{kvs:List (List Key×V)}{k:List Key}{v:V}(e:H a=some (.dT kvs))(eb:H b=some (.tup (k.map kV)))(hl:kvs.length<sizeLine) :
  ku H a (.ref b) v (upd H a (.dT (putK kvs k v))):=.inr ⟨kvs,k,b,e,rfl,eb,hl,rfl⟩
section
variable {X:Cx}{pins:List (Addr×Obj)}{σ:St}{H:Hp}{s:Shared}{a:Addr}{y v:V}{u r:Value}{o:Option V}{A:Around}{E:Value->Shared->Prop}
def Inv.big(I:Inv X pins σ H s):sysModules<s.heap.objs.size:=by
 have h:mainGlobals<s.heap.objs.size:=(I.mod.glob.keeps I.bk).lt
 exact Nat.lt_trans (by decide) h
def yq{Q:Value->Shared->Prop}(hu:A.units+1<cLine)(I:Inv X pins σ H s)(g:gP H a y (some v))(ry:RelV y u)(h:∀w' s',Inv X pins σ H s'->RelV v w'->Q w' s') :
  wpAny (model X.prog X.w) A (getItem (.ref a) u) Q E s:=by
 rcases g with⟨kvs,k,e,ey,l⟩|⟨kvs,k,b,e,ey,eb,l⟩
 ·subst ey
  obtain⟨z,hd,vs,rel,dd⟩:=oW I.hok e
  obtain⟨w',hw,rw'⟩:=iP.some_of (v:=v) (o:=valueAt vs k) (by rw[l];exact rel.val k)
  exact wpAny_getItem_of (m7 ry) dd.mapOf hw (h w' _ (I.tok _) rw')
 ·subst ey
  cases (show u=Value.ref b from ry)
  obtain⟨z,hd,xs,rel,dd⟩:=sO I.hok e
  obtain⟨w',hw,rw'⟩:=iP.some_of (v:=v) (o:=(atKey xs k).map (·.2)) (by rw[l];exact rel.val k)
  obtain⟨p,hp,hp2⟩:=LW.mp hw
  refine wpAny_getItem_heap (N3 hu) (j0 I.hok eb) dd hp ?_
  rw[hp2]
  exact h w' _ (I.tok _) rw'
def Kt{Q:Value->Shared->Prop}(hu:A.units+1<cLine)(I:Inv X pins σ H s)(g:gP H a y o)(ry:RelV y u)(h:∀s',Inv X pins σ H s'->Q (.bool o.isSome) s') :
  wpAny (model X.prog X.w) A (compareOp .In u (.ref a)) Q E s:=by
 rcases g with⟨kvs,k,e,ey,l⟩|⟨kvs,k,b,e,ey,eb,l⟩
 ·subst ey
  obtain⟨z,hd,vs,rel,dd⟩:=oW I.hok e
  refine wpAny_in_of (m7 ry) hd dd.mapOf ?_
  rw[<-(rel.val k).gD,<-l]
  exact h _ (I.tok _)
 ·subst ey
  cases (show u=Value.ref b from ry)
  obtain⟨z,hd,xs,rel,dd⟩:=sO I.hok e
  refine wpAny_in_heap (N3 hu) (j0 I.hok eb) hd dd ?_
  have q:=(rel.val k).gD
  rw[Oi]at q
  rw[<-q,<-l]
  exact h _ (I.tok _)
def B1{Q:Value->Shared->Prop}(hu:A.units+1<cLine)(I:Inv X pins σ H s)(g:gP H a y o)(ry:RelV y u)(h:∀s',Inv X pins σ H s'->Q (.bool (!o.isSome)) s') :
  wpAny (model X.prog X.w) A (compareOp .NotIn u (.ref a)) Q E s:=by
 rcases g with⟨kvs,k,e,ey,l⟩|⟨kvs,k,b,e,ey,eb,l⟩
 ·subst ey
  obtain⟨z,hd,vs,rel,dd⟩:=oW I.hok e
  refine wpAny_notIn_of (m7 ry) hd dd.mapOf ?_
  rw[<-(rel.val k).gD,<-l]
  exact h _ (I.tok _)
 ·subst ey
  cases (show u=Value.ref b from ry)
  obtain⟨z,hd,xs,rel,dd⟩:=sO I.hok e
  refine wpAny_notIn_heap (N3 hu) (j0 I.hok eb) hd dd ?_
  have q:=(rel.val k).gD
  rw[Oi]at q
  rw[<-q,<-l]
  exact h _ (I.tok _)
def kZ{h':Heap}{t':Nat}{ob:HO}(I:Inv X pins σ H s)(mu:IF (H a))(hs:Heap.SameBut a s.heap h')(he:∃q,h'.get? a=some q)(new:bU X.prog X.w (upd H a ob) h' a ob) :
  Inv X pins σ (upd H a ob) { s with heap:=h',toks:=t' } :=
 I.write (x:=a) (e:=a) mu (.inl rfl) (λb q hb z=>(hs.2 b hb).trans z) he new
def EX{P:Program}{w:World}{H':Hp}{h':Heap}{kvs:List (Key×V)}{vs:List (Key×Value)}(z:kvs.length<=sizeLine)(hd:(a==sysModules)=false)(rel:KV kvs vs)(dd:h'.DictOf (aR P w) a vs) :
  bU P w H' h' a (.dK kvs):=⟨z,hd,vs,rel,dd⟩
def x5{H':Hp}{Q:Unit->Shared->Prop}(hu:A.units+1<cLine)(I:Inv X pins σ H s)(g:ku H a y v H')(ry:RelV y u)(rv:RelV v r)(h:∀s',Inv X pins σ H' s'->Q () s') :
  wpAny (model X.prog X.w) A (setItem (.ref a) u r) Q E s:=by
 rcases g with⟨kvs,k,e,ey,l,eH⟩|⟨kvs,k,b,e,ey,eb,l,eH⟩
 ·subst ey eH
  obtain⟨z,hd,vs,rel,dd⟩:=EW I.hok e
  have hz:vs.length<=sizeLine:=by rw[<-rel.length];exact z
  have hl:(putK kvs k v).length<=sizeLine:=by have:=kI kvs k v;lia
  refine wpAny_setItem_pairs (hsz:=hz) (m7 ry) dd λh' dd' hs=>h _ ?_
  have he:∃q,h'.get? a=some q:=let ⟨q,_,_,hq,_⟩:=dd';⟨q,hq⟩
  exact kZ I (by rw[e];exact True.intro) hs he (EX hl hd (rel.put k rv) dd')
 ·subst ey eH
  cases (show u=Value.ref b from ry)
  obtain⟨z,hd,xs,rel,dd⟩:=ED I.hok e
  have hz:xs.length<=sizeLine:=by rw[<-KZ rel];exact z
  have hl:(putK kvs k v).length<=sizeLine:=by have:=kI kvs k v;lia
  refine wpAny_setItem_heap (hsz:=hz) (N3 hu) (j0 I.hok eb) dd λh' dd' hs=>h _ ?_
  obtain⟨q,es,ep,hq,h2,h3,h4,_,h5⟩:=dd'
  refine kZ I (by rw[e];exact True.intro) hs ⟨q,hq⟩ ⟨hl,hd,_,(rel.put k eb rv).keeps λc ys ec=>?_,q,es,ep,hq,h2,h3,h4,h5⟩
  rw[ah (aQ ec e (λz=>nomatch z))]
  exact ec
end
section
variable {X:Cx}{pins:List (Addr×Obj)}{σ:St}{H:Hp}{s:Shared}{a:Addr}{kvs:List (Key×V)}{k:Key}{u:Value}{A:Around}{E:Value->Shared->Prop}
end
def Jc(i:Expr):Prop:=∀ov iv,subscripted i false ov iv=operate [ov,iv] (getItem ov iv)
def C9{prog:Program}{w:World}{A:Around}{E:Value->Shared->Prop}{s:Shared}{env:Env}{value slice:Expr}{pos:Pos}{T id:String}{Q:Value->Shared->Prop}
  (hl:typeLookup (.type T) "__getitem__"=pure (some (.builtin id))) (hs:Jc slice)
  (h:wpAny (model prog w) A (eval value env) (λo s₁=>wpAny (model prog w) A (eval slice env) (λi s₂=>s₂.TypeIs o T/\wpAny (model prog w) A (getItem o i) Q E s₂) E s₁) E s) :
  wpAny (model prog w) A (eval (.Subscript value slice pos) env) Q E s:=by
 refine Subscript_ (Mp h (λo s₁ h₁=>Mp h₁ (λi s₂ h₂=>?_) λ_ _ x=>x) λ_ _ x=>x)
 obtain⟨hT,h₂⟩:=h₂
 unfold subscriptTail
 refine Kv ?_
 rw[getitemInPython_of_ne hT.not_modules]
 refine Kv (Nr hT hl ?_)
 have fin:wpAny (model prog w) A (subscripted slice false o i) (λr s₃=>wpAny (model prog w) A (letTemporaryGo value o r >>= λ_=>pure r) Q E s₃) E s₂:=by
  rw[hs o i]
  exact wpAny_operating (Mp h₂ (λr s₃ h₃=>Kv (wpAny_letTemporaryGo (Kz h₃))) λ_ _ x=>x)
 first
  |exact Kz (Kv fin)
  |exact Kv (Kz (Kv fin))
  |exact Kv fin
def sF{X:Cx}{pins:List (Addr×Obj)}{σ:St}{H:Hp}{s:Shared}{a:Addr}{y:V}{o:Option V}(I:Inv X pins σ H s)(g:gP H a y o):s.TypeIs (.ref a) "dict":=by
 rcases g with⟨kvs,k,e,_,_⟩|⟨kvs,k,b,e,_,_,_⟩
 ·obtain⟨_,_,vs,_,dd⟩:=oW I.hok e
  exact dd.typeIs
 ·obtain⟨_,_,xs,_,dd⟩:=sO I.hok e
  exact dd.typeIs
def IX(td ty:TE):TE:=λσ H Q=>td σ H λx H1=>ty σ H1 λy H2=>∃a v,x=.ref a/\gP H2 a y (some v)/\Q v H2
def Kj(ty td:TE):TE:=λσ H Q=>ty σ H λy H1=>td σ H1 λx H2=>∃a o,x=.ref a/\gP H2 a y o/\Q (.bl o.isSome) H2
def Dg(ty td:TE):TE:=λσ H Q=>ty σ H λy H1=>td σ H1 λx H2=>∃a o,x=.ref a/\gP H2 a y o/\Q (.bl (!o.isSome)) H2
def Iz(td ty tv:TE):TS:=λD σ H=>tv σ H λv H1=>td σ H1 λx H2=>ty σ H2 λy H3=>∃a H4,x=.ref a/\ku H3 a y v H4/\D.nx σ H4
section
variable {X:Cx}{o i e value:Expr}{pos pos' tpos:Pos}{td ty tv:TE}
def iF(hu:X.A.units+1<cLine)(ho:PE X o td)(hi:PE X i ty)(hs:Jc i):PE X (.Subscript o i pos) (IX td ty):=by
 intro pins s σ H Q I h
 refine C9 PySem.F.slot_dict_getitem.lookup hs (cc (ho pins s σ H _ I h) λu s1 ⟨x,H1,I1,rx,q1⟩=>cc (hi pins s1 σ H1 _ I1 q1) λiv s2 hZ=>?_)
 obtain⟨y,H2,I2,ry,a,v,ex,g,q2⟩:=hZ
 subst ex
 obtain rfl:u=Value.ref a:=rx
 exact⟨sF I2 g,yq hu I2 g ry λw' s3 I3 rw'=>⟨v,H2,I3,rw',q2⟩⟩
def F3(hu:X.A.units+1<cLine)(hi:PE X i ty)(ho:PE X o td):PC X .In i o (Kj ty td):=by
 intro pins s σ H Q I h
 refine cc (hi pins s σ H _ I h) λiv s1 ⟨y,H1,I1,ry,q1⟩=>cc (ho pins s1 σ H1 _ I1 q1) λu s2 hZ=>?_
 obtain⟨x,H2,I2,rx,a,ov,ex,g,q2⟩:=hZ
 subst ex
 obtain rfl:u=Value.ref a:=rx
 exact Kt hu I2 g ry λs3 I3=>⟨.bl ov.isSome,H2,I3,rfl,q2⟩
def oV(hu:X.A.units+1<cLine)(hi:PE X i ty)(ho:PE X o td):PC X .NotIn i o (Dg ty td):=by
 intro pins s σ H Q I h
 refine cc (hi pins s σ H _ I h) λiv s1 ⟨y,H1,I1,ry,q1⟩=>cc (ho pins s1 σ H1 _ I1 q1) λu s2 hZ=>?_
 obtain⟨x,H2,I2,rx,a,ov,ex,g,q2⟩:=hZ
 subst ex
 obtain rfl:u=Value.ref a:=rx
 exact B1 hu I2 g ry λs3 I3=>⟨.bl (!ov.isSome),H2,I3,rfl,q2⟩
def gQ(hu:X.A.units+1<cLine)(ho:PE X o td)(hi:PE X i ty)(hv:PE X value tv)(hs:swapsWith value (some (.Subscript o i pos')) pos.line X.env=pure false) :
  PS X (.Assign [.Subscript o i pos'] value pos) (Iz td ty tv):=by
 intro pins s σ H D I h
 refine wpAny_Assign_Subscript (cc (hv pins s σ H _ I h) λr s1 ⟨v,H1,I1,rv,q1⟩=>cc (ho pins s1 σ H1 _ I1 q1) λu s2 ⟨x,H2,I2,rx,q2⟩=>cc (hi pins s2 σ H2 _ I2 q2) λiv s3 ⟨y,H3,I3,ry,a,H4,ex,g,q3⟩=>?_) hs
 subst ex
 obtain rfl:u=Value.ref a:=rx
 exact x5 hu I3 g ry rv λs4 I4=>⟨σ,H4,I4,q3⟩
end
def Ad{P:Program}{w:World}{H:Hp}(h:Heap)(hb:sysModules<h.objs.size):bU P w H (h.push { cls:=.type "dict",data:=.dict #[] }) h.objs.size (.dK []) :=
 ⟨K2 _,Me.mpr (Li (K5 hb)),[],.nil,Heap.DictOf.new h⟩
def Bb{P:Program}{w:World}{H:Hp}(h:Heap)(hb:sysModules<h.objs.size):bU P w H (h.push { cls:=.type "dict",data:=.dict #[] }) h.objs.size (.dT []) :=
 ⟨K2 _,Me.mpr (Li (K5 hb)),[],.nil,_,#[],0,KY _ rfl,⟨rfl,rfl,rfl⟩,rfl,rfl,List.nodup_nil⟩
def FH:TE:=λ_ H Q=>∀p,H p=none->Q (.ref p) (upd H p (.dK []))
section
variable {X:Cx}{pos:Pos}
def gz:PE X (.Dict [] [] pos) FH:=λpins s σ H Q I h =>
 wpAny_Dict_empty ⟨.ref s.heap.objs.size,_,I.laid (a:=s.heap.objs.size) (o:=.dK []) (t':=s.toks) (λ_ _ q=>Ky _ q) (KL _) (Ad s.heap I.big),rfl,h _ (I.hok.fresh (KL _))⟩
end
structure M1(X:Cx)(o:Expr)(m:Str)(apos:Pos)(e:Expr)(cpos:Pos):Prop where
 base:attributeBase o m X.env (eval o X.env)=eval o X.env
 jk:((backTo cpos (starEach [e] X.env)).all (λx=>!x.1)&&(backToKw cpos (keywordEach [] X.env)).all (λx=>x.1.isSome)
  && decide (([e]:List Expr).length+([]:List Keyword).length+(if ([]:List Keyword).isEmpty then 0 else 1)<30))=true
 line:(apos.endLine==cpos.line)=true
 trees:backTo cpos (starEach [e] X.env)=[(false,eval e X.env)]
structure M2(X:Cx)(o:Expr)(m:Str)(apos:Pos)(e f:Expr)(cpos:Pos):Prop where
 base:attributeBase o m X.env (eval o X.env)=eval o X.env
 jk:((backTo cpos (starEach [e,f] X.env)).all (λx=>!x.1)&&(backToKw cpos (keywordEach [] X.env)).all (λx=>x.1.isSome)
  && decide (([e,f]:List Expr).length+([]:List Keyword).length+(if ([]:List Keyword).isEmpty then 0 else 1)<30))=true
 line:(apos.endLine==cpos.line)=true
 trees:backTo cpos (starEach [e,f] X.env)=[(false,eval e X.env),(false,eval f X.env)]
section
variable {X:Cx}{pins:List (Addr×Obj)}{σ:St}{H:Hp}{s:Shared}{a:Addr}{y d:V}{u r:Value}{o:Option V}{A:Around}{E:Value->Shared->Prop}
end
section
variable {X:Cx}{o e f:Expr}{apos cpos:Pos}{td ty tx:TE}
end
section
variable {X:Cx}{pins:List (Addr×Obj)}{σ:St}{H:Hp}{s:Shared}{a:Addr}{kvs:List (Key×V)}{A:Around}{E:Value->Shared->Prop}
end
section
variable {X:Cx}{pins:List (Addr×Obj)}{σ:St}{H:Hp}{s:Shared}{a:Addr}{y:V}{u:Value}{A:Around}{E:Value->Shared->Prop}
end
end L2
namespace Att
open PySem PySem.W PySem.Calls PyProof.Rows
def kL{P:Params}{h:Heap}:∀(ns:List Int) (vs:List Value),WellAll P h vs (ns.map WData.int)->IntsAre vs ns:=by
 intro ns
 induction ns with
 |nil =>
  intro vs w
  rw[Pn]at w
  cases w
  exact .nil
 |cons n ns ih =>
  intro vs w
  rw[LK]at w
  cases w with
  |cons a b =>
   cases a
   exact .cons _ _ (ih _ b)
def yE{l:OpenLaw}{n:Nat}(hn:l.most=some n){P:Params}{h:Heap}{args:List WData}{vals:List Value}
  (hpre:l.row.toRowW.claim.pre args=true) (hwl:WellAll P h vals args) :
  ∃a vs ns,vals=[Value.ref a]/\args=[WData.list (ns.map WData.int)]/\h.get? a=some { cls:=.type "list",data:=.seq vs.toArray }/\IntsAre vs ns/\ns.length<=n:=by
 have hsh:WShape.hasAll [] args [.list .int]=true:=(pre_splitW hpre).1
 have hc:l.pre.holds [] { args:=args }=true:=(pre_splitW hpre).2
 obtain⟨d,r,rfl,h1,h2⟩:=hasAllW_cons hsh
 obtain rfl:=hasAllW_nil h2
 obtain⟨xs,rfl,h3⟩:=hasW_list h1
 obtain⟨ns,rfl⟩:=items_int h3
 have hlen:ns.length<=n:=by
  unfold OpenLaw.pre at hc
  have h4:(WTm.not (.lt (.lit (.int (n:Int))) (.len (.arg 0)))).holds [] { args:=[.list (ns.map .int)] }=true:=by
   have h4:=(holds_andW hc).1
   rw[hn]at h4
   exact h4
  have h5:=condW_of h4 (w_not (w_lt w_lit (w_len_list (w_arg rfl))))
  rw[Kw]at h5
  refine Nat.le_of_not_lt λq=>?_
  have q':(n:Int)<((ns.length:Nat):Int):=by lia
  first
   |(rw[KC q']at h5;exact absurd h5 (by decide))
   |(simp at h5;lia)
 cases hwl with
 |cons w1 w2 =>
  cases w2
  cases w1 with
  |list ho hall=>exact⟨_,_,ns,rfl,rfl,ho,kL ns _ hall,hlen⟩
def xX(l:OpenLaw)(args:List WData):l.row.toRowW.claim.post args (.bool true) args=true :=
 postW_of (r:=l.row.toRowW) (X:=(true==true))
  (show WShape.has [] (.bool true) .bool=true by first|rfl|decide|simp[WShape.has,WShape.arms,WShape.armsAll])
  (show(WTm.eq .res (.lit (.bool true))).value [] { args:=args,res:=some (.bool true),after:=args }=some (.bool (true==true)) from w_eq_bool (w_res rfl) w_lit) rfl
def sv{l:OpenLaw}{n:Nat}{q:Program}{loose:List Str}{XP:(Str->Option Value)->Heap->Prop}{YP:World->Heap->Prop}{d:DefRec}
  (hn:l.most=some n) (hdf:d.params.defaults=[])
  (call:∀(w:World) (s₀ s₁:Shared) (mg mb:Str->Option Value) (fa:Addr) (o:Obj) (pm cd doc:Value) (a:Addr) (vs:List Value) (ns:List Int),
   Ground q loose [] XP w s₀ mg mb s₁.heap->YP w s₁.heap ->
   s₁.heap.get? fa=some o->o.data=.func (docDef d.name d.params d.body d.scope pm cd doc)->s₁.heap.CodeRec cd d.name->mg d.name=some (.ref fa) ->
   s₁.heap.get? a=some { cls:=.type "list",data:=.seq vs.toArray }->IntsAre vs ns->ns.length<=n->s₁.gens = #[] ->
   codeAny (model l.prog w) callerA (.call (.ref fa) ⟨[.ref a],[]⟩) (λr s'=>r=.ok (.ret (.bool true))/\OldK s₁.heap s'.heap/\s'.os=s₁.os/\AllBare s'.gens) s₁) :
  WalkO q loose XP YP l.row.toRowW d [] (λf vs=>PySem.call f vs):=by
 intro w s₀ s₁ mg mb G Y fa o pm cd doc dV kV ho hd hcd hD hmg hg args vals as hpre hlay hrd hwl hlo
 obtain rfl:dV=.none:=Dflts.none hD hdf
 obtain rfl:kV=.none:=Dflts.noKw hD
 obtain⟨a,vs,ns,rfl,rfl,hobj,hints,hlen⟩:=yE hn hpre hwl
 refine enter_call (NG (call w s₀ s₁ mg mb fa o pm cd doc a vs ns G Y ho (fd_plain hd) hcd hmg hobj hints hlen hg) λr s' hq=>?_)
 obtain⟨rfl,h2,h3,h4⟩:=hq
 exact⟨.inl ⟨.bool true,.bool true,[],rfl,λ_=>rfl,.bool true,xX l _,λ_=>⟨List.Pairwise.nil,λ_ hm=>(nomatch hm)⟩⟩,h2,h3,h4⟩
section
variable {prog:Program}{w:World}{A:Around}{E:Value->Shared->Prop}{s:Shared}{K:Frag}
end
end Att
namespace L2
open PySem PySem.Spec PyProof.Rows
theorem oE:∀{vs:List Value} {ns:List Int},IntsAre vs ns->Vals (ns.map V.int) vs
 |_,_,.nil=>.nil
 |_,_,.cons n t h=>.cons ⟨t,rfl⟩ (oE h)
def Fo(H:Hp):Prop:=∀b,H b=none\/∃o xs,H b=some (.frz o (.lst xs))
def Bs{P:Program}{w:World}{K:PySem.W.Frag}{mg mb:Str->Option Value}{CX:zI}{k:Nat}{fa a:Addr}{fd:FuncData}{x:Str}{sp:Sp}{s₁:Shared}{vs:List Value}{ns:List Int}
  (KX:K.In s₁.heap) (hns:s₁.heap.Ns mainGlobals mg) (hb:s₁.heap.Ns builtinsNs mb) (hbb:∀x:Str,x≠"__name__"->mb x=bootBuiltins x) (hlim:s₁.heap.NoLimit) (hg:s₁.gens = #[])
  (ha:s₁.heap.get? a=some { cls:=.type "list",data:=.seq vs.toArray }) (hi:IntsAre vs ns) (hl:ns.length<=sizeLine) (hr:cI k callerA)
  (F:∀base:Heap,K.In base->base.Ns mainGlobals mg->a9 P w K mg base CX k fa fd [x] sp) (hbind:∀(s:Shared) (u:Value),BindsTo s fd ⟨[u],[]⟩ [(x,u)])
  (hsp:∀H:Hp,Fo H->aA K H a (ns.map V.int)->sp [.ref a] H (λv _=>v=.bl true) λ_ _ _=>False)
  (hCX:∀H e s',CX [] H s₁ (λ_ _ _=>False) e s'->False) :
  codeAny (model P w) callerA (.call (.ref fa) ⟨[.ref a],[]⟩) (λr s'=>r=.ok (.ret (.bool true))/\OldK s₁.heap s'.heap/\s'.os=s₁.os/\AllBare s'.gens) s₁:=by
 have rv:=oE hi
 have lenV:=hi.length
 have core:∀H:Hp,Fo H->aA K H a (ns.map V.int)->ja P w H s₁.heap->(∀b,H b≠none->b=a)->(H a≠none->K.lookup a=none) ->
   codeAny (model P w) callerA (.call (.ref fa) ⟨[.ref a],[]⟩) (λr s'=>r=.ok (.ret (.bool true))/\OldK s₁.heap s'.heap/\s'.os=s₁.os/\AllBare s'.gens) s₁:=by
  intro H hO hS hok hA hK
  have base_of:∀{b:Addr} {o:Obj},s₁.heap.get? b=some o->H b=none->(qE s₁.heap H).get? b=some o:=λe n=>Ap e n
  have noA:∀{b:Addr} {o:Obj} {es:Array DictEntry} {ep:Nat},s₁.heap.get? b=some o->o.data=.dict es ep->H b=none:=λ{b o es ep} e d=>by
   cases q:H b with
   |none=>rfl
   |some u =>
    have e':b=a:=hA b (by rw[q];simp)
    subst e'
    rw[ha]at e;cases e
    have d':Data.seq vs.toArray _=Data.dict es ep:=d
    cases d'
  have nsK:∀{b:Addr} {m:Str->Option Value},s₁.heap.Ns b m->(qE s₁.heap H).Ns b m:=λ{b m} ⟨o,es,ep,e,d,r⟩=>⟨o,es,ep,base_of e (noA e d),d,r⟩
  have hKb:K.In (qE s₁.heap H):=λb o e=>base_of (KX b o e) (by
   cases q:H b with
   |none=>rfl
   |some u =>
    have e':b=a:=hA b (by rw[q];simp)
    subst e'
    rw[hK (by rw[q];simp)]at e;cases e)
  have hM:Mod K mg (qE s₁.heap H):=⟨hKb,nsK hns,⟨mb,nsK hb,hbb⟩,let ⟨mc,h1,h2⟩:=hlim;⟨mc,nsK h1,h2⟩⟩
  have e0:tL P w K mg (qE s₁.heap H) callerA [] s₁ H:=⟨rfl,hM,λb o e=>BW e,Pj (yw _ _),trivial,λb hb=>absurd (show b∈([]:List Addr) from hb) (by simp),hok,.of_eq hg⟩
  refine NG ((F _ hKb (nsK hns)).run callerA [] s₁ H ⟨[.ref a],[]⟩ [.ref a] [.ref a] _ _ hr e0 (hbind s₁ (.ref a)) (.cons rfl .nil) (hsp H hO hS)) λr s' h=>?_
  cases r with
  |error e=>exact(hCX H e s' h).elim
  |ok fl =>
   cases fl with
   |next=>exact False.elim h
   |brk=>exact False.elim h
   |cont=>exact False.elim h
   |ret u =>
    obtain⟨v,H',os,bare,un,hok',r',q⟩:=h
    have q':v=.bl true:=q
    subst q'
    obtain rfl:u=Value.bool true:=r'
    refine⟨rfl,OldK.of_keep λb o e=>?_,os,bare⟩
    cases q:H b with
    |none=>exact un.keep b o e q (by intro z;exact absurd (show b∈([]:List Addr) from z) (by simp)) (by simp)
    |some u =>
     rcases hO b with z|⟨ob,xs,z⟩
     ·rw[q]at z;cases z
     ·have z2:=un.frzs b ob _ z
      obtain⟨e1,_⟩:=hok b _ z
      obtain⟨e2,_⟩:=hok' b _ z2
      rw[e]at e1;cases e1
      exact e2
 cases hk:K.lookup a with
 |some o =>
  have e:=KX a o hk
  rw[ha]at e
  cases e
  refine core (λ_=>none) (λ_=>.inl rfl) (.inr ⟨_,vs.toArray,_,hk,rfl,rfl,rfl,by rw[K8,lenV];exact hl,by simpa using rv⟩) (λb u z=>by have z':(none:Option HO)=some u:=z;cases z') (λb z=>absurd rfl z) λz=>absurd rfl z
 |none =>
  refine core (λb=>if b=a then some (.frz { cls:=.type "list",data:=.seq vs.toArray } (.lst (ns.map V.int))) else none) (λb=>?_) (.inl (.inr ⟨{ cls:=.type "list",data:=.seq vs.toArray },KP rfl⟩)) (λb u z=>?_) (λb z=>?_) λ_=>hk
  ·by_cases hb:b=a
   ·exact .inr ⟨_,_,KP hb⟩
   ·exact .inl (KD hb)
  ·by_cases hb:b=a
   ·have z':=(KP hb).symm.trans z
    cases z'
    subst hb
    exact⟨ha,by rw[Kw];exact hl,vs,_,rv,ha⟩
   ·have z':=(KD hb).symm.trans z
    cases z'
  ·by_cases hb:b=a
   ·exact hb
   ·exact absurd (KD hb) z
end L2
namespace L2
open PySem PySem.Spec PyProof.Rows
def Cn{l:PySem.W.OpenLaw}{n k:Nat}{q:Program}{loose:List Str}{XP:(Str->Option Value)->Heap->Prop}{YP:World->Heap->Prop}{d:DefRec}{K:Params->PySem.W.Frag}{CX:World->zI}{sp:World->Sp}{x:Str}
  (hn:l.most=some n) (hn2:n<=sizeLine) (hdf:d.params.defaults=[]) (hr:cI k callerA)
  (hY:∀(w:World) (h:Heap),YP w h->(K w.params).In h)
  (F:∀(w:World) (mg:Str->Option Value) (fa:Addr) (h:Heap),(K w.params).In h->h.Ns mainGlobals mg->mg d.name = some (.ref fa) ->
   ∃fd:FuncData,(∀(s:Shared) (u:Value),BindsTo s fd ⟨[u],[]⟩ [(x,u)]) /\
    ∀base:Heap,(K w.params).In base->base.Ns mainGlobals mg->a9 l.prog w (K w.params) mg base (CX w) k fa fd [x] (sp w))
  (hsp:∀(w:World) (H:Hp) (a:Addr) (ns:List Int),ns.length<=n->Fo H->aA (K w.params) H a (ns.map V.int)->sp w [.ref a] H (λv _=>v=.bl true) λ_ _ _=>False)
  (hCX:∀(w:World) (H:Hp) (s:Shared) (e:Value) (s':Shared),CX w [] H s (λ_ _ _=>False) e s'->False) :
  PySem.W.WalkO q loose XP YP l.row.toRowW d [] (λf vs=>PySem.call f vs):=by
 refine Att.sv hn hdf λw s₀ s₁ mg mb fa o pm cd doc a vs ns G Y ho hd hcd hmg hobj hints hlen hg=>?_
 have KX:=hY w _ Y
 obtain⟨fd,hb,hF⟩:=F w mg fa _ KX G.T.g hmg
 exact Bs KX G.T.g G.T.b G.T.builtins G.T.nolimit hg hobj hints (Lh hlen hn2) hr hF hb (λH hO hS=>hsp w H a ns hlen hO hS) λH e s'=>hCX w H s₁ e s'
end L2
namespace L2
open PySem PySem.Spec PyProof.Rows
def inClass(s:Stmt)(j:Nat):Stmt:=match s with
 |.ClassDef _ _ _ body _ _ _ _ _ _ _=>body.getD j (.Pass ⟨0,0,0,0⟩)
 |_=>.Pass ⟨0,0,0,0⟩
def fe(s:Stmt):Arguments:=match s with
 |.FunctionDef _ a _ _ _ _ _ _ _ _=>a
 |_=>{ posonlyargs:=[],args:=[],vararg:=none,kwonlyargs:=[],kw_defaults:=[],kwarg:=none,defaults:=[] }
def dH(s:Stmt):List Stmt:=match s with
 |.FunctionDef _ _ b _ _ _ _ _ _ _=>b
 |_=>[]
def ar(s:Stmt):Scope:=match s with
 |.FunctionDef _ _ _ _ _ _ sc _ _ _=>sc
 |_=>{ kind:=.function,names:=[],isGenerator:=false,isCoroutine:=false }
abbrev cR:zI:=λ_ _ _ _ _ _=>False
abbrev E0:XK:=λ_ _ _=>False
def br{X:Cx}:Passes cR X E0:=λ_ _ _ _ _ _ _ h=>h.elim
structure dj(K:PySem.W.Frag)(x qual:Str)(st:Stmt)(f:Addr)(fd:FuncData):Prop where
 ex:∃(oc:Value) (od:Option Addr) (kV doc pm:Value) (an:Option Addr) (cdv ct:Value) (osl:Array (Option Value)),
  fd=PySem.W.fnOf x qual (fe st) (dH st) (ar st) .none kV doc pm an cdv ct/\K.lookup f=some ⟨oc,od,.func fd,osl⟩/\PySem.W.codeIn K cdv qual=true
 kp:PySem.W.keepIn K (.ref f)=true
def dj.ok{x qual:Str}{st:Stmt}{f:Addr}{fd:FuncData}{N ps:List Str}{k:Nat}{sp:Sp}(F:dj K x qual st f fd)(S:aD N ps (ar st))(len:∀vs H Q E,sp vs H Q E->vs.length=ps.length)
  (hbody:∀(cdv:Value) (A:Around) (outer:List Env) (s:Shared) (H:Hp) (vs:List V) (Q:VK) (E:XK),cI k (A.deeper (envOfC qual (ar st) s.heap.objs.size f cdv))->sp vs H Q E ->
   ∃t,ue (bK cR P w K mg base N qual (ar st) f cdv A outer s H E).dP (dH st) t/\t { nx:=λ_ H'=>Q .non H',rt:=Q } (start N vs) H):a9 P w K mg base cR (k+1) f fd ps sp:=by
 obtain⟨oc,od,kV,doc,pm,an,cdv,ct,osl,rfl,lk,hcd⟩:=F.ex
 refine HK lk hcd S len λA outer s H vs Q E hr hsp=>?_
 obtain⟨t,h,q⟩:=hbody cdv A outer s H vs Q E hr hsp
 exact⟨t,h.dP,q⟩
def dj.oK{x qual:Str}{st:Stmt}{f:Addr}{fd:FuncData}{N ps:List Str}{k:Nat}{sp:Sp}(F:dj K x qual st f fd)(S:aD N ps (ar st))
  (hbody:∀(cdv:Value) (A:Around) (outer:List Env) (s:Shared) (H:Hp) (vs:List V) (Q:VK) (E:XK),cI k (A.deeper (envOfC qual (ar st) s.heap.objs.size f cdv))->sp vs H Q E ->
   ∃t,ue (bK cR P w K mg base N qual (ar st) f cdv A outer s H E).dP (dH st) t/\t { nx:=λ_ H'=>Q .non H',rt:=Q } (start N vs) H) (len:∀vs H Q E,sp vs H Q E->vs.length=ps.length:=by intro vs H Q E h;(repeat obtain⟨_,h⟩:=h);subst_vars;rfl):a9 P w K mg base cR (k+1) f fd ps sp:=F.ok S len hbody
def dj.binds{x qual:Str}{st:Stmt}{f:Addr}{fd:FuncData}{ps:List Str}(F:dj K x qual st f fd)
  (h:∀(kV doc pm:Value) (an:Option Addr) (cdv ct:Value) (us:List Value),us.length=ps.length->bindArgs (PySem.W.fnOf x qual (fe st) (dH st) (ar st) .none kV doc pm an cdv ct) ⟨us,[]⟩=pure (ps.zip us)):Binds K fd ps []:=by
 obtain⟨oc,od,kV,doc,pm,an,cdv,ct,osl,rfl,lk,hcd⟩:=F.ex
 exact .all (h kV doc pm an cdv ct)
def pZ{x qual:Str}{st:Stmt}{f:Addr}{oc:Value}{od an:Option Addr}{osl:Array (Option Value)}{kV doc pm cdv ct:Value}(l:K.lookup f=some ⟨oc,od,.func (PySem.W.fnOf x qual (fe st) (dH st) (ar st) .none kV doc pm an cdv ct),osl⟩)
  (c:PySem.W.codeIn K cdv qual=true) (k:PySem.W.keepIn K (.ref f)=true):dj K x qual st f (PySem.W.fnOf x qual (fe st) (dH st) (ar st) .none kV doc pm an cdv ct):=⟨⟨oc,od,kV,doc,pm,an,cdv,ct,osl,rfl,l,c⟩,k⟩
def eZ{A:Around}{k:Nat}(hr:cI k A):A.units+1<cLine:=Lz (OT (by decide:1<=64) _) hr.units
def oH{n:Nat}(h:n<=1000):n<sizeLine:=Lz h (by decide)
section
variable {X:Cx}
def pv(i:Nat){x:Str}{pos:Pos}(hN:X.N[i]?=some x:=by rfl)(hv:Jk X.env.scope x:=by first|exact Or.inl rfl|exact Or.inr (Or.inl rfl)|exact Or.inr (Or.inr rfl))(hd:(x==("__debug__":Str))=false:=by decide)
  (hcd:(x==("__classdict__":Str))=false:=by decide):PE X (.Name x pos) (Iy i):=Fl hN hv hd hcd
end
def bF{A B:Prop}(h:B):if false=true then A else B:=by
 rw[KD Lb]
 exact h
def cv{A B:Prop}(h:A):if true=true then A else B:=by
 rw[KP rfl]
 exact h
def uI{c A B:Prop}[Decidable c](h1:c->A)(h2:¬c->B):if c then A else B:=by
 by_cases h:c
 ·rw[KP h]
  exact h1 h
 ·rw[KD h]
  exact h2 h
def aq(H H':Hp):Prop:=∀b o,H b=some o->H' b=some o
def aq.refl(H:Hp):aq H H:=λ_ _ h=>h
def aq.trans{H H1 H2:Hp}(a:aq H H1)(b:aq H1 H2):aq H H2:=λc o h=>b c o (a c o h)
def aq.free{H H':Hp}(e:aq H H'){l:Addr}(h:H' l=Option.none):H l=Option.none:=by
 cases q:H l with
 |none=>rfl
 |some o =>
  rw[e l o q]at h
  cases h
def aq.seq{K:PySem.W.Frag}{H H':Hp}{a:Addr}{xs:List V}(e:aq H H')(h:aA K H a xs):aA K H' a xs:=by
 rcases h with(h|⟨o,h⟩)|h
 ·exact .inl (.inl (e _ _ h))
 ·exact .inl (.inr ⟨o,e _ _ h⟩)
 ·exact .inr h
end L2
namespace L2
open PySem PySem.Spec PyProof.Rows
section
variable {X:Cx}
end
section
variable {κ:Type}[DecidableEq κ]
def BY{kvs:List (κ×V)}{k:κ}{v:V}(h:dv kvs k=some v):k∈kvs.map (·.1):=by
 have q:(kvs.any λkv=>decide (kv.1=k))=true:=by
  rw[gG,h]
  all_goals rfl
 obtain⟨p,hp,e⟩:=Mq.mp q
 exact K0.mpr ⟨p,hp,Ln e⟩
end
def cD(i:Nat){X:Cx}{N M:List Str}{so:Scope}{x:Str}{e:Expr}{te:TE}{pos pos':Pos}(S:aD N M so)(he:PE X e te)(hN:X.N=N:=by rfl)(hi:X.N[i]?=some x:=by rfl)(hx:Loc X.env.scope x:=by first|exact Or.inl rfl|exact Or.inr rfl)(hs:swapsWith e (some (.Name x pos')) pos.line X.env=pure false:=by rfl)(hf:X.fn x=true\/X.env.scope.names.lookup x=some .local:=by first|exact .inl rfl|exact .inr rfl|assumption) :
  PS X (.Assign [.Name x pos'] e pos) (Cb te (ix i)):=F4 (by rw[hN];exact S.nd) hi hx he hs hf
def eu(i:Nat){X:Cx}{N M:List Str}{so:Scope}{x:Str}{p:Pos}(S:aD N M so)(hN:X.N=N:=by rfl)(hi:X.N[i]?=some x:=by rfl)(hx:Loc X.env.scope x:=by first|exact Or.inl rfl|exact Or.inr rfl)(hf:X.fn x=true\/X.env.scope.names.lookup x=some .local:=by first|exact .inl rfl|exact .inr rfl|assumption):PG X (.Name x p) (ix i):=vV (by rw[hN];exact S.nd) hi hx hf
end L2
end
section
namespace L2
open PySem PySem.Spec PyProof.Rows
def iQ(env:Env):List (Str×NameKind)->List (Str×Addr)->List (Str×Addr)
 |[],cs=>cs
 |(n,k)::r,cs=>iQ env r (if k==.free then(n,(env.cells.lookup n).getD 0)::cs else cs)
theorem nv{env:Env}:∀(names:List (Str×NameKind)) (cs:List (Str×Addr)),(∀x∈names,x.2=.free->∃c,env.cells.lookup x.1=some c) ->
  (forIn (m:=Sem) names cs λx r=>if (x.2==NameKind.free)=true then do let a <-cellOf env x.1;pure (ForInStep.yield ((x.1,a)::r)) else pure (ForInStep.yield r))=pure (iQ env names cs)
 |[],cs,_=>rfl
 |(n,k)::r,cs,h=>by
  have hr:=λcs'=>nv (env:=env) r cs' λx hx=>h x (K6 _ hx)
  rw[MO]
  by_cases hk:k=.free
  ·subst hk
   obtain⟨c,hc⟩:=h (n,.free) K9 rfl
   have e1:cellOf env n=pure c:=by unfold cellOf;rw[hc]
   simp only[beq_self_eq_true,Of,e1,pure_bind,hr,iQ,hc,Option.getD_some]
  ·have hb:(k==NameKind.free)=false:=by simpa using hk
   simp only[hb,LN,MC,pure_bind,hr,iQ]
def nM{env:Env}{sc:Scope}(h:∀x∈sc.names,x.2=.free->∃c,env.cells.lookup x.1=some c):closureFor sc env=pure (iQ env sc.names []):=by
 unfold closureFor
 have e:=nv (env:=env) sc.names [] h
 simp only[bind_pure]
 exact e
theorem cO{env:Env}:∀(names:List (Str×NameKind)) (cs:List (Str×Addr)),(∀x∈names,x.2=.free->∃c,env.cells.lookup x.1=some c) ->
  (∀x c,cs.lookup x=some c->env.cells.lookup x=some c)->∀x c,(iQ env names cs).lookup x=some c->env.cells.lookup x=some c
 |[],cs,_,h=>h
 |(n,k)::r,cs,hf,h=>by
  intro x c e
  unfold iQ at e
  refine cO r _ (λy hy=>hf y (K6 _ hy)) ?_ x c e
  intro y d q
  by_cases hk:(k==NameKind.free)=true
  ·rw[KP hk]at q
   obtain⟨c',hc'⟩:=hf (n,k) K9 (by simpa using hk)
   have hc':env.cells.lookup n=some c':=hc'
   rw[MD]at q
   by_cases hy:y=n
   ·subst hy
    simp only[beq_self_eq_true]at q
    rw[hc']at q ⊢
    exact q
   ·have:(y==n)=false:=by simpa using hy
    rw[this]at q
    exact h y d q
  ·rw[KD hk]at q
   exact h y d q
theorem m6{env:Env}{x:Str}:∀(names:List (Str×NameKind)) (cs:List (Str×Addr)),(∃c,cs.lookup x=some c)->∃c,(iQ env names cs).lookup x=some c
 |[],cs,h=>h
 |(n,k)::r,cs,h=>by
  unfold iQ
  refine m6 r _ ?_
  by_cases hk:(k==NameKind.free)=true
  ·rw[KP hk,MD]
   cases hy:x==n with
   |true=>exact⟨_,rfl⟩
   |false=>exact h
  ·rw[KD hk];exact h
theorem mN{env:Env}{x:Str}:∀(names:List (Str×NameKind)) (cs:List (Str×Addr)),(x,NameKind.free)∈names->∃c,(iQ env names cs).lookup x=some c
 |[],cs,h=>by simp at h
 |(n,k)::r,cs,h=>by
  unfold iQ
  rcases KR.mp h with e|h
  ·cases e
   refine m6 r _ ?_
   rw[KP (by rfl),MD]
   simp
  ·exact mN r _ h
theorem fu{env:Env}:∀{names:List (Str×NameKind)} {x:Str} {k:NameKind},
  (names.map λ(n,k)=>if (k == NameKind.free && env.scope.kind == .function && env.kindOf n == some .cell) then (n,NameKind.cell) else (n,k)).lookup x = some k ->
   ∃k',(x,k')∈names/\(k=k'\/(k=.cell/\k'=.free))
 |[],_,_,h=>by simp at h
 |(n,k₀)::r,x,k,h=>by
  rw[LK]at h
  by_cases hc:(k₀==NameKind.free&&env.scope.kind==.function&&env.kindOf n==some .cell)=true
  ·simp only[hc,Of,MD]at h
   cases hx:x==n with
   |true =>
    rw[hx]at h
    have:x=n:=by simpa using hx
    subst this
    have hf:k₀=.free:=by
     have h1:=(Lv.mp (Lv.mp hc).1).1
     simpa using h1
    subst hf
    cases h
    exact⟨_,K9,.inr ⟨rfl,rfl⟩⟩
   |false =>
    rw[hx]at h
    obtain⟨k',m,q⟩:=fu (env:=env) h
    exact⟨k',K6 _ m,q⟩
  ·simp only[KD hc,MD]at h
   cases hx:x==n with
   |true =>
    rw[hx]at h
    have:x=n:=by simpa using hx
    subst this
    cases h
    exact⟨_,K9,.inl rfl⟩
   |false =>
    rw[hx]at h
    obtain⟨k',m,q⟩:=fu (env:=env) h
    exact⟨k',K6 _ m,q⟩
theorem di{env:Env}:∀{names:List (Str×NameKind)} {x:Str},names.lookup x=some .free ->
  (names.map λ(n,k)=>if (k==NameKind.free&&env.scope.kind==.function&&env.kindOf n==some .cell) then(n,NameKind.cell) else(n,k)).lookup x=some .cell \/
  (names.map λ(n,k)=>if (k==NameKind.free&&env.scope.kind==.function&&env.kindOf n==some .cell) then(n,NameKind.cell) else(n,k)).lookup x=some .free
 |[],_,h=>by simp at h
 |(n,k₀)::r,x,h=>by
  rw[LK]
  rw[MD]at h
  by_cases hc:(k₀==NameKind.free&&env.scope.kind==.function&&env.kindOf n==some .cell)=true
  ·simp only[hc,Of,MD]
   cases hx:x==n with
   |true=>exact .inl rfl
   |false=>rw[hx]at h;exact di (env:=env) h
  ·simp only[KD hc,MD]
   cases hx:x==n with
   |true=>rw[hx]at h;exact .inr h
   |false=>rw[hx]at h;exact di (env:=env) h
structure BX where
 C:Addr
 s:Shared
 H:Hp
 fp:List Addr
abbrev iG(X:Cx)(sc:Scope)(N:List Str)(z:BX):Cx :=
  { prog:=X.prog,w:=X.w,K:=X.K,mg:=X.mg,base:=X.base,A:=X.A,N:=N,s₀:=z.s,H₀:=z.H,env:=compEnvC sc (iQ X.env sc.names []) z.C X.env,outer:=X.stack,stack:=X.stack,ex:=z.fp,fn:=λ_=>false,
    calm:=X.calm,pn:=[],xe:=λ_ _=>False }
structure cU(X:Cx)(N:List Str)(n:Nat)(ci:List Nat)(sc:Scope):Prop where
 kind:sc.kind=.function
 nocell:∀y∈sc.names,y.2≠.cell
 loc:∀y∈sc.names,y.2=.local->sc.names.lookup y.1=some .local
 fr:∀y∈sc.names,y.2=.free->X.env.scope.names.lookup y.1=some .cell\/X.env.scope.names.lookup y.1=some .free
 len:N.length=n+ci.length
 caps:∀(j i:Nat),ci[j]?=some i->∃x,N[n+j]?=some x/\X.N[i]?=some x/\sc.names.lookup x=some NameKind.free
def tW(n:Nat)(ci:List Nat)(σ:St):St:=List.replicate n none++ci.map λi=>(σ[i]?).getD none
def xo(n:Nat)(ci:List Nat)(σ:St):(tW n ci σ).length=n+ci.length:=by simp[tW]
section
variable {X:Cx}{N:List Str}{n:Nat}{ci:List Nat}{sc:Scope}{pins:List (Addr×Obj)}{σ:St}{H:Hp}{s:Shared}{fp:List Addr}
def cU.oo(S:cU X N n ci sc)(ok:X.Ok):∀x∈sc.names,x.2=.free->∃c,X.env.cells.lookup x.1=some c:=λx hx hf=>ok.has x.1 (S.fr x hx hf)
def ud(S:cU X N n ci sc)(I:Inv X pins σ H s)(hf:∀b∈fp,iq X pins H b)(ho:∀b∈fp,∃o,s.heap.get? b=some o):(iG X sc N ⟨s.heap.objs.size,s,H,fp⟩).Ok where
 mod:=I.ok.mod
 kind:=S.kind
 glob:=I.ok.glob
 blt:=I.ok.blt
 above:=KL _
 inj:=λx y c h1 h2=>I.ok.inj x y c (cO _ _ (S.oo I.ok) (by simp) x c h1) (cO _ _ (S.oo I.ok) (by simp) y c h2)
 has:=λx hx=>by
  have key:∀k,(relabel sc X.env).names.lookup x=some k->(k=.cell\/k=.free)->∃c,(iQ X.env sc.names []).lookup x=some c:=λk hk hkk=>by
   obtain⟨k',m,q⟩:=fu hk
   have hfree:k'=.free:=by
    rcases q with rfl|⟨_,q⟩
    ·rcases hkk with e|e
     ·exact absurd e (S.nocell _ m)
     ·exact e
    ·exact q
   subst hfree
   exact mN _ _ m
  rcases hx with hx|hx
  ·exact key _ hx (.inl rfl)
  ·exact key _ hx (.inr rfl)
 cab:=λx c h=>by cases h
 hd:=λh=>I.ok.hd h
 frames:=I.ok.frames
 stk:=.inl rfl
 exf:=λb hb=>by
  obtain⟨o,e⟩:=ho b hb
  refine⟨K5 (KO e),λx c h=>?_⟩
  exact(hf b hb).2.2.2.2.1 x c (cO _ _ (S.oo I.ok) (by simp) x c h)
 bs:=I.bs
 bsz:=Lh I.ok.bsz I.sz
 noex:=λb o e hb=>by
  rcases(hf b hb).2.2.2.1 with z|z
  ·exact I.ok.noex b o e z
  ·exact absurd (K4 (KO e) (Lh I.ok.bsz z)) (LA _)
 exfs:=λb hb z=>by
  obtain⟨_,f1,f2,_⟩:=hf b hb
  rcases KR.mp (I.uz b z) with e|e
  ·exact f1 e
  ·exact f2 e
 jJ:=I.stack
 frf:=I.wI
def rG{h':Heap}{m:Str->Option Value}{C:Addr}(S:cU X N n ci sc)(I:Inv X pins σ H s)(hk:∀x c v,X.env.cells.lookup x=some c->s.heap.IsCell c v->h'.IsCell c v)
  (i:Nat) (x:Str) (v:V) (e1:N[i]?=some x) (e2:(tW n ci σ)[i]?=some (some v)):∃u,RelV v u/\Look (compEnvC sc (iQ X.env sc.names []) C X.env) h' m x u:=by
 have hi:n<=i:=by
  by_cases hi:i<n
  ·unfold tW at e2
   rw[Ls (by simpa using hi),Nn,KP hi]at e2
   cases e2
  ·lia
 obtain⟨j,rfl⟩:=Oh hi
 have e2':(ci.map λi=>(σ[i]?).getD none)[j]?=some (some v):=by
  unfold tW at e2
  rw[LB (by simp)]at e2
  simpa using e2
 rw[KH]at e2'
 cases ej:ci[j]? with
 |none=>rw[ej]at e2';cases e2'
 |some k =>
  rw[ej]at e2'
  obtain⟨y,c1,c2,c3⟩:=S.caps j k ej
  rw[c1]at e1
  cases e1
  have ev:σ[k]?=some (some v):=by
   cases q:σ[k]? with
   |none=>simp[q]at e2'
   |some w=>simp[q]at e2';rw[e2']
  obtain⟨m0,_,hl⟩:=I.loc
  have c4:(x,NameKind.free)∈sc.names:=MR c3
  have kf:=S.fr _ c4 rfl
  have vis:Jk X.env.scope x:=.inr kf
  obtain⟨u,ru,lk⟩:=hl k x v c2 ev vis
  refine⟨u,ru,.inr ⟨di (env:=X.env) c3,?_⟩⟩
  rcases lk with⟨l1,_⟩|⟨_,c,hc,hcell⟩
  ·rcases kf with kf|kf <;> (rw[show X.env.kindOf x=_ from kf]at l1;cases l1)
  ·obtain⟨c',hc'⟩:=mN (env:=X.env) sc.names [] c4
   have:=cO _ _ (S.oo I.ok) (by simp) x c' hc'
   rw[hc]at this
   cases this
   exact⟨c,hc',hk x c _ hc hcell⟩
def oN{h':Heap}{t':Nat}{m:Str->Option Value}(S:cU X N n ci sc)(I:Inv X pins σ H s)(hf:∀b∈fp,iq X pins H b)(ho:∀b∈fp,∃o,s.heap.get? b=some o)
  (hk:∀b o,s.heap.get? b=some o->h'.get? b=some o) (hn:h'.Ns s.heap.objs.size m):Inv (iG X sc N ⟨s.heap.objs.size,s,H,fp⟩) [] (tW n ci σ) H { s with heap:=h',toks:=t' } where
 ok:=ud S I hf ho
 os:=rfl
 bare:=I.bare
 base:=Un.kept hk
 loc:=⟨m,hn,λi x v e1 e2 _=>rG S I (λx c v _ ⟨o,e,d⟩=>⟨o,hk _ _ e,d⟩) i x v e1 e2⟩
 cell:=λx c e=>by
  obtain⟨v,o,e1,d⟩:=I.cell x c (cO _ _ (S.oo I.ok) (by simp) x c e)
  exact⟨v,o,hk _ _ e1,d⟩
 free:=I.hok.fresh (KL _)
 freeC:=λx c e=>I.freeC x c (cO _ _ (S.oo I.ok) (by simp) x c e)
 pin:=λp hp=>absurd hp (by simp)
 hok:=I.hok.kept hk
 len:=by rw[xo];exact S.len.symm
def rR{H':Hp}{s':Shared}{σ':St}{pins':List (Addr×Obj)}(S:cU X N n ci sc)(I:Inv X pins σ H s)(hf:∀b∈fp,iq X pins H b)
  (J:Inv (iG X sc N ⟨s.heap.objs.size,s,H,fp⟩) pins' σ' H' s'):Inv (iG X sc N ⟨s.heap.objs.size,s,H,fp⟩) pins' (tW n ci σ) H' s' where
 ok:=J.ok
 os:=J.os
 bare:=J.bare
 base:=J.base
 loc:=by
  obtain⟨m,hn,_⟩:=J.loc
  refine⟨m,hn,λi x v e1 e2 _=>rG S I (λx c v e ⟨o,ho,d⟩=>?_) i x v e1 e2⟩
  have nf:c∉fp:=λz=>(hf c z).2.2.2.2.1 x c e rfl
  obtain⟨sl,q⟩:=J.base.any ho (I.freeC x c e) nf
  exact⟨_,q,d⟩
 cell:=J.cell
 free:=J.free
 freeC:=J.freeC
 pin:=J.pin
 hok:=J.hok
 len:=by rw[xo];exact S.len.symm
end
section
variable {prog:Program}{w:World}{A:Around}{R:Result->Shared->Prop}{s:Shared}
def oe{elt target iter:Expr}{ifs:List Expr}{scope:Scope}{pos:Pos}{it acc:Value}{env:Env}(I:Nat->Shared->Prop)
  (turn:∀n s,I n s->wpAny (model prog w) A (pyNext it) (λr s₁=>match r with
   |none=>R (.ok .next) s₁
   |some v=>wpAny (model prog w) A (letOwnedTupleGo target it v) (λ_ s₀=>wpAny (model prog w) A (assign target env v) (λ_ s₂ =>
     wpAny (model prog w) A (forIn ifs true λc r=>if r=true then do let ok <-isTrue c env (eval c env);pure (ForInStep.yield ok) else pure (ForInStep.yield r)) (λok s₃ =>
      if ok=true then wpAny (model prog w) A (eval elt env) (λx s₄ =>
       wpAny (model prog w) A (call (.builtin "list.append") [acc,x]) (λ_ s₅=>∃m,m<n/\I m s₅) (λ_ _=>False) s₄) (λ_ _=>False) s₃
      else ∃m,m<n/\I m s₃) (λ_ _=>False) s₂) (λ_ _=>False) s₀) (λ_ _=>False) s₁) (λ_ _=>False) s)
  (n:Nat) (h:I n s) :
  codeAny (model prog w) A (.compLoop (.ListComp elt [⟨target,iter,ifs,0⟩] scope pos) 0 it acc env) R s:=by
 refine codeAny_loop rfl I (λn s hI=>?_) n h
 show wpAny _ A ((compTurn (.ListComp elt [⟨target,iter,ifs,0⟩] scope pos) 0 it acc env).onRaise (λx=>do noteFrame x env;theTreesLotGoes x)) _ _ s
 refine wpAny_noted ?_
 rw[compTurn_list]
 refine Kv (O9 (Kv (Mp (turn n s hI) (λr s₁ h₁=>?_) λ_ _ h'=>h'.elim)))
 cases r with
 |none=>exact Kz h₁
 |some v =>
  refine Kv (Mp h₁ (λ_ s₀ h₀=>?_) λ_ _ h'=>h'.elim)
  refine Kv (Mp h₀ (λ_ s₂ h₂=>Kv (Mp h₂ (λok s₃ h₃=>?_) λ_ _ h'=>h'.elim)) λ_ _ h'=>h'.elim)
  cases ok with
  |false=>exact Kz ⟨rfl,h₃⟩
  |true =>
   exact Kv (Kv (Mp h₃ (λx s₄ h₄=>Kv (Mp h₄ (λ_ s₅ h₅=>Kz (Kz ⟨rfl,h₅⟩)) λ_ _ h'=>h'.elim)) λ_ _ h'=>h'.elim))
end
def IL(X:Cx)(ifs:List Expr)(t:TT):Prop :=
 ∀(pins:List (Addr×Obj)) (s:Shared) (σ:St) (H:Hp) (Q:Bool->Hp->Prop),Inv X pins σ H s->t σ H Q ->
  wpAny (model X.prog X.w) X.A (forIn ifs true λc r=>if r=true then do let ok <-isTrue c X.env (eval c X.env);pure (ForInStep.yield ok) else pure (ForInStep.yield r)) (TP X pins σ Q) X.xe s
def JJ:TT:=λ_ H Q=>Q true H
def bD{X:Cx}:IL X [] JJ:=λpins s σ H Q I h=>wpAny_tests_nil ⟨H,I,h⟩
def fg{X:Cx}{c:Expr}{t:TT}(h:PT X c t):IL X [c] t:=λpins s σ H Q I hq=>wpAny_tests_one (h pins s σ H Q I hq)
def gZ(n:Nat)(ci:List Nat)(J:It)(g:TG)(tt:TT)(te:TE)(σ:St)(H1:Hp)(D:Addr)(Q:VK):Prop :=
 ∃(M:Nat) (W:Nat->List V->Hp->Prop),W 0 [] (upd H1 D (.lst []))/\∀i ys H,i<=M->W i ys H ->
  (J.stop i H/\Q (.ref D) H)\/(i < M/\J.go i H/\∀x H',J.yld i H x H'->g x (tW n ci σ) H' λσ2 H2=>tt σ2 H2 λb H3 =>
   if b=true then te σ2 H3 λy H4=>H4 D=some (.lst ys)/\ys.length<sizeLine/\W (i+1) (ys++[y]) (upd H4 D (.lst (ys++[y])))
   else W (i+1) ys H3)
def EG(n:Nat)(ci:List Nat)(wi:TI)(g:BX->TG)(tt:BX->TT)(te:BX->TE):TE:=λσ H Q=>wi σ H λJ H1=>∀(z:BX) (D:Addr),H1 D=none->gZ n ci J (g z) (tt z) (te z) σ H1 D Q
section
variable {X:Cx}{N:List Str}{n:Nat}{ci:List Nat}{sc:Scope}
def mD{pins:List (Addr×Obj)}{σ σ':St}{H H':Hp}{s s':Shared}{fp:List Addr}{h':Heap}(I:Inv X pins σ H s)(hf:∀b∈fp,iq X pins H b)
  (J:Inv (iG X sc N ⟨s.heap.objs.size,s,H,fp⟩) [] σ' H' s') (hs:Heap.SameBut s.heap.objs.size s'.heap h'):Inv X pins σ H' { s' with heap:=h' }:=by
 have up:∀b o,b≠s.heap.objs.size->s'.heap.get? b=some o->h'.get? b=some o:=λb o hb e=>(hs.2 b hb).trans e
 have lt:∀b o,s.heap.get? b=some o->b≠s.heap.objs.size:=λb o e=>K5 (KO e)
 have u0:=J.base
 have un:Un (iU X.stack) fp H H' s.heap h':=by
  refine⟨λb o e n hb hx=>up b o (lt b o e) (u0.keep b o e n hb hx),λb o e n hb hx=>?_,λb o e n hx=>u0.free b o e n hx,λb o e hx=>?_,u0.lJ,u0.frzs,u0.tbls⟩
  ·obtain⟨sl,q⟩:=u0.slot b o e n hb hx
   exact⟨sl,up b _ (lt b o e) q⟩
  ·obtain⟨o',q⟩:=u0.there b o e hx
   exact⟨o',up b _ (lt b o e) q⟩
 have fr:H' s.heap.objs.size=none:=J.free
 have hok:ja X.prog X.w H' h':=λb u e=>by
  refine(J.hok b u e).lX (λc v hc q=>up c v ?_ q) (λ_ q=>q) λ_ _ q=>q
  rintro rfl
  rcases hc with hc|hc
  ·rw[<-hc,fr]at e;cases e
  ·rw[fr]at hc;cases hc
 refine I.Ih (s':={ s' with heap:=h' }) (ch:=fp) J.os un hok J.bare λb hb=>?_
 obtain⟨_,f1,_,f3,f4,f5⟩:=hf b hb
 exact⟨f3,f1,f4,f5⟩
def qY{elt tg iter:Expr}{ifs:List Expr}{pos:Pos}{g:BX->TG}{tt:BX->TT}{te:BX->TE}{z:BX}{it D:Addr}{fp:List Addr}{tn:Nat->Heap->Prop}{J:It}{σ0:St}{H4:Hp}{s4:Shared}{Q:VK}{R:Result->Shared->Prop}{W:Nat->List V->Hp->Prop}{M:Nat}
  (hc:X.calm=true) (T:Turn X.prog X.w X.K tg J fp it tn) (bg:PG (iG X sc N z) tg (g z)) (bt:IL (iG X sc N z) ifs (tt z)) (be:PE (iG X sc N z) elt (te z))
  (keep:∀{pins:List (Addr×Obj)} {σ':St} {H':Hp} {s':Shared},Inv (iG X sc N z) pins σ' H' s'->Inv (iG X sc N z) pins σ0 H' s')
  (stat:∀{H':Hp},(∀b∈fp,H' b=none)->∀b∈fp,iq (iG X sc N z) [] H' b)
  (I4:Inv (iG X sc N z) [] σ0 H4 s4) (st4:tn 0 s4.heap) (fr4:∀b∈fp,H4 b=none) (w0:W 0 [] H4)
  (turn:∀i ys H,i<=M->W i ys H->(J.stop i H/\Q (.ref D) H)\/(i < M/\J.go i H/\∀x H',J.yld i H x H'->g z x σ0 H' λσ2 H2=>tt z σ2 H2 λb H3 =>
   if b=true then te z σ2 H3 λy H4=>H4 D=some (.lst ys)/\ys.length<sizeLine/\W (i+1) (ys++[y]) (upd H4 D (.lst (ys++[y])))
   else W (i+1) ys H3))
  (hR:∀σ' H' s',Inv (iG X sc N z) [] σ' H' s'->Q (.ref D) H'->R (.ok .next) s') :
  codeAny (model X.prog X.w) X.A (.compLoop (.ListComp elt [⟨tg,iter,ifs,0⟩] sc pos) 0 (.ref it) (.ref D) (iG X sc N z).env) R s4:=by
 refine oe (λn s'=>∃i ys H',n=M-i/\i<=M/\Inv (iG X sc N z) [] σ0 H' s'/\tn i s'.heap/\(∀b∈fp,H' b=none)/\W i ys H') ?_ M ⟨0,[],H4,rfl,K2 _,I4,st4,fr4,w0⟩
 rintro n s3 ⟨i,ys,H3,rfl,hiM,I3,st3,fr3,w3⟩
 rcases turn i ys H3 hiM w3 with⟨stop,qn⟩|⟨hlt,go,step⟩
 ·refine cc (T.done (iG X sc N z) rfl rfl rfl hc i [] s3 σ0 H3 (λ_ _=>False) I3 (stat fr3) st3 stop) λr s4 hZ=>?_
  obtain⟨hr,I4⟩:=hZ
  subst hr
  exact hR σ0 H3 s4 I4 qn
 ·refine cc (T.item (iG X sc N z) rfl rfl rfl hc i [] s3 σ0 H3 (λ_ _=>False) I3 (stat fr3) st3 go) λr s4 hZ=>?_
  obtain⟨u,hr,h4⟩:=hZ
  subst hr
  refine cc h4 λ_ s5 hZ=>?_
  obtain⟨x,H5,I5,r5,y5,st5,fr5⟩:=hZ
  have I5':=I5.pinned (stat fr5) (T.obj _ _ st5)
  refine cc (bg _ s5 σ0 H5 x u _ I5' r5 (step x H5 y5)) λ_ s6 hZ=>?_
  obtain⟨σ6,H6,I6,q6⟩:=hZ
  refine cc (bt _ s6 σ6 H6 _ I6 q6) λb s7 hZ=>?_
  obtain⟨H7,I7,q7⟩:=hZ
  have again:∀{ys':List V} {H8:Hp} {s8:Shared},Inv (iG X sc N z) ([]++nA fp s5.heap) σ6 H8 s8->W (i+1) ys' H8->∃m,m<M-i/\∃i ys H',m=M-i/\i<=M/\Inv (iG X sc N z) [] σ0 H' s8/\tn i s8.heap/\(∀b∈fp,H' b=none)/\W i ys H':=λ{ys' H8 s8} I8 w8=>by
   refine⟨M-(i+1),by lia,i+1,ys',H8,rfl,hlt,keep I8.jK,T.keep _ _ _ st5 λb hb o e=>(I8.pin (b,o) (LG _ (LG _ (gY hb e)))).1,λb hb=>?_,w8⟩
   obtain⟨o,e,d⟩:=T.obj _ _ st5 b hb
   exact(I8.pin (b,o) (LG _ (LG _ (gY hb e)))).2.1
  cases b with
  |false =>
   rw[KD (by decide)]
   rw[KD (by decide)]at q7
   exact again I7 q7
  |true =>
   rw[KP rfl]
   rw[KP rfl]at q7
   refine cc (be _ s7 σ6 H7 _ I7 q7) λyu s8 hZ=>?_
   obtain⟨y,H8,I8,r8,hD,hz,q8⟩:=hZ
   exact cc (bf _ s8 σ6 H8 (.ref D) [y] (.ref D) [yu] (λ_ H9=>H9=upd H8 D (.lst (ys++[y]))) I8 rfl (.cons r8 .nil) ⟨D,ys,y,rfl,rfl,hD,hz,rfl⟩) λ_ s9 ⟨_,H9,I9,_,e9⟩=>by
    subst e9
    exact again I9 q8
def bB{elt tg iter:Expr}{ifs:List Expr}{pos:Pos}{wi:TI}{g:BX->TG}{tt:BX->TT}{te:BX->TE}(hc:X.calm=true)(hi:PI X tg iter wi)(S:cU X N n ci sc)
  (hb:∀z:BX,PG (iG X sc N z) tg (g z)/\IL (iG X sc N z) ifs (tt z)/\PE (iG X sc N z) elt (te z))
  (hs:∀x,foldedSetIterable iter X.env x=pure x:=by intro _;rfl):PE X (.ListComp elt [⟨tg,iter,ifs,0⟩] sc pos) (EG n ci wi g tt te):=by
 intro pins s σ H Q I h
 rw[eval_ListComp]
 refine Po (use:=none) rfl hs (nM (S.oo I.ok)) S.kind S.loc (cc (hi pins s σ H _ I h) λv s1 h1=>cc h1 λitv s2 h2=>?_)
 obtain⟨it,fp,tn,J,H2,e,I2,T,st2,f2,rd⟩:=h2
 subst e
 refine Mo (wpAny_newFunctionEnv S.nocell (by intro y hy;simp at hy) (λh₁ hns₁ hsb₁=>?_) S.kind)
 dsimp only at hns₁ hsb₁ ⊢
 have hD:H2 s2.heap.objs.size=none:=I2.hok.fresh (KL _)
 have I3:Inv X pins σ (upd H2 s2.heap.objs.size (.lst [])) { s2 with heap:=s2.heap.push { cls:=.type "list",data:=.seq ([]:List Value).toArray } }:=I2.Fu (t':=s2.toks) (ys:=[]) (its:=[]) .nil (K2 _)
 have ob2:∀b∈fp,∃o,s2.heap.get? b=some o:=λb hb=>let ⟨o,e,_⟩:=T.obj _ _ st2 b hb;⟨o,e⟩
 have neD:∀b∈fp,b≠s2.heap.objs.size:=λb hb=>let ⟨o,e⟩:=ob2 b hb;K5 (KO e)
 have f3:∀b∈fp,iq X pins (upd H2 s2.heap.objs.size (.lst [])) b:=λb hb=>⟨by rw[ah (neD b hb)];exact(f2 b hb).1,(f2 b hb).2⟩
 have ob3:∀b∈fp,∃o,(s2.heap.push { cls:=.type "list",data:=.seq ([]:List Value).toArray }).get? b=some o:=λb hb=>let ⟨o,e⟩:=ob2 b hb;⟨o,Ky _ e⟩
 have k3:∀b o,(s2.heap.push { cls:=.type "list",data:=.seq ([]:List Value).toArray }).get? b=some o->h₁.get? b=some o:=λb o e =>
  hsb₁.extBut b o (K5 (KO e)) (Ky _ e)
 have I4:Inv (iG X sc N ⟨_,{ s2 with heap:=s2.heap.push { cls:=.type "list",data:=.seq ([]:List Value).toArray } },upd H2 s2.heap.objs.size (.lst []),fp⟩) [] (tW n ci σ) (upd H2 s2.heap.objs.size (.lst []))
   { s2 with heap:=h₁,toks:=s2.toks+([]:List (Str×Value)).length }:=oN (s:={ s2 with heap:=s2.heap.push { cls:=.type "list",data:=.seq ([]:List Value).toArray } }) S I3 f3 ob3 k3 hns₁
 have st4:tn 0 h₁:=T.keep _ _ _ st2 λb hb o e=>k3 b o (Ky _ e)
 obtain⟨M,W,w0,turn⟩:=rd ⟨_,{ s2 with heap:=s2.heap.push { cls:=.type "list",data:=.seq ([]:List Value).toArray } },upd H2 s2.heap.objs.size (.lst []),fp⟩ s2.heap.objs.size hD
 obtain⟨bg,bt,be⟩:=hb ⟨_,{ s2 with heap:=s2.heap.push { cls:=.type "list",data:=.seq ([]:List Value).toArray } },upd H2 s2.heap.objs.size (.lst []),fp⟩
 have ok3:=ud S I3 f3 ob3
 have stat:∀{H':Hp},(∀b∈fp,H' b=none)->∀b∈fp,iq (iG X sc N ⟨_,{ s2 with heap:=s2.heap.push { cls:=.type "list",data:=.seq ([]:List Value).toArray } },upd H2 s2.heap.objs.size (.lst []),fp⟩) [] H' b:=λhn b hb=>by
  obtain⟨_,f1,f2',_,f4,_⟩:=f3 b hb
  refine⟨hn b hb,?_,ok3.exfs b hb,.inl hb,λx c e=>?_,λp hp=>absurd hp (by simp)⟩
  ·exact K5 (let ⟨o,e⟩:=ob3 b hb;KO e)
  ·exact f4 x c (cO _ _ (S.oo I3.ok) (by simp) x c e)
 have loop:codeAny (model X.prog X.w) X.A (.compLoop (.ListComp elt [⟨tg,iter,ifs,0⟩] sc pos) 0 (.ref it) (.ref s2.heap.objs.size) (compEnvC sc (iQ X.env sc.names []) (s2.heap.push { cls:=.type "list",data:=.seq ([]:List Value).toArray }).objs.size X.env))
   (compPost (model X.prog X.w) X.A X.xe none (EP X pins σ Q) (.ref s2.heap.objs.size) (s2.heap.push { cls:=.type "list",data:=.seq ([]:List Value).toArray }).objs.size) { s2 with heap:=h₁,toks:=s2.toks+([]:List (Str×Value)).length }:=by
  refine qY (W:=W) (M:=M) (σ0:=tW n ci σ) (Q:=Q) hc T bg bt be (λ{pins' σ' H' s'} J'=>?_) stat I4 st4 (λb hb=>(f3 b hb).1) w0 turn λσ' H' s' J' q=>?_
  ·exact rR S I3 f3 J'
  ·obtain⟨m',hn',_⟩:=J'.loc
   refine⟨m',hn',λh' hs'=>?_⟩
   exact⟨.ref s2.heap.objs.size,H',mD (s:={ s2 with heap:=s2.heap.push { cls:=.type "list",data:=.seq ([]:List Value).toArray } }) I3 f3 J' hs',rfl,q⟩
 exact codeAny_compStart_list loop (T.self _ 0 _ _ _ st4 loop)
end
structure JV(so:Scope)(N0 N:List Str)(n:Nat)(ci:List Nat)(sc:Scope):Prop where
 kind:sc.kind=.function
 nocell:∀y∈sc.names,y.2≠.cell
 loc:∀y∈sc.names,y.2=.local->sc.names.lookup y.1=some .local
 fr:∀y∈sc.names,y.2=.free->so.names.lookup y.1=some .cell\/so.names.lookup y.1=some .free
 len:N.length=n+ci.length
 caps:N.drop n=ci.map λi=>N0.getD i ⟨#[]⟩
 ins:∀i∈ci,i<N0.length
 iU:∀x∈N.drop n,sc.names.lookup x=some .free
def JV.of{X:Cx}{so sc:Scope}{N0 N:List Str}{n:Nat}{ci:List Nat}(h:JV so N0 N n ci sc)(e1:X.env.scope=so:=by rfl)(e2:X.N=N0:=by rfl):cU X N n ci sc where
 kind:=h.kind
 nocell:=h.nocell
 loc:=h.loc
 fr:=λy hy hf=>by rw[e1];exact h.fr y hy hf
 len:=h.len
 caps:=λj i e=>by
  have hm:i∈ci:=KJ e
  have hi:=h.ins i hm
  have q:(N.drop n)[j]?=some (N0.getD i ⟨#[]⟩):=by rw[h.caps,KH,e];rfl
  refine⟨N0.getD i ⟨#[]⟩,?_,?_,?_⟩
  ·rw[List.getElem?_drop]at q;exact q
  ·rw[e2,KN,Kx hi];rfl
  ·exact h.iU _ (KJ q)
def iO{X:Cx}{so sc:Scope}{N0 N M:List Str}{n:Nat}{ci:List Nat}(S:aD N0 M so)(h:JV so N0 N n ci sc:=by exact⟨rfl,by decide +kernel,by decide +kernel,by decide +kernel,rfl,rfl,by decide +kernel,by decide +kernel⟩)(e1:X.env.scope=so:=by rfl)(e2:X.N=N0:=by rfl):cU X N n ci sc:=h.of e1 e2
def g0(i:Nat){X:Cx}{sc:Scope}{N:List Str}{z:BX}{x:Str}{p:Pos}(hn:N.Nodup:=by decide +kernel)(hi:N[i]?=some x:=by rfl)(hx:Loc (iG X sc N z).env.scope x:=by exact Or.inl rfl)(hf:(iG X sc N z).fn x=true\/(iG X sc N z).env.scope.names.lookup x=some .local:=by first|exact .inl rfl|exact .inr rfl|assumption):PG (iG X sc N z) (.Name x p) (ix i):=vV (X:=iG X sc N z) (i:=i) hn hi hx hf
end L2
end
section
namespace UfSet
open PySem
def dN(w:World):Bool:=w.params.followText "set-order"
abbrev eL(w:World):List Str->List (Int×Value)->Prop:=Paired λk e=>e.1=hashStr w k/\∃tk,e.2=.str k tk
def df(w:World)(h:Heap)(a:Addr)(ks:List Str):Prop :=
 ∃o es ep t ks',h.get? a=some o/\o.ExactSet/\o.data=.set es ep t/\eL w ks' es.toList/\ks'.Perm ks/\ks.Nodup /\
  es.size<scanBound/\t.fits es.size=true/\(t.plain=true->es.size=0)/\t.led = !dN w
theorem eL.elems{prog:Program}{w:World}:∀{ks:List Str} {es:List (Int×Value)},eL w ks es->ElemsOf (strKind prog w) es
 |_,_,.nil=>λe he=>by simp at he
 |_,_,.cons (a:=k) (b:=e) h t=>λx hx=>by
  rcases KR.mp hx with rfl|hx
  ·obtain⟨h1,tk,h2⟩:=h
   refine⟨⟨k,?_,h1⟩,?_⟩
   ·show Value.isStrOf k x.2=true
    rw[h2];simp[Value.isStrOf]
   ·rw[h2];rfl
  ·exact eL.elems (prog:=prog) t x hx
theorem eL.mem{w:World}{k:Str}:∀{ks:List Str} {es:List (Int×Value)},eL w ks es->(k∈ks↔∃e∈es,Value.isStrOf k e.2=true)
 |_,_,.nil=>by simp
 |_,_,.cons (a:=j) (b:=e) h t=>by
  obtain⟨h1,tk,h2⟩:=h
  have ih:=eL.mem (k:=k) t
  have hd:Value.isStrOf k e.2=true↔k=j:=by
   rw[h2]
   constructor
   ·intro q
    obtain⟨u,hu⟩:=Value.isStrOf_shape q
    injection hu with hx _
    exact hx.symm
   ·rintro rfl;simp[Value.isStrOf]
  rw[KR,ih]
  constructor
  ·rintro(q|⟨x,hx,q⟩)
   ·exact⟨e,K9,hd.mpr q⟩
   ·exact⟨x,K6 _ hx,q⟩
  ·rintro⟨x,hx,q⟩
   rcases KR.mp hx with rfl|hx
   ·exact .inl (hd.mp q)
   ·exact .inr ⟨x,hx,q⟩
def eL.perm{w:World}{es es':List (Int×Value)}(p:List.Perm es' es):∀{ks:List Str},eL w ks es->∃ks',eL w ks' es'/\ks'.Perm ks:=by
 have back:∀{es es':List (Int×Value)},List.Perm es es'->∀{ks:List Str},eL w ks es->∃ks',eL w ks' es'/\ks'.Perm ks:=by
  intro es es' p
  induction p with
  |nil=>intro ks h;exact⟨ks,h,.refl _⟩
  |cons x _ ih =>
   intro ks h
   cases h with
   |cons h t =>
    obtain⟨ks',h',q⟩:=ih t
    exact⟨_::ks',.cons h h',q.cons _⟩
  |swap x y l =>
   intro ks h
   cases h with
   |cons h t =>
    cases t with
    |cons h2 t=>exact⟨_,.cons h2 (.cons h t),.swap _ _ _⟩
  |trans _ _ ih1 ih2 =>
   intro ks h
   obtain⟨k1,h1,q1⟩:=ih1 h
   obtain⟨k2,h2,q2⟩:=ih2 h1
   exact⟨k2,h2,q2.trans q1⟩
 intro ks h
 exact back p.symm h
theorem eL.snoc{w:World}{k:Str}{tk:Tok}:∀{ks:List Str} {es:List (Int×Value)},eL w ks es->eL w (ks++[k]) (es++[(hashStr w k,Value.str k tk)])
 |_,_,.nil=>.cons ⟨rfl,tk,rfl⟩ .nil
 |_,_,.cons h t=>.cons h (eL.snoc t)
def eL.len{w:World}{ks:List Str}{es:List (Int×Value)}(h:eL w ks es):ks.length=es.length:=KZ h
def uO(t:SetTable)(es:Array (Int×Value))(h:Int)(x:Value):(layNew t es h x).2.1.led=t.led:=by
 unfold layNew
 split
 ·show(SetTable.orStandIn _ _).led=_
  unfold SetTable.orStandIn
  split <;> rfl
 ·rfl
def qK(t:SetTable)(es:Array (Int×Value))(h:Int)(x:Value):(layNew t es h x).2.1.plain=true->t.plain=true:=by
 unfold layNew
 split
 ·show(SetTable.orStandIn _ _).plain=true->_
  unfold SetTable.orStandIn
  split
  ·exact id
  ·intro q;cases q
 ·intro q;cases q
def qF(t:SetTable)(es:Array (Int×Value))(n:Nat):(relayAll t es n).2.1.led=t.led:=by
 unfold relayAll
 split
 ·rename_i t' order hr
  dsimp only
  split
  ·unfold SetTable.relaid SetTable.laid at hr
   simp only[Qw,PL]at hr
   obtain⟨ow,_,hr⟩:=hr
   cases hr
   rfl
  ·rfl
 ·rfl
def nI(t:SetTable)(es:Array (Int×Value))(n:Nat):(relayAll t es n).2.1.plain=true->t.plain=true:=by
 unfold relayAll
 split
 ·rename_i t' order hr
  dsimp only
  split
  ·unfold SetTable.relaid SetTable.laid at hr
   simp only[Qw,PL]at hr
   obtain⟨ow,_,hr⟩:=hr
   cases hr
   exact id
  ·intro q;cases q
 ·intro q;cases q
def zB{h:Heap}{a:Addr}{o:Obj}{es es':Array (Int×Value)}{ep:Nat}{t t':SetTable}(ho:h.get? a=some o)(hd:o.data=.set es ep t) :
  (h.update a (Obj.putSet es' t')).get? a=some { o with data:=.set es' (ep+1) t' }:=by
 have q:=L8 (Obj.putSet es' t') ho (by rw[putSet_of es' t' hd];rfl)
 rw[putSet_of es' t' hd]at q
 exact q
def wA{g:Bool->Sem Unit}(hg:∀(b:Bool) (s₁:Shared) (Q':Unit->Shared->Prop),Q' () s₁->wpAny (model prog w) A (g b) Q' E s₁){a:Addr}{o:Obj}{es es1:Array (Int×Value)}{ep:Nat}{t t2:SetTable}
  {ks ks1:List Str} {dm:Bool} {R:Option Bool->Shared->Prop} (ho:s.heap.get? a=some o) (hex:o.ExactSet) (hd:o.data=.set es ep t) (he:eL w ks1 es1.toList) (hp:ks1.Perm ks) (hn:ks.Nodup)
  (hb:es1.size<scanBound) (hf:t2.fits es1.size=true) (hpl:t2.plain=false) (hle:t2.led = !dN w)
  (h:∀h',Heap.SameBut a s.heap h'->df w h' a ks->R (some true) { s with heap:=h' }) :
  wpAny (model prog w) A (do
    storeSet a es1 t2
    if (!dm&&t2.tooFull)=true then do
      g (relayAll t2 es1 (SetTable.grown es1.size)).2.2
      storeSet a (relayAll t2 es1 (SetTable.grown es1.size)).1 (relayAll t2 es1 (SetTable.grown es1.size)).2.1
      pure (some true)
     else pure (some true)) R E s:=by
 refine Kv (wpAny_storeSet_of ho hd ?_ (Oj hb))
 have ho1:=zB (es':=es1) (t':=t2) ho hd
 have sb1:=LX s.heap a (Obj.putSet es1 t2)
 by_cases hc:(!dm&&t2.tooFull)=true
 ·rw[KP hc]
  have q1:=relayAll_perm t2 es1 (SetTable.grown es1.size)
  have q2:=relayAll_fits t2 es1 (SetTable.grown es1.size)
  have q3:=qF t2 es1 (SetTable.grown es1.size)
  have q4:=nI t2 es1 (SetTable.grown es1.size)
  generalize relayAll t2 es1 (SetTable.grown es1.size)=L at q1 q2 q3 q4 ⊢
  obtain⟨es2,t3,gave⟩:=L
  dsimp only at q1 q2 q3 q4 ⊢
  have zs:es2.size=es1.size:=by rw[<-L7,q1.length_eq,L7]
  refine Kv (hg _ _ _ ?_)
  refine Kv (wpAny_storeSet_of ho1 rfl ?_ (Oj (by rw[zs];exact hb)))
  have ho2:=zB (es':=es2) (t':=t3) ho1 rfl
  obtain⟨ks2,e2,p2⟩:=he.perm q1
  refine Kz (h _ (sb1.trans (LX _ a _)) ⟨_,es2,ep+1+1,t3,ks2,ho2,hex,rfl,e2,p2.trans hp,hn,by rw[zs];exact hb,q2,λz=>?_,q3.trans hle⟩)
  rw[hpl]at q4
  exact absurd (q4 z) Lb
 ·rw[KD hc]
  exact Kz (h _ sb1 ⟨_,es1,ep+1,t2,ks1,ho1,hex,rfl,he,hp,hn,hb,hf,λz=>(by rw[hpl]at z;cases z),hle⟩)
def dY(ks:List Str)(k:Str):List Str:=if k∈ks then ks else ks++[k]
def gL{ks:List Str}{k:Str}(h:ks.Nodup):(dY ks k).Nodup:=by
 unfold dY
 split
 ·exact h
 ·rename_i q
  refine LM.mpr ⟨h,by simp,λa ha b hb=>?_⟩
  have:b=k:=by simpa using hb
  subst this
  rintro rfl
  exact q ha
def kK(ks:List Str)(k:Str):(dY ks k).length<=ks.length+1:=by
 unfold dY
 split
 ·lia
 ·simp
def uk{a:Addr}{ks:List Str}{k:Str}{tk:Tok}{Q:Bool->Shared->Prop}(hS:df w s.heap a ks)(hroom:ks.length+1<scanBound)
  (h:∀(h':Heap) (b:Bool),Heap.SameBut a s.heap h'->df w h' a (dY ks k)->Q b { s with heap:=h' }):wpAny (model prog w) A (setAddHashed a (.str k tk) (hashStr w k)) Q E s:=by
 obtain⟨o,es,ep,t,ks',ho,hex,hd,he,hp,hn,hb,hf,hpl,hle⟩:=hS
 have hel:ElemsOf (strKind prog w) es.toList:=he.elems
 have hkey:(strKind prog w).is k (.str k tk)=true:=by simp[strKind,Value.isStrOf]
 have hsc:(Value.str k tk).scannable=true:=rfl
 have szl:es.size=ks.length:=by rw[<-hp.length_eq,he.len,L7]
 unfold setAddHashed setAddHashedIn
 refine LY (Kv (Nc ho hd hf ?_))
 dsimp only
 rw[byScan_of hsc hb hel]
 simp only[↓reduceIte]
 unfold setAddByScan
 refine Kv ?_
 refine Kv (Mu ?_)
 refine Kv (wpAny_setScan_of (knd:=strKind prog w) hkey ho hd hf hel ?_)
 cases hr:List.findIdx? (λe=>(strKind prog w).is k e.2) es.toList with
 |some j =>
  dsimp only
  obtain⟨hj,hpj,_⟩:=List.findIdx?_eq_some_iff_getElem.mp hr
  have hin:k∈ks:=hp.mem_iff.mp (he.mem.mpr ⟨es.toList[j],Mr hj,hpj⟩)
  refine Kz (Kz ?_)
  have e:s={ s with heap:=s.heap }:=by cases s;rfl
  rw[e]
  refine h s.heap _ (Heap.SameBut.refl a s.heap) ?_
  unfold dY
  rw[KP hin]
  exact⟨o,es,ep,t,ks',ho,hex,hd,he,hp,hn,hb,hf,hpl,hle⟩
 |none =>
  dsimp only
  have hout:¬k∈ks:=λz=>by
   obtain⟨e,he',q⟩:=he.mem.mp (hp.mem_iff.mpr z)
   have:=List.findIdx?_eq_none_iff.mp hr e he'
   rw[show(strKind prog w).is k e.2=Value.isStrOf k e.2 from rfl,q]at this
   cases this
  have gw:∀(b:Bool) {s₁:Shared} {Q':Unit->Shared->Prop},Q' () s₁->wpAny (model prog w) A (match b with|true=>rule "set.scan.the-table-gave-way" | false=>pure ()) Q' E s₁:=λb s₁ Q' hq=>by
   cases b with
   |true=>exact Mu hq
   |false=>exact Kz hq
  have q1:=layNew_perm t es (hashStr w k) (.str k tk)
  have q2:=layNew_fits t es (hashStr w k) (.str k tk)
  have q3:=uO t es (hashStr w k) (.str k tk)
  have q4:=qK t es (hashStr w k) (.str k tk)
  have hsame:(strKind prog w).hash k=hashStr w k:=rfl
  generalize layNew t es (hashStr w k) (.str k tk)=L at q1 q2 q3 q4 ⊢
  obtain⟨es1,t1,dm,gave⟩:=L
  dsimp only at q1 q2 q3 q4 ⊢
  rw[Nd]at q1
  obtain⟨ks1,e1,p1⟩:=(he.snoc (k:=k) (tk:=tk)).perm q1
  have p2:ks1.Perm (dY ks k):=by
   unfold dY
   rw[KD hout]
   exact p1.trans (hp.append_right _)
  have z1:es1.size=ks.length+1:=by rw[<-L7,<-e1.len,p1.length_eq,KA,hp.length_eq];rfl
  have b1:es1.size<scanBound:=by rw[z1];exact hroom
  refine Kv (gw _ ?_)
  by_cases hpt:t1.plain=true
  ·rw[KP hpt]
   refine Kv ?_
   rw[hashByValue_scannable 8 hsc]
   refine Kz ?_
   refine wA (o:=o) (ks:=dY ks k) ?_ ho hex hd e1 p2 (gL hn) b1 ?_ ?_ ?_ ?_
   ·intro b s₁ Q' hq;exact gw b hq
   ·exact SetTable.fits_plain_off q2
   ·rfl
   ·exact q3.trans hle
   ·intro h' sb hS';dsimp only;exact wpAny_pure (h h' _ sb hS')
  ·rw[KD hpt]
   refine Kv (Kz ?_)
   simp only[↓reduceIte]
   refine wA (o:=o) (ks:=dY ks k) ?_ ho hex hd e1 p2 (gL hn) b1 q2 (by simpa using hpt) (q3.trans hle) ?_
   ·intro b s₁ Q' hq;exact gw b hq
   ·intro h' sb hS';dsimp only;exact wpAny_pure (h h' _ sb hS')
end UfSet
end
section
namespace UfSet
open PySem
def cN:Slot "set_iterator" "__next__" "set_iterator.__next__" :=
 .of (owner:="set_iterator") (n:="__next__") (by rw[OG,NH];kernel_rfl) (by decide +kernel) (by decide +kernel) (by decide +kernel)
  (by first|exact .inl (by decide +kernel)|exact .inr (by decide +kernel)) (by rw[Qh];kernel_rfl)
def jN:Slot "set_iterator" "__iter__" "set_iterator.__iter__" :=
 .of (owner:="set_iterator") (n:="__iter__") (by rw[OG,NH];kernel_rfl) (by decide +kernel) (by decide +kernel) (by decide +kernel)
  (by first|exact .inl (by decide +kernel)|exact .inr (by decide +kernel)) (by rw[Qh];kernel_rfl)
def iW:entryFor table "set_iterator.__next__"=some Builtin.«set_iterator.__next__»:=entryFor_of_fast (by kernel_rfl)
def oy:entryFor table "set_iterator.__iter__"=some Builtin.«dict_keyiterator.__iter__» :=
 entryFor_alias (id' := "dict_keyiterator.__iter__") (by kernel_rfl) rfl (by decide +kernel) (by kernel_rfl)
def jD(a:Value):argsOk "set_iterator.__next__" ⟨[a],[]⟩:=by unfold argsOk;kernel_rfl
def qN(a:Value):argsOk "set_iterator.__iter__" ⟨[a],[]⟩:=by unfold argsOk;kernel_rfl
def pN:entryFor table "set.__iter__"=some Builtin.«frozenset.__iter__» :=
 entryFor_alias (id' := "frozenset.__iter__") (by kernel_rfl) rfl (by decide +kernel) (by kernel_rfl)
end UfSet
end
section
namespace UfSet
open PySem
theorem je{α:Type}:∀(xs:List α) (i:Nat) (h:i<xs.length),(xs[i]::xs.eraseIdx i).Perm xs
 |[],i,h=>absurd h (by simp)
 |x::xs,0,h=>.refl _
 |x::xs,i+1,h=>by
  have ih:=je xs i (by simpa using h)
  show((xs[i]'(by simpa using h))::x::xs.eraseIdx i).Perm (x::xs)
  exact(List.Perm.swap _ _ _).trans (ih.cons x)
def dC(a:Addr)(n ep:Nat)(first:Value)(i:Nat):Obj:={ cls:=.type "set_iterator",data:=.fields #[first,.int i 0,.ref a,.int n 0,.int ep 0] }
def vo{src:Source}{n:Nat}{Q:Nat->Shared->Prop}(hn:n≠0)(h:∀x d,x<n->Q x { s with drawn:=d }):wpAny (model prog w) A (choose src n) Q E s:=by
 intro Γ p _
 show Sem.wp _ Γ (.choose src n .pure) _ _ p s
 rw[Sem.wp_choose]
 refine⟨hn,?_⟩
 simp only[Sem.wp_pure]
 exact h _ _ (Nat.mod_lt _ (Nat.pos_of_ne_zero hn))
theorem qX{α:Type}:∀(n:Nat) (xs:List α) (s:Shared) {Q:List α->Shared->Prop},xs.length=n->(∀ys d,ys.Perm xs->Q ys { s with drawn:=d })->wpAny (model prog w) A (drawOrder n xs) Q E s
 |0,xs,s,Q,hl,h=>by
  have:xs=[]:=MQ hl
  subst this
  exact Kz (h [] s.drawn (.refl _))
 |n+1,[],s,Q,hl,h=>by simp at hl
 |n+1,x::xs,s,Q,hl,h=>by
  show wpAny _ _ (choose .order (x::xs).length >>= λi=>match (x::xs)[i]? with|some y=>(do return y::(<-drawOrder n ((x::xs).eraseIdx i)))|none=>unsupported "internal:drawOrder") _ _ s
  refine Kv (vo (by simp) λi d hi=>?_)
  have e:(x::xs)[i]?=some (x::xs)[i]:=Kx hi
  rw[e]
  dsimp only
  refine Kv (qX n _ _ (by rw[Qo,KP hi];lia) λys d' p=>Kz ?_)
  exact h _ d' ((p.cons _).trans (je _ _ hi))
def mU{it a:Addr}{n ep i:Nat}{first:Value}{x:Value}{Q:Option Value->Shared->Prop}(ho:s.heap.get? it=some (dC a n ep first i))
  (h:wpAny (model prog w) A.in1 (Builtin.«set_iterator.__next__» ⟨[.ref it],[]⟩) (λfin s'=>fin=.done (.ret x)/\Q (some x) s') (λ_ _=>False) s):wpAny (model prog w) A (pyNext (.ref it)) Q E s:=by
 have hT:s.TypeIs (.ref it) "set_iterator":=⟨_,ho,rfl⟩
 unfold pyNext
 refine Kv (Qt (PM (name:=Str.ofString "__next__") hT cN (Ms cN hT iW ?_ (jD _))))
 refine Mp h (λfin s' hq=>?_) λ_ _ z=>z.elim
 obtain⟨rfl,hq⟩:=hq
 exact⟨x,rfl,Kz hq⟩
def fq{h:Heap}{it a:Addr}{n ep i:Nat}{first:Value}{k:Nat}{x:Value}(ho:h.get? it=some (dC a n ep first i)) :
  (h.update it (Obj.mapFields (·.setIfInBounds k x))).get? it=some { dC a n ep first i with data:=.fields ((#[first,.int i 0,.ref a,.int n 0,.int ep 0]:Array Value).setIfInBounds k x) } :=
 L8 _ ho rfl
def p8{it a:Addr}{n ep i:Nat}{first:Value}{Q:Option Value->Shared->Prop}(hh:A.handled=none)(ho:s.heap.get? it=some (dC a n ep first i))
  (h:∀{Q' : Fin->Shared->Prop} {E' : Value->Shared->Prop},(∀h',Heap.SameBut it s.heap h'->wpAny (model prog w) A.in1 (do raiseNew (<-newExc (.type "StopIteration") [])) Q' E' { s with heap:=h' }) ->
   wpAny (model prog w) A.in1 (Builtin.«set_iterator.__next__» ⟨[.ref it],[]⟩) Q' E' s)
  (hQ:∀h',Heap.ExtBut it s.heap h'->Q none { s with heap:=h' }):wpAny (model prog w) A (pyNext (.ref it)) Q E s:=by
 have hT:s.TypeIs (.ref it) "set_iterator":=⟨_,ho,rfl⟩
 unfold pyNext
 refine Kv (Qt (PM (name:=Str.ofString "__next__") hT cN (Ms cN hT iW ?_ (jD _))))
 refine h λh1 sb=>?_
 refine Kv ?_
 simp only[newExc,newTuple]
 refine Kv (Mo ?_ (by size_fits))
 refine Kv (m:=firstArgMember _ _) (wpAny_of_eq (a:=Value.none) (by first|rfl|(simp only[firstArgMember];rfl)) ?_)
 refine Mo ?_ (by size_fits)
 simp only[raiseNew]
 refine Kv (wpAny_handled ?_)
 have hh1:A.in1.handled=none:=hh
 rw[hh1]
 refine Kv (Kz (wpAny_throw ?_))
 refine Kv (OA (T:="StopIteration") (b:=true) ⟨_,KY _ rfl,rfl⟩ isSubtype_stop ?_)
 exact Kz (hQ _ ((sb.extBut.push _).push _))
section
variable {it a T:Addr}{o oT:Obj}{es:Array (Int×Value)}{ep i:Nat}{t:SetTable}{pl:List Nat}{c:Nat}
def uY{p:Nat}{hx:Int}{x:Value}{Q:Option Value->Shared->Prop}(ho:s.heap.get? it=some (dC a es.size ep (.ref T) i))(ha:s.heap.get? a=some o)(hd:o.data=.set es ep t)(hf:t.fits es.size=true)
  (hT:s.heap.get? T=some oT) (hTd:oT.data=.seq (pl.map λ(j:Nat)=>Value.int j 0).toArray c) (hp:pl[i]?=some p) (hx:es[p]?=some (hx,x))
  (h:∀h',h'.get? it=some (dC a es.size ep (.ref T) (i+1))->Heap.SameBut it s.heap h'->Q (some x) { s with heap:=h' }):wpAny (model prog w) A (pyNext (.ref it)) Q E s:=by
 refine mU (x:=x) ho ?_
 unfold Builtin.«set_iterator.__next__»
 show wpAny _ _ (fieldsOf (.ref it) >>= _) _ _ s
 refine Kv (NI ho rfl ?_)
 dsimp only
 refine Kv (My ha hd hf ?_)
 rw[KD (by simp)]
 show wpAny _ _ (seqItems? (.ref T) >>= _) _ _ s
 refine Kv (Ni hT hTd ?_)
 dsimp only
 have e1:((pl.map λ(j:Nat)=>Value.int j 0).toArray)[i]?=some (.int p 0):=by simp[hp]
 simp only[LI,e1]
 unfold setNextDrawn
 refine Kv (Kv (Nc ha hd hf ?_))
 dsimp only
 rw[KD (by simp)]
 simp only[hx]
 refine Kz ?_
 refine Kv (MI ho rfl (by simp) (Kz ⟨rfl,h _ ?_ (LX ..)⟩))
 rw[fq ho]
 simp[dC,rawInt]
def yt{Q:Option Value->Shared->Prop}(hh:A.handled=none)(ho:s.heap.get? it=some (dC a es.size ep (.ref T) i))(ha:s.heap.get? a=some o)(hd:o.data=.set es ep t)(hf:t.fits es.size=true)
  (hT:s.heap.get? T=some oT) (hTd:oT.data=.seq (pl.map λ(j:Nat)=>Value.int j 0).toArray c) (hp:pl[i]?=none)
  (h:∀h',Heap.ExtBut it s.heap h'->Q none { s with heap:=h' }):wpAny (model prog w) A (pyNext (.ref it)) Q E s:=by
 refine p8 hh ho (λ{Q' E'} hq=>?_) h
 unfold Builtin.«set_iterator.__next__»
 show wpAny _ _ (fieldsOf (.ref it) >>= _) _ _ s
 refine Kv (NI ho rfl ?_)
 dsimp only
 refine Kv (My ha hd hf ?_)
 rw[KD (by simp)]
 show wpAny _ _ (seqItems? (.ref T) >>= _) _ _ s
 refine Kv (Ni hT hTd ?_)
 dsimp only
 have e1:((pl.map λ(j:Nat)=>Value.int j 0).toArray)[i]?=none:=by simpa using hp
 simp only[LI,e1]
 refine Kv (MI ho rfl (by simp) ?_)
 refine Kv (MI (fq ho) rfl (by simp) ?_)
 exact hq _ ((LX ..).trans (LX ..))
end
theorem vZ{α:Type}{next:Nat->Nat}:∀(n k:Nat) (left:List α) (out:Array α),left.length=n->∃ys:List α,ys.Perm left/\(pickOrder.go next n k left out).toList=out.toList++ys
 |0,k,left,out,hl=>by
  have:left=[]:=MQ hl
  subst this
  exact⟨[],.refl _,by simp[pickOrder.go]⟩
 |n+1,k,left,out,hl=>by
  have hlt:next k % left.length<left.length:=Nat.mod_lt _ (by lia)
  obtain⟨ys,q1,q2⟩:=vZ (next:=next) n (k+1) (left.eraseIdx (next k % left.length)) (out.push left[next k % left.length]) (by rw[Qo,KP hlt];lia)
  refine⟨left[next k % left.length]::ys,(q1.cons _).trans (je _ _ hlt),?_⟩
  unfold pickOrder.go
  rw[Kx hlt]
  dsimp only
  rw[q2,Nd,Mw]
  rfl
def yI{α:Type}(next:Nat->Nat)(xs:Array α):(pickOrder next xs).toList.Perm xs.toList:=by
 obtain⟨ys,q1,q2⟩:=vZ (next:=next) xs.size 0 xs.toList #[] (by simp)
 unfold pickOrder
 rw[q2]
 simpa using q1
section
variable {it a:Addr}{o:Obj}{es:Array (Int×Value)}{ep i:Nat}{t:SetTable}
def iV{Q:Option (Value×Nat)->Shared->Prop}{sl g:Nat}(hb:dN w=true)(ha:s.heap.get? a=some o)(hd:o.data=.set es ep t)(hf:t.fits es.size=true)
  (h:Q (((pickOrder (w.params.setOrder a ep) es)[g]?).map λe=>(e.2,sl)) s):wpAny (model prog w) A (setNext a sl g ep) Q E s:=by
 unfold setNext
 refine Kv (Nc ha hd hf ?_)
 dsimp only
 refine Kv ?_
 unfold setsByText
 refine Kv (Nj (Kz ?_))
 have key:∀{α:Type} (x y:Sem α),(if (⟨(model prog w).prog,(model prog w).w.params⟩:Setting).params.followText "set-order"=true then x else y)=x:=λx y=>KP hb
 rw[key,KD (by simp)]
 refine Kv ?_
 unfold setWalk
 refine Kv (Nc ha hd hf ?_)
 dsimp only
 refine Kv ?_
 unfold setsByText
 refine Kv (Nj (Kz ?_))
 rw[key]
 refine Kv (Nj (Kz ?_))
 exact Kz h
def yY{hx:Int}{x:Value}{Q:Option Value->Shared->Prop}(hb:dN w=true)(ho:s.heap.get? it=some (dC a es.size ep (.int 0 0) i))(ha:s.heap.get? a=some o)(hd:o.data=.set es ep t)(hf:t.fits es.size=true)
  (hp:(pickOrder (w.params.setOrder a ep) es)[i]?=some (hx,x))
  (h:∀h',h'.get? it=some (dC a es.size ep (.int 0 0) (i+1))->Heap.SameBut it s.heap h'->Q (some x) { s with heap:=h' }):wpAny (model prog w) A (pyNext (.ref it)) Q E s:=by
 refine mU (x:=x) ho ?_
 unfold Builtin.«set_iterator.__next__»
 show wpAny _ _ (fieldsOf (.ref it) >>= _) _ _ s
 refine Kv (NI ho rfl ?_)
 dsimp only
 refine Kv (My ha hd hf ?_)
 rw[KD (by simp)]
 refine Kv (iV (sl:=0) (g:=i) hb ha hd hf ?_)
 rw[LI,hp]
 dsimp only[Option.map]
 refine Kv (MI ho rfl (by simp) ?_)
 refine Kv (MI (fq ho) rfl (by simp) (Kz ⟨rfl,h _ ?_ ((LX ..).trans (LX ..))⟩))
 rw[L8 _ (fq ho) rfl]
 simp[dC,rawInt,Obj.mapFields]
def Br{Q:Option Value->Shared->Prop}(hh:A.handled=none)(hb:dN w=true)(ho:s.heap.get? it=some (dC a es.size ep (.int 0 0) i))(ha:s.heap.get? a=some o)(hd:o.data=.set es ep t)(hf:t.fits es.size=true)
  (hp:(pickOrder (w.params.setOrder a ep) es)[i]?=none)
  (h:∀h',Heap.ExtBut it s.heap h'->Q none { s with heap:=h' }):wpAny (model prog w) A (pyNext (.ref it)) Q E s:=by
 refine p8 hh ho (λ{Q' E'} hq=>?_) h
 unfold Builtin.«set_iterator.__next__»
 show wpAny _ _ (fieldsOf (.ref it) >>= _) _ _ s
 refine Kv (NI ho rfl ?_)
 dsimp only
 refine Kv (My ha hd hf ?_)
 rw[KD (by simp)]
 refine Kv (iV (sl:=0) (g:=i) hb ha hd hf ?_)
 rw[LI,hp]
 dsimp only[Option.map]
 refine Kv (MI ho rfl (by simp) ?_)
 exact hq _ (LX ..)
end
section
variable {it a:Addr}{o:Obj}{es:Array (Int×Value)}{ep i sl:Nat}{t:SetTable}
def jv{Q:Option (Value×Nat)->Shared->Prop}{g:Nat}(hb:dN w=false)(hl:t.led=true)(h1:es.size<=1)(ha:s.heap.get? a=some o)(hd:o.data=.set es ep t)(hf:t.fits es.size=true)
  (h:Q (match es[SetTable.below t.place sl]?,t.place[SetTable.below t.place sl]? with|some (_,x),some j=>some (x,j+1)|_,_=>none) s):wpAny (model prog w) A (setNext a sl g ep) Q E s:=by
 unfold setNext
 refine Kv (Nc ha hd hf ?_)
 dsimp only
 refine Kv ?_
 unfold setsByText
 refine Kv (Nj (Kz ?_))
 have hb':w.params.followText "set-order"=false:=hb
 have h2:¬es.size > 1:=by lia
 simp only[model,hb',LN,MC]
 rw[KD (by show ¬((!t.plain&&decide (es.size > 1))=true);simp[h2])]
 refine Kv ?_
 show wpAny _ _ (if (!t.led && !es.isEmpty)=true then unsupported "set:maker-not-led" else pure ()) _ _ s
 rw[hl]
 exact Kz (Kz h)
def yG(hf:t.fits es.size=true)(h1:es.size=1):∃j,t.place = #[j]:=by
 have q:t.place.size=1:=by
  have:=(Lv.mp (show(t.place.size==es.size&&decide (t.fill<=t.mask))=true from hf)).1
  rw[h1]at this
  simpa using this
 generalize t.place=pl at q
 obtain⟨l⟩:=pl
 have q':l.length=1:=q
 match l,q' with
 |[j],_=>exact⟨j,rfl⟩
def sN(j:Nat):SetTable.below #[j] 0=0:=by
 unfold SetTable.below
 simp[SetTable.below.go]
def ub(j:Nat):SetTable.below #[j] (j+1)=1:=by
 unfold SetTable.below
 simp[SetTable.below.go]
def Af(t:SetTable)(n i sl:Nat):Prop:=(i=0/\sl=0)\/(i=1/\n=1/\∃j,t.place = #[j]/\sl=j+1)
def BA{hx:Int}{x:Value}{Q:Option Value->Shared->Prop}(hb:dN w=false)(hl:t.led=true)(h1:es.size=1)(ho:s.heap.get? it=some (dC a es.size ep (.int 0 0) 0))(ha:s.heap.get? a=some o)(hd:o.data=.set es ep t)(hf:t.fits es.size=true)
  (hp:es[0]?=some (hx,x))
  (h:∀h' sl,Af t es.size 1 sl->h'.get? it=some (dC a es.size ep (.int sl 0) 1)->Heap.SameBut it s.heap h'->Q (some x) { s with heap:=h' }):wpAny (model prog w) A (pyNext (.ref it)) Q E s:=by
 obtain⟨j,hj⟩:=yG hf h1
 refine mU (x:=x) ho ?_
 unfold Builtin.«set_iterator.__next__»
 show wpAny _ _ (fieldsOf (.ref it) >>= _) _ _ s
 refine Kv (NI ho rfl ?_)
 dsimp only
 refine Kv (My ha hd hf ?_)
 rw[KD (by simp)]
 refine Kv (jv (sl:=0) (g:=0) hb hl (by lia) ha hd hf ?_)
 rw[hj,sN,hp]
 show wpAny _ _ (setField (.ref it) 0 (rawInt ((j+1:Nat):Int)) >>= λ_=>setField (.ref it) 1 (rawInt (((0:Nat):Int)+1)) >>= λ_=>ret x) _ _ s
 refine Kv (MI ho rfl (by simp) ?_)
 refine Kv (MI (fq ho) rfl (by simp) (Kz ⟨rfl,h _ (j+1) (.inr ⟨rfl,h1,j,hj,rfl⟩) ?_ ((LX ..).trans (LX ..))⟩))
 rw[L8 _ (fq ho) rfl]
 simp[dC,rawInt,Obj.mapFields]
def Ct{Q:Option Value->Shared->Prop}(hh:A.handled=none)(hb:dN w=false)(hl:t.led=true)(h1:es.size<=1)(hat:Af t es.size i sl)(hi:es.size<=i)(ho:s.heap.get? it=some (dC a es.size ep (.int sl 0) i))(ha:s.heap.get? a=some o)(hd:o.data=.set es ep t)
  (hf:t.fits es.size=true) (h:∀h',Heap.ExtBut it s.heap h'->Q none { s with heap:=h' }):wpAny (model prog w) A (pyNext (.ref it)) Q E s:=by
 refine p8 hh ho (λ{Q' E'} hq=>?_) h
 unfold Builtin.«set_iterator.__next__»
 show wpAny _ _ (fieldsOf (.ref it) >>= _) _ _ s
 refine Kv (NI ho rfl ?_)
 dsimp only
 refine Kv (My ha hd hf ?_)
 rw[KD (by simp)]
 refine Kv (jv (sl:=sl) (g:=i) hb hl h1 ha hd hf ?_)
 have key:(match es[SetTable.below t.place sl]?,t.place[SetTable.below t.place sl]? with|some (_,x),some j=>some (x,j+1)|_,_=>none)=(none:Option (Value×Nat)):=by
  rcases hat with⟨rfl,rfl⟩|⟨rfl,hn,j,hj,rfl⟩
  ·have e0:es = #[]:=by
    have:es.size=0:=by lia
    exact Array.eq_empty_of_size_eq_zero this
   subst e0
   simp
  ·rw[hj,ub]
   simp
 rw[key]
 dsimp only
 refine Kv (MI ho rfl (by simp) ?_)
 exact hq _ (LX ..)
end
end UfSet
end
section
namespace UfSet
open PySem
theorem eL.get{w:World}:∀{ks:List Str} {es:List (Int×Value)} {i:Nat},eL w ks es->i<es.length->∃hx k tk,es[i]?=some (hx,Value.str k tk)/\ks[i]?=some k
 |_,_,_,.nil,h=>absurd h (by simp)
 |_,_,0,.cons (a:=k) (b:=e) h t,_=>by
  obtain⟨h1,tk,h2⟩:=h
  obtain⟨e1,e2⟩:=e
  have h2:e2=Value.str k tk:=h2
  subst h2
  exact⟨e1,k,tk,rfl,rfl⟩
 |_,_,i+1,.cons h t,hl=>by
  obtain⟨hx,k,tk,q1,q2⟩:=eL.get (i:=i) t (by simpa using hl)
  exact⟨hx,k,tk,by simpa using q1,by simpa using q2⟩
def At(ord:List Str)(i:Nat)(v:Value):Prop:=∃k tk,ord[i]?=some k/\v=Value.str k tk
def pV{it a:Addr}{n ep i:Nat}{first:Value}{Q:Value->Shared->Prop}(ho:s.heap.get? it=some (dC a n ep first i))(h:Q (.ref it) s):wpAny (model prog w) A (pyIter (.ref it)) Q E s:=by
 have hT:s.TypeIs (.ref it) "set_iterator":=⟨_,ho,rfl⟩
 refine wpAny_pyIter_slot hT jN (Ms jN hT oy ?_ (qN _))
 show wpAny _ _ (ret (.ref it)) _ _ s
 exact Kz ⟨_,rfl, "set_iterator",_,hT,cN.lookup,h⟩
def rf{it a T:Addr}{o oT:Obj}{es:Array (Int×Value)}{ep c:Nat}{t:SetTable}{pl:List Nat}{ks ord:List Str}(hh:A.handled=none)(ha:a≠it)(hTi:T≠it)(hd:o.data=.set es ep t)(hf:t.fits es.size=true)(he:eL w ks es.toList)
  (hTd:oT.data=.seq (pl.map λ(j:Nat)=>Value.int j 0).toArray c) (hpl:∀(i p:Nat),pl[i]?=some p->p<es.size/\ord[i]?=ks[p]?) (hlen:pl.length=ord.length) :
  Walks prog w A it [it,a,T] [it] ord.length (At ord) (λi h=>h.get? it=some (dC a es.size ep (.ref T) i)/\h.get? a=some o/\h.get? T=some oT) where
 sub:=λb hb=>by simp at hb;simp[hb]
 frame:=λi h h' st k=>⟨k it (by simp) _ st.1,k a (by simp) _ st.2.1,k T (by simp) _ st.2.2⟩
 item:=λi s Q E hi st hQ=>by
  obtain⟨s1,s2,s3⟩:=st
  have hip:i<pl.length:=by lia
  have hp:pl[i]?=some pl[i]:=Kx hip
  obtain⟨hlt,hord⟩:=hpl i _ hp
  obtain⟨hx,k,tk,q1,q2⟩:=he.get (i:=pl[i]) (by simpa using hlt)
  refine uY s1 s2 hd hf s3 hTd hp (by rw[<-L9];exact q1) λh' st' sb=>?_
  exact hQ _ h' s.toks ⟨k,tk,hord.trans q2,rfl⟩ ⟨st',sb.extBut _ _ ha s2,sb.extBut _ _ hTi s3⟩ λb o hb e=>sb.extBut b o (λz=>hb (by simp[z])) e
 done:=λs Q E st hQ=>by
  obtain⟨s1,s2,s3⟩:=st
  exact yt hh s1 s2 hd hf s3 hTd (Ll (by lia)) λh' eb=>hQ h' s.toks λb o hb e=>eb b o (λz=>hb (by simp[z])) e
 self:=λ_ _ _ _ st hQ=>pV st.1 hQ
def ur{it a:Addr}{o:Obj}{es:Array (Int×Value)}{ep:Nat}{t:SetTable}{ord:List Str}(hh:A.handled=none)(hb:dN w=true)(ha:a≠it)(hd:o.data=.set es ep t)(hf:t.fits es.size=true)
  (he:eL w ord (pickOrder (w.params.setOrder a ep) es).toList) :
  Walks prog w A it [it,a] [it] ord.length (At ord) (λi h=>h.get? it=some (dC a es.size ep (.int 0 0) i)/\h.get? a=some o) where
 sub:=λb hb=>by simp at hb;simp[hb]
 frame:=λi h h' st k=>⟨k it (by simp) _ st.1,k a (by simp) _ st.2⟩
 item:=λi s Q E hi st hQ=>by
  obtain⟨s1,s2⟩:=st
  obtain⟨hx,k,tk,q1,q2⟩:=he.get (i:=i) (by rw[<-he.len];exact hi)
  refine yY hb s1 s2 hd hf (by rw[<-L9];exact q1) λh' st' sb=>?_
  exact hQ _ h' s.toks ⟨k,tk,q2,rfl⟩ ⟨st',sb.extBut _ _ ha s2⟩ λb o hb e=>sb.extBut b o (λz=>hb (by simp[z])) e
 done:=λs Q E st hQ=>by
  obtain⟨s1,s2⟩:=st
  refine Br hh hb s1 s2 hd hf ?_ λh' eb=>hQ h' s.toks λb o hb e=>eb b o (λz=>hb (by simp[z])) e
  rw[<-L9]
  exact Ll (by rw[<-he.len];exact KL _)
 self:=λ_ _ _ _ st hQ=>pV st.1 hQ
def yS{it a:Addr}{o:Obj}{es:Array (Int×Value)}{ep:Nat}{t:SetTable}{ord:List Str}(hh:A.handled=none)(hb:dN w=false)(hl:t.led=true)(h1:es.size<=1)(ha:a≠it)(hd:o.data=.set es ep t)(hf:t.fits es.size=true)
  (he:eL w ord es.toList) :
  Walks prog w A it [it,a] [it] ord.length (At ord) (λi h=>(∃sl,Af t es.size i sl/\h.get? it=some (dC a es.size ep (.int sl 0) i))/\h.get? a=some o) where
 sub:=λb hb=>by simp at hb;simp[hb]
 frame:=λi h h' st k=>by
  obtain⟨⟨sl,q1,q2⟩,q3⟩:=st
  exact⟨⟨sl,q1,k it (by simp) _ q2⟩,k a (by simp) _ q3⟩
 item:=λi s Q E hi st hQ=>by
  obtain⟨⟨sl,q1,q2⟩,q3⟩:=st
  have hlen:ord.length=es.size:=by(have:=he.len);(have el:es.toList.length=es.size:=by simp);lia
  have h0:es.size=1:=by lia
  rcases q1 with⟨rfl,rfl⟩|⟨rfl,_⟩
  ·obtain⟨hx,k,tk,e1,e2⟩:=he.get (i:=0) (by simp;lia)
   refine BA hb hl h0 q2 q3 hd hf (by rw[<-L9];exact e1) λh' sl' oa st' sb=>?_
   exact hQ _ h' s.toks ⟨k,tk,e2,rfl⟩ ⟨⟨sl',oa,st'⟩,sb.extBut _ _ ha q3⟩ λb o hb e=>sb.extBut b o (λz=>hb (by simp[z])) e
  ·lia
 done:=λs Q E st hQ=>by
  obtain⟨⟨sl,q1,q2⟩,q3⟩:=st
  have hlen:ord.length=es.size:=by(have:=he.len);(have el:es.toList.length=es.size:=by simp);lia
  exact Ct hh hb hl h1 q1 (by lia) q2 q3 hd hf λh' eb=>hQ h' s.toks λb o hb e=>eb b o (λz=>hb (by simp[z])) e
 self:=λ_ _ _ _ st hQ=>by
  obtain⟨⟨sl,q1,q2⟩,q3⟩:=st
  exact pV q2 hQ
def zu{a:Addr}{ks:List Str}{Q:Value->Shared->Prop}(hS:df w s.heap a ks)
  (h:∀(I:Addr) (h' : Heap) (d:Drawn) (ord:List Str) (fp:List Addr) (St:Nat->Heap->Prop),ord.Perm ks->(∀A' : Around,A'.handled = none->Walks prog w A' I fp [I] ord.length (At ord) St)->St 0 h'->I ∈ fp->s.heap.objs.size<=I ->
   (∀b o,s.heap.get? b=some o->h'.get? b=some o)->(∀b∈fp,b<h'.objs.size/\(b=a\/s.heap.objs.size<=b))->Q (.ref I) { s with heap:=h',drawn:=d }) :
  wpAny (model prog w) A (pyIter (.ref a)) Q E s:=by
 obtain⟨o,es,ep,t,ks',ho,hex,hd,he,hp,hn,hb,hf,hpl,hle⟩:=hS
 have hT:s.TypeIs (.ref a) "set":=⟨_,ho,hex.1⟩
 have alt:a<s.heap.objs.size:=KO ho
 refine wpAny_pyIter_slot hT Qi (Ms Qi hT pN ?_ (PySem.F.args_set_iter_1 _))
 show wpAny _ _ (Builtin.Frozenset.sizeOf a >>= _) _ _ s
 refine Kv ?_
 unfold Builtin.Frozenset.sizeOf
 refine Kv (My ho hd hf (Kz ?_))
 refine Kv ?_
 unfold setDrawn
 refine Kv (Nc ho hd hf ?_)
 dsimp only
 refine Kv ?_
 unfold setsByText
 refine Kv (Nj (Kz (Kz ?_)))
 have key:(!(⟨(model prog w).prog,(model prog w).w.params⟩:Setting).params.followText "set-order" && (!t.plain&&decide (es.size > 1)))=(!dN w&&(!t.plain&&decide (es.size > 1))):=rfl
 show wpAny _ _ (do
  let first <-if (!(⟨(model prog w).prog,(model prog w).w.params⟩:Setting).params.followText "set-order" && (!t.plain&&decide (es.size > 1)))=true then newTuple ((<-drawOrder es.size (List.range es.size)).map λ(i:Nat)=>rawInt i) else pure (rawInt 0)
  ret (<-newFields "set_iterator" [first,rawInt 0,.ref a,rawInt es.size,rawInt (<-setEpoch a)])) _ _ s
 rw[key]
 by_cases hdr:(!dN w&&(!t.plain&&decide (es.size > 1)))=true
 ·rw[KP hdr]
  have zs:es.size<=sizeLine:=Oj hb
  refine Kv (qX es.size (List.range es.size) s (by simp) λpl d hpp=>?_)
  have hl:pl.length=es.size:=by rw[hpp.length_eq];simp
  refine Kv (Mo ?_ (by show(pl.map λ(i:Nat)=>rawInt i).toArray.size<=sizeLine;simp;lia))
  refine Kv (wpAny_setEpoch_of (o:=o) (es:=es) (t:=t) (ep:=ep) (Ky _ ho) hd hf ?_)
  refine Kv (Mo (Kz ⟨_,rfl, "set_iterator",_,⟨_,KY _ rfl,rfl⟩,cN.lookup,?_⟩) (by size_fits))
  dsimp only
  have e1:(s.heap.push { cls:=.type "tuple",data:=.seq (pl.map λ(i:Nat)=>rawInt i).toArray }).objs.size=s.heap.objs.size+1:=by rw[Mm]
  have f:∀p,p<es.size->∃k,ks'[p]?=some k:=λp hp'=>by
   obtain⟨_,k,_,_,q⟩:=he.get (i:=p) (by simpa using hp')
   exact⟨k,q⟩
  refine h _ _ d (pl.map λp=>ks'.getD p ⟨#[]⟩) [_,a,s.heap.objs.size] _ ?_ (λA' hh'=>rf (T:=s.heap.objs.size) (oT:={ cls:=.type "tuple",data:=.seq (pl.map λ(i:Nat)=>rawInt i).toArray }) (pl:=pl) hh' ?_ ?_ hd hf he rfl (λi p hip=>?_) (by simp)) ⟨KY _ rfl,Ky _ (Ky _ ho),Ky _ (KY _ rfl)⟩ (by simp) (by rw[e1];lia) (λb ob e=>Ky _ (Ky _ e)) λb hb'=>?_
  ·have q:=hpp.map (λp=>ks'.getD p ⟨#[]⟩)
   have e2:(List.range es.size).map (λp=>ks'.getD p ⟨#[]⟩)=ks':=by
    have hk:ks'.length=es.size:=by rw[he.len];simp
    rw[<-hk]
    refine List.ext_getElem (by simp) λi h1 h2=>?_
    simp[KN,Kx h2]
   rw[e2]at q
   exact q.trans hp
  ·rw[e1];exact K5 (Lw alt)
  ·rw[e1];exact K5 (Mc _)
  ·have hm:p∈List.range es.size:=hpp.mem_iff.mp (KJ hip)
   have hlt:p<es.size:=by simpa using hm
   refine⟨hlt,?_⟩
   obtain⟨k,hk⟩:=f p hlt
   rw[KH,hip,hk]
   simp[KN,hk]
  ·simp only[KR,Lx,Mi]at hb'
   rw[Mm]
   rcases hb' with rfl|rfl|rfl
   ·exact⟨Mc _,.inr (by rw[e1];exact Mn _)⟩
   ·exact⟨by rw[e1];exact Lw (Lw alt),.inl rfl⟩
   ·exact⟨by rw[e1];exact Lw (Mc _),.inr (KL _)⟩
 ·rw[KD hdr]
  refine Kv (Kz ?_)
  refine Kv (wpAny_setEpoch_of (o:=o) (es:=es) (t:=t) (ep:=ep) ho hd hf ?_)
  refine Kv (Mo (Kz ⟨_,rfl, "set_iterator",_,⟨_,KY _ rfl,rfl⟩,cN.lookup,?_⟩) (by size_fits))
  have old:∀b ob,s.heap.get? b=some ob->(s.heap.push { cls:=.type "set_iterator",data:=.fields [rawInt 0,rawInt 0,Value.ref a,rawInt (es.size:Int),rawInt (ep:Int)].toArray }).get? b=some ob:=λb ob e=>Ky _ e
  have own:∀b∈[s.heap.objs.size,a],b<(s.heap.push { cls:=.type "set_iterator",data:=.fields [rawInt 0,rawInt 0,Value.ref a,rawInt (es.size:Int),rawInt (ep:Int)].toArray }).objs.size/\(b=a\/s.heap.objs.size<=b):=λb hb'=>by
   simp only[KR,Lx,Mi]at hb'
   rw[Mm]
   rcases hb' with rfl|rfl
   ·exact⟨Mc _,.inr (KL _)⟩
   ·exact⟨Lw alt,.inl rfl⟩
  cases hbt:dN w with
  |true =>
   obtain⟨ord,q1,q2⟩:=he.perm (yI (w.params.setOrder a ep) es)
   exact h _ _ s.drawn ord [s.heap.objs.size,a] _ (q2.trans hp) (λA' hh'=>ur hh' hbt (K5 alt) hd hf q1) ⟨KY _ rfl,Ky _ ho⟩ (by simp) (KL _) old own
  |false =>
   have h1:es.size<=1:=by
    rw[hbt]at hdr
    cases hpt:t.plain with
    |true=>have:=hpl hpt;lia
    |false =>
     rw[hpt]at hdr
     by_cases hz:es.size > 1
     ·exact absurd (by simp[hz]) hdr
     ·lia
   rw[hbt]at hle
   exact h _ _ s.drawn ks' [s.heap.objs.size,a] _ hp (λA' hh'=>yS hh' hbt hle h1 (K5 alt) hd hf he) ⟨⟨0,.inl ⟨rfl,rfl⟩,KY _ rfl⟩,Ky _ ho⟩ (by simp) (KL _) old own
end UfSet
end
section
namespace UfSet
open PySem
def zl:typeLookup (.type "set") "__len__"=pure (some (.builtin "set.__len__")):=by rw[OG,NH];kernel_rfl
def Dz:isSubtype (.type "set") (.type "set")=pure true:=by rw[Qh];kernel_rfl
def yn:splitId "set.__len__"=some ("set", "__len__"):=by decide +kernel
def mI{wr:List Addr}:∀{s s':Shared},Moved wr (λa b=>b=a) s s'->s'={ s with heap:=s'.heap,toks:=s'.toks }
 |⟨h,g,d,t,o⟩,⟨h',g',d',t',o'⟩,hm=>by
  have e1:g'=g:=hm.gens
  have e2:d'=d:=hm.drawn
  have e3:o'=o:=hm.os
  subst e1 e2 e3
  rfl
def zK{r:Addr}{Q:Bool->Shared->Prop}(hT:s.TypeIs (.ref r) "set")(h:Q false s):wpAny (model prog w) A (Builtin.List.listLengthHint (.ref r)) Q E s:=by
 unfold Builtin.List.listLengthHint
 refine Kv (Nr hT zl ?_)
 dsimp only
 rw[yn]
 dsimp only
 refine Kv (OA (T:="set") (b:=true) hT Dz ?_)
 refine PY (λz=>absurd z (by decide)) (λ_=>?_)
 refine PY (λ_=>?_) (λz=>absurd (by decide +kernel) z)
 refine Kv (OH hT ?_)
 exact Kz h
def kH{r:Addr}{T:String}{OK:Heap->Prop}{R:Nat->(Nat->Value->Prop)->Prop}{Q:List Value->Shared->Prop}(hh:A.handled=none)(hok:OK s.heap)
  (keep:∀h h':Heap,OK h->(∀b o,h.get? b=some o->h'.get? b=some o)->OK h') (hty:∀s':Shared,OK s'.heap->s'.TypeIs (.ref r) T) (hlt:∀h,OK h->r<h.objs.size)
  (nl:(Value.type T==Value.type "list")=false) (nt:(Value.type T==Value.type "tuple")=false)
  (hint:∀(A':Around) (E':Value->Shared->Prop) (s':Shared) (Q':Bool->Shared->Prop),OK s'.heap->Q' false s'->wpAny (model prog w) A' (Builtin.List.listLengthHint (.ref r)) Q' E' s')
  (iter:∀(A' : Around) (E' : Value->Shared->Prop) (s' : Shared) (Q' : Value->Shared->Prop),OK s'.heap->(∀(I:Addr) (h' : Heap) (d:Drawn) (n:Nat) (P:Nat->Value->Prop) (fp:List Addr) (St:Nat->Heap->Prop),R n P->n<=sizeLine ->
   (∀A2:Around,A2.handled=none->Walks prog w A2 I fp [I] n P St)->St 0 h'->s'.heap.objs.size<=I->(∀b o,s'.heap.get? b=some o->h'.get? b=some o)->(∀b∈fp,b=r\/s'.heap.objs.size<=b)->Q' (.ref I) { s' with heap:=h',drawn:=d }) ->
   wpAny (model prog w) A' (pyIter (.ref r)) Q' E' s')
  (h:∀(h':Heap) (tk:Nat) (d:Drawn) (n:Nat) (P:Nat->Value->Prop) (vs:List Value),R n P->vs.length=n->(∀(j:Nat) v,vs[j]?=some v->P j v)->(∀b o,s.heap.get? b=some o->h'.get? b=some o)->s.heap.objs.size<=h'.objs.size->Q vs { s with heap:=h',toks:=tk,drawn:=d }) :
  wpAny (model prog w) A (collect (.ref r)) Q E s:=by
 unfold collect
 refine Kv (wpAny_runValue (L4 PySem.F.entry_proto_collect ?_))
 rw[LQ PySem.F.plain_proto_collect _]
 show wpAny _ A.in1 (newList [] >>= λl=>again (.builtin "list.__iadd__" ⟨[l,.ref r],[]⟩)) _ _ s
 refine Kv (Mo ?_)
 refine Kz ⟨Mf PN _,L4 PySem.F.entry_list_iadd ?_⟩
 rw[LQ PN _]
 generalize hs1:(s.heap.push { cls:=.type "list",data:=.seq ([]:List Value).toArray })=h1
 have S1:h1.get? s.heap.objs.size=some { cls:=.type "list",data:=.seq #[] }:=by rw[<-hs1];exact KY _ rfl
 have k1:∀b ob,s.heap.get? b=some ob->h1.get? b=some ob:=λb ob e=>by rw[<-hs1];exact Ky _ e
 have z1:h1.objs.size=s.heap.objs.size+1:=by rw[<-hs1,Mm]
 have alt:r<s.heap.objs.size:=hlt _ hok
 have ok1:OK h1:=keep _ _ hok k1
 show wpAny _ A.in1 (Builtin.List.listExtendWith (.ref s.heap.objs.size) (.ref r) (.ref s.heap.objs.size)) _ _ { s with heap:=h1 }
 unfold Builtin.List.listExtendWith
 refine Kv (OH (T:=T) (hty { s with heap:=h1 } ok1) ?_)
 have e1:Builtin.List.listSameRef (.ref s.heap.objs.size) (.ref r)=false:=by simp[Builtin.List.listSameRef,MK alt]
 simp only[e1,nl,nt,Ou,LN,MC]
 refine Kv (iter _ _ { s with heap:=h1 } _ ok1 λI h2 d n P fp St hR zo W st hIz k2 hfp=>?_)
 have S2:=k2 _ _ S1
 refine Kv (LY (hint _ _ _ _ (keep _ _ ok1 k2) ?_))
 have nfp:s.heap.objs.size∉fp:=λhm=>by
  rcases hfp _ hm with z|z
  ·exact absurd z (MK alt)
  ·have z':h1.objs.size<=s.heap.objs.size:=z
   rw[z1]at z'
   exact absurd z' (Nat.not_succ_le_self _)
 have key:∀(h3:Heap) (c tk:Nat),St 0 h3->(∀b ob,b≠s.heap.objs.size->h2.get? b=some ob->h3.get? b=some ob)->h3.get? s.heap.objs.size=some { cls:=.type "list",data:=.seq #[] c } ->
   codeAny (model prog w) A (.builtin "list.extend.loop" ⟨[.ref s.heap.objs.size,.ref I,.ref s.heap.objs.size],[]⟩)
    (λr s'=>match r with|.ok (.ret v)=>wpAny (model prog w) A (match v with|.ref b=>(load b >>= λob=>(match ob.data with|.seq xs _=>pure xs.toList|_=>unsupported "internal:collect"))|_=>unsupported "internal:collect") Q E s'|.ok _=>False|.error e=>E e s') { s with heap:=h3,toks:=tk,drawn:=d }:=by
  intro h3 c tk st3 k3 S3
  refine codeAny_extend_loopS (W A.in1 hh).toS zo s.heap.objs.size nfp _ n 0 _ #[] c rfl (K2 _) st3 S3 (ItemsOf.nil _) λs' acc c' hm S' hacc=>?_
  dsimp only
  refine Kv (wpAny_load S' (Kz ?_))
  rw[mI hm]
  refine h s'.heap s'.toks d n P acc.toList hR (by rw[<-hacc.1];simp) (λj v e=>hacc.2 j v (by rw[<-L9];exact e)) (λb ob e=>?_) (OD (KO S'))
  have nb:b≠s.heap.objs.size:=K5 (KO e)
  refine hm.heap b ob (λhmem=>?_) (k3 b ob nb (k2 b ob (k1 b ob e)))
  rcases KR.mp hmem with z|z
  ·exact nb z
  ·have z':b=I:=by simpa using z
   subst z'
   have z2:h1.objs.size<=b:=hIz
   rw[z1]at z2
   exact absurd (K4 (KO e) (Nat.le_of_succ_le z2)) (LA _)
 refine PY (λ_=>?_) (λ_=>Kz ⟨Mf Pf _,key _ 0 _ st (λb ob _ e=>e) S2⟩)
 refine Kv (Mu ?_)
 refine Kv ?_
 show wpAny _ _ (updateSeq s.heap.objs.size (·.push .none) >>= λ_=>updateSeq s.heap.objs.size (·.pop)) _ _ _
 refine Kv (NV S2 rfl ?_)
 have S3:=L8 (Obj.mapSeq (·.push Value.none)) S2 rfl
 refine NV (hz:=by seq_fits) S3 rfl ?_
 have S4:=L8 (Obj.mapSeq (·.pop)) S3 rfl
 have oth:∀b ob,b≠s.heap.objs.size->h2.get? b=some ob->((h2.update s.heap.objs.size (Obj.mapSeq (·.push Value.none))).update s.heap.objs.size (Obj.mapSeq (·.pop))).get? b=some ob:=λb ob nb e =>
  (LJ _ _ (Li nb)).trans ((LJ _ _ (Li nb)).trans e)
 exact Kz ⟨Mf Pf _,key _ _ _ ((W A.in1 hh).frame 0 _ _ st λb hb' ob e=>oth b ob (λz=>nfp (z ▸ hb')) e) oth S4⟩
def rM{a:Addr}{ks:List Str}{Q:List Value->Shared->Prop}(hh:A.handled=none)(hS:df w s.heap a ks)
  (h:∀(h':Heap) (tk:Nat) (d:Drawn) (ord:List Str) (vs:List Value),ord.Perm ks->vs.length=ord.length->(∀(j:Nat) v,vs[j]?=some v->At ord j v)->(∀b o,s.heap.get? b=some o->h'.get? b=some o)->s.heap.objs.size<=h'.objs.size->Q vs { s with heap:=h',toks:=tk,drawn:=d }) :
  wpAny (model prog w) A (collect (.ref a)) Q E s:=by
 have kp:∀h h':Heap,df w h a ks->(∀b o,h.get? b=some o->h'.get? b=some o)->df w h' a ks:=λh1 h2 x k=>by
  obtain⟨o,es,ep,t,ks',ho,r⟩:=x
  exact⟨o,es,ep,t,ks',k _ _ ho,r⟩
 have ty:∀s':Shared,df w s'.heap a ks->s'.TypeIs (.ref a) "set":=λs' x=>by
  obtain⟨o,es,ep,t,ks',ho,hex,_⟩:=x
  exact⟨o,ho,hex.1⟩
 have zs:ks.length<=sizeLine:=by
  obtain⟨o,es,ep,t,ks',ho,hex,hd,he,hp,hn,hb,_⟩:=hS
  rw[<-hp.length_eq,he.len]
  have el:es.toList.length=es.size:=by simp
  rw[el]
  exact Oj hb
 refine kH (T:="set") (OK:=λh=>df w h a ks) (R:=λn P=>∃ord:List Str,ord.Perm ks/\n=ord.length/\P=At ord) hh hS kp ty (λh1 x=>?_) (by decide) (by decide) (λA' E' s' Q' x q=>zK (ty s' x) q) (λA' E' s' Q' x q=>?_) ?_
 ·obtain⟨o,_,_,_,_,ho,_⟩:=x
  exact KO ho
 ·exact zu x λI h' d ord fp St hp W st hI hIz k2 hfp=>q I h' d ord.length (At ord) fp St ⟨ord,hp,rfl,rfl⟩ (by rw[hp.length_eq];exact zs) W st hIz k2 λb hb=>(hfp b hb).2
 ·rintro h' tk d n P vs ⟨ord,hp,rfl,rfl⟩ hl hat hk hz
  exact h h' tk d ord vs hp hl hat hk hz
end UfSet
end
section
namespace UfSrt
open PySem PySem.Spec PyProof.Rows
def le(a b:Str):Prop:=a.cps.toList<=b.cps.toList
def leB(a b:Str):Bool:=decide (a.cps.toList<=b.cps.toList)
def leB_iff{a b:Str}:leB a b=true↔le a b:=by simp[leB,le]
def Co{a b:Str}(h:a.cps.toList=b.cps.toList):a=b:=by
 obtain⟨x⟩:=a
 obtain⟨y⟩:=b
 have:x=y:=Pp.mp h
 rw[this]
def Cu{a b:Str}(h1:le a b)(h2:le b a):a=b:=Co (List.le_antisymm h1 h2)
def EN{a b c:Str}(h1:le a b)(h2:le b c):le a c:=List.le_trans h1 h2
def Fp(a b:Str):le a b\/le b a:=List.le_total _ _
def aI(xs:List Str):List Str:=xs.mergeSort leB
def bN(xs:List Str):(aI xs).Perm xs:=Qx _ _
def uU(xs:List Str):(aI xs).Pairwise le:=by
 have h:=PQ (le:=leB) (λa b c h1 h2=>leB_iff.mpr (EN (leB_iff.mp h1) (leB_iff.mp h2))) (λa b=>by
  rcases Fp a b with h|h
  ·rw[leB_iff.mpr h];rfl
  ·rw[leB_iff.mpr h,Bool.or_true]) xs
 exact h.imp λh=>leB_iff.mp h
def pw_unique{xs ys:List Str}(h1:xs.Pairwise le)(h2:ys.Pairwise le)(p:xs.Perm ys):xs=ys :=
 MP (λa b _ _=>Cu) h1 h2 p
def zG{xs ys:List Str}(h:xs.Pairwise le)(p:xs.Perm ys):xs=aI ys:=pw_unique h (uU ys) (p.trans (bN ys).symm)
def fm{xs ys:List Str}(p:xs.Perm ys):aI xs=aI ys:=zG (uU xs) ((bN xs).trans p)
def bJ{xs:List Str}{x:Str}:x∈aI xs↔x∈xs:=(bN xs).mem_iff
def bW(xs:List Str):(aI xs).length=xs.length:=(bN xs).length_eq
def iK{xs:List Str}:(aI xs).Nodup↔xs.Nodup:=(bN xs).nodup_iff
def CI(xs:List Str):aI (aI xs)=aI xs:=fm (bN xs)
theorem o9:∀{p:Str} {l:List Str},risingS p l=true->(p::l).Pairwise le
 |p,[],_=>by simp
 |p,x::r,h=>by
  have h':(!ltCps x.cps.toList p.cps.toList&&risingS x r)=true:=h
  obtain⟨h1,h2⟩:=Lv.mp h'
  have ih:=o9 h2
  have hpx:le p x:=by
   rw[ltCps_eq]at h1
   exact QD.mp (by simpa using h1)
  refine O4.mpr ⟨λb hb=>?_,ih⟩
  rcases KR.mp hb with rfl|hb
  ·exact hpx
  ·exact EN hpx ((O4.mp ih).1 b hb)
def yk:∀{l:List Str},sortedS l=true->l.Pairwise le
 |[],_=>.nil
 |x::r,h=>o9 h
end UfSrt
end
section
namespace UfSort
open PySem PySem.Spec PyProof.Rows UfSrt
theorem gu:∀{vs:List Value} {ss:List Str},StrsAre vs ss->vs.length=ss.length
 |_,_,.nil=>rfl
 |_,_,.cons _ _ h=>by rw[Lj,Lj,gu h]
structure Left(h h':Heap)(D:Addr)(ss:List Str):Prop where
 keep:∀b o,h.get? b=some o->h'.get? b=some o
 new:h.objs.size<=D
 at':∃vs n,h'.get? D=some { cls:=.type "list",data:=.seq (List.toArray vs) n }/\StrsAre vs (aI ss)
def kz{r:Value}{ss:List Str}{Q:Value->Shared->Prop}
  (hc:∀{Q':List Value->Shared->Prop},(∀h' tk d vs ss',(∀b o,s.heap.get? b=some o->h'.get? b=some o)->s.heap.objs.size<=h'.objs.size->StrsAre vs ss'->ss'.Perm ss->Q' vs { s with heap:=h',toks:=tk,drawn:=d })->wpAny (model prog w) A.in1 (collect r) Q' E s)
  (h64:ss.length<64) (h:∀h' tk d D,Left s.heap h' D ss->Q (.ref D) { s with heap:=h',toks:=tk,drawn:=d }):wpAny (model prog w) A (call (.builtin "sorted") [r]) Q E s:=by
 refine Ng kind_sorted Pq Pt (Pu _) ?_
 unfold Builtin.«sorted»
 refine Kv (m:=checkCount "sorted" 1 1 _) (Kz ?_)
 refine Kv (hc λh1 tk d vs ss1 k1 z1 hS hp=>?_)
 have hl:vs.length=ss.length:=by rw[gu hS,hp.length_eq]
 refine Kv (Ow ?_ (by rw[LF];lia))
 have hoL:(h1.push (seqObj "list" vs.toArray 0)).get? h1.objs.size=some (seqObj "list" vs.toArray 0):=KY _ rfl
 refine Kv (LY (Ms OV ⟨_,hoL,rfl⟩ OI (list_sort_treeK strKind_oneLt hoL hS.keysOf (λv₁ v₂ rest e=>keyKind_strs (by rw[<-e];exact hS)) (by lia) λst' a1 a2=>⟨_,rfl,?_⟩) (OW _)))
 obtain⟨ss',q1,q2,q3⟩:=sorted_out_str hS a1 a2
 obtain⟨e,he⟩:=Pb (h:=h1.push (seqObj "list" vs.toArray 0)) (a:=h1.objs.size) (vs:=vs) (n:=0) (out:=(arrOf st').map (·.2)) hoL
 refine Kz ⟨_,rfl,h _ tk d _ ⟨λb o hb=>?_,?_,((arrOf st').map (·.2)).toList,e,by rw[NN];exact he,?_⟩⟩
 ·have hb1:=k1 b o hb
  rw[OX (K5 (KO hb1)) (by rw[Nt];exact Lw (KO hb1))]
  exact Ky _ hb1
 ·exact z1
 ·have:ss'=aI ss:=zG (yk q3) (q2.trans hp)
  rw[<-this]
  exact q1
theorem vY{ord:List Str}:∀{vs:List Value} {j:Nat},vs.length+j=ord.length->(∀(i:Nat) v,vs[i]?=some v->UfSet.At ord (j+i) v)->StrsAre vs (ord.drop j)
 |[],j,hl,_=>by
  rw[LP (by simp at hl;lia)]
  exact .nil
 |v::vs,j,hl,h=>by
  obtain⟨k,tk,e,hv⟩:=h 0 v rfl
  subst hv
  have hj:j<ord.length:=by simp at hl;lia
  have ej:ord[j]=k:=by
   rw[QA,Kx hj]at e
   exact Lq e
  rw[LO hj,ej]
  exact .cons k tk (vY (j:=j+1) (by simp at hl;lia) λi v e=>by
   have:=h (i+1) v (by simpa using e)
   rw[show j+1+i=j+(i+1) by lia]
   exact this)
def uc{a:Addr}{ks:List Str}{Q:Value->Shared->Prop}(hh:A.handled=none)(hS:UfSet.df w s.heap a ks)(h64:ks.length<64)
  (h:∀h' tk d D,Left s.heap h' D ks->Q (.ref D) { s with heap:=h',toks:=tk,drawn:=d }):wpAny (model prog w) A (call (.builtin "sorted") [.ref a]) Q E s :=
 kz (λ{Q'} hq=>UfSet.rM (A:=A.in1) hh hS λh' tk d ord vs hp hl hat hk hz=>hq h' tk d vs ord hk hz (by
  have:=vY (ord:=ord) (vs:=vs) (j:=0) (by lia) (λi v e=>by rw[OJ];exact hat i v e)
  simpa using this) hp) h64 h
def rZ{l:Addr}{vs:List Value}{ss:List Str}{Q:Value->Shared->Prop}(hl:s.heap.IsList l vs.toArray)(hS:StrsAre vs ss)(h64:ss.length<64)
  (h:∀h' tk d D,Left s.heap h' D ss->Q (.ref D) { s with heap:=h',toks:=tk,drawn:=d }):wpAny (model prog w) A (call (.builtin "sorted") [.ref l]) Q E s :=
 kz (λ{Q'} hq=>collect_list (A:=A.in1) hl (hq _ s.toks s.drawn vs ss (λb o e=>by
  rw[LJ _ _ (MK (KO e))]
  exact Ky _ e) (by rw[MV,Nt];exact Mn _) hS (.refl _)) (by rw[LF,gu hS];lia)) h64 h
end UfSort
end
section
namespace UfSet
open PySem PyProof.Rows
def dd(xs:List Str):List Str:=xs.foldl dY []
def Bt{ks:List Str}{k x:Str}:x∈dY ks k↔x∈ks\/x=k:=by
 unfold dY
 split
 ·rename_i h
  constructor
  ·exact .inl
  ·rintro(q|rfl)
   ·exact q
   ·exact h
 ·simp
theorem sU{x:Str}:∀{xs acc:List Str},x∈xs.foldl dY acc↔x∈acc\/x∈xs
 |[],acc=>by simp
 |y::xs,acc=>by
  rw[L5,sU,Bt,KR,or_assoc]
theorem nE:∀{xs acc:List Str},acc.Nodup->(xs.foldl dY acc).Nodup
 |[],_,h=>h
 |y::xs,acc,h=>nE (xs:=xs) (gL h)
theorem sP:∀{xs acc:List Str},(xs.foldl dY acc).length<=acc.length+xs.length
 |[],acc=>by simp
 |y::xs,acc=>by
  have h1:=sP (xs:=xs) (acc:=dY acc y)
  have h2:=kK acc y
  rw[L5,Lj]
  lia
def qB{xs:List Str}{x:Str}:x∈dd xs↔x∈xs:=by unfold dd;rw[sU];simp
def me(xs:List Str):(dd xs).Nodup:=nE .nil
theorem iY:∀{xs acc:List Str},(acc++xs).Nodup->xs.foldl dY acc=acc++xs
 |[],acc,_=>by simp
 |y::xs,acc,h=>by
  have hy:¬y∈acc:=λz=>by
   rw[LM]at h
   exact h.2.2 y z y K9 rfl
  rw[List.foldl_cons,show dY acc y=acc++[y] by unfold dY;rw[if_neg hy],iY (by rw[List.append_assoc];exact h),List.append_assoc]
  rfl
def rT{xs:List Str}(h:xs.Nodup):dd xs=xs:=by unfold dd;rw[iY (by simpa using h)];rfl
theorem oS:∀{xs acc:List Str},acc.Nodup->(xs.foldl dY acc).length=acc.length+xs.length->(acc++xs).Nodup
 |[],acc,h,_=>by simpa using h
 |y::xs,acc,h,hl=>by
  rw[L5,Lj]at hl
  by_cases hy:y∈acc
  ·rw[show dY acc y=acc by unfold dY;rw[if_pos hy]]at hl
   have:=sP (xs:=xs) (acc:=acc)
   lia
  ·have e:dY acc y=acc++[y]:=by unfold dY;rw[if_neg hy]
   rw[e]at hl
   have q:=oS (xs:=xs) (acc:=acc++[y]) (by rw[<-e];exact gL h) (by rw[KA,Mg];lia)
   rw[Mw]at q
   exact q
def uu{xs:List Str}:(dd xs).length=xs.length↔xs.Nodup:=by
 constructor
 ·intro h
  have:=oS (xs:=xs) (acc:=[]) .nil (by rw[NU,OJ];exact h)
  simpa using this
 ·intro h
  rw[rT h]
section
variable {prog:Program}{w:World}{A:Around}{R:Result->Shared->Prop}{I:Addr}{fp wr:List Addr}{G:Array GenState->Array GenState->Prop}{St:Nat->Shared->Prop}
def df.keeps{w:World}{h h':Heap}{a:Addr}{ks:List Str}(x:df w h a ks)(k:∀o,h.get? a=some o->h'.get? a=some o):df w h' a ks:=by
 obtain⟨o,es,ep,t,ks',ho,r⟩:=x
 exact⟨o,es,ep,t,ks',k _ ho,r⟩
def zH{xs:List Str}(W:WalksS prog w A.in1 I fp wr G xs.length (At xs) St)(S:Addr)(hSf:S∉fp)(hb:xs.length+1<scanBound):∀(k i:Nat) (s:Shared) (acc:List Str),xs.length-i=k->i<=xs.length->St i s->df w s.heap S acc->acc.length<=i ->
  (∀s',Moved (S::wr) G s s'->df w s'.heap S ((xs.drop i).foldl dY acc)->R (.ok (.ret .none)) s')->codeAny (model prog w) A (.builtin "set.update.loop" ⟨[.ref S,.ref I],[]⟩) R s:=by
 have nSw:S∉wr:=λz=>hSf (W.sub _ z)
 have sub:∀b∈wr,b∈S::wr:=λb z=>K6 _ z
 intro k
 induction k with
 |zero =>
  intro i s acc hk hi st hS ha hR
  have e:i=xs.length:=by lia
  subst e
  refine L4 N4 ?_
  rw[LQ M0 _]
  show wpAny _ A.in1 (pyNext (.ref I) >>= _) _ _ s
  refine Kv (W.done s _ _ st λs' hm=>?_)
  show wpAny _ A.in1 (ret Value.none) _ _ s'
  refine Kz (hR s' (hm.mono sub) ?_)
  rw[LP (KL _)]
  exact hS.keeps λo ho=>hm.heap S _ nSw ho
 |succ k ih =>
  intro i s acc hk hi st hS ha hR
  have hlt:i<xs.length:=by lia
  refine L4 N4 ?_
  rw[LQ M0 _]
  show wpAny _ A.in1 (pyNext (.ref I) >>= _) _ _ s
  refine Kv (W.item i s _ _ hlt st λv s' hP st' hm=>?_)
  obtain⟨x,tk,ex,rfl⟩:=hP
  have hS':df w s'.heap S acc:=hS.keeps λo ho=>hm.heap S _ nSw ho
  show wpAny _ A.in1 (holding [Value.str x tk] (setAdd S (.str x tk)) >>= _) _ _ s'
  refine Kv (LY ?_)
  unfold setAdd
  refine LY ?_
  refine Kv ((strKind prog w).pyHash (k:=x) (by simp[PySem.strKind,Value.isStrOf]) ?_)
  refine uk (s:={ s' with toks:=s'.toks+1 }) hS' (by lia) λh' b sb hS2=>?_
  have hd:xs.drop i=x::xs.drop (i+1):=by
   rw[LO hlt]
   rw[Kx hlt]at ex
   rw[Lq ex]
  refine Kz ⟨Mf M0 _,ih (i+1) _ (dY acc x) (by lia) hlt (W.frame _ s' _ _ st' (Mn _) λb hb' o e=>?_) hS2 (by have:=kK acc x;lia) λs'' hm2 hS3=>?_⟩
  ·rw[sb.2 b (λz:b=S=>hSf (by rw[<-z];exact hb'))];exact e
  ·refine hR s'' (Moved.trans W.gtrans ((hm.mono sub).then_heap (Mn _) λb o hb' e=>?_) hm2) ?_
   ·rw[sb.2 b (λz:b=S=>hb' (by rw[z];exact K9))];exact e
   ·rw[hd,L5]
    exact hS3
end
end UfSet
end
section
namespace UfSet
open PySem PyProof.Rows
abbrev da(w:World):Obj:={ cls:=.type "set",dict:=none,data:=.set #[] 0 (.fresh 0 0 (!dN w)) }
def y9{w:World}{h:Heap}{a:Addr}(ho:h.get? a=some (da w)):df w h a [] :=
 ⟨_,#[],0,_,[],ho,⟨rfl,rfl,rfl⟩,rfl,.nil,.refl _,.nil,by show 0<scanBound;unfold scanBound;lia,by rfl,λ_=>rfl,rfl⟩
theorem gu:∀{vs:List Value} {ss:List Str},StrsAre vs ss->vs.length=ss.length
 |_,_,.nil=>rfl
 |_,_,.cons _ _ h=>by rw[Lj,Lj,gu h]
theorem sE:∀{vs:List Value} {ss:List Str} {i:Nat} {v:Value},StrsAre vs ss->vs[i]?=some v->At ss i v
 |_,_,_,_,.nil,e=>by simp at e
 |_,_,0,v,.cons x t h,e=>by
  have:Value.str x t=v:=by simpa using e
  exact⟨x,t,rfl,this.symm⟩
 |_,_,i+1,_,.cons x t h,e=>by
  obtain⟨k,tk,q1,q2⟩:=sE (i:=i) h (by simpa using e)
  exact⟨k,tk,by simpa using q1,q2⟩
def _root_.PySem.Walks.imp{prog:Program}{w:World}{A:Around}{I:Addr}{fp wr:List Addr}{n:Nat}{P P':Nat->Value->Prop}{St:Nat->Heap->Prop}(W:Walks prog w A I fp wr n P St)(h:∀i v,P i v->P' i v):Walks prog w A I fp wr n P' St where
 sub:=W.sub
 frame:=W.frame
 item:=λi s Q E hi st hQ=>W.item i s Q E hi st λv h' tk hP=>hQ v h' tk (h i v hP)
 done:=W.done
 self:=W.self
def Bz(x:Value){Q:Value->Shared->Prop}(hq:Q (.ref s.heap.objs.size) { s with heap:=s.heap.push (da w) }) :
  codeAny (model prog w) A (.call (.builtin "set.__new__") ⟨[.type "set",x],[]⟩) (wants Q E) s:=by
 refine codeAny_of_tree ?_
 show wpAny _ A.in1 (checkBuiltinCall "set.__new__" ⟨[.type "set",x],[]⟩ >>= λ_=>again (.builtin "set.__new__" ⟨[.type "set",x],[]⟩)) _ _ s
 refine Kv (wpAny_of_eq (PySem.F.newCall_set_1 x) (Kz ⟨Mf Qj _,L4 PySem.F.entry_set_new ?_⟩))
 rw[LQ Qj _]
 unfold Builtin.«set.__new__» Builtin.Frozenset.newClass
 have f1:=sub_set_self
 obtain⟨hp,g,d,tk,os⟩:=s
 dsimp only
 wp_walk
 refine Nj (Kz ?_)
 dsimp only
 simp only[newObj]
 refine Kv (wpAny_alloc (Kz ?_))
 exact Kz hq
def qV{l:Addr}{its:List Value}{xs:List Str}{Q:Value->Shared->Prop}(hh:A.handled=none)(hl:s.heap.IsList l its.toArray)(hx:StrsAre its xs)(hb:xs.length+1<scanBound)
  (h:∀(h':Heap) (tk:Nat),df w h' s.heap.objs.size (dd xs)->(∀b o,s.heap.get? b=some o->h'.get? b=some o)->Q (.ref s.heap.objs.size) { s with heap:=h',toks:=tk }) :
  wpAny (model prog w) A (call (.type "set") [.ref l]) Q E s:=by
 obtain⟨c,tl,g1⟩:=Mt.mro
 have g2:=Mt.made
 have g3:=Mt.sub
 refine wpAny_call (codeAny_of_tree ?_)
 show wpAny _ _ (callAny (.type "set") _) _ _ _
 refine Kz ⟨Code.quiet_builtin _ (by decide +kernel),L4 PySem.F.entry_type_call ?_⟩
 rw[Around.under_plain (weight_type_call_type "set" [.ref l] []) rfl]
 have g4:=Mt.notType
 have g5:=Mt.canCreate
 have g6:=PySem.F.typeCall_set_1 (.ref l)
 repeat (any_goals (first|assumption|wp_step))
 refine NG (Bz (.ref l) (E:=E) (Q:=λobj s₁=>obj=.ref s.heap.objs.size/\s₁={ s with heap:=s.heap.push (da w) }) ⟨rfl,rfl⟩) λr s₁ hr=>?_
 cases r with
 |error e=>exact hr
 |ok fl =>
  cases fl with
  |ret obj =>
   obtain⟨rfl,rfl⟩:=hr
   have o1:(s.heap.push (da w)).get? s.heap.objs.size=some (da w):=KY _ rfl
   have T1:Shared.TypeIs { s with heap:=s.heap.push (da w) } (.ref s.heap.objs.size) "set":=⟨_,o1,rfl⟩
   have g7:=Mt.init.lookup
   have g8:=Mt.init.bind (.ref s.heap.objs.size)
   repeat (any_goals (first|assumption|wp_step))
   refine NG (codeAny_call_builtin (R:=wants (λr s₂=>r=.none/\∃h' tk,s₂={ s with heap:=h',toks:=tk }/\df w h' s.heap.objs.size (dd xs)/\(∀b o,s.heap.get? b=some o->h'.get? b=some o)) E) Mt.init.plain PySem.F.entry_set_init (check_set_init_1 T1 ?_)) λr₂ s₂ hr₂=>?_
   ·obtain⟨ol,hol,hcl,nl,hdl⟩:=hl
    obtain⟨ocls,odict,odata,oslots⟩:=ol
    simp only at hcl hdl
    subst hcl;subst hdl
    have hol':(s.heap.push (da w)).get? l=some { cls:=.type "list",dict:=odict,data:=.seq its.toArray nl,slots:=oslots }:=Ky _ hol
    have n1:=PySem.F.sub_list_set
    have n2:=PySem.F.sub_list_frozenset
    have n3:(Value.type "list" == Value.type "dict")=false:=by decide
    have l1:(s.heap.push (da w)).IsList l its.toArray:=⟨_,hol',rfl,nl,rfl⟩
    unfold Builtin.«set.__init__» noKeywords Builtin.Frozenset.updateFrom
    generalize hPI:pyIter=PI
    wp_walk
    subst hPI
    refine Nx l1 ?_
    refine Kv (wpAny_runValue ?_)
    have lt:l<s.heap.objs.size:=KO hol
    have h3:A.in1.in1.in1.handled=none:=by simp[hh]
    have neI:l≠(s.heap.push (da w)).objs.size:=by rw[Mm];exact K5 (Lw lt)
    have nf:s.heap.objs.size∉[(s.heap.push (da w)).objs.size,l]:=by
     rw[Mm]
     simp only[KR,Lx,Mi,O5]
     exact⟨K5 (Mc _),MK lt⟩
    have hat:∀(i:Nat) (v:Value),its.toArray[i]?=some v->At xs i v:=λi v e=>by
     have e':its[i]?=some v:=by simpa using e
     exact sE hx e'
    have hsz:its.toArray.size=xs.length:=by rw[K8];exact gu hx
    have W0:=(Qp (prog:=prog) (w:=w) h3 (s.heap.push (da w)).objs.size l neI its.toArray).imp hat
    rw[hsz]at W0
    refine zH W0.toS s.heap.objs.size nf hb xs.length 0 _ [] (by lia) (K2 _) ⟨⟨_,KY _ rfl,rfl,rfl⟩,(l1.push _)⟩ (y9 (Ky _ o1)) (KL _) ?_
    intro s' hm hS'
    rw[OY]at hS'
    rw[mI hm]
    show wpAny _ _ _ _ _ _
    refine Kz ?_
    show wpAny _ _ (ret Value.none) _ _ _
    refine Kz ⟨rfl,s'.heap,s'.toks,rfl,hS',λb o e=>?_⟩
    have lb:=KO e
    refine hm.heap b o (λz=>?_) (Ky _ (Ky _ e))
    simp only[KR,Lx,Mi]at z
    rcases z with z|z
    ·exact absurd z (K5 lb)
    ·rw[Mm]at z
     exact absurd z (K5 (Lw lb))
   ·cases r₂ with
    |error e=>exact hr₂
    |ok fl₂ =>
     cases fl₂ with
     |ret r =>
      obtain⟨rfl,h',tk,rfl,q1,q2⟩:=hr₂
      repeat (any_goals (first|assumption|wp_step))
      exact h _ _ q1 q2
     |_=>exact hr₂.elim
  |_=>exact hr.elim
end UfSet
end
section
namespace L2
open PySem PySem.Spec PyProof.Rows UfSrt
section
variable {X:Cx}{pins:List (Addr×Obj)}{σ:St}{H:Hp}{s:Shared}
def Inv.draw(I:Inv X pins σ H s)(d:Drawn):Inv X pins σ H { s with drawn:=d } :=
 ⟨I.ok,I.os,I.bare,I.base,I.loc,I.cell,I.free,I.freeC,I.pin,I.hok,I.len⟩
def aH(ss:List Str):List V:=ss.map V.str
theorem pY:∀{ss:List Str} {us:List Value},Vals (aH ss) us->StrsAre us ss
 |[],_,.nil=>.nil
 |x::ss,_,.cons r t=>by
  obtain⟨tk,rfl⟩:=r
  exact .cons x tk (pY t)
theorem wm:∀{ss:List Str} {us:List Value},StrsAre us ss->Vals (aH ss) us
 |_,_,.nil=>.nil
 |_,_,.cons x tk h=>.cons ⟨tk,rfl⟩ (wm h)
def aw(ss:List Str):(aH ss).length=ss.length:=Kw _
def tV(w:World)(a:Addr)(ks:List Str):HO:=.ext λh=>UfSet.df w h a ks
def EZ{P:Program}{w:World}{H':Hp}{h:Heap}{a:Addr}{ks:List Str}(x:UfSet.df w h a ks):bU P w H' h a (tV w a ks):=by
 refine⟨x,?_,λh1 h2 p k=>p.keeps k⟩
 obtain⟨o,_,_,_,_,e,_⟩:=x
 exact⟨o,e⟩
def AI{a:Addr}{ks:List Str}(I:Inv X pins σ H s)(e:H a=some (tV X.w a ks)):UfSet.df X.w s.heap a ks:=(I.hok a _ e).1
def F8(K:PySem.W.Frag)(w:World):List V->Hp->VK->Prop:=λxs H Q=>∃l ss,xs=[.ref l]/\aA K H l (aH ss)/\ss.length<=1000/\∀p,H p=none->Q (.ref p) (upd H p (tV w p (UfSet.dd ss)))
def tM(hc:X.calm=true):dS X (.type "set") (F8 X.K X.w):=by
 intro pins s σ H xs us Q I r h
 obtain⟨l,ss,rfl,hl,hz,q⟩:=h
 obtain⟨u,rfl,ru⟩:=vals1 r
 cases ru
 obtain⟨its,rv,pl,_⟩:=I.list hl
 have hS:=pY rv
 have hf:H s.heap.objs.size=none:=I.hok.fresh (KL _)
 refine UfSet.qV (I.ok.hd hc) pl.isList hS (by show ss.length+1<4096;lia) λh' tk hset hk=>?_
 exact⟨.ref s.heap.objs.size,_,I.laid (t':=tk) hk (KL _) (EZ hset),rfl,q _ hf⟩
def yi:dS X (.builtin "len") (λxs H Q=>∃a ks,xs=[V.ref a]/\H a=some (tV X.w a ks)/\Q (.int ks.length) H):=by
 intro pins s σ H xs us Q I r h
 obtain⟨a,ks,rfl,ha,q⟩:=h
 obtain⟨u,rfl,ru⟩:=vals1 r
 cases ru
 obtain⟨o,es,ep,t,ks',ho,hex,hd,he,hp,hn,hb,hf,_⟩:=AI I ha
 have el:es.size=ks.length:=by rw[<-hp.length_eq,he.len];simp
 have hb':es.size<4096:=hb
 refine call_len_set ho hex hd hf (by lia) ⟨.int ks.length,H,I.tok _,⟨_,by rw[el]⟩,q⟩
def mz{h':Heap}{tk:Nat}{d:Drawn}{D:Addr}{ss:List Str}(I:Inv X pins σ H s)(L:UfSort.Left s.heap h' D ss)(hz:ss.length<=1000):Inv X pins σ (upd H D (.lst (aH (aI ss)))) { s with heap:=h',toks:=tk,drawn:=d }:=by
 obtain⟨vs,n,e,hS⟩:=L.at'
 have hl:(aH (aI ss)).length<=sizeLine:=by
  rw[aw,bW,LF]
  lia
 exact(I.laid (o:=.lst (aH (aI ss))) (t':=tk) L.keep L.new (show bU X.prog X.w _ h' D (.lst (aH (aI ss))) from⟨hl,vs,n,wm hS,e⟩)).draw d
def Gg(K:PySem.W.Frag):List V->Hp->VK->Prop:=λxs H Q=>∃l ss,xs=[.ref l]/\aA K H l (aH ss)/\ss.length<64/\∀p,H p=none->Q (.ref p) (upd H p (.lst (aH (aI ss))))
def cy:dS X (.builtin "sorted") (Gg X.K):=by
 intro pins s σ H xs us Q I r h
 obtain⟨l,ss,rfl,hl,hz,q⟩:=h
 obtain⟨u,rfl,ru⟩:=vals1 r
 cases ru
 obtain⟨its,rv,pl,_⟩:=I.list hl
 refine UfSort.rZ pl.isList (pY rv) hz λh' tk d D L=>?_
 exact⟨.ref D,_,mz I L (by lia),rfl,q _ (I.hok.fresh L.new)⟩
def Gi(w:World):List V->Hp->VK->Prop:=λxs H Q=>∃a ks,xs=[.ref a]/\H a=some (tV w a ks)/\ks.length<64/\∀p,H p=none->Q (.ref p) (upd H p (.lst (aH (aI ks))))
def vK(hc:X.calm=true):dS X (.builtin "sorted") (Gi X.w):=by
 intro pins s σ H xs us Q I r h
 obtain⟨a,ks,rfl,ha,hz,q⟩:=h
 obtain⟨u,rfl,ru⟩:=vals1 r
 cases ru
 refine UfSort.uc (I.ok.hd hc) (AI I ha) hz λh' tk d D L=>?_
 exact⟨.ref D,_,mz I L (by lia),rfl,q _ (I.hok.fresh L.new)⟩
theorem zZ:∀{bs:List Bool} {us:List Value} {i:Nat} {v:Value},Vals (bs.map V.bl) us->us[i]?=some v->v=.bool (bs.getD i true)/\i<bs.length
 |[],_,_,_,.nil,e=>by simp at e
 |b::bs,_,0,v,.cons r t,e=>by
  simp at e
  subst e
  exact⟨r,by simp⟩
 |b::bs,_,i+1,v,.cons r t,e=>by
  obtain⟨h1,h2⟩:=zZ (i:=i) t (by simpa using e)
  exact⟨by simpa using h1,by simpa using h2⟩
def all_range(bs:List Bool):(List.range bs.length).all (λi=>bs.getD i true)=bs.all id:=by
 induction bs with
 |nil=>rfl
 |cons b bs ih =>
  rw[Lj,Qc,Ov,N5,Ov]
  have e:(List.range bs.length).all ((λi=>(b::bs).getD i true) ∘ Nat.succ)=(List.range bs.length).all (λi=>bs.getD i true):=by
   congr 1
  rw[e,ih]
  rfl
def any_range(bs:List Bool):(List.range bs.length).any (λi=>bs.getD i true)=bs.any id:=by
 induction bs with
 |nil=>rfl
 |cons b bs ih =>
  rw[Lj,Qc,Na,OL,Na]
  have e:(List.range bs.length).any ((λi=>(b::bs).getD i true) ∘ Nat.succ)=(List.range bs.length).any (λi=>bs.getD i true):=by
   congr 1
  rw[e,ih]
  rfl
def nF{A:Around}{l:Addr}{bs:List Bool}{its:List Value}(hh:A.handled=none)(rv:Vals (bs.map V.bl) its)(I:Addr)(hne:l≠I) :
  Walks X.prog X.w A I [I,l] [I] bs.length (λi v=>v=.bool (bs.getD i true)) (λi h=>h.IsListIter I l i/\h.IsList l its.toArray):=by
 have el:its.toArray.size=bs.length:=by
  have:=rv.length
  rw[Kw]at this
  simp[this]
 have W:=(Qp (prog:=X.prog) (w:=X.w) hh I l hne its.toArray).imp (P':=λi v=>v=.bool (bs.getD i true)) λi v e=>(zZ rv (by simpa using e)).1
 rw[el]at W
 exact W
def JF(K:PySem.W.Frag):List V->Hp->VK->Prop:=λxs H Q=>∃(l:Addr) (bs:List Bool),xs=[.ref l]/\aA K H l (bs.map V.bl)/\Q (.bl (bs.all id)) H
def Kf(K:PySem.W.Frag):List V->Hp->VK->Prop:=λxs H Q=>∃(l:Addr) (bs:List Bool),xs=[.ref l]/\aA K H l (bs.map V.bl)/\Q (.bl (bs.any id)) H
def jx(hc:X.calm=true):dS X (.builtin "all") (JF X.K):=by
 intro pins s σ H xs us Q I r h
 obtain⟨l,bs,rfl,hl,q⟩:=h
 obtain⟨u,rfl,ru⟩:=vals1 r
 cases ru
 obtain⟨its,rv,pl,_⟩:=I.list hl
 have hh:X.A.in1.handled=none:=I.ok.hd hc
 have lt:l<s.heap.objs.size:=let ⟨o,_,e,_⟩:=pl;KO e
 refine call_all_walk (Nx pl.isList ⟨_,_,_,_,_,_,λi=>bs.getD i true,rfl,nF hh rv _ (K5 lt),⟨⟨_,KY _ rfl,rfl,rfl⟩,pl.isList.push _⟩,λi v s Q E hv hQ=>?_,λh' tk hk=>?_⟩)
 ·subst hv
  exact LU hQ
 ·rw[all_range]
  refine⟨.bl (bs.all id),H,I.kept (t':=tk) λb o e=>hk b o (λz=>?_) (Ky _ e),rfl,q⟩
  have z':b=s.heap.objs.size:=by simpa using z
  exact absurd (KO e) (by rw[z'];exact LA _)
def mV(hc:X.calm=true):dS X (.builtin "any") (Kf X.K):=by
 intro pins s σ H xs us Q I r h
 obtain⟨l,bs,rfl,hl,q⟩:=h
 obtain⟨u,rfl,ru⟩:=vals1 r
 cases ru
 obtain⟨its,rv,pl,_⟩:=I.list hl
 have hh:X.A.in1.handled=none:=I.ok.hd hc
 have lt:l<s.heap.objs.size:=let ⟨o,_,e,_⟩:=pl;KO e
 refine call_any_walk (Nx pl.isList ⟨_,_,_,_,_,_,λi=>bs.getD i true,rfl,nF hh rv _ (K5 lt),⟨⟨_,KY _ rfl,rfl,rfl⟩,pl.isList.push _⟩,λi v s Q E hv hQ=>?_,λh' tk hk=>?_⟩)
 ·subst hv
  exact LU hQ
 ·rw[any_range]
  refine⟨.bl (bs.any id),H,I.kept (t':=tk) λb o e=>hk b o (λz=>?_) (Ky _ e),rfl,q⟩
  have z':b=s.heap.objs.size:=by simpa using z
  exact absurd (KO e) (by rw[z'];exact LA _)
def sign(c:Nat):V:=.str ⟨#[c]⟩
def GX(x:Str):It:=⟨λi _=>i<x.cps.size,λi H v H'=>H'=H/\∃c,x.cps[i]?=some c/\v=sign c,λi _=>i=x.cps.size⟩
end
def rD{P:Program}{w:World}{K:PySem.W.Frag}{tg:Expr}{x:Str}{it:Addr}{St:Nat->Heap->Prop}(W:∀A':Around,A'.handled=none->Walks P w A' it [it] [it] x.cps.size (SignAt x) St)
  (ho:∀i h,St i h->∃o nm vs,h.get? it=some o/\o.cls=.type nm/\o.data=.fields vs/\["enumerate", "zip", "dict_itemiterator", "dict_reverseitemiterator", "odict_iterator", "itertools.zip_longest", "itertools.pairwise"].contains nm=false)
  (hs:∀(A:Around) (i:Nat) (s:Shared) (Q:Value->Shared->Prop) (E:Value->Shared->Prop),St i s.heap->Q (.ref it) s->wpAny (model P w) A (pyIter (.ref it)) Q E s):Turn P w K tg (GX x) [it] it St where
 mem:=by simp
 obj:=λi h st b hb=>by
  have e:b=it:=by simpa using hb
  subst e
  obtain⟨o,nm,vs,e,_,d,_⟩:=ho i h st
  exact⟨o,e,λv z=>by rw[d]at z;cases z⟩
 keep:=λi h h' st k=>(W ⟨none,0,none,none,1⟩ rfl).frame i h h' st λb hb o e=>k b hb o e
 item:=by
  intro X hP hw hK hc i pins s σ H E I hf st hg
  subst hP hw hK
  obtain⟨f0,f1,f2,f3,f4,f5⟩:=hf it (by simp)
  refine(W X.A (I.ok.hd hc)).item i s _ _ hg st λv h' tk hP st' kk=>?_
  obtain⟨c,u,hx,rfl⟩:=hP
  have I1:Inv X pins σ H { s with heap:=h',toks:=tk }:=I.turned (λb o hb e=>kk b o (by simpa using hb) e) f0 f1 f3 f4 f5
  obtain⟨o,nm,vs,e,c1,d,hn⟩:=ho _ _ st'
  exact⟨_,rfl,xA (s:={ s with heap:=h',toks:=tk }) e c1 d hn ⟨sign c,H,I1,⟨u,rfl⟩,⟨rfl,c,hx,rfl⟩,st',λb hb=>(hf b hb).1⟩⟩
 done:=by
  intro X hP hw hK hc i pins s σ H E I hf st hg
  subst hP hw hK
  obtain⟨f0,f1,f2,f3,f4,f5⟩:=hf it (by simp)
  have e:i=x.cps.size:=hg
  subst e
  exact(W X.A (I.ok.hd hc)).done s _ _ st λh' tk kk=>⟨rfl,I.turned (λb o hb e=>kk b o (by simpa using hb) e) f0 f1 f3 f4 f5⟩
 self:=hs
section
variable {X:Cx}{tg:Expr}
def Ko(tl:TE):TI:=λσ H R=>tl σ H λv H1=>∃x,v=.str x/\R (GX x) H1
def GA{l:Expr}{tl:TE}(hl:PE X l tl):PI X tg l (Ko tl):=by
 intro pins s σ H R I h
 refine cc (hl pins s σ H _ I h) λv s1 hZ=>?_
 obtain⟨y,H1,I1,r1,q1⟩:=hZ
 obtain⟨x,e,q⟩:=q1
 subst e
 obtain⟨t,rfl⟩:=r1
 have fp:∀b∈[s1.heap.objs.size],iq X pins H1 b:=λb hb=>by
  have e:b=s1.heap.objs.size:=by simpa using hb
  subst e
  exact I1.Bn (KL _) (I1.hok.fresh (KL _))
 cases ha:x.cps.all (· < 128) with
 |false =>
  refine wpAny_pyIter_wide ha ?_
  refine⟨s1.heap.objs.size,[s1.heap.objs.size],λi h=>h.IsStrIter s1.heap.objs.size "str_iterator" x t i,GX x,H1,rfl,I1.kept (t':=s1.toks) λb o e=>Ky _ e,rD (λA' hA=>Walks.strWide hA _ x t) (λi h st=>?_) (λA i s Q E st hq=>wpAny_pyIter_striter_wide st hq),⟨_,KY _ rfl,rfl,rfl⟩,fp,q⟩
  obtain⟨o,e1,e2,e3⟩:=st
  exact⟨o,_,_,e1,e2,e3,by decide⟩
 |true =>
  refine wpAny_pyIter_ascii ha ?_
  refine⟨s1.heap.objs.size,[s1.heap.objs.size],λi h=>h.IsStrIter s1.heap.objs.size "str_ascii_iterator" x t i,GX x,H1,rfl,I1.kept (t':=s1.toks) λb o e=>Ky _ e,rD (λA' hA=>Walks.strAscii hA _ x t) (λi h st=>?_) (λA i s Q E st hq=>wpAny_pyIter_striter_ascii st hq),⟨_,KY _ rfl,rfl,rfl⟩,fp,q⟩
  obtain⟨o,e1,e2,e3⟩:=st
  exact⟨o,_,_,e1,e2,e3,by decide⟩
end
section
variable {K:PySem.W.Frag}{n:Nat}{ci:List Nat}{g:TG}{tt:TT}{te:TE}{σ:St}{H:Hp}{D:Addr}{Q:VK}
def cg{a:Addr}{xs:List V}(Pv:Nat->List V->Hp->Prop)(h0:Pv 0 [] (upd H D (.lst [])))(hl:∀i ys H,i<=xs.length->Pv i ys H->aA K H a xs)
  (hs:∀i x ys H,xs[i]?=some x->Pv i ys H->g x (tW n ci σ) H λσ2 H2=>tt σ2 H2 λb H3=>if b=true then te σ2 H3 λy H4=>H4 D=some (.lst ys)/\ys.length<sizeLine/\Pv (i+1) (ys++[y]) (upd H4 D (.lst (ys++[y]))) else Pv (i+1) ys H3)
  (hd:∀ys H,Pv xs.length ys H->Q (.ref D) H) :
  gZ n ci (FV K a) g tt te σ H D Q:=by
 unfold gZ
 refine⟨xs.length,Pv,h0,λi ys H hi p=>?_⟩
 have q:=hl i ys H hi p
 by_cases hlt:i<xs.length
 ·refine .inr ⟨hlt,⟨xs,xs[i],q,by simp[hlt]⟩,λx H' y=>?_⟩
  obtain⟨e,y⟩:=y
  subst e
  exact hs i x ys _ (y xs q) p
 ·have e:i=xs.length:=by lia
  subst e
  exact .inl ⟨⟨xs,q,KL _⟩,hd ys H p⟩
def BE{a:Addr}{xs:List V}(Pv:Nat->List V->Hp->Prop)(h0:Pv 0 [] (upd H D (.lst [])))(hl:∀i ys H,i<=xs.length->Pv i ys H->bX K H a xs)
  (hs:∀i x ys H,xs[i]?=some x->Pv i ys H->g x (tW n ci σ) H λσ2 H2=>tt σ2 H2 λb H3=>if b=true then te σ2 H3 λy H4=>H4 D=some (.lst ys)/\ys.length<sizeLine/\Pv (i+1) (ys++[y]) (upd H4 D (.lst (ys++[y]))) else Pv (i+1) ys H3)
  (hd:∀ys H,Pv xs.length ys H->Q (.ref D) H) :
  gZ n ci (F9 K a) g tt te σ H D Q:=by
 unfold gZ
 refine⟨xs.length,Pv,h0,λi ys H hi p=>?_⟩
 have q:=hl i ys H hi p
 by_cases hlt:i<xs.length
 ·refine .inr ⟨hlt,⟨xs,xs[i],q,by simp[hlt]⟩,λx H' y=>?_⟩
  obtain⟨e,y⟩:=y
  subst e
  exact hs i x ys _ (y xs q) p
 ·have e:i=xs.length:=by lia
  subst e
  exact .inl ⟨⟨xs,q,KL _⟩,hd ys H p⟩
def Az{x:Str}(Pv:Nat->List V->Hp->Prop)(h0:Pv 0 [] (upd H D (.lst [])))
  (hs:∀i c ys H,x.cps[i]?=some c->Pv i ys H->g (sign c) (tW n ci σ) H λσ2 H2=>tt σ2 H2 λb H3=>if b=true then te σ2 H3 λy H4=>H4 D=some (.lst ys)/\ys.length<sizeLine/\Pv (i+1) (ys++[y]) (upd H4 D (.lst (ys++[y]))) else Pv (i+1) ys H3)
  (hd:∀ys H,Pv x.cps.size ys H->Q (.ref D) H) :
  gZ n ci (GX x) g tt te σ H D Q:=by
 unfold gZ
 refine⟨x.cps.size,Pv,h0,λi ys H hi p=>?_⟩
 by_cases hlt:i<x.cps.size
 ·refine .inr ⟨hlt,hlt,λv H' y=>?_⟩
  obtain⟨e,c,hc,rfl⟩:=y
  subst e
  exact hs i c ys _ hc p
 ·have e:i=x.cps.size:=by lia
  subst e
  exact .inl ⟨rfl,hd ys H p⟩
end
end L2
end
section
namespace Uf
open PySem L2 UfSrt
def top (i:Nat):Stmt:=PySem.Challenge.pw_unfoldnet_k42_whole_a_total_order.main.body.getD i (.Pass ⟨0,0,0,0⟩)
abbrev eC:Stmt:=top 18
abbrev iH:Stmt:=top 25
abbrev jI:Stmt:=top 26
abbrev jy:Stmt:=top 27
abbrev qv:Stmt:=top 28
def vR:bootBuiltins "all"=some (.builtin "all"):=by decide +kernel
def zy:bootBuiltins "any"=some (.builtin "any"):=by decide +kernel
def cx:bootBuiltins "len"=some (.builtin "len"):=by decide +kernel
def EO:bootBuiltins "set"=some (.type "set"):=by decide +kernel
def eR:bootBuiltins "list"=some (.type "list"):=by decide +kernel
def fh:bootBuiltins "tuple"=some (.type "tuple"):=by decide +kernel
def HE:bootBuiltins "str"=some (.type "str"):=by decide +kernel
def cj:bootBuiltins "sorted"=some (.builtin "sorted"):=by decide +kernel
def Et:bootBuiltins "isinstance"=some (.builtin "isinstance"):=by decide +kernel
def BQ:Str:="abcdefghijklmnopqrstuvwxyz"
def isNm(x:Str):Bool:=decide (1<=x.length)&&(decide (x.length<=8)&&x.cps.toList.all λc=>decide (c∈BQ.cps.toList))
structure Txt(K:PySem.W.Frag)(mg:Str->Option Value):Prop where
 all:mg "all"=none
 len:mg "len"=none
 set:mg "set"=none
 lst:mg "list"=none
 tup:mg "tuple"=none
 str:mg "str"=none
 aI:mg "sorted"=none
 isi:mg "isinstance"=none
 letters:∃tk,mg "LETTERS"=some (.str BQ tk)
 longest:∃tk,mg "LONGEST_NAME"=some (.int 8 tk)
 mostP:∃tk,mg "MOST_PLACES"=some (.int 12 tk)
 mostM:∃tk,mg "MOST_MOVES"=some (.int 12 tk)
 leastT:∃tk,mg "LEAST_TAKEN"=some (.int 1 tk)
 mostT:∃tk,mg "MOST_TAKEN"=some (.int 4 tk)
 mostG:∃tk,mg "MOST_GIVEN"=some (.int 4 tk)
def ao{H:Hp}{D:Addr}{o:HO}(h:H D=none):aq H (upd H D o):=λb u e=>by
 rw[ah (ai e h)]
 exact e
def aU{H H2:Hp}{D:Addr}{o:HO}(s:aq H H2)(h:H D=none):aq H (upd H2 D o):=λb u e=>by
 rw[ah (ai e h)]
 exact s b u e
def oh{H:Hp}{D:Addr}(h:H D=none)(o:HO):∃H',upd H D o=H'/\aq H H'/\H' D=some o:=⟨_,rfl,ao h,ag⟩
def au{α:Type}{l:List α}{i:Nat}{a:α}(h:l[i]?=some a):l.take (i+1)=l.take i++[a]:=by
 rw[List.take_add_one,h]
 rfl
def nd_of{X:Cx}{N:List Str}(h:N.Nodup)(e:X.N=N:=by rfl):X.N.Nodup:=by rw[e];exact h
section
variable {X:Cx}
def rX:dS X (.builtin "isinstance") (λxs H Q=>∃x c t b,xs=[x,.ty c]/\jj X.K H x t/\PySem.W.kitOne X.K t (.type c)=some b/\Q (.bl b) H):=by
 intro pins s σ H xs us Q I r h
 obtain⟨x,c,t,b,rfl,ty,e,q⟩:=h
 obtain⟨u,v,rfl,ru,rv⟩:=vals2 r
 cases rv
 exact yT I ru ty e λtk=>⟨.bl b,H,I.tok tk,rfl,q⟩
end
def md:Sp:=λvs H Q _=>∃x:Str,vs=[.str x]/\x.length<=1000/\∀H',aq H H'->Q (.bl (isNm x)) H'
def rL:aD ["thing"] ["thing"] (ar eC):=eA
def pE{f:Addr}{fd:FuncData}(F:dj K "is_name" "is_name" eC f fd)(T:Txt K mg):a9 P w K mg base cR 1 f fd ["thing"] md:=by
 refine F.oK rL λcdv A outer s H vs Q E hr h=>?_
 ·obtain⟨x,rfl,hz,k⟩:=h
  obtain⟨tl,hl⟩:=T.letters
  obtain⟨tn,hn⟩:=T.longest
  refine⟨_,af (bO (PW.pt (pw_or (c9 (cG (ay rX rfl T.isi Et (aa (pv 0) (aa (xg (v:=.ty "str") rfl T.str HE rfl) ae)))))
    (pw_or1 (c9 (tQ mY mY ak (ay aY rfl T.len cx (aa (pv 0) ae)) (gU (v:=.int 8) rfl hn ⟨tn,rfl⟩))))))
    (aj (aK jB)) aX)
   (aj (aK (ay (jx rfl) rfl T.all vR (aa (bB (N:=["sign"]) (n:=1) (ci:=[]) rfl (GA (pv 0)) (iO rL)
    (λz=>⟨g0 0,bD,de yK (pv 0) (gU (v:=.str BQ) rfl hl ⟨tl,rfl⟩) (by with_unfolding_all rfl)⟩)) ae)))),?_⟩
  try dsimp only[bK,Cx.dP,Cx.bQ]
  refine⟨_,rfl,_, "str",_,true,rfl,jj.str x,(by rfl),true,rfl,?_⟩
  refine bF ?_
  have hs:x.length<=sizeLine:=by rw[LF];lia
  refine⟨_,rfl,_,x.length,rfl,⟨hs,rfl⟩,1,_,rfl,rfl,_,rfl,?_⟩
  by_cases h1:1<=x.length
  ·rw[KC (show(1:Int)<=(x.length:Int) by lia)]
   refine cv ?_
   refine⟨_,_,rfl,rfl,_,rfl,?_⟩
   by_cases h8:x.length<=8
   ·rw[KC (show(x.length:Int)<=8 by lia)]
    refine bF ?_
    refine⟨_,rfl,x,rfl,λz D hD=>Az (λi ys H2=>ys=(x.cps.toList.take i).map (λc=>V.bl (decide (c∈BQ.cps.toList)))/\H2 D=some (.lst ys)/\aq H H2) ⟨rfl,ag,ao hD⟩ ?_ ?_⟩
    ·rintro i c ys H2 hc ⟨rfl,hys,sm⟩
     refine⟨_,rfl,⟨#[c]⟩,BQ,rfl,rfl,hys,?_,?_,ag,aU sm hD⟩
     ·rw[Kw,La,L7]
      have:x.cps.size<=8:=h8
      rw[LF]
      lia
     ·rw[au (by rw[L9];exact hc),KS,PySem.StrLaws.found_one]
      rfl
    ·rintro ys H2 ⟨rfl,hys,sm⟩
     refine⟨D,x.cps.toList.map λc=>decide (c∈BQ.cps.toList),rfl,aA.of ?_,?_⟩
     ·rw[hys]
      rw[MA (by simp),Lk]
      rfl
     ·have e:isNm x=(x.cps.toList.map λc=>decide (c∈BQ.cps.toList)).all id:=by
       unfold isNm
       rw[KC h1,KC h8,N5]
       rfl
      rw[<-e]
      exact k H2 sm
   ·rw[KU (show ¬(x.length:Int)<=8 by lia)]
    refine cv ?_
    have e:isNm x=false:=by unfold isNm;rw[decide_eq_false h8];simp
    rw[<-e]
    exact k H (aq.refl H)
  ·rw[KU (show ¬(1:Int)<=(x.length:Int) by lia)]
   refine bF ⟨_,rfl,?_⟩
   refine cv ?_
   have e:isNm x=false:=by unfold isNm;rw[decide_eq_false h1];simp
   rw[<-e]
   exact k H (aq.refl H)
structure Def(K:PySem.W.Frag)(mg:Str->Option Value)(x:Str)(st:Stmt)(ps:List Str)(f:Addr)(fd:FuncData):Prop where
 fn:dj K x x st f fd
 mg:mg x=some (.ref f)
 bd:Binds K fd ps []
structure gI(P:Program)(w:World)(K:PySem.W.Frag)(mg:Str->Option Value)(base:Heap)(x:Str)(st:Stmt)(ps:List Str)(k:Nat)(sp:Sp) where
 f:Addr
 fd:FuncData
 d:Def K mg x st ps f fd
 g:a9 P w K mg base cR k f fd ps sp
def e7{X:Cx}{x:Str}{st:Stmt}{ps:List Str}{k:Nat}{sp:Sp}{e:Expr}{es:List Expr}{t:TA}{p pos:Pos}(D:gI X.prog X.w X.K X.mg X.base x st ps k sp)(hr:cI k X.A)(ha:PA X (e::es) t)(hg:Gl X x:=by rfl)(hdb:(x==("__debug__":Str))=false:=by decide)(he:starEach (e::es) X.env=(false,eval e X.env)::starEach es X.env:=by rfl)(hpl:(backTo pos (starEach es X.env)).any (·.1)=false:=by rfl) :
  PE X (.Call (.Name x p) (e::es) [] pos) (EV sp [] E0 t):=dz D.g hr hg D.d.mg D.d.fn.kp D.d.bd .nil br ha hdb he hpl
def unlike(xs:List Str):Bool:=xs.all isNm&&decide xs.Nodup
def Short(xs:List Str):Prop:=xs.length<=200/\∀x∈xs,x.length<=1000
def dy{xs:List Str}{i:Nat}{v:V}(h:(aH xs)[i]?=some v):∃x,xs[i]?=some x/\v=.str x:=by
 unfold aH at h
 rw[KH]at h
 cases e:xs[i]? with
 |none=>rw[e]at h;cases h
 |some x=>rw[e]at h;exact⟨x,rfl,(Lq h).symm⟩
def mM(K:PySem.W.Frag):Sp:=λvs H Q _=>∃(a:Addr) (xs:List Str),vs=[.ref a]/\aA K H a (aH xs)/\Short xs/\∀H',aq H H'->Q (.bl (unlike xs)) H'
def tK:aD ["things"] ["things"] (ar iH):=eA
def pB{f fN:Addr}{fd fdN:FuncData}(F:dj K "are_unlike_names" "are_unlike_names" iH f fd)(T:Txt K mg)(DN:Def K mg "is_name" eC ["thing"] fN fdN):a9 P w K mg base cR 2 f fd ["things"] (mM K):=by
 have GN:a9 P w K mg base cR 1 fN fdN ["thing"] md:=pE DN.fn T
 refine F.oK tK λcdv A outer s H vs Q E hr h=>?_
 ·obtain⟨a,xs,rfl,ha,hz,k⟩:=h
  refine⟨_,aj (aK (vj (ay (jx rfl) rfl T.all vR (aa (bB (N:=["thing"]) (n:=1) (ci:=[]) rfl (aL (pv 0)) (iO tK)
    (λz=>⟨g0 0,bD,dz GN hr rfl DN.mg DN.fn.kp DN.bd .nil br (aa (pv 0) ae)⟩)) ae))
   (vv (de hX (ay yi rfl T.len cx (aa (bb (tM rfl) rfl T.set EO (aa (pv 0) ae)) ae)) (ay aY rfl T.len cx (aa (pv 0) ae)) (bC _))))),?_⟩
  try dsimp only[bK,Cx.dP,Cx.bQ]
  refine⟨_,rfl,a,rfl,⟨_,ha⟩,λz D hD=>cg (a:=a) (xs:=aH xs) (λi ys H2=>ys=(xs.take i).map (λx=>V.bl (isNm x))/\H2 D=some (.lst ys)/\aq H H2) ⟨rfl,ag,ao hD⟩ (λi ys H2 _ p=>p.2.2.seq ha) ?_ ?_⟩
  ·rintro i v ys H2 hi ⟨rfl,hys,sm⟩
   obtain⟨x,hx,rfl⟩:=dy hi
   refine⟨_,rfl,x,rfl,hz.2 x (KJ hx),λH3 s3=>⟨s3 _ _ hys,?_,?_,ag,aU (sm.trans s3) hD⟩⟩
   ·rw[Kw,La,LF]
    have:=hz.1
    lia
   ·rw[au hx,KS]
    rfl
  ·rintro ys H2 ⟨rfl,hys,sm⟩
   have hl:(aH xs).length=xs.length:=aw xs
   rw[hl,Le]at hys
   refine⟨D,xs.map isNm,rfl,aA.of (by rw[hys,Lk];rfl),_,rfl,?_⟩
   have ea:(xs.map isNm).all id=xs.all isNm:=by rw[N5];rfl
   rw[ea]
   cases hn:xs.all isNm with
   |false =>
    refine bF ?_
    have e:unlike xs=false:=by unfold unlike;rw[hn];rfl
    rw[<-e]
    exact k H2 sm
   |true =>
    refine cv ?_
    refine⟨_,rfl,a,xs,rfl,sm.seq ha,by have:=hz.1;lia,λp hp=>⟨p,_,rfl,ag,?_⟩⟩
    have sm2:aq H (upd H2 p (tV w p (UfSet.dd xs))):=aU sm (sm.free hp)
    refine⟨_,rfl,_,xs.length,rfl,.inl ⟨_,sm2.seq ha,hl.symm⟩,rfl,?_⟩
    have e:unlike xs=decide (V.int (((UfSet.dd xs).length:Nat):Int)=V.int ((xs.length:Nat):Int)):=by
     unfold unlike
     rw[hn,Nb]
     refine Mj.mpr ?_
     rw[<-UfSet.uu]
     constructor
     ·intro h;rw[h]
     ·intro h;injection h with h;lia
    rw[<-e]
    exact k _ sm2
def gR(tk gv:List Str):Bool:=unlike tk&&(unlike gv&&(decide (1<=tk.length)&&(decide (tk.length<=4)&&decide (gv.length<=4))))
def rW(K:PySem.W.Frag):Sp:=λvs H Q _=>∃(a b:Addr) (tk gv:List Str),vs=[.ref a,.ref b]/\aA K H a (aH tk)/\aA K H b (aH gv)/\Short tk/\Short gv/\∀H',aq H H'->Q (.bl (gR tk gv)) H'
def zp:aD ["taken", "given"] ["taken", "given"] (ar jI):=eA
def yl{f fN fU:Addr}{fd fdN fdU:FuncData}(F:dj K "is_move" "is_move" jI f fd)(T:Txt K mg)(DN:Def K mg "is_name" eC ["thing"] fN fdN)(DU:Def K mg "are_unlike_names" iH ["things"] fU fdU):a9 P w K mg base cR 3 f fd ["taken", "given"] (rW K):=by
 have GU:a9 P w K mg base cR 2 fU fdU ["things"] (mM K):=pB DU.fn T DN
 refine F.oK zp λcdv A outer s H vs Q E hr h=>?_
 ·obtain⟨a,b,tk,gv,rfl,ha,hb,za,zb,k⟩:=h
  obtain⟨t1,h1⟩:=T.leastT
  obtain⟨t2,h2⟩:=T.mostT
  obtain⟨t3,h3⟩:=T.mostG
  refine⟨_,af (bO (PW.pt (pw_or (c9 (cG (dz GU hr rfl DU.mg DU.fn.kp DU.bd .nil br (aa (pv 0) ae)))) (pw_or1 (c9 (cG (dz GU hr rfl DU.mg DU.fn.kp DU.bd .nil br (aa (pv 1) ae))))))) (aj (aK jB)) aX)
   (aj (aK (vj (zV mY mY (gU (v:=.int 1) rfl h1 ⟨t1,rfl⟩) (ay aY rfl T.len cx (aa (pv 0) ae)) (gU (v:=.int 4) rfl h2 ⟨t2,rfl⟩))
    (vv (de mY (ay aY rfl T.len cx (aa (pv 1) ae)) (gU (v:=.int 4) rfl h3 ⟨t3,rfl⟩) (bC _)))))),?_⟩
  try dsimp only[bK,Cx.dP,Cx.bQ]
  have no:∀H',aq H H'->gR tk gv=false->Q (.bl false) H':=λH' sm e=>by rw[<-e];exact k H' sm
  refine⟨_,rfl,a,tk,rfl,ha,za,λH1 s1=>⟨_,rfl,?_⟩⟩
  cases u1:unlike tk with
  |false =>
   refine cv ?_
   refine cv ?_
   exact no H1 s1 (by unfold gR;rw[u1];rfl)
  |true =>
   refine bF ?_
   refine⟨_,rfl,b,gv,rfl,s1.seq hb,zb,λH2 s2=>⟨_,rfl,?_⟩⟩
   have sm:aq H H2:=s1.trans s2
   cases u2:unlike gv with
   |false =>
    refine cv ?_
    exact no H2 sm (by unfold gR;rw[u1,u2];rfl)
   |true =>
    refine bF ?_
    refine⟨_,rfl,_,tk.length,rfl,.inl ⟨_,sm.seq ha,(aw tk).symm⟩,1,_,rfl,rfl,_,rfl,?_⟩
    by_cases c1:1<=tk.length
    ·rw[KC (show(1:Int)<=(tk.length:Int) by lia)]
     refine cv ?_
     refine⟨_,_,rfl,rfl,_,rfl,?_⟩
     by_cases c2:tk.length<=4
     ·rw[KC (show(tk.length:Int)<=4 by lia)]
      refine cv ?_
      refine⟨_,rfl,_,gv.length,rfl,.inl ⟨_,sm.seq hb,(aw gv).symm⟩,_,_,rfl,rfl,?_⟩
      have e:gR tk gv=decide ((gv.length:Int)<=4):=by
       unfold gR
       rw[u1,u2,KC c1,KC c2]
       simp only[Nb]
       exact Mj.mpr (by lia)
      show Q (V.bl (decide ((gv.length:Int)<=4))) H2
      rw[<-e]
      exact k H2 sm
     ·rw[KU (show ¬(tk.length:Int)<=4 by lia)]
      refine bF ?_
      exact no H2 sm (by unfold gR;rw[u1,u2,decide_eq_false c2];simp)
    ·rw[KU (show ¬(1:Int)<=(tk.length:Int) by lia)]
     refine bF ⟨_,rfl,?_⟩
     refine bF ?_
     exact no H2 sm (by unfold gR;rw[u1,u2,decide_eq_false c1];simp)
abbrev Mv:=Str×List Str×List Str
def nR(H:Hp)(m:Mv)(q:Addr):Prop:=∃l g,H q=some (.tup [.str m.1,.ref l,.ref g])/\H l=some (.lst (aH m.2.1))/\H g=some (.lst (aH m.2.2))
def nR.same{H H':Hp}{m:Mv}{q:Addr}(s:aq H H')(h:nR H m q):nR H' m q:=by
 obtain⟨l,g,h1,h2,h3⟩:=h
 exact⟨l,g,s _ _ h1,s _ _ h2,s _ _ h3⟩
def oF(K:PySem.W.Frag)(H:Hp)(a:Addr)(ms:List Mv):Prop:=∃qs:List Addr,aA K H a (qs.map V.ref)/\Paired (nR H) ms qs
theorem oF.same{K:PySem.W.Frag}{H H':Hp}{a:Addr}{ms:List Mv}(s:aq H H')(h:oF K H a ms):oF K H' a ms:=by
 obtain⟨qs,h1,h2⟩:=h
 exact⟨qs,s.seq h1,Paired.cH h2 λ_ _=>nR.same s⟩
theorem bE{α β:Type}{F:α->β->Prop}:∀{l:List α} {m:List β} {i:Nat} {b:β},Paired F l m->m[i]?=some b->∃a,l[i]?=some a/\F a b
 |_,_,_,_,.nil,e=>by simp at e
 |_,_,0,_,.cons r _,e=>by
  simp at e
  subst e
  exact⟨_,rfl,r⟩
 |_,_,i+1,_,.cons _ t,e=>by
  obtain⟨a,h1,h2⟩:=bE (i:=i) t (by simpa using e)
  exact⟨a,by simpa using h1,h2⟩
def fA{qs:List Addr}{i:Nat}{v:V}(h:(qs.map V.ref)[i]?=some v):∃q,qs[i]?=some q/\v=.ref q:=by
 rw[KH]at h
 cases e:qs[i]? with
 |none=>rw[e]at h;cases h
 |some x=>rw[e]at h;exact⟨x,rfl,(Lq h).symm⟩
def j6(ms:List Mv):List Str:=ms.flatMap λm=>m.2.1++m.2.2
def cL(ms:List Mv)(st:List Str):List Str:=aI (UfSet.dd (st++j6 ms))
def mf(K:PySem.W.Frag):Sp:=λvs H Q _=>∃(a b:Addr) (ms:List Mv) (st:List Str),vs=[.ref a,.ref b]/\oF K H a ms/\aA K H b (aH st)/\(st++j6 ms).length<=1000/\(UfSet.dd (st++j6 ms)).length<64 /\
 ∀H' p,aq H H'->H p=none->H' p=some (.lst (aH (cL ms st)))->Q (.ref p) H'
def gH:aD ["moves", "start", "places", "name", "taken", "given"] ["moves", "start"] (ar jy):=eA
def oY{f:Addr}{fd:FuncData}(F:dj K "places_of" "places_of" jy f fd)(T:Txt K mg):a9 P w K mg base cR 1 f fd ["moves", "start"] (mf K):=by
 refine F.oK gH λcdv A outer s H vs Q E hr h=>?_
 ·obtain⟨a,b,ms,st,rfl,ha,hb,hz,h64,k⟩:=h
  obtain⟨qs,hq,hp⟩:=id ha
  refine⟨_,af (cD 2 gH (bb cn rfl T.lst eR (aa (pv 1) ae)))
   (af (bo K7 rfl (aL (pv 0)) (dQ rfl (aV (eu 3 gH) (aV (eu 4 gH) (aV (eu 5 gH) cZ))))
    (aj (cD 2 gH (az jf (az jf (pv 2) (bb cn rfl T.lst eR (aa (pv 4) ae))) (bb cn rfl T.lst eR (aa (pv 5) ae))))))
   (aj (aK (ay (vK rfl) rfl T.aI cj (aa (bb (tM rfl) rfl T.set EO (aa (pv 2) ae)) ae))))),?_⟩
  try dsimp only[bK,Cx.dP,Cx.bQ]
  refine⟨_,rfl,b,aH st,rfl,.inl hb,λp0 n0=>?_⟩
  have s0:aq H (upd H p0 (.lst (aH st))):=ao n0
  refine⟨_,rfl,a,rfl,⟨_,s0.seq hq⟩,bq (K:=K) (a:=a) (xs:=qs.map V.ref) (λi σ H2=>∃(p:Addr) (v3 v4 v5:Option V),σ=[some (.ref a),some (.ref b),some (.ref p),v3,v4,v5]/\aq H H2/\H p=none/\H2 p=some (.lst (aH (st++j6 (ms.take i)))))
   ⟨p0,none,none,none,rfl,s0,n0,by rw[ag];simp[j6]⟩ (λi σ H2 _ ⟨_,_,_,_,_,sm,_⟩=>sm.seq hq) ?_ ?_⟩
  ·rintro i v σ H2 hi ⟨p,v3,v4,v5,rfl,sm,np,hp2⟩
   obtain⟨q,hqi,rfl⟩:=fA hi
   obtain⟨m,hm,hmv⟩:=bE hp hqi
   obtain⟨l,g,e1,e2,e3⟩:=hmv.same sm
   have etk:j6 (ms.take (i+1))=j6 (ms.take i)++(m.2.1++m.2.2):=by
    unfold j6
    rw[au hm,NR]
    simp
   have hle:(st++j6 (ms.take (i+1))).length<=1000:=by
    refine Lh ?_ hz
    have e:j6 ms=j6 (ms.take (i+1))++j6 (ms.drop (i+1)):=by
     unfold j6
     rw[<-NR,M8]
    rw[e,KA,KA,KA]
    lia
   rw[etk]at hle
   simp only[KA]at hle
   have hsl:=Lg
   refine⟨q,_,rfl,bX.of e1,rfl,_,_,rfl,_,_,rfl,_,_,rfl,rfl,?_⟩
   refine⟨_,rfl,_,rfl,l,aH m.2.1,rfl,.inl (aA.of e2),λl1 n1=>⟨p,l1,_,_,rfl,rfl,(by rw[ah (ai hp2 n1)];exact hp2),ag,?_,λp1 m1=>?_⟩⟩
   ·rw[aw,aw,KA]
    lia
   have s1:aq H2 (upd (upd H2 l1 (.lst (aH m.2.1))) p1 (.lst (aH (st++j6 (ms.take i))++aH m.2.1))):=(ao n1).trans (ao m1)
   refine⟨_,rfl,g,aH m.2.2,rfl,.inl (aA.of (s1 _ _ e3)),λl2 n2=>⟨p1,l2,_,_,rfl,rfl,(by rw[ah (ai ag n2)];exact ag),ag,?_,λp2 m2=>?_⟩⟩
   ·rw[KA,aw,aw,aw,KA]
    lia
   have s2:=s1.trans ((ao (o:=.lst (aH m.2.2)) n2).trans (ao (o:=.lst ((aH (st++j6 (ms.take i))++aH m.2.1)++aH m.2.2)) m2))
   refine⟨p2,_,_,_,rfl,sm.trans s2,?_,?_⟩
   ·exact(sm.trans (s1.trans (ao (o:=.lst (aH m.2.2)) n2))).free m2
   ·rw[ag,etk]
    unfold aH
    simp[KS]
  ·rintro σ H2 ⟨p,v3,v4,v5,rfl,sm,np,hp2⟩
   have el:(qs.map V.ref).length=ms.length:=by rw[Kw,<-KZ hp]
   rw[el,Le]at hp2
   refine⟨_,rfl,p,st++j6 ms,rfl,aA.of hp2,hz,λp1 n1=>⟨p1,_,rfl,ag,h64,λp2 n2=>?_⟩⟩
   have s1:=(ao (o:=tV w p1 (UfSet.dd (st++j6 ms))) n1).trans (ao (o:=.lst (aH (aI (UfSet.dd (st++j6 ms))))) n2)
   exact k _ p2 (sm.trans s1) ((sm.trans (ao (o:=tV w p1 (UfSet.dd (st++j6 ms))) n1)).free n2) ag
def names(ms:List Mv):List Str:=ms.map (·.1)
def gE(ms:List Mv)(st:List Str):Bool:=decide (ms.length<=12)&&(unlike (names ms)&&((ms.all λm=>gR m.2.1 m.2.2)&&(unlike st&&decide ((cL ms st).length<=12))))
structure Fits(ms:List Mv)(st:List Str):Prop where
 nm:Short (names ms)
 tk:∀m∈ms,Short m.2.1
 gv:∀m∈ms,Short m.2.2
 so:Short st
 sum:(st++j6 ms).length<=1000
 jk:(UfSet.dd (st++j6 ms)).length<64
def wd(K:PySem.W.Frag):Sp:=λvs H Q _=>∃(a b:Addr) (ms:List Mv) (st:List Str),vs=[.ref a,.ref b]/\oF K H a ms/\aA K H b (aH st)/\Fits ms st/\∀H',aq H H'->Q (.bl (gE ms st)) H'
def qf:aD ["moves", "start"] ["moves", "start"] (ar qv):=eA
def BK{f fN fU fM fP:Addr}{fd fdN fdU fdM fdP:FuncData}(F:dj K "makes_net" "makes_net" qv f fd)(T:Txt K mg)(DN:Def K mg "is_name" eC ["thing"] fN fdN)(DU:Def K mg "are_unlike_names" iH ["things"] fU fdU)
  (DM:Def K mg "is_move" jI ["taken", "given"] fM fdM) (DP:Def K mg "places_of" jy ["moves", "start"] fP fdP):a9 P w K mg base cR 4 f fd ["moves", "start"] (wd K):=by
 have GU:a9 P w K mg base cR 2 fU fdU ["things"] (mM K):=pB DU.fn T DN
 have GM:a9 P w K mg base cR 3 fM fdM ["taken", "given"] (rW K):=yl DM.fn T DN DU
 have GP:a9 P w K mg base cR 1 fP fdP ["moves", "start"] (mf K):=oY DP.fn T
 refine F.oK qf λcdv A outer s H vs Q E hr h=>?_
 ·obtain⟨a,b,ms,st,rfl,ha,hb,hf,k⟩:=h
  obtain⟨qs,hq,hp⟩:=id ha
  obtain⟨t1,h1⟩:=T.mostM
  obtain⟨t2,h2⟩:=T.mostP
  refine⟨_,af (bO (PW.pt (pw_or (a8 AD (ay aY rfl T.len cx (aa (pv 0) ae)) (gU (v:=.int 12) rfl h1 ⟨t1,rfl⟩) (bC _))
    (pw_or1 (c9 (cG (dz GU (hr.mono (by decide)) rfl DU.mg DU.fn.kp DU.bd .nil br (aa (bB (N:=["move"]) (n:=1) (ci:=[]) rfl (aL (pv 0)) (iO qf)
     (λz=>⟨g0 0,bD,aM dF (pv 0) ak (λ_ _=>rfl)⟩)) ae)))))))
    (aj (aK jB)) aX)
   (af (bO (PW.pt (pw_or (c9 (cG (ay (jx rfl) rfl T.all vR (aa (bB (N:=["name", "taken", "given"]) (n:=3) (ci:=[]) rfl (aL (pv 0)) (iO qf)
     (λz=>⟨dQ rfl (aV (g0 0) (aV (g0 1) (aV (g0 2) cZ))),
      bD,dz GM hr rfl DM.mg DM.fn.kp DM.bd .nil br (aa (pv 1) (aa (pv 2) ae))⟩)) ae))))
     (pw_or1 (c9 (cG (dz GU (hr.mono (by decide)) rfl DU.mg DU.fn.kp DU.bd .nil br (aa (pv 1) ae)))))))
    (aj (aK jB)) aX)
   (aj (aK (de mY (ay aY rfl T.len cx (aa (dz GP (hr.mono (by decide)) rfl DP.mg DP.fn.kp DP.bd .nil br (aa (pv 0) (aa (pv 1) ae))) ae)) (gU (v:=.int 12) rfl h2 ⟨t2,rfl⟩) (bC _))))),?_⟩
  try dsimp only[bK,Cx.dP,Cx.bQ]
  have no:∀H',aq H H'->gE ms st=false->Q (.bl false) H':=λH' sm e=>by rw[<-e];exact k H' sm
  have lq:qs.length=ms.length:=(KZ hp).symm
  refine⟨_,rfl,_,ms.length,rfl,.inl ⟨_,hq,by rw[Kw,lq]⟩,_,_,rfl,rfl,_,rfl,?_⟩
  by_cases c1:ms.length<=12
  ·rw[show decide (((ms.length:Nat):Int) > 12)=false from KU (by lia)]
   refine bF ?_
   refine⟨_,rfl,a,rfl,⟨_,hq⟩,λz D hD=>cg (a:=a) (xs:=qs.map V.ref) (λi ys H2=>ys=aH (names (ms.take i))/\H2 D=some (.lst ys)/\aq H H2) ⟨rfl,ag,ao hD⟩ (λi ys H2 _ p=>p.2.2.seq hq) ?_ ?_⟩
   ·rintro i v ys H2 hi ⟨rfl,hys,sm⟩
    obtain⟨q,hqi,rfl⟩:=fA hi
    obtain⟨m,hm,hmv⟩:=bE hp hqi
    obtain⟨l,g,e1,e2,e3⟩:=hmv.same sm
    refine⟨_,rfl,q,_,0,_,rfl,rfl,bX.of e1,aF (j:=0) rfl,hys,?_,?_,ag,aU sm hD⟩
    ·rw[aw,names,Kw,La,LF]
     lia
    ·rw[au hm]
     unfold names aH
     simp
   ·rintro ys H2 ⟨rfl,hys,sm⟩
    rw[Kw,lq,Le]at hys
    refine⟨D,names ms,rfl,aA.of hys,hf.nm,λH3 s3=>⟨_,rfl,?_⟩⟩
    have sm3:aq H H3:=sm.trans s3
    cases u1:unlike (names ms) with
    |false =>
     refine cv ?_
     exact no H3 sm3 (by unfold gE;rw[u1];simp)
    |true =>
     refine bF ?_
     refine⟨_,rfl,a,rfl,⟨_,sm3.seq hq⟩,λz2 D2 hD2=>cg (a:=a) (xs:=qs.map V.ref) (λi ys H4=>ys=(ms.take i).map (λm=>V.bl (gR m.2.1 m.2.2))/\H4 D2=some (.lst ys)/\aq H3 H4) ⟨rfl,ag,ao hD2⟩ (λi ys H4 _ p=>(sm3.trans p.2.2).seq hq) ?_ ?_⟩
     ·rintro i v ys H4 hi ⟨rfl,hys4,sm4⟩
      obtain⟨q,hqi,rfl⟩:=fA hi
      obtain⟨m,hm,hmv⟩:=bE hp hqi
      obtain⟨l,g,e1,e2,e3⟩:=hmv.same (sm3.trans sm4)
      have hmem:m∈ms:=KJ hm
      refine⟨q,_,rfl,bX.of e1,rfl,_,_,rfl,_,_,rfl,_,_,rfl,rfl,?_⟩
      refine⟨_,rfl,_,rfl,l,g,m.2.1,m.2.2,rfl,aA.of e2,aA.of e3,hf.tk m hmem,hf.gv m hmem,λH5 s5=>⟨s5 _ _ hys4,?_,?_,ag,aU (sm4.trans s5) hD2⟩⟩
      ·rw[Kw,La,LF]
       lia
      ·rw[au hm,KS]
       rfl
     ·rintro ys H4 ⟨rfl,hys4,sm4⟩
      rw[Kw,lq,Le]at hys4
      have sm5:aq H H4:=sm3.trans sm4
      refine⟨D2,ms.map (λm=>gR m.2.1 m.2.2),rfl,aA.of (by rw[hys4,Lk];rfl),_,rfl,?_⟩
      have ea:(ms.map (λm=>gR m.2.1 m.2.2)).all id=ms.all λm=>gR m.2.1 m.2.2:=by rw[N5];rfl
      rw[ea]
      cases u2:ms.all λm=>gR m.2.1 m.2.2 with
      |false =>
       refine cv ?_
       refine cv ?_
       exact no H4 sm5 (by unfold gE;rw[u2];simp)
      |true =>
       refine bF ?_
       refine⟨_,rfl,b,st,rfl,sm5.seq hb,hf.so,λH6 s6=>⟨_,rfl,?_⟩⟩
       have sm6:aq H H6:=sm5.trans s6
       cases u3:unlike st with
       |false =>
        refine cv ?_
        exact no H6 sm6 (by unfold gE;rw[u3];simp)
       |true =>
        refine bF ?_
        refine⟨_,rfl,_,rfl,a,b,ms,st,rfl,ha.same sm6,sm6.seq hb,hf.sum,hf.jk,λH7 p s7 np hp7=>?_⟩
        refine⟨_,(cL ms st).length,rfl,.inl ⟨_,aA.of hp7,(aw _).symm⟩,_,_,rfl,rfl,?_⟩
        have e:gE ms st=decide (((cL ms st).length:Int)<=12):=by
         unfold gE
         rw[KC c1,u1,u2,u3]
         simp only[Nb]
         exact Mj.mpr (by lia)
        show Q (V.bl (decide (((cL ms st).length:Int)<=12))) H7
        rw[<-e]
        exact k H7 (sm6.trans s7)
  ·rw[show decide (((ms.length:Nat):Int) > 12)=true from KC (by lia)]
   refine cv ?_
   refine cv ?_
   exact no H (aq.refl H) (by unfold gE;rw[decide_eq_false c1];rfl)
end Uf
end
section
namespace L2
open PySem PySem.Spec PyProof.Rows PySem.W UfSrt
def pR{κ:Type}[DecidableEq κ]{knd:KeyKind prog w κ}{d:Addr}{kvs:List (κ×Value)}{ep:Nat}{Q:List Value->Shared->Prop}(hh:A.handled=none)(lo:(d==sysModules)=false)(hd:s.heap.DictAt knd d kvs ep)(hz:kvs.length<=sizeLine)
  (h:∀(h':Heap) (tk:Nat) (dr:Drawn) (vs:List Value),vs.length=kvs.length->(∀(j:Nat) v,vs[j]?=some v->∃k x,kvs[j]?=some (k,x)/\knd.is k v=true)->(∀b o,s.heap.get? b=some o->h'.get? b=some o)->s.heap.objs.size<=h'.objs.size->Q vs { s with heap:=h',toks:=tk,drawn:=dr }) :
  wpAny (model prog w) A (collect (.ref d)) Q E s:=by
 refine UfSet.kH (T:="dict") (OK:=λh=>h.DictAt knd d kvs ep) (R:=λn P=>n=kvs.length/\P=λi v=>∃k x,kvs[i]?=some (k,x)/\knd.is k v=true) hh hd (λh1 h2 x k=>x.at' λo e=>k _ _ e) (λs' x=>x.dictOf.typeIs) (λh1 x=>x.lt_size) (by decide) (by decide)
  (λA' E' s' Q' x q=>kdl_hint_dict x.dictOf.typeIs q) (λA' E' s' Q' x q=>?_) ?_
 ·refine wpAny_pyIter_dict lo x ?_
  exact q s'.heap.objs.size _ s'.drawn kvs.length _ [s'.heap.objs.size,d] _ ⟨rfl,rfl⟩ hz (λA2 h2=>Walks.dictKeys h2 _ d (K5 x.lt_size) kvs ep) ⟨⟨_,KY _ rfl,rfl,rfl⟩,x.push _⟩ (KL _) (λb o e=>Ky _ e) λb hb=>by
   simp only[KR,Lx,Mi]at hb
   rcases hb with rfl|rfl
   ·exact .inr (KL _)
   ·exact .inl rfl
 ·rintro h' tk dr n P vs ⟨rfl,rfl⟩ hl hat hk hz'
  exact h h' tk dr vs hl hat hk hz'
theorem wK:∀{ks:List Str} {vs:List Value},vs.length=ks.length->(∀(j:Nat) v,vs[j]?=some v->∃k tk,ks[j]?=some k/\v=Value.str k tk)->StrsAre vs ks
 |[],[],_,_=>.nil
 |k::ks,v::vs,hl,h=>by
  obtain⟨k',tk,e,rfl⟩:=h 0 v rfl
  have:k'=k:=by simpa using e.symm
  subst this
  exact .cons k' tk (wK (by simpa using hl) λj u hu=>by
   obtain⟨q,t,e1,e2⟩:=h (j+1) u (by simpa using hu)
   exact⟨q,t,by simpa using e1,e2⟩)
section
variable {X:Cx}
def Fm:List V->Hp->VK->Prop:=λxs H Q=>∃(a:Addr) (kvs:List (Key×V)) (ks:List Str),xs=[.ref a]/\Rd H a (.dK kvs)/\kvs.map (·.1)=ks.map Sum.inr/\ks.length<64/\∀p,H p=none->Q (.ref p) (upd H p (.lst (aH (aI ks))))
def vA{P:Program}{w:World}{kvs:List (Key×V)}{vs:List (Key×Value)}{ks:List Str}{us:List Value}(r:KV kvs vs)(hk:kvs.map (·.1)=ks.map Sum.inr)(hl:us.length=vs.length)
  (hat:∀(j:Nat) v,us[j]?=some v->∃k x,vs[j]?=some (k,x)/\(aR P w).is k v=true):StrsAre us ks:=by
 have e1:vs.map (·.1)=ks.map Sum.inr:=by rw[<-r.keys];exact hk
 have l1:vs.length=ks.length:=by have:=LZ List.length e1;simpa using this
 refine wK (by lia) λj v e=>?_
 obtain⟨k,x,e2,hi⟩:=hat j v e
 have e3:(vs.map (·.1))[j]?=some k:=by rw[KH,e2];rfl
 rw[e1,KH]at e3
 cases e4:ks[j]? with
 |none=>rw[e4]at e3;cases e3
 |some y =>
  rw[e4]at e3
  cases e3
  rw[uw]at hi
  rcases cq hi with⟨i,t,z,_⟩|⟨y',t,z,z2⟩
  ·cases z
  ·cases z
   exact⟨y,t,rfl,z2⟩
def vm(hc:X.calm=true):dS X (.builtin "sorted") Fm:=by
 intro pins s σ H xs us Q I r h
 obtain⟨a,kvs,ks,rfl,ha,hk,hz,q⟩:=h
 obtain⟨u,rfl,ru⟩:=vals1 r
 cases ru
 obtain⟨zk,lo,vs,rel,hd⟩:=oW I.hok ha
 obtain⟨ep,hat⟩:=hd.dictAt
 have hlen:vs.length<=sizeLine:=by rw[<-rel.length];exact zk
 refine UfSort.kz (ss:=ks) (λ{Q'} hq=>pR (A:=X.A.in1) (knd:=aR X.prog X.w) (I.ok.hd hc) lo hat hlen λh' tk dr us' hl hat' hk' hz'=>hq h' tk dr us' ks hk' hz' (vA rel hk hl hat') (.refl _)) hz λh' tk d D L=>?_
 exact⟨.ref D,_,mz I L (by lia),rfl,q _ (I.hok.fresh L.new)⟩
end
end L2
end
section
namespace UfFin
open PySem UfSrt
theorem dU{α:Type}[DecidableEq α]:∀{l m:List α},l.Nodup->(∀x∈l,x∈m)->l.length<=m.length
 |[],m,_,_=>K2 _
 |a::l,m,h,hs=>by
  obtain⟨h1,h2⟩:=LR.mp h
  have ha:a∈m:=hs a K9
  have ih:=dU (l:=l) (m:=m.erase a) h2 λx hx=>by
   have hne:x≠a:=λe=>h1 (e ▸ hx)
   exact(List.mem_erase_of_ne hne).mpr (hs x (K6 _ hx))
  rw[List.length_erase_of_mem ha]at ih
  have:=List.length_pos_of_mem ha
  rw[Lj]
  lia
def subs{α:Type}:List α->List (List α)
 |[]=>[[]]
 |x::r=>subs r++(subs r).map (x :: ·)
theorem mK{α:Type}:∀l:List α,(subs l).length=2 ^ l.length
 |[]=>rfl
 |x::r=>by
  show(subs r++(subs r).map (x :: ·)).length=_
  rw[KA,Kw,mK r,Lj,Nat.pow_succ]
  lia
theorem kC{α:Type}(p:α->Bool):∀l:List α,l.filter p∈subs l
 |[]=>by simp[subs]
 |x::r=>by
  have ih:=kC p r
  show List.filter p (x::r)∈subs r++(subs r).map (x :: ·)
  rw[Nk]
  split
  ·exact LG _ (K0.mpr ⟨_,ih,rfl⟩)
  ·exact Lr _ ih
structure cW(l:List Str):Prop where
 pw:l.Pairwise le
 nd:l.Nodup
theorem cW.aI{l:List Str}(h:l.Nodup):cW (aI l):=⟨uU l,iK.mpr h⟩
def cW.ext{l m:List Str}(h:cW l)(h':cW m)(e:∀x,x∈l↔x∈m):l=m:=by
 refine pw_unique h.pw h'.pw ?_
 exact(Ml h.nd h'.nd).mpr e
def cW.wa{l ps:List Str}(h:cW l)(hp:cW ps)(hs:∀x∈l,x∈ps):l∈subs ps:=by
 have e:l=ps.filter λx=>decide (x∈l):=by
  refine cW.ext h ⟨hp.pw.sublist NS,hp.nd.sublist NS⟩ λx=>?_
  rw[K1]
  constructor
  ·intro hx
   exact⟨hs x hx,by simpa using hx⟩
  ·rintro⟨_,hx⟩
   simpa using hx
 rw[e]
 exact kC _ _
end UfFin
end
section
namespace Uf
open PySem L2 UfSrt
abbrev uv:Stmt:=top 29
abbrev AB:Stmt:=inClass uv 0
abbrev wL:Stmt:=inClass uv 1
abbrev o7:Stmt:=inClass uv 2
abbrev ik:Stmt:=inClass uv 3
abbrev ki:Stmt:=inClass uv 4
abbrev mh:Stmt:=inClass uv 5
abbrev rH:Stmt:=inClass uv 6
def ir(aP aS aT aG:Addr):List (Str×V):=[("place_names",V.ref aP),("start_state",V.ref aS),("taken_by",V.ref aT),("given_by",V.ref aG)]
def J9:(("start_state":Str) == "place_names")=false:=by decide +kernel
def JA:(("taken_by":Str) == "place_names")=false:=by decide +kernel
def JT:(("given_by":Str) == "place_names")=false:=by decide +kernel
def Kl:(("taken_by":Str) == "start_state")=false:=by decide +kernel
def Ka:(("given_by":Str) == "start_state")=false:=by decide +kernel
def Kg:(("given_by":Str) == "taken_by")=false:=by decide +kernel
def IE(a b c d:Addr):(ir a b c d).lookup ("place_names":Str)=some (V.ref a):=by simp[ir,List.lookup]
def HW(a b c d:Addr):(ir a b c d).lookup ("start_state":Str)=some (V.ref b):=by simp[ir,List.lookup,J9]
def wo(a b c d:Addr):(ir a b c d).lookup ("taken_by":Str)=some (V.ref c):=by simp[ir,List.lookup,JA,Kl]
def Ek(a b c d:Addr):(ir a b c d).lookup ("given_by":Str)=some (V.ref d):=by simp[ir,List.lookup,JT,Ka,Kg]
def c6(a b c d:Addr){x:Str}(h1:(x == "place_names")=false)(h2:(x == "start_state")=false)(h3:(x == "taken_by")=false)(h4:(x == "given_by")=false):(ir a b c d).lookup x=none:=by
 simp[ir,List.lookup,h1,h2,h3,h4]
def F5:¬(("place_names":Str)="start_state"):=by decide +kernel
def Io:¬(("place_names":Str)="taken_by"):=by decide +kernel
def HR:¬(("start_state":Str)="taken_by"):=by decide +kernel
def JX:¬(("place_names":Str)="given_by"):=by decide +kernel
def Kb:¬(("start_state":Str)="given_by"):=by decide +kernel
def JU:¬(("taken_by":Str)="given_by"):=by decide +kernel
def yA(a b c d:Addr):bh "given_by" (V.ref d) (bh "taken_by" (V.ref c) (bh "start_state" (V.ref b) (bh "place_names" (V.ref a) [])))=ir a b c d:=by
 simp[bh,ir,F5,Io,HR,JX,Kb,JU]
structure gO(K:PySem.W.Frag)(C:Addr):Prop where
 cl:zf K C
 nP:cP K C "place_names"
 nS:cP K C "start_state"
 nT:cP K C "taken_by"
 nG:cP K C "given_by"
def gF(H:Hp)(sel:Mv->List Str)(ms:List Mv)(kvs:List (Key×V)):Prop:=Paired (λ(m:Mv) (kv:Key×V)=>kv.1=Sum.inr m.1/\∃t,kv.2=.ref t/\H t=some (.tup (aH (aI (sel m))))) ms kvs
def gF.same{H H':Hp}{sel:Mv->List Str}{ms:List Mv}{kvs:List (Key×V)}(s:∀b xs,H b=some (.tup xs)->H' b=some (.tup xs))(h:gF H sel ms kvs):gF H' sel ms kvs :=
 Paired.cH h λm kv ⟨e,t,h1,h2⟩=>⟨e,t,h1,s _ _ h2⟩
theorem gF.keys{H:Hp}{sel:Mv->List Str}:∀{ms:List Mv} {kvs:List (Key×V)},gF H sel ms kvs->kvs.map (·.1)=(names ms).map Sum.inr
 |_,_,.nil=>rfl
 |_,_,.cons h t=>by
  rw[LK,h.1,gF.keys t]
  rfl
theorem gF.snoc{H:Hp}{sel:Mv->List Str}{ms:List Mv}{kvs:List (Key×V)}{m:Mv}{t:Addr}(h:gF H sel ms kvs)(ht:H t=some (.tup (aH (aI (sel m))))):gF H sel (ms++[m]) (kvs++[(Sum.inr m.1,.ref t)]) :=
 L1 h ⟨rfl,t,rfl,ht⟩
theorem gF.none{H:Hp}{sel:Mv->List Str}{ms:List Mv}{kvs:List (Key×V)}{x:Str}(h:gF H sel ms kvs)(hx:x∉names ms):dv kvs (Sum.inr x:Key)=.none:=by
 cases e:dv kvs (Sum.inr x:Key) with
 |none=>rfl
 |some v =>
  have:=BY e
  rw[h.keys]at this
  obtain⟨y,hy,e2⟩:=K0.mp this
  cases e2
  exact absurd hy hx
theorem gF.get{H:Hp}{sel:Mv->List Str}{m:Mv}:∀{ms:List Mv} {kvs:List (Key×V)},gF H sel ms kvs->(names ms).Nodup->m∈ms->∃t,dv kvs (Sum.inr m.1:Key)=some (.ref t)/\H t=some (.tup (aH (aI (sel m))))
 |_,_,.nil,_,h=>by simp at h
 |m'::ms,_,.cons (b:=kv) h t,hn,hm=>by
  obtain⟨e,u,e1,e2⟩:=h
  obtain⟨n1,n2⟩:=LR.mp (show(m'.1::names ms).Nodup from hn)
  rcases KR.mp hm with rfl|hm
  ·exact⟨u,by rw[cJ e,e1],e2⟩
  ·have ne:¬kv.1=(Sum.inr m.1:Key):=λz=>by
    rw[e]at z
    have z2:m'.1=m.1:=by injection z
    exact n1 (by rw[z2];exact K0.mpr ⟨m,hm,rfl⟩)
   rw[cK ne]
   exact gF.get t n2 hm
structure rh(C:Addr)(H:Hp)(p:Addr)(ms:List Mv)(st:List Str):Prop where
 ob:∃dx aP aS aT aG kT kG,H p=some (.ins C dx (ir aP aS aT aG))/\H aP=some (.tup (aH (cL ms st)))/\H aS=some (.tup (aH (aI st)))/\H aT=some (.dK kT)/\H aG=some (.dK kG)/\gF H (·.2.1) ms kT/\gF H (·.2.2) ms kG
theorem rh.same{C:Addr}{H H':Hp}{p:Addr}{ms:List Mv}{st:List Str}(s:aq H H')(h:rh C H p ms st):rh C H' p ms st:=by
 obtain⟨dx,aP,aS,aT,aG,kT,kG,h1,h2,h3,h4,h5,h6,h7⟩:=h
 exact⟨dx,aP,aS,aT,aG,kT,kG,s _ _ h1,s _ _ h2,s _ _ h3,s _ _ h4,s _ _ h5,h6.same λb xs e=>s _ _ e,h7.same λb xs e=>s _ _ e⟩
def jQ(p:Addr)(H H':Hp):Prop:=∀c o,H c=some o->c≠p->H' c=some o
def jQ.refl(p:Addr)(H:Hp):jQ p H H:=λ_ _ e _=>e
def jQ.then{p:Addr}{H H1 H2:Hp}(b:jQ p H H1)(s:aq H1 H2):jQ p H H2:=λc o e n=>s c o (b c o e n)
def jQ.put{p:Addr}{H H1:Hp}{o:HO}(b:jQ p H H1):jQ p H (upd H1 p o):=λc u e n=>by rw[ah n];exact b c u e n
def jQ.new{p a:Addr}{H H1:Hp}{o:HO}(b:jQ p H H1)(n:H a=none):jQ p H (upd H1 a o):=λc u e nc=>by rw[ah (ai e n)];exact b c u e nc
def jQ.free{p a:Addr}{H H1:Hp}(b:jQ p H H1)(n:H1 a=none)(hp:a≠p):H a=none:=by
 cases e:H a with
 |none=>rfl
 |some o=>rw[b a o e hp]at n;cases n
def jQ.seq{K:PySem.W.Frag}{p C dx a:Addr}{H H1:Hp}{fs:List (Str×V)}{xs:List V}(b:jQ p H H1)(hp:H p=some (.ins C dx fs))(h:aA K H a xs):aA K H1 a xs:=by
 rcases h with(h|⟨o,h⟩)|h
 ·exact .inl (.inl (b _ _ h (aQ h hp (by intro z;cases z))))
 ·exact .inl (.inr ⟨o,b _ _ h (aQ h hp (by intro z;cases z))⟩)
 ·exact .inr h
def jQ.mv{p C dx q:Addr}{H H1:Hp}{fs:List (Str×V)}{m:Mv}(b:jQ p H H1)(hp:H p=some (.ins C dx fs))(h:nR H m q):nR H1 m q:=by
 obtain⟨l,g,h1,h2,h3⟩:=h
 exact⟨l,g,b _ _ h1 (aQ h1 hp (by intro z;cases z)),b _ _ h2 (aQ h2 hp (by intro z;cases z)),b _ _ h3 (aQ h3 hp (by intro z;cases z))⟩
structure Sound(ms:List Mv)(st:List Str):Prop where
 ml:ms.length<=12
 nn:(names ms).all isNm=true
 nd:(names ms).Nodup
 mv:∀m∈ms,gR m.2.1 m.2.2=true
 su:unlike st=true
 pl:(cL ms st).length<=12
def nU{ms:List Mv}{st:List Str}(h:gE ms st=true):Sound ms st:=by
 unfold gE at h
 obtain⟨h1,h⟩:=Lv.mp h
 obtain⟨h2,h⟩:=Lv.mp h
 obtain⟨h3,h⟩:=Lv.mp h
 obtain⟨h4,h5⟩:=Lv.mp h
 obtain⟨h6,h7⟩:=Lv.mp (show((names ms).all isNm&&decide (names ms).Nodup)=true from h2)
 exact⟨Ln h1,h6,Ln h7,λm hm=>LS.mp h3 m hm,h4,Ln h5⟩
def cV{xs:List Str}(h:unlike xs=true):xs.Nodup:=Ln (Lv.mp h).2
def Sound.Jl{ms:List Mv}{st:List Str}(h:Sound ms st):st.length<=12:=by
 refine Lh (UfFin.dU (cV h.su) λx hx=>?_) h.pl
 unfold cL
 exact bJ.mpr (UfSet.qB.mpr (Lr _ hx))
def eE{tk gv:List Str}(h:gR tk gv=true):unlike tk=true/\unlike gv=true/\1<=tk.length/\tk.length<=4/\gv.length<=4:=by
 unfold gR at h
 obtain⟨h1,h⟩:=Lv.mp h
 obtain⟨h2,h⟩:=Lv.mp h
 obtain⟨h3,h⟩:=Lv.mp h
 obtain⟨h4,h5⟩:=Lv.mp h
 exact⟨h1,h2,Ln h3,Ln h4,Ln h5⟩
def Ah(K:PySem.W.Frag)(C:Addr):Sp:=λvs H Q _=>∃(p dx a b:Addr) (ms:List Mv) (st:List Str),vs=[.ref p,.ref a,.ref b]/\H p=some (.ins C dx [])/\oF K H a ms/\aA K H b (aH st)/\Fits ms st/\gE ms st=true /\
 ∀H',rh C H' p ms st->(∀c o,H c=some o->c≠p->H' c=some o)->Q .non H'
def qP:aD ["self", "moves", "start", "name", "taken", "given"] ["self", "moves", "start"] (ar AB):=eA
inductive JC(C:Addr)(H:Hp)(p a b dx aP aS aT aG:Addr)(ms:List Mv)(st:List Str)(i:Nat)(σ:St)(H6:Hp):Prop
 |mk (kT kG:List (Key×V)) (v3 v4 v5:Option V) (q0:σ=[some (.ref p),some (.ref a),some (.ref b),v3,v4,v5]) (q1:H6 p=some (.ins C dx (ir aP aS aT aG))) (q2:H6 aP=some (.tup (aH (cL ms st)))) (q3:H6 aS=some (.tup (aH (aI st)))) (q4:H6 aT=some (.dK kT)) (q5:H6 aG=some (.dK kG)) (q6:gF H6 (·.2.1) (ms.take i) kT) (q7:gF H6 (·.2.2) (ms.take i) kG) (q8:jQ p H H6)
def JC.but{C:Addr}{H:Hp}{p a b dx aP aS aT aG:Addr}{ms:List Mv}{st:List Str}{i:Nat}{σ:St}{H6:Hp}(h:JC C H p a b dx aP aS aT aG ms st i σ H6):jQ p H H6:=by
 cases h
 assumption
def Ej{f C fN fU fM fP fK:Addr}{fd fdN fdU fdM fdP fdK:FuncData}(F:dj K "__init__" "Net.__init__" AB f fd)(T:Txt K mg)(CT:gO K C)(DN:Def K mg "is_name" eC ["thing"] fN fdN)(DU:Def K mg "are_unlike_names" iH ["things"] fU fdU)
  (DM:Def K mg "is_move" jI ["taken", "given"] fM fdM) (DP:Def K mg "places_of" jy ["moves", "start"] fP fdP) (DK:Def K mg "makes_net" qv ["moves", "start"] fK fdK):a9 P w K mg base cR 5 f fd ["self", "moves", "start"] (Ah K C):=by
 have GP:a9 P w K mg base cR 1 fP fdP ["moves", "start"] (mf K):=oY DP.fn T
 have GK:a9 P w K mg base cR 4 fK fdK ["moves", "start"] (wd K):=BK DK.fn T DN DU DM DP
 refine F.oK qP λcdv A outer s H vs Q E hr h=>?_
 ·obtain⟨p,dx,a,b,ms,st,rfl,hp,ha,hb,hf,hmk,k⟩:=h
  have hu:=eZ hr
  refine⟨_,af (bO (c9 (cG (dz GK hr rfl DK.mg DK.fn.kp DK.bd .nil br (aa (pv 1) (aa (pv 2) ae))))) oB aX)
   (af (d0 (pv 0) (bb bV rfl T.tup fh (aa (dz GP (hr.mono (by decide)) rfl DP.mg DP.fn.kp DP.bd .nil br (aa (pv 1) (aa (pv 2) ae))) ae)) rfl)
   (af (d0 (pv 0) (bb bV rfl T.tup fh (aa (ay cy rfl T.aI cj (aa (pv 2) ae)) ae)) rfl)
   (af (d0 (pv 0) gz rfl)
   (af (d0 (pv 0) gz rfl)
   (aj (bo K7 rfl (aL (pv 1)) (dQ rfl (aV (eu 3 qP) (aV (eu 4 qP) (aV (eu 5 qP) cZ))))
    (af (gQ hu (aZ (pv 0) rfl) (pv 3) (bb bV rfl T.tup fh (aa (ay cy rfl T.aI cj (aa (pv 4) ae)) ae)) rfl)
    (aj (gQ hu (aZ (pv 0) rfl) (pv 3) (bb bV rfl T.tup fh (aa (ay cy rfl T.aI cj (aa (pv 5) ae)) ae)) rfl))))))))),?_⟩
  clear hu
  dsimp only[bK,Cx.dP]
  have so:=nU hmk
  obtain⟨qs,hq,hqp⟩:=id ha
  refine⟨_,rfl,_,rfl,a,b,ms,st,rfl,ha,hb,hf,λH1 s1=>⟨_,rfl,?_⟩⟩
  rw[hmk]
  refine bF ?_
  refine⟨_,rfl,_,rfl,a,b,ms,st,rfl,ha.same s1,s1.seq hb,hf.sum,hf.jk,λH2 q1 s2 nq1 hq1=>⟨q1,_,rfl,.inl ⟨aA.of hq1,λaP nP=>?_⟩⟩⟩
  have sm2:aq H H2:=s1.trans s2
  have hp2:=sm2 _ _ hp
  have pP:p≠aP:=ai hp2 nP
  refine⟨_,rfl,p,C,dx,_,rfl,(by rw[ah pP];exact hp2),CT.cl,CT.nP,(by show 0<1000;decide),?_⟩
  have b3:jQ p H (upd (upd H2 aP (.tup (aH (cL ms st)))) p (.ins C dx (bh "place_names" (V.ref aP) []))):=(((jQ.refl p H).then sm2).new (sm2.free nP)).put
  have e3P:(upd (upd H2 aP (.tup (aH (cL ms st)))) p (.ins C dx (bh "place_names" (V.ref aP) []))) aP=some (.tup (aH (cL ms st))):=by rw[ah pP.symm,ag]
  have e3p:(upd (upd H2 aP (.tup (aH (cL ms st)))) p (.ins C dx (bh "place_names" (V.ref aP) []))) p=some (.ins C dx (bh "place_names" (V.ref aP) [])):=ag
  generalize upd (upd H2 aP (.tup (aH (cL ms st)))) p (.ins C dx (bh "place_names" (V.ref aP) []))=H3 at b3 e3P e3p ⊢
  refine⟨_,rfl,b,st,rfl,b3.seq hp hb,by have:=so.Jl;lia,λq2 nq2=>⟨q2,_,rfl,.inl ⟨aA.of ag,λaS nS=>?_⟩⟩⟩
  have p2:p≠q2:=ai e3p nq2
  have pS:p≠aS:=ai (by rw[ah p2];exact e3p) nS
  have n2S:aS≠q2:=λz=>by rw[z,ag]at nS;cases nS
  have nS3:H3 aS=none:=by rw[ah n2S]at nS;exact nS
  refine⟨_,rfl,p,C,dx,_,rfl,(by rw[ah pS,ah p2];exact e3p),CT.cl,CT.nS,(by show 1<1000;decide),?_⟩
  have b4:=(((b3.new (o:=.lst (aH (aI st))) (b3.free nq2 p2.symm)).new (o:=.tup (aH (aI st))) (b3.free nS3 pS.symm)).put (o:=.ins C dx (bh "start_state" (V.ref aS) (bh "place_names" (V.ref aP) []))))
  have PS:aP≠aS:=ai e3P nS3
  have P2:aP≠q2:=ai e3P nq2
  have e4P:(upd (upd (upd H3 q2 (.lst (aH (aI st)))) aS (.tup (aH (aI st)))) p (.ins C dx (bh "start_state" (V.ref aS) (bh "place_names" (V.ref aP) [])))) aP=some (.tup (aH (cL ms st))):=by rw[ah pP.symm,ah PS,ah P2];exact e3P
  have e4S:(upd (upd (upd H3 q2 (.lst (aH (aI st)))) aS (.tup (aH (aI st)))) p (.ins C dx (bh "start_state" (V.ref aS) (bh "place_names" (V.ref aP) [])))) aS=some (.tup (aH (aI st))):=by rw[ah pS.symm,ag]
  have e4p:(upd (upd (upd H3 q2 (.lst (aH (aI st)))) aS (.tup (aH (aI st)))) p (.ins C dx (bh "start_state" (V.ref aS) (bh "place_names" (V.ref aP) [])))) p=some (.ins C dx (bh "start_state" (V.ref aS) (bh "place_names" (V.ref aP) []))):=ag
  generalize upd (upd (upd H3 q2 (.lst (aH (aI st)))) aS (.tup (aH (aI st)))) p (.ins C dx (bh "start_state" (V.ref aS) (bh "place_names" (V.ref aP) [])))=H4 at b4 e4P e4S e4p ⊢
  intro aT nT
  have pT:p≠aT:=ai e4p nT
  refine⟨_,rfl,p,C,dx,_,rfl,(by rw[ah pT];exact e4p),CT.cl,CT.nT,(by simp[bh,F5]),?_⟩
  intro aG nG
  have pG:p≠aG:=λz=>by rw[<-z,ag]at nG;cases nG
  have GT:aG≠aT:=λz=>by rw[z,ah pT.symm,ag]at nG;cases nG
  have nG4:H4 aG=none:=by rw[ah pG.symm,ah GT]at nG;exact nG
  refine⟨_,rfl,p,C,dx,_,rfl,(by rw[ah pG];exact ag),CT.cl,CT.nG,(by simp[bh,F5,Io,HR]),?_⟩
  rw[yA]
  have nT0:H aT=none:=b4.free nT pT.symm
  have nG0:H aG=none:=b4.free nG4 pG.symm
  have b5:=(((b4.new (o:=.dK []) nT0).put (o:=.ins C dx (bh "taken_by" (V.ref aT) (bh "start_state" (V.ref aS) (bh "place_names" (V.ref aP) []))))).new (o:=.dK []) nG0).put (o:=.ins C dx (ir aP aS aT aG))
  have PT:aP≠aT:=ai e4P nT
  have PG:aP≠aG:=ai e4P nG4
  have ST:aS≠aT:=ai e4S nT
  have SG:aS≠aG:=ai e4S nG4
  generalize hH5:upd (upd (upd (upd H4 aT (.dK [])) p (.ins C dx (bh "taken_by" (V.ref aT) (bh "start_state" (V.ref aS) (bh "place_names" (V.ref aP) []))))) aG (.dK [])) p (.ins C dx (ir aP aS aT aG))=H5 at b5 ⊢
  have e5p:H5 p=some (.ins C dx (ir aP aS aT aG)):=by rw[<-hH5,ag]
  have e5P:H5 aP=some (.tup (aH (cL ms st))):=by rw[<-hH5,ah pP.symm,ah PG,ah pP.symm,ah PT];exact e4P
  have e5S:H5 aS=some (.tup (aH (aI st))):=by rw[<-hH5,ah pS.symm,ah SG,ah pS.symm,ah ST];exact e4S
  have e5T:H5 aT=some (.dK []):=by rw[<-hH5,ah pT.symm,ah GT.symm,ah pT.symm,ag]
  have e5G:H5 aG=some (.dK []):=by rw[<-hH5,ah pG.symm,ag]
  clear hH5
  have lq:qs.length=ms.length:=(KZ hqp).symm
  refine⟨_,rfl,a,rfl,⟨_,b5.seq hp hq⟩,bq (K:=K) (a:=a) (xs:=qs.map V.ref) (JC C H p a b dx aP aS aT aG ms st)
   ⟨[],[],none,none,none,rfl,e5p,e5P,e5S,e5T,e5G,.nil,.nil,b5⟩ (λi σ H6 _ h=>h.but.seq hp hq) ?_ ?_⟩
  ·rintro i v σ H6 hi ⟨kT,kG,v3,v4,v5,rfl,e6p,e6P,e6S,e6T,e6G,dT,dG,b6⟩
   obtain⟨q,hqi,rfl⟩:=fA hi
   obtain⟨m,hm,hmv⟩:=bE hqp hqi
   obtain⟨l,g,h1,h2,h3⟩:=b6.mv hp hmv
   have hmem:m∈ms:=KJ hm
   obtain⟨_,_,_,tk4,gv4⟩:=eE (so.mv m hmem)
   have hnew:m.1∉names (ms.take i):=λz=>by
    have nd:=so.nd
    have e:names ms=names (ms.take i)++names (ms.drop i):=by
     unfold names
     rw[<-KS,M8]
    rw[e]at nd
    have hlt:i<ms.length:=(KQ.mp hm).1
    have hin:m.1∈names (ms.drop i):=by
     refine K0.mpr ⟨m,?_,rfl⟩
     refine KJ (i:=0) ?_
     rw[List.getElem?_drop]
     exact hm
    exact(LM.mp nd).2.2 _ z _ hin rfl
   have lT:kT.length=(ms.take i).length:=(KZ dT).symm
   have lG:kG.length=(ms.take i).length:=(KZ dG).symm
   have l12:(ms.take i).length<=12:=by rw[La];have:=so.ml;lia
   refine⟨q,_,rfl,bX.of h1,rfl,_,_,rfl,_,_,rfl,_,_,rfl,rfl,?_⟩
   refine⟨_,rfl,l,m.2.1,rfl,aA.of h2,by lia,λq3 n3=>⟨q3,_,rfl,.inl ⟨aA.of ag,λt3 m3=>?_⟩⟩⟩
   have s7:aq H6 (upd (upd H6 q3 (.lst (aH (aI m.2.1)))) t3 (.tup (aH (aI m.2.1)))):=(ao n3).trans (ao m3)
   have e7t:(upd (upd H6 q3 (.lst (aH (aI m.2.1)))) t3 (.tup (aH (aI m.2.1)))) t3=some (.tup (aH (aI m.2.1))):=ag
   have nt6:H6 t3=none:=(ao (o:=.lst (aH (aI m.2.1))) n3).free m3
   have b7:jQ p H (upd (upd H6 q3 (.lst (aH (aI m.2.1)))) t3 (.tup (aH (aI m.2.1)))):=b6.then s7
   generalize upd (upd H6 q3 (.lst (aH (aI m.2.1)))) t3 (.tup (aH (aI m.2.1)))=H7 at s7 e7t b7 ⊢
   refine⟨_,rfl,p,C,dx,_,_,rfl,s7 _ _ e6p,CT.cl,CT.nT,wo _ _ _ _,_,rfl,aT,_,rfl,ku.k (k:=Sum.inr m.1) (s7 _ _ e6T) (oH (by lia)),?_⟩
   have pk:putK kT (Sum.inr m.1:Key) (V.ref t3)=kT++[(Sum.inr m.1,V.ref t3)]:=jr _ (dT.none hnew)
   rw[pk]
   have tT:∀{b:Addr} {xs:List V},H7 b=some (.tup xs)->b≠aT:=λe=>aQ e (s7 _ _ e6T) (by intro z;cases z)
   have e8T:(upd H7 aT (.dK (kT++[(Sum.inr m.1,V.ref t3)]))) aT=some (.dK (kT++[(Sum.inr m.1,V.ref t3)])):=ag
   have up8:∀{b:Addr} {o:HO},b≠aT->H7 b=some o->(upd H7 aT (.dK (kT++[(Sum.inr m.1,V.ref t3)]))) b=some o:=λn e=>by rw[ah n];exact e
   have e8p:=up8 pT (s7 _ _ e6p)
   have e8P:=up8 PT (s7 _ _ e6P)
   have e8S:=up8 ST (s7 _ _ e6S)
   have e8G:=up8 GT (s7 _ _ e6G)
   have e8t:=up8 (tT e7t) e7t
   have dT8:gF (upd H7 aT (.dK (kT++[(Sum.inr m.1,V.ref t3)]))) (·.2.1) (ms.take i++[m]) (kT++[(Sum.inr m.1,V.ref t3)]):=(dT.same λb xs e=>up8 (tT (s7 _ _ e)) (s7 _ _ e)).snoc e8t
   have dG8:gF (upd H7 aT (.dK (kT++[(Sum.inr m.1,V.ref t3)]))) (·.2.2) (ms.take i) kG:=dG.same λb xs e=>up8 (tT (s7 _ _ e)) (s7 _ _ e)
   have e8g:=up8 (aQ (s7 _ _ h3) (s7 _ _ e6T) (by intro z;cases z)) (s7 _ _ h3)
   have b8:jQ p H (upd H7 aT (.dK (kT++[(Sum.inr m.1,V.ref t3)]))):=b7.new nT0
   generalize upd H7 aT (.dK (kT++[(Sum.inr m.1,V.ref t3)]))=H8 at e8T e8p e8P e8S e8G dT8 dG8 e8g b8 ⊢
   refine⟨_,rfl,g,m.2.2,rfl,aA.of e8g,by lia,λq4 n4=>⟨q4,_,rfl,.inl ⟨aA.of ag,λt4 m4=>?_⟩⟩⟩
   have s9:aq H8 (upd (upd H8 q4 (.lst (aH (aI m.2.2)))) t4 (.tup (aH (aI m.2.2)))):=(ao n4).trans (ao m4)
   have e9t:(upd (upd H8 q4 (.lst (aH (aI m.2.2)))) t4 (.tup (aH (aI m.2.2)))) t4=some (.tup (aH (aI m.2.2))):=ag
   have b9:jQ p H (upd (upd H8 q4 (.lst (aH (aI m.2.2)))) t4 (.tup (aH (aI m.2.2)))):=b8.then s9
   generalize upd (upd H8 q4 (.lst (aH (aI m.2.2)))) t4 (.tup (aH (aI m.2.2)))=H9 at s9 e9t b9 ⊢
   refine⟨_,rfl,p,C,dx,_,_,rfl,s9 _ _ e8p,CT.cl,CT.nG,Ek _ _ _ _,_,rfl,aG,_,rfl,ku.k (k:=Sum.inr m.1) (s9 _ _ e8G) (oH (by lia)),?_⟩
   have pk2:putK kG (Sum.inr m.1:Key) (V.ref t4)=kG++[(Sum.inr m.1,V.ref t4)]:=jr _ (dG.none hnew)
   rw[pk2]
   have tG:∀{b:Addr} {xs:List V},H9 b=some (.tup xs)->b≠aG:=λe=>aQ e (s9 _ _ e8G) (by intro z;cases z)
   have up9:∀{b:Addr} {o:HO},b≠aG->H9 b=some o->(upd H9 aG (.dK (kG++[(Sum.inr m.1,V.ref t4)]))) b=some o:=λn e=>by rw[ah n];exact e
   have tki:ms.take (i+1)=ms.take i++[m]:=au hm
   refine⟨kT++[(Sum.inr m.1,V.ref t3)],kG++[(Sum.inr m.1,V.ref t4)],_,_,_,rfl,up9 pG (s9 _ _ e8p),up9 PG (s9 _ _ e8P),up9 SG (s9 _ _ e8S),up9 GT.symm (s9 _ _ e8T),ag,?_,?_,b9.new nG0⟩
   ·rw[tki]
    exact dT8.same λb xs e=>up9 (tG (s9 _ _ e)) (s9 _ _ e)
   ·rw[tki]
    exact(dG8.same λb xs e=>up9 (tG (s9 _ _ e)) (s9 _ _ e)).snoc (up9 (tG e9t) e9t)
  ·rintro σ H6 ⟨kT,kG,v3,v4,v5,rfl,e6p,e6P,e6S,e6T,e6G,dT,dG,b6⟩
   rw[Kw,lq,Le]at dT dG
   exact k H6 ⟨dx,aP,aS,aT,aG,kT,kG,e6p,e6P,e6S,e6T,e6G,dT,dG⟩ b6
structure BU(K:PySem.W.Frag)(C:Addr)(x q:Str)(st:Stmt)(ps:List Str)(f:Addr)(fd:FuncData):Prop where
 fn:dj K x q st f fd
 mt:Meth K C x f
 bd:Binds K fd ps []
structure jE(P:Program)(w:World)(K:PySem.W.Frag)(mg:Str->Option Value)(base:Heap)(C:Addr)(x q:Str)(st:Stmt)(ps:List Str)(k:Nat)(sp:Sp) where
 f:Addr
 fd:FuncData
 d:BU K C x q st ps f fd
 g:a9 P w K mg base cR k f fd ps sp
structure cB(C:Addr)(H:Hp)(p:Addr)(ms:List Mv)(st:List Str):Prop where
 at':rh C H p ms st
 so:Sound ms st
theorem cB.same{C:Addr}{H H':Hp}{p:Addr}{ms:List Mv}{st:List Str}(s:aq H H')(h:cB C H p ms st):cB C H' p ms st:=⟨h.at'.same s,h.so⟩
theorem Sound.isNm{ms:List Mv}{st:List Str}(h:Sound ms st){m:Mv}(hm:m∈ms):Uf.isNm m.1=true:=LS.mp h.nn _ (K0.mpr ⟨m,hm,rfl⟩)
def rF{x:Str}(h:isNm x=true):x.length<=8:=by
 unfold isNm at h
 have:=(Lv.mp (Lv.mp h).2).1
 exact Ln this
def pL(C:Addr):Sp:=λvs H Q _=>∃(p:Addr) (ms:List Mv) (st:List Str),vs=[.ref p]/\cB C H p ms st/\∀H' q,aq H H'->H q=none->H' q=some (.lst (aH (aI (names ms))))->Q (.ref q) H'
def Ff:aD ["self"] ["self"] (ar o7):=eA
def CY{f C:Addr}{fd:FuncData}(F:dj K "moves" "Net.moves" o7 f fd)(T:Txt K mg)(CT:gO K C):a9 P w K mg base cR 1 f fd ["self"] (pL C):=by
 refine F.oK Ff λcdv A outer s H vs Q E hr h=>?_
 ·obtain⟨p,ms,st,rfl,N,k⟩:=h
  obtain⟨dx,aP,aS,aT,aG,kT,kG,h1,h2,h3,h4,h5,h6,h7⟩:=N.at'.ob
  refine⟨_,aj (aK (ay (vm rfl) rfl T.aI cj (aa (aZ (pv 0) rfl) ae))),?_⟩
  try dsimp only[bK,Cx.dP,Cx.bQ]
  refine⟨_,rfl,p,C,dx,_,_,rfl,h1,CT.cl,CT.nT,wo _ _ _ _,aT,kT,names ms,rfl,.inl h4,h6.keys,?_,λq nq=>k _ q (ao nq) nq ag⟩
  have:=N.so.ml
  unfold names
  rw[Kw]
  lia
def pI(C:Addr):Sp:=λvs H Q _=>∃(p:Addr) (ms:List Mv) (st:List Str),vs=[.ref p]/\cB C H p ms st/\∀q,H q=some (.tup (aH (aI st)))->Q (.ref q) H
def Cs:aD ["self"] ["self"] (ar mh):=eA
def zz{f C:Addr}{fd:FuncData}(F:dj K "start" "Net.start" mh f fd)(CT:gO K C):a9 P w K mg base cR 1 f fd ["self"] (pI C):=by
 refine F.oK Cs λcdv A outer s H vs Q E hr h=>?_
 ·obtain⟨p,ms,st,rfl,N,k⟩:=h
  obtain⟨dx,aP,aS,aT,aG,kT,kG,h1,h2,h3,h4,h5,h6,h7⟩:=N.at'.ob
  refine⟨_,aj (aK (aZ (pv 0) rfl)),?_⟩
  try dsimp only[bK,Cx.dP,Cx.bQ]
  exact⟨_,rfl,p,C,dx,_,_,rfl,h1,CT.cl,CT.nS,HW _ _ _ _,k aS h3⟩
def uT(C:Addr):Sp:=λvs H Q _=>∃(p:Addr) (ms:List Mv) (st:List Str) (m:Mv),vs=[.ref p,.str m.1]/\cB C H p ms st/\m∈ms/\∀H',aq H H'->Q .non H'
def GC:aD ["self", "move"] ["self", "move"] (ar rH):=eA
def xH{f C fN:Addr}{fd fdN:FuncData}(F:dj K "must_have" "Net.must_have" rH f fd)(T:Txt K mg)(CT:gO K C)(DN:Def K mg "is_name" eC ["thing"] fN fdN):a9 P w K mg base cR 2 f fd ["self", "move"] (uT C):=by
 have GN:a9 P w K mg base cR 1 fN fdN ["thing"] md:=pE DN.fn T
 refine F.oK GC λcdv A outer s H vs Q E hr h=>?_
 ·obtain⟨p,ms,st,m,rfl,N,hm,k⟩:=h
  have hu:=eZ hr
  refine⟨_,aj (bO (PW.pt (pw_or (c9 (cG (dz GN hr rfl DN.mg DN.fn.kp DN.bd .nil br (aa (pv 1) ae)))) (pw_or1 (mr (oV hu (pv 1) (aZ (pv 0) rfl)))))) oB aX),?_⟩
  clear hu
  dsimp only[bK,Cx.dP]
  have hnm:=N.so.isNm hm
  refine⟨_,rfl,m.1,rfl,by have:=rF hnm;lia,λH1 s1=>⟨_,rfl,?_⟩⟩
  obtain⟨dx,aP,aS,aT,aG,kT,kG,h1,h2,h3,h4,h5,h6,h7⟩:=(N.at'.same s1).ob
  rw[hnm]
  refine bF ?_
  obtain⟨t,e,_⟩:=h6.get N.so.nd hm
  refine⟨_,rfl,_,rfl,p,C,dx,_,_,rfl,h1,CT.cl,CT.nT,wo _ _ _ _,aT,_,rfl,gP.k (k:=Sum.inr m.1) h4,_,rfl,?_⟩
  rw[e]
  refine bF ?_
  exact k H1 s1
def iX(C:Addr)(sel:Mv->List Str):Sp:=λvs H Q _=>∃(p:Addr) (ms:List Mv) (st:List Str) (m:Mv),vs=[.ref p,.str m.1]/\cB C H p ms st/\m∈ms/\∀H' q,aq H H'->H q=none->H' q=some (.lst (aH (aI (sel m))))->Q (.ref q) H'
def DW:aD ["self", "move"] ["self", "move"] (ar ik):=eA
def De:aD ["self", "move"] ["self", "move"] (ar ki):=eA
def ER:(("must_have":Str) == "place_names")=false:=by decide +kernel
def Ex:(("must_have":Str) == "start_state")=false:=by decide +kernel
def EI:(("must_have":Str) == "taken_by")=false:=by decide +kernel
def EB:(("must_have":Str) == "given_by")=false:=by decide +kernel
def zX{f C fN fH:Addr}{fd fdN fdH:FuncData}(F:dj K "takes" "Net.takes" ik f fd)(T:Txt K mg)(CT:gO K C)(DN:Def K mg "is_name" eC ["thing"] fN fdN)(DH:BU K C "must_have" "Net.must_have" rH ["self", "move"] fH fdH) :
  a9 P w K mg base cR 3 f fd ["self", "move"] (iX C (·.2.1)):=by
 have GH:a9 P w K mg base cR 2 fH fdH ["self", "move"] (uT C):=xH DH.fn T CT DN
 refine F.oK DW λcdv A outer s H vs Q E hr h=>?_
 ·obtain⟨p,ms,st,m,rfl,N,hm,k⟩:=h
  have hu:=eZ hr
  refine⟨_,af (bj (cz (pv 0) CT.cl DH.mt GH hr DH.bd .nil br (aa (pv 1) ae))) (aj (aK (bb cn rfl T.lst eR (aa (iF hu (aZ (pv 0) rfl) (pv 1) (λ_ _=>rfl)) ae)))),?_⟩
  clear hu
  dsimp only[bK,Cx.dP]
  obtain⟨dx,aP,aS,aT,aG,kT,kG,h1,h2,h3,h4,h5,h6,h7⟩:=N.at'.ob
  refine⟨_,rfl,p,dx,_,rfl,h1,c6 _ _ _ _ ER Ex EI EB,_,rfl,p,ms,st,m,rfl,N,hm,λH1 s1=>?_⟩
  obtain⟨t,e,ht⟩:=(h6.same λb xs e=>s1 _ _ e).get N.so.nd hm
  refine⟨_,rfl,p,C,dx,_,_,rfl,s1 _ _ h1,CT.cl,CT.nT,wo _ _ _ _,_,rfl,aT,_,rfl,(by rw[<-e];exact gP.k (k:=Sum.inr m.1) (s1 _ _ h4)),t,_,rfl,.inr (bX.of ht),λq nq=>?_⟩
  exact k _ q (s1.trans (ao nq)) (s1.free nq) ag
def Bk{f C fN fH:Addr}{fd fdN fdH:FuncData}(F:dj K "gives" "Net.gives" ki f fd)(T:Txt K mg)(CT:gO K C)(DN:Def K mg "is_name" eC ["thing"] fN fdN)(DH:BU K C "must_have" "Net.must_have" rH ["self", "move"] fH fdH) :
  a9 P w K mg base cR 3 f fd ["self", "move"] (iX C (·.2.2)):=by
 have GH:a9 P w K mg base cR 2 fH fdH ["self", "move"] (uT C):=xH DH.fn T CT DN
 refine F.oK De λcdv A outer s H vs Q E hr h=>?_
 ·obtain⟨p,ms,st,m,rfl,N,hm,k⟩:=h
  have hu:=eZ hr
  refine⟨_,af (bj (cz (pv 0) CT.cl DH.mt GH hr DH.bd .nil br (aa (pv 1) ae))) (aj (aK (bb cn rfl T.lst eR (aa (iF hu (aZ (pv 0) rfl) (pv 1) (λ_ _=>rfl)) ae)))),?_⟩
  clear hu
  dsimp only[bK,Cx.dP]
  obtain⟨dx,aP,aS,aT,aG,kT,kG,h1,h2,h3,h4,h5,h6,h7⟩:=N.at'.ob
  refine⟨_,rfl,p,dx,_,rfl,h1,c6 _ _ _ _ ER Ex EI EB,_,rfl,p,ms,st,m,rfl,N,hm,λH1 s1=>?_⟩
  obtain⟨t,e,ht⟩:=(h7.same λb xs e=>s1 _ _ e).get N.so.nd hm
  refine⟨_,rfl,p,C,dx,_,_,rfl,s1 _ _ h1,CT.cl,CT.nG,Ek _ _ _ _,_,rfl,aG,_,rfl,(by rw[<-e];exact gP.k (k:=Sum.inr m.1) (s1 _ _ h5)),t,_,rfl,.inr (bX.of ht),λq nq=>?_⟩
  exact k _ q (s1.trans (ao nq)) (s1.free nq) ag
end Uf
end
section
namespace L2
open PySem PySem.Spec PyProof.Rows UfSrt
section
variable {X:Cx}
def DE(tk tv:TE):TE:=λσ H Q=>∀p,H p=none->tk σ (upd H p (.dT [])) λx H1=>tv σ H1 λy H2=>H2 p=some (.dT [])/\∃ks b,x=.ref b/\H2 b=some (.tup (ks.map kV))/\Q (.ref p) (upd H2 p (.dT [(ks,y)]))
def xV{k v:Expr}{pos:Pos}{tk tv:TE}(hu:X.A.units+1<cLine)(hk:PE X k tk)(hv:PE X v tv):PE X (.Dict [some k] [v] pos) (DE tk tv):=by
 intro pins s σ H Q I q
 have hn:=I.hok.fresh (KL s.heap.objs.size)
 have I1:=I.laid (a:=s.heap.objs.size) (o:=.dT []) (h':=s.heap.push { cls:=.type "dict",data:=.dict #[] }) (t':=s.toks) (λ_ _ q=>Ky _ q) (KL _) (Bb s.heap I.big)
 refine wpAny_Dict_any rfl rfl (by simp) (by show 1<=15;decide) (pairTrees_cons_walk (cc (hk pins _ σ _ _ I1 (q _ hn)) λu s1 ⟨x,H1,J1,rx,q1⟩=>cc (hv pins s1 σ H1 _ J1 q1) λw2 s2 ⟨y,H2,J2,ry,e,ks,b,ex,eb,q2⟩=>pairTrees_nil_walk ?_))
 subst ex
 obtain rfl:u=Value.ref b:=rx
 unfold storeAll
 rw[MO]
 obtain⟨z,hd,xs,rel,dd⟩:=ED J2.hok e
 cases rel
 refine Kv (Kv (wpAny_dictSet_heap (knd:=tupleKind (aR X.prog X.w)) (hsz:=by simp) (by have:=hu;show X.A.units<cLine;lia) (j0 J2.hok eb) dd λh' dd' hs=>Kz ?_))
 show wpAny _ _ (forIn [] PUnit.unit _) _ _ _
 rw[OZ]
 refine Kz ?_
 obtain⟨o,es,ep,hq,h2,h3,h4,_,h5⟩:=dd'
 refine⟨.ref s.heap.objs.size,_,kZ J2 (by rw[e];exact True.intro) hs ⟨o,hq⟩ (ob:=.dT [(ks,y)]) ⟨by show 1<=sizeLine;rw[LF];decide,hd,_,?_,o,es,ep,hq,h2,h3,h4,h5⟩,rfl,q2⟩
 refine .cons ⟨rfl,?_,ry⟩ .nil
 rw[ah (aQ eb e (λz=>nomatch z))]
 exact eb
def ne_nil:fZ X (compareOp .NotEq) (λx y H Q=>∃a b xs,x=.ref a/\y=.ref b/\X.A.units<cLine/\aA X.K H a xs/\aA X.K H b []/\Q (.bl (!xs.isEmpty)) H):=by
 intro pins s σ H x y v u Q I rx ry h
 obtain⟨a,b,xs,rfl,rfl,hu,ha,hb,q⟩:=h
 cases rx
 cases ry
 obtain⟨its,r1,p1,_⟩:=I.list ha
 obtain⟨its2,r2,p2,_⟩:=I.list hb
 cases r2
 cases r1 with
 |nil=>exact PySem.SeqAt.RcNeAt.lists (e:=λ_=>true) p1.isList p2.isList rfl hu (λj h1 _=>absurd h1 (by simp)) X.prog X.w X.xe _ ⟨.bl false,H,I,rfl,q⟩
 |cons _ _=>exact PySem.SeqAt.RcNeAt.lists_lengths p1.isList p2.isList (by simp) hu X.prog X.w X.xe _ ⟨.bl true,H,I,rfl,q⟩
def eq_nil:fZ X (compareOp .Eq) (λx y H Q=>∃a b xs,x=.ref a/\y=.ref b/\X.A.units<cLine/\aA X.K H a xs/\aA X.K H b []/\Q (.bl xs.isEmpty) H):=by
 intro pins s σ H x y v u Q I rx ry h
 obtain⟨a,b,xs,rfl,rfl,hu,ha,hb,q⟩:=h
 cases rx
 cases ry
 obtain⟨its,r1,p1,_⟩:=I.list ha
 obtain⟨its2,r2,p2,_⟩:=I.list hb
 cases r2
 cases r1 with
 |nil=>exact PySem.SeqAt.RcAt.lists (e:=λ_=>true) p1.isList p2.isList rfl hu (λj h1 _=>absurd h1 (by simp)) X.prog X.w X.xe _ ⟨.bl true,H,I,rfl,q⟩
 |cons _ _=>exact PySem.SeqAt.RcAt.lists_lengths p1.isList p2.isList (by simp) hu X.prog X.w X.xe _ ⟨.bl false,H,I,rfl,q⟩
def sV(x:Str)(n:Nat):Str:=⟨(List.replicate n x.cps).foldl (· ++ ·) #[]⟩
def BH(x:Str):sV x 1=x:=by
 unfold sV
 simp[List.replicate,List.foldl]
def JP:V->Option Int->Option Int->Hp->VK->Prop:=λx lo hi H Q=>∃z:Str,x=.str z/\z.length<=sizeLine/\Q (.str (Txt.slice z lo hi)) H
def AY:JH X JP:=by
 intro pins s σ H x v vl vu lo hi sl Q I rx hs pl pu h
 obtain⟨z,rfl,hz,q⟩:=h
 obtain⟨t,rfl⟩:=rx
 refine⟨"str",_,PySem.F.slot_str_getitem.lookup,Qn _ _ _,?_⟩
 cases pl with
 |none =>
  cases pu with
  |none=>exact Np (l:=none) (u:=none) (st:=none) hs rfl (OM ⟨Lh (ON z _ _) hz,λt' k=>⟨.str _,H,I.tok k,⟨_,rfl⟩,q⟩⟩)
  |int j uj=>exact Np (l:=none) (u:=some (j,uj)) (st:=none) hs rfl (OM ⟨Lh (ON z _ _) hz,λt' k=>⟨.str _,H,I.tok k,⟨_,rfl⟩,q⟩⟩)
 |int i ui =>
  cases pu with
  |none=>exact Np (l:=some (i,ui)) (u:=none) (st:=none) hs rfl (OM ⟨Lh (ON z _ _) hz,λt' k=>⟨.str _,H,I.tok k,⟨_,rfl⟩,q⟩⟩)
  |int j uj=>exact Np (l:=some (i,ui)) (u:=some (j,uj)) (st:=none) hs rfl (OM ⟨Lh (ON z _ _) hz,λt' k=>⟨.str _,H,I.tok k,⟨_,rfl⟩,q⟩⟩)
end
end L2
end
section
namespace Uf
open PySem L2 UfSrt UfFin
def xZ(x:Str):x.length=x.cps.toList.length:=by simp[Str.length]
def yJ:BQ.cps.toList=(List.range 26).map (· + 97):=by decide +kernel
def Ed{c:Nat}(h1:97<=c)(h2:c<=122):c∈BQ.cps.toList:=by
 rw[yJ]
 exact K0.mpr ⟨c-97,Ly.mpr (by lia),by lia⟩
def Eb(l:List Nat):Prop:=∀c∈l,97<=c/\c<=122
def EJ{x:Str}(h1:1<=x.cps.toList.length)(h2:x.cps.toList.length<=8)(h:Eb x.cps.toList):isNm x=true:=by
 unfold isNm
 rw[xZ,KC h1,KC h2,Nb,Nb,LS]
 intro c hc
 exact KC (Ed (h c hc).1 (h c hc).2)
def jY{xs:List Str}(h1:∀x∈xs,isNm x=true)(h2:xs.Nodup):unlike xs=true:=by
 unfold unlike
 rw[LS.mpr h1,KC h2]
 rfl
def j4{xs:List Str}(h:unlike xs=true){x:Str}(hx:x∈xs):isNm x=true:=LS.mp (Lv.mp h).1 x hx
def jg{xs ys:List Str}(h:unlike xs=true)(hn:ys.Nodup)(hs:∀y∈ys,y∈xs):unlike ys=true:=jY (λy hy=>j4 h (hs y hy)) hn
end Uf
end
section
namespace UfStr
open PySem PySem.Builtin PySem.Builtin.Str PySem.StrLaws
def pX{x y:PySem.Str}(h:x.cps.toList=y.cps.toList):x=y:=by
 cases x with
 |mk a =>
  cases y with
  |mk b =>
   have:a=b:=Pp.mp h
   rw[this]
def yx(x y:PySem.Str):(x++y).cps.toList=x.cps.toList++y.cps.toList:=by
 show(x.cps++y.cps).toList=_
 simp
end UfStr
namespace L2
open PySem PySem.Spec PyProof.Rows UfSrt
theorem rK:∀{xs:List Str} {us:List Value},Vals (aH xs) us->∃l:List (Str×Tok),us=strValues l/\l.map (·.1)=xs
 |[],_,.nil=>⟨[],rfl,rfl⟩
 |x::xs,_,.cons r t=>by
  obtain⟨tk,rfl⟩:=r
  obtain⟨l,rfl,e⟩:=rK t
  exact⟨(x,tk)::l,rfl,by rw[LK,e]⟩
section
variable {X:Cx}
def rJoin(K:PySem.W.Frag):V->List V->Hp->VK->Prop:=λx vs H Q=>∃(y:Str) (a:Addr) (xs:List Str),x=.str y/\vs=[.ref a]/\aA K H a (aH xs)/\JoinOk y xs=true/\Q (.str (Str.join y xs)) H
def Cr:JZ X "str.join" (rJoin X.K):=by
 intro pins s σ H x vs v us Q I rx rv h
 obtain⟨y,a,xs,rfl,rfl,ha,ok,q⟩:=h
 obtain⟨t,rfl⟩:=rx
 obtain⟨u,rfl,ru⟩:=rv.one
 cases ru
 obtain⟨its,r,pl,hz⟩:=I.list ha
 obtain⟨l,rfl,e⟩:=rK r
 refine SC.join pl.isList e ok λt' k=>⟨.str _,H,I.tok _,⟨t',?_⟩,q⟩
 show Value.str (Txt.join y xs) t'=Value.str (Str.join y xs) t'
 rw[show Txt.join y xs=Str.join y xs from StrLaws.glued_eq_join y xs]
end
end L2
end
section
namespace Uf
open PySem L2
structure Txt2(mg:PySem.Str->Option Value):Prop where
 rng:mg "range"=none
 enm:mg "enumerate"=none
 any:mg "any"=none
end Uf
end
section
namespace L2
open PySem PySem.Spec PyProof.Rows
section
variable {X:Cx}
def CS:fZ X (binaryOp .Mult) (λx y H Q=>∃(z:Str) (n:Int),x=.str z/\y=.int n/\1<=n/\n<=8/\z.length=1/\Q (.str (sV z n.toNat)) H):=by
 intro pins s σ H x y v u Q I rx ry h
 obtain⟨z,n,rfl,rfl,hn,hn2,hz,q⟩:=h
 obtain⟨t,rfl⟩:=rx
 obtain⟨t',rfl⟩:=ry
 have hsl:=LF
 have h3:n=1\/n=2\/n=3\/n=4\/n=5\/n=6\/n=7\/n=8:=by lia
 have e2:z.cps.size=1:=hz
 refine PySem.P.mul_str (by rw[KU (by lia),KU (by lia)];rfl) (λh1 _=>?_) (λh1 _=>?_) ?_
 ·rw[hz]
  rcases h3 with rfl|rfl|rfl|rfl|rfl|rfl|rfl|rfl <;> decide
 ·rw[hz]
  rcases h3 with rfl|rfl|rfl|rfl|rfl|rfl|rfl|rfl <;> decide
 ·by_cases h1:n=1
  ·subst h1
   rw[KD (by decide),KP (by rfl)]
   refine⟨.str (sV z 1),H,I,⟨t,?_⟩,q⟩
   rw[BH]
  ·have e:((n:Int)==1 || z.length==0)=false:=by
    rw[hz]
    have:(n==1)=false:=Me.mpr h1
    rw[this]
    rfl
   rw[KD (by lia),KD (by rw[e];exact Lb)]
   refine⟨?_,.str (sV z n.toNat),H,I.tok _,⟨_,rfl⟩,q⟩
   rcases h3 with rfl|rfl|rfl|rfl|rfl|rfl|rfl|rfl <;>
   ·show((List.replicate _ z.cps).foldl (· ++ ·) #[]).size<=_
    simp[List.replicate,List.foldl,e2]
    lia
end
end L2
namespace Uf
open PySem L2 UfSrt UfFin
abbrev pd:Stmt:=top 49
def jA{α:Type}{xs:List α}{i:Int}(d:α)(h0:0<=i)(h1:i<xs.length):tY xs i=some (xs.getD i.toNat d):=by
 unfold tY zg
 rw[KP h0,KP h1]
 show xs[i.toNat]?=_
 have h2:i.toNat<xs.length:=by lia
 rw[Kx h2,KN,Kx h2]
 rfl
def getD_map{α β:Type}(f:α->β)(xs:List α)(i:Nat)(d:α):(xs.map f).getD i (f d)=f (xs.getD i d):=by
 rw[KN,KH,KN]
 cases xs[i]? <;> rfl
def kS{xs:List Str}{i:Int}(h0:0<=i)(h1:i<xs.length):tY (aH xs) i=some (.str (xs.getD i.toNat "")):=by
 rw[jA (V.str "") h0 (by rw[aw];exact h1)]
 unfold aH
 rw[getD_map V.str]
def ig{xs:List Int}{i:Int}(h0:0<=i)(h1:i<xs.length):tY (xs.map V.int) i=some (.int (xs.getD i.toNat 0)):=by
 rw[jA (V.int 0) h0 (by rw[Kw];exact h1),getD_map V.int]
def qI(K:PySem.W.Frag):Sp:=λvs H Q _=>∃(a:Addr) (ns:List Int) (k:Nat),vs=[.ref a,.int k]/\aA K H a (ns.map V.int)/\ns.length<=63/\Q (.int (ns.getD k 0)) H
def Fi:aD ["_law_script", "_law_k"] ["_law_script", "_law_k"] (ar pd):=eA
def DZ{f:Addr}{fd:FuncData}(F:dj K "_law_cell_at" "_law_cell_at" pd f fd)(T:Txt K mg):a9 P w K mg base cR 1 f fd ["_law_script", "_law_k"] (qI K):=by
 refine F.oK Fi λcdv A outer s H vs Q E hr h=>?_
 ·obtain⟨a,ns,k,rfl,ha,hz,kk⟩:=h
  refine⟨_,af (bO (a8 xa (pv 1) (ay aY rfl T.len cx (aa (pv 0) ae)) (bC _)) (aj (aK (aM aE (pv 0) (pv 1) (λ_ _=>rfl)))) aX)
   (aj (aK ak)),?_⟩
  try dsimp only[bK,Cx.dP,Cx.bQ]
  refine⟨_,rfl,_,rfl,_,ns.length,rfl,.inl ⟨_,ha,by rw[Kw]⟩,_,_,rfl,rfl,_,rfl,?_⟩
  by_cases h:k<ns.length
  ·rw[KC (show((k:Nat):Int)<((ns.length:Nat):Int) by lia)]
   refine cv ?_
   refine⟨_,rfl,_,rfl,a,_,_,_,rfl,rfl,ha,ig (by lia) (by lia),?_⟩
   exact kk
  ·rw[KU (show ¬((k:Nat):Int)<((ns.length:Nat):Int) by lia)]
   refine bF ?_
   have e:ns.getD k 0=0:=by rw[KN,Ll (by lia)];rfl
   rw[e]at kk
   exact kk
end Uf
namespace Uf
open PySem L2 UfSrt UfStr PySem.Builtin PySem.Builtin.Str PySem.StrLaws
abbrev sZ:Stmt:=top 50
def yg(x:PySem.Str){a b:Nat}(hab:a<=b)(hb:b<=x.length):Txt.slice x (some (a:Int)) (some (b:Int))=strSub x a b:=by
 refine UfStr.pX ?_
 rw[strSub_toList]
 have:=sliceText_nat x hab hb
 rw[show Txt.slice x (some (a:Int)) (some (b:Int))=sliceText x (some (a:Int)) (some (b:Int)) from rfl,this]
def tu(x:PySem.Str){b:Nat}(hb:b<=x.length):(Txt.slice x none (some (b:Int))).cps.toList=x.cps.toList.take b:=by
 have:Txt.slice x none (some (b:Int))=strSub x 0 b:=by
  rw[<-yg x (K2 b) hb]
  unfold Txt.slice
  rw[sliceIdx_none_lo]
  rfl
 rw[this,strSub_toList,OY,Nat.sub_zero]
theorem foldl_rep(c:Nat):∀(n:Nat) (acc:Array Nat),((List.replicate n #[c]).foldl (· ++ ·) acc).toList=acc.toList++List.replicate n c
 |0,acc=>by simp
 |n+1,acc=>by
  rw[NT,L5,foldl_rep c n,NT]
  simp
def vH(c n:Nat):(sV (⟨#[c]⟩:PySem.Str) n).cps.toList=List.replicate n c:=by
 unfold sV
 rw[foldl_rep]
 rfl
def GW:List Nat:=[113,119,101,114,116,121,117,105,111,112,97,115,100,102,103,104,106,107,108,122,120,99,118]
def nY(c:Int)(k:Nat):Int:=(k*(1+c % 22)+c / 22) % 23
def Ay(c:Int)(k:Nat):List Nat :=
 if c / 506 % 2=0 then List.replicate (1+nY c k % 8).toNat (97+(nY c k / 8).toNat)
 else GW.getD (nY c k).toNat 0::[120,121,122].take (c / 1012 % 4).toNat
def jc(c:Int)(k:Nat):PySem.Str:=⟨(Ay c k).toArray⟩
def dB(c:Int)(k:Nat):(jc c k).cps.toList=Ay c k:=by unfold jc;simp
def qA(c:Int)(k:Nat):0<=nY c k/\nY c k<23:=by unfold nY;lia
def Fq:∀a<23,∀d<23,a*d % 23=0->a=0\/d=0:=by decide +kernel
def HX{c:Int}{k m:Nat}(hk:k<23)(hm:m<23)(e:nY c k=nY c m):k=m:=by
 have key:∀{a b:Nat},a<23->b<=a->nY c a=nY c b->a=b:=λ{a b} ha hb e=>by
  unfold nY at e
  have h0:0<=c % 22/\c % 22<22:=by lia
  obtain⟨q,hq⟩:∃q:Nat,(1+c % 22)=q:=⟨(1+c % 22).toNat,by lia⟩
  rw[hq]at e
  have hq1:0<q/\q<23:=by lia
  obtain⟨d,rfl⟩:∃d,a=b+d:=⟨a-b,by lia⟩
  have e2:(((b+d:Nat):Int)*q+c / 22-((b:Int)*q+c / 22)) % 23=0:=by
   rw[Int.sub_emod,e]
   simp
  have e3:((b+d:Nat):Int)*q+c / 22-((b:Int)*q+c / 22)=((q*d:Nat):Int):=by
   push_cast
   rw[Int.add_mul,Int.mul_comm (q:Int) (d:Int)]
   lia
  rw[e3]at e2
  have e4:q*d % 23=0:=by lia
  rcases Fq q hq1.2 d (by lia) e4 with z|z
  ·lia
  ·lia
 rcases QB m k with h|h
 ·exact key hk h e
 ·exact(key hm h e.symm).symm
def Gh:∀a<23,∀b<23,GW.getD a 0=GW.getD b 0->a=b:=by decide +kernel
def IS:∀a<23,97<=GW.getD a 0/\GW.getD a 0<=122:=by decide +kernel
def Dl{c:Int}{k m:Nat}(hk:k<23)(hm:m<23)(e:Ay c k=Ay c m):k=m:=by
 obtain⟨a0,a1⟩:=qA c k
 obtain⟨b0,b1⟩:=qA c m
 refine HX (c:=c) hk hm ?_
 unfold Ay at e
 by_cases h:c / 506 % 2=0
 ·rw[KP h,KP h]at e
  generalize nY c k=a at *
  generalize nY c m=b at *
  have l:=LZ List.length e
  rw[MH,MH]at l
  obtain⟨n1,e1⟩:∃n,(1+a % 8).toNat=n+1:=⟨(a % 8).toNat,by lia⟩
  obtain⟨n2,e2⟩:∃n,(1+b % 8).toNat=n+1:=⟨(b % 8).toNat,by lia⟩
  have hd:=LZ List.head? e
  rw[e1,e2,NT,NT]at hd
  simp only[List.head?_cons,Option.some.injEq]at hd
  lia
 ·rw[KD h,KD h]at e
  have e1:=(List.cons.inj e).1
  have:=Gh (nY c k).toNat (by lia) (nY c m).toNat (by lia) e1
  lia
def Ge(c:Int)(k:Nat):1<=(Ay c k).length/\(Ay c k).length<=8/\∀x∈Ay c k,97<=x/\x<=122:=by
 obtain⟨a0,a1⟩:=qA c k
 have hz:∀x∈[120,121,122],97<=x/\x<=122:=by decide
 unfold Ay
 by_cases h:c / 506 % 2=0
 ·rw[KP h,MH]
  refine⟨by lia,by lia,λx hx=>?_⟩
  have:=List.eq_of_mem_replicate hx
  lia
 ·rw[KD h,Lj,La]
  refine⟨by lia,by show min _ 3+1<=8;lia,λx hx=>?_⟩
  rcases KR.mp hx with rfl|hx
  ·exact IS _ (by lia)
  ·exact hz x (L0 hx)
def wF(c:Int)(k:Nat):isNm (jc c k)=true:=by
 obtain⟨h1,h2,h3⟩:=Ge c k
 exact EJ (by rw[dB];exact h1) (by rw[dB];exact h2) (by rw[dB];exact h3)
def Bu{c:Int}{k m:Nat}(hk:k<23)(hm:m<23)(e:jc c k=jc c m):k=m:=Dl hk hm (by rw[<-dB,<-dB,e])
def wu(c:Int)(n:Nat):List PySem.Str:=(List.range n).map (jc c)
def kX(c:Int)(n:Nat):(wu c n).length=n:=by unfold wu;rw[List.length_map,List.length_range]
def jh(c:Int){n:Nat}(h:n<=23):unlike (wu c n)=true:=by
 refine jY (λx hx=>?_) ?_
 ·obtain⟨k,_,rfl⟩:=K0.mp hx
  exact wF c k
 ·unfold wu
  rw[List.nodup_iff_pairwise_ne,Nf]
  refine(Nl (n:=n)).imp_of_mem λ{a b} ha hb hne e=>hne (Bu (by have:=Ly.mp ha;lia) (by have:=Ly.mp hb;lia) e)
def BL(c:Int)(n:Nat):wu c (n+1)=wu c n++[jc c n]:=by unfold wu;rw[List.range_succ,List.map_append];rfl
def uh:Sp:=λvs H Q _=>∃(c:Int) (k:Nat),vs=[.int c,.int k]/\k<23/\Q (.str (jc c k)) H
def Ax:aD ["_law_cell", "_law_k", "_law_j"] ["_law_cell", "_law_k"] (ar sZ):=eA
def mX:("abc":PySem.Str).cps.toList=[97,98,99]:=by decide +kernel
def rJ:("qwertyuiopasdfghjklzxcv":PySem.Str).cps.toList=GW:=by decide +kernel
def zc:("xyz":PySem.Str).cps.toList=[120,121,122]:=by decide +kernel
def CN{f:Addr}{fd:FuncData}(F:dj K "_law_name" "_law_name" sZ f fd):a9 P w K mg base cR 1 f fd ["_law_cell", "_law_k"] uh:=by
 refine F.oK Ax λcdv A outer s H vs Q E hr h=>?_
 ·obtain⟨c,k,rfl,hk,kk⟩:=h
  have hsl:=Lg
  refine⟨_,af (cD 2 Ax (az bY (az cY (az fC (pv 1) (az cY ak (az bY (pv 0) ak))) (az cA (pv 0) ak)) ak))
   (af (bO (a8 hX (az bY (az cA (pv 0) ak) ak) ak (bC _)) (aj (aK (az CS (aM uR mT (az cA (pv 2) ak) (λ_ _=>rfl)) (az cY ak (az bY (pv 2) ak))))) aX)
   (aj (aK (az vn (aM uR mT (pv 2) (λ_ _=>rfl)) (dt AY mT fY (dw (az bY (az cA (pv 0) ak) ak))))))),?_⟩
  try dsimp only[bK,Cx.dP,Cx.bQ]
  obtain⟨a0,a1⟩:=qA c k
  refine⟨_,rfl,_,rfl,_,_,rfl,rfl,(by show(0:Int)<22;decide),_,_,rfl,rfl,_,_,rfl,rfl,.inl ⟨by lia,by lia⟩,_,rfl,_,_,rfl,rfl,⟨by decide,by decide⟩,_,_,rfl,rfl,_,_,rfl,rfl,(by show(0:Int)<23;decide),?_⟩
  have ej:((k:Int)*(1+c % 22)+c / 22) % 23=nY c k:=rfl
  dsimp only[ix]
  rw[ej]
  refine⟨_,rfl,_,_,rfl,rfl,⟨by decide,by decide⟩,_,_,rfl,rfl,(by show(0:Int)<2;decide),rfl,_,rfl,?_⟩
  by_cases h:c / 506 % 2=0
  ·rw[KC (show V.int (c / 506 % 2)=V.int 0 by rw[h])]
   refine cv ?_
   refine⟨_,rfl,_,_,rfl,rfl,⟨by decide,by decide⟩,_,_,_,rfl,rfl,(by show(3:Nat)<=sizeLine;lia),jA 0 (by lia) (by rw[mX];show _<((3:Nat):Int);lia),_,rfl,_,_,rfl,rfl,(by show(0:Int)<8;decide),_,_,rfl,rfl,_,_,rfl,rfl,by lia,by lia,rfl,?_⟩
   have e:sV (⟨#[("abc":PySem.Str).cps.toList.getD (nY c k / 8).toNat 0]⟩:PySem.Str) (1+nY c k % 8).toNat=jc c k:=by
    refine UfStr.pX ?_
    rw[vH,dB]
    unfold Ay
    rw[KP h,mX]
    congr 1
    have:(nY c k / 8).toNat=0\/(nY c k / 8).toNat=1\/(nY c k / 8).toNat=2:=by lia
    rcases this with z|z|z <;> rw[z] <;> rfl
   rw[<-e]at kk
   exact kk
  ·rw[KU (show ¬V.int (c / 506 % 2)=V.int 0 fromλz=>h (by injection z))]
   refine bF ?_
   have h4:0<=c / 1012 % 4/\c / 1012 % 4<4:=by lia
   have e:(⟨#[("qwertyuiopasdfghjklzxcv":PySem.Str).cps.toList.getD (nY c k).toNat 0]⟩:PySem.Str)++Txt.slice "xyz" none (some (c / 1012 % 4))=jc c k:=by
    refine UfStr.pX ?_
    rw[UfStr.yx,dB]
    unfold Ay
    rw[KD h,rJ]
    have e1:c / 1012 % 4=(((c / 1012 % 4).toNat:Nat):Int):=by lia
    have e2:=tu ("xyz":PySem.Str) (b:=(c / 1012 % 4).toNat) (by show _<=3;lia)
    rw[<-e1]at e2
    rw[e2,zc]
    rfl
   have hlen:=ON ("xyz":PySem.Str) none (some (c / 1012 % 4))
   refine⟨_,rfl,_,_,_,rfl,rfl,(by show(23:Nat)<=sizeLine;lia),jA 0 (by lia) (by rw[rJ];show _<((23:Nat):Int);lia),_,rfl,_,_,rfl,rfl,⟨by decide,by decide⟩,_,_,rfl,rfl,(by show(0:Int)<4;decide),_,rfl,_,rfl,(by show(3:Nat)<=sizeLine;lia),_,_,rfl,rfl,?_,?_⟩
   ·have:("xyz":PySem.Str).length=3:=by decide +kernel
    show 1+(Txt.slice "xyz" none (some (c / 1012 % 4))).length<=sizeLine
    lia
   rw[<-e]at kk
   exact kk
end Uf
end
section
namespace L2
open PySem PySem.Spec PyProof.Rows
section
variable {X:Cx}{es:List Expr}{pos:Pos}{t:TA}
def Nw(H:Hp)(o:HO)(Q:VK):Prop:=∀p H2,H p=none->aq H H2->H2 p=some o->Q (.ref p) H2
def Nw.use{H:Hp}{o:HO}{Q:VK}(h:Nw H o Q){p:Addr}(n:H p=none):Q (.ref p) (upd H p o):=h p _ n (λb u e=>by rw[ah (ai e n)];exact e) ag
def IA(t:TA):TE:=λσ H Q=>t σ H λxs H1=>xs.length<=sizeLine/\Nw H1 (.tup xs) Q
def HQ(t:TA):TE:=λσ H Q=>t σ H λxs H1=>xs.length<=sizeLine/\Nw H1 (.lst xs) Q
def dR{x1}(h:PA X es t):PE X (.Tuple es x1 pos) (IA t):=by
 intro pins s σ H Q I hq
 refine wpAny_Tuple_spliced (cc (h pos pins s σ H _ I hq) λus s1 ⟨xs,H1,I1,r,z,q⟩=>⟨by rw[<-r.length];exact z,?_⟩)
 refine⟨.ref s1.heap.objs.size,upd H1 s1.heap.objs.size (.tup xs),I1.laid (t':=s1.toks) (λb u e=>Ky _ e) (KL _) ?_,rfl,q.use (I1.hok.fresh (KL _))⟩
 exact⟨z,us,r,⟨_,KY _ rfl,rfl,_,rfl⟩⟩
def bz(h:PA X es t):PE X (.List es pos) (HQ t):=by
 intro pins s σ H Q I hq
 refine wpAny_List_spliced (cc (h pos pins s σ H _ I hq) λus s1 ⟨xs,H1,I1,r,z,q⟩=>⟨by rw[<-r.length];exact z,?_⟩)
 refine⟨.ref s1.heap.objs.size,upd H1 s1.heap.objs.size (.lst xs),I1.laid (t':=s1.toks) (λb u e=>Ky _ e) (KL _) ?_,rfl,q.use (I1.hok.fresh (KL _))⟩
 exact⟨z,us,0,r,KY _ rfl⟩
def ji:dS X (.type "list") (λxs H Q=>∃p ys,xs=[.ref p]/\(aA X.K H p ys\/bX X.K H p ys)/\Nw H (.lst ys) Q) :=
 λpins s σ H xs us Q I r ⟨p,ys,e,hq,q⟩=>cn pins s σ H xs us Q I r ⟨p,ys,e,hq,λ_ n=>q.use n⟩
end
end L2
namespace Uf
open PySem L2
def ints_get{cs:List Int}{i:Nat}{v:V}(h:(cs.map V.int)[i]?=some v):∃c,cs[i]?=some c/\v=.int c:=by
 rw[KH]at h
 cases e:cs[i]? with
 |none=>rw[e]at h;cases h
 |some x=>rw[e]at h;exact⟨x,rfl,(Lq h).symm⟩
end Uf
end
section
namespace L2
open PySem PySem.Spec PyProof.Rows UfSrt
section
variable {X:Cx}{pins:List (Addr×Obj)}{σ:St}{H:Hp}{s:Shared}
def Inv.zd{h':Heap}{t':Nat}{ch:List Addr}{T:Addr}{u:HO}(I:Inv X pins σ H s)(hch:∀b∈ch,iq X pins H b)(k:∀b o,b∉ch->s.heap.get? b=some o->h'.get? b=some o)(hT:s.heap.objs.size<=T)
  (new:bU X.prog X.w (upd H T u) h' T u):Inv X pins σ (upd H T u) { s with heap:=h',toks:=t' }:=by
 have hn:H T=none:=I.hok.fresh hT
 have nch:∀b v,H b=some v->b∉ch:=λb v e z=>by rw[(hch b z).1]at e;cases e
 have nT:∀b o,s.heap.get? b=some o->b≠T:=λb o e=>K5 (K4 (KO e) hT)
 refine I.step (g':=s.gens) (d':=s.drawn) (ch:=ch) (λb hb=>⟨(hch b hb).2.2.2.1,(hch b hb).2.1,(hch b hb).2.2.2.2.1,(hch b hb).2.2.2.2.2⟩) (λb o _ _ hc e _=>k b o hc e) (λb o _ _ hc e _=>⟨o.slots,k b o hc e⟩) (λb o _ e n=>by rw[ah (nT b o e)];exact n)
  (λb o hc e=>⟨o,k b o hc e⟩) (λb xs e=>by rw[ah (ai e hn)];exact e) (λb o v e=>by rw[ah (ai e hn)];exact e) (λb ps e=>⟨#[],by rw[ah (ai e hn),e];simp⟩) (λm hm=>?_) (λb v e=>?_) I.bare
 ·obtain⟨o,es,ep,ho,r⟩:=hm
  exact⟨o,es,ep,k _ o (λz=>(hch _ z).2.1 rfl) ho,r⟩
 ·by_cases hb:b=T
  ·subst hb
   rw[ag]at e
   cases e
   exact new
  ·rw[ah hb]at e
   refine(I.hok b v e).lX (λc w hc q=>k c w ?_ q) (λc q=>by rw[ah (ai q hn)];exact q) λc xs q=>by rw[ah (ai q hn)];exact q
   rcases hc with z|z
   ·rw[z];exact nch b v e
   ·exact nch c _ z
end
def Ir(K:PySem.W.Frag)(l:Addr):It :=
 ⟨λi H=>∃xs x,aA K H l xs/\xs[i]?=some x,λi H x H'=>∃p v,x=.ref p/\H p=none/\H'=upd H p (.tup [.int (i:Int),v])/\∀xs,aA K H l xs->xs[i]?=some v,λi H=>∃xs,aA K H l xs/\xs.length<=i⟩
def xR{P:Program}{w:World}{K:PySem.W.Frag}{elts:List Expr}{x1}{pos:Pos}{l e it:Addr}(hne:e≠it) :
  Turn P w K (.Tuple elts x1 pos) (Ir K l) [e,it] e (λi h=>(∃old,IsEnum h e it i old)/\h.IsListIter it l i) where
 mem:=by simp
 obj:=λi h st b hb=>by
  obtain⟨⟨old,he⟩,o,e2,c,d⟩:=st
  rcases KR.mp hb with z|hb
  ·subst z
   exact⟨_,he,λv z=>by
    have z':Data.fields _=Data.cell v:=z
    cases z'⟩
  ·have z:b=it:=by simpa using hb
   subst z
   exact⟨o,e2,λv z=>by rw[d]at z;cases z⟩
 keep:=λi h h' st k=>⟨let ⟨old,he⟩:=st.1;⟨old,k e (by simp) _ he⟩,st.2.at λo q=>k it (by simp) o q⟩
 item:=by
  intro X hP hw hK hc i pins s σ H E I hf st hg
  subst hP hw hK
  obtain⟨xs,x,hq,hx⟩:=hg
  obtain⟨its,rv,p,hz⟩:=I.list hq
  obtain⟨u,hu,ru⟩:=rv.get hx
  obtain⟨⟨old,he⟩,hit⟩:=st
  refine wpAny_pyNext_enum_item he hit p.isList (x:=u) (by simpa using hu) hne λh1 ho hit1 hT hsz hk=>?_
  refine⟨.ref s.heap.objs.size,rfl,wpAny_letOwnedTupleGo_enum ho λh2 he2 hs2=>?_⟩
  have elt:e<s.heap.objs.size:=KO he
  have ilt:it<s.heap.objs.size:=by obtain⟨_,y,_⟩:=hit;exact KO y
  have kk:∀b o,b∉[e,it]->s.heap.get? b=some o->h2.get? b=some o:=λb o hb q=>by
   have n1:b≠e:=λz=>hb (by simp[z])
   have n2:b≠it:=λz=>hb (by simp[z])
   exact(hs2.2 b n1).trans (hk b o n1 n2 q)
  have hT2:h2.get? s.heap.objs.size=some { cls:=.type "tuple",data:=.seq #[.int i s.toks,u] }:=(hs2.2 _ (MK elt)).trans hT
  have hn:=I.hok.fresh (KL s.heap.objs.size)
  refine⟨.ref s.heap.objs.size,upd H s.heap.objs.size (.tup [.int (i:Int),x]),I.zd (t':=s.toks+1) hf kk (KL _) ⟨by show 2<=sizeLine;rw[LF];decide,[.int i s.toks,u],.cons ⟨_,rfl⟩ (.cons ru .nil),_,hT2,rfl,_,rfl⟩,rfl,⟨_,x,rfl,hn,rfl,λys hy=>by rw[I.tD hy hq];exact hx⟩,⟨⟨_,by simpa using he2⟩,hit1.at λo q=>(hs2.2 it (Li hne)).trans q⟩,λb hb=>?_⟩
  have nb:b≠s.heap.objs.size:=by
   rcases KR.mp hb with z|hb
   ·rw[z];exact K5 elt
   ·have z:b=it:=by simpa using hb
    rw[z];exact K5 ilt
  rw[ah nb]
  exact(hf b hb).1
 done:=by
  intro X hP hw hK hc i pins s σ H E I hf st hg
  subst hP hw hK
  obtain⟨xs,hq,hx⟩:=hg
  obtain⟨its,rv,p,hz⟩:=I.list hq
  obtain⟨⟨old,he⟩,hit⟩:=st
  obtain⟨f0,f1,f2,f3,f4,f5⟩:=hf it (by simp)
  have hl:=rv.length
  exact wpAny_pyNext_enum_end (I.ok.hd hc) he hit p.isList (by simp;lia) λh' eb=>⟨rfl,I.turned (t':=s.toks) (λb o hb e=>eb b o hb e) f0 f1 f3 f4 f5⟩
 self:=λ_ _ _ _ _ st h=>let ⟨⟨_,he⟩,_⟩:=st;wpAny_pyIter_enum he h
section
variable {X:Cx}{elts:List Expr}{x1:Nat}{tpos:Pos}
def boot_enumerate:bootBuiltins "enumerate"=some (.type "enumerate"):=by decide +kernel
def HN(K:PySem.W.Frag)(ta:TA):TI:=λσ H R=>ta σ H λvs H1=>∃l,vs=[.ref l]/\(∃xs,aA K H1 l xs)/\R (Ir K l) H1
def lI{a:Expr}{ta:TA}{p pos:Pos}(hg:Gl X "enumerate")(hm:X.mg "enumerate"=none)(ha:PA X [a] ta)(hs:starEach [a] X.env=[(false,eval a X.env)]:=by rfl):PI X (.Tuple elts x1 tpos) (.Call (.Name "enumerate" p) [a] [] pos) (HN X.K ta):=by
 intro pins s σ H R I h
 refine Call_ (iA I hg hm boot_enumerate (Mx (cc (ha pos pins s σ H _ I h) λus s1 ⟨vs,H1,I1,r1,q1⟩=>?_) hs rfl))
 obtain⟨l,e,⟨xs,hq⟩,q⟩:=q1
 subst e
 cases r1 with
 |cons r rr =>
  cases rr
  cases r
  obtain⟨its,rv,pl,hz⟩:=I1.list hq
  refine call_enumerate_list pl.isList λh' he hit hsz hk=>?_
  refine wpAny_pyIter_enum he ?_
  have hne:s1.heap.objs.size+1≠s1.heap.objs.size:=Nat.succ_ne_self _
  have I2:Inv X pins σ H1 { s1 with heap:=h' }:=I1.kept (t':=s1.toks) hk
  refine⟨s1.heap.objs.size+1,[s1.heap.objs.size+1,s1.heap.objs.size],_,_,H1,rfl,I2,xR hne,⟨⟨_,he⟩,hit⟩,λb hb=>?_,q⟩
  have hb2:s1.heap.objs.size<=b:=by
   rcases KR.mp hb with z|hb
   ·rw[z];exact Mn _
   ·have z:b=s1.heap.objs.size:=by simpa using hb
    rw[z];exact KL _
  exact I1.Bn hb2 (I1.hok.fresh hb2)
end
def jo{K:PySem.W.Frag}{a:Addr}{xs:List V}{g:TG}{tb:TS}{D:Ends}{σ:St}{H:Hp}(Pv:Nat->St->Hp->Prop)(h0:Pv 0 σ H)(hl:∀i σ H,i<=xs.length->Pv i σ H->aA K H a xs)
  (hs:∀i x p σ H,xs[i]?=some x->Pv i σ H->H p=none->g (.ref p) σ (upd H p (.tup [.int (i:Int),x])) λσ2 H2=>tb { D with nx:=Pv (i+1),ct:=Pv (i+1),bk:=D.nx } σ2 H2) (hd:∀σ H,Pv xs.length σ H->D.nx σ H) :
  ∃W:Nat->Nat->St->Hp->Prop,(∃m,W 0 m σ H)/\∀i m σ H,W i m σ H ->
   ((Ir K a).stop i H/\D.nx σ H)\/((Ir K a).go i H/\∃N:St->Hp->Prop,(∀σ' H',N σ' H'->∃m',m'<m/\W (i+1) m' σ' H')/\∀x H',(Ir K a).yld i H x H'->g x σ H' λσ2 H2=>tb { D with nx:=N,ct:=N,bk:=D.nx } σ2 H2):=by
 refine⟨λi m σ H=>m=xs.length-i/\i<=xs.length/\Pv i σ H,⟨xs.length,by simp,K2 _,h0⟩,?_⟩
 rintro i m σ H ⟨rfl,hi,p⟩
 have q:=hl i σ H hi p
 by_cases hlt:i<xs.length
 ·refine .inr ⟨⟨xs,xs[i],q,by simp[hlt]⟩,Pv (i+1),λσ' H' p'=>⟨xs.length-(i+1),by lia,rfl,hlt,p'⟩,λx H' y=>?_⟩
  obtain⟨pp,v,rfl,hn,rfl,hv⟩:=y
  exact hs i v pp σ _ (hv xs q) p hn
 ·have e:i=xs.length:=by lia
  subst e
  exact .inl ⟨⟨xs,q,KL _⟩,hd σ H p⟩
end L2
end
section
namespace L2
open PySem PySem.Spec PyProof.Rows UfSrt
section
variable {X:Cx}{pins:List (Addr×Obj)}{σ:St}{H:Hp}{s:Shared}
def A0(t:TA):TE:=λσ H Q=>t σ H λvs H1=>∃n:Nat,vs=[.int n]/\n<=1000/\∀q,H1 q=none->Q (.ref q) (upd H1 q (.lst ((List.range n).map λi=>V.int (i:Nat))))
theorem tP:∀{us:List Value} {n k:Nat},us.length=n->(∀(j:Nat) v,us[j]?=some v->∃t,v=Value.int ((k+j:Nat):Int) t)->Vals ((List.range' k n).map λi=>V.int (i:Nat)) us
 |[],n,k,hl,_=>by
  have:n=0:=by simpa using hl.symm
  subst this
  exact .nil
 |u::us,n,k,hl,h=>by
  obtain⟨n,rfl⟩:∃m,n=m+1:=⟨us.length,by simpa using hl.symm⟩
  obtain⟨t,e⟩:=h 0 u rfl
  rw[List.range'_succ,LK]
  refine .cons ⟨t,by rw[e];rfl⟩ (tP (by simpa using hl) λj v hj=>?_)
  obtain⟨t',e'⟩:=h (j+1) v (by simpa using hj)
  exact⟨t',by rw[e'];congr 2;lia⟩
def vM{a:Expr}{t:TA}{p1 p2 pos pos2:Pos}(hc:X.calm=true)(hg:Gl X "list")(hm:X.mg "list"=none)(hb:bootBuiltins "list"=some (.type "list"))(hg2:Gl X "range")(hm2:X.mg "range"=none)(ha:PA X [a] t)
  (he:starEach [.Call (.Name "range" p2) [a] [] pos2] X.env=[(false,eval (.Call (.Name "range" p2) [a] [] pos2) X.env)]:=by rfl) (he2:starEach [a] X.env=[(false,eval a X.env)]:=by rfl) :
  PE X (.Call (.Name "list" p1) [.Call (.Name "range" p2) [a] [] pos2] [] pos) (A0 t):=by
 intro pins s σ H Q I h
 refine MG (iA I hg hm hb ?_)
 refine Mx ?_ he rfl
 rw[he]
 refine Calls.spliced_cons ?_
 refine MG (iA I hg2 hm2 boot_range ?_)
 refine Mx (cc (ha pos2 pins s σ H _ I h) λus s1 ⟨vs,H1,I1,r1,n,ev,hn,q⟩=>?_) he2 rfl
 subst ev
 obtain⟨u,rfl,ru⟩:=vals1 r1
 obtain⟨t,rfl⟩:=ru
 refine call_range_1 ?_
 refine Calls.spliced_nil ?_
 refine call_list_range (n:=n) (I.ok.hd hc) (IsRange.new ..) (small_one (by lia) (by lia) (by lia) (by lia)) (by rw[rangeSize_one];split <;> lia) (by lia) λh' tk acc c kp hS hacc=>?_
 refine⟨.ref _,upd H1 _ (.lst ((List.range n).map λi=>V.int (i:Nat))),I1.laid (t':=tk) (λb o e=>kp b o (Ky _ e)) (by rw[Mm];exact Mn _) ⟨by rw[Kw,LV,LF];lia,acc.toList,c,?_,?_⟩,rfl,q _ (I1.hok.fresh (by rw[Mm];exact Mn _))⟩
 ·have:=tP (us:=acc.toList) (n:=n) (k:=0) (by rw[L7];exact hacc.1) λj v e=>by
   obtain⟨t,e'⟩:=hacc.2 j v (by rw[<-L9];exact e)
   exact⟨t,by rw[e'];congr 1;lia⟩
  rwa[<-List.range_eq_range']at this
 ·rw[hS]
end
end L2
namespace Uf
open PySem L2 UfSrt UfFin
abbrev kU:Stmt:=top 51
abbrev wj:Stmt:=top 52
def E2{n:Nat}{i:Int}(h0:0<=i)(h1:i<n):zg n i=some i.toNat:=by unfold zg;rw[if_pos h0,if_pos h1]
def qe{α β:Type}(f:α->β)(xs:List α)(j:Nat)(x:α):(xs.map f).set j (f x)=(xs.set j x).map f:=by rw[List.map_set]
def tF(K:PySem.W.Frag):Sp:=λvs H Q _=>∃(a:Addr) (cs:List Int) (n:Nat),vs=[.ref a,.int n]/\aA K H a (cs.map V.int)/\n<=8/\(n=0->cs=[])/\∀H' q (zs:List Int),aq H H'->H q=none->H' q=some (.lst (zs.map V.int))->zs.length=n->Q (.ref q) H'
def jR:aD ["_law_cells", "_law_many", "_law_found", "_law_k", "_law_cell"] ["_law_cells", "_law_many"] (ar kU):=eA
inductive Jr(H:Hp)(a r:Addr)(n:Nat)(i:Nat)(σ:St)(H2:Hp):Prop
 |mk (v3 v4:Option V) (zs:List Int) (q0:σ=[some (.ref a),some (.int n),some (.ref r),v3,v4]) (q1:aq H H2) (q2:H2 r=some (.lst (zs.map V.int))) (q3:zs.length=n)
def Jr.same{H:Hp}{a r:Addr}{n i:Nat}{σ:St}{H2:Hp}(h:Jr H a r n i σ H2):aq H H2:=by
 cases h
 assumption
def yQ{f:Addr}{fd:FuncData}(F:dj K "_law_folded" "_law_folded" kU f fd)(T:Txt K mg)(T2:Txt2 mg):a9 P w K mg base cR 1 f fd ["_law_cells", "_law_many"] (tF K):=by
 refine F.oK jR λcdv A outer s H vs Q E hr h=>?_
 ·obtain⟨a,cs,n,rfl,ha,hn,h0,kk⟩:=h
  have hsl:=Lg
  refine⟨_,af (cD 2 jR (vM rfl rfl T.lst eR rfl T2.rng (aa (pv 1) ae)))
   (af (bo K7 rfl (lI rfl T2.enm (aa (pv 0) ae)) (dQ rfl (aV (eu 3 jR) (aV (eu 4 jR) cZ)))
    (aj (ko (az bY (az cY (az fC (aM aE (pv 2) (az bY (pv 3) (pv 1)) (λ_ _=>rfl)) ak) (pv 4)) ak) (uP (pv 2) (az bY (pv 3) (pv 1)) set_list))))
   (aj (aK (pv 2)))),?_⟩
  try dsimp only[bK,Cx.dP,Cx.bQ]
  refine⟨_,rfl,n,rfl,by lia,λr nr=>?_⟩
  have e0:((List.range n).map λi=>V.int (i:Nat))=((List.range n).map λi=>((i:Nat):Int)).map V.int:=by rw[Lk];rfl
  rw[e0]
  have sr:aq H (upd H r (.lst (((List.range n).map λi=>((i:Nat):Int)).map V.int))):=ao nr
  refine⟨_,rfl,a,rfl,⟨_,sr.seq ha⟩,jo (K:=K) (a:=a) (xs:=cs.map V.int) (Jr H a r n)
   ⟨none,none,_,rfl,sr,ag,by rw[Kw,LV]⟩ (λi σ H2 _ h=>h.same.seq ha) ?_ ?_⟩
  ·rintro i v p σ H2 hi ⟨v3,v4,zs,rfl,sm,hr2,hzl⟩ np
   obtain⟨c,hc,rfl⟩:=ints_get hi
   have n0:0<n:=by
    rcases Nat.eq_zero_or_pos n with z|z
    ·rw[h0 z]at hc;simp at hc
    ·exact z
   have sp:aq H2 (upd H2 p (.tup [.int (i:Int),.int c])):=ao np
   refine⟨p,_,rfl,bX.of ag,rfl,_,_,rfl,_,_,rfl,rfl,?_⟩
   have smp:=sm.trans sp
   have hrp:=sp _ _ hr2
   generalize upd H2 p (.tup [.int (i:Int),.int c])=H3 at sp smp hrp ⊢
   have i0:0<=(i:Int) % (n:Int):=Nu _ (by lia)
   have i1:(i:Int) % (n:Int)<(n:Int):=M3 _ (by lia)
   refine⟨_,rfl,_,rfl,_,rfl,_,_,rfl,rfl,(by lia),r,_,_,_,rfl,rfl,aA.of hrp,ig i0 (by lia),_,_,rfl,rfl,.inr ⟨by decide,by decide⟩,_,rfl,_,_,rfl,rfl,_,_,rfl,rfl,(by show(0:Int)<2147483647;decide),?_⟩
   refine⟨_,rfl,_,rfl,_,rfl,_,_,rfl,rfl,(by lia),r,_,_,_,rfl,rfl,hrp,E2 i0 (by rw[Kw];lia),?_⟩
   rw[qe]
   exact⟨_,_,_,rfl,aU smp nr,ag,by rw[PX];exact hzl⟩
  ·rintro σ H2 ⟨v3,v4,zs,rfl,sm,hr2,hzl⟩
   exact⟨_,rfl,kk H2 r zs sm nr hr2 hzl⟩
def mE{xs:List Int}{k:Nat}(h:k<xs.length):tY (xs.map V.int) (k:Int)=some (.int (xs.getD k 0)):=by
 have:=ig (xs:=xs) (i:=(k:Int)) (by lia) (by lia)
 rwa[LI]at this
def RG(L:List Str)(j:Nat)(x:Str):Prop:=∃k,k<L.length/\k / 4=j/\L.getD k ""=x
def RG.one{L:List Str}(hn:L.Nodup){i j:Nat}{x:Str}(h1:RG L i x)(h2:RG L j x):i=j:=by
 obtain⟨k,hk,rfl,e⟩:=h1
 obtain⟨m,hm,rfl,e2⟩:=h2
 rw[KN,Kx hk]at e
 rw[KN,Kx hm]at e2
 have:=(Oz hn).mp (show L[k]=L[m] from(show L[k]=x from e).trans (show L[m]=x from e2).symm)
 rw[this]
def RG.mem{L:List Str}{j:Nat}{x:Str}(h:RG L j x):x∈L:=by
 obtain⟨k,hk,_,rfl⟩:=h
 rw[KN,Kx hk]
 exact Mr hk
structure Rk(L xs:List Str)(n:Nat):Prop where
 nd:xs.Nodup
 sub:∀x∈xs,∃j,j<n/\RG L j x
 one:∀x∈xs,∀y∈xs,∀j,RG L j x->RG L j y->x=y
 le:xs.length<=n
theorem Rk.nil(L:List Str):Rk L [] 0:=⟨.nil,(λ_ h=>nomatch h),(λ_ h=>nomatch h),KL _⟩
def Rk.skip{L xs:List Str}{n:Nat}(h:Rk L xs n):Rk L xs (n+1):=⟨h.nd,λx hx=>let ⟨j,a,b⟩:=h.sub x hx;⟨j,Lw a,b⟩,h.one,Nat.le_succ_of_le h.le⟩
def Rk.snoc{L xs:List Str}{n:Nat}{y:Str}(hn:L.Nodup)(h:Rk L xs n)(hy:RG L n y):Rk L (xs++[y]) (n+1):=by
 have nj:∀x∈xs,∀j,RG L j x->j<n:=λx hx j hj=>by
  obtain⟨i,hi,e⟩:=h.sub x hx
  rw[RG.one hn hj e]
  exact hi
 have ny:y∉xs:=λz=>LA _ (nj y z n hy)
 refine⟨LM.mpr ⟨h.nd,by simp,λa ha b hb e=>ny (by rw[<-KG.mp hb,<-e];exact ha)⟩,λx hx=>?_,λx hx z hz j h1 h2=>?_,by rw[KA];exact Nat.succ_le_succ h.le⟩
 ·rcases KW.mp hx with q|q
  ·exact(h.skip).sub x q
  ·rw[KG.mp q]
   exact⟨n,Mc _,hy⟩
 ·rcases KW.mp hx with q|q
  ·rcases KW.mp hz with r|r
   ·exact h.one x q z r j h1 h2
   ·rw[KG.mp r]at h2
    have:=nj x q j h1
    rw[RG.one hn h2 hy]at this
    exact absurd this (LA _)
  ·rw[KG.mp q]at h1 ⊢
   rcases KW.mp hz with r|r
   ·have:=nj z r j h2
    rw[RG.one hn h1 hy]at this
    exact absurd this (LA _)
   ·exact(KG.mp r).symm
def Jd(L tk gv:List Str):Prop:=∀g∈gv,∃j,RG L j g/\∃t∈tk,RG L j t
def Jd.more{L tk gv:List Str}{y:Str}(h:Jd L tk gv):Jd L (tk++[y]) gv:=λg hg=>let ⟨j,a,t,b,c⟩:=h g hg;⟨j,a,t,Lr _ b,c⟩
structure sT(L tk gv:List Str):Prop where
 t:Rk L tk 3
 g:Rk L gv 3
 ne:tk≠[]
 sub:Jd L tk gv
def zW(K:PySem.W.Frag):Sp:=λvs H Q _=>∃(num:Int) (a b:Addr) (ss:List Int) (L:List Str),vs=[.int num,.ref a,.ref b]/\aA K H a (ss.map V.int)/\aA K H b (aH L)/\(1<=ss.length/\ss.length<=3)/\(∀x∈ss,1<=x/\x<=4)/\L.length=12/\L.Nodup /\
 ∀H' t l g tk gv,aq H H'->H l=none->H g=none->H' t=some (.tup [.ref l,.ref g])->H' l=some (.lst (aH tk))->H' g=some (.lst (aH gv))->sT L tk gv->Q (.ref t) H'
def i3:aD ["_law_number", "_law_sizes", "_law_names", "_law_takes", "_law_gives", "_law_which", "_law_r"] ["_law_number", "_law_sizes", "_law_names"] (ar wj):=eA
inductive StI(H:Hp)(a b lt lg:Addr)(L:List Str)(wh:Int)(i:Nat)(σ:St)(H2:Hp):Prop
 |mk (num:Int) (v6:Option V) (tk gv:List Str) (q0:σ=[some (.int num),some (.ref a),some (.ref b),some (.ref lt),some (.ref lg),some (.int wh),v6]) (q1:aq H H2) (q2:H2 lt=some (.lst (aH tk))) (q3:H2 lg=some (.lst (aH gv))) (q4:Rk L tk i) (q5:Rk L gv i) (q6:tk≠[]\/wh % 2 ^ i=0) (q7:Jd L tk gv)
def mR(xs:List Str)(x:Str):aH xs++[V.str x]=aH (xs++[x]):=by unfold aH;rw[List.map_append];rfl
def HS(n:Int):PySem.Builtin.bitAnd n 1=n % 2:=PyProof.Rows.bitAnd_m1 n
def Dd{f:Addr}{fd:FuncData}(F:dj K "_law_step" "_law_step" wj f fd)(T:Txt K mg)(T2:Txt2 mg):a9 P w K mg base cR 1 f fd ["_law_number", "_law_sizes", "_law_names"] (zW K):=by
 refine F.oK i3 λcdv A outer s H vs Q E hr h=>?_
 ·obtain⟨num,a,b,ss,L,rfl,ha,hb,hs2,hss,hL,hnd,kk⟩:=h
  have hsl:=Lg
  refine⟨_,af (cD 3 i3 (bz ae))
   (af (cD 4 i3 (bz ae))
   (af (cD 5 i3 (az cY ak (az bY (pv 0) (az nK (az BM ak (ay aY rfl T.len cx (aa (pv 1) ae))) ak))))
   (af (cD 0 i3 (az cA (pv 0) ak))
   (af (bo K7 rfl (cu rfl T2.rng (aa (ay aY rfl T.len cx (aa (pv 1) ae)) ae)) (eu 6 i3)
    (aj (bO (a8 hX (az gf (az lK (pv 5) (pv 6)) ak) ak (bC _))
     (af (bj (c8 Lf Lc Ld bf (pv 3) (aa (aM aE (pv 2) (az cY (az fC ak (pv 6)) (az bY (pv 0) (aM aE (pv 1) (pv 6) (λ_ _=>rfl)))) (λ_ _=>rfl)) ae)))
     (af (bO (a8 AD (az bY (az cA (pv 0) ak) ak) ak (bC _))
      (aj (bj (c8 Lf Lc Ld bf (pv 4) (aa (aM aE (pv 2) (az cY (az fC ak (pv 6)) (az bY (az cA (pv 0) ak) (aM aE (pv 1) (pv 6) (λ_ _=>rfl)))) (λ_ _=>rfl)) ae)))) aX)
     (aj (cD 0 i3 (az cA (pv 0) ak))))) aX)))
   (aj (aK (dR (aa (pv 3) (aa (pv 4) ae))))))))),?_⟩
  try dsimp only[bK,Cx.dP,Cx.bQ]
  refine⟨K2 _,λlt H1 nlt s1 h1=>⟨K2 _,λlg H2 nlg s2 h2=>?_⟩⟩
  have ntg:lt≠lg:=ai h1 nlg
  have nlg0:H lg=none:=s1.free nlg
  have h12:=s2 _ _ h1
  have s02:=s1.trans s2
  have hlen:∀{H':Hp},aq H H'->FU K (.ref a) H' ss.length:=λs=>.inl ⟨_,s.seq ha,by rw[Kw]⟩
  have p2:∃q:Int,(1:Int)*2 ^ ((ss.length:Nat):Int).toNat-1=q/\1<=q/\q+1=2 ^ ss.length:=by
   rw[LI]
   have:ss.length=1\/ss.length=2\/ss.length=3:=by lia
   rcases this with e|e|e <;> rw[e]
   ·exact⟨1,by decide,by decide,by decide⟩
   ·exact⟨3,by decide,by decide,by decide⟩
   ·exact⟨7,by decide,by decide,by decide⟩
  obtain⟨q,eq,q1,q2⟩:=p2
  refine⟨_,rfl,_,rfl,_,_,rfl,hlen s02,_,_,rfl,rfl,⟨by first|lia|decide,by first|lia|decide,by first|lia|decide⟩,_,_,rfl,rfl,_,_,rfl,rfl,(by rw[eq];lia),_,_,rfl,rfl,?_⟩
  dsimp only[ix]
  rw[eq]
  have w0:1<=1+num % q/\1+num % q<=q:=by
   have:=Nu num (show q≠0 by lia)
   have:=M3 num (show 0<q by lia)
   lia
  generalize 1+num % q=wh at w0
  refine⟨_,rfl,_,_,rfl,rfl,⟨by decide,by decide⟩,?_⟩
  refine⟨_,rfl,_,_,rfl,hlen s02,_,rfl,by lia,by lia,fk (lo:=0) (n:=((ss.length:Nat):Int).toNat) (StI H a b lt lg L wh)
   ⟨_,none,[],[],rfl,s02,h12,h2,Rk.nil L,Rk.nil L,.inr (by simp),λ_ h=>nomatch h⟩ ?_ ?_⟩
  ·rintro i σ H3 hi ⟨num,v6,tk,gv,rfl,sm,ht,hg,rt,rg,hne,sub⟩
   have hi2:i<ss.length:=by lia
   have sz:1<=ss.getD i 0/\ss.getD i 0<=4:=hss _ (by rw[KN,Kx hi2];exact Mr _)
   rw[show(0+((i:Nat):Int))=((i:Nat):Int) by lia]
   have eat:tY (ss.map V.int) ((i:Nat):Int)=some (.int (ss.getD i 0)):=by
    have:=ig (xs:=ss) (i:=((i:Nat):Int)) (by lia) (by lia)
    rwa[LI]at this
   have rgAt:∀z:Int,0<=z->z<ss.getD i 0->tY (aH L) (4*((i:Nat):Int)+z)=some (.str (L.getD (4*((i:Nat):Int)+z).toNat ""))/\RG L i (L.getD (4*((i:Nat):Int)+z).toNat ""):=λz h0 h1=>⟨kS (by lia) (by lia),_,by lia,by lia,rfl⟩
   refine⟨_,rfl,_,rfl,_,_,rfl,rfl,(by lia),_,_,rfl,rfl,rfl,_,rfl,?_⟩
   refine uI (λc=>?_) (λc=>?_)
   ·obtain⟨at1,ry⟩:=rgAt (num % ss.getD i 0) (Nu _ (by lia)) (M3 _ (by lia))
    refine⟨_,rfl,.inl ⟨rfl,_,aA.of ht⟩,_,rfl,_,rfl,_,_,rfl,rfl,.inl ⟨by decide,by decide⟩,_,rfl,_,rfl,_,rfl,a,_,_,_,rfl,rfl,sm.seq ha,eat,_,_,rfl,rfl,(by lia),_,_,rfl,rfl,b,_,_,_,rfl,rfl,sm.seq hb,at1,lt,_,_,rfl,rfl,ht,?_,?_⟩
    ·rw[aw]
     have:=rt.le
     lia
    rw[mR]
    generalize L.getD (4*((i:Nat):Int)+num % ss.getD i 0).toNat ""=y at ry ⊢
    have rt2:=rt.snoc hnd ry
    have hlt3:(upd H3 lt (.lst (aH (tk++[y])))) lt=some (.lst (aH (tk++[y]))):=ag
    have hlg3:(upd H3 lt (.lst (aH (tk++[y])))) lg=some (.lst (aH gv)):=by rw[ah ntg.symm];exact hg
    have sm3:aq H (upd H3 lt (.lst (aH (tk++[y])))):=aU sm nlt
    generalize upd H3 lt (.lst (aH (tk++[y])))=H4 at hlt3 hlg3 sm3 ⊢
    refine⟨_,rfl,_,_,rfl,rfl,⟨by decide,by decide⟩,_,_,rfl,rfl,(by show(0:Int)<16;decide),_,_,rfl,rfl,_,rfl,?_⟩
    refine uI (λ_=>?_) (λ_=>?_)
    ·obtain⟨at2,rz⟩:=rgAt (num / 64 % ss.getD i 0) (Nu _ (by lia)) (M3 _ (by lia))
     refine⟨_,rfl,.inl ⟨rfl,_,aA.of hlg3⟩,_,rfl,_,rfl,_,_,rfl,rfl,.inl ⟨by decide,by decide⟩,_,rfl,_,_,rfl,rfl,⟨by decide,by decide⟩,_,rfl,_,rfl,a,_,_,_,rfl,rfl,sm3.seq ha,eat,_,_,rfl,rfl,(by lia),_,_,rfl,rfl,b,_,_,_,rfl,rfl,sm3.seq hb,at2,lg,_,_,rfl,rfl,hlg3,?_,?_⟩
     ·rw[aw]
      have:=rg.le
      lia
     rw[mR]
     refine⟨_,rfl,_,_,rfl,rfl,⟨by decide,by decide⟩,?_⟩
     refine⟨_,_,_,_,rfl,aU sm3 nlg0,by rw[ah ntg];exact hlt3,ag,rt2,rg.snoc hnd rz,.inl (by simp),λg hg=>?_⟩
     rcases KW.mp hg with z|z
     ·exact sub.more g z
     ·rw[KG.mp z]
      exact⟨i,rz,y,LG _ (KG.mpr rfl),ry⟩
    ·refine⟨_,rfl,_,_,rfl,rfl,⟨by decide,by decide⟩,?_⟩
     exact⟨_,_,_,_,rfl,sm3,hlt3,hlg3,rt2,rg.skip,.inl (by simp),sub.more⟩
   ·have c1:¬wh / 2 ^ ((i:Nat):Int).toNat % 2=1:=λz=>c (KC (show V.int (PySem.Builtin.bitAnd (wh / 2 ^ ((i:Nat):Int).toNat) 1)=V.int 1 by rw[HS,z]))
    refine⟨_,_,_,_,rfl,sm,ht,hg,rt.skip,rg.skip,?_,sub⟩
    rcases hne with z|z
    ·exact .inl z
    ·rw[LI]at c1
     have i012:i=0\/i=1\/i=2:=by lia
     rcases i012 with rfl|rfl|rfl
     ·exact .inr (by simp at c1 ⊢;lia)
     ·exact .inr (by simp at c1 z ⊢;lia)
     ·exact .inr (by simp at c1 z ⊢;lia)
  ·rintro σ H3 ⟨num,v6,tk,gv,rfl,sm,ht,hg,rt,rg,hne,sub⟩
   rw[LI]at rt rg hne
   have up:∀{xs:List Str},Rk L xs ss.length->Rk L xs 3:=λh=>⟨h.nd,λx hx=>let ⟨j,a,b⟩:=h.sub x hx;⟨j,by lia,b⟩,h.one,by have:=h.le;lia⟩
   refine⟨_,rfl,_,rfl,by show 2<=sizeLine;lia,λt H4 nt s4 ht4=>kk H4 t lt lg tk gv (sm.trans s4) nlt nlg0 ht4 (s4 _ _ ht) (s4 _ _ hg) ⟨up rt,up rg,?_,sub⟩⟩
   rcases hne with z|z
   ·exact z
   ·exfalso
    rw[<-q2]at z
    have:=Int.emod_eq_of_lt (show 0<=wh by lia) (show wh<q+1 by lia)
    lia
end Uf
end
section
namespace L2
open PySem PySem.Spec PyProof.Rows
section
variable {X:Cx}{N:List Str}{n:Nat}{ci:List Nat}{sc:Scope}
def fX{elt tg iter:Expr}{ifs:List Expr}{pos cpos py:Pos}{y:Str}{j:Nat}{wi:TI}{g:BX->TG}{tt:BX->TT}{te:BX->TE}(hc:X.calm=true)(hN:X.N.Nodup)(hj:X.N[j]?=some y)(hy:X.env.scope.names.lookup y=some .local)(hi:PI X tg iter wi)(S:cU X N n ci sc)
  (hb:∀z:BX,PG (iG X sc N z) tg (g z)/\IL (iG X sc N z) ifs (tt z)/\PE (iG X sc N z) elt (te z)) (hsw:swapsWith (.ListComp elt [⟨tg,iter,ifs,0⟩] sc cpos) (some (.Name y py)) pos.line X.env=pure true:=by rfl)
  (hs:∀x,foldedSetIterable iter X.env x=pure x:=by intro _;rfl):PS X (.Assign [.Name y py] (.ListComp elt [⟨tg,iter,ifs,0⟩] sc cpos) pos) (Cb (EG n ci wi g tt te) (ix j)):=by
 intro pins s σ H D0 I h
 rw[exec_Assign_Name_used _ _ _ _ hsw]
 refine Kv (O9 (Kv ?_))
 show wpAny _ X.A (do let _ <-comprehension (.ListComp elt [⟨tg,iter,ifs,0⟩] sc cpos) sc X.env _ (newList []) false (eval iter X.env) (some (assign (.Name y py) X.env))) _ _ s
 refine Kv (Mp (Po (use:=some (assign (.Name y py) X.env)) (Q:=λ_ s'=>SP X pins D0 .next s') (E:=X.xe) rfl hs (nM (S.oo I.ok)) S.kind S.loc (cc (hi pins s σ H _ I h) λv s1 h1=>cc h1 λitv s2 h2=>?_)) (λ_ s' hq=>Kz (Kz hq)) λ_ _ e=>e)
 obtain⟨it,fp,tn,J,H2,e,I2,T,st2,f2,rd⟩:=h2
 subst e
 refine Mo (wpAny_newFunctionEnv S.nocell (by intro y hy;simp at hy) (λh₁ hns₁ hsb₁=>?_) S.kind)
 dsimp only at hns₁ hsb₁ ⊢
 have hD:H2 s2.heap.objs.size=none:=I2.hok.fresh (KL _)
 have I3:Inv X pins σ (upd H2 s2.heap.objs.size (.lst [])) { s2 with heap:=s2.heap.push { cls:=.type "list",data:=.seq ([]:List Value).toArray } }:=I2.Fu (t':=s2.toks) (ys:=[]) (its:=[]) .nil (K2 _)
 have ob2:∀b∈fp,∃o,s2.heap.get? b=some o:=λb hb=>let ⟨o,e,_⟩:=T.obj _ _ st2 b hb;⟨o,e⟩
 have neD:∀b∈fp,b≠s2.heap.objs.size:=λb hb=>let ⟨o,e⟩:=ob2 b hb;K5 (KO e)
 have f3:∀b∈fp,iq X pins (upd H2 s2.heap.objs.size (.lst [])) b:=λb hb=>⟨by rw[ah (neD b hb)];exact(f2 b hb).1,(f2 b hb).2⟩
 have ob3:∀b∈fp,∃o,(s2.heap.push { cls:=.type "list",data:=.seq ([]:List Value).toArray }).get? b=some o:=λb hb=>let ⟨o,e⟩:=ob2 b hb;⟨o,Ky _ e⟩
 have k3:∀b o,(s2.heap.push { cls:=.type "list",data:=.seq ([]:List Value).toArray }).get? b=some o->h₁.get? b=some o:=λb o e =>
  hsb₁.extBut b o (K5 (KO e)) (Ky _ e)
 have I4:Inv (iG X sc N ⟨_,{ s2 with heap:=s2.heap.push { cls:=.type "list",data:=.seq ([]:List Value).toArray } },upd H2 s2.heap.objs.size (.lst []),fp⟩) [] (tW n ci σ) (upd H2 s2.heap.objs.size (.lst []))
   { s2 with heap:=h₁,toks:=s2.toks+([]:List (Str×Value)).length }:=oN (s:={ s2 with heap:=s2.heap.push { cls:=.type "list",data:=.seq ([]:List Value).toArray } }) S I3 f3 ob3 k3 hns₁
 have st4:tn 0 h₁:=T.keep _ _ _ st2 λb hb o e=>k3 b o (Ky _ e)
 obtain⟨M,W,w0,turn⟩:=rd ⟨_,{ s2 with heap:=s2.heap.push { cls:=.type "list",data:=.seq ([]:List Value).toArray } },upd H2 s2.heap.objs.size (.lst []),fp⟩ s2.heap.objs.size hD
 obtain⟨bg,bt,be⟩:=hb ⟨_,{ s2 with heap:=s2.heap.push { cls:=.type "list",data:=.seq ([]:List Value).toArray } },upd H2 s2.heap.objs.size (.lst []),fp⟩
 have ok3:=ud S I3 f3 ob3
 have stat:∀{H':Hp},(∀b∈fp,H' b=none)->∀b∈fp,iq (iG X sc N ⟨_,{ s2 with heap:=s2.heap.push { cls:=.type "list",data:=.seq ([]:List Value).toArray } },upd H2 s2.heap.objs.size (.lst []),fp⟩) [] H' b:=λhn b hb=>by
  obtain⟨_,f1,f2',_,f4,_⟩:=f3 b hb
  refine⟨hn b hb,?_,ok3.exfs b hb,.inl hb,λx c e=>?_,λp hp=>absurd hp (by simp)⟩
  ·exact K5 (let ⟨o,e⟩:=ob3 b hb;KO e)
  ·exact f4 x c (cO _ _ (S.oo I3.ok) (by simp) x c e)
 have loop:codeAny (model X.prog X.w) X.A (.compLoop (.ListComp elt [⟨tg,iter,ifs,0⟩] sc cpos) 0 (.ref it) (.ref s2.heap.objs.size) (compEnvC sc (iQ X.env sc.names []) (s2.heap.push { cls:=.type "list",data:=.seq ([]:List Value).toArray }).objs.size X.env))
   (compPost (model X.prog X.w) X.A X.xe (some (assign (.Name y py) X.env)) (λ_ s'=>SP X pins D0 .next s') (.ref s2.heap.objs.size) (s2.heap.push { cls:=.type "list",data:=.seq ([]:List Value).toArray }).objs.size) { s2 with heap:=h₁,toks:=s2.toks+([]:List (Str×Value)).length }:=by
  refine qY (W:=W) (M:=M) (σ0:=tW n ci σ) (Q:=λv H'=>D0.nx (σ.set j (some v)) H') hc T bg bt be (λ{pins' σ' H' s'} J'=>?_) stat I4 st4 (λb hb=>(f3 b hb).1) w0 turn λσ' H' s' J' q=>?_
  ·exact rR S I3 f3 J'
  ·obtain⟨m',hn',_⟩:=id J'.loc
   have J2:Inv X pins σ H' s':=mD (s:={ s2 with heap:=s2.heap.push { cls:=.type "list",data:=.seq ([]:List Value).toArray } }) I3 f3 J' (Heap.SameBut.refl _ _)
   show wpAny _ _ (assign (.Name y py) X.env (.ref s2.heap.objs.size)) _ _ s'
   refine wpAny_assign_Name (oz (v:=.ref s2.heap.objs.size) J2 hN hj (.inl hy) rfl (λs3 J3 ⟨a,sb,ha⟩=>?_) (.inr hy))
   have cC:∀x c,X.env.cells.lookup x=some c->c≠(s2.heap.push { cls:=.type "list",data:=.seq ([]:List Value).toArray }).objs.size:=λx c e z=>by
    obtain⟨v,q1⟩:=I3.cell x c e
    have:=q1.lt
    rw[z]at this
    exact absurd this (LA _)
   have lC:X.env.locals≠(s2.heap.push { cls:=.type "list",data:=.seq ([]:List Value).toArray }).objs.size:=λz=>by
    have q1:=I3.lt
    rw[z]at q1
    exact absurd q1 (LA _)
   have aC:a≠(s2.heap.push { cls:=.type "list",data:=.seq ([]:List Value).toArray }).objs.size:=by
    rcases ha with rfl|ha
    ·exact lC
    ·exact cC _ _ ha
   refine⟨m',hn'.sameBut sb (Li aC),λh' hs'=>⟨_,H',J3.turned (t':=s3.toks) (λb o hb e=>(hs'.2 b hb).trans e) J'.free lC.symm (.inr (Lh I3.sz (KL _))) cC (λp hp z=>?_),q⟩⟩
   have q1:=(I3.pin p hp).1
   rw[z]at q1
   exact absurd (KO q1) (LA _)
 exact codeAny_compStart_list loop (T.self _ 0 _ _ _ st4 loop)
end
end L2
end
section
namespace Uf
open PySem L2 UfSrt
abbrev mQ:Stmt:=top 38
abbrev jz:Stmt:=top 39
abbrev lE:Stmt:=top 40
abbrev CM:Stmt:=top 41
abbrev jM:Stmt:=top 42
abbrev qk:Stmt:=top 43
abbrev iB:Stmt:=top 45
def dh(tk s:List Str):Bool:=tk.any λx=>!decide (x∈s)
def second(tk gv s:List Str):Bool:=gv.any λx=>decide (x∈s) && !decide (x∈tk)
def behind(tk gv s:List Str):List Str:=aI ((s.filter λx=>!decide (x∈tk))++gv)
def tm{xs ys:List Str}(p:xs.Perm ys)(f:Str->Bool):xs.any f=ys.any f:=by
 rw[Lu,Mq,Mq]
 exact⟨λ⟨x,h,e⟩=>⟨x,p.mem_iff.mp h,e⟩,λ⟨x,h,e⟩=>⟨x,p.mem_iff.mpr h,e⟩⟩
def xQ(tk s:List Str):dh (aI tk) s=dh tk s:=tm (bN tk) _
def uA(tk gv s:List Str):second (aI tk) (aI gv) s=second tk gv s:=by
 unfold second
 rw[tm (bN gv)]
 congr 1
 funext x
 rw[Mj.mpr (bJ (xs:=tk) (x:=x))]
def vf(tk gv s:List Str):behind (aI tk) (aI gv) s=behind tk gv s:=by
 unfold behind
 refine fm ?_
 have e:(s.filter λx=>!decide (x∈aI tk))=s.filter λx=>!decide (x∈tk):=by
  congr 1
  funext x
  rw[Mj.mpr (bJ (xs:=tk) (x:=x))]
 rw[e]
 exact(bN gv).append_left _
def dI(xs:List Str):(aH xs).all eX=true:=by
 unfold aH
 rw[N5,LS]
 intro x _
 rfl
def ic(x:Str)(xs:List Str):Cp (.str x) (aH xs)=decide (x∈xs):=by
 unfold Cp aH
 rw[OL,Lu,Mq,Lp]
 constructor
 ·rintro⟨y,hy,e⟩
  have e':pD (.str y) (.str x)=true:=e
  have:y=x:=by simpa[pD] using e'
  rw[<-this]
  exact hy
 ·intro h
  exact⟨x,h,by show pD (.str x) (.str x)=true;simp[pD]⟩
def kB(K:PySem.W.Frag)(C:Addr)(g:Mv->List Str->Bool):Sp:=λvs H Q _=>∃(p a:Addr) (ms:List Mv) (st s:List Str) (m:Mv),vs=[.ref p,.ref a,.str m.1]/\cB C H p ms st/\m∈ms/\bX K H a (aH s)/\s.length<=200/\∀H',aq H H'->Q (.bl (g m s)) H'
def cw{K:PySem.W.Frag}{H H':Hp}{a:Addr}{xs:List V}(e:aq H H')(h:bX K H a xs):bX K H' a xs:=by
 rcases h with(h|⟨o,h⟩)|h
 ·exact .inl (.inl (e _ _ h))
 ·exact .inl (.inr ⟨o,e _ _ h⟩)
 ·exact .inr h
def qW:(("takes":Str) == "place_names")=false:=by decide +kernel
def tH:(("takes":Str) == "start_state")=false:=by decide +kernel
def qR:(("takes":Str) == "taken_by")=false:=by decide +kernel
def tS:(("takes":Str) == "given_by")=false:=by decide +kernel
def AV:(("gives":Str) == "place_names")=false:=by decide +kernel
def zM:(("gives":Str) == "start_state")=false:=by decide +kernel
def Bc:(("gives":Str) == "taken_by")=false:=by decide +kernel
def Bl:(("gives":Str) == "given_by")=false:=by decide +kernel
def xF:aD ["net", "state", "move"] ["net", "state", "move"] (ar mQ):=eA
def zY{f C:Addr}{fd:FuncData}(F:dj K "lacks_bead" "lacks_bead" mQ f fd)(T:Txt K mg)(hany:mg "any"=none)(CT:gO K C)(DT:jE P w K mg base C "takes" "Net.takes" ik ["self", "move"] 3 (iX C (·.2.1))) :
  a9 P w K mg base cR 4 f fd ["net", "state", "move"] (kB K C λm s=>dh m.2.1 s):=by
 refine F.oK xF λcdv A outer s H vs Q E hr h=>?_
 ·obtain⟨p,a,ms,st,s',m,rfl,N,hm,ha,hz,k⟩:=h
  refine⟨_,aj (aK (ay (mV rfl) rfl hany zy (aa (bB (N:=["place", "state"]) (n:=1) (ci:=[1]) rfl (aL (cz (pv 0) CT.cl DT.d.mt DT.g hr DT.d.bd .nil br (aa (pv 2) ae)))
    (iO xF)
    (λz=>⟨g0 0,bD,de dc (pv 0) (pv 1) (by with_unfolding_all rfl)⟩)) ae))),?_⟩
  try dsimp only[bK,Cx.dP,Cx.bQ]
  obtain⟨dx,aP,aS,aT,aG,kT,kG,h1,_⟩:=N.at'.ob
  obtain⟨_,_,_,tk4,gv4⟩:=eE (N.so.mv m hm)
  refine⟨_,rfl,p,dx,_,rfl,h1,c6 _ _ _ _ qW tH qR tS,_,rfl,p,ms,st,m,rfl,N,hm,λH1 q s1 nq hq=>?_⟩
  refine⟨q,rfl,⟨_,aA.of hq⟩,λz D hD=>cg (a:=q) (xs:=aH (aI m.2.1)) (λi ys H2=>ys=((aI m.2.1).take i).map (λx=>V.bl (!decide (x∈s')))/\H2 D=some (.lst ys)/\aq H1 H2) ⟨rfl,ag,ao hD⟩ (λi ys H2 _ p=>aA.of (p.2.2 _ _ hq)) ?_ ?_⟩
  ·rintro i v ys H2 hi ⟨rfl,hys,sm⟩
   obtain⟨x,hx,rfl⟩:=dy hi
   refine⟨_,rfl,_,rfl,a,aH s',rfl,.inr (cw (s1.trans sm) ha),rfl,dI s',hys,?_,?_,ag,aU sm hD⟩
   ·rw[Kw,La,bW,LF]
    lia
   ·rw[au hx,KS,ic]
    rfl
  ·rintro ys H2 ⟨rfl,hys,sm⟩
   rw[aw,Le]at hys
   refine⟨D,(aI m.2.1).map λx=>!decide (x∈s'),rfl,aA.of (by rw[hys,Lk];rfl),?_⟩
   have e:dh m.2.1 s'=((aI m.2.1).map λx=>!decide (x∈s')).any id:=by
    rw[<-xQ,OL]
    rfl
   rw[<-e]
   exact k H2 (s1.trans sm)
def nC:aD ["net", "state", "move", "taken"] ["net", "state", "move"] (ar jz):=eA
def ym{f C:Addr}{fd:FuncData}(F:dj K "gives_second" "gives_second" jz f fd)(T:Txt K mg)(hany:mg "any"=none)(CT:gO K C)(DT:jE P w K mg base C "takes" "Net.takes" ik ["self", "move"] 3 (iX C (·.2.1)))
  (DG:jE P w K mg base C "gives" "Net.gives" ki ["self", "move"] 3 (iX C (·.2.2))) :
  a9 P w K mg base cR 4 f fd ["net", "state", "move"] (kB K C λm s=>second m.2.1 m.2.2 s):=by
 refine F.oK nC λcdv A outer s H vs Q E hr h=>?_
 ·obtain⟨p,a,ms,st,s',m,rfl,N,hm,ha,hz,k⟩:=h
  refine⟨_,af (cD 3 nC (cz (pv 0) CT.cl DT.d.mt DT.g hr DT.d.bd .nil br (aa (pv 2) ae)))
   (aj (aK (ay (mV rfl) rfl hany zy (aa (bB (N:=["place", "state", "taken"]) (n:=1) (ci:=[1,3]) rfl (aL (cz (pv 0) CT.cl DG.d.mt DG.g hr DG.d.bd .nil br (aa (pv 2) ae)))
    (iO nC)
    (λz=>⟨g0 0,bD,vj (de gA (pv 0) (pv 1) (by with_unfolding_all rfl)) (vv (de dc (pv 0) (pv 2) (by with_unfolding_all rfl)))⟩)) ae)))),?_⟩
  try dsimp only[bK,Cx.dP,Cx.bQ]
  obtain⟨dx,aP,aS,aT,aG,kT,kG,h1,_⟩:=N.at'.ob
  obtain⟨_,_,_,tk4,gv4⟩:=eE (N.so.mv m hm)
  refine⟨_,rfl,p,dx,_,rfl,h1,c6 _ _ _ _ qW tH qR tS,_,rfl,p,ms,st,m,rfl,N,hm,λH1 q s1 nq hq=>?_⟩
  refine⟨_,rfl,p,dx,_,rfl,s1 _ _ h1,c6 _ _ _ _ AV zM Bc Bl,_,rfl,p,ms,st,m,rfl,N.same s1,hm,λH2 q2 s2 nq2 hq2=>?_⟩
  refine⟨q2,rfl,⟨_,aA.of hq2⟩,λz D hD=>cg (a:=q2) (xs:=aH (aI m.2.2)) (λi ys H3=>ys=((aI m.2.2).take i).map (λx=>V.bl (decide (x∈s') && !decide (x∈aI m.2.1)))/\H3 D=some (.lst ys)/\aq H2 H3) ⟨rfl,ag,ao hD⟩ (λi ys H3 _ p=>aA.of (p.2.2 _ _ hq2)) ?_ ?_⟩
  ·rintro i v ys H3 hi ⟨rfl,hys,sm⟩
   obtain⟨x,hx,rfl⟩:=dy hi
   have hlen:(((aI m.2.2).take i).map (λx=>V.bl (decide (x∈s') && !decide (x∈aI m.2.1)))).length<sizeLine:=by
    rw[Kw,La,bW,LF]
    lia
   refine⟨_,rfl,_,rfl,a,aH s',rfl,.inr (cw (s1.trans (s2.trans sm)) ha),rfl,dI s',_,rfl,?_⟩
   show if Cp (V.str x) (aH s')=true then _ else _
   rw[ic]
   cases c1:decide (x∈s') with
   |false =>
    refine bF ⟨hys,hlen,?_,ag,aU sm hD⟩
    rw[au hx,KS]
    simp[c1]
   |true =>
    refine cv ⟨_,rfl,_,rfl,q,aH (aI m.2.1),rfl,.inl (aA.of (sm _ _ (s2 _ _ hq))),rfl,dI _,hys,hlen,?_,ag,aU sm hD⟩
    rw[au hx,KS,ic]
    simp[c1]
  ·rintro ys H3 ⟨rfl,hys,sm⟩
   rw[aw,Le]at hys
   refine⟨D,(aI m.2.2).map λx=>decide (x∈s') && !decide (x∈aI m.2.1),rfl,aA.of (by rw[hys,Lk];rfl),?_⟩
   have e:second m.2.1 m.2.2 s'=((aI m.2.2).map λx=>decide (x∈s') && !decide (x∈aI m.2.1)).any id:=by
    rw[<-uA,OL]
    rfl
   rw[<-e]
   exact k H3 (s1.trans (s2.trans sm))
end Uf
end
section
namespace L2
open PySem PySem.Spec PyProof.Rows Uf
def filterMap_some{α β:Type}(g:α->β)(xs:List α):xs.filterMap (λx=>some (g x))=xs.map g:=by
 rw[<-List.filterMap_eq_map]
 rfl
section
variable {K:PySem.W.Frag}{n:Nat}{ci:List Nat}{g:TG}{tt:TT}{te:TE}{σ:St}{H:Hp}{D:Addr}{Q:VK}{α:Type}{J:It}
def Gv(n:Nat)(ci:List Nat)(g:TG)(tt:TT)(te:TE)(σ:St)(x:V)(y:Option V)(H:Hp):Prop :=
 ∀(no:Hp->Prop) (yes:VK),(y=none->∀H4,aq H H4->no H4)->(∀u,y=some u->∀H4,aq H H4->yes u H4)->g x (tW n ci σ) H λσ2 H2=>tt σ2 H2 λb H3=>if b=true then te σ2 H3 yes else no H3
def qa{zs:List α}{v:α->V}{F:α->Option V}(hJ:∀i H3,aq H H3->(i<zs.length->J.go i H3)/\(zs.length<=i->J.stop i H3)/\∀x H',J.yld i H3 x H'->i<zs.length->aq H3 H'/\∃z,zs[i]?=some z/\x=v z)(hl:zs.length<=sizeLine)(hD:H D=none)
  (hs:∀z∈zs,∀H3,aq H H3->Gv n ci g tt te σ (v z) (F z) H3) (hd:∀H3,aq H H3->H3 D=some (.lst (zs.filterMap F))->Q (.ref D) H3):gZ n ci J g tt te σ H D Q:=by
 unfold gZ
 refine⟨zs.length,λi ys H3=>ys=(zs.take i).filterMap F/\H3 D=some (.lst ys)/\aq H H3,⟨rfl,ag,ao hD⟩,λi ys H3 hi ⟨e,hD3,s3⟩=>?_⟩
 obtain⟨j1,j2,j3⟩:=hJ i H3 s3
 by_cases hlt:i<zs.length
 ·refine .inr ⟨hlt,j1 hlt,λx H' y=>?_⟩
  obtain⟨s4,z,hz,ex⟩:=j3 x H' y hlt
  subst ex
  have et:(zs.take (i+1)).filterMap F=ys++(F z).toList:=by
   rw[au hz,List.filterMap_append,<-e,OR]
   cases F z <;> rfl
  refine hs z (KJ hz) H' (s3.trans s4) _ _ (λh H4 s5=>?_) λu h H4 s5=>?_
  ·rw[h]at et
   exact⟨by rw[et];simp,(s4.trans s5) _ _ hD3,s3.trans (s4.trans s5)⟩
  ·rw[h]at et
   refine⟨(s4.trans s5) _ _ hD3,?_,et.symm,ag,aU (s3.trans (s4.trans s5)) hD⟩
   have:=List.length_filterMap_le F (zs.take i)
   rw[<-e,La]at this
   lia
 ·have ei:i=zs.length:=by lia
  refine .inl ⟨j2 (by lia),hd H3 s3 ?_⟩
  rw[hD3,e,ei,Le]
def eF{zs:List α}{v:α->V}{F:α->Option V}{a:Addr}(ha:aA K H a (zs.map v))(hl:zs.length<=sizeLine)(hD:H D=none)
  (hs:∀z∈zs,∀H3,aq H H3->Gv n ci g tt te σ (v z) (F z) H3) (hd:∀H3,aq H H3->H3 D=some (.lst (zs.filterMap F))->Q (.ref D) H3):gZ n ci (FV K a) g tt te σ H D Q:=by
 refine qa (λi H3 s3=>⟨λh=>⟨_,_,s3.seq ha,Kx (by rw[Kw];exact h)⟩,λh=>⟨_,s3.seq ha,by rw[Kw];exact h⟩,λx H' ⟨e,y⟩ h=>⟨by rw[e];exact aq.refl _,?_⟩⟩) hl hD hs hd
 have:=y _ (s3.seq ha)
 rw[KH]at this
 obtain⟨z,hz,e⟩:=LW.mp this
 exact⟨z,hz,e.symm⟩
def mq{zs:List α}{v:α->V}{F:α->Option V}{a:Addr}(ha:bX K H a (zs.map v))(hl:zs.length<=sizeLine)(hD:H D=none)
  (hs:∀z∈zs,∀H3,aq H H3->Gv n ci g tt te σ (v z) (F z) H3) (hd:∀H3,aq H H3->H3 D=some (.lst (zs.filterMap F))->Q (.ref D) H3):gZ n ci (F9 K a) g tt te σ H D Q:=by
 refine qa (λi H3 s3=>⟨λh=>⟨_,_,cw s3 ha,Kx (by rw[Kw];exact h)⟩,λh=>⟨_,cw s3 ha,by rw[Kw];exact h⟩,λx H' ⟨e,y⟩ h=>⟨by rw[e];exact aq.refl _,?_⟩⟩) hl hD hs hd
 have:=y _ (cw s3 ha)
 rw[KH]at this
 obtain⟨z,hz,e⟩:=LW.mp this
 exact⟨z,hz,e.symm⟩
def fE{m:Nat}{F:Nat->Option V}(hl:m<=sizeLine)(hD:H D=none)
  (hs:∀z,z<m->∀H3,aq H H3->Gv n ci g tt te σ (.int (z:Nat)) (F z) H3) (hd:∀H3,aq H H3->H3 D=some (.lst ((List.range m).filterMap F))->Q (.ref D) H3):gZ n ci (Gb 0 m) g tt te σ H D Q:=by
 refine qa (zs:=List.range m) (v:=λz=>.int (z:Nat)) (F:=F) (λi H3 s3=>?_) (by rw[LV];exact hl) hD (λz hz=>hs z (Ly.mp hz)) hd
 rw[LV]
 refine⟨λh=>h,λh=>h,λx H' ⟨e,y⟩ h=>⟨by rw[e];exact aq.refl _,i,Mz h,?_⟩⟩
 rw[y,Int.zero_add]
end
end L2
end
section
namespace Uf
open PySem L2
def Ew(xs:List V)(lo hi:Nat):hC xs (some (lo:Int)) (some (hi:Int))=(xs.drop lo).take (hi-lo):=by
 unfold hC
 have e1:HT.mL xs.length 0 (some (lo:Int))=min lo xs.length:=HT.lF _ _ lo
 have e2:HT.mL xs.length xs.length (some (hi:Int))=min hi xs.length:=HT.lF _ _ hi
 rw[e1,e2]
 by_cases h1:lo<=xs.length
 ·rw[OO h1]
  by_cases h2:hi<=xs.length
  ·rw[OO h2]
  ·rw[Pw (by lia),MA (by rw[NM];lia),MA (by rw[NM];lia)]
 ·rw[show min lo xs.length=xs.length by lia,List.drop_length,LP (show xs.length<=lo by lia)]
  simp
def FC(xs:List V)(hi:Nat):hC xs none (some (hi:Int))=xs.take hi:=by
 unfold hC
 have e1:HT.mL xs.length 0 none=0:=HT.rP _ _
 have e2:HT.mL xs.length xs.length (some (hi:Int))=min hi xs.length:=HT.lF _ _ hi
 rw[e1,e2,OY,Nat.sub_zero]
 by_cases h:hi<=xs.length
 ·rw[OO h]
 ·rw[Pw (by lia),MA (KL _),MA (by lia)]
def Kc(xs:List V)(lo:Nat):hC xs (some (lo:Int)) none=xs.drop lo:=by
 unfold hC
 have e1:HT.mL xs.length 0 (some (lo:Int))=min lo xs.length:=HT.lF _ _ lo
 have e2:HT.mL xs.length xs.length none=xs.length:=HT.rP _ _
 rw[e1,e2]
 by_cases h:lo<=xs.length
 ·rw[OO h,MA (by rw[NM];lia)]
 ·rw[Pw (by lia),List.drop_length,LP (by lia)]
  simp
def EK(r:List PySem.Str)(hi:Nat):hC (aH r) none (some (hi:Int))=aH (r.take hi):=by
 rw[FC]
 unfold aH
 rw[Ox]
end Uf
end
section
namespace Uf
open PySem L2 UfSrt
def AU(ms:List Mv)(x:Str):List Str:=((ms.find? λm=>decide (m.1=x)).map (·.2.1)).getD []
def DY(ms:List Mv)(x:Str):List Str:=((ms.find? λm=>decide (m.1=x)).map (·.2.2)).getD []
theorem find_name:∀{ms:List Mv} {m:Mv},(names ms).Nodup->m∈ms->(ms.find? λn=>decide (n.1=m.1))=some m
 |[],_,_,h=>by simp at h
 |n::ms,m,hn,h=>by
  obtain⟨n1,n2⟩:=LR.mp (show(n.1::names ms).Nodup from hn)
  rcases KR.mp h with rfl|h
  ·simp
  ·have ne:¬n.1=m.1:=λz=>n1 (by rw[z];exact K0.mpr ⟨m,h,rfl⟩)
   rw[MN]
   simp only[ne,decide_false]
   exact find_name n2 h
def dW{ms:List Mv}{m:Mv}(hn:(names ms).Nodup)(h:m∈ms):AU ms m.1=m.2.1:=by unfold AU;rw[find_name hn h];rfl
def eD{ms:List Mv}{m:Mv}(hn:(names ms).Nodup)(h:m∈ms):DY ms m.1=m.2.2:=by unfold DY;rw[find_name hn h];rfl
def eK(ms:List Mv)(s:List Str)(x:Str):Bool:=dh (AU ms x) s
def i9(ms:List Mv)(s:List Str)(x:Str):Bool:=second (AU ms x) (DY ms x) s
def gr(ms:List Mv)(s:List Str)(x:Str):List Str:=behind (AU ms x) (DY ms x) s
def kM(ms:List Mv)(s:List Str):List Str:=((aI (names ms)).filter λx=>!eK ms s x).filter λx=>!i9 ms s x
def ql(ms:List Mv)(s:List Str):Option Str:=(aI (names ms)).find? λx=>!eK ms s x&&i9 ms s x
def du{ms:List Mv}{x:Str}(h:x∈aI (names ms)):∃m∈ms,m.1=x:=by
 obtain⟨m,hm,e⟩:=K0.mp (bJ.mp h)
 exact⟨m,hm,e⟩
def sJ(K:PySem.W.Frag)(C:Addr):Sp:=λvs H Q _=>∃(p a:Addr) (ms:List Mv) (st s:List Str) (m:Mv),vs=[.ref p,.ref a,.str m.1]/\cB C H p ms st/\m∈ms/\bX K H a (aH s)/\s.length<=50 /\
 ∀H' q,aq H H'->H q=none->H' q=some (.tup (aH (behind m.2.1 m.2.2 s)))->Q (.ref q) H'
def jF:aD ["net", "state", "move", "taken", "left"] ["net", "state", "move"] (ar lE):=eA
def yr{f C:Addr}{fd:FuncData}(F:dj K "state_behind" "state_behind" lE f fd)(T:Txt K mg)(CT:gO K C)(DT:jE P w K mg base C "takes" "Net.takes" ik ["self", "move"] 3 (iX C (·.2.1)))
  (DG:jE P w K mg base C "gives" "Net.gives" ki ["self", "move"] 3 (iX C (·.2.2))) :
  a9 P w K mg base cR 4 f fd ["net", "state", "move"] (sJ K C):=by
 refine F.oK jF λcdv A outer s H vs Q E hr h=>?_
 ·obtain⟨p,a,ms,st,s',m,rfl,N,hm,ha,hz,k⟩:=h
  refine⟨_,af (cD 3 jF (cz (pv 0) CT.cl DT.d.mt DT.g hr DT.d.bd .nil br (aa (pv 2) ae)))
   (af (fX (j:=4) (N:=["place", "taken"]) (n:=1) (ci:=[3]) rfl jF.nd rfl rfl (gN (pv 1))
    (iO jF)
    (λz=>⟨g0 0,fg (a8 dc (pv 0) (pv 1) (by with_unfolding_all rfl)),pv 0⟩))
   (aj (aK (bb bV rfl T.tup fh (aa (ay cy rfl T.aI cj (aa (az jf (pv 4) (cz (pv 0) CT.cl DG.d.mt DG.g hr DG.d.bd .nil br (aa (pv 2) ae))) ae)) ae))))),?_⟩
  try dsimp only[bK,Cx.dP,Cx.bQ]
  obtain⟨dx,aP,aS,aT,aG,kT,kG,h1,_⟩:=N.at'.ob
  obtain⟨_,_,_,tk4,gv4⟩:=eE (N.so.mv m hm)
  refine⟨_,rfl,p,dx,_,rfl,h1,c6 _ _ _ _ qW tH qR tS,_,rfl,p,ms,st,m,rfl,N,hm,λH1 q s1 nq hq=>?_⟩
  refine⟨_,rfl,a,rfl,⟨_,cw s1 ha⟩,λz D hD=>BE (a:=a) (xs:=aH s') (λi ys H2=>ys=aH ((s'.take i).filter λx=>!decide (x∈aI m.2.1))/\H2 D=some (.lst ys)/\aq H1 H2) ⟨rfl,ag,ao hD⟩ (λi ys H2 _ p=>cw (s1.trans p.2.2) ha) ?_ ?_⟩
  ·rintro i v ys H2 hi ⟨rfl,hys,sm⟩
   obtain⟨x,hx,rfl⟩:=dy hi
   have hlen:(aH ((s'.take i).filter λx=>!decide (x∈aI m.2.1))).length<sizeLine:=by
    rw[aw,LF]
    have:=LH (λx=>!decide (x∈aI m.2.1)) (s'.take i)
    rw[La]at this
    lia
   refine⟨_,rfl,_,rfl,q,aH (aI m.2.1),rfl,.inl (aA.of (sm _ _ hq)),rfl,dI _,_,rfl,?_⟩
   show if (!Cp (V.str x) (aH (aI m.2.1)))=true then _ else _
   rw[ic]
   cases c1:decide (x∈aI m.2.1) with
   |true =>
    refine bF ⟨?_,hys,sm⟩
    rw[au hx,Mb]
    simp[c1]
   |false =>
    refine cv ⟨_,rfl,hys,hlen,?_,ag,aU sm hD⟩
    rw[au hx,Mb]
    unfold aH
    simp[c1]
  ·rintro ys H2 ⟨rfl,hys,sm⟩
   rw[aw,Le]at hys
   refine⟨_,rfl,_,rfl,p,dx,_,rfl,(s1.trans sm) _ _ h1,c6 _ _ _ _ AV zM Bc Bl,_,rfl,p,ms,st,m,rfl,N.same (s1.trans sm),hm,λH3 q2 s3 nq2 hq2=>?_⟩
   have lf:(s'.filter λx=>!decide (x∈aI m.2.1)).length<=50:=Lh (LH _ _) hz
   have hsl:=Lg
   refine⟨D,q2,_,_,rfl,rfl,s3 _ _ hys,hq2,?_,λq3 nq3=>?_⟩
   ·rw[aw,aw,bW]
    dsimp only
    lia
   have e1:aH (s'.filter λx=>!decide (x∈aI m.2.1))++aH (aI m.2.2)=aH ((s'.filter λx=>!decide (x∈aI m.2.1))++aI m.2.2):=by unfold aH;rw[List.map_append]
   rw[e1]
   refine⟨q3,_,rfl,aA.of ag,?_,λq4 nq4=>⟨q4,_,rfl,.inl ⟨aA.of ag,λq5 nq5=>?_⟩⟩⟩
   ·rw[KA,bW]
    lia
   have s5:=(ao (o:=.lst (aH ((s'.filter λx=>!decide (x∈aI m.2.1))++aI m.2.2))) nq3).trans (ao (o:=.lst (aH (aI ((s'.filter λx=>!decide (x∈aI m.2.1))++aI m.2.2)))) nq4)
   have sA:aq H H3:=s1.trans (sm.trans s3)
   refine k _ q5 ((sA.trans s5).trans (ao nq5)) ((sA.trans s5).free nq5) ?_
   rw[ag,<-vf]
   rfl
def Em(K:PySem.W.Frag)(C:Addr):Sp:=λvs H Q _=>∃(p a:Addr) (ms:List Mv) (st s:List Str),vs=[.ref p,.ref a]/\cB C H p ms st/\bX K H a (aH s)/\s.length<=50 /\
 ∀H' q,aq H H'->H q=none->H' q=some (.lst (aH (kM ms s)))->Q (.ref q) H'
def xJ:aD ["net", "state", "supplied"] ["net", "state"] (ar CM):=eA
def AL:(("moves":Str) == "place_names")=false:=by decide +kernel
def AG:(("moves":Str) == "start_state")=false:=by decide +kernel
def AR:(("moves":Str) == "taken_by")=false:=by decide +kernel
def Ab:(("moves":Str) == "given_by")=false:=by decide +kernel
def Fx{f C:Addr}{fd:FuncData}(F:dj K "may" "may" CM f fd)(CT:gO K C)(DM:jE P w K mg base C "moves" "Net.moves" o7 ["self"] 1 (pL C))
  (DL:gI P w K mg base "lacks_bead" mQ ["net", "state", "move"] 4 (kB K C λm s=>dh m.2.1 s))
  (DS:gI P w K mg base "gives_second" jz ["net", "state", "move"] 4 (kB K C λm s=>second m.2.1 m.2.2 s)) :
  a9 P w K mg base cR 5 f fd ["net", "state"] (Em K C):=by
 refine F.oK xJ λcdv A outer s H vs Q E hr h=>?_
 ·obtain⟨p,a,ms,st,s',rfl,N,ha,hz,k⟩:=h
  refine⟨_,af (fX (j:=2) (N:=["move", "net", "state"]) (n:=1) (ci:=[0,1]) rfl xJ.nd rfl rfl (aL (cE (pv 0) CT.cl DM.d.mt DM.g (hr.mono (by decide)) DM.d.bd .nil br))
    (iO xJ)
    (λz=>⟨g0 0,fg (c9 (cG (e7 DL hr (aa (pv 1) (aa (pv 2) (aa (pv 0) ae)))))),pv 0⟩))
   (aj (aK (bB (N:=["move", "net", "state"]) (n:=1) (ci:=[0,1]) rfl (aL (pv 2))
    (iO xJ)
    (λz=>⟨g0 0,fg (c9 (cG (e7 DS hr (aa (pv 1) (aa (pv 2) (aa (pv 0) ae)))))),pv 0⟩)))),?_⟩
  try dsimp only[bK,Cx.dP,Cx.bQ]
  obtain⟨dx,aP,aS,aT,aG,kT,kG,h1,_⟩:=N.at'.ob
  have l12:(names ms).length<=12:=by unfold names;rw[List.length_map];exact N.so.ml
  have hsl:=Lg
  refine⟨_,rfl,p,dx,_,rfl,h1,c6 _ _ _ _ AL AG AR Ab,p,ms,st,rfl,N,λH1 q s1 nq hq=>?_⟩
  refine⟨q,rfl,⟨_,aA.of hq⟩,λz D hD=>cg (a:=q) (xs:=aH (aI (names ms))) (λi ys H2=>ys=aH (((aI (names ms)).take i).filter λx=>!eK ms s' x)/\H2 D=some (.lst ys)/\aq H1 H2) ⟨rfl,ag,ao hD⟩ (λi ys H2 _ p=>aA.of (p.2.2 _ _ hq)) ?_ ?_⟩
  ·rintro i v ys H2 hi ⟨rfl,hys,sm⟩
   obtain⟨x,hx,rfl⟩:=dy hi
   obtain⟨m,hm,rfl⟩:=du (KJ hx)
   have hlen:(aH (((aI (names ms)).take i).filter λx=>!eK ms s' x)).length<sizeLine:=by
    rw[aw,hsl]
    have:=LH (λx=>!eK ms s' x) ((aI (names ms)).take i)
    rw[La,bW]at this
    lia
   refine⟨_,rfl,_,rfl,_,rfl,p,a,ms,st,s',m,rfl,N.same (s1.trans sm),hm,cw (s1.trans sm) ha,by lia,λH3 s3=>⟨_,rfl,?_⟩⟩
   have el:dh m.2.1 s'=eK ms s' m.1:=by unfold eK;rw[dW N.so.nd hm]
   show if (!dh m.2.1 s')=true then _ else _
   rw[el]
   cases c1:eK ms s' m.1 with
   |true =>
    refine bF ⟨?_,s3 _ _ hys,sm.trans s3⟩
    rw[au hx,Mb]
    simp[c1]
   |false =>
    refine cv ⟨_,rfl,s3 _ _ hys,hlen,?_,ag,aU (sm.trans s3) hD⟩
    rw[au hx,Mb]
    unfold aH
    simp[c1]
  ·rintro ys H2 ⟨rfl,hys,sm⟩
   rw[aw,Le]at hys
   generalize hL:(aI (names ms)).filter (λx=>!eK ms s' x)=L at hys
   have LL:L.length<=12:=by
    rw[<-hL]
    have:=LH (λx=>!eK ms s' x) (aI (names ms))
    rw[bW]at this
    lia
   have Lm:∀x∈L,∃m∈ms,m.1=x:=λx hx=>by
    rw[<-hL]at hx
    exact du (K1.mp hx).1
   have sA:aq H H2:=s1.trans sm
   refine⟨_,rfl,D,rfl,⟨_,aA.of hys⟩,λz D2 hD2=>cg (a:=D) (xs:=aH L) (λi ys H3=>ys=aH ((L.take i).filter λx=>!i9 ms s' x)/\H3 D2=some (.lst ys)/\aq H2 H3) ⟨rfl,ag,ao hD2⟩ (λi ys H3 _ p=>aA.of (p.2.2 _ _ hys)) ?_ ?_⟩
   ·rintro i v ys H3 hi ⟨rfl,hys3,sm3⟩
    obtain⟨x,hx,rfl⟩:=dy hi
    obtain⟨m,hm,rfl⟩:=Lm x (KJ hx)
    have hlen:(aH ((L.take i).filter λx=>!i9 ms s' x)).length<sizeLine:=by
     rw[aw,hsl]
     have:=LH (λx=>!i9 ms s' x) (L.take i)
     rw[La]at this
     lia
    refine⟨_,rfl,_,rfl,_,rfl,p,a,ms,st,s',m,rfl,N.same (sA.trans sm3),hm,cw (sA.trans sm3) ha,by lia,λH4 s4=>⟨_,rfl,?_⟩⟩
    have el:second m.2.1 m.2.2 s'=i9 ms s' m.1:=by unfold i9;rw[dW N.so.nd hm,eD N.so.nd hm]
    show if (!second m.2.1 m.2.2 s')=true then _ else _
    rw[el]
    cases c1:i9 ms s' m.1 with
    |true =>
     refine bF ⟨?_,s4 _ _ hys3,sm3.trans s4⟩
     rw[au hx,Mb]
     simp[c1]
    |false =>
     refine cv ⟨_,rfl,s4 _ _ hys3,hlen,?_,ag,aU (sm3.trans s4) hD2⟩
     rw[au hx,Mb]
     unfold aH
     simp[c1]
   ·rintro ys H3 ⟨rfl,hys3,sm3⟩
    rw[aw,Le]at hys3
    refine k H3 D2 (sA.trans sm3) (sA.free hD2) ?_
    rw[hys3,<-hL]
    rfl
end Uf
end
section
namespace UfBfs
variable {σ μ:Type}
structure G(σ μ:Type) where
 may:σ->List μ
 nxt:σ->μ->σ
 bad:σ->Option μ
inductive At(g:G σ μ)(s:σ):Nat->σ->Prop where
 |zero:At g s 0 s
 |succ {k:Nat} {t:σ} {m:μ}:At g s k t->m∈g.may t->At g s (k+1) (g.nxt t m)
def Told(g:G σ μ)(s:σ)(_:Option (List μ)):Prop:=∀k t,At g s k t->g.bad t=none
end UfBfs
end
section
namespace Uf
open PySem L2 UfSrt
def oZ(K:PySem.W.Frag)(C:Addr):Sp:=λvs H Q _=>∃(p a:Addr) (ms:List Mv) (st s:List Str),vs=[.ref p,.ref a]/\cB C H p ms st/\bX K H a (aH s)/\s.length<=50/\ql ms s=none/\∀H',aq H H'->Q .non H'
def pe:aD ["net", "state", "move"] ["net", "state"] (ar jM):=eA
def vz{f C:Addr}{fd:FuncData}(F:dj K "crowder" "crowder" jM f fd)(CT:gO K C)(DM:jE P w K mg base C "moves" "Net.moves" o7 ["self"] 1 (pL C))
  (DL:gI P w K mg base "lacks_bead" mQ ["net", "state", "move"] 4 (kB K C λm s=>dh m.2.1 s))
  (DS:gI P w K mg base "gives_second" jz ["net", "state", "move"] 4 (kB K C λm s=>second m.2.1 m.2.2 s)) :
  a9 P w K mg base cR 5 f fd ["net", "state"] (oZ K C):=by
 refine F.oK pe λcdv A outer s H vs Q E hr h=>?_
 ·obtain⟨p,a,ms,st,s',rfl,N,ha,hz,hc,k⟩:=h
  refine⟨_,af (bo K7 rfl (aL (cE (pv 0) CT.cl DM.d.mt DM.g (hr.mono (by decide)) DM.d.bd .nil br)) (eu 2 pe)
    (aj (bO (PW.pt (pw_and (c9 (cG (e7 DL hr (aa (pv 0) (aa (pv 1) (aa (pv 2) ae)))))) (pw_and1 (cG (e7 DS hr (aa (pv 0) (aa (pv 1) (aa (pv 2) ae)))))))) (aj (aK (pv 2))) aX)))
   (aj (aK gS)),?_⟩
  try dsimp only[bK,Cx.dP,Cx.bQ]
  obtain⟨dx,aP,aS,aT,aG,kT,kG,h1,_⟩:=N.at'.ob
  refine⟨_,rfl,p,dx,_,rfl,h1,c6 _ _ _ _ AL AG AR Ab,p,ms,st,rfl,N,λH1 q s1 nq hq=>?_⟩
  refine⟨q,rfl,⟨_,aA.of hq⟩,bq (K:=K) (a:=q) (xs:=aH (aI (names ms))) (λi σ H2=>∃v:Option V,σ=[some (.ref p),some (.ref a),v]/\aq H1 H2)
   ⟨none,rfl,aq.refl _⟩ (λi σ H2 _ ⟨_,_,sm⟩=>aA.of (sm _ _ hq)) ?_ ?_⟩
  ·rintro i v σ H2 hi ⟨v0,rfl,sm⟩
   obtain⟨x,hx,rfl⟩:=dy hi
   have hx:=KJ hx
   obtain⟨m,hm,rfl⟩:=du hx
   have sA:aq H H2:=s1.trans sm
   have no:=N8.mp hc _ hx
   unfold eK i9 at no
   rw[dW N.so.nd hm,eD N.so.nd hm]at no
   refine⟨_,rfl,_,rfl,_,rfl,p,a,ms,st,s',m,rfl,N.same sA,hm,cw sA ha,by lia,λH3 s3=>⟨_,rfl,?_⟩⟩
   show if (!dh m.2.1 s')=true then _ else _
   cases c1:dh m.2.1 s' with
   |true=>exact bF (bF ⟨_,rfl,sm.trans s3⟩)
   |false =>
    refine cv ⟨_,rfl,_,rfl,_,rfl,p,a,ms,st,s',m,rfl,N.same (sA.trans s3),hm,cw (sA.trans s3) ha,by lia,λH4 s4=>⟨_,rfl,?_⟩⟩
    show if second m.2.1 m.2.2 s'=true then _ else _
    rw[c1]at no
    rw[show second m.2.1 m.2.2 s'=false by simpa using no]
    exact bF ⟨_,rfl,(sm.trans s3).trans s4⟩
  ·rintro σ H2 ⟨v0,rfl,sm⟩
   exact k H2 (s1.trans sm)
end Uf
end
section
namespace Uf
open PySem L2 UfSrt UfFin
def graph(ms:List Mv):UfBfs.G (List Str) Str:=⟨kM ms,gr ms,ql ms⟩
def qw(t:List Str):List Key:=t.map Sum.inr
def vS(t:List Str):(qw t).map kV=aH t:=by
 unfold qw aH
 rw[Lk]
 rfl
def tN(H H':Hp):Prop:=∀b xs,H b=some (.tup xs)->H' b=some (.tup xs)
def tN.trans{H H1 H2:Hp}(a:tN H H1)(b:tN H1 H2):tN H H2:=λc xs e=>b c xs (a c xs e)
def _root_.L2.aq.lJ{H H':Hp}(s:aq H H'):tN H H':=λb xs e=>s b _ e
def tj{H:Hp}{a:Addr}{o u:HO}(e:H a=some o)(n:∀xs,o≠.tup xs):tN H (upd H a u):=λb xs q=>by
 rw[ah (aQ q e (λz=>n xs z.symm))]
 exact q
theorem zw{k:List Key}:∀{kvs:List (List Key×V)},dv kvs k=none->k∉kvs.map (·.1)
 |[],_,h=>by simp at h
 |kv::kvs,e,h=>by
  by_cases hk:kv.1=k
  ·rw[cJ hk]at e
   cases e
  ·rw[cK hk]at e
   rcases KR.mp h with z|z
   ·exact hk z.symm
   ·exact zw e z
structure oj(ms:List Mv)(st t:List Str):Prop where
 ris:cW t
 sub:∀x∈t,x∈cL ms st
def tE(ms:List Mv)(st:List Str):cW (cL ms st):=cW.aI (UfSet.me _)
def oj.len{ms:List Mv}{st t:List Str}(so:Sound ms st)(h:oj ms st t):t.length<=12:=Lh (dU h.ris.nd h.sub) so.pl
def vk{ms:List Mv}{st:List Str}(so:Sound ms st){l:List (List Str)}(hn:l.Nodup)(h:∀t∈l,oj ms st t):l.length<=4096:=by
 have h1:=dU hn λt ht=>(h t ht).ris.wa (tE ms st) (h t ht).sub
 rw[mK]at h1
 refine Lh h1 (Lh (LC (by decide) so.pl) (by decide))
def jG{ms:List Mv}{st:List Str}{x:Str}:x∈cL ms st↔x∈st\/∃m∈ms,x∈m.2.1\/x∈m.2.2:=by
 unfold cL
 rw[bJ,UfSet.qB,KW]
 unfold j6
 rw[Px]
 simp only[KW]
def vd{ms:List Mv}{st:List Str}(so:Sound ms st):oj ms st (aI st):=⟨cW.aI (cV so.su),λx hx=>jG.mpr (.inl (bJ.mp hx))⟩
def Di{ms:List Mv}{t:List Str}{x:Str}:x∈kM ms t↔x∈names ms/\eK ms t x=false/\i9 ms t x=false:=by
 unfold kM
 rw[K1,K1,bJ]
 simp[and_assoc]
def yN{ms:List Mv}{st t:List Str}{m:Mv}(so:Sound ms st)(h:oj ms st t)(hm:m∈ms)(hs:second m.2.1 m.2.2 t=false):oj ms st (behind m.2.1 m.2.2 t):=by
 obtain⟨_,u2,_⟩:=eE (so.mv m hm)
 have gn:m.2.2.Nodup:=cV u2
 refine⟨cW.aI (LM.mpr ⟨h.ris.nd.sublist NS,gn,λa ha b hb=>?_⟩),λx hx=>?_⟩
 ·rintro rfl
  obtain⟨h1,h2⟩:=K1.mp ha
  have h3:second m.2.1 m.2.2 t=true:=Mq.mpr ⟨a,hb,by simp at h2;simp[h1,h2]⟩
  rw[hs]at h3
  cases h3
 ·unfold behind at hx
  rcases KW.mp (bJ.mp hx) with z|z
  ·exact h.sub x (K1.mp z).1
  ·exact jG.mpr (.inr ⟨m,hm,.inr z⟩)
def AN{ms:List Mv}{st t:List Str}{x:Str}(so:Sound ms st)(h:oj ms st t)(hx:x∈kM ms t):∃m∈ms,m.1=x/\dh m.2.1 t=false/\second m.2.1 m.2.2 t=false/\gr ms t x=behind m.2.1 m.2.2 t/\oj ms st (gr ms t x):=by
 obtain⟨h1,h2,h3⟩:=Di.mp hx
 obtain⟨m,hm,rfl⟩:=K0.mp h1
 unfold eK at h2
 unfold i9 at h3
 rw[dW so.nd hm]at h2 h3
 rw[eD so.nd hm]at h3
 have e:gr ms t m.1=behind m.2.1 m.2.2 t:=by
  unfold gr
  rw[dW so.nd hm,eD so.nd hm]
 exact⟨m,hm,rfl,h2,h3,e,by rw[e];exact yN so h hm h3⟩
def cB.but{C:Addr}{H H':Hp}{p d:Addr}{ms:List Mv}{st:List Str}{kvs:List (List Key×V)}(hd:H d=some (.dT kvs))(b:jQ d H H')(h:cB C H p ms st):cB C H' p ms st:=by
 obtain⟨⟨dx,aP,aS,aT,aG,kT,kG,h1,h2,h3,h4,h5,h6,h7⟩,so⟩:=h
 have up:∀{c:Addr} {o:HO},H c=some o->(∀k,o≠.dT k)->H' c=some o:=λe n=>b _ _ e (aQ e hd (n _))
 exact⟨⟨dx,aP,aS,aT,aG,kT,kG,up h1 (λ_ z=>nomatch z),up h2 (λ_ z=>nomatch z),up h3 (λ_ z=>nomatch z),up h4 (λ_ z=>nomatch z),up h5 (λ_ z=>nomatch z),h6.same λc xs e=>up e (λ_ z=>nomatch z),h7.same λc xs e=>up e (λ_ z=>nomatch z)⟩,so⟩
structure Jq(ms:List Mv)(st t:List Str):Prop where
 fine:oj ms st t
 at_:∃k,UfBfs.At (graph ms) (aI st) k t
def Er(ms:List Mv)(st:List Str)(H:Hp)(a:Addr)(n:Nat):Prop:=∃qs:List Addr,H a=some (.lst (qs.map V.ref))/\qs.length=n/\∀q∈qs,∃t,H q=some (.tup (aH t))/\Jq ms st t
def gh(ms:List Mv)(st:List Str)(H:Hp)(d:Addr)(n:Nat):Prop:=∃(kvs:List (List Key×V)) (ks:List (List Str)),H d=some (.dT kvs)/\kvs.map (·.1)=ks.map qw/\ks.Nodup/\(∀t∈ks,oj ms st t)/\ks.length=n
def gh.jk{ms:List Mv}{st:List Str}{H:Hp}{d:Addr}{n:Nat}(so:Sound ms st)(h:gh ms st H d n):n<=4096:=by
 obtain⟨_,ks,_,_,h1,h2,rfl⟩:=h
 exact vk so h1 h2
def Er.same{ms:List Mv}{st:List Str}{H H':Hp}{a:Addr}{n:Nat}(s:aq H H')(h:Er ms st H a n):Er ms st H' a n:=by
 obtain⟨qs,h1,h2,h3⟩:=h
 exact⟨qs,s _ _ h1,h2,λq hq=>(h3 q hq).imp λt z=>⟨s _ _ z.1,z.2⟩⟩
def gh.same{ms:List Mv}{st:List Str}{H H':Hp}{a:Addr}{n:Nat}(s:aq H H')(h:gh ms st H a n):gh ms st H' a n:=by
 obtain⟨kvs,ks,h1,h2⟩:=h
 exact⟨kvs,ks,s _ _ h1,h2⟩
def xb(C:Addr):Sp:=λvs H Q _=>∃(p a d:Addr) (ms:List Mv) (st:List Str) (n l:Nat),vs=[.ref p,.ref a,.ref d]/\cB C H p ms st/\Er ms st H a l/\gh ms st H d n /\
 ∀H' q l' n',jQ d H H'->H q=none->Er ms st H' q l'->gh ms st H' d n'->n+l'<=n'->Q (.ref q) H'
def jq:aD ["net", "states", "ways", "reached", "state", "move", "behind"] ["net", "states", "ways"] (ar qk):=eA
inductive JD(H:Hp)(p a d r:Addr)(ms:List Mv)(st:List Str)(n:Nat)(σ:St)(H2:Hp):Prop
 |mk (v4 v5 v6:Option V) (l' n':Nat) (q1:σ=[some (.ref p),some (.ref a),some (.ref d),some (.ref r),v4,v5,v6]) (q2:jQ d H H2) (q3:Er ms st H2 r l') (q4:gh ms st H2 d n') (q5:n+l'<=n')
inductive Jz(H:Hp)(p a d r tq q:Addr)(ms:List Mv)(st t:List Str)(n:Nat)(σ:St)(H4:Hp):Prop
 |mk (v5 v6:Option V) (l' n':Nat) (q1:σ=[some (.ref p),some (.ref a),some (.ref d),some (.ref r),some (.ref tq),v5,v6]) (q2:jQ d H H4) (q3:H4 q=some (.lst (aH (kM ms t)))) (q4:Er ms st H4 r l') (q5:gh ms st H4 d n') (q6:n+l'<=n')
def JD.but{H:Hp}{p a d r:Addr}{ms:List Mv}{st:List Str}{n:Nat}{σ:St}{H2:Hp}(h:JD H p a d r ms st n σ H2):jQ d H H2:=by
 cases h
 assumption
def Jz.at_{H:Hp}{p a d r tq q:Addr}{ms:List Mv}{st t:List Str}{n:Nat}{σ:St}{H4:Hp}(h:Jz H p a d r tq q ms st t n σ H4):H4 q=some (.lst (aH (kM ms t))):=by
 cases h
 assumption
def Ao{f C:Addr}{fd:FuncData}(F:dj K "newly_reached" "newly_reached" qk f fd)
  (DM:gI P w K mg base "may" CM ["net", "state"] 5 (Em K C))
  (DB:gI P w K mg base "state_behind" lE ["net", "state", "move"] 4 (sJ K C)) :
  a9 P w K mg base cR 6 f fd ["net", "states", "ways"] (xb C):=by
 refine F.oK jq λcdv A outer s H vs Q E hr h=>?_
 ·obtain⟨p,a,d,ms,st,n,l,rfl,N,⟨qs,hq,_,hp⟩,⟨kvs0,ks0,hd0,wp0⟩,k⟩:=h
  have hu:=eZ hr
  refine⟨_,af (cD 3 jq (eQ ae))
   (af (bo K7 rfl (aL (pv 1)) (eu 4 jq)
    (aj (bo K7 rfl (aL (e7 DM hr (aa (pv 0) (aa (pv 4) ae)))) (eu 5 jq)
     (af (cD 6 jq (e7 DB (hr.mono (by decide)) (aa (pv 0) (aa (pv 4) (aa (pv 5) ae)))))
      (aj (bO (mr (oV hu (pv 6) (pv 2)))
       (af (gQ hu (pv 2) (pv 6) (gc (aa (pv 4) (aa (pv 5) ae))) rfl)
        (aj (bj (c8 Lf Lc Ld bf (pv 3) (aa (pv 6) ae))))) aX))))))
   (aj (aK (pv 3)))),?_⟩
  clear hu
  dsimp only[bK,Cx.dP]
  refine⟨K2 _,λr nr=>?_⟩
  have s0:aq H (upd H r (.lst [])):=ao nr
  have so:=N.so
  have hsl:=Lg
  have nda:a≠d:=aQ hq hd0 (λz=>nomatch z)
  refine⟨_,rfl,a,rfl,⟨_,aA.of (s0 _ _ hq)⟩,bq (K:=K) (a:=a) (xs:=qs.map V.ref) (λ_=>JD H p a d r ms st n)
   ⟨none,none,none,0,n,rfl,λc o e _=>s0 _ _ e,⟨[],ag,rfl,λ_ h=>nomatch h⟩,⟨kvs0,ks0,s0 _ _ hd0,wp0⟩,KL _⟩ (λi σ H2 _ h=>aA.of (h.but _ _ hq nda)) ?_ ?_⟩
  ·rintro i v σ H2 hi ⟨v4,v5,v6,l',n',rfl,b2,S2,W2,le⟩
   obtain⟨tq,hqi,rfl⟩:=fA hi
   obtain⟨t,htq,hft⟩:=hp _ (KJ hqi)
   have ntd:tq≠d:=aQ htq hd0 (λz=>nomatch z)
   have lt:=hft.fine.len so
   refine⟨_,rfl,_,rfl,p,tq,ms,st,t,rfl,N.but hd0 b2,bX.of (b2 _ _ htq ntd),by lia,λH3 q s3 nq hq3=>?_⟩
   have nqr:r≠q:=ai S2.choose_spec.1 nq
   refine⟨q,rfl,⟨_,aA.of hq3⟩,bq (K:=K) (a:=q) (xs:=aH (kM ms t)) (λ_=>Jz H p a d r tq q ms st t n)
    ⟨v5,v6,l',n',rfl,b2.then s3,hq3,S2.same s3,W2.same s3,le⟩ (λj σ H4 _ h=>aA.of h.at_) ?_ ?_⟩
   ·rintro j v σ H4 hj ⟨v5,v6,l',n',rfl,b4,hq4,S4,W4,le⟩
    obtain⟨x,hx,rfl⟩:=dy hj
    have hx:=KJ hx
    obtain⟨m,hm,rfl,_,hsec,eb,hfb⟩:=AN so hft.fine hx
    obtain⟨k',at'⟩:=hft.at_
    have rb:Jq ms st (gr ms t m.1):=⟨hfb,_,at'.succ hx⟩
    have jk:=W4.jk so
    refine⟨_,rfl,_,rfl,_,rfl,p,tq,ms,st,t,m,rfl,N.but hd0 b4,hm,bX.of (b4 _ _ htq ntd),by lia,λH5 q5 s5 nq5 hq5=>?_⟩
    rw[<-eb]at hq5
    have S5:=S4.same s5
    have W5:=W4.same s5
    have hqq5:=s5 _ _ hq4
    have b5:=b4.then s5
    obtain⟨rs,hr5,rl,hrp⟩:=id S5
    obtain⟨kvs,ks,hd5,wk,wn,wf,wl⟩:=id W5
    have hq5k:H5 q5=some (.tup ((qw (gr ms t m.1)).map kV)):=by rw[vS];exact hq5
    have lk:kvs.length=n':=by rw[<-wl,<-Kw (f:=qw),<-wk,Kw]
    refine⟨_,rfl,_,rfl,d,_,rfl,gP.t hd5 hq5k,_,rfl,?_⟩
    cases hl:dv kvs (qw (gr ms t m.1)) with
    |some y=>exact bF ⟨_,_,l',n',rfl,b5,hqq5,S5,W5,le⟩
    |none =>
     have no:=zw hl
     rw[wk]at no
     refine cv ⟨_,rfl,_,rfl,by show 2<=sizeLine;lia,λq6 nq6=>?_⟩
     have s6:aq H5 (upd H5 q6 (.tup [.ref tq,.str m.1])):=ao nq6
     have hd6:=s6 _ _ hd5
     have hr6:=s6 _ _ hr5
     have b6:=b5.then s6
     have hq6:=s6 _ _ hq5
     have hq6k:=s6 _ _ hq5k
     have hqq6:=s6 _ _ hqq5
     have hrp6:∀q∈rs,∃t,_/\Jq ms st t:=λq hq=>(hrp q hq).imp λt z=>⟨s6 _ _ z.1,z.2⟩
     generalize upd H5 q6 (.tup [.ref tq,.str m.1])=H6 at s6 hd6 hr6 b6 hq6 hq6k hqq6 hrp6 ⊢
     refine⟨_,rfl,_,rfl,d,_,rfl,ku.t hd6 hq6k (by lia),?_⟩
     rw[jr _ hl]
     have t7:tN H6 (upd H6 d (.dT (kvs++[(qw (gr ms t m.1),V.ref q6)]))):=tj hd6 (λ_ z=>nomatch z)
     have nrd:r≠d:=aQ hr6 hd6 (λz=>nomatch z)
     have nqd6:q≠d:=aQ hqq6 hd6 (λz=>nomatch z)
     have b7:=b6.put (o:=.dT (kvs++[(qw (gr ms t m.1),V.ref q6)]))
     have hr7:=(ah nrd (H:=H6) (o:=.dT (kvs++[(qw (gr ms t m.1),V.ref q6)]))).trans hr6
     have hd7:(upd H6 d (.dT (kvs++[(qw (gr ms t m.1),V.ref q6)]))) d=some (.dT (kvs++[(qw (gr ms t m.1),V.ref q6)])):=ag
     have hq7:=(ah nqd6 (H:=H6) (o:=.dT (kvs++[(qw (gr ms t m.1),V.ref q6)]))).trans hqq6
     generalize upd H6 d (.dT (kvs++[(qw (gr ms t m.1),V.ref q6)]))=H7 at t7 hr7 hd7 hq7 b7 ⊢
     refine⟨_,rfl,.inl ⟨rfl,_,aA.of hr7⟩,_,rfl,r,_,_,rfl,rfl,hr7,by rw[Kw];lia,?_⟩
     have t8:tN H6 (upd H7 r (.lst (rs.map V.ref++[V.ref q5]))):=t7.trans (tj hr7 (λ_ z=>nomatch z))
     refine⟨_,_,l'+1,n'+1,rfl,b7.new nr,by rw[ah (λz=>nqr z.symm)];exact hq7,⟨rs++[q5],by rw[ag,KS];rfl,by simp[rl],λq hq=>?_⟩,⟨_,ks++[gr ms t m.1],by rw[ah nrd.symm];exact hd7,by simp[wk],?_,λu hu=>?_,by simp[wl]⟩,by lia⟩
     ·rcases KW.mp hq with z|z
      ·exact(hrp6 q z).imp λt z=>⟨t8 _ _ z.1,z.2⟩
      ·cases KG.mp z
       exact⟨_,t8 _ _ hq6,rb⟩
     ·exact LM.mpr ⟨wn,by simp,λa ha b hb e=>no (by cases KG.mp hb;rw[<-e];exact List.mem_map_of_mem ha)⟩
     ·rcases KW.mp hu with z|z
      ·exact wf u z
      ·cases KG.mp z
       exact hfb
   ·rintro σ H4 ⟨v5,v6,l',n',rfl,b4,_,S4,W4,le⟩
    exact⟨_,_,_,l',n',rfl,b4,S4,W4,le⟩
  ·rintro σ H2 ⟨v4,v5,v6,l',n',rfl,b2,S2,W2,le⟩
   exact⟨_,rfl,k H2 r l' n' b2 nr S2 W2 le⟩
end Uf
end
section
namespace UfM
structure Wb where
 tk:Nat->Nat->Prop
 gv:Nat->Option Nat
 own:Nat->Nat->Prop
def Wb.past(w:Wb)(s o:Nat):Prop:=∃g,w.gv s=some g/\w.own g o
def Wb.forked(w:Wb)(P:Nat->Prop):Prop:=∃o1 o2 u,o1≠o2/\P o1/\P o2/\w.tk u o1/\w.tk u o2
structure Wb.mZ(w:Wb)(a b:Nat):Prop where
 ab:∀o,w.tk a o->¬w.past b o
 ba:∀o,w.tk b o->¬w.past a o
 nf:¬w.forked λo=>w.past a o\/w.past b o
theorem Wb.mZ.symm{w:Wb}{a b:Nat}(h:w.mZ a b):w.mZ b a :=
 ⟨h.ba,h.ab,λ⟨o1,o2,u,n,p1,p2,t1,t2⟩=>h.nf ⟨o1,o2,u,n,p1.symm,p2.symm,t1,t2⟩⟩
structure Wb.Step(w w':Wb)(e:Nat)(T New:Nat->Prop):Prop where
 tk:∀s o,w'.tk s o↔w.tk s o\/(o=e/\T s)
 gvN:∀s,New s->w'.gv s=some e
 gvO:∀s,¬New s->w'.gv s=w.gv s
 ownE:∀j,w'.own e j↔j=e\/∃t,T t/\w.past t j
 ownO:∀o j,o≠e->(w'.own o j↔w.own o j)
 old:∀t,T t->¬New t
 fresh:∀s,¬w.tk s e
 noE:∀s,w.gv s≠some e
 noP:∀s,¬w.past s e
 bare:∀s o,New s->¬w.tk s o
 ne:∃t,T t
 ord:∀s o,w.tk s o->¬w.past s o
 free:∀s,¬w.forked (w.past s)
 side:∀a b,T a->T b->a≠b->w.mZ a b
section
variable {w w':Wb}{e:Nat}{T New:Nat->Prop}
def Wb.Step.dD(h:w.Step w' e T New){s o:Nat}(hs:¬New s):w'.past s o↔w.past s o:=by
 constructor
 ·rintro⟨g,h1,h2⟩
  rw[h.gvO s hs]at h1
  have hg:g≠e:=λz=>h.noE s (by rw[h1,z])
  exact⟨g,h1,(h.ownO g o hg).mp h2⟩
 ·rintro⟨g,h1,h2⟩
  have hg:g≠e:=λz=>h.noE s (by rw[h1,z])
  exact⟨g,by rw[h.gvO s hs];exact h1,(h.ownO g o hg).mpr h2⟩
def Wb.Step.iZ(h:w.Step w' e T New){s o:Nat}(hs:New s):w'.past s o↔o=e\/∃t,T t/\w.past t o:=by
 constructor
 ·rintro⟨g,h1,h2⟩
  rw[h.gvN s hs]at h1
  cases h1
  exact(h.ownE o).mp h2
 ·exactλq=>⟨e,h.gvN s hs,(h.ownE o).mpr q⟩
def Wb.Step.lX(h:w.Step w' e T New){a b:Nat}(ha:¬New a)(hb:¬New b):w'.mZ a b↔w.mZ a b:=by
 constructor
 ·rintro⟨h1,h2,h3⟩
  refine⟨λo p q=>h1 o ((h.tk a o).mpr (.inl p)) ((h.dD hb).mpr q),λo p q=>h2 o ((h.tk b o).mpr (.inl p)) ((h.dD ha).mpr q),λ⟨o1,o2,u,n,p1,p2,t1,t2⟩=>h3 ⟨o1,o2,u,n,?_,?_,(h.tk u o1).mpr (.inl t1),(h.tk u o2).mpr (.inl t2)⟩⟩
  ·exact p1.imp (h.dD ha).mpr (h.dD hb).mpr
  ·exact p2.imp (h.dD ha).mpr (h.dD hb).mpr
 ·rintro⟨h1,h2,h3⟩
  have old:∀{u o:Nat},(w.past a o\/w.past b o)->w'.tk u o->w.tk u o:=λ{u o} p t=>by
   rcases(h.tk u o).mp t with z|⟨z,_⟩
   ·exact z
   ·subst z
    exact absurd p (λq=>q.elim (h.noP a) (h.noP b))
  refine⟨λo p q=>?_,λo p q=>?_,λ⟨o1,o2,u,n,p1,p2,t1,t2⟩=>?_⟩
  ·have q:=(h.dD hb).mp q
   exact h1 o (old (.inr q) p) q
  ·have q:=(h.dD ha).mp q
   exact h2 o (old (.inl q) p) q
  ·have p1:=p1.imp (h.dD ha).mp (h.dD hb).mp
   have p2:=p2.imp (h.dD ha).mp (h.dD hb).mp
   exact h3 ⟨o1,o2,u,n,p1,p2,old p1 t1,old p2 t2⟩
def Wb.Step.clear(h:w.Step w' e T New){P:Nat->Prop}(hP:∀o,P o->o≠e)(hf:¬w.forked P)(hT:∀t,T t->(∀o,w.tk t o->¬P o)/\¬w.forked λo=>P o\/w.past t o) :
  ¬w'.forked λo=>P o\/o=e\/∃t,T t/\w.past t o:=by
 rintro⟨o1,o2,u,n,p1,p2,t1,t2⟩
 have tko:∀{o:Nat},o≠e->w'.tk u o->w.tk u o:=λ{o} ne t=>((h.tk u o).mp t).elim id λz=>absurd z.1 ne
 have neP:∀{t o:Nat},w.past t o->o≠e:=λ{t o} p z=>h.noP t (by rw[<-z];exact p)
 have withE:∀o,o≠e->w'.tk u e->(P o\/o=e\/∃t,T t/\w.past t o)->w'.tk u o->False:=λo ne te p t=>by
  have hu:T u:=((h.tk u e).mp te).elim (λz=>absurd z (h.fresh u)) λz=>z.2
  have to:=tko ne t
  rcases p with p|p|⟨t',ht,p⟩
  ·exact(hT u hu).1 o to p
  ·exact ne p
  ·by_cases z:t'=u
   ·subst z
    exact h.ord t' o to p
   ·exact(h.side u t' hu ht (λq=>z q.symm)).ab o to p
 by_cases e1:o1=e
 ·subst e1
  exact withE o2 (λz=>n z.symm) t1 p2 t2
 ·by_cases e2:o2=e
  ·subst e2
   exact withE o1 n t2 p1 t1
  ·have k1:=tko e1 t1
   have k2:=tko e2 t2
   rcases p1 with p1|p1|⟨a,ha,p1⟩
   ·rcases p2 with p2|p2|⟨b,hb,p2⟩
    ·exact hf ⟨o1,o2,u,n,p1,p2,k1,k2⟩
    ·exact e2 p2
    ·exact(hT b hb).2 ⟨o1,o2,u,n,.inl p1,.inr p2,k1,k2⟩
   ·exact e1 p1
   ·rcases p2 with p2|p2|⟨b,hb,p2⟩
    ·exact(hT a ha).2 ⟨o1,o2,u,n,.inr p1,.inl p2,k1,k2⟩
    ·exact e2 p2
    ·by_cases z:a=b
     ·subst z
      exact h.free a ⟨o1,o2,u,n,p1,p2,k1,k2⟩
     ·exact(h.side a b ha hb z).nf ⟨o1,o2,u,n,.inl p1,.inr p2,k1,k2⟩
def Wb.Step.FD(h:w.Step w' e T New){s n:Nat}(hs:¬New s)(hn:New n):w'.mZ s n↔∀t,T t->s≠t/\w.mZ s t:=by
 constructor
 ·rintro⟨h1,h2,h3⟩ t ht
  have up:∀{o:Nat},w.past t o->w'.past n o:=λ{o} p=>(h.iZ hn).mpr (.inr ⟨t,ht,p⟩)
  refine⟨?_,⟨λo p q=>h1 o ((h.tk s o).mpr (.inl p)) (up q),λo p q=>?_,λ⟨o1,o2,u,ne,p1,p2,t1,t2⟩=>h3 ⟨o1,o2,u,ne,?_,?_,(h.tk u o1).mpr (.inl t1),(h.tk u o2).mpr (.inl t2)⟩⟩⟩
  ·rintro rfl
   exact h1 e ((h.tk s e).mpr (.inr ⟨rfl,ht⟩)) ((h.iZ hn).mpr (.inl rfl))
  ·have ne:o≠e:=λz=>h.noP s (by rw[<-z];exact q)
   exact h3 ⟨o,e,t,ne,.inl ((h.dD hs).mpr q),.inr ((h.iZ hn).mpr (.inl rfl)),(h.tk t o).mpr (.inl p),(h.tk t e).mpr (.inr ⟨rfl,ht⟩)⟩
  ·exact p1.imp (h.dD hs).mpr up
  ·exact p2.imp (h.dD hs).mpr up
 ·intro k
  have nT:¬T s:=λz=>(k s z).1 rfl
  obtain⟨t0,ht0⟩:=h.ne
  refine⟨λo p q=>?_,λo p=>?_,?_⟩
  ·rcases(h.tk s o).mp p with p|⟨_,p⟩
   ·rcases(h.iZ hn).mp q with q|⟨t,ht,q⟩
    ·subst q
     exact h.fresh s p
    ·exact(k t ht).2.ab o p q
   ·exact nT p
  ·rcases(h.tk n o).mp p with p|⟨_,p⟩
   ·exact absurd p (h.bare n o hn)
   ·exact absurd hn (h.old n p)
  ·have c:=h.clear (P:=w.past s) (λo p z=>h.noP s (by rw[<-z];exact p)) (λf=>(k t0 ht0).2.nf (let ⟨o1,o2,u,n,p1,p2,t⟩:=f;⟨o1,o2,u,n,.inl p1,.inl p2,t⟩)) λt ht=>⟨(k t ht).2.ba,(k t ht).2.nf⟩
   rintro⟨o1,o2,u,ne,p1,p2,t⟩
   exact c ⟨o1,o2,u,ne,p1.imp (h.dD hs).mp (h.iZ hn).mp,p2.imp (h.dD hs).mp (h.iZ hn).mp,t⟩
def Wb.Step.EE(h:w.Step w' e T New){n:Nat}(hn:New n):¬w'.forked (w'.past n):=by
 have c:=h.clear (P:=λ_=>False) (λ_ z=>z.elim) (λ⟨_,_,_,_,z,_⟩=>z) λt ht=>⟨λ_ _ z=>z,λ⟨o1,o2,u,n,p1,p2,t'⟩=>h.free t ⟨o1,o2,u,n,p1.resolve_left id,p2.resolve_left id,t'⟩⟩
 rintro⟨o1,o2,u,ne,p1,p2,t⟩
 exact c ⟨o1,o2,u,ne,.inr ((h.iZ hn).mp p1),.inr ((h.iZ hn).mp p2),t⟩
def Wb.Step.Ja(h:w.Step w' e T New){s:Nat}(hs:¬New s):¬w'.forked (w'.past s):=by
 rintro⟨o1,o2,u,ne,p1,p2,t1,t2⟩
 have p1:=(h.dD hs).mp p1
 have p2:=(h.dD hs).mp p2
 have old:∀{o:Nat},w.past s o->w'.tk u o->w.tk u o:=λ{o} p t=>((h.tk u o).mp t).elim id λz=>absurd p (by rw[z.1];exact h.noP s)
 exact h.free s ⟨o1,o2,u,ne,p1,p2,old p1 t1,old p2 t2⟩
def Wb.Step.among(h:w.Step w' e T New){a b:Nat}(ha:New a)(hb:New b):w'.mZ a b:=by
 have no:∀{n o:Nat},New n->¬w'.tk n o:=λ{n o} hn p=>by
  rcases(h.tk n o).mp p with p|⟨_,p⟩
  ·exact h.bare n o hn p
  ·exact h.old n p hn
 refine⟨λo p=>absurd p (no ha),λo p=>absurd p (no hb),?_⟩
 rintro⟨o1,o2,u,ne,p1,p2,t⟩
 have q:∀{o:Nat},w'.past a o\/w'.past b o->w'.past a o:=λ{o} p=>p.elim id λz=>(h.iZ ha).mpr ((h.iZ hb).mp z)
 exact h.EE ha ⟨o1,o2,u,ne,q p1,q p2,t⟩
def Wb.Step.J8(h:w.Step w' e T New)(s o:Nat)(p:w'.tk s o):¬w'.past s o:=by
 by_cases hs:New s
 ·rcases(h.tk s o).mp p with p|⟨_,p⟩
  ·exact absurd p (h.bare s o hs)
  ·exact absurd hs (h.old s p)
 ·rw[h.dD hs]
  rcases(h.tk s o).mp p with p|⟨p,_⟩
  ·exact h.ord s o p
  ·rw[p]
   exact h.noP s
end
end UfM
end
section
set_option maxHeartbeats 400000
namespace Uf
open PySem L2 UfSrt
def j8{ms:List Mv}{st:List Str}(hn:(names ms).Nodup)(J:List Str->Prop)(h0:J (aI st))(hs:∀t m,J t->m∈ms->dh m.2.1 t=false->second m.2.1 m.2.2 t=false->J (behind m.2.1 m.2.2 t))(hc:∀t m,J t->m∈ms->dh m.2.1 t=false->second m.2.1 m.2.2 t=false):UfBfs.Told (graph ms) (aI st) none:=by
 have all:∀k t,UfBfs.At (graph ms) (aI st) k t->J t:=λk t h=>by
  induction h with
  |zero=>exact h0
  |@succ k u x hu hx ih =>
   have hx:x∈kM ms u:=hx
   unfold kM at hx
   obtain⟨hx,x2⟩:=K1.mp hx
   obtain⟨hx,x1⟩:=K1.mp hx
   obtain⟨m,hm,rfl⟩:=du hx
   unfold eK at x1
   unfold i9 at x2
   rw[dW hn hm]at x1 x2
   rw[eD hn hm]at x2
   show J (gr ms u m.1)
   unfold gr
   rw[dW hn hm,eD hn hm]
   exact hs u m ih hm (by simpa using x1) (by simpa using x2)
 intro k t h
 show ql ms t=none
 unfold ql
 refine N8.mpr λx hx z=>?_
 obtain⟨m,hm,rfl⟩:=du hx
 unfold eK i9 at z
 rw[dW hn hm,eD hn hm]at z
 simp at z
 have:=hc t m (all k t h) hm z.1
 rw[z.2]at this
 cases this
structure JI(E:Str->Str->Prop)(tk gv:List Str):Prop where
 c1:∀p∈gv,p∉tk->∃q∈tk,E p q
 c2:∀p∈gv,∀r,E p r->∃q∈tk,q=r\/E q r
 c3:∀p∈gv,∀q∈gv,¬E p q
def yo{ms:List Mv}{st:List Str}(E:Str->Str->Prop)(hsy:∀a b,E a b->E b a)(hn:(names ms).Nodup)(h0:∀a∈st,∀b∈st,¬E a b)(hm:∀m∈ms,(∃a∈m.2.1,∃b∈m.2.1,E a b)\/JI E m.2.1 m.2.2) :
  UfBfs.Told (graph ms) (aI st) none:=by
 have has:∀{tk t:List Str},dh tk t=false->∀x∈tk,x∈t:=λ{tk t} h x hx=>by
  unfold dh at h
  have:=Pd.mp h x hx
  simpa using this
 refine j8 hn (λt=>∀a∈t,∀b∈t,¬E a b) (λa ha b hb=>h0 a (bJ.mp ha) b (bJ.mp hb)) (λt m J hmm hl hs a ha b hb e=>?_) λt m J hmm hl=>?_
 ·rcases hm m hmm with⟨x,hx,y,hy,exy⟩|X
  ·exact J x (has hl x hx) y (has hl y hy) exy
  ·unfold behind at ha hb
   have ha:=KW.mp (bJ.mp ha)
   have hb:=KW.mp (bJ.mp hb)
   have mix:∀p r,p∈m.2.2->r∈t.filter (λx=>!decide (x∈m.2.1))->E p r->False:=λp r hp hr epr=>by
    obtain⟨hr1,hr2⟩:=K1.mp hr
    have hr2:r∉m.2.1:=by simpa using hr2
    obtain⟨q,hq,z|z⟩:=X.c2 p hp r epr
    ·exact hr2 (by rw[<-z];exact hq)
    ·exact J q (has hl q hq) r hr1 z
   rcases ha with ha|ha
   ·rcases hb with hb|hb
    ·exact J a (K1.mp ha).1 b (K1.mp hb).1 e
    ·exact mix b a hb ha (hsy _ _ e)
   ·rcases hb with hb|hb
    ·exact mix a b ha hb e
    ·exact X.c3 a ha b hb e
 ·cases h:second m.2.1 m.2.2 t with
  |false=>rfl
  |true =>
   unfold second at h
   obtain⟨p,hp,z⟩:=Mq.mp h
   simp at z
   rcases hm m hmm with⟨x,hx,y,hy,exy⟩|X
   ·exact absurd exy (J x (has hl x hx) y (has hl y hy))
   ·obtain⟨q,hq,e⟩:=X.c1 p hp z.2
    exact absurd e (J p z.1 q (has hl q hq))
end Uf
end
section
namespace Uf
open PySem L2 UfSrt UfFin
abbrev qO:Stmt:=top 53
structure oI(L tk gv:List Str):Prop where
 tn:tk.Nodup
 ti:∀x∈tk,x∈L
 t1:1<=tk.length
 t4:tk.length<=4
 gn:gv.Nodup
 gi:∀x∈gv,x∈L
 g4:gv.length<=4
structure Bi(ms:List Mv)(S:List Str):Prop where
 net:gE ms S=true
 fit:Fits ms S
def fR{xs:List Str}(h:∀x∈xs,isNm x=true)(hl:xs.length<=200):Short xs:=⟨hl,λx hx=>by have:=rF (h x hx);lia⟩
def sX{ms:List Mv}{S L:List Str}(lms:ms.length<=8)(hnm:unlike (names ms)=true)(hL:unlike L=true)(lL:L.length<=12)(he:∀m∈ms,oI L m.2.1 m.2.2)(hS:S.Nodup)(hi:∀x∈S,x∈L):Bi ms S:=by
 have mv:∀m∈ms,gR m.2.1 m.2.2=true:=λm hm=>by
  have h:=he m hm
  unfold gR
  rw[jg hL h.tn h.ti,jg hL h.gn h.gi,KC h.t1,KC h.t4,KC h.g4]
  rfl
 have hdd:∀x∈UfSet.dd (S++j6 ms),x∈L:=λx hx=>by
  rcases KW.mp (UfSet.qB.mp hx) with z|z
  ·exact hi x z
  ·unfold j6 at z
   obtain⟨m,hm,hxm⟩:=Px.mp z
   rcases KW.mp hxm with z|z
   ·exact(he m hm).ti x z
   ·exact(he m hm).gi x z
 have ldd:(UfSet.dd (S++j6 ms)).length<=12:=Lh (dU (UfSet.me _) hdd) lL
 have lS:S.length<=12:=Lh (dU hS hi) lL
 have lpl:∀l:List Mv,(∀m∈l,oI L m.2.1 m.2.2)->(j6 l).length<=8*l.length:=λl=>by
  induction l with
  |nil=>intro _;exact KL _
  |cons m r ih =>
   intro hl
   have h1:=ih λm hm=>hl m (K6 _ hm)
   have a1:=(hl m K9).t4
   have a2:=(hl m K9).g4
   unfold j6 at h1 ⊢
   rw[List.flatMap_cons,KA,KA,Lj]
   lia
 have lp:=lpl ms he
 have ln:(names ms).length=ms.length:=by unfold names;rw[List.length_map]
 have sL:=λx hx=>j4 hL (x:=x) hx
 constructor
 ·unfold gE
  rw[decide_eq_true (show ms.length<=12 by lia),hnm,List.all_eq_true.mpr mv,jg hL hS hi,decide_eq_true (show(cL ms S).length<=12 by unfold cL;rw[bW];lia)]
  rfl
 ·exact⟨fR (λx hx=>j4 hnm hx) (by lia),λm hm=>fR (λx hx=>sL x ((he m hm).ti x hx)) (by have:=(he m hm).t4;lia),λm hm=>fR (λx hx=>sL x ((he m hm).gi x hx)) (by have:=(he m hm).g4;lia),fR (λx hx=>sL x (hi x hx)) (by lia),by rw[KA];lia,by lia⟩
def sT.ends{L tk gv:List Str}(h:sT L tk gv):oI L tk gv:=by
 have:=h.t.le
 have:=h.g.le
 refine⟨h.t.nd,λx hx=>let ⟨_,_,r⟩:=h.t.sub x hx;r.mem,?_,by lia,h.g.nd,λx hx=>let ⟨_,_,r⟩:=h.g.sub x hx;r.mem,by lia⟩
 exact Qy.mpr h.ne
def yW{ms:List Mv}{S L:List Str}{n:Nat}(hn:(names ms).Nodup)(hL:L.Nodup)(he:∀m∈ms,sT L m.2.1 m.2.2)(hS:Rk L S n):UfBfs.Told (graph ms) (aI S) none:=by
 refine yo (λa b=>a≠b/\∃j,RG L j a/\RG L j b) (λa b ⟨n,j,h1,h2⟩=>⟨n.symm,j,h2,h1⟩) hn (λa ha b hb ⟨n,j,h1,h2⟩=>n (hS.one a ha b hb j h1 h2)) λm hm=>.inr ?_
 have h:=he m hm
 refine⟨λp hp np=>?_,λp hp r ⟨n,k,h1,h2⟩=>?_,λp hp q hq ⟨n,j,h1,h2⟩=>n (h.g.one p hp q hq j h1 h2)⟩
 ·obtain⟨j,hj,t,ht,hjt⟩:=h.sub p hp
  exact⟨t,ht,λz=>np (z ▸ ht),j,hj,hjt⟩
 ·obtain⟨j,hj,t,ht,hjt⟩:=h.sub p hp
  have:=RG.one hL h1 hj
  subst this
  by_cases z:t=r
  ·exact⟨t,ht,.inl z⟩
  ·exact⟨t,ht,.inr ⟨z,k,hjt,h2⟩⟩
def ve(H:Hp)(a:Addr)(ms:List Mv):Prop:=∃qs:List Addr,H a=some (.lst (qs.map V.ref))/\Paired (nR H) ms qs
theorem ve.same{H H':Hp}{a:Addr}{ms:List Mv}(s:aq H H')(h:ve H a ms):ve H' a ms:=by
 obtain⟨qs,h1,h2⟩:=h
 exact⟨qs,s _ _ h1,Paired.cH h2 λ_ _=>nR.same s⟩
def IW:bootBuiltins "min"=some (.builtin "min"):=by decide +kernel
def Gj(H:Hp)(Q:VK):Prop:=∀H' t mv st ms S,aq H H'->H' t=some (.tup [.ref mv,.ref st])->ve H' mv ms->H' st=some (.lst (aH S))->Bi ms S->UfBfs.Told (graph ms) (aI S) none->Q (.ref t) H'
def iJ(K:PySem.W.Frag):Sp:=λvs H Q _=>∃(a:Addr) (ns:List Int),vs=[.ref a,.int 8]/\aA K H a (ns.map V.int)/\ns.length<=63/\Gj H Q
def cQ:aD ["_law_script", "_law_most", "_law_head", "_law_naming", "_law_sizes", "_law_names", "_law_start", "_law_r", "_law_at", "_law_moves", "_law_many", "_law_number", "_law_takes", "_law_gives"] ["_law_script", "_law_most"] (ar qO):=eA
def DJ:List Int:=[2,3,1,2,3,2,4,3]
def HY:∀k<8,1<=DJ.getD k 0/\DJ.getD k 0<=4:=by decide
def Dv:List Int:=[3,24,192]
def HF:List Int:=[2,64,2048]
def Eu:∀k<3,(0<Dv.getD k 0/\Dv.getD k 0<1073741824)/\0<HF.getD k 0/\HF.getD k 0<1073741824:=by decide
inductive RsI(H:Hp)(a:Addr)(hd nm:Int)(zs nl st:Addr)(L:List Str)(i:Nat)(σ:St)(H2:Hp):Prop
 |mk (v7 v8:Option V) (S:List Str) (q0:σ=[some (.ref a),some (.int 8),some (.int hd),some (.int nm),some (.ref zs),some (.ref nl),some (.ref st),v7,v8,none,none,none,none,none]) (q1:aq H H2) (q2:H2 st=some (.lst (aH S))) (q3:Rk L S i)
inductive RmI(H:Hp)(a:Addr)(hd nm:Int)(zs nl st mv:Addr)(v7 v8:Option V)(mn:Nat)(L:List Str)(i:Nat)(σ:St)(H2:Hp):Prop
 |mk (v11 v12 v13:Option V) (ms:List Mv) (qs:List Addr) (q0:σ=[some (.ref a),some (.int 8),some (.int hd),some (.int nm),some (.ref zs),some (.ref nl),some (.ref st),v7,v8,some (.ref mv),some (.int mn),v11,v12,v13]) (q1:∀c o,H c=some o->c≠mv->H2 c=some o) (q2:H2 mv=some (.lst (qs.map V.ref))) (q3:Paired (λ(m:Mv) q=>∃l g,H2 q=some (.tup [.str m.1,.ref l,.ref g])/\l≠mv/\g≠mv/\H2 l=some (.lst (aH m.2.1))/\H2 g=some (.lst (aH m.2.2))) ms qs) (q4:names ms=wu (nm / 4048) i) (q5:∀m∈ms,sT L m.2.1 m.2.2)
def AA{f:Addr}{fd:FuncData}(F:dj K "_law_rings" "_law_rings" qO f fd)(T:Txt K mg)(T2:Txt2 mg)(mi:mg "min"=none)
  (DC:gI P w K mg base "_law_cell_at" pd ["_law_script", "_law_k"] 1 (qI K))
  (DN:gI P w K mg base "_law_name" sZ ["_law_cell", "_law_k"] 1 uh)
  (DF:gI P w K mg base "_law_folded" kU ["_law_cells", "_law_many"] 1 (tF K))
  (DS:gI P w K mg base "_law_step" wj ["_law_number", "_law_sizes", "_law_names"] 1 (zW K)) :
  a9 P w K mg base cR 2 f fd ["_law_script", "_law_most"] (iJ K):=by
 refine F.oK cQ λcdv A outer s H vs Q E hr h=>?_
 ·obtain⟨a,ns,rfl,ha,hz,kk⟩:=h
  have hsl:=Lg
  have hr1:cI 1 _:=hr
  refine⟨_,af (cD 2 cQ (e7 DC hr1 (aa (pv 0) (aa ak ae))))
   (af (cD 3 cQ (e7 DC hr1 (aa (pv 0) (aa ak ae))))
   (af (fX (j:=4) (N:=["_law_r", "_law_head"]) (n:=1) (ci:=[2]) rfl cQ.nd rfl rfl (cu rfl T2.rng (aa (az cY ak (az bY (pv 2) ak)) ae)) (iO cQ) (λz=>⟨g0 0,bD,aM aE (bz (aa ak (aa ak (aa ak (aa ak (aa ak (aa ak (aa ak (aa ak ae))))))))) (az bY (az cA (pv 1) (aM aE (bz (aa ak (aa ak (aa ak ae)))) (pv 0) (λ_ _=>rfl))) ak) (λ_ _=>rfl)⟩))
   (af (fX (j:=5) (N:=["_law_k", "_law_naming"]) (n:=1) (ci:=[3]) rfl cQ.nd rfl rfl (cu rfl T2.rng (aa ak ae)) (iO cQ) (λz=>⟨g0 0,bD,e7 DN hr1 (aa (pv 1) (aa (pv 0) ae))⟩))
   (af (cD 6 cQ (bz ae))
   (af (bo K7 rfl (cu rfl T2.rng (aa (ay aY rfl T.len cx (aa (pv 4) ae)) ae)) (eu 7 cQ)
    (af (cD 8 cQ (az cA (e7 DC hr1 (aa (pv 0) (aa ak ae))) (aM aE (bz (aa ak (aa ak (aa ak ae)))) (pv 7) (λ_ _=>rfl))))
    (aj (bO (a8 xa (az bY (az cA (pv 8) ak) ak) ak (bC _)) (aj (bj (c8 Lf Lc Ld bf (pv 6) (aa (aM aE (pv 5) (az cY (az fC ak (pv 7)) (az bY (pv 8) (aM aE (pv 4) (pv 7) (λ_ _=>rfl)))) (λ_ _=>rfl)) ae)))) aX))))
   (af (cD 9 cQ (bz ae))
   (af (cD 10 cQ (ay (yH rfl) rfl mi IW (aa (pv 1) (aa (ay aY rfl T.len cx (aa (dt fQ (pv 0) (dw ak) fY) ae)) ae))))
   (af (bo K7 rfl (aL (e7 DF hr1 (aa (dt fQ (pv 0) (dw ak) fY) (aa (pv 10) ae)))) (eu 11 cQ)
    (af (ko (e7 DS hr1 (aa (pv 11) (aa (pv 4) (aa (pv 5) ae)))) (dQ rfl (aV (eu 12 cQ) (aV (eu 13 cQ) cZ))))
    (aj (bj (c8 Lf Lc Ld bf (pv 9) (aa (dR (aa (e7 DN hr1 (aa (az cA (pv 3) ak) (aa (ay aY rfl T.len cx (aa (pv 9) ae)) ae))) (aa (pv 12) (aa (pv 13) ae)))) ae))))))
   (aj (aK (dR (aa (pv 9) (aa (pv 6) ae))))))))))))),?_⟩
  try dsimp only[bK,Cx.dP,Cx.bQ]
  have cell:∀{H':Hp},aq H H'->aA K H' a (ns.map V.int):=λs=>s.seq ha
  refine⟨_,rfl,a,ns,0,rfl,ha,hz,?_⟩
  generalize ns.getD 0 0=hd
  refine⟨_,rfl,a,ns,1,rfl,ha,hz,?_⟩
  generalize ns.getD 1 0=nm
  refine⟨_,rfl,_,_,rfl,rfl,(by show(0:Int)<3;decide),_,_,rfl,rfl,_,rfl,by lia,by lia,λz D1 hD1=>fE (m:=(1+hd % 3).toNat) (F:=λr=>some (V.int (DJ.getD (hd / Dv.getD r 0 % 8).toNat 0))) (by lia) hD1 (λr hr3 H3 s3 no yes _ hyes=>?_) λH1 s1 hz1=>?_⟩
  ·refine⟨by show 8<=sizeLine;lia,λl H4 _ s4 hl=>⟨_,rfl,by show 3<=sizeLine;lia,λl2 H5 _ s5 hl2=>⟨_,rfl,l2,_,_,_,rfl,rfl,aA.of (xs:=Dv.map V.int) hl2,mE (by show r<3;lia),_,_,rfl,rfl,(Eu r (by lia)).1,_,_,rfl,rfl,(by show(0:Int)<8;decide),l,_,_,_,rfl,rfl,aA.of (xs:=DJ.map V.int) (s5 _ _ hl),ig (by lia) (by show _<((8:Nat):Int);lia),hyes _ rfl _ (s4.trans s5)⟩⟩⟩
  rw[filterMap_some]at hz1
  have ess:((List.range (1+hd % 3).toNat).map λr=>V.int (DJ.getD (hd / Dv.getD r 0 % 8).toNat 0))=((List.range (1+hd % 3).toNat).map λr=>DJ.getD (hd / Dv.getD r 0 % 8).toNat 0).map V.int:=by rw[Lk];rfl
  rw[ess]at hz1
  have hss:∀x∈(List.range (1+hd % 3).toNat).map λr=>DJ.getD (hd / Dv.getD r 0 % 8).toNat 0,1<=x/\x<=4:=λx hx=>by
   obtain⟨r,_,rfl⟩:=K0.mp hx
   exact HY _ (by lia)
  have lss:((List.range (1+hd % 3).toNat).map λr=>DJ.getD (hd / Dv.getD r 0 % 8).toNat 0).length=(1+hd % 3).toNat:=by rw[Kw,LV]
  generalize ((List.range (1+hd % 3).toNat).map λr=>DJ.getD (hd / Dv.getD r 0 % 8).toNat 0)=ss at hz1 hss lss
  have l13:1<=ss.length/\ss.length<=3:=by lia
  refine⟨_,rfl,by decide,by decide,λz D2 hD2=>fE (m:=12) (F:=λk=>some (V.str (jc nm k))) (by lia) hD2 (λk hk H3 s3 no yes _ hyes=>⟨_,rfl,_,rfl,nm,k,rfl,by lia,hyes _ rfl _ (aq.refl _)⟩) λH2 s2 hn2=>?_⟩
  rw[filterMap_some,show((List.range 12).map λk=>V.str (jc nm k))=aH (wu nm 12) by unfold wu aH;rw[List.map_map];rfl]at hn2
  have uL:=jh nm (n:=12) (by decide)
  have lL:=kX nm 12
  have nL:=cV uL
  generalize wu nm 12=L at hn2 uL lL nL
  refine⟨K2 _,λst H4 nst s4 hst=>?_⟩
  have s02:=s1.trans s2
  have s04:=s02.trans s4
  have hz4:=(s2.trans s4) _ _ hz1
  have hn4:=s4 _ _ hn2
  have nst0:H st=none:=s02.free nst
  refine⟨_,rfl,_,ss.length,rfl,.inl ⟨_,aA.of hz4,by rw[Kw]⟩,_,rfl,by lia,by lia,fk (lo:=0) (n:=((ss.length:Nat):Int).toNat) (RsI H2 a hd nm D1 D2 st L) ⟨none,none,[],rfl,s4,hst,Rk.nil L⟩ ?_ ?_⟩
  ·rintro i σ H5 hi ⟨v7,v8,S,rfl,s5,hst5,rk⟩
   have hi2:i<ss.length:=by lia
   have s05:=s02.trans s5
   have hz5:=(s2.trans s5) _ _ hz1
   have hn5:=s5 _ _ hn2
   rw[show(0+((i:Nat):Int))=((i:Nat):Int) by lia]
   refine⟨_,rfl,a,ns,2,rfl,cell s05,hz,by show 3<=sizeLine;lia,λl H6 _ s6 hl=>⟨_,rfl,l,_,_,_,rfl,rfl,aA.of (xs:=HF.map V.int) hl,mE (by show i<3;lia),_,_,rfl,rfl,(Eu i (by lia)).2,?_⟩⟩
   have hst6:=s6 _ _ hst5
   refine⟨_,rfl,_,_,rfl,rfl,⟨by decide,by decide⟩,_,_,rfl,rfl,(by show(0:Int)<8;decide),_,_,rfl,rfl,_,rfl,?_⟩
   refine uI (λ_=>?_) (λ_=>⟨_,_,S,rfl,s5.trans s6,hst6,rk.skip⟩)
   have sz:1<=ss.getD i 0/\ss.getD i 0<=4:=hss _ (by rw[KN,Kx hi2];exact Mr _)
   have b0:=Nu (ns.getD 2 0 / HF.getD i 0) (show ss.getD i 0≠0 by lia)
   have b1:=M3 (ns.getD 2 0 / HF.getD i 0) (show 0<ss.getD i 0 by lia)
   refine⟨_,rfl,.inl ⟨rfl,_,aA.of hst6⟩,_,rfl,_,rfl,_,_,rfl,rfl,.inl ⟨by decide,by decide⟩,_,rfl,_,rfl,_,rfl,D1,_,_,_,rfl,rfl,aA.of (s6 _ _ hz5),mE hi2,_,_,rfl,rfl,(by lia),_,_,rfl,rfl,D2,_,_,_,rfl,rfl,aA.of (s6 _ _ hn5),kS (by lia) (by lia),st,_,_,rfl,rfl,hst6,by rw[aw];have:=rk.le;lia,?_⟩
   rw[mR]
   exact⟨_,_,_,rfl,aU (s5.trans s6) nst,ag,rk.snoc nL ⟨_,by lia,by lia,rfl⟩⟩
  ·rintro σ H5 ⟨v7,v8,S,rfl,s5,hst5,rk⟩
   refine⟨K2 _,λmv H6 nmv s6 hmv=>?_⟩
   have s26:=s5.trans s6
   have s06:=s02.trans s26
   have nmv2:H2 mv=none:=s5.free nmv
   have nms:st≠mv:=ai hst5 nmv
   have e3:hC (ns.map V.int) (some (3:Int)) none=(ns.drop 3).map V.int:=by rw[show(3:Int)=((3:Nat):Int) from rfl,Kc,Qu]
   generalize hcs:ns.drop 3=cs at e3
   have lcs:cs.length<=60:=by rw[<-hcs,NM];lia
   refine⟨_,rfl,_,rfl,_,rfl,a,_,rfl,cell s06,λq3 n3=>?_⟩
   rw[e3]
   have s7:aq H6 (upd H6 q3 (.lst (cs.map V.int))):=ao n3
   refine⟨_,cs.length,rfl,.inl ⟨_,aA.of ag,by rw[Kw]⟩,_,_,rfl,?_⟩
   generalize upd H6 q3 (.lst (cs.map V.int))=H7 at s7 ⊢
   rw[show(if ((cs.length:Nat):Int)<8 then((cs.length:Nat):Int) else 8)=((min 8 cs.length:Nat):Int) by split <;> lia]
   generalize hmn:min 8 cs.length=mn
   refine⟨_,rfl,_,rfl,a,_,rfl,cell (s06.trans s7),λq4 n4=>?_⟩
   rw[e3]
   have s8:aq H7 (upd H7 q4 (.lst (cs.map V.int))):=ao n4
   refine⟨_,rfl,q4,cs,mn,rfl,aA.of ag,by lia,λz=>MQ (by lia),λH9 q5 zs s9 nq5 hq5 hzl=>?_⟩
   generalize upd H7 q4 (.lst (cs.map V.int))=H8 at s8 s9 nq5
   have s69:=s7.trans (s8.trans s9)
   have s29:=s26.trans s69
   have hst9:=(s6.trans s69) _ _ hst5
   have hq5m:q5≠mv:=(ai ((s7.trans s8) _ _ hmv) nq5).symm
   refine⟨q5,rfl,⟨_,aA.of hq5⟩,bq (K:=K) (a:=q5) (xs:=zs.map V.int) (RmI H9 a hd nm D1 D2 st mv v7 v8 mn L) ⟨none,none,none,[],[],rfl,λ_ _ e _=>e,s69 _ _ hmv,.nil,rfl,(λ_ h=>nomatch h)⟩ (λi σ H2 _ h=>by obtain⟨_,_,_,_,_,_,b,_⟩:=h;exact aA.of (b _ _ hq5 hq5m)) ?_ ?_⟩
   ·rintro i v σ Ha hi ⟨v11,v12,v13,ms,qs,rfl,ba,hmva,hqs,enm,hst⟩
    obtain⟨c,hc,rfl⟩:=ints_get hi
    have il:=(KQ.mp hc).1
    have lms:ms.length=i:=by have:=congrArg List.length enm;rw[kX]at this;unfold names at this;rwa[List.length_map]at this
    have lqs:=KZ hqs
    have k2:∀{c o},H2 c=some o->Ha c=some o:=λ{c o} e=>ba _ _ (s29 _ _ e) (ai e nmv2)
    refine⟨_,rfl,_,rfl,_,rfl,c,D1,D2,ss,L,rfl,aA.of (k2 (s2 _ _ hz1)),aA.of (k2 hn2),l13,hss,lL,nL,λHb t l g tk gv sb nl ng ht hl hg sk=>⟨t,_,rfl,bX.of ht,rfl,_,_,rfl,_,_,rfl,rfl,?_⟩⟩
    have hmvb:=sb _ _ hmva
    refine⟨_,rfl,.inl ⟨rfl,_,aA.of hmvb⟩,_,rfl,_,_,rfl,rfl,⟨by decide,by decide⟩,_,rfl,_,qs.length,rfl,.inl ⟨_,aA.of hmvb,by rw[Kw]⟩,nm / 4048,qs.length,rfl,by lia,_,rfl,_,rfl,by show 3<=sizeLine;lia,λu Hc nu sc hu=>⟨mv,_,_,rfl,rfl,sc _ _ hmvb,by rw[Kw];lia,?_⟩⟩
    have lm:l≠mv:=(ai hmva nl).symm
    have gm:g≠mv:=(ai hmva ng).symm
    refine⟨_,_,_,ms++[(jc (nm / 4048) qs.length,tk,gv)],qs++[u],rfl,λc o e n=>by rw[ah n];exact sc _ _ (sb _ _ (ba c o e n)),by rw[ag,KS];rfl,L1 (Paired.cH hqs λm q ⟨l,g,e1,e2,e3,e4,e5⟩=>⟨l,g,?_,e2,e3,?_,?_⟩) ⟨l,g,?_,lm,gm,?_,?_⟩,?_,λm hm=>?_⟩
    ·rw[ah (aQ (sc _ _ (sb _ _ e1)) (sc _ _ hmvb) (λz=>nomatch z))];exact sc _ _ (sb _ _ e1)
    ·rw[ah e2];exact sc _ _ (sb _ _ e4)
    ·rw[ah e3];exact sc _ _ (sb _ _ e5)
    ·rw[ah (aQ hu (sc _ _ hmvb) (λz=>nomatch z))];exact hu
    ·rw[ah lm];exact sc _ _ hl
    ·rw[ah gm];exact sc _ _ hg
    ·rw[BL,<-enm]
     unfold names
     rw[KS,<-lqs,lms]
     rfl
    ·rcases KW.mp hm with z|z
     ·exact hst m z
     ·rw[KG.mp z]
      exact sk
   ·rintro σ Ha ⟨v11,v12,v13,ms,qs,rfl,ba,hmva,hqs,enm,hst⟩
    rw[Kw,hzl]at enm
    have lms:ms.length=mn:=by have:=congrArg List.length enm;rw[kX]at this;unfold names at this;rwa[List.length_map]at this
    have s0a:aq H Ha:=λc o e=>ba _ _ ((s02.trans s29) _ _ e) (ai (s02 _ _ e) nmv2)
    have un:unlike (names ms)=true:=by rw[enm];exact jh _ (by lia)
    refine⟨_,rfl,_,rfl,by show 2<=sizeLine;lia,λt Hb nt sb ht=>kk Hb t mv st ms S (s0a.trans sb) ht ⟨qs,sb _ _ hmva,Paired.cH hqs λm q ⟨l,g,e1,_,_,e4,e5⟩=>⟨l,g,sb _ _ e1,sb _ _ e4,sb _ _ e5⟩⟩ (sb _ _ (ba _ _ hst9 nms)) (sX (L:=L) (by lia) un uL (by lia) (λm hm=>(hst m hm).ends) rk.nd λx hx=>let ⟨_,_,r⟩:=rk.sub x hx;r.mem) (yW (cV un) nL hst rk)⟩
end Uf
end
section
namespace L2
open PySem PySem.Spec PyProof.Rows UfSrt
section
variable {X:Cx}
def yX{pins:List (Addr×Obj)}{s:Shared}{σ:St}{H:Hp}{A:Around}{p q:Addr}{a b:List Str}(I:Inv X pins σ H s)(h1:bX X.K H p (aH a))(h2:bX X.K H q (aH b))(hu:A.units<cLine):SeqAt.EqAt A s (.ref p) (.ref q) (decide (a=b)):=by
 obtain⟨its,r1,p1,_⟩:=I.tuple h1
 obtain⟨its2,r2,p2,_⟩:=I.tuple h2
 have inj:∀{a b:List Str},aH a=aH b->a=b:=λ{a b} e=>by
  unfold aH at e
  exact Oa (λ_ _ z=>by injection z) |>.mp e
 by_cases e:p=q
 ·subst e
  have:a=b:=inj (I.oG h1 h2)
  rw[KC this]
  exact M7 _
 ·have l1:=r1.length
  have l2:=r2.length
  unfold aH at l1 l2
  rw[Kw]at l1 l2
  have:=Nz (A:=A) (e:=λj=>decide (a[j]?=b[j]?)) p1 p2 hu λj h1 h2=>by
   have h1':j<its.length:=by simpa using h1
   have h2':j<its2.length:=by simpa using h2
   have g1:a[j]?=some a[j]:=Kx (by lia)
   have g2:b[j]?=some b[j]:=Kx (by lia)
   obtain⟨w,e1,e2⟩:=r1.get (show(aH a)[j]?=some (.str a[j]) by unfold aH;rw[List.getElem?_map,g1];rfl)
   obtain⟨w',e3,e4⟩:=r2.get (show(aH b)[j]?=some (.str b[j]) by unfold aH;rw[List.getElem?_map,g2];rfl)
   rw[Kx h1']at e1
   rw[Kx h2']at e3
   cases e1
   cases e3
   have:=ft (A:=A.in1) (s:=s) e2 e4 rfl rfl
   have e5:pD (.str a[j]) (.str b[j])=decide (a[j]?=b[j]?):=by
    show(a[j]==b[j])=_
    rw[Lu,ML,Lp,g1,g2]
    exact⟨λz=>by rw[z],λz=>Lq z⟩
   rw[e5]at this
   exact this
  have e6:((List.range (min its.toArray.size its2.toArray.size)).all (λj=>decide (a[j]?=b[j]?))&&its.toArray.size==its2.toArray.size)=decide (a=b):=by
   rw[K8,K8,<-l1,<-l2,Lu,Md,LS,ML,Lp]
   constructor
   ·rintro⟨h,hl⟩
    refine NB λj=>?_
    by_cases hj:j<a.length
    ·exact Ln (h j (Ly.mpr (by lia)))
    ·rw[Ll (by lia),Ll (by lia)]
   ·rintro rfl
    exact⟨λj _=>KC rfl,rfl⟩
  rw[e6]at this
  exact .of_refs e this
def B0(X:Cx):R2:=λx y H Q=>∃p q qs ts t,x=.ref p/\y=.ref q/\X.A.units+1<cLine/\H p=some (.tup (aH t))/\H q=some (.lst (qs.map V.ref))/\Paired (λt q=>H q=some (.tup (aH t))) ts qs/\Q (.bl (!decide (t∈ts))) H
def nZ:fZ X (compareOp .NotIn) (B0 X):=by
 intro pins s σ H x y v u Q I rx ry h
 obtain⟨p,q,qs,ts,t,rfl,rfl,hu,hp,hq,hpq,k⟩:=h
 cases rx
 cases ry
 obtain⟨its,r,pl,hz⟩:=I.list (aA.of (K:=X.K) hq)
 let e:Value->Bool:=λu=>match u with
  |.ref b=>match H b with
   |some (.tup xs)=>decide (xs=aH t)
   |_=>false
  |_=>false
 have inj:∀{a b:List Str},aH a=aH b->a=b:=λ{a b} z=>by
  unfold aH at z
  exact Oa (λ_ _ z=>by injection z) |>.mp z
 have he:∀(b:Addr) (t':List Str),H b=some (.tup (aH t'))->e (.ref b)=decide (t'=t):=λb t' hb=>by
  show(match H b with|some (.tup xs)=>decide (xs=aH t)|_=>false)=_
  rw[hb]
  exact Mj.mpr ⟨inj,λz=>by rw[z]⟩
 have all:∀{ts:List (List Str)} {qs:List Addr} {us:List Value},Paired (λt q=>H q=some (.tup (aH t))) ts qs->Vals (qs.map V.ref) us->(∀w∈us,SeqAt.EqAt X.A.in1 s w (.ref p) (e w))/\us.any e=decide (t∈ts):=by
  intro ts qs us h
  induction h generalizing us with
  |nil =>
   intro hv
   cases hv
   exact⟨(λw hw=>by cases hw),by simp⟩
  |@cons t' q' ts qs h0 ht ih =>
   intro hv
   cases hv with
   |cons r0 rt =>
    cases r0
    obtain⟨i1,i2⟩:=ih rt
    refine⟨λw hw=>?_,?_⟩
    ·rcases KR.mp hw with rfl|hw
     ·rw[he q' t' h0]
      exact yX I (bX.of h0) (bX.of hp) (by show X.A.units+1<cLine;exact hu)
     ·exact i1 w hw
    ·rw[Na,i2,he q' t' h0]
     rw[Lu,OP,Lp,Lp,Lp,KR]
     exact⟨λz=>z.imp Eq.symm id,λz=>z.imp Eq.symm id⟩
 obtain⟨a1,a2⟩:=all hpq r
 refine SeqAt.notIn_listAt e pl.isList (λw hw=>a1 w (by simpa using hw)) ⟨.bl _,H,I,rfl,?_⟩
 rw[show its.toArray.any e=its.any e by simp,a2]
 exact k
end
end L2
end
section
namespace Uf
open PySem L2 UfSrt UfFin
abbrev k8:Stmt:=top 54
def Cw(a b:List Str):aH a++aH b=aH (a++b):=(KS ..).symm
def Iv(H:Hp)(a:Addr)(ts:List (List Str)):Prop:=∃qs:List Addr,H a=some (.lst (qs.map V.ref))/\Paired (λt q=>H q=some (.tup (aH t))) ts qs
structure CF(L:List Str)(ms:List Mv):Prop where
 nd:L.Nodup
 ll:L.length<=12
 e:∀m∈ms,oI L m.2.1 m.2.2
structure uC(L t:List Str):Prop where
 ris:cW t
 sub:∀x∈t,x∈L
def uC.len{L t:List Str}(hl:L.length<=12)(h:uC L t):t.length<=12:=Lh (dU h.ris.nd h.sub) hl
def uC.next{L t tk gv:List Str}(h:uC L t)(hg:∀x∈gv,x∈L)(gn:gv.Nodup)(hs:second tk gv t=false):uC L (behind tk gv t):=by
 refine⟨cW.aI (LM.mpr ⟨h.ris.nd.sublist NS,gn,λa ha b hb=>?_⟩),λx hx=>?_⟩
 ·rintro rfl
  obtain⟨h1,h2⟩:=K1.mp ha
  have h3:second tk gv t=true:=Mq.mpr ⟨a,hb,by simp at h2;simp[h1,h2]⟩
  rw[hs]at h3
  cases h3
 ·unfold behind at hx
  rcases KW.mp (bJ.mp hx) with z|z
  ·exact h.sub x (K1.mp z).1
  ·exact hg x z
def Goes(W:List (List Str))(t:List Str)(m:Mv):Prop:=dh m.2.1 t=false->second m.2.1 m.2.2 t=false/\behind m.2.1 m.2.2 t∈W
def Goes.more{W W':List (List Str)}{t:List Str}{m:Mv}(h:Goes W t m)(s:∀x∈W,x∈W'):Goes W' t m:=λz=>⟨(h z).1,s _ (h z).2⟩
structure GF(L:List Str)(ms:List Mv)(s0:List Str)(k:Nat)(ts:List (List Str)):Prop where
 nd:ts.Nodup
 inn:∀t∈ts,uC L t
 st:s0∈ts
 le:k<=ts.length
 go:∀j t,j<k->ts[j]?=some t->∀m∈ms,Goes ts t m
def GF.jk{L:List Str}{ms:List Mv}{s0:List Str}{k:Nat}{ts:List (List Str)}(hi:CF L ms)(h:GF L ms s0 k ts):ts.length<=4096:=by
 have h1:ts.length<=(subs (aI L)).length:=dU h.nd λt ht=>(h.inn t ht).ris.wa (cW.aI hi.nd) λx hx=>bJ.mpr ((h.inn t ht).sub x hx)
 rw[mK,bW]at h1
 exact Lh h1 (LC (by decide) hi.ll:2 ^ L.length<=2 ^ 12)
def GF.told{L:List Str}{ms:List Mv}{S:List Str}{ts:List (List Str)}(h:GF L ms (aI S) ts.length ts)(hn:(names ms).Nodup):UfBfs.Told (graph ms) (aI S) none:=by
 have go:∀t∈ts,∀m∈ms,Goes ts t m:=λt ht=>by
  obtain⟨j,hj⟩:=MJ.mp ht
  exact h.go j t (KQ.mp hj).1 hj
 exact j8 hn (λt=>t∈ts) h.st (λt m J hm hl _=>(go t J m hm hl).2) λt m J hm hl=>(go t J m hm hl).1
def ze(tk s:List Str):(tk.map λx=>decide (x∈s)).all id = !dh tk s:=by
 unfold dh
 rw[N5,List.not_any_eq_all_not]
 congr 1
 funext x
 simp
def t9(tk gv s:List Str):(gv.map λx=>decide (x∈s.filter λy=>!decide (y∈tk))).any id=second tk gv s:=by
 unfold second
 rw[OL]
 congr 1
 funext x
 rw[Lu]
 simp[K1]
theorem fb{α β:Type}(p:α->Bool)(g:α->β):∀xs:List α,xs.filterMap (λx=>if p x then some (g x) else none)=(xs.filter p).map g
 |[]=>rfl
 |x::xs=>by
  rw[OR,Nk]
  cases p x
  ·exact fb p g xs
  ·show _::_=_
   rw[fb p g xs]
   rfl
def q9(K:PySem.W.Frag):Sp:=λvs H Q _=>∃(a b:Addr) (L S:List Str) (ms:List Mv),vs=[.ref a,.ref b]/\ve H a ms/\CF L ms/\(names ms).Nodup/\aA K H b (aH S)/\S.Nodup/\(∀x∈S,x∈L) /\
 ∀H' r,aq H H'->(r=false->UfBfs.Told (graph ms) (aI S) none)->Q (.bl r) H'
def cS:aD ["_law_moves", "_law_start", "_law_row", "_law_at", "_law_move", "_law_takes", "_law_gives", "_law_left", "_law_there"] ["_law_moves", "_law_start"] (ar k8):=eA
inductive OdI(H:Hp)(a b wq:Addr)(L s0:List Str)(ms:List Mv)(m:Nat)(σ:St)(H2:Hp):Prop
 |mk (k:Nat) (ts:List (List Str)) (v4 v5 v6 v7 v8:Option V) (q0:σ=[some (.ref a),some (.ref b),some (.ref wq),some (.int (k:Int)),v4,v5,v6,v7,v8]) (q1:aq H H2) (q2:Iv H2 wq ts) (q3:GF L ms s0 k ts) (q4:m=5000-k)
inductive OdJ(H:Hp)(a b wq hq:Addr)(L s0 t:List Str)(ms:List Mv)(k:Nat)(i:Nat)(σ:St)(H2:Hp):Prop
 |mk (ts:List (List Str)) (qs:List Addr) (v4 v5 v6 v7 v8:Option V) (q0:σ=[some (.ref a),some (.ref b),some (.ref wq),some (.int (k:Int)),v4,v5,v6,v7,v8]) (q1:aq H H2) (q2:H2 wq=some (.lst (qs.map V.ref))) (q3:Paired (λt q=>H2 q=some (.tup (aH t))) ts qs) (q4:GF L ms s0 k ts) (q5:ts[k]?=some t) (q6:∀m∈ms.take i,Goes ts t m) (q7:qs[k]?=some hq) (q8:H2 hq=some (.tup (aH t)))
def ya{f:Addr}{fd:FuncData}(F:dj K "_law_crowds" "_law_crowds" k8 f fd)(T:Txt K mg)(T2:Txt2 mg):a9 P w K mg base cR 1 f fd ["_law_moves", "_law_start"] (q9 K):=by
 refine F.oK cS λcdv A outer s H vs Q E hr h=>?_
 ·obtain⟨a,b,L,S,ms,rfl,hsa,hin,hnn,hb,Sn,SL,kk⟩:=h
  have hsl:=Lg
  have hu1:=eZ hr
  refine⟨_,af (cD 2 cS (bz (aa (bb bV rfl T.tup fh (aa (ay cy rfl T.aI cj (aa (pv 1) ae)) ae)) ae)))
   (af (cD 3 cS ak)
   (af (mS K7 (a8 xa (pv 3) (ay aY rfl T.len cx (aa (pv 2) ae)) (bC _))
    (af (bo K7 rfl (aL (pv 0)) (dQ rfl (aV (eu 4 cS) (aV (eu 5 cS) (aV (eu 6 cS) cZ))))
     (aj (bO (cG (ay (jx rfl) rfl T.all vR (aa (bB (N:=["_law_place", "_law_row", "_law_at"]) (n:=1) (ci:=[2,3]) rfl (aL (pv 5))
       (iO cS)
       (λz=>⟨g0 0,bD,de gA (pv 0) (aM aE (pv 1) (pv 2) (λ_ _=>rfl)) (by with_unfolding_all rfl)⟩)) ae)))
      (af (cD 7 cS (bB (N:=["_law_place", "_law_takes"]) (n:=1) (ci:=[5]) rfl (gN (aM aE (pv 2) (pv 3) (λ_ _=>rfl)))
       (iO cS)
       (λz=>⟨g0 0,fg (a8 dc (pv 0) (pv 1) (by with_unfolding_all rfl)),pv 0⟩)))
      (af (bO (cG (ay (mV rfl) rfl T2.any zy (aa (bB (N:=["_law_place", "_law_left"]) (n:=1) (ci:=[7]) rfl (aL (pv 6))
       (iO cS)
       (λz=>⟨g0 0,bD,de gA (pv 0) (pv 1) (by with_unfolding_all rfl)⟩)) ae))) (aj (aK jB)) aX)
      (af (cD 8 cS (bb bV rfl T.tup fh (aa (ay cy rfl T.aI cj (aa (az jf (pv 7) (pv 6)) ae)) ae)))
      (aj (bO (a8 nZ (pv 8) (pv 2) (by with_unfolding_all rfl)) (aj (bj (c8 Lf Lc Ld bf (pv 2) (aa (pv 8) ae)))) aX))))) aX)))
    (aj (cD 3 cS (az cY (pv 3) ak)))))
   (aj (aK jB)))),?_⟩
  try dsimp only[bK,Cx.dP,Cx.bQ]
  have ll:=hin.ll
  have lS:S.length<=12:=Lh (dU Sn SL) ll
  obtain⟨qs0,hqs0,hpe⟩:=hsa
  refine⟨_,rfl,b,S,rfl,hb,by lia,λq1 n1=>⟨q1,_,rfl,.inl ⟨aA.of ag,λa0 na0=>?_⟩⟩⟩
  have s1:=(ao (o:=.lst (aH (aI S))) n1).trans (ao (o:=.tup (aH (aI S))) na0)
  have ha0:(upd (upd H q1 (.lst (aH (aI S)))) a0 (.tup (aH (aI S)))) a0=some (.tup (aH (aI S))):=ag
  generalize upd (upd H q1 (.lst (aH (aI S)))) a0 (.tup (aH (aI S)))=H1 at s1 ha0 ⊢
  refine⟨by show 1<=sizeLine;lia,λwq H2 nwq s2 hwq=>?_⟩
  have nwq0:H wq=none:=s1.free nwq
  have ha2:=s2 _ _ ha0
  have s02:=s1.trans s2
  have st0:uC L (aI S):=⟨cW.aI Sn,λx hx=>SL x (bJ.mp hx)⟩
  refine⟨OdI H a b wq L (aI S) ms,⟨_,0,[aI S],none,none,none,none,none,rfl,s02,⟨[a0],hwq,.cons ha2 .nil⟩,⟨by simp,λt ht=>by rw[KG.mp ht];exact st0,by simp,K2 _,λj t hj=>absurd hj (by lia)⟩,rfl⟩,?_⟩
  rintro m σ H3 ⟨k,ts,v4,v5,v6,v7,v8,rfl,s3,⟨qs,hqs,hpq⟩,oq,rfl⟩
  have jk:=oq.jk hin
  have lpq:=KZ hpq
  refine⟨_,rfl,_,rfl,_,ts.length,rfl,.inl ⟨_,aA.of hqs,by rw[Kw,lpq]⟩,_,_,rfl,rfl,_,rfl,?_⟩
  by_cases hk:k<ts.length
  ·rw[KC (show((k:Nat):Int)<((ts.length:Nat):Int) by lia)]
   refine cv ⟨λσ' H'=>∃m',m'<5000-k/\OdI H a b wq L (aI S) ms m' σ' H',λσ' H' h=>h,?_⟩
   have htk:ts[k]?=some ts[k]:=Kx hk
   have hqk:qs[k]?=some (qs[k]'(by lia)):=Kx (by lia)
   obtain⟨t',ht',hq'⟩:=bE hpq hqk
   generalize qs[k]'(by lia)=hq at hqk hq'
   rw[htk]at ht'
   obtain rfl:ts[k]=t':=Lq ht'
   generalize ts[k]=t at htk hq'
   have hst:=oq.inn t (KJ htk)
   have lt12:=hst.len ll
   refine⟨_,rfl,a,rfl,⟨_,aA.of (s3 _ _ hqs0)⟩,bq (K:=K) (a:=a) (xs:=qs0.map V.ref) (OdJ H a b wq hq L (aI S) t ms k)
    ⟨ts,qs,_,_,_,_,_,rfl,s3,hqs,hpq,oq,htk,(λe he=>by simp at he),hqk,hq'⟩ (λi σ H4 _ h=>by obtain⟨_,_,_,_,_,_,_,_,b,_⟩:=h;exact aA.of (b _ _ hqs0)) ?_ ?_⟩
   ·rintro i v σ H4 hi ⟨ts,qs,v4,v5,v6,v7,v8,rfl,s4,hqs,hpq,oq,htk,hgo,hqk,hq4⟩
    obtain⟨q,hqi,rfl⟩:=fA hi
    obtain⟨m,hmi,l,g,htq,hl,hg⟩:=bE hpe hqi
    have en:=hin.e m (KJ hmi)
    have et4:=en.t4
    have eg4:=en.g4
    have etk:ms.take (i+1)=ms.take i++[m]:=au hmi
    have addM:∀{ts':List (List Str)},(∀x∈ts,x∈ts')->Goes ts' t m->∀m'∈ms.take (i+1),Goes ts' t m':=λ{ts'} hsub hne m' hm'=>by
     rw[etk]at hm'
     rcases KW.mp hm' with z|z
     ·exact(hgo m' z).more hsub
     ·rw[KG.mp z]
      exact hne
    have hatk:∀{H':Hp},aq H4 H'->aA K H' wq (qs.map V.ref):=λs=>aA.of (s _ _ hqs)
    have atk:tY (qs.map V.ref) (k:Int)=some (.ref hq):=aF (j:=k) (by rw[KH,hqk];rfl)
    refine⟨q,_,rfl,bX.of (s4 _ _ htq),rfl,_,_,rfl,_,_,rfl,_,_,rfl,rfl,?_⟩
    refine⟨_,rfl,l,rfl,⟨_,aA.of (s4 _ _ hl)⟩,λz D hD=>eF (zs:=m.2.1) (v:=V.str) (F:=λx=>some (V.bl (decide (x∈t)))) (aA.of (s4 _ _ hl)) (by lia) hD (λx hx H5 s5 no yes _ hyes=>⟨_,rfl,_,rfl,_,rfl,wq,_,_,_,rfl,rfl,hatk s5,atk,hq,aH t,rfl,.inr (bX.of (s5 _ _ hq4)),rfl,dI t,hyes _ (by rw[ic];rfl) _ (aq.refl _)⟩) λH5 s5 hD5=>?_⟩
    rw[filterMap_some]at hD5
    refine⟨D,m.2.1.map λx=>decide (x∈t),rfl,aA.of (by rw[Lk];exact hD5),?_⟩
    rw[ze]
    refine⟨_,rfl,?_⟩
    have s05:=s4.trans s5
    have hq5:=s5 _ _ hq4
    have hpq5:Paired (λt q=>H5 q=some (.tup (aH t))) ts qs:=Paired.cH hpq λ_ _ e=>s5 _ _ e
    cases c1:dh m.2.1 t with
    |true=>exact bF ⟨ts,qs,_,_,_,_,_,rfl,s05,s5 _ _ hqs,hpq5,oq,htk,addM (λx hx=>hx) (λz=>by rw[c1]at z;cases z),hqk,hq5⟩
    |false =>
     refine cv ?_
     refine⟨_,rfl,_,rfl,wq,_,_,_,rfl,rfl,hatk s5,atk,hq,rfl,⟨_,bX.of hq5⟩,λz D1 hD1=>mq (zs:=t) (v:=V.str) (F:=λx=>if !decide (x∈m.2.1) then some (V.str x) else none) (bX.of hq5) (by lia) hD1 (λx hx H6 s6 no yes hno hyes=>⟨_,rfl,_,rfl,l,aH m.2.1,rfl,.inl (aA.of ((s05.trans s6) _ _ hl)),rfl,dI _,_,rfl,?_⟩) λH6 s6 hre=>?_⟩
     ·show if (!Cp (V.str x) (aH m.2.1))=true then _ else _
      rw[ic]
      cases c2:decide (x∈m.2.1) with
      |true=>exact bF (hno (by rw[c2];rfl) _ (aq.refl _))
      |false=>exact cv ⟨_,rfl,hyes _ (by rw[c2];rfl) _ (aq.refl _)⟩
     rw[fb]at hre
     have hre:H6 D1=some (.lst (aH (t.filter λx=>!decide (x∈m.2.1)))):=hre
     have lre:(t.filter λx=>!decide (x∈m.2.1)).length<=12:=Lh (LH _ _) lt12
     have s06:=s05.trans s6
     refine⟨_,rfl,g,rfl,⟨_,aA.of (s06 _ _ hg)⟩,λz D2 hD2=>eF (zs:=m.2.2) (v:=V.str) (F:=λx=>some (V.bl (decide (x∈t.filter λy=>!decide (y∈m.2.1))))) (aA.of (s06 _ _ hg)) (by lia) hD2 (λx hx H7 s7 no yes _ hyes=>⟨_,rfl,_,rfl,D1,aH (t.filter λy=>!decide (y∈m.2.1)),rfl,.inl (aA.of (s7 _ _ hre)),rfl,dI _,hyes _ (by rw[ic];rfl) _ (aq.refl _)⟩) λH7 s7 hD7=>?_⟩
     rw[filterMap_some]at hD7
     refine⟨D2,m.2.2.map λx=>decide (x∈t.filter λy=>!decide (y∈m.2.1)),rfl,aA.of (by rw[Lk];exact hD7),?_⟩
     rw[t9]
     refine⟨_,rfl,?_⟩
     have s07:=s06.trans s7
     cases c2:second m.2.1 m.2.2 t with
     |true=>exact cv (kk _ true s07 λz=>nomatch z)
     |false =>
      refine bF ?_
      refine⟨_,rfl,_,rfl,D1,g,_,_,rfl,rfl,s7 _ _ hre,s07 _ _ hg,by rw[aw,aw];lia,λc3 nc3=>?_⟩
      rw[Cw]
      obtain⟨H8,eU,s8,hc3⟩:=oh nc3 (.lst (aH ((t.filter λx=>!decide (x∈m.2.1))++m.2.2)))
      rw[eU]
      refine⟨c3,_,rfl,aA.of hc3,by rw[KA];lia,λq4 n4=>⟨q4,_,rfl,.inl ⟨aA.of ag,λtq ntq=>?_⟩⟩⟩
      have s9:=(ao (o:=.lst (aH (aI ((t.filter λx=>!decide (x∈m.2.1))++m.2.2)))) n4).trans (ao (o:=.tup (aH (aI ((t.filter λx=>!decide (x∈m.2.1))++m.2.2)))) ntq)
      have htq9:(upd (upd H8 q4 (.lst (aH (aI ((t.filter λx=>!decide (x∈m.2.1))++m.2.2))))) tq (.tup (aH (aI ((t.filter λx=>!decide (x∈m.2.1))++m.2.2))))) tq=some (.tup (aH (behind m.2.1 m.2.2 t))):=ag
      generalize upd (upd H8 q4 (.lst (aH (aI ((t.filter λx=>!decide (x∈m.2.1))++m.2.2))))) tq (.tup (aH (aI ((t.filter λx=>!decide (x∈m.2.1))++m.2.2))))=H9 at s9 htq9 ⊢
      have s59:=s6.trans (s7.trans (s8.trans s9))
      have s49:=s5.trans s59
      have s09:=s4.trans s49
      have hqs9:=s49 _ _ hqs
      have hpq9:Paired (λt q=>H9 q=some (.tup (aH t))) ts qs:=Paired.cH hpq λ_ _ e=>s49 _ _ e
      have hq9:=s49 _ _ hq4
      have jk:=oq.jk hin
      have lpq:=KZ hpq
      refine⟨_,rfl,_,rfl,tq,wq,qs,ts,behind m.2.1 m.2.2 t,rfl,rfl,hu1,htq9,hqs9,hpq9,_,rfl,?_⟩
      by_cases hb':behind m.2.1 m.2.2 t∈ts
      ·rw[KC hb']
       exact bF ⟨ts,qs,_,_,_,_,_,rfl,s09,hqs9,hpq9,oq,htk,addM (λx hx=>hx) (λ_=>⟨c2,hb'⟩),hqk,hq9⟩
      ·rw[KU hb']
       refine cv ?_
       refine⟨_,rfl,.inl ⟨rfl,_,aA.of hqs9⟩,_,rfl,wq,_,_,rfl,rfl,hqs9,by rw[Kw];lia,?_⟩
       have up:∀{b:Addr} {xs:List V},H9 b=some (.tup xs)->(upd H9 wq (.lst (qs.map V.ref++[V.ref tq]))) b=some (.tup xs):=λ{b xs} e=>by rw[ah (aQ e hqs9 (λz=>nomatch z))];exact e
       have hlt:k<ts.length:=(KQ.mp htk).1
       refine⟨ts++[behind m.2.1 m.2.2 t],qs++[tq],_,_,_,_,_,rfl,aU s09 nwq0,by rw[ag,KS];rfl,L1 (Paired.cH hpq9 λ_ _ e=>up e) (up htq9),⟨?_,λt' ht'=>?_,Lr _ oq.st,by have:=oq.le;rw[KA];lia,λj t' hj hjt m' hm'=>?_⟩,by rw[Ls hlt];exact htk,addM (λx hx=>Lr _ hx) (λ_=>⟨c2,LG _ (KG.mpr rfl)⟩),by rw[Ls (by lia)];exact hqk,up hq9⟩
       ·refine LM.mpr ⟨oq.nd,by simp,λx hx y hy=>?_⟩
        rw[KG.mp hy]
        rintro rfl
        exact hb' hx
       ·rcases KW.mp ht' with z|z
        ·exact oq.inn t' z
        ·rw[KG.mp z]
         exact hst.next en.gi en.gn c2
       ·rw[Ls (by have:=oq.le;lia)]at hjt
        exact(oq.go j t' hj hjt m' hm').more λx hx=>Lr _ hx
   ·rintro σ H4 ⟨ts,qs,v4,v5,v6,v7,v8,rfl,s4,hqs,hpq,oq,htk,hgo,hqk,hq4⟩
    rw[Kw,<-KZ hpe,Le]at hgo
    have hk2:k<ts.length:=(KQ.mp htk).1
    have jk:=oq.jk hin
    refine⟨_,rfl,_,_,rfl,rfl,5000-(k+1),by lia,k+1,ts,_,_,_,_,_,by push_cast;rfl,s4,⟨qs,hqs,hpq⟩,⟨oq.nd,oq.inn,oq.st,hk2,λj t' hj hjt=>?_⟩,rfl⟩
    by_cases e:j=k
    ·subst e
     rw[htk]at hjt
     cases hjt
     exact hgo
    ·exact oq.go j t' (by lia) hjt
  ·rw[KU (show ¬((k:Nat):Int)<((ts.length:Nat):Int) by lia)]
   have ek:k=ts.length:=by have:=oq.le;lia
   subst ek
   exact bF (kk _ false s3 λ_=>oq.told hnn)
end Uf
end
section
namespace Uf
open PySem L2 UfSrt UfStr UfFin
abbrev Ck:Stmt:=top 55
abbrev pJ:Stmt:=top 56
def HG{α:Type}{p:α->Prop}{c:α->Prop}{_:∀x,Decidable (c x)}{A G:α->Prop}(ht:(∀y,p y->G y)->∀x,p x->A x)(key:∀y,p y->G y):∀x,p x->if c x then A x else G x:=λx hx=>uI (λ_=>ht key x hx) λ_=>key x hx
def J6{α β:Type}{c:Prop}{_:Decidable c}{A G p:α->β->Prop}(r:α->β->Prop)(hp:∀t z,¬c->p t z->r t z)(ht:(∀t z,r t z->G t z)->∀t z,p t z->A t z)(key:∀t z,r t z->G t z):∀t z,p t z->if c then A t z else G t z:=λt z hx=>uI (λ_=>ht key t z hx) λh=>key t z (hp t z h hx)
def oR{α β:Type}{R:α->β->Prop}{xs:List α}{ys:List β}(h:Paired R xs ys):∃zs:List (α×β),xs=zs.map (·.1)/\ys=zs.map (·.2)/\∀z∈zs,R z.1 z.2:=by
 induction h with
 |nil=>exact⟨[],rfl,rfl,λ_ h=>nomatch h⟩
 |cons h _ ih =>
  obtain⟨zs,rfl,rfl,k⟩:=ih
  exact⟨(_,_)::zs,rfl,rfl,λz hz=>(KR.mp hz).elim (λe=>by rw[e];exact h) (k z)⟩
def EM:Sp:=λvs H Q _=>∃n:Int,vs=[.int n]/\∀H' x,aq H H'->isNm x=true->Q (.str x) H'
def BB:aD ["_law_number", "_law_letters"] ["_law_number"] (ar Ck):=eA
def Fg:("abcdefghijklmnopqrstuvwxyz":Str).cps.toList.length=26:=by decide +kernel
def HV:∀i<26,97<=("abcdefghijklmnopqrstuvwxyz":Str).cps.toList.getD i 0/\("abcdefghijklmnopqrstuvwxyz":Str).cps.toList.getD i 0<=122:=by decide +kernel
def Fn{f:Addr}{fd:FuncData}(F:dj K "_law_move_name" "_law_move_name" Ck f fd):a9 P w K mg base cR 1 f fd ["_law_number"] EM:=by
 refine F.oK BB λcdv A outer s H vs Q E hr h=>?_
 ·obtain⟨n,rfl,kk⟩:=h
  have hsl:=Lg
  refine⟨_,af (cD 1 BB mT)
   (aj (aK (dt AY (c8 PySem.F.plainAttrs_str PySem.F.slot_str_join PySem.F.type_str_join Cr mT (aa (bB (N:=["_law_by", "_law_letters", "_law_number"]) (n:=1) (ci:=[1,0]) rfl (aL (bz (aa ak (aa ak (aa ak ae))))) (iO BB) (λz=>⟨g0 0,bD,aM uR (pv 1) (az bY (az cA (pv 2) (pv 0)) ak) (λ_ _=>rfl)⟩)) ae)) fY (dw (az cY ak (az bY (pv 0) ak)))))),?_⟩
  try dsimp only[bK,Cx.dP,Cx.bQ]
  have h3:∀b∈[(3:Int),78,2028],0<b/\b<1073741824:=by decide
  refine⟨rfl,by show 3<=sizeLine;lia,λa H1 na s1 ha=>⟨a,rfl,⟨_,aA.of ha⟩,λz D hD=>eF (zs:=[(3:Int),78,2028]) (v:=V.int) (F:=λb=>some (V.str ⟨#[("abcdefghijklmnopqrstuvwxyz":Str).cps.toList.getD (n / b % 26).toNat 0]⟩)) (aA.of ha) (by show 3<=sizeLine;lia) hD (λb hb H2 s2 no yes _ hyes=>?_) λH2 s2 hD2=>?_⟩⟩
  ·have:=h3 b hb
   refine⟨_,rfl,_,rfl,_,rfl,_,_,rfl,rfl,this,_,_,rfl,rfl,(by show(0:Int)<26;decide),_,_,_,rfl,rfl,(by show(26:Nat)<=sizeLine;lia),jA 0 (by lia) (by rw[Fg];lia),hyes _ rfl _ (aq.refl _)⟩
  ·generalize hg:(λb:Int=>("abcdefghijklmnopqrstuvwxyz":Str).cps.toList.getD (n / b % 26).toNat 0)=g
   have gok:∀b,97<=g b/\g b<=122:=λb=>by rw[<-hg];exact HV _ (by lia)
   have hD3:H2 D=some (.lst (aH [⟨#[g 3]⟩,⟨#[g 78]⟩,⟨#[g 2028]⟩])):=by rw[<-hg];exact hD2
   refine⟨"",D,[⟨#[g 3]⟩,⟨#[g 78]⟩,⟨#[g 2028]⟩],rfl,rfl,aA.of hD3,rfl,_,rfl,_,_,rfl,rfl,(by show(0:Int)<3;decide),_,_,rfl,rfl,_,rfl,_,rfl,(by show 3<=sizeLine;lia),?_⟩
   have h4:0<=n % 3/\n % 3<3:=by lia
   have e1:1+n % 3=(((1+n % 3).toNat:Nat):Int):=by lia
   have e2:=tu (Str.join "" [⟨#[g 3]⟩,⟨#[g 78]⟩,⟨#[g 2028]⟩]) (b:=(1+n % 3).toNat) (by show _<=3;lia)
   rw[<-e1,show(Str.join "" [⟨#[g 3]⟩,⟨#[g 78]⟩,⟨#[g 2028]⟩]).cps.toList=[g 3,g 78,g 2028] from rfl]at e2
   refine kk H2 _ (s1.trans s2) (EJ ?_ ?_ ?_)
   ·rw[e2,La]
    show 1<=min _ 3
    lia
   ·rw[e2,La]
    show min _ 3<=8
    lia
   ·rw[e2]
    intro x hx
    have:=L0 hx
    simp only[KR,Lx,Mi]at this
    rcases this with rfl|rfl|rfl <;> exact gok _
def pM:aD ["_law_cell", "_law_k", "_law_number"] ["_law_cell", "_law_k"] (ar pJ):=eA
def xq:Sp:=λvs H Q _=>∃(c:Int) (k:Nat),vs=[.int c,.int k]/\k<=1000/\∀z,Q (.int z) H
def Ai{f:Addr}{fd:FuncData}(F:dj K "_law_mixed" "_law_mixed" pJ f fd):a9 P w K mg base cR 1 f fd ["_law_cell", "_law_k"] xq:=by
 refine F.oK pM λcdv A outer s H vs Q E hr h=>?_
 ·obtain⟨c,k,rfl,hk,kk⟩:=h
  refine⟨_,af (cD 2 pM (az bY (az cY (az cY (az fC (pv 0) ak) (az fC (az fC (pv 1) (pv 1)) ak)) ak) ak))
   (af (cD 2 pM (az bY (az fC (pv 2) (pv 2)) ak))
   (aj (aK (az gf (pv 2) (az bY (az fC (pv 2) ak) ak))))),?_⟩
  try dsimp only[bK,Cx.dP,Cx.bQ]
  refine⟨_,rfl,_,_,rfl,rfl,.inr ⟨by decide,by decide⟩,_,rfl,_,rfl,_,_,rfl,rfl,.inl ⟨by lia,by lia⟩,_,_,rfl,rfl,.inr ⟨by decide,by decide⟩,_,_,rfl,rfl,_,_,rfl,rfl,_,_,rfl,rfl,(by show(0:Int)<2147483647;decide),?_⟩
  generalize c*48271+(k:Int)*(k:Int)*69621+11=u
  have u0:0<=u % 2147483647/\u % 2147483647<2147483647:=by lia
  generalize u % 2147483647=x at u0
  refine⟨_,rfl,_,rfl,_,_,rfl,rfl,.inl ⟨by lia,by lia⟩,_,_,rfl,rfl,(by show(0:Int)<2147483629;decide),?_⟩
  generalize x*x=y
  have y0:0<=y % 2147483629/\y % 2147483629<2147483629:=by lia
  generalize y % 2147483629=z at y0
  exact⟨_,rfl,_,rfl,_,_,rfl,rfl,.inr ⟨by decide,by decide⟩,_,_,rfl,rfl,(by show(0:Int)<2147483587;decide),_,_,rfl,rfl,kk _⟩
end Uf
end
section
namespace Uf
open PySem L2 UfSrt UfFin
abbrev xt:Stmt:=top 57
abbrev p9:Stmt:=top 58
def pick(L:List Str)(c:Nat->Bool):List Str:=((List.range 7).filter c).map λk=>L.getD k ""
def lQ{L:List Str}(hl:L.length=7)(c:Nat->Bool):∀x∈pick L c,x∈L:=λx hx=>by
 obtain⟨k,hk,rfl⟩:=K0.mp hx
 have:k<L.length:=by rw[hl];exact Ly.mp (K1.mp hk).1
 rw[KN,Kx this]
 exact Mr this
def qG{L:List Str}(hl:L.length=7)(hn:L.Nodup)(c:Nat->Bool):(pick L c).Nodup:=by
 refine Nf.mpr ((Nl.filter _).imp_of_mem λ{a b} ha hb n e=>n ?_)
 have h1:a<L.length:=by rw[hl];exact Ly.mp (K1.mp ha).1
 have h2:b<L.length:=by rw[hl];exact Ly.mp (K1.mp hb).1
 rw[KN,Kx h1,KN,Kx h2]at e
 exact(Oz hn).mp e
def oC{L:List Str}(hl:L.length=7)(hn:L.Nodup)(c d:Nat->Bool){tk:List Str}(ht:(tk=(pick L c).take 4/\tk≠[])\/∃x∈L,tk=[x]):oI L tk ((pick L d).take 4):=by
 have g4:((pick L d).take 4).length<=4:=by rw[La];exact NW _ _
 have gn:=(qG hl hn d).sublist (Ny 4 _)
 have gi:∀x∈(pick L d).take 4,x∈L:=λx hx=>lQ hl d x (L0 hx)
 rcases ht with⟨rfl,ne⟩|⟨x,hx,rfl⟩
 ·exact⟨(qG hl hn c).sublist (Ny 4 _),λx hx=>lQ hl c x (L0 hx),Qy.mpr ne,by rw[La];exact NW _ _,gn,gi,g4⟩
 ·exact⟨by simp,λy hy=>by rw[KG.mp hy];exact hx,KL _,by show 1<=4;decide,gn,gi,g4⟩
def Bx(S:List Str):UfBfs.Told (graph []) (aI S) none:=j8 .nil (λ_=>True) trivial (λ_ _ _ _ _ _=>trivial) λ_ _ _ h=>nomatch h
def cm:aD ["_law_script", "_law_most", "_law_naming", "_law_names", "_law_start", "_law_moves", "_law_rest", "_law_at", "_law_number", "_law_name_here", "_law_ways", "_law_takes", "_law_gives", "_law_more"] ["_law_script", "_law_most"] (ar xt):=eA
inductive FrI(H:Hp)(a nl st:Addr)(nm:Int)(L S:List Str)(i:Nat)(σ:St)(H2:Hp):Prop
 |mk (mv:Addr) (re:Int) (v7 v8 v9 v10 v11 v12 v13:Option V) (ms:List Mv) (q0:σ=[some (.ref a),some (.int 8),some (.int nm),some (.ref nl),some (.ref st),some (.ref mv),some (.int re),v7,v8,v9,v10,v11,v12,v13]) (q1:aq H H2) (q2:ve H2 mv ms) (q3:∀x∈names ms,isNm x=true) (q3':(names ms).Nodup) (q4:ms.length<=i) (q5:CF L ms) (q6:UfBfs.Told (graph ms) (aI S) none)
def Dx{f:Addr}{fd:FuncData}(F:dj K "_law_free" "_law_free" xt f fd)(T:Txt K mg)(T2:Txt2 mg)
  (DC:gI P w K mg base "_law_cell_at" pd ["_law_script", "_law_k"] 1 (qI K))
  (DN:gI P w K mg base "_law_name" sZ ["_law_cell", "_law_k"] 1 uh)
  (DM:gI P w K mg base "_law_move_name" Ck ["_law_number"] 1 EM)
  (DX0:gI P w K mg base "_law_mixed" pJ ["_law_cell", "_law_k"] 1 xq)
  (DX:gI P w K mg base "_law_crowds" k8 ["_law_moves", "_law_start"] 1 (q9 K)) :
  a9 P w K mg base cR 2 f fd ["_law_script", "_law_most"] (iJ K):=by
 refine F.oK cm λcdv A outer s H vs Q E hr h=>?_
 ·obtain⟨a,ns,rfl,ha,hz,kk⟩:=h
  have hsl:=Lg
  have hr1:cI 1 _:=hr
  have hu:=eZ hr
  refine⟨_,(af (cD 2 cm (e7 DC hr1 (aa (pv 0) (aa ak ae))))
    (af (cD 3 cm (bB (N:=["_law_k", "_law_naming"]) (n:=1) (ci:=[2]) rfl (cu rfl T2.rng (aa ak ae)) (iO cm) (λz=>⟨g0 0,bD,e7 DN hr1 (aa (pv 1) (aa (pv 0) ae))⟩)))
    (af (fX (j:=4) (N:=["_law_k", "_law_names", "_law_script"]) (n:=1) (ci:=[3,0]) rfl cm.nd rfl rfl (cu rfl T2.rng (aa ak ae)) (iO cm) (λz=>⟨g0 0,fg (a8 hX (az gf (az lK (az cA (e7 DC hr1 (aa (pv 2) (aa ak ae))) ak) (pv 0)) ak) ak (bC _)),aM aE (pv 1) (pv 0) (λ_ _=>rfl)⟩))
    (af (cD 5 cm (bz ae))
    (af (cD 6 cm (az cA (pv 2) ak))
    (af (bo K7 rfl (lI rfl T2.enm (aa (dt fQ (pv 0) (dw ak) (dw (az cY ak (pv 1)))) ae)) (dQ rfl (aV (eu 7 cm) (aV (eu 8 cm) cZ)))
   (af (cD 9 cm (e7 DM hr1 (aa (pv 6) ae)))
    (af (bO (a8 gA (pv 6) (dR (aa ak (aa (zR vw ak) ae))) (by with_unfolding_all rfl)) (aj (cD 9 cm (e7 DN hr1 (aa (az cY (pv 2) ak) (aa (az cY ak (pv 7)) ae))))) aX)
    (af (cD 6 cm (az cA (pv 6) ak))
    (af (bO (a8 gA (az cA (pv 8) ak) (dR (aa ak (aa (zR vw ak) ae))) (by with_unfolding_all rfl)) (aj (cD 8 cm (e7 DX0 hr1 (aa (pv 8) (aa (pv 7) ae))))) aX)
    (af (cD 10 cm (bB (N:=["_law_k", "_law_number"]) (n:=1) (ci:=[8]) rfl (cu rfl T2.rng (aa ak ae)) (iO cm) (λz=>⟨g0 0,bD,az gf (az lK (pv 1) (az fC ak (pv 0))) ak⟩)))
    (af (cD 11 cm (dt fQ (bB (N:=["_law_k", "_law_names", "_law_ways"]) (n:=1) (ci:=[3,10]) rfl (cu rfl T2.rng (aa ak ae)) (iO cm) (λz=>⟨g0 0,fg (a8 hX (az bY (aM aE (pv 2) (pv 0) (λ_ _=>rfl)) ak) ak (bC _)),aM aE (pv 1) (pv 0) (λ_ _=>rfl)⟩)) fY (dw ak)))
    (af (cD 12 cm (dt fQ (bB (N:=["_law_k", "_law_names", "_law_ways"]) (n:=1) (ci:=[3,10]) rfl (cu rfl T2.rng (aa ak ae)) (iO cm) (λz=>⟨g0 0,fg (a8 AD (aM aE (pv 2) (pv 0) (λ_ _=>rfl)) ak (bC _)),aM aE (pv 1) (pv 0) (λ_ _=>rfl)⟩)) fY (dw ak)))
    (af (bO (a8 eq_nil (pv 11) (bz ae) (bC _)) (aj (cD 11 cm (bz (aa (aM aE (pv 3) (az bY (pv 8) ak) (λ_ _=>rfl)) ae)))) aX)
    (af (cD 13 cm (az jf (pv 5) (bz (aa (dR (aa (pv 9) (aa (pv 11) (aa (pv 12) ae)))) ae))))
    (aj (bO (PW.pt (pw_and (a8 dc (pv 9) (bB (N:=["_law_move"]) (n:=1) (ci:=[]) rfl (aL (pv 5)) (iO cm) (λz=>⟨g0 0,bD,aM dF (pv 0) ak (λ_ _=>rfl)⟩)) (by with_unfolding_all rfl)) (pw_and1 (c9 (cG (e7 DX hr1 (aa (pv 13) (aa (pv 4) ae)))))))) (aj (cD 5 cm (pv 13))) aX))))))))))))
    (aj (aK (dR (aa (pv 5) (aa (pv 4) ae))))))))))),?_⟩
  have cell:∀{H':Hp},aq H H'->aA K H' a (ns.map V.int):=λs=>s.seq ha
  refine⟨_,rfl,a,ns,1,rfl,ha,hz,?_⟩
  generalize ns.getD 1 0=nm
  refine⟨_,rfl,by decide,by decide,λz D1 hD1=>fE (m:=7) (F:=λk=>some (V.str (jc nm k))) (by lia) hD1 (λk hk H3 s3 no yes _ hyes=>⟨_,rfl,_,rfl,nm,k,rfl,by lia,hyes _ rfl _ (aq.refl _)⟩) λH1 s1 hn1=>?_⟩
  rw[filterMap_some,show((List.range 7).map λk=>V.str (jc nm k))=aH (wu nm 7) by unfold wu aH;rw[List.map_map];rfl]at hn1
  have uL:=jh nm (n:=7) (by decide)
  have lL:=kX nm 7
  have nL:=cV uL
  generalize wu nm 7=L at hn1 uL lL nL
  have atL:∀{k:Nat},k<7->tY (aH L) (k:Int)=some (.str (L.getD k "")):=λ{k} hk=>by
   have:=kS (xs:=L) (i:=(k:Int)) (by lia) (by lia)
   rwa[LI]at this
  generalize hcb:(λk:Nat=>decide (V.int (PySem.Builtin.bitAnd (ns.getD 2 0 / 2 / 2 ^ ((k:Nat):Int).toNat) 1)=V.int 1))=cb
  refine⟨_,rfl,by decide,by decide,λz D2 hD2=>fE (m:=7) (F:=λk=>if cb k then some (V.str (L.getD k "")) else none) (by lia) hD2 (λk hk H3 s3 no yes hno hyes=>?_) λH2 s2 hs2=>?_⟩
  ·refine⟨_,rfl,a,ns,2,rfl,cell (s1.trans s3),hz,_,_,rfl,rfl,⟨by decide,by decide⟩,_,rfl,_,_,rfl,rfl,(by lia),_,_,rfl,rfl,rfl,_,rfl,?_⟩
   have ec:decide (V.int (PySem.Builtin.bitAnd (ns.getD 2 0 / 2 / 2 ^ ((k:Nat):Int).toNat) 1)=V.int 1)=cb k:=by rw[<-hcb]
   rw[ec]
   cases c:cb k with
   |true=>exact cv ⟨_,rfl,_,rfl,D1,_,_,_,rfl,rfl,aA.of (s3 _ _ hn1),atL hk,hyes _ (by rw[c];rfl) _ (aq.refl _)⟩
   |false=>exact bF (hno (by rw[c];rfl) _ (aq.refl _))
  have epk:∀c:Nat->Bool,(List.range 7).filterMap (λk=>if c k then some (V.str (L.getD k "")) else none)=aH (pick L c):=λc=>by rw[fb];unfold pick aH;rw[List.map_map];rfl
  rw[epk]at hs2
  have Sn:=qG lL nL cb
  have SL:=lQ lL cb
  generalize pick L cb=S at hs2 Sn SL
  refine⟨K2 _,λmv H3 nmv s3 hmv=>?_⟩
  have s03:=s1.trans (s2.trans s3)
  refine⟨_,rfl,_,_,rfl,rfl,⟨by decide,by decide⟩,_,rfl,_,rfl,_,rfl,_,_,rfl,rfl,_,rfl,a,_,rfl,cell s03,λq3 n3=>?_⟩
  have e3:hC (ns.map V.int) (some (3:Int)) (some (3+8:Int))=((ns.drop 3).take 8).map V.int:=by rw[show(3:Int)=((3:Nat):Int) from rfl,show((3:Nat):Int)+8=((11:Nat):Int) from rfl,Ew,Ox,Qu]
  rw[e3]
  have lcs:((ns.drop 3).take 8).length<=8:=by rw[La];exact NW _ _
  generalize (ns.drop 3).take 8=cs at lcs
  obtain⟨H6,eU,s4,hq3⟩:=oh n3 (.lst (cs.map V.int))
  rw[eU]
  have s26:=s3.trans s4
  have s06:=s03.trans s4
  refine⟨q3,rfl,⟨_,aA.of hq3⟩,jo (K:=K) (a:=q3) (xs:=cs.map V.int) (FrI H6 a D1 D2 nm L S) ⟨mv,_,none,none,none,none,none,none,none,[],rfl,aq.refl _,⟨[],s4 _ _ hmv,.nil⟩,(λ_ h=>nomatch h),.nil,KL _,⟨nL,by lia,(λ_ h=>nomatch h)⟩,Bx S⟩ (λi σ H2 _ h=>by obtain⟨_,_,_,_,_,_,_,_,_,_,_,b,_⟩:=h;exact aA.of (b _ _ hq3)) ?_ ?_⟩
  ·rintro i v p σ H7 hi ⟨mv,re,v7,v8,v9,v10,v11,v12,v13,ms,rfl,s7,mvs,hnm,hnd,lms,hin,told⟩ np
   obtain⟨n,hn,rfl⟩:=ints_get hi
   have il:=(KQ.mp hn).1
   have sp:aq H7 (upd H7 p (.tup [.int (i:Int),.int n])):=ao np
   refine⟨p,_,rfl,bX.of ag,rfl,_,_,rfl,_,_,rfl,rfl,?_⟩
   generalize upd H7 p (.tup [.int (i:Int),.int n])=H8 at sp ⊢
   refine⟨_,rfl,re,rfl,λH9 x s9 hx=>⟨_,rfl,_,rfl,by show 2<=sizeLine;lia,λp2 Ha np2 sa hp2=>⟨p2,_,rfl,.inr (bX.of hp2),rfl,rfl,_,rfl,?_⟩⟩⟩
   show if _ then _ else _
   revert x
   refine HG (λkey x _=>⟨_,rfl,_,_,rfl,rfl,_,rfl,_,_,rfl,rfl,nm+5,8+i,rfl,by lia,key _ (wF _ _)⟩) λnh hnh=>?_
   refine⟨_,rfl,_,_,rfl,rfl,⟨by decide,by decide⟩,_,rfl,_,_,rfl,rfl,⟨by decide,by decide⟩,_,rfl,by show 2<=sizeLine;lia,λp3 Hb np3 sb hp3=>⟨p3,_,rfl,.inr (bX.of hp3),rfl,rfl,_,rfl,?_⟩⟩
   show if _ then _ else _
   have hT:n=n:=rfl
   clear hn hi
   revert n
   refine HG (λkey n _=>⟨_,rfl,_,rfl,n,i,rfl,by lia,λz=>key z rfl⟩) λn2 _=>?_
   have s7b:=sp.trans (s9.trans (sa.trans sb))
   have hnb:=(s26.trans (s7.trans s7b)) _ _ (s2 _ _ hn1)
   refine⟨_,rfl,by decide,by decide,λz D3 hD3=>fE (m:=7) (F:=λk=>some (V.int (PySem.Builtin.bitAnd (n2 / 2 ^ ((2:Int)*(k:Nat)).toNat) 3))) (by lia) hD3 (λk hk Hx sx no yes _ hyes=>⟨_,rfl,_,rfl,_,_,rfl,rfl,.inl ⟨by decide,by decide⟩,_,_,rfl,rfl,by lia,_,_,rfl,rfl,hyes _ rfl _ (aq.refl _)⟩) λHc sc hw=>?_⟩
   rw[filterMap_some,show((List.range 7).map λk=>V.int (PySem.Builtin.bitAnd (n2 / 2 ^ ((2:Int)*(k:Nat)).toNat) 3))=((List.range 7).map λk=>PySem.Builtin.bitAnd (n2 / 2 ^ ((2:Int)*(k:Nat)).toNat) 3).map V.int by rw[Lk];rfl]at hw
   have lw:((List.range 7).map λk=>PySem.Builtin.bitAnd (n2 / 2 ^ ((2:Int)*(k:Nat)).toNat) 3).length=7:=by rw[Kw,LV]
   generalize ((List.range 7).map λk=>PySem.Builtin.bitAnd (n2 / 2 ^ ((2:Int)*(k:Nat)).toNat) 3)=ws at hw lw
   have hnc:=sc _ _ hnb
   generalize hc1:(λk:Nat=>decide (V.int (ws.getD k 0 % 2)=V.int 1))=c1
   refine⟨_,rfl,by decide,by decide,λz D4 hD4=>fE (m:=7) (F:=λk=>if c1 k then some (V.str (L.getD k "")) else none) (by lia) hD4 (λk hk Hx sx no yes hno hyes=>?_) λHd sd hkd=>?_⟩
   ·refine⟨_,rfl,_,rfl,D3,_,_,_,rfl,rfl,aA.of (sx _ _ hw),mE (by lia),_,_,rfl,rfl,(by show(0:Int)<2;decide),rfl,_,rfl,?_⟩
    rw[show decide (V.int (ws.getD k 0 % 2)=V.int 1)=c1 k by rw[<-hc1]]
    cases c:c1 k with
    |true=>exact cv ⟨_,rfl,_,rfl,D1,_,_,_,rfl,rfl,aA.of (sx _ _ hnc),atL hk,hyes _ (by rw[c];rfl) _ (aq.refl _)⟩
    |false=>exact bF (hno (by rw[c];rfl) _ (aq.refl _))
   rw[epk]at hkd
   refine⟨_,rfl,D4,_,rfl,aA.of hkd,λq nq=>?_⟩
   rw[show hC (aH (pick L c1)) none (some (4:Int))=aH ((pick L c1).take 4) from EK _ 4]
   generalize hp1:(pick L c1).take 4=tk
   obtain⟨He,eU,se,hqe⟩:=oh nq (.lst (aH tk))
   rw[eU]
   have sce:=sd.trans se
   have hwe:=sce _ _ hw
   have hne:=sce _ _ hnc
   generalize hc2:(λk:Nat=>decide (1<ws.getD k 0))=c2
   refine⟨_,rfl,by decide,by decide,λz D5 hD5=>fE (m:=7) (F:=λk=>if c2 k then some (V.str (L.getD k "")) else none) (by lia) hD5 (λk hk Hx sx no yes hno hyes=>?_) λHf sf hkf=>?_⟩
   ·refine⟨_,rfl,_,rfl,D3,_,_,_,rfl,rfl,aA.of (sx _ _ hwe),mE (by lia),_,_,rfl,rfl,_,rfl,?_⟩
    rw[show decide (1<ws.getD k 0)=c2 k by rw[<-hc2]]
    cases c:c2 k with
    |true=>exact cv ⟨_,rfl,_,rfl,D1,_,_,_,rfl,rfl,aA.of (sx _ _ hne),atL hk,hyes _ (by rw[c];rfl) _ (aq.refl _)⟩
    |false=>exact bF (hno (by rw[c];rfl) _ (aq.refl _))
   rw[epk]at hkf
   refine⟨_,rfl,D5,_,rfl,aA.of hkf,λg ng=>?_⟩
   rw[show hC (aH (pick L c2)) none (some (4:Int))=aH ((pick L c2).take 4) from EK _ 4]
   generalize hp2:(pick L c2).take 4=gv
   obtain⟨Hg,eU,sg,hgg⟩:=oh ng (.lst (aH gv))
   rw[eU]
   have seg:=sf.trans sg
   have hqg:=seg _ _ hqe
   refine⟨_,rfl,K2 _,λe Hh ne sh he=>⟨q,e,_,rfl,rfl,hr.zQ,aA.of (sh _ _ hqg),aA.of he,_,rfl,?_⟩⟩
   have n7:0<=n2 % 7/\n2 % 7<7:=by lia
   have l7:(n2 % 7).toNat<L.length:=by lia
   have s7h:=s7b.trans (sc.trans (sce.trans seg))
   show if _ then _ else _
   have pk:aq Hg Hh/\Hh q=some (.lst (aH tk)):=⟨sh,sh _ _ hqg⟩
   clear he sh hqg hqe se nq
   generalize q=qq at pk ⊢
   generalize Hh=HH at pk ⊢
   revert qq HH
   refine J6 (λt H'=>aq Hg H'/\∃tw,H' t=some (.lst (aH tw))/\oI L tw gv) (λt H' c pk=>⟨pk.1,tk,pk.2,by
     rw[<-hp2]
     exact oC lL nL _ _ (.inl ⟨hp1.symm,λz=>c (by rw[z];rfl)⟩)⟩) (λkey q Hh pk=>?_) λt Hi ⟨si,tw,htw,ends⟩=>?_
   ·refine⟨_,rfl,_,rfl,_,_,rfl,rfl,(by show(0:Int)<7;decide),D1,_,_,_,rfl,rfl,aA.of ((seg.trans pk.1) _ _ hne),kS (by lia) (by lia),by show 1<=sizeLine;lia,λtq Hi ntq si htq=>key tq Hi ⟨pk.1.trans si,[L.getD (n2 % 7).toNat ""],htq,?_⟩⟩
    rw[<-hp2]
    exact oC lL nL (λ_=>true) _ (.inr ⟨_,by rw[KN,Kx l7];exact Mr l7,rfl⟩)
   have s7i:=s7h.trans si
   have hgi:=si _ _ hgg
   obtain⟨qs,hqs,hpq⟩:=mvs.same s7i
   have lq:=KZ hpq
   refine⟨_,rfl,_,rfl,_,rfl,_,rfl,by show 3<=sizeLine;lia,λtt Hj _ sj htt=>⟨by show 1<=sizeLine;lia,λll Hk _ sk hll=>⟨mv,ll,_,_,rfl,rfl,(sj.trans sk) _ _ hqs,hll,by rw[Kw];show qs.length+1<=_;lia,λmo nmo=>?_⟩⟩⟩
   have sl:=(sj.trans sk).trans (ao (o:=.lst (qs.map V.ref++[V.ref tt])) nmo)
   have hmo:(upd Hk mo (.lst (qs.map V.ref++[V.ref tt]))) mo=some (.lst ((qs++[tt]).map V.ref)):=by rw[ag,KS];rfl
   have htt':=(sk.trans (ao (o:=.lst (qs.map V.ref++[V.ref tt])) nmo)) _ _ htt
   generalize upd Hk mo (.lst (qs.map V.ref++[V.ref tt]))=Hl at sl hmo htt' ⊢
   have mv2:ve Hl mo (ms++[(nh,tw,gv)]):=⟨_,hmo,L1 (Paired.cH hpq λ_ _=>nR.same sl) ⟨_,_,htt',sl _ _ htw,sl _ _ hgi⟩⟩
   have in2:CF L (ms++[(nh,tw,gv)]):=⟨nL,by lia,λm hm=>by
    rcases KW.mp hm with z|z
    ·exact hin.e m z
    ·rw[KG.mp z]
     exact ends⟩
   have en2:names (ms++[(nh,tw,gv)])=names ms++[nh]:=by
    unfold names
    rw[KS]
    rfl
   have s7l:=s7i.trans sl
   obtain⟨zs,rfl,rfl,hzs⟩:=oR hpq
   have hqs':aA K Hl mv (zs.map λz=>V.ref z.2):=aA.of (by rw[sl _ _ hqs,Lk];rfl)
   refine⟨_,rfl,_,rfl,mv,rfl,⟨_,hqs'⟩,λz D6 hD6=>eF (zs:=zs) (F:=λz=>some (V.str z.1.1)) hqs' (by rw[Kw]at lms;lia) hD6 (λz hz Hx sx no yes _ hyes=>?_) λHm sm hkm=>?_⟩
   ·obtain⟨_,_,e1,_⟩:=hzs z hz
    exact⟨_,rfl,z.2,_,0,_,rfl,rfl,bX.of (sx _ _ (sl _ _ e1)),aF (j:=0) rfl,hyes _ rfl _ (aq.refl _)⟩
   rw[filterMap_some,show(zs.map λz=>V.str z.1.1)=aH (names (zs.map (·.1))) by unfold names aH;rw[List.map_map,List.map_map];rfl]at hkm
   have s7m:=s7l.trans sm
   refine⟨D6,_,rfl,.inl (aA.of hkm),rfl,dI _,?_⟩
   rw[ic]
   refine⟨_,rfl,?_⟩
   by_cases c:nh∈names (zs.map (·.1))
   ·rw[KC c]
    exact bF (bF ⟨mv,_,_,_,_,_,_,_,_,_,rfl,s7.trans s7m,mvs.same s7m,hnm,hnd,by lia,hin,told⟩)
   rw[KU c]
   have nd2:(names (zs.map (·.1)++[(nh,tw,gv)])).Nodup:=by
    rw[en2]
    exact LM.mpr ⟨hnd,by simp,λa ha b hb=>by rw[KG.mp hb];rintro rfl;exact c ha⟩
   refine cv ⟨_,rfl,_,rfl,mo,D2,L,S,_,rfl,mv2.same sm,in2,nd2,aA.of ((s26.trans (s7.trans s7m)) _ _ hs2),Sn,SL,λHj r sj hr'=>⟨_,rfl,?_⟩⟩
   have s7j:=s7m.trans sj
   cases r with
   |true=>exact bF ⟨mv,_,_,_,_,_,_,_,_,_,rfl,s7.trans s7j,mvs.same s7j,hnm,hnd,by lia,hin,told⟩
   |false=>exact cv ⟨_,rfl,mo,_,_,_,_,_,_,_,_,_,rfl,s7.trans s7j,mv2.same (sm.trans sj),λx hx=>by
     rw[en2]at hx
     rcases KW.mp hx with z|z
     ·exact hnm x z
     ·rw[KG.mp z]
      exact hnh,nd2,by rw[KA];show _+1<=_;lia,in2,hr' rfl⟩
  ·rintro σ H7 ⟨mv,re,v7,v8,v9,v10,v11,v12,v13,ms,rfl,s7,mvs,hnm,hnd,lms,hin,told⟩
   rw[Kw]at lms
   exact⟨_,rfl,_,rfl,by show 2<=sizeLine;lia,λt Hb nt sb ht=>kk Hb t mv D2 ms S (s06.trans (s7.trans sb)) ht (mvs.same sb) ((s26.trans (s7.trans sb)) _ _ hs2) (sX (L:=L) (by lia) (jY hnm hnd) uL (by lia) hin.e Sn SL) told⟩
def CJ:aD ["_law_script", "_law_most"] ["_law_script", "_law_most"] (ar p9):=eA
def zr{f:Addr}{fd:FuncData}(F:dj K "_law_parts" "_law_parts" p9 f fd)
  (DC:gI P w K mg base "_law_cell_at" pd ["_law_script", "_law_k"] 1 (qI K))
  (DR:gI P w K mg base "_law_rings" qO ["_law_script", "_law_most"] 2 (iJ K))
  (DF:gI P w K mg base "_law_free" xt ["_law_script", "_law_most"] 2 (iJ K)) :
  a9 P w K mg base cR 3 f fd ["_law_script", "_law_most"] (iJ K):=by
 refine F.oK CJ λcdv A outer s H vs Q E hr h=>?_
 ·obtain⟨a,ns,rfl,ha,hz,kk⟩:=h
  refine⟨_,af (bO (a8 hX (az bY (e7 DC (hr.mono (by decide)) (aa (pv 0) (aa ak ae))) ak) ak (bC _)) (aj (aK (e7 DF hr (aa (pv 0) (aa (pv 1) ae))))) aX)
   (aj (aK (e7 DR hr (aa (pv 0) (aa (pv 1) ae))))),?_⟩
  try dsimp only[bK,Cx.dP,Cx.bQ]
  refine⟨_,rfl,a,ns,2,rfl,ha,hz,_,_,rfl,rfl,(by show(0:Int)<2;decide),rfl,_,rfl,?_⟩
  exact uI (λ_=>⟨_,rfl,_,rfl,a,ns,rfl,ha,hz,kk⟩) λ_=>⟨_,rfl,_,rfl,a,ns,rfl,ha,hz,kk⟩
end Uf
end
section
namespace L2
open PySem PySem.Spec PyProof.Rows UfSrt
theorem bH{α β:Type}{F:α->β->Prop}:∀{l:List α} {m:List β} {i:Nat} {b:β},Paired F l m->m[i]?=some b->∃a,l[i]?=some a/\F a b
 |_,_,_,_,.nil,e=>by simp at e
 |_,_,0,_,.cons r _,e=>by
  simp at e
  subst e
  exact⟨_,rfl,r⟩
 |_,_,i+1,_,.cons _ t,e=>by
  obtain⟨a,h1,h2⟩:=bH (i:=i) t (by simpa using e)
  exact⟨a,by simpa using h1,h2⟩
section
variable {X:Cx}{pins:List (Addr×Obj)}{σ:St}{H:Hp}{s:Shared}
end
section
variable {X:Cx}{tg:Expr}
end
section
variable {n:Nat}{ci:List Nat}{g:TG}{tt:TT}{te:TE}{σ:St}{H:Hp}{D:Addr}{Q:VK}
end
end L2
end
section
namespace L2
open PySem PySem.Spec PyProof.Rows UfSrt
def Fv{xs:List V}{p:V->Bool}{i:Nat}{x:V}(h:xs.all p=true)(e:xs[i]?=some x):p x=true:=LS.mp h x (KJ e)
def iI{xs:List V}{us:List Value}(r:Vals xs us){i:Nat}{u:Value}(e:us[i]?=some u):∃x,xs[i]?=some x/\RelV x u:=by
 have hl:=r.length
 have hi:=(KQ.mp e).1
 have h1:xs[i]?=some xs[i]:=Kx (by lia)
 obtain⟨w,h2,h3⟩:=r.get h1
 rw[e]at h2
 cases h2
 exact⟨_,h1,h3⟩
section
variable {X:Cx}
inductive Alike(K:PySem.W.Frag)(H:Hp):V->V->Prop
 |flat {v:V}:eX v=true->Alike K H v v
 |tup {p q:Addr} {ts:List V}:bX K H p ts->bX K H q ts->ts.all eX=true->Alike K H (.ref p) (.ref q)
def tR{v:V}(h:eX v=true):pD v v=true:=by
 cases v <;> first|rfl|exact absurd (show false=true from h) Lb|(simp[pD])
def zJ{pins:List (Addr×Obj)}{s:Shared}{σ:St}{H:Hp}{A:Around}{x y:V}{u v:Value}(I:Inv X pins σ H s)(h:Alike X.K H x y)(rx:RelV x u)(ry:RelV y v)(hu:A.units<cLine):SeqAt.EqAt A s u v true:=by
 cases h with
 |flat f =>
  have:=ft (A:=A) (s:=s) rx ry f f
  rwa[tR f]at this
 |@tup p q ts h1 h2 f =>
  cases rx
  cases ry
  by_cases e:p=q
  ·subst e
   exact M7 _
  ·obtain⟨its,r1,p1,_⟩:=I.tuple h1
   obtain⟨its2,r2,p2,_⟩:=I.tuple h2
   have l1:=r1.length
   have l2:=r2.length
   have:=Nz (A:=A) (e:=λ_=>true) p1 p2 hu λj h1 h2=>by
    have h1':j<its.length:=by simpa using h1
    have h2':j<its2.length:=by simpa using h2
    obtain⟨w,e1,e2⟩:=iI r1 (Kx h1')
    obtain⟨w',e3,e4⟩:=iI r2 (Kx h2')
    rw[e1]at e3
    cases e3
    have fw:=Fv f e1
    have:=ft (A:=A.in1) (s:=s) e2 e4 fw fw
    rwa[tR fw]at this
   have e5:((List.range (min its.toArray.size its2.toArray.size)).all (λ_=>true)&&its.toArray.size==its2.toArray.size)=true:=by
    rw[K8,K8,<-l1,<-l2]
    simp
   rw[e5]at this
   exact .of_refs e this
def kJ{pins:List (Addr×Obj)}{s:Shared}{σ:St}{H:Hp}{A:Around}{xs ys:List V}{us vs:List Value}(I:Inv X pins σ H s)(h:Paired (Alike X.K H) xs ys)(rx:Vals xs us)(ry:Vals ys vs)(hu:A.units<cLine) :
  ∀j (h1:j<us.toArray.size) (h2:j<vs.toArray.size),SeqAt.EqAt A s us.toArray[j] vs.toArray[j] true:=λj h1 h2=>by
 have h1':j<us.length:=by simpa using h1
 have h2':j<vs.length:=by simpa using h2
 obtain⟨w,e1,e2⟩:=iI rx (Kx h1')
 obtain⟨w',e3,e4⟩:=iI ry (Kx h2')
 obtain⟨a,e5,e6⟩:=bH h e3
 rw[e1]at e5
 cases e5
 exact zJ I e6 e2 e4 hu
def E6(K:PySem.W.Frag)(b:Bool)(A:Around):R2:=λx y H Q=>∃p q xs ys,x=.ref p/\y=.ref q/\A.units+1<cLine/\aA K H p xs/\aA K H q ys/\Paired (Alike K H) xs ys/\Q (.bl b) H
def Aa:fZ X (compareOp .NotEq) (E6 X.K false X.A):=by
 intro pins s σ H x y v u Q I rx ry h
 obtain⟨p,q,xs,ys,rfl,rfl,hu,hp,hq,hal,k⟩:=h
 cases rx
 cases ry
 obtain⟨its,r1,p1,_⟩:=I.list hp
 obtain⟨its2,r2,p2,_⟩:=I.list hq
 have l1:=r1.length
 have l2:=r2.length
 have l3:=KZ hal
 refine O6 (e:=λ_=>true) p1.isList p2.isList (by simp;lia) (by lia) (kJ (A:=X.A.in1) I hal r1 r2 hu) X.prog X.w X.xe _ ⟨.bl false,H,I,?_,k⟩
 show Value.bool _=Value.bool false
 simp
theorem jd{K:PySem.W.Frag}{H:Hp}:∀{xs:List V},xs.all eX=true->Paired (Alike K H) xs xs
 |[],_=>.nil
 |x::xs,h=>by
  rw[Ov,Md]at h
  exact .cons (.flat h.1) (jd h.2)
end
end L2
end
section
namespace L2
open PySem PySem.Spec PyProof.Rows UfSrt Uf
section
variable {X:Cx}
def yd{pins:List (Addr×Obj)}{s:Shared}{σ:St}{H:Hp}{A:Around}{p q:Addr}{ts:List V}(I:Inv X pins σ H s)(h1:aA X.K H p ts)(h2:aA X.K H q ts)(f:ts.all eX=true)(hu:A.units+1<cLine):SeqAt.EqAt A s (.ref p) (.ref q) true:=by
 by_cases e:p=q
 ·subst e
  exact M7 _
 ·obtain⟨its,r1,p1,_⟩:=I.list h1
  obtain⟨its2,r2,p2,_⟩:=I.list h2
  have l1:=r1.length
  have l2:=r2.length
  have:=SeqAt.RcAt.lists (A:=A) (e:=λ_=>true) p1.isList p2.isList (by simp;lia) (by lia) (kJ (A:=A.in1) I (jd f) r1 r2 hu)
  rw[show((List.range its.toArray.size).all λ_=>true)=true by simp]at this
  exact .of_refs e this
end
end L2
end
section
namespace UfB
open PySem
def jt(x y:Nat):Builtin.bitAnd (x:Int) (y:Int)=((x &&& y:Nat):Int):=by
 unfold Builtin.bitAnd
 rw[KC (NY x),KC (NY y)]
 simp
def jb(x y:Nat):Builtin.bitOr (x:Int) (y:Int)=((x ||| y:Nat):Int):=by
 unfold Builtin.bitOr Builtin.bitAnd
 have h1:decide (0<=Builtin.bitNot (x:Int))=false:=decide_eq_false (by unfold Builtin.bitNot;lia)
 have h2:decide (0<=Builtin.bitNot (y:Int))=false:=decide_eq_false (by unfold Builtin.bitNot;lia)
 rw[h1,h2]
 have e1:(Builtin.bitNot (Builtin.bitNot (x:Int))).toNat=x:=by unfold Builtin.bitNot;lia
 have e2:(Builtin.bitNot (Builtin.bitNot (y:Int))).toNat=y:=by unfold Builtin.bitNot;lia
 show Builtin.bitNot (Builtin.bitNot _)=_
 rw[e1,e2]
 unfold Builtin.bitNot
 lia
def C4(x y:Nat)(h:x &&& y=y)(h2:x ||| y=x):Builtin.bitXor (x:Int) (y:Int)=(x:Int)-(y:Int):=by
 unfold Builtin.bitXor
 rw[jb,jt,h,h2]
def B9(r:Nat)(h:0<r):Builtin.bitAnd (r:Int) (-(r:Int))=((r:Int)-((r &&& (r-1):Nat):Int)):=by
 unfold Builtin.bitAnd
 rw[KC (NY r),KU (show ¬0<=-(r:Int) by lia)]
 have e:(Builtin.bitNot (-(r:Int))).toNat=r-1:=by unfold Builtin.bitNot;lia
 show(r:Int)-((_ &&& _:Nat):Int)=_
 rw[e,LI]
def Bo:∀r:Nat,0<r->∃k m,r=2 ^ k*(2*m+1):=λr=>by
 induction r using Nat.strongRecOn with
 |_ r ih =>
  intro h
  by_cases hp:r % 2=1
  ·exact⟨0,r / 2,by lia⟩
  ·obtain⟨k,m,e⟩:=ih (r / 2) (by lia) (by lia)
   refine⟨k+1,m,?_⟩
   rw[Nat.pow_succ,Nat.mul_comm (2 ^ k) 2,Nat.mul_assoc,<-e]
   lia
def pQ(m j:Nat):(2*m+1).testBit j=(if j=0 then true else m.testBit (j-1)):=by
 cases j with
 |zero=>simp
 |succ j=>simp[Nat.testBit_succ];congr 1;lia
def sS(m j:Nat):(2*m).testBit j=(if j=0 then false else m.testBit (j-1)):=by
 cases j with
 |zero=>simp
 |succ j=>simp[Nat.testBit_succ]
structure GV(r k:Nat):Prop where
 bit:r.testBit k=true
 low:∀j<k,r.testBit j=false
 clear:r &&& (r-1)=r-2 ^ k
 le:2 ^ k<=r
 rest:∀i,(r-2 ^ k).testBit i=(r.testBit i&&decide (i≠k))
def F1(r:Nat)(h:0<r):∃k,GV r k:=by
 obtain⟨k,m,e⟩:=Bo r h
 have hk:0<2 ^ k:=PZ k
 have er:r=2 ^ k*(2*m)+2 ^ k:=by rw[e,Nat.mul_add,Nat.mul_one]
 have b1:∀j,r.testBit j=if j<k then false else(2*m+1).testBit (j-k):=λj=>by
  have:=NL (2*m+1) hk j
  rw[QA,<-e]at this
  rw[this]
  simp
 have b2:∀j,(r-2 ^ k).testBit j=if j<k then false else(2*m).testBit (j-k):=λj=>by
  have e2:r-2 ^ k=2 ^ k*(2*m):=by lia
  have:=NL (2*m) hk j
  rw[QA,<-e2]at this
  rw[this]
  simp
 have b3:∀j,(r-1).testBit j=if j<k then true else(2*m).testBit (j-k):=λj=>by
  have e3:r-1=2 ^ k*(2*m)+(2 ^ k-1):=by lia
  rw[e3,NL (2*m) (by lia) j]
  split
  ·rename_i hj
   rw[M4]
   simp[hj]
  ·rfl
 refine⟨k,?_,λj hj=>?_,?_,by lia,λi=>?_⟩
 ·rw[b1,KD (LA k),Ob,pQ,KP rfl]
 ·rw[b1,KP hj]
 ·refine OQ λj=>?_
  rw[Nv,b1,b2,b3]
  by_cases hj:j<k
  ·simp[hj]
  ·rw[KD hj,KD hj,KD hj,pQ,sS]
   split <;> simp
 ·rw[b1,b2]
  by_cases hi:i<k
  ·simp[hi]
  ·rw[KD hi,KD hi,pQ,sS]
   by_cases e:i=k
   ·subst e
    simp
   ·have:¬i-k=0:=by lia
    simp[this,e]
def GV.or{r k:Nat}(h:GV r k):r ||| 2 ^ k=r:=OQ λj=>by
 rw[NJ,MS]
 by_cases e:k=j
 ·subst e
  simp[h.bit]
 ·simp[e]
def GV.and{r k:Nat}(h:GV r k):r &&& 2 ^ k=2 ^ k:=OQ λj=>by
 rw[Nv,MS]
 by_cases e:k=j
 ·subst e
  simp[h.bit]
 ·simp[e]
def mem(b:Nat):List Nat:=(List.range 256).filter λi=>b.testBit i
def mem_iff{b i:Nat}(h:b<2 ^ 256):i∈mem b↔b.testBit i=true:=by
 unfold mem
 rw[K1,Ly]
 refine⟨λz=>z.2,λz=>⟨?_,z⟩⟩
 refine OB λhi=>?_
 rw[MB (K4 h (LC (by decide) hi))]at z
 cases z
def zv:mem 0=[]:=by
 unfold mem
 refine L3.mpr λi _=>?_
 simp
def C1{r k:Nat}(h:GV r k)(hr:r<2 ^ 256):mem r=k::mem (r-2 ^ k):=by
 have hk:k<256:=(Nat.pow_lt_pow_iff_right (by decide:1<2)).mp (Lz h.le hr)
 unfold mem
 have e:List.range 256=List.range k++(k::(List.range (256-k-1)).map λi=>k+1+i):=by
  have e1:(256:Nat)=k+(1+(256-k-1)):=by lia
  conv=>lhs;rw[e1,Qk,Qk]
  simp[Lk,Function.comp_def,Nat.add_assoc]
 rw[e,Mb,Mb,Nk,Nk]
 have f1:(List.range k).filter (λi=>r.testBit i)=[]:=L3.mpr λi hi=>by
  rw[h.low i (Ly.mp hi)]
  simp
 have f2:(List.range k).filter (λi=>(r-2 ^ k).testBit i)=[]:=L3.mpr λi hi=>by
  rw[h.rest,h.low i (Ly.mp hi)]
  simp
 rw[f1,f2,h.bit,h.rest,h.bit]
 simp only[M9,Of]
 simp
 refine Pe λi hi=>?_
 obtain⟨j,_,rfl⟩:=K0.mp hi
 rw[h.rest,KC (show k+1+j≠k by lia),Qv]
def Dw(b:Nat):(mem b).length<=256:=by
 unfold mem
 refine Lh (LH _ _) ?_
 rw[LV]
 exact KL _
def Bq(k:Nat):Builtin.Int.intBits ((2 ^ k:Nat):Int)=k+1:=by
 unfold Builtin.Int.intBits
 have h:0<2 ^ k:=PZ k
 have e:(((2 ^ k:Nat):Int)==0)=false:=Me.mpr (by lia)
 rw[e,Int.natAbs_natCast,Nat.log2_two_pow]
 rfl
end UfB
end
section
namespace L2
open PySem PySem.Spec PyProof.Rows
section
variable {X:Cx}
def HZ:V->List V->Hp->VK->Prop:=λx vs H Q=>∃i:Int,x=.int i/\vs=[]/\Q (.int ((Builtin.Int.intBits i:Nat):Int)) H
def Dh:JZ X "int.bit_length" HZ:=by
 intro pins s σ H x vs v us Q I rx rv h
 obtain⟨i,rfl,rfl,q⟩:=h
 have hus:=rv.zero
 subst hus
 obtain⟨t,rfl⟩:=(show ∃t,v=Value.int i t from rx)
 exact call_int_bit_length ⟨.int _,H,I.tok _,⟨_,rfl⟩,q⟩
end
end L2
namespace Uf
open PySem L2 UfSrt UfB
abbrev xW:Stmt:=top 31
abbrev C8:Stmt:=top 32
abbrev hV:Stmt:=top 33
def nat(k:Nat):V:=.int (k:Int)
def nats(ks:List Nat):List V:=ks.map nat
def xy:Sp:=λvs H Q _=>∃n:Nat,vs=[nat n]/\n<256/\Q (nat (2 ^ n)) H
def Hw:aD ["number"] ["number"] (ar xW):=eA
def CK(n:Nat):(1:Int)*2 ^ ((n:Int)).toNat=((2 ^ n:Nat):Int):=by
 rw[Int.one_mul,LI]
 exact PyProof.Rows.two_pow_cast n
def FI{f:Addr}{fd:FuncData}(F:dj K "bit" "bit" xW f fd):a9 P w K mg base cR 1 f fd ["number"] xy:=by
 refine F.oK Hw λcdv A outer s H vs Q E hr h=>?_
 ·obtain⟨n,rfl,hn,k⟩:=h
  refine⟨_,aj (aK (az BM ak (pv 0))),?_⟩
  try dsimp only[bK,Cx.dP,Cx.bQ]
  refine⟨_,rfl,_,_,rfl,rfl,⟨by lia,by lia,by decide⟩,?_⟩
  have e:=CK n
  show Q (V.int ((1:Int)*2 ^ ((n:Int)).toNat)) H
  rw[e]
  exact k
def jV:Sp:=λvs H Q _=>∃b:Nat,vs=[nat b]/\b<2 ^ 256/\∀H' q,aq H H'->H q=none->H' q=some (.lst (nats (mem b)))->Q (.ref q) H'
def iC:aD ["bits", "numbers", "lowest"] ["bits"] (ar hV):=eA
inductive MbI(H:Hp)(r:Addr)(b0:Nat)(m:Nat)(σ:St)(H2:Hp):Prop
 |mk (b:Nat) (ks:List Nat) (v2:Option V) (q0:σ=[some (nat b),some (.ref r),v2]) (q1:aq H H2) (q2:H2 r=some (.lst (nats ks))) (q3:ks++mem b=mem b0) (q4:b<2 ^ 256) (q5:m=b)
def vI{f:Addr}{fd:FuncData}(F:dj K "members" "members" hV f fd):a9 P w K mg base cR 1 f fd ["bits"] jV:=by
 refine F.oK iC λcdv A outer s H vs Q E hr h=>?_
 ·obtain⟨b0,rfl,hb0,kk⟩:=h
  have hsl:=Lg
  refine⟨_,af (cD 1 iC (eQ ae))
   (af (mS K7 (sY (pv 0) (λ_=>rfl))
    (af (cD 2 iC (az gf (pv 0) (zR vw (pv 0))))
    (af (bj (c8 Lf Lc Ld bf (pv 1) (aa (az nK (E3 PySem.F.plainAttrs_int PySem.F.slot_int_bit_length PySem.F.type_int_bit_length Dh (pv 2)) ak) ae)))
    (aj (cD 0 iC (az FF (pv 0) (pv 2)))))))
   (aj (aK (pv 1)))),?_⟩
  try dsimp only[bK,Cx.dP,Cx.bQ]
  refine⟨K2 _,λr nr=>?_⟩
  have s1:aq H (upd H r (.lst [])):=ao nr
  refine⟨MbI H r b0,⟨_,b0,[],none,rfl,s1,ag,rfl,hb0,rfl⟩,?_⟩
  rintro b σ H2 ⟨_,ks,v2,rfl,sm,h2,e,hb,rfl⟩
  have lm:(ks++mem b).length<=256:=by rw[e];exact Dw b0
  rw[KA]at lm
  by_cases hz:b=0
  ·subst hz
   rw[zv,MM]at e
   refine⟨_,rfl,false,rfl,?_⟩
   refine bF ?_
   refine⟨_,rfl,kk _ r sm nr ?_⟩
   rw[h2,e]
  ·obtain⟨k,lo⟩:=F1 b (by lia)
   have hk:0<2 ^ k:=PZ k
   have ml:=C1 lo hb
   have ea:Builtin.bitAnd (b:Int) (-(b:Int))=((2 ^ k:Nat):Int):=by
    rw[B9 b (by lia),lo.clear]
    have:=lo.le
    lia
   have ex:Builtin.bitXor (b:Int) ((2 ^ k:Nat):Int)=((b-2 ^ k:Nat):Int):=by
    rw[C4 b (2 ^ k) lo.and lo.or]
    have:=lo.le
    lia
   refine⟨_,rfl,true,?_,?_⟩
   ·show true=((b:Int) != 0)
    symm
    rw[bne_iff_ne]
    lia
   refine cv ?_
   refine⟨λσ' H'=>∃m',m'<b/\MbI H r b0 m' σ' H',λσ' H' h=>h,?_⟩
   refine⟨_,rfl,_,rfl,_,rfl,_,_,rfl,rfl,?_⟩
   dsimp only[ix]
   rw[ea]
   refine⟨_,rfl,.inl ⟨rfl,_,aA.of h2⟩,_,rfl,rfl,_,rfl,rfl,_,_,rfl,rfl,r,_,_,rfl,rfl,h2,(by unfold nats;rw[List.length_map];lia),?_⟩
   dsimp only[ix]
   rw[Bq]
   refine⟨_,rfl,_,rfl,_,_,rfl,rfl,?_⟩
   dsimp only[ix]
   rw[ex]
   refine⟨b-2 ^ k,by lia,b-2 ^ k,ks++[k],_,rfl,aU sm nr,?_,?_,by lia,rfl⟩
   ·rw[ag]
    unfold nats nat
    rw[KS]
    congr 3
    show [V.int (((k+1:Nat):Int)-1)]=[V.int (k:Int)]
    congr 2
    lia
   ·rw[Mw,List.singleton_append,<-ml]
    exact e
end Uf
end
section
namespace PySem
def jU:typeLookup (.type "list") "keys"=pure none:=by rw[OG,NH];kernel_rfl
def qH{prog:Program}{w:World}{A:Around}{E:Value->Shared->Prop}{s:Shared}{a:Addr}{o:Obj}{xs:Array Value}{k:Nat}{Q:Option Value->Shared->Prop}
  (hx:s.heap.get? a=some o) (hc:o.cls=.type "list") (hdat:o.data=.seq xs k) (hd:o.dict=none) (hA:A.handled=none)
  (h:∀h' tk,(∀b o,s.heap.get? b=some o->h'.get? b=some o)->Q none { s with heap:=h',toks:=tk }) :
  wpAny (model prog w) A (getAttr? (.ref a) "keys") Q E s:=by
 obtain⟨c,dct,dat,sl⟩:=o
 simp only at hc hdat hd
 subst hc hdat hd
 obtain⟨hp,g,d,tk,os⟩:=s
 have hT:∀tk',(⟨hp,g,d,tk',os⟩:Shared).TypeIs (.ref a) "list":=λ_=>⟨_,hx,rfl⟩
 have f1:=sub_AttributeError
 have f3:=Oc.lookup
 have f4:=Oc.bind (.ref a)
 have f5:=am_list_getattr_none
 unfold getAttr? getAttrBy? getAttrBy
 repeat (any_goals (first|assumption|exact hT _|((with_reducible show wpAny _ _ (call (Value.builtin "list.__getattribute__") _ _) _ _ _);refine call_meets Oc (hT _) am_entry_list_getattribute (F.args_list_getattribute_2 _ _) (meets_getattribute_miss_list a xs k sl "keys" _ jU (by decide +kernel)) ⟨hx,hA,λh' tk' e hx'=>?_⟩)|wp_step))
 obtain⟨t',u',he⟩:=hx'.there
 show wpAny _ _ (getattributeRaised _ _ _ _ _ _ _) _ _ _
 unfold getattributeRaised
 repeat (any_goals (first|assumption|wp_step))
 all_goals exact h _ _ hx'.1
end PySem
end
section
namespace UfDp
open PySem PySem.Spec PyProof.Rows L2 UfSet
def dO:entryFor table "dict.update.loop"=some Builtin.«dict.update.loop»:=entryFor_of_tree (by kernel_rfl)
def ck:plainId "dict.update.loop"=true:=by decide +kernel
def putAll(acc:List (Key×Value))(ps:List (Str×Value)):List (Key×Value):=ps.foldl (λa p=>stored a (Sum.inr p.1) p.2) acc
def gk(h:Heap)(ps:List (Str×Value))(i:Nat)(v:Value):Prop:=∃q x t u,v=.ref q/\ps[i]?=some (x,u)/\IsTup h q #[.str x t,u]
section
variable {prog:Program}{w:World}{A:Around}{R:Result->Shared->Prop}{I:Addr}{fp wr:List Addr}{G:Array GenState->Array GenState->Prop}{St:Nat->Shared->Prop}
def pair_items{E:Value->Shared->Prop}{s:Shared}{q:Addr}{a b:Value}{Q:List Value->Shared->Prop}(ht:IsTup s.heap q #[a,b])(h:Q [a,b] s):wpAny (model prog w) A (Builtin.Dict.pairItems (.ref q)) Q E s:=by
 obtain⟨o,ho,hc,n,hd⟩:=ht
 unfold Builtin.Dict.pairItems
 refine Kv (OH (T:="tuple") ⟨o,ho,hc⟩ ?_)
 rw[KP (by decide)]
 unfold seqItems?
 refine Kv (Kv (wpAny_load ho ?_))
 rw[hd]
 exact Kz (Kz h)
def yP{h0:Heap}{ps:List (Str×Value)}(W:WalksS prog w A.in1 I fp wr G ps.length (gk h0 ps) St)(D:Addr)(hDf:D∉fp)(h0D:h0.get? D=none)(h0w:∀b∈wr,h0.get? b=none)(hb:ps.length<=1000) :
  ∀(k i:Nat) (t:Tok) (s:Shared) (acc:List (Key×Value)),ps.length-i=k->i<=ps.length->St i s->s.heap.DictOf (aR prog w) D acc->acc.length<=i->(∀b o,h0.get? b=some o->s.heap.get? b=some o) ->
  (∀s',Moved (D::wr) G s s'->s'.heap.DictOf (aR prog w) D (putAll acc (ps.drop i))->R (.ok (.ret .none)) s')->codeAny (model prog w) A (.builtin "dict.update.loop" ⟨[.ref D,.ref I,.int i t,.none],[]⟩) R s:=by
 have nSw:D∉wr:=λz=>hDf (W.sub _ z)
 have sub:∀b∈wr,b∈D::wr:=λb z=>K6 _ z
 intro k
 induction k with
 |zero =>
  intro i t s acc hk hi st hS ha h0s hR
  have e:i=ps.length:=by lia
  subst e
  refine L4 dO ?_
  rw[LQ ck _]
  show wpAny _ A.in1 (pyNext (.ref I) >>= _) _ _ s
  refine Kv (W.done s _ _ st λs' hm=>?_)
  show wpAny _ A.in1 (Builtin.Dict.addKeywords D [] >>= λ_=>ret Value.none) _ _ s'
  refine Kv (Kz (Kz (hR s' (hm.mono sub) ?_)))
  rw[LP (KL _)]
  obtain⟨o,es,ep,ho,r⟩:=hS
  exact⟨o,es,ep,hm.heap D _ nSw ho,r⟩
 |succ k ih =>
  intro i t s acc hk hi st hS ha h0s hR
  have hlt:i<ps.length:=by lia
  refine L4 dO ?_
  rw[LQ ck _]
  show wpAny _ A.in1 (pyNext (.ref I) >>= _) _ _ s
  refine Kv (W.item i s _ _ hlt st λv s' hP st' hm=>?_)
  obtain⟨q,x,tx,u,rfl,ex,ht⟩:=hP
  have h0s':∀b o,h0.get? b=some o->s'.heap.get? b=some o:=λb o e=>hm.heap b o (λz=>by rw[h0w b z]at e;cases e) (h0s b o e)
  have hS':s'.heap.DictOf (aR prog w) D acc:=by
   obtain⟨o,es,ep,ho,r⟩:=hS
   exact⟨o,es,ep,hm.heap D _ nSw ho,r⟩
  have ht':IsTup s'.heap q #[.str x tx,u]:=by
   obtain⟨o,ho,r⟩:=ht
   exact⟨o,h0s' _ _ ho,r⟩
  show wpAny _ A.in1 (holding [Value.ref q] _ >>= _) _ _ s'
  refine Kv (LY (Kv ?_))
  refine NK (pair_items ht' ?_)
  show wpAny _ A.in1 (holding [Value.str x tx,u] (dictSet D (.str x tx) u)) _ _ s'
  refine LY (wpAny_dictSet_pairs (knd:=aR prog w) (k:=Sum.inr x) (by show jm (Sum.inr x) (Value.str x tx)=true;simp[jm,Value.isStrOf]) hS' (λh' hd' hs'=>?_) (by rw[LF];lia))
  have hd:ps.drop i=(x,u)::ps.drop (i+1):=by
   rw[LO hlt]
   rw[Kx hlt]at ex
   rw[Lq ex]
  refine Kz ⟨Mf ck _,ih (i+1) _ _ (stored acc (Sum.inr x) u) (by lia) hlt (W.frame _ s' _ _ st' (Mn _) λb hb' o e=>?_) hd' (by have:=stored_length_le acc (Sum.inr x:Key) u;lia) (λb o e=>?_) λs'' hm2 hS3=>?_⟩
  ·rw[hs'.2 b (λz:b=D=>hDf (by rw[<-z];exact hb'))];exact e
  ·rw[hs'.2 b (λz:b=D=>by rw[z,h0D]at e;cases e)];exact h0s' b o e
  ·refine hR s'' (Moved.trans W.gtrans ((hm.mono sub).then_heap (Mn _) λb o hb' e=>?_) hm2) ?_
   ·rw[hs'.2 b (λz:b=D=>hb' (by rw[z];exact K9))];exact e
   ·rw[hd]
    exact hS3
def ou{E:Value->Shared->Prop}{s:Shared}{l:Addr}{its:List Value}{ps:List (Str×Value)}{Q:Value->Shared->Prop}(hh:A.handled=none)(hl:∃n,s.heap.get? l=some { cls:=.type "list",data:=.seq its.toArray n })(hlen:its.length=ps.length)
  (hx:∀(i:Nat) (v:Value),its[i]?=some v->gk s.heap ps i v) (hb:ps.length<=1000)
  (h:∀(h':Heap) (tk:Nat),h'.DictOf (aR prog w) s.heap.objs.size (putAll [] ps)->(∀b o,s.heap.get? b=some o->h'.get? b=some o)->Q (.ref s.heap.objs.size) { s with heap:=h',toks:=tk }) :
  wpAny (model prog w) A (call (.type "dict") [.ref l]) Q E s:=by
 obtain⟨nl,hol⟩:=hl
 refine callType_codes (Q₁:=λobj s₁=>obj=.ref s.heap.objs.size/\s₁={ s with heap:=s.heap.push { cls:=.type "dict",data:=.dict #[] } }) F.kt_called_dict (F.kt_typeCall_dict_1 _) F.entry_dict_init (kt_code_dict_new _ ⟨rfl,rfl⟩) ?_
 rintro obj s₁ ⟨rfl,rfl⟩
 have hnew:(s.heap.push { cls:=.type "dict",data:=.dict #[] }).DictOf (aR prog w) s.heap.objs.size []:=Heap.DictOf.new s.heap
 have hol':(s.heap.push { cls:=.type "dict",data:=.dict #[] }).get? l=some { cls:=.type "list",data:=.seq its.toArray nl }:=Ky _ hol
 refine⟨hnew.typeIs,F.args_dict_init_2 _ _,?_⟩
 unfold Builtin.«dict.__init__»
 refine Kv ?_
 unfold Builtin.Dict.selfAndRest
 refine Kv (wpAny_notOrdered_dict hnew.typeIs ?_)
 show wpAny _ _ (pure (s.heap.objs.size,[Value.ref l])) _ _ _
 refine Kz ?_
 show wpAny _ _ (Builtin.Dict.updateFrom "dict.__init__" s.heap.objs.size (.ref l) [] .none) _ _ _
 unfold Builtin.Dict.updateFrom
 refine Kv (OH (T:="list") ⟨_,hol',rfl⟩ ?_)
 rw[KP (by decide)]
 refine Kv (qH hol' rfl rfl rfl (by simp[hh]) λh1 tk1 k1=>?_)
 rw[KP (by decide)]
 refine Kv (Mu ?_)
 have lt:l<s.heap.objs.size:=KO hol
 have z1:s.heap.objs.size+1<=h1.objs.size:=Nat.succ_le_of_lt (KO (k1 _ _ (KY s.heap (o:={ cls:=.type "dict",data:=.dict #[] }) rfl)))
 have l1:h1.IsList l its.toArray:=⟨_,k1 _ _ hol',rfl,nl,rfl⟩
 refine Kv (Nx l1 ?_)
 have neI:l≠h1.objs.size:=K5 (K4 (Lw lt) z1)
 have nf:s.heap.objs.size∉[h1.objs.size,l]:=by
  simp only[KR,Lx,Mi,O5]
  exact⟨K5 z1,MK lt⟩
 have h3:A.in1.in1.handled=none:=by simp[hh]
 have hat:∀(i:Nat) (v:Value),its.toArray[i]?=some v->gk s.heap ps i v:=λi v e=>hx i v (by simpa using e)
 have W0:=(Qp (prog:=prog) (w:=w) h3 h1.objs.size l neI its.toArray).imp hat
 have hsz:its.toArray.size=ps.length:=by rw[K8];exact hlen
 rw[hsz]at W0
 have keep:∀b o,s.heap.get? b=some o->h1.get? b=some o:=λb o e=>k1 _ _ (Ky _ e)
 have ds:h1.DictOf (aR prog w) s.heap.objs.size []:=by
  obtain⟨o,es,ep,ho,r⟩:=hnew
  exact⟨o,es,ep,k1 _ _ ho,r⟩
 refine Kz ⟨Mf ck _,yP W0.toS s.heap.objs.size nf (OE (KL _)) (λb hb'=>?_) hb ps.length 0 _ _ [] (by lia) (K2 _) ⟨⟨_,KY _ rfl,rfl,rfl⟩,(l1.push _)⟩ (ds.push _) (KL _) (λb o e=>Ky _ (keep b o e)) λs' hm hS'=>?_⟩
 ·have e:b=h1.objs.size:=by simpa using hb'
  rw[e]
  exact OE (Lh (Mn _) z1)
 ·rw[OY]at hS'
  rw[mI hm]
  refine⟨rfl,h _ _ hS' λb o e=>?_⟩
  have lb:=KO e
  refine hm.heap b o (λz=>?_) (Ky _ (keep b o e))
  simp only[KR,Lx,Mi]at z
  rcases z with z|z
  ·exact absurd z (K5 lb)
  ·exact absurd z (K5 (K4 (Lw lb) z1))
end
end UfDp
end
section
namespace L2
open PySem PySem.Spec PyProof.Rows UfDp
abbrev mO(H:Hp):List (Str×V)->List Addr->Prop:=Paired λp q=>H q=some (.tup [.str p.1,p.2])
def keyed(ps:List (Str×V)):List (Key×V):=ps.map λp=>(Sum.inr p.1,p.2)
section
variable {X:Cx}{pins:List (Addr×Obj)}{σ:St}{H:Hp}{s:Shared}
def two_vals{x:Str}{v:V}{its:List Value}(r:Vals [.str x,v] its):∃t u,its=[.str x t,u]/\RelV v u:=by
 cases r with
 |cons r1 r =>
  cases r with
  |cons r2 r =>
   cases r
   obtain⟨t,rfl⟩:=(show ∃t,_=Value.str x t from r1)
   exact⟨t,_,rfl,r2⟩
theorem pairs_at(I:Inv X pins σ H s):∀{ps:List (Str×V)} {qs:List Addr},mO H ps qs->∃vs:List (Str×Value),Paired (λ(p:Str×V) (v:Str×Value)=>p.1=v.1/\RelV p.2 v.2) ps vs/\qs.length=vs.length/\∀(i:Nat) (q:Addr),qs[i]?=some q->gk s.heap vs i (.ref q)
 |_,_,.nil=>⟨[],.nil,rfl,λi q h=>by simp at h⟩
 |p::ps,q::qs,.cons h t=>by
  obtain⟨vs,pv,ln,hp⟩:=pairs_at I t
  obtain⟨_,its,rv,it⟩:bU X.prog X.w H s.heap q (.tup [.str p.1,p.2]):=I.hok q _ h
  obtain⟨tx,u,rfl,ru⟩:=two_vals rv
  refine⟨(p.1,u)::vs,.cons ⟨rfl,ru⟩ pv,by simp[ln],λi q' hi=>?_⟩
  cases i with
  |zero =>
   have e:q=q':=by simpa using hi
   exact⟨q',p.1,tx,u,rfl,rfl,by rw[<-e];exact it⟩
  |succ i =>
   obtain⟨q2,x,t2,u2,e1,e2,e3⟩:=hp i q' (by simpa using hi)
   exact⟨q2,x,t2,u2,e1,by simpa using e2,e3⟩
theorem xw:∀{ps:List (Str×V)} {vs:List (Str×Value)} {kvs:List (Key×V)} {acc:List (Key×Value)},Paired (λ(p:Str×V) (v:Str×Value)=>p.1=v.1/\RelV p.2 v.2) ps vs->KV kvs acc->(ps.map (·.1)).Nodup->(∀p∈ps,dv kvs (Sum.inr p.1:Key)=none)->KV (kvs++keyed ps) (putAll acc vs)
 |_,_,kvs,acc,.nil,r,_,_=>by
  show KV (kvs++[]) acc
  rw[MM]
  exact r
 |p::ps,v::vs,kvs,acc,.cons h t,r,hn,hv=>by
  obtain⟨n1,n2⟩:=LR.mp (show(p.1::ps.map (·.1)).Nodup from hn)
  obtain⟨e1,e2⟩:=h
  have r2:=KV.put r (Sum.inr p.1:Key) e2
  rw[jr _ (hv p K9)]at r2
  have:=xw (kvs:=kvs++[(Sum.inr p.1,p.2)]) t r2 n2 (λp' hp'=>?_)
  ·rw[Mw]at this
   show KV _ (putAll (stored acc (Sum.inr v.1) v.2) vs)
   rw[<-e1]
   exact this
  ·have h1:=hv p' (K6 _ hp')
   have ne:¬p.1=p'.1:=λz=>n1 (by rw[z];exact K0.mpr ⟨p',hp',rfl⟩)
   rw[o8 (Sum.inr p.1:Key) (Sum.inr p'.1) p.2 kvs (hv p K9),KD (λz=>ne (NP z).symm)]
   exact h1
end
section
variable {X:Cx}
def Gu:List V->Hp->VK->Prop:=λvs H Q=>∃l qs ps,vs=[.ref l]/\H l=some (.lst (qs.map V.ref))/\mO H ps qs/\ps.length<=1000/\(ps.map (·.1)).Nodup/\∀d,H d=none->Q (.ref d) (upd H d (.dK (keyed ps)))
theorem px:∀{qs:List Addr} {its:List Value},Vals (qs.map V.ref) its->its=qs.map Value.ref
 |[],_,.nil=>rfl
 |q::qs,_,.cons r t=>by
  have e:=(show _=Value.ref q from r)
  rw[e,px t]
  rfl
def uB(hc:X.calm=true):dS X (.type "dict") Gu:=by
 intro pins s σ H xs us Q I r h
 obtain⟨l,qs,ps,rfl,hl,hp,hz,hn,q⟩:=h
 obtain⟨u,rfl,ru⟩:=vals1 r
 cases ru
 obtain⟨_,its,n,rv,hlen,eo⟩:=I.C6 hl
 have ei:=px rv
 obtain⟨vs,pv,ln,hat⟩:=pairs_at I hp
 have lp:ps.length=vs.length:=KZ pv
 have hf:H s.heap.objs.size=none:=I.hok.fresh (KL _)
 refine ou (ps:=vs) (I.ok.hd hc) ⟨n,eo⟩ (by rw[ei,Kw];exact ln) (λi v hv=>?_) (by lia) λh' tk hd hk=>?_
 ·rw[ei,KH]at hv
  obtain⟨q',e1,e2⟩:=LW.mp hv
  rw[<-e2]
  exact hat i q' e1
 ·have kv:KV (keyed ps) (putAll [] vs):=xw (kvs:=[]) pv .nil hn λp _=>rfl
  refine⟨.ref s.heap.objs.size,_,I.laid (t':=tk) (o:=.dK (keyed ps)) hk (Nat.le_refl _) ⟨by unfold keyed;rw[List.length_map,sizeLine_eq];lia,?_,_,kv,hd⟩,rfl,q _ hf⟩
  have:=I.big
  exact Me.mpr (MK this)
end
end L2
end
section
namespace Uf
open PySem L2 UfB
structure nX where
 sp:List (Str×Option Nat)
 tk:List Nat
 be:List Nat
 pl:List (Str×Nat)
def gv:Option Nat->V
 |none=>.non
 |some n=>nat n
def pW(bs:List Nat)(j n:Nat):List Nat:=bs.set j (bs.getD j 0 ||| 2 ^ n)
def bL(bs js:List Nat)(n:Nat):List Nat:=js.foldl (λa j=>pW a j n) bs
def iN(pl:List (Str×Nat))(x:Str)(n:Nat):List (Str×Nat):=pl.map λp=>if p.1=x then(p.1,p.2 ||| 2 ^ n) else p
def gj(g:Option Nat)(p:nX×Nat)(x:Str):nX×Nat :=
 (⟨p.1.sp++[(x,g)],p.1.tk++[0],bL (p.1.be++[p.2]) (mem p.2) p.1.sp.length,iN p.1.pl x p.1.sp.length⟩,p.2 ||| 2 ^ p.1.sp.length)
def bu(g:Option Nat)(p:nX×Nat)(xs:List Str):nX×Nat:=xs.foldl (gj g) p
theorem dE:∀(js bs:List Nat) (n:Nat),(bL bs js n).length=bs.length
 |[],bs,n=>rfl
 |j::js,bs,n=>by
  show(bL (pW bs j n) js n).length=_
  rw[dE js]
  unfold pW
  rw[PX]
def vq{b i n:Nat}(h:b<2 ^ n)(hi:i∈mem b):i<n:=by
 unfold mem at hi
 have hb:=(K1.mp hi).2
 refine OB λz=>?_
 rw[MB (K4 h (LC (by decide) z))]at hb
 cases hb
structure kO(p:nX×Nat)(xs:List Str):Prop where
 tk:p.1.tk.length=p.1.sp.length
 be:p.1.be.length=p.1.sp.length
 lt:p.2<2 ^ p.1.sp.length
 jk:p.1.sp.length+xs.length<=250
 key:∀x∈xs,x∈p.1.pl.map (·.1)
 nd:(p.1.pl.map (·.1)).Nodup
 sm:p.1.pl.length<=12
def ke(pl:List (Str×Nat))(x:Str)(n:Nat):(iN pl x n).map (·.1)=pl.map (·.1):=by
 unfold iN
 rw[Lk]
 refine MT λp _=>?_
 show(if p.1=x then(p.1,p.2 ||| 2 ^ n) else p).1=p.1
 split <;> rfl
def kO.one{g:Option Nat}{p:nX×Nat}{x:Str}{xs:List Str}(h:kO p (x::xs)):kO (gj g p x) xs:=by
 obtain⟨h1,h2,h3,h4,h5,h6,h7⟩:=h
 rw[Lj]at h4
 refine⟨?_,?_,?_,?_,λy hy=>?_,?_,?_⟩
 ·show(p.1.tk++[0]).length=(p.1.sp++[(x,g)]).length
  rw[KA,KA,h1];rfl
 ·show(bL (p.1.be++[p.2]) (mem p.2) p.1.sp.length).length=(p.1.sp++[(x,g)]).length
  rw[dE,KA,KA,h2];rfl
 ·show p.2 ||| 2 ^ p.1.sp.length<2 ^ (p.1.sp++[(x,g)]).length
  rw[KA]
  refine Nat.or_lt_two_pow (K4 h3 (LC (by decide) (ME _ _))) ?_
  exact Nat.pow_lt_pow_right (by decide) (Mc _)
 ·show(p.1.sp++[(x,g)]).length+xs.length<=250
  rw[KA,Mg];lia
 ·show y∈(iN p.1.pl x _).map (·.1)
  rw[ke]
  exact h5 y (K6 _ hy)
 ·show((iN p.1.pl x _).map (·.1)).Nodup
  rw[ke]
  exact h6
 ·show(iN p.1.pl x _).length<=12
  unfold iN
  rw[Kw]
  exact h7
theorem kO.Ij{g:Option Nat}:∀{xs ys:List Str} {p:nX×Nat},kO p (xs++ys)->kO (bu g p xs) ys
 |[],ys,p,h=>h
 |x::xs,ys,p,h=>kO.Ij (xs:=xs) (kO.one (g:=g) (x:=x) (xs:=xs++ys) h)
def kE(g:Option Nat)(p:nX×Nat)(xs:List Str)(x:Str):bu g p (xs++[x])=gj g (bu g p xs) x:=by
 unfold bu
 rw[ND]
 rfl
end Uf
end
section
set_option maxHeartbeats 400000
namespace Uf
open PySem L2 UfB
def yf(bs:List Nat)(j x a:Nat)(h:j<bs.length):(bs.set j x).getD a 0=if a=j then x else bs.getD a 0:=by
 rw[KN,KN,List.getElem?_set]
 by_cases e:j=a
 ·subst e
  rw[KP rfl,KP h,KP rfl]
  rfl
 ·rw[KD e,KD (λz=>e z.symm)]
def Ar{bs:List Nat}{j n a k:Nat}(h:j<bs.length):((pW bs j n).getD a 0).testBit k=((bs.getD a 0).testBit k || (decide (a=j)&&decide (k=n))):=by
 unfold pW
 rw[yf _ _ _ _ h]
 by_cases e:a=j
 ·subst e
  rw[KP rfl,NJ,MS]
  simp[eq_comm]
 ·rw[KD e]
  simp[e]
theorem iE:∀{js bs:List Nat} {n a k:Nat},(∀j∈js,j<bs.length)->((bL bs js n).getD a 0).testBit k=((bs.getD a 0).testBit k || (decide (a∈js)&&decide (k=n)))
 |[],bs,n,a,k,_=>by simp[bL]
 |j::js,bs,n,a,k,h=>by
  show((bL (pW bs j n) js n).getD a 0).testBit k=_
  have hl:(pW bs j n).length=bs.length:=by unfold pW;rw[List.length_set]
  rw[iE λi hi=>by rw[hl];exact h i (K6 _ hi),Ar (h j K9)]
  by_cases e1:a=j <;> by_cases e2:a∈js <;> by_cases e3:k=n <;> simp[e1,e2,e3,KR]
structure Gn(g:Option Nat)(p q:nX×Nat)(xs:List Str)(n:Nat):Prop where
 sp:q.1.sp=p.1.sp++xs.map (λx=>(x,g))
 tk:q.1.tk=p.1.tk++List.replicate xs.length 0
 bl:q.1.be.length=n+xs.length
 b:∀j,q.2.testBit j=(p.2.testBit j || (decide (n<=j)&&decide (j<n+xs.length)))
 old:∀a k,a<n->(q.1.be.getD a 0).testBit k=((p.1.be.getD a 0).testBit k || (p.2.testBit a&&decide (n<=k)&&decide (k<n+xs.length)))
 new:∀i k,i<xs.length->(q.1.be.getD (n+i) 0).testBit k=(p.2.testBit k || (decide (n<=k)&&decide (k<n+xs.length)&&decide (k≠n+i)))
def II{g:Option Nat}{p:nX×Nat}{n:Nat}(hs:p.1.sp.length=n)(hb:p.1.be.length=n)(hlt:p.2<2 ^ n):∀(m:Nat) (xs:List Str),xs.length=m->n+m<=250->Gn g p (bu g p xs) xs n:=by
 intro m
 induction m with
 |zero =>
  intro xs hx _
  have e:xs=[]:=MQ hx
  subst e
  have hbit:∀k,n<=k->p.2.testBit k=false:=λk hk=>MB (K4 hlt (LC (by decide) hk))
  refine⟨by simp[bu],by simp[bu],by simpa[bu] using hb,λj=>?_,λa k ha=>?_,λi k hi=>absurd hi (by simp)⟩
  ·show p.2.testBit j=_
   have:(decide (n<=j)&&decide (j<n+([]:List Str).length))=false:=by
    by_cases h:n<=j
    ·rw[KU (show ¬j<n+([]:List Str).length by simp;lia),Bool.and_false]
    ·rw[KU h,Oe]
   rw[this,Ou]
  ·show(p.1.be.getD a 0).testBit k=_
   simp
   intro _ h1 h2
   lia
 |succ m ih =>
  intro xs hx hle
  have hne:xs≠[]:=λz=>by rw[z]at hx;simp at hx
  obtain⟨ys,y,rfl⟩:∃ys y,xs=ys++[y]:=⟨xs.dropLast,xs.getLast hne,(O0 hne).symm⟩
  have ly:ys.length=m:=by simpa using hx
  have I:=ih ys ly (by lia)
  rw[kE]
  generalize bu g p ys=q at I
  have lsp:q.1.sp.length=n+m:=by rw[I.sp,KA,Kw,hs,ly]
  have lbe:q.1.be.length=n+m:=by rw[I.bl,ly]
  have q2lt:q.2<2 ^ (n+m):=by
   refine NX _ λi hi=>?_
   rw[I.b,ly]
   have h1:p.2.testBit i=false:=MB (K4 hlt (LC (by decide) (by lia)))
   rw[h1]
   simp
   lia
  have q256:q.2<2 ^ 256:=K4 q2lt (LC (by decide) (by lia))
  have hmem:∀j∈mem q.2,j<(q.1.be++[q.2]).length:=λj hj=>by
   have:=vq q2lt hj
   rw[KA,lbe,Mg]
   lia
  have lxs:(ys++[y]).length=m+1:=by simpa using ly
  rw[show(gj g q y)=(⟨q.1.sp++[(y,g)],q.1.tk++[0],bL (q.1.be++[q.2]) (mem q.2) q.1.sp.length,iN q.1.pl y q.1.sp.length⟩,q.2 ||| 2 ^ q.1.sp.length) from rfl,lsp]
  refine⟨?_,?_,?_,λj=>?_,λa k ha=>?_,λi k hi=>?_⟩
  ·show q.1.sp++[(y,g)]=_
   rw[I.sp,KS,Mw]
   rfl
  ·show q.1.tk++[0]=_
   rw[I.tk,lxs,ly,List.replicate_succ',Mw]
  ·show(bL (q.1.be++[q.2]) (mem q.2) (n+m)).length=_
   rw[dE,KA,lbe,lxs]
   rfl
  ·show(q.2 ||| 2 ^ (n+m)).testBit j=_
   rw[NJ,MS,I.b,ly,lxs]
   clear I ih
   grind
  ·show((bL (q.1.be++[q.2]) (mem q.2) (n+m)).getD a 0).testBit k=_
   rw[iE hmem,lxs]
   have e1:(q.1.be++[q.2]).getD a 0=q.1.be.getD a 0:=by
    rw[KN,KN,Ls (by lia)]
   have e2:decide (a∈mem q.2)=p.2.testBit a:=by
    rw[Lu,Lp,mem_iff q256,I.b]
    simp
    lia
   rw[e1,e2,I.old a k ha,ly]
   clear I ih hmem
   grind
  ·show((bL (q.1.be++[q.2]) (mem q.2) (n+m)).getD (n+i) 0).testBit k=_
   rw[lxs]at hi
   rw[iE hmem,lxs]
   have pk:n<=k->p.2.testBit k=false:=λhk=>MB (K4 hlt (LC (by decide) hk))
   have e2:decide (n+i∈mem q.2)=decide (i<m):=by
    refine Mj.mpr ?_
    rw[mem_iff q256,I.b,ly]
    have:p.2.testBit (n+i)=false:=MB (K4 hlt (LC (by decide) (by lia)))
    rw[this]
    simp
   rw[e2]
   by_cases hi2:i<m
   ·have e1:(q.1.be++[q.2]).getD (n+i) 0=q.1.be.getD (n+i) 0:=by
     rw[KN,KN,Ls (by lia)]
    rw[e1,I.new i k (by lia),ly]
    clear I ih hmem
    grind
   ·have ei:i=m:=by lia
    subst ei
    have e1:(q.1.be++[q.2]).getD (n+i) 0=q.2:=by
     rw[KN,LB (by lia),lbe,Ob]
     rfl
    rw[e1,I.b,ly]
    have:=pk
    clear I ih hmem
    grind
end Uf
end
section
set_option maxHeartbeats 400000
namespace Uf
open PySem L2 UfB UfM
structure WF where
 W:nX
 oc:List (Str×List Nat)
 own:List Nat
def bR(sp:List (Str×Option Nat))(s:Nat):Option Nat:=(sp[s]?).bind (·.2)
def cM(f:WF)(T:List Nat):Nat:=T.foldl (λa t=>match bR f.W.sp t with|some g=>a ||| f.own.getD g 0|none=>a) 0
def fz(f:WF)(T:List Nat):Nat:=T.foldl (λb t=>b &&& f.W.be.getD t 0) (2 ^ f.W.sp.length-1)
def dk(f:WF)(m:Str)(T:List Nat)(gs:List Str):WF :=
 ⟨(bu (some f.oc.length) (⟨f.W.sp,bL f.W.tk T f.oc.length,f.W.be,f.W.pl⟩,fz f T) gs).1,f.oc++[(m,T)],f.own++[2 ^ f.oc.length ||| cM f T]⟩
def wb(f:WF):Wb:=⟨λs o=>(f.W.tk.getD s 0).testBit o=true,bR f.W.sp,λo j=>(f.own.getD o 0).testBit j=true⟩
structure Good(f:WF):Prop where
 tl:f.W.tk.length=f.W.sp.length
 bl:f.W.be.length=f.W.sp.length
 wl:f.own.length=f.oc.length
 jk:f.W.sp.length<=250
 gvlt:∀s g,bR f.W.sp s=some g->g<f.oc.length
 ownlt:∀o j,(f.own.getD o 0).testBit j=true->j<=o
 tklt:∀s o,(f.W.tk.getD s 0).testBit o=true->o<f.oc.length
 ord:∀s o,(wb f).tk s o->¬(wb f).past s o
 free:∀s,¬(wb f).forked ((wb f).past s)
 blt:∀a k,(f.W.be.getD a 0).testBit k=true->k<f.W.sp.length
 be:∀a b,a<f.W.sp.length->b<f.W.sp.length->((f.W.be.getD a 0).testBit b=true↔a≠b/\(wb f).mZ a b)
def m5(xs ys:List Nat)(i:Nat):(xs++ys).getD i 0=if i<xs.length then xs.getD i 0 else ys.getD (i-xs.length) 0:=by
 rw[KN,KN,KN]
 split
 ·rename_i h
  rw[Ls h]
 ·rename_i h
  rw[LB (by lia)]
def gx{xs:List Nat}{i:Nat}(h:xs.length<=i):xs.getD i 0=0:=by
 rw[KN,Ll h]
 rfl
theorem mW{f:WF}(g:Good f):∀(T:List Nat) (b s:Nat),(T.foldl (λb t=>b &&& f.W.be.getD t 0) b).testBit s=true↔b.testBit s=true/\∀t∈T,(f.W.be.getD t 0).testBit s=true
 |[],b,s=>by simp
 |t::T,b,s=>by
  rw[L5,mW g T,Nv,Md]
  simp[and_assoc]
theorem oM{f:WF}:∀(T:List Nat) (a j:Nat),(T.foldl (λa t=>match bR f.W.sp t with|some g=>a ||| f.own.getD g 0|none=>a) a).testBit j=true↔a.testBit j=true\/∃t∈T,(wb f).past t j
 |[],a,j=>by simp
 |t::T,a,j=>by
  rw[L5,oM T]
  have e:(match bR f.W.sp t with|some g=>a ||| f.own.getD g 0|none=>a).testBit j=true↔a.testBit j=true\/(wb f).past t j:=by
   cases h:bR f.W.sp t with
   |none =>
    constructor
    ·exact .inl
    ·rintro(z|⟨g,hg,_⟩)
     ·exact z
     ·have hg:bR f.W.sp t=some g:=hg
      rw[h]at hg
      cases hg
   |some g =>
    show(a ||| f.own.getD g 0).testBit j=true↔_
    rw[NJ,OP]
    constructor
    ·rintro(z|z)
     ·exact .inl z
     ·exact .inr ⟨g,h,z⟩
    ·rintro(z|⟨g',hg,z⟩)
     ·exact .inl z
     ·have hg:bR f.W.sp t=some g':=hg
      rw[h]at hg
      cases hg
      exact .inr z
  rw[e,or_assoc]
  simp
structure CA(f:WF)(T:List Nat)(gs:List Str):Prop where
 lt:∀t∈T,t<f.W.sp.length
 ne:T≠[]
 side:∀a∈T,∀b∈T,a≠b->(f.W.be.getD a 0).testBit b=true
 jk:f.W.sp.length+gs.length<=250
section
variable {f:WF}{m:Str}{T:List Nat}{gs:List Str}
def xi(g:Good f):fz f T<2 ^ f.W.sp.length:=by
 refine NX _ λi hi=>?_
 cases h:(fz f T).testBit i with
 |false=>rfl
 |true =>
  have:=((mW g T _ i).mp h).1
  rw[M4]at this
  simp at this
  lia
def gy(g:Good f)(h:CA f T gs):Gn (some f.oc.length) (⟨f.W.sp,bL f.W.tk T f.oc.length,f.W.be,f.W.pl⟩,fz f T) (bu (some f.oc.length) (⟨f.W.sp,bL f.W.tk T f.oc.length,f.W.be,f.W.pl⟩,fz f T) gs) gs f.W.sp.length :=
 II rfl g.bl (xi g) _ gs rfl h.jk
def xU(g:Good f)(h:CA f T gs):(wb f).Step (wb (dk f m T gs)) f.oc.length (· ∈ T) (λs=>f.W.sp.length<=s/\s<f.W.sp.length+gs.length):=by
 have A:=gy g h
 have hsp:(dk f m T gs).W.sp=f.W.sp++gs.map (λx=>(x,some f.oc.length)):=A.sp
 have htk:(dk f m T gs).W.tk=bL f.W.tk T f.oc.length++List.replicate gs.length 0:=A.tk
 have hTl:∀j∈T,j<f.W.tk.length:=λj hj=>by rw[g.tl];exact h.lt j hj
 have lor:(bL f.W.tk T f.oc.length).length=f.W.sp.length:=by rw[dE,g.tl]
 have hout:∀{s:Nat},f.W.sp.length<=s->f.W.tk.getD s 0=0:=λ{s} hs=>gx (by rw[g.tl];exact hs)
 refine⟨λs o=>?_,λs hs=>?_,λs hs=>?_,λj=>?_,λo j ho=>?_,λt ht hn=>?_,λs z=>?_,λs z=>?_,λs ⟨gg,h1,h2⟩=>?_,λs o hs z=>?_,?_,g.ord,g.free,λa b ha hb n=>?_⟩
 ·show((dk f m T gs).W.tk.getD s 0).testBit o=true↔(f.W.tk.getD s 0).testBit o=true\/(o=f.oc.length/\s∈T)
  rw[htk,m5,lor]
  by_cases hs:s<f.W.sp.length
  ·rw[KP hs,iE hTl]
   simp[and_comm]
  ·rw[KD hs,hout (by lia)]
   have:(List.replicate gs.length 0).getD (s-f.W.sp.length) 0=0:=by
    rw[KN,Nn]
    split <;> rfl
   rw[this]
   simp
   intro _ z
   exact hs (h.lt s z)
 ·show bR (dk f m T gs).W.sp s=some f.oc.length
  rw[hsp]
  unfold bR
  rw[LB hs.1,KH,Kx (by lia)]
  rfl
 ·show bR (dk f m T gs).W.sp s=bR f.W.sp s
  rw[hsp]
  unfold bR
  by_cases hl:s<f.W.sp.length
  ·rw[Ls hl]
  ·rw[Ll (by rw[KA,Kw];lia),Ll (by lia)]
 ·show((f.own++[2 ^ f.oc.length ||| cM f T]).getD f.oc.length 0).testBit j=true↔_
  rw[m5,KD (by rw[g.wl];lia),g.wl,Ob]
  show(2 ^ f.oc.length ||| cM f T).testBit j=true↔_
  rw[NJ,OP,MS,Lp]
  unfold cM
  rw[oM T 0 j]
  simp[eq_comm]
 ·show((f.own++[2 ^ f.oc.length ||| cM f T]).getD o 0).testBit j=true↔(f.own.getD o 0).testBit j=true
  rw[m5]
  by_cases hl:o<f.own.length
  ·rw[KP hl]
  ·rw[KD hl,gx (xs:=[2 ^ f.oc.length ||| cM f T]) (by simp;have:=g.wl;lia),gx (xs:=f.own) (by lia)]
 ·have:=h.lt t ht
  lia
 ·exact absurd (g.tklt s _ z) (LA _)
 ·exact absurd (g.gvlt s _ z) (LA _)
 ·have:=g.gvlt s gg h1
  have:=g.ownlt gg _ h2
  lia
 ·have z:(f.W.tk.getD s 0).testBit o=true:=z
  rw[hout hs.1]at z
  simp at z
 ·exact List.exists_mem_of_ne_nil T h.ne
 ·exact((g.be a b (h.lt a ha) (h.lt b hb)).mp (h.side a ha b hb n)).2
def yj(g:Good f)(h:CA f T gs):Good (dk f m T gs):=by
 have A:=gy g h
 have S:=xU (m:=m) g h
 have hsp:(dk f m T gs).W.sp=f.W.sp++gs.map (λx=>(x,some f.oc.length)):=A.sp
 have htk:(dk f m T gs).W.tk=bL f.W.tk T f.oc.length++List.replicate gs.length 0:=A.tk
 have lsp:(dk f m T gs).W.sp.length=f.W.sp.length+gs.length:=by rw[hsp,KA,Kw]
 have loc:(dk f m T gs).oc.length=f.oc.length+1:=by show(f.oc++[(m,T)]).length=_;simp
 have hn:f.W.sp.length=f.W.sp.length:=rfl
 have b0:∀s,(fz f T).testBit s=true↔s<f.W.sp.length/\∀t∈T,(f.W.be.getD t 0).testBit s=true:=λs=>by
  unfold fz
  rw[mW g T _ s,M4,Lp]
 refine⟨?_,?_,?_,by rw[lsp];exact h.jk,λs gg hg=>?_,λo j hj=>?_,λs o ho=>?_,S.J8,λs=>?_,λa k hk=>?_,λa b ha hb=>?_⟩
 ·rw[htk,lsp,KA,dE,MH,g.tl]
 ·rw[lsp]
  exact A.bl
 ·show(f.own++[_]).length=_
  rw[loc,KA,g.wl]
  rfl
 ·rw[loc]
  by_cases hs:f.W.sp.length<=s/\s<f.W.sp.length+gs.length
  ·have:=S.gvN s hs
   have hg':(wb (dk f m T gs)).gv s=some gg:=hg
   rw[this]at hg'
   cases hg'
   lia
  ·have hg':(wb (dk f m T gs)).gv s=some gg:=hg
   rw[S.gvO s hs]at hg'
   have:=g.gvlt s gg hg'
   lia
 ·by_cases ho:o=f.oc.length
  ·subst ho
   rcases(S.ownE j).mp hj with z|⟨t,ht,gg,h1,h2⟩
   ·lia
   ·have:=g.gvlt t gg h1
    have:=g.ownlt gg j h2
    lia
  ·exact g.ownlt o j ((S.ownO o j ho).mp hj)
 ·rw[loc]
  rcases(S.tk s o).mp ho with z|⟨z,_⟩
  ·have:=g.tklt s o z
   lia
  ·lia
 ·by_cases hs:f.W.sp.length<=s/\s<f.W.sp.length+gs.length
  ·exact S.EE hs
  ·exact S.Ja hs
 ·rw[lsp]
  have hk:((bu (some f.oc.length) (⟨f.W.sp,bL f.W.tk T f.oc.length,f.W.be,f.W.pl⟩,fz f T) gs).1.be.getD a 0).testBit k=true:=hk
  by_cases ha:a<f.W.sp.length
  ·rw[A.old a k ha]at hk
   have:=g.blt a k
   dsimp only at hk
   grind
  ·by_cases ha2:a<f.W.sp.length+gs.length
   ·have e:f.W.sp.length+(a-f.W.sp.length)=a:=by lia
    rw[<-e,A.new (a-f.W.sp.length) k (by lia)]at hk
    have:=(b0 k).mp
    dsimp only at hk
    grind
   ·rw[gx (by rw[A.bl];lia)]at hk
    simp at hk
 ·rw[lsp]at ha hb
  show((bu (some f.oc.length) (⟨f.W.sp,bL f.W.tk T f.oc.length,f.W.be,f.W.pl⟩,fz f T) gs).1.be.getD a 0).testBit b=true↔_
  have mix:∀s n:Nat,s<f.W.sp.length->(f.W.sp.length<=n/\n<f.W.sp.length+gs.length)->((fz f T).testBit s=true↔(wb (dk f m T gs)).mZ s n):=λs n hs hn=>by
   rw[b0 s,S.FD (by lia) hn]
   constructor
   ·intro z t ht
    have:=(g.be t s (h.lt t ht) hs).mp (z.2 t ht)
    exact⟨λq=>this.1 q.symm,this.2.symm⟩
   ·intro z
    exact⟨hs,λt ht=>(g.be t s (h.lt t ht) hs).mpr ⟨λq=>(z t ht).1 q.symm,(z t ht).2.symm⟩⟩
  by_cases ha1:a<f.W.sp.length
  ·rw[A.old a b ha1]
   dsimp only
   by_cases hb1:b<f.W.sp.length
   ·have e:(decide (f.W.sp.length<=b))=false:=KU (by lia)
    rw[e,Bool.and_false,Oe,Ou,g.be a b ha1 hb1,S.lX (by lia) (by lia)]
   ·have hbN:f.W.sp.length<=b/\b<f.W.sp.length+gs.length:=⟨by lia,hb⟩
    have e0:(f.W.be.getD a 0).testBit b=false:=by
     cases z:(f.W.be.getD a 0).testBit b with
     |false=>rfl
     |true=>exact absurd (g.blt a b z) hb1
    rw[e0,Qs,KC hbN.1,KC hbN.2,Qv,Qv,mix a b ha1 hbN]
    exact⟨λz=>⟨by lia,z⟩,λz=>z.2⟩
  ·have haN:f.W.sp.length<=a/\a<f.W.sp.length+gs.length:=⟨by lia,ha⟩
   have e:f.W.sp.length+(a-f.W.sp.length)=a:=by lia
   rw[<-e,A.new (a-f.W.sp.length) b (by lia),e]
   dsimp only
   by_cases hb1:b<f.W.sp.length
   ·have e2:(decide (f.W.sp.length<=b))=false:=KU (by lia)
    rw[e2,Oe,Oe,Ou,mix b a hb1 haN]
    exact⟨λz=>⟨by lia,z.symm⟩,λz=>z.2.symm⟩
   ·have hbN:f.W.sp.length<=b/\b<f.W.sp.length+gs.length:=⟨by lia,hb⟩
    have e0:(fz f T).testBit b=false:=by
     cases z:(fz f T).testBit b with
     |false=>rfl
     |true=>exact absurd ((b0 b).mp z).1 hb1
    rw[e0,Qs,KC hbN.1,KC hbN.2,Nb,Nb,Lp]
    exact⟨λz=>⟨λq=>z q.symm,S.among haN hbN⟩,λz q=>z.1 q.symm⟩
end
end Uf
end
section
namespace Uf
open PySem L2 UfB
abbrev mj:Stmt:=top 47
abbrev u7:Stmt:=inClass mj 0
abbrev As:Stmt:=inClass mj 11
def Dy{H:Hp}{a:Addr}{o:HO}(h:H a=some o):upd H a o=H:=by
 funext b
 by_cases e:b=a
 ·rw[e,ag,h]
 ·rw[ah e]
structure gX(K:PySem.W.Frag)(C:Addr):Prop where
 cl:zf K C
 nN:cP K C "base_net"
 nS:cP K C "spot_tuples"
 nO:cP K C "occurrence_tuples"
 nH:cP K C "numbers_there"
 nW:cP K C "own_bits"
 nG:cP K C "given_bits"
 nB:cP K C "beside_bits"
 nT:cP K C "taker_bits"
 nP:cP K C "place_bits"
structure AdF(fs:List (Str×V))(aS aT aB aP:Addr):Prop where
 s:fs.lookup ("spot_tuples":Str)=some (.ref aS)
 t:fs.lookup ("taker_bits":Str)=some (.ref aT)
 b:fs.lookup ("beside_bits":Str)=some (.ref aB)
 p:fs.lookup ("place_bits":Str)=some (.ref aP)
def jH(pl:List (Str×Nat)):List (Key×V):=pl.map λp=>(Sum.inr p.1,nat p.2)
abbrev iy(H:Hp):List (Str×Option Nat)->List Addr->Prop:=Paired λp q=>H q=some (.tup [.str p.1,gv p.2])
structure Cm(C:Addr)(H:Hp)(x dx:Addr)(fs:List (Str×V))(aS aT aB aP:Addr)(W:nX):Prop where
 ins:H x=some (.ins C dx fs)
 sp:∃qs,H aS=some (.lst (qs.map V.ref))/\iy H W.sp qs
 tk:H aT=some (.lst (nats W.tk))
 be:H aB=some (.lst (nats W.be))
 pl:H aP=some (.dK (jH W.pl))
def ij(as:List Addr)(H H':Hp):Prop:=∀c o,H c=some o->c∉as->H' c=some o
def CV{pl:List (Str×Nat)}{x:Str}(h:x∈pl.map (·.1)):∃m,dv (jH pl) (Sum.inr x:Key)=some (nat m):=by
 induction pl with
 |nil=>simp at h
 |cons p pl ih =>
  by_cases e:p.1=x
  ·refine⟨p.2,?_⟩
   show dv ((Sum.inr p.1,nat p.2)::jH pl) _=_
   exact cJ (by rw[e])
  ·have h2:x∈pl.map (·.1):=by
    rcases KR.mp h with z|z
    ·exact absurd z.symm e
    ·exact z
   obtain⟨m,hm⟩:=ih h2
   refine⟨m,?_⟩
   show dv ((Sum.inr p.1,nat p.2)::jH pl) _=_
   rw[cK (λz=>e (NP z))]
   exact hm
def DD{pl:List (Str×Nat)}{x:Str}{m n:Nat}(hn:(pl.map (·.1)).Nodup)(h:dv (jH pl) (Sum.inr x:Key)=some (nat m)):putK (jH pl) (Sum.inr x:Key) (nat (m ||| 2 ^ n))=jH (iN pl x n):=by
 have e1:((jH pl).any λkv=>decide (kv.1=(Sum.inr x:Key)))=true:=by rw[gG,h];rfl
 unfold putK
 rw[KP e1]
 clear e1
 induction pl with
 |nil=>rfl
 |cons p pl ih =>
  obtain⟨n1,n2⟩:=LR.mp (show(p.1::pl.map (·.1)).Nodup from hn)
  have h':dv ((Sum.inr p.1,nat p.2)::jH pl) (Sum.inr x:Key)=some (nat m):=h
  by_cases e:p.1=x
  ·rw[cJ (show((Sum.inr p.1,nat p.2):Key×V).1=Sum.inr x by rw[e])]at h'
   have em:p.2=m:=by
    have:=Lq h'
    unfold nat at this
    have:=V.int.inj this
    lia
   have rest:(jH pl).map (λkv=>if kv.1=(Sum.inr x:Key) then(kv.1,nat (m ||| 2 ^ n)) else kv)=jH (iN pl x n):=by
    have e2:iN pl x n=pl:=by
     unfold iN
     conv=>rhs;rw[<-Qd pl]
     refine MT λq hq=>?_
     rw[KD (λz=>n1 (by rw[e,<-z];exact K0.mpr ⟨q,hq,rfl⟩))]
     rfl
    rw[e2]
    unfold jH
    rw[Lk]
    refine MT λq hq=>?_
    show(if (Sum.inr q.1:Key)=Sum.inr x then _ else _)=_
    rw[KD (λz=>n1 (by rw[e,<-NP z];exact K0.mpr ⟨q,hq,rfl⟩))]
   show(if (Sum.inr p.1:Key)=Sum.inr x then((Sum.inr p.1:Key),nat (m ||| 2 ^ n)) else(Sum.inr p.1,nat p.2))::(jH pl).map (λkv=>if kv.1=(Sum.inr x:Key) then(kv.1,nat (m ||| 2 ^ n)) else kv)=jH ((if p.1=x then(p.1,p.2 ||| 2 ^ n) else p)::iN pl x n)
   rw[KP (by rw[e]),KP e,rest,em]
   rfl
  ·rw[cK (λz=>e (NP z))]at h'
   have:=ih n2 h'
   show(if (Sum.inr p.1:Key)=Sum.inr x then((Sum.inr p.1:Key),nat (m ||| 2 ^ n)) else(Sum.inr p.1,nat p.2))::(jH pl).map (λkv=>if kv.1=(Sum.inr x:Key) then(kv.1,nat (m ||| 2 ^ n)) else kv)=jH ((if p.1=x then(p.1,p.2 ||| 2 ^ n) else p)::iN pl x n)
   rw[KD (λz=>e (NP z)),KD e,this]
   rfl
def gC{ks:List Nat}{j:Nat}(h:j<ks.length):(nats ks)[j]?=some (nat (ks.getD j 0)):=by
 unfold nats
 rw[KH,Kx h,KN,Kx h]
 rfl
def bp(ks:List Nat):(nats ks).length=ks.length:=by unfold nats;rw[List.length_map]
def iL(ks:List Nat)(k:Nat):nats ks++[nat k]=nats (ks++[k]):=by unfold nats;rw[List.map_append];rfl
def rn(ks:List Nat)(j k:Nat):(nats ks).set j (nat k)=nats (ks.set j k):=by unfold nats;rw[List.map_set]
def wg{n j:Nat}(h:j<n):zg n (j:Int)=some j:=by
 unfold zg
 rw[KP (by lia),KP (by lia),LI]
def ni(bs js:List Nat)(j n:Nat):bL bs (js++[j]) n=pW (bL bs js n) j n:=by
 unfold bL
 rw[ND]
 rfl
theorem ij.upd{as:List Addr}{H H':Hp}{a:Addr}{o:HO}(h:ij as H H')(ha:a∈as):ij as H (upd H' a o):=λc o' e n=>by
 rw[ah (λz=>n (by rw[z];exact ha))]
 exact h c o' e n
def ij.same{as:List Addr}{H H' H'':Hp}(h:ij as H H')(s:aq H' H''):ij as H H'':=λc o e n=>s _ _ (h c o e n)
def iy.put{H:Hp}{a:Addr}{o:List V}{o':HO}{l:List (Str×Option Nat)}{qs:List Addr}(h:iy H l qs)(ha:H a=some (.lst o)):iy (upd H a o') l qs :=
 Paired.cH h λp q e=>by rw[ah (aQ e ha (λz=>nomatch z))];exact e
def iy.putD{H:Hp}{a:Addr}{o:List (Key×V)}{o':HO}{l:List (Str×Option Nat)}{qs:List Addr}(h:iy H l qs)(ha:H a=some (.dK o)):iy (upd H a o') l qs :=
 Paired.cH h λp q e=>by rw[ah (aQ e ha (λz=>nomatch z))];exact e
def Bw(C:Addr)(kind:List V->HO):Sp:=λvs H Q _=>∃(x dx pa aS aT aB aP:Addr) (fs:List (Str×V)) (W:nX) (g:Option Nat) (b:Nat) (xs:List Str),vs=[.ref x,.ref pa,gv g,nat b]/\AdF fs aS aT aB aP/\aS≠aT/\aS≠aB/\aT≠aB/\Cm C H x dx fs aS aT aB aP W /\
 H pa=some (kind (aH xs))/\pa∉[aS,aT,aB,aP]/\kO (W,b) xs/\∀H',Cm C H' x dx fs aS aT aB aP (bu g (W,b) xs).1->ij [aS,aT,aB,aP] H H'->Q .non H'
def rY:aD ["self", "places", "giver", "beside", "place", "number", "other"] ["self", "places", "giver", "beside"] (ar As):=eA
inductive Jf(C:Addr)(H:Hp)(x dx pa aS aT aB aP:Addr)(fs:List (Str×V))(W:nX)(g:Option Nat)(b:Nat)(xs:List Str)(i:Nat)(σ:St)(H2:Hp):Prop
 |mk (v4 v5 v6:Option V) (q0:σ=[some (.ref x),some (.ref pa),some (gv g),some (nat (bu g (W,b) (xs.take i)).2),v4,v5,v6]) (q1:Cm C H2 x dx fs aS aT aB aP (bu g (W,b) (xs.take i)).1) (q2:ij [aS,aT,aB,aP] H H2)
def Jf.but{C:Addr}{H:Hp}{x dx pa aS aT aB aP:Addr}{fs:List (Str×V)}{W:nX}{g:Option Nat}{b:Nat}{xs:List Str}{i:Nat}{σ:St}{H2:Hp}(h:Jf C H x dx pa aS aT aB aP fs W g b xs i σ H2):ij [aS,aT,aB,aP] H H2:=by
 cases h
 assumption
inductive AdJ(H5:Hp)(x pa aB ml:Addr)(g:Option Nat)(b n:Nat)(z:Str)(bs:List Nat)(i:Nat)(σ:St)(H6:Hp):Prop
 |mk (v6:Option V) (q0:σ=[some (.ref x),some (.ref pa),some (gv g),some (nat b),some (.str z),some (nat n),v6]) (q1:H6=upd H5 aB (.lst (nats (bL bs ((mem b).take i) n))))
def kd(k:Bool)(xs:List V):HO:=cond k (.lst xs) (.tup xs)
def iKd(k:Bool)(K:PySem.W.Frag)(tl:TE):TI:=cond k (El K tl) (IT K tl)
def HP(k:Bool){X:Cx}{tg l:Expr}{tl:TE}(hl:PE X l tl):PI X tg l (iKd k X.K tl):=by
 cases k
 ·exact gN hl
 ·exact aL hl
def Gp(k:Bool){K:PySem.W.Frag}{a:Addr}{xs:List V}{tl:TE}{g:TG}{tb:TS}{D:Ends}{σ:St}{H:Hp}(Pv:Nat->St->Hp->Prop)(h0:Pv 0 σ H)(hl:∀i σ H,Pv i σ H->H a=some (kd k xs))
  (hs:∀i x σ H,xs[i]?=some x->Pv i σ H->g x σ H λσ2 H2=>tb { D with nx:=Pv (i+1),ct:=Pv (i+1),bk:=D.nx } σ2 H2) (hd:∀σ H,Pv xs.length σ H->D.nx σ H) (tv:∀Q:VK,Q (.ref a) H->tl σ H Q):Ia (iKd k K tl) g tb D σ H:=by
 cases k
 ·exact tv _ ⟨a,rfl,⟨_,bX.of (hl 0 σ H h0)⟩,ju Pv h0 (λi σ H _ p=>bX.of (hl i σ H p)) hs hd⟩
 ·exact tv _ ⟨a,rfl,⟨_,aA.of (hl 0 σ H h0)⟩,bq Pv h0 (λi σ H _ p=>aA.of (hl i σ H p)) hs hd⟩
def AX(k:Bool){f C:Addr}{fd:FuncData}(F:dj K "add_spots" "Web.add_spots" As f fd)(T:Txt K mg)(CT:gX K C)(DM:gI P w K mg base "members" hV ["bits"] 1 jV)
  (DB:gI P w K mg base "bit" xW ["number"] 1 xy):a9 P w K mg base cR 2 f fd ["self", "places", "giver", "beside"] (Bw C (kd k)):=by
 refine F.oK rY λcdv A outer s H vs Q E hr h=>?_
 ·obtain⟨x,dx,pa,aS,aT,aB,aP,fs,W,g,b,xs,rfl,fa,nST,nSB,nTB,hW,hpa,npa,hfit,kk⟩:=h
  have hsl:=Lg
  have hu:=eZ hr
  refine⟨_,aj (bo K7 rfl (HP k (pv 1)) (eu 4 rY)
   (af (cD 5 rY (ay aY rfl T.len cx (aa (aZ (pv 0) rfl) ae)))
   (af (bj (c8 Lf Lc Ld bf (aZ (pv 0) rfl) (aa (gc (aa (pv 4) (aa (pv 2) ae))) ae)))
   (af (bj (c8 Lf Lc Ld bf (aZ (pv 0) rfl) (aa ak ae)))
   (af (bj (c8 Lf Lc Ld bf (aZ (pv 0) rfl) (aa (pv 3) ae)))
   (af (bo K7 rfl (aL (e7 DM hr (aa (pv 3) ae))) (eu 6 rY)
    (aj (ko (az oP (aM aE (aZ (pv 0) rfl) (pv 6) (λ_ _=>rfl)) (e7 DB hr (aa (pv 5) ae))) (uP (aZ (pv 0) rfl) (pv 6) set_list))))
   (af (gQ hu (aZ (pv 0) rfl) (pv 4) (az oP (iF hu (aZ (pv 0) rfl) (pv 4) (λ_ _=>rfl)) (e7 DB hr (aa (pv 5) ae))) rfl)
   (aj (cD 3 rY (az oP (pv 3) (e7 DB hr (aa (pv 5) ae)))))))))))),?_⟩
  clear hu
  dsimp only[bK,Cx.dP]
  have nT:pa≠aS/\pa≠aT/\pa≠aB/\pa≠aP:=by simpa using npa
  refine Gp k (K:=K) (a:=pa) (xs:=aH xs) (Jf C H x dx pa aS aT aB aP fs W g b xs)
   ⟨none,none,none,rfl,hW,λ_ _ z _=>z⟩ (λi σ H2 h=>h.but pa _ hpa npa) ?_ ?_ λ_ q=>⟨_,rfl,q⟩
  ·rintro i v σ H2 hi ⟨v4,v5,v6,rfl,hA,but⟩
   obtain⟨z,hz,rfl⟩:=dy hi
   have hil:=(KQ.mp hz).1
   have etk:=au hz
   have fit:kO (bu g (W,b) (xs.take i)) (z::xs.drop (i+1)):=by
    refine kO.Ij (g:=g) ?_
    have e:xs.take i++z::xs.drop (i+1)=xs:=by
     have:=M8 (i+1) xs
     rw[etk,Mw]at this
     exact this
    rw[e]
    exact hfit
   have ep:bu g (W,b) (xs.take (i+1))=gj g (bu g (W,b) (xs.take i)) z:=by rw[etk,kE]
   have goal:∀H',Cm C H' x dx fs aS aT aB aP (gj g (bu g (W,b) (xs.take i)) z).1->ij [aS,aT,aB,aP] H H'->∀v4 v5 v6,Jf C H x dx pa aS aT aB aP fs W g b xs (i+1) [some (.ref x),some (.ref pa),some (gv g),some (nat (gj g (bu g (W,b) (xs.take i)) z).2),v4,v5,v6] H':=λH' h1 h2 v4 v5 v6=>⟨v4,v5,v6,by rw[ep],by rw[ep];exact h1,h2⟩
   generalize bu g (W,b) (xs.take i)=p at hA fit goal ⊢
   clear ep etk hi hz hil
   obtain⟨⟨sp,tk,be,pl⟩,b1⟩:=p
   obtain⟨ins,⟨qs,hS,hq⟩,hT,hB,hP⟩:=hA
   have lq:qs.length=sp.length:=(KZ hq).symm
   have f1:tk.length=sp.length:=fit.tk
   have f2:be.length=sp.length:=fit.be
   have f3:b1<2 ^ sp.length:=fit.lt
   have f4:sp.length+(z::xs.drop (i+1)).length<=250:=fit.jk
   rw[Lj]at f4
   have f5:z∈pl.map (·.1):=fit.key z K9
   have f6:(pl.map (·.1)).Nodup:=fit.nd
   have f7:pl.length<=12:=fit.sm
   dsimp only at hS hq hT hB hP
   refine⟨_,rfl,x,C,dx,_,_,rfl,ins,CT.cl,CT.nS,fa.s,_,sp.length,rfl,.inl ⟨_,aA.of hS,by rw[Kw,lq]⟩,?_⟩
   refine⟨_,rfl,x,C,dx,_,_,rfl,ins,CT.cl,CT.nS,fa.s,.inl ⟨rfl,_,aA.of hS⟩,_,rfl,_,rfl,by show 2<=sizeLine;lia,λq nq=>?_⟩
   obtain⟨H3,eU,s3,hq3⟩:=oh nq (.tup [.str z,gv g])
   rw[eU]
   have hS3:=s3 _ _ hS
   have sq3:iy H3 (sp++[(z,g)]) (qs++[q]):=L1 (Paired.cH hq λp q e=>s3 _ _ e) hq3
   refine⟨aS,_,_,rfl,rfl,hS3,by rw[Kw];lia,?_⟩
   have es:qs.map V.ref++[V.ref q]=(qs++[q]).map V.ref:=by rw[KS];rfl
   rw[es]
   have xS:x≠aS:=aQ ins hS (λz=>nomatch z)
   have xT:x≠aT:=aQ ins hT (λz=>nomatch z)
   have xB:x≠aB:=aQ ins hB (λz=>nomatch z)
   have xP:x≠aP:=aQ ins hP (λz=>nomatch z)
   have SP:aS≠aP:=aQ hS hP (λz=>nomatch z)
   have TP:aT≠aP:=aQ hT hP (λz=>nomatch z)
   have BP:aB≠aP:=aQ hB hP (λz=>nomatch z)
   have b4:ij [aS,aT,aB,aP] H (upd H3 aS (.lst ((qs++[q]).map V.ref))):=(but.same s3).upd (by simp)
   have i4:(upd H3 aS (.lst ((qs++[q]).map V.ref))) x=some (.ins C dx fs):=by rw[ah xS];exact s3 _ _ ins
   have S4:(upd H3 aS (.lst ((qs++[q]).map V.ref))) aS=some (.lst ((qs++[q]).map V.ref)):=ag
   have T4:(upd H3 aS (.lst ((qs++[q]).map V.ref))) aT=some (.lst (nats tk)):=by rw[ah nST.symm];exact s3 _ _ hT
   have B4:(upd H3 aS (.lst ((qs++[q]).map V.ref))) aB=some (.lst (nats be)):=by rw[ah nSB.symm];exact s3 _ _ hB
   have P4:(upd H3 aS (.lst ((qs++[q]).map V.ref))) aP=some (.dK (jH pl)):=by rw[ah SP.symm];exact s3 _ _ hP
   have q4:=iy.put (o':=.lst ((qs++[q]).map V.ref)) sq3 hS3
   generalize upd H3 aS (.lst ((qs++[q]).map V.ref))=H4 at b4 i4 S4 T4 B4 P4 q4 ⊢
   refine⟨_,rfl,x,C,dx,_,_,rfl,i4,CT.cl,CT.nT,fa.t,.inl ⟨rfl,_,aA.of T4⟩,aT,_,_,rfl,rfl,T4,by rw[bp];lia,?_⟩
   have et:nats tk++[V.int 0]=nats (tk++[0]):=iL tk 0
   rw[et]
   have b5:=b4.upd (a:=aT) (o:=.lst (nats (tk++[0]))) (by simp)
   have i5:(upd H4 aT (.lst (nats (tk++[0])))) x=some (.ins C dx fs):=by rw[ah xT];exact i4
   have S5:(upd H4 aT (.lst (nats (tk++[0])))) aS=some (.lst ((qs++[q]).map V.ref)):=by rw[ah nST];exact S4
   have T5:(upd H4 aT (.lst (nats (tk++[0])))) aT=some (.lst (nats (tk++[0]))):=ag
   have B5:(upd H4 aT (.lst (nats (tk++[0])))) aB=some (.lst (nats be)):=by rw[ah nTB.symm];exact B4
   have P5:(upd H4 aT (.lst (nats (tk++[0])))) aP=some (.dK (jH pl)):=by rw[ah TP.symm];exact P4
   have q5:=iy.put (o':=.lst (nats (tk++[0]))) q4 T4
   generalize upd H4 aT (.lst (nats (tk++[0])))=H5 at b5 i5 S5 T5 B5 P5 q5 ⊢
   refine⟨_,rfl,x,C,dx,_,_,rfl,i5,CT.cl,CT.nB,fa.b,.inl ⟨rfl,_,aA.of B5⟩,_,rfl,aB,_,_,rfl,rfl,B5,by rw[bp];lia,?_⟩
   rw[iL]
   have b6:=b5.upd (a:=aB) (o:=.lst (nats (be++[b1]))) (by simp)
   have i6:(upd H5 aB (.lst (nats (be++[b1])))) x=some (.ins C dx fs):=by rw[ah xB];exact i5
   have S6:(upd H5 aB (.lst (nats (be++[b1])))) aS=some (.lst ((qs++[q]).map V.ref)):=by rw[ah nSB];exact S5
   have T6:(upd H5 aB (.lst (nats (be++[b1])))) aT=some (.lst (nats (tk++[0]))):=by rw[ah nTB];exact T5
   have B6:(upd H5 aB (.lst (nats (be++[b1])))) aB=some (.lst (nats (be++[b1]))):=ag
   have P6:(upd H5 aB (.lst (nats (be++[b1])))) aP=some (.dK (jH pl)):=by rw[ah BP.symm];exact P5
   have q6:=iy.put (o':=.lst (nats (be++[b1]))) q5 B5
   generalize upd H5 aB (.lst (nats (be++[b1])))=H6 at b6 i6 S6 T6 B6 P6 q6 ⊢
   have b256:b1<2 ^ 256:=K4 f3 (LC (by decide) (by lia))
   refine⟨_,rfl,b1,rfl,b256,λH7 ml s7 nml hml=>?_⟩
   have mB:ml≠aB:=(ai B6 nml).symm
   have b7:=b6.same s7
   have i7:=s7 _ _ i6
   have S7:=s7 _ _ S6
   have T7:=s7 _ _ T6
   have B7:=s7 _ _ B6
   have P7:=s7 _ _ P6
   have q7:iy H7 (sp++[(z,g)]) (qs++[q]):=Paired.cH q6 λp q e=>s7 _ _ e
   clear s7 nml
   refine⟨ml,rfl,⟨_,aA.of hml⟩,bq (K:=K) (a:=ml) (xs:=nats (mem b1)) (AdJ H7 x pa aB ml g b1 sp.length z (be++[b1]))
    ⟨_,rfl,?_⟩ (λj σ H8 _ h=>?_) ?_ ?_⟩
   ·show H7=upd H7 aB (.lst (nats (be++[b1])))
    rw[Dy B7]
   ·obtain⟨v6,_,rfl⟩:=h
    refine aA.of ?_
    rw[ah mB]
    exact hml
   ·rintro j v σ H8 hj ⟨v6,rfl,rfl⟩
    obtain⟨k,hk,rfl⟩:∃k,(mem b1)[j]?=some k/\v=nat k:=by
     unfold nats at hj
     rw[KH]at hj
     obtain⟨k,e1,e2⟩:=LW.mp hj
     exact⟨k,e1,e2.symm⟩
    have kl:k<sp.length:=vq f3 (KJ hk)
    have ol:(bL (be++[b1]) ((mem b1).take j) sp.length).length=sp.length+1:=by rw[dE,KA,f2];rfl
    have e8:(upd H7 aB (.lst (nats (bL (be++[b1]) ((mem b1).take j) sp.length)))) aB=some (.lst (nats (bL (be++[b1]) ((mem b1).take j) sp.length))):=ag
    have i8:(upd H7 aB (.lst (nats (bL (be++[b1]) ((mem b1).take j) sp.length)))) x=some (.ins C dx fs):=by rw[ah xB];exact i7
    refine⟨_,rfl,x,C,dx,_,_,rfl,i8,CT.cl,CT.nB,fa.b,_,rfl,aB,_,_,_,rfl,rfl,aA.of e8,aF (gC (by rw[ol];lia)),_,rfl,sp.length,rfl,by lia,_,_,rfl,rfl,?_⟩
    dsimp only[nat]
    rw[jb]
    refine⟨_,rfl,x,C,dx,_,_,rfl,i8,CT.cl,CT.nB,fa.b,_,rfl,aB,_,_,k,rfl,rfl,e8,wg (by rw[bp,ol];lia),?_⟩
    refine⟨_,rfl,?_⟩
    rw[CQ,au hk,ni]
    have:=rn (bL (be++[b1]) ((mem b1).take j) sp.length) k ((bL (be++[b1]) ((mem b1).take j) sp.length).getD k 0 ||| 2 ^ sp.length)
    unfold nat at this
    rw[this]
    rfl
   ·rintro σ H8 ⟨v6,rfl,rfl⟩
    rw[bp,Le]
    generalize hbe:bL (be++[b1]) (mem b1) sp.length=be2
    have b8:=b7.upd (a:=aB) (o:=.lst (nats be2)) (by simp)
    have i8:(upd H7 aB (.lst (nats be2))) x=some (.ins C dx fs):=by rw[ah xB];exact i7
    have S8:(upd H7 aB (.lst (nats be2))) aS=some (.lst ((qs++[q]).map V.ref)):=by rw[ah nSB];exact S7
    have T8:(upd H7 aB (.lst (nats be2))) aT=some (.lst (nats (tk++[0]))):=by rw[ah nTB];exact T7
    have B8:(upd H7 aB (.lst (nats be2))) aB=some (.lst (nats be2)):=ag
    have P8:(upd H7 aB (.lst (nats be2))) aP=some (.dK (jH pl)):=by rw[ah BP.symm];exact P7
    have q8:=iy.put (o':=.lst (nats be2)) q7 B7
    generalize upd H7 aB (.lst (nats be2))=H8 at b8 i8 S8 T8 B8 P8 q8 ⊢
    obtain⟨m,hm⟩:=CV f5
    have dg:gP H8 aP (V.str z) (some (nat m)):=by rw[<-hm];exact gP.k (k:=Sum.inr z) P8
    refine⟨_,rfl,x,C,dx,_,_,rfl,i8,CT.cl,CT.nP,fa.p,_,rfl,aP,nat m,rfl,dg,_,rfl,sp.length,rfl,by lia,_,_,rfl,rfl,?_⟩
    dsimp only[nat]
    rw[jb]
    refine⟨_,rfl,x,C,dx,_,_,rfl,i8,CT.cl,CT.nP,fa.p,_,rfl,aP,_,rfl,ku.k (k:=Sum.inr z) P8 (by unfold jH;rw[List.length_map];lia),?_⟩
    have pk:=DD (n:=sp.length) f6 hm
    unfold nat at pk
    rw[pk]
    refine⟨_,rfl,_,rfl,sp.length,rfl,by lia,_,_,rfl,rfl,?_⟩
    dsimp only[nat]
    rw[jb]
    refine goal _ ⟨?_,⟨qs++[q],?_,?_⟩,?_,?_,?_⟩ (b8.upd (by simp)) _ _ _
    ·rw[ah xP];exact i8
    ·rw[ah SP];exact S8
    ·exact iy.putD q8 P8
    ·rw[ah TP];exact T8
    ·rw[ah BP,B8,<-hbe];rfl
    ·exact ag
  ·rintro σ H2 ⟨v4,v5,v6,rfl,hA,but⟩
   rw[aw,Le]at hA
   exact kk H2 hA but
end Uf
end
section
namespace Uf
open PySem L2 UfSrt UfFin
def Ak:(("start":Str) == "place_names")=false:=by decide +kernel
def Aw:(("start":Str) == "start_state")=false:=by decide +kernel
def zT:(("start":Str) == "taken_by")=false:=by decide +kernel
def Au:(("start":Str) == "given_by")=false:=by decide +kernel
def mw(C:Addr):Sp:=λvs H Q _=>∃(p:Addr) (ms:List Mv) (st:List Str),vs=[.ref p]/\cB C H p ms st/\UfBfs.Told (graph ms) (aI st) none/\∀H',aq H H'->Q .non H'
inductive CrI(H:Hp)(p d:Addr)(ms:List Mv)(st:List Str)(m:Nat)(σ:St)(H4:Hp):Prop
 |mk (a:Addr) (l n:Nat) (v3 v4:Option V) (q0:σ=[some (.ref p),some (.ref d),some (.ref a),v3,v4]) (q1:aq H H4) (q2:Er ms st H4 a l) (q3:gh ms st H4 d n) (q4:m=2*(5000-n)+(if l=0 then 0 else 1))
def dZ:aD ["net", "ways", "states", "state", "move"] ["net"] (ar iB):=eA
def rE{f C:Addr}{fd:FuncData}(F:dj K "crowding" "crowding" iB f fd)(CT:gO K C)(DS:jE P w K mg base C "start" "Net.start" mh ["self"] 1 (pI C))
  (DC:gI P w K mg base "crowder" jM ["net", "state"] 5 (oZ K C))
  (DN:gI P w K mg base "newly_reached" qk ["net", "states", "ways"] 6 (xb C)) :
  a9 P w K mg base cR 7 f fd ["net"] (mw C):=by
 refine F.oK dZ λcdv A outer s H vs Q E hr h=>?_
 ·obtain⟨p,ms,st,rfl,N,told,kn⟩:=h
  have hu:=eZ hr
  have hr1:cI 1 _:=hr.mono (by decide)
  have hr5:cI 5 _:=hr.mono (by decide)
  refine⟨_,af (cD 1 dZ (xV hu (cE (pv 0) CT.cl DS.d.mt DS.g hr1 DS.d.bd .nil br) gS))
   (af (cD 2 dZ (eQ (aa (cE (pv 0) CT.cl DS.d.mt DS.g hr1 DS.d.bd .nil br) ae)))
   (af (mS K7 (sY (pv 2) (λ_=>rfl))
    (af (bo K7 rfl (aL (pv 2)) (eu 3 dZ)
     (af (cD 4 dZ (e7 DC hr5 (aa (pv 0) (aa (pv 3) ae))))
      (aj (bO (mr (xx (pv 4))) (aj dq) aX))))
    (aj (cD 2 dZ (e7 DN hr (aa (pv 0) (aa (pv 2) (aa (pv 1) ae))))))))
   (aj (aK gS)))),?_⟩
  clear hu
  dsimp only[bK,Cx.dP]
  have so:=N.so
  have hsl:=Lg
  intro d nd
  have sd:aq H (upd H d (.dT [])):=ao nd
  have N1:=N.same sd
  obtain⟨dx,aP,aS,aT,aG,kT,kG,h1,_⟩:=N1.at'.ob
  refine⟨_,rfl,p,dx,_,rfl,h1,c6 _ _ _ _ Ak Aw zT Au,p,ms,st,rfl,N1,λq hq=>?_⟩
  refine⟨ag,qw (aI st),q,rfl,(by rw[vS];exact hq),?_⟩
  have nqd:q≠d:=aQ hq ag (λz=>nomatch z)
  have s2:aq H (upd (upd H d (.dT [])) d (.dT [(qw (aI st),V.non)])):=aU sd nd
  have hd2:(upd (upd H d (.dT [])) d (.dT [(qw (aI st),V.non)])) d=some (.dT [(qw (aI st),V.non)]):=ag
  have hq2:(upd (upd H d (.dT [])) d (.dT [(qw (aI st),V.non)])) q=some (.tup (aH (aI st))):=by rw[ah nqd];exact hq
  generalize upd (upd H d (.dT [])) d (.dT [(qw (aI st),V.non)])=H2 at s2 hd2 hq2 ⊢
  have N2:=N.same s2
  obtain⟨dx2,aP2,aS2,aT2,aG2,kT2,kG2,h2,_⟩:=N2.at'.ob
  refine⟨_,rfl,p,dx2,_,rfl,h2,c6 _ _ _ _ Ak Aw zT Au,p,ms,st,rfl,N2,λq' hq'=>⟨by show 1<=sizeLine;lia,λa na=>?_⟩⟩
  have s3:aq H2 (upd H2 a (.lst [.ref q'])):=ao na
  have fs:Jq ms st (aI st):=⟨vd so,0,.zero⟩
  refine⟨CrI H p d ms st,⟨_,a,1,1,none,none,rfl,s2.trans s3,⟨[q'],ag,rfl,λ_ h=>⟨_,by cases KG.mp h;exact s3 _ _ hq',fs⟩⟩,⟨_,[aI st],s3 _ _ hd2,rfl,by simp,λ_ h=>by cases KG.mp h;exact fs.fine,rfl⟩,rfl⟩,?_⟩
  rintro m σ H4 ⟨a,l,n,v3,v4,rfl,s4,S4,W4,em⟩
  obtain⟨qs,ha4,rfl,hp4⟩:=id S4
  refine⟨_,rfl,_,.inl ⟨_,aA.of ha4,rfl⟩,?_⟩
  cases qs with
  |nil=>exact bF (kn H4 s4)
  |cons q0 qs =>
   refine cv ⟨λσ' H'=>∃m',m'<m/\CrI H p d ms st m' σ' H',λσ' H' h=>h,?_⟩
   refine⟨_,rfl,a,rfl,⟨_,aA.of ha4⟩,bq (K:=K) (a:=a) (xs:=(q0::qs).map V.ref) (λi σ H5=>∃(v3 v4:Option V),σ=[some (.ref p),some (.ref d),some (.ref a),v3,v4]/\aq H4 H5)
    ⟨v3,v4,rfl,aq.refl _⟩ (λi σ H5 _ ⟨_,_,_,s5⟩=>aA.of (s5 _ _ ha4)) ?_ ?_⟩
   ·rintro i v σ H5 hi ⟨v3,v4,rfl,s5⟩
    obtain⟨tq,hqi,rfl⟩:=fA hi
    obtain⟨t,htq,hf,k,hk⟩:=hp4 _ (KJ hqi)
    have lt:=hf.len so
    exact⟨_,rfl,_,rfl,p,tq,ms,st,t,rfl,N.same (s4.trans s5),bX.of (s5 _ _ htq),by lia,told k t hk,λH6 s6=>⟨_,rfl,_,rfl,bF ⟨_,_,rfl,s5.trans s6⟩⟩⟩
   ·rintro σ H5 ⟨v3,v4,rfl,s5⟩
    refine⟨_,rfl,_,rfl,_,rfl,p,a,d,ms,st,n,_,rfl,N.same (s4.trans s5),S4.same s5,W4.same s5,λH6 q6 l' n' b6 nq6 S6 W6 le=>?_⟩
    have jk:=W6.jk so
    refine⟨_,?_,q6,l',n',_,_,rfl,λc o e=>b6 c o ((s4.trans s5) c o e) (ai e nd),S6,W6,rfl⟩
    have em:m=2*(5000-n)+1:=em
    rw[em]
    split <;> lia
end Uf
end
section
namespace Uf
open PySem L2 UfSrt UfFin UfB
def xN(p aS aO aN aW aG aB aT aP:Addr):List (Str×V):=bh "place_bits" (.ref aP) (bh "taker_bits" (.ref aT) (bh "beside_bits" (.ref aB) (bh "given_bits" (.ref aG) (bh "own_bits" (.ref aW) (bh "numbers_there" (.ref aN) (bh "occurrence_tuples" (.ref aO) (bh "spot_tuples" (.ref aS) (bh "base_net" (.ref p) []))))))))
def j5(p aS aO aN aW aG aB aT aP:Addr):AdF (xN p aS aO aN aW aG aB aT aP) aS aT aB aP:=by
 unfold xN
 refine⟨?_,?_,?_,?_⟩
 ·rw[av,KD (by decide +kernel),av,KD (by decide +kernel),av,KD (by decide +kernel),av,KD (by decide +kernel),av,KD (by decide +kernel),av,KD (by decide +kernel),av,KD (by decide +kernel),av,KP rfl]
 ·rw[av,KD (by decide +kernel),av,KP rfl]
 ·rw[av,KD (by decide +kernel),av,KD (by decide +kernel),av,KP rfl]
 ·rw[av,KP rfl]
def FE(p aS aO aN aW aG aB aT aP:Addr):(xN p aS aO aN aW aG aB aT aP).lookup ("add_spots":Str)=none:=by
 unfold xN
 rw[av,KD (by decide +kernel),av,KD (by decide +kernel),av,KD (by decide +kernel),av,KD (by decide +kernel),av,KD (by decide +kernel),av,KD (by decide +kernel),av,KD (by decide +kernel),av,KD (by decide +kernel),av,KD (by decide +kernel)]
 rfl
theorem tI(f:Str)(v:V):∀fs:List (Str×V),(bh f v fs).length<=fs.length+1
 |[]=>by simp[bh]
 |(g,x)::r=>by
  have:=tI f v r
  unfold bh
  split <;> simp <;> lia
structure WI(H0:Hp)(x dx C:Addr)(fs:List (Str×V))(new:List (Addr×HO))(H:Hp):Prop where
 ins:H x=some (.ins C dx fs)
 old:∀c o,H0 c=some o->c≠x->H c=some o
 here:∀p∈new,H p.1=some p.2
 nx:∀p∈new,p.1≠x
 fr:∀p∈new,H0 p.1=none
 nd:(new.map (·.1)).Nodup
 len:fs.length<=new.length+1
def WI.put{H0:Hp}{x dx C a:Addr}{fs:List (Str×V)}{new:List (Addr×HO)}{H:Hp}{o:HO}(f:Str)(h:WI H0 x dx C fs new H)(ha:H a=none) :
  WI H0 x dx C (bh f (.ref a) fs) ((a,o)::new) (upd (upd H a o) x (.ins C dx (bh f (.ref a) fs))):=by
 have ax:a≠x:=(ai h.ins ha).symm
 refine⟨ag,λc u e n=>?_,λp hp=>?_,λp hp=>?_,λp hp=>?_,?_,?_⟩
 ·have e2:=h.old c u e n
  rw[ah n,ah (ai e2 ha)]
  exact e2
 ·rcases KR.mp hp with rfl|hp
  ·rw[ah ax];exact ag
  ·have e2:=h.here p hp
   rw[ah (h.nx p hp),ah (ai e2 ha)]
   exact e2
 ·rcases KR.mp hp with rfl|hp
  ·exact ax
  ·exact h.nx p hp
 ·rcases KR.mp hp with rfl|hp
  ·cases q:H0 a with
   |none=>rfl
   |some u =>
    have:=h.old a u q ax
    rw[ha]at this
    cases this
  ·exact h.fr p hp
 ·refine LR.mpr ⟨λhm=>?_,h.nd⟩
  obtain⟨p,hp,e⟩:=K0.mp hm
  have:=h.here p hp
  rw[e,ha]at this
  cases this
 ·have:=tI f (.ref a) fs
  have:=h.len
  rw[Lj]
  lia
def WI.same{H0:Hp}{x dx C:Addr}{fs:List (Str×V)}{new:List (Addr×HO)}{H H':Hp}(h:WI H0 x dx C fs new H)(s:aq H H'):WI H0 x dx C fs new H' :=
 ⟨s _ _ h.ins,λc o e n=>s _ _ (h.old c o e n),λp hp=>s _ _ (h.here p hp),h.nx,h.fr,h.nd,h.len⟩
def WI.iU{H0:Hp}{x dx C:Addr}{fs:List (Str×V)}{new:List (Addr×HO)}{H:Hp}(h:WI H0 x dx C fs new H):∀a∈new.map (·.1),H0 a=none:=λa ha=>by
 obtain⟨q,hq,e⟩:=K0.mp ha
 rw[<-e]
 exact h.fr q hq
def cB.Ie{C D x dx p:Addr}{H H':Hp}{ms:List Mv}{st:List Str}(N:cB C H p ms st)(hx:H x=some (.ins D dx []))(b:∀c o,H c=some o->c≠x->H' c=some o):cB C H' p ms st:=by
 obtain⟨dn,aP,aS,aT,aG,kT,kG,h1,h2,h3,h4,h5,h6,h7⟩:=N.at'.ob
 have tp:∀c xs,H c=some (.tup xs)->H' c=some (.tup xs):=λc xs e=>b c _ e (aQ e hx (λz=>nomatch z))
 refine⟨⟨⟨dn,aP,aS,aT,aG,kT,kG,b _ _ h1 (aQ h1 hx (λz=>by injection z with _ _ z3;cases z3)),tp _ _ h2,tp _ _ h3,b _ _ h4 (aQ h4 hx (λz=>nomatch z)),b _ _ h5 (aQ h5 hx (λz=>nomatch z)),h6.same tp,h7.same tp⟩⟩,N.so⟩
def Ec:bootBuiltins "dict"=some (.type "dict"):=by decide +kernel
inductive BD(CW:Addr)(H0 H:Hp)(x p:Addr)(W:nX):Prop
 |mk (dx aS aO aN aW aG aB aT aP:Addr) (hA:Cm CW H x dx (xN p aS aO aN aW aG aB aT aP) aS aT aB aP W) (hO:H aO=some (.lst [])) (hN:H aN=some (.dK [])) (hW:H aW=some (.lst [])) (hG:H aG=some (.lst [])) (nd:[aP,aT,aB,aG,aW,aN,aO,aS].Nodup) (fr:∀a∈[aP,aT,aB,aG,aW,aN,aO,aS],H0 a=none)
def qC(ms:List Mv)(st:List Str):(cL ms st).Nodup:=by
 unfold cL
 exact(bN _).nodup_iff.mpr (UfSet.me _)
def Be{ms:List Mv}{st:List Str}{y:Str}(h:y∈st):y∈cL ms st:=bJ.mpr (UfSet.qB.mpr (Lr _ h))
def W0(ms:List Mv)(st:List Str):nX:=⟨[],[],[],(cL ms st).map λx=>(x,0)⟩
def xu(C CW:Addr):Sp:=λvs H Q E=>∃(x dx p:Addr) (ms:List Mv) (st:List Str),vs=[.ref x,.ref p]/\H x=some (.ins CW dx [])/\cB C H p ms st/\UfBfs.Told (graph ms) (aI st) none /\
 ∀H',BD CW H H' x p (bu none (W0 ms st,0) (aI st)).1->(∀c o,H c=some o->c≠x->H' c=some o)->Q .non H'
def pH:aD ["self", "net", "row"] ["self", "net"] (ar u7):=eA
def A9(C:Addr):Sp:=λvs H Q _=>∃(p:Addr) (ms:List Mv) (st:List Str),vs=[.ref p]/\cB C H p ms st/\∀H' q,aq H H'->H q=none->H' q=some (.lst (aH (cL ms st)))->Q (.ref q) H'
def FR:aD ["self"] ["self"] (ar wL):=eA
def B3{f C:Addr}{fd:FuncData}(F:dj K "places" "Net.places" wL f fd)(T:Txt K mg)(CT:gO K C):a9 P w K mg base cR 1 f fd ["self"] (A9 C):=by
 refine F.oK FR λcdv A outer s H vs Q E hr h=>?_
 ·obtain⟨p,ms,st,rfl,N,k⟩:=h
  obtain⟨dx,aP,aS,aT,aG,kT,kG,h1,h2,h3,h4,h5,h6,h7⟩:=N.at'.ob
  refine⟨_,aj (aK (bb cn rfl T.lst eR (aa (aZ (pv 0) rfl) ae))),?_⟩
  try dsimp only[bK,Cx.dP,Cx.bQ]
  exact⟨_,rfl,p,C,dx,_,_,rfl,h1,CT.cl,CT.nP,IE _ _ _ _,aP,_,rfl,.inr (bX.of h2),λq nq=>k _ q (ao nq) nq ag⟩
def HM:(("places":Str) == "place_names")=false:=by decide +kernel
def Hz:(("places":Str) == "start_state")=false:=by decide +kernel
def Ii:(("places":Str) == "taken_by")=false:=by decide +kernel
def Il:(("places":Str) == "given_by")=false:=by decide +kernel
def An{f C CW:Addr}{fd:FuncData}(F:dj K "__init__" "Web.__init__" u7 f fd)(T:Txt K mg)(dct:mg "dict"=none)(NC:gO K C)(CT:gX K CW)
  (DC:gI P w K mg base "crowding" iB ["net"] 7 (mw C))
  (DP:jE P w K mg base C "places" "Net.places" wL ["self"] 1 (A9 C))
  (DS:jE P w K mg base C "start" "Net.start" mh ["self"] 1 (pI C))
  (DA:jE P w K mg base CW "add_spots" "Web.add_spots" As ["self", "places", "giver", "beside"] 2 (Bw CW .tup)) :
  a9 P w K mg base cR 8 f fd ["self", "net"] (xu C CW):=by
 refine F.oK pH λcdv A outer s H vs Q E hr h=>?_
 ·obtain⟨x,dx,p,ms,st,rfl,hx,N,told,kk⟩:=h
  have hsl:=Lg
  have hr1:cI 1 _:=hr.mono (by decide)
  have hr2:cI 2 _:=hr.mono (by decide)
  refine⟨_,af (cD 2 pH (e7 DC hr (aa (pv 1) ae)))
   (af (bO (mr (xx (pv 2))) (aj dq) aX)
   (af (d0 (pv 0) (pv 1) rfl)
   (af (d0 (pv 0) (eQ ae) rfl)
   (af (d0 (pv 0) (eQ ae) rfl)
   (af (d0 (pv 0) gz rfl)
   (af (d0 (pv 0) (eQ ae) rfl)
   (af (d0 (pv 0) (eQ ae) rfl)
   (af (d0 (pv 0) (eQ ae) rfl)
   (af (d0 (pv 0) (eQ ae) rfl)
   (af (d0 (pv 0) (bb (uB rfl) rfl dct Ec (aa (bB (N:=["place"]) (n:=1) (ci:=[]) rfl (aL (cE (pv 1) NC.cl DP.d.mt DP.g hr1 DP.d.bd .nil br)) (iO pH) (λz=>⟨g0 0,bD,gc (aa (pv 0) (aa ak ae))⟩)) ae)) rfl)
   (aj (bj (cz (pv 0) CT.cl DA.d.mt DA.g hr2 DA.d.bd .nil br (aa (cE (pv 1) NC.cl DS.d.mt DS.g hr1 DS.d.bd .nil br) (aa gS (aa ak ae)))))))))))))))),?_⟩
  try dsimp only[bK,Cx.dP,Cx.bQ]
  refine⟨_,rfl,p,ms,st,rfl,N,told,λH1 s1=>?_⟩
  ·refine⟨_,rfl,_,rfl,?_⟩
   refine bF ?_
   refine⟨_,rfl,_,rfl,x,CW,dx,_,rfl,s1 _ _ hx,CT.cl,CT.nN,(by show 0<1000;decide),?_⟩
   have w0:WI H x dx CW (bh "base_net" (V.ref p) []) [] (upd H1 x (.ins CW dx (bh "base_net" (V.ref p) []))):=⟨ag,λc o e n=>by rw[ah n];exact s1 _ _ e,λq hq=>by simp at hq,λq hq=>by simp at hq,λq hq=>by simp at hq,.nil,by show 1<=0+1;decide⟩
   generalize upd H1 x (.ins CW dx (bh "base_net" (V.ref p) []))=G0 at w0 ⊢
   generalize hf0:bh "base_net" (V.ref p) []=f0 at w0 ⊢
   refine⟨K2 _,λaS naS=>⟨_,rfl,x,CW,dx,_,rfl,(by rw[ah (ai w0.ins naS)];exact w0.ins),CT.cl,CT.nS,Lz w0.len (by show 0+1<1000;decide),?_⟩⟩
   have w1:=w0.put (o:=.lst []) "spot_tuples" naS
   generalize upd (upd G0 aS (.lst [])) x (.ins CW dx (bh "spot_tuples" (V.ref aS) f0))=G1 at w1 ⊢
   generalize hf1:bh "spot_tuples" (V.ref aS) f0=f1 at w1 ⊢
   refine⟨K2 _,λaO naO=>⟨_,rfl,x,CW,dx,_,rfl,(by rw[ah (ai w1.ins naO)];exact w1.ins),CT.cl,CT.nO,Lz w1.len (by show 1+1<1000;decide),?_⟩⟩
   have w2:=w1.put (o:=.lst []) "occurrence_tuples" naO
   generalize upd (upd G1 aO (.lst [])) x (.ins CW dx (bh "occurrence_tuples" (V.ref aO) f1))=G2 at w2 ⊢
   generalize hf2:bh "occurrence_tuples" (V.ref aO) f1=f2 at w2 ⊢
   refineλaN naN=>⟨_,rfl,x,CW,dx,_,rfl,(by rw[ah (ai w2.ins naN)];exact w2.ins),CT.cl,CT.nH,Lz w2.len (by show 2+1<1000;decide),?_⟩
   have w3:=w2.put (o:=.dK []) "numbers_there" naN
   generalize upd (upd G2 aN (.dK [])) x (.ins CW dx (bh "numbers_there" (V.ref aN) f2))=G3 at w3 ⊢
   generalize hf3:bh "numbers_there" (V.ref aN) f2=f3 at w3 ⊢
   refine⟨K2 _,λaW naW=>⟨_,rfl,x,CW,dx,_,rfl,(by rw[ah (ai w3.ins naW)];exact w3.ins),CT.cl,CT.nW,Lz w3.len (by show 3+1<1000;decide),?_⟩⟩
   have w4:=w3.put (o:=.lst []) "own_bits" naW
   generalize upd (upd G3 aW (.lst [])) x (.ins CW dx (bh "own_bits" (V.ref aW) f3))=G4 at w4 ⊢
   generalize hf4:bh "own_bits" (V.ref aW) f3=f4 at w4 ⊢
   refine⟨K2 _,λaG naG=>⟨_,rfl,x,CW,dx,_,rfl,(by rw[ah (ai w4.ins naG)];exact w4.ins),CT.cl,CT.nG,Lz w4.len (by show 4+1<1000;decide),?_⟩⟩
   have w5:=w4.put (o:=.lst []) "given_bits" naG
   generalize upd (upd G4 aG (.lst [])) x (.ins CW dx (bh "given_bits" (V.ref aG) f4))=G5 at w5 ⊢
   generalize hf5:bh "given_bits" (V.ref aG) f4=f5 at w5 ⊢
   refine⟨K2 _,λaB naB=>⟨_,rfl,x,CW,dx,_,rfl,(by rw[ah (ai w5.ins naB)];exact w5.ins),CT.cl,CT.nB,Lz w5.len (by show 5+1<1000;decide),?_⟩⟩
   have w6:=w5.put (o:=.lst []) "beside_bits" naB
   generalize upd (upd G5 aB (.lst [])) x (.ins CW dx (bh "beside_bits" (V.ref aB) f5))=G6 at w6 ⊢
   generalize hf6:bh "beside_bits" (V.ref aB) f5=f6 at w6 ⊢
   refine⟨K2 _,λaT naT=>⟨_,rfl,x,CW,dx,_,rfl,(by rw[ah (ai w6.ins naT)];exact w6.ins),CT.cl,CT.nT,Lz w6.len (by show 6+1<1000;decide),?_⟩⟩
   have w7:=w6.put (o:=.lst []) "taker_bits" naT
   generalize upd (upd G6 aT (.lst [])) x (.ins CW dx (bh "taker_bits" (V.ref aT) f6))=G7 at w7 ⊢
   generalize hf7:bh "taker_bits" (V.ref aT) f6=f7 at w7 ⊢
   have N7:cB C G7 p ms st:=N.Ie hx w7.old
   obtain⟨dn,bP,bS,bT,bG,kT,kG,h1,_⟩:=N7.at'.ob
   refine⟨_,rfl,p,dn,_,rfl,h1,c6 _ _ _ _ HM Hz Ii Il,p,ms,st,rfl,N7,λG8 q s8 nq hq=>?_⟩
   have w8:=w7.same s8
   have so:=N.so
   have lp:=so.pl
   refine⟨q,rfl,⟨_,aA.of hq⟩,λz D hD=>cg (a:=q) (xs:=aH (cL ms st)) (λj ys H10=>∃qs:List Addr,ys=qs.map V.ref/\H10 D=some (.lst ys)/\aq G8 H10/\mO H10 (((cL ms st).take j).map λx=>(x,V.int 0)) qs/\qs.length=j) ⟨[],rfl,ag,ao hD,.nil,rfl⟩ (λj ys H10 _ ⟨_,_,_,s10,_⟩=>aA.of (s10 _ _ hq)) ?_ ?_⟩
   ·rintro j v ys H10 hj ⟨qs,rfl,hys,s10,pq,lq⟩
    obtain⟨y,hy,rfl⟩:=dy hj
    have hjl:=(KQ.mp hy).1
    refine⟨_,rfl,by show 2<=sizeLine;lia,λt nt=>?_⟩
    obtain⟨H11,eU,s11,ht⟩:=oh nt (.tup [.str y,.int 0])
    rw[eU]
    have hys':=s11 _ _ hys
    refine⟨hys',by rw[Kw];lia,qs++[t],by rw[KS];rfl,ag,aU (s10.trans s11) hD,?_,by rw[KA,lq];rfl⟩
    rw[au hy,KS]
    refine L1 (Paired.cH pq λa b e=>?_) ?_
    ·rw[ah (aQ (s11 _ _ e) hys' (λz=>nomatch z))]
     exact s11 _ _ e
    ·show(upd H11 D _) t=some (.tup [.str y,.int 0])
     rw[ah (aQ ht hys' (λz=>nomatch z))]
     exact ht
   ·rintro ys H10 ⟨qs,rfl,hys,s10,pq,lq⟩
    rw[aw,Le]at pq
    have w9:=w8.same s10
    refine⟨D,qs,_,rfl,hys,pq,by rw[Kw];lia,?_,λaP naP=>?_⟩
    ·rw[Lk]
     show((cL ms st).map id).Nodup
     rw[Qd]
     exact qC ms st
    have ek:keyed ((cL ms st).map λx=>(x,V.int 0))=jH (W0 ms st).pl:=by
     unfold keyed jH W0
     rw[Lk,Lk]
     rfl
    rw[ek]
    refine⟨_,rfl,x,CW,dx,_,rfl,(by rw[ah (ai w9.ins naP)];exact w9.ins),CT.cl,CT.nP,Lz w9.len (by show 7+1<1000;decide),?_⟩
    have w10:=w9.put (o:=.dK (jH (W0 ms st).pl)) "place_bits" naP
    have ef:bh "place_bits" (V.ref aP) f7=xN p aS aO aN aW aG aB aT aP:=by rw[<-hf7,<-hf6,<-hf5,<-hf4,<-hf3,<-hf2,<-hf1,<-hf0];rfl
    rw[ef]at w10
    rw[ef]
    generalize upd (upd H10 aP (.dK (jH (W0 ms st).pl))) x (.ins CW dx (xN p aS aO aN aW aG aB aT aP))=G9 at w10 ⊢
    have N9:cB C G9 p ms st:=N.Ie hx w10.old
    obtain⟨dn,bP,bS,bT,bG,kT,kG,h1,_⟩:=N9.at'.ob
    have nd:=w10.nd
    have nd:[aP,aT,aB,aG,aW,aN,aO,aS].Nodup:=nd
    have nd2:=nd
    simp only[LR,KR,Lx,Mi,O5]at nd2
    obtain⟨⟨a1,a2,a3,a4,a5,a6,a7⟩,⟨t1,t2,t3,t4,t5,t6⟩,⟨c1,c2,c3,c4,c5⟩,⟨g1,g2,g3,g4⟩,⟨k1,k2,k3⟩,⟨l1,l2⟩,m1,_⟩:=nd2
    have eP:G9 aP=some (.dK (jH (W0 ms st).pl)):=w10.here (aP,_) (by simp)
    have eT:G9 aT=some (.lst []):=w10.here (aT,_) (by simp)
    have eB:G9 aB=some (.lst []):=w10.here (aB,_) (by simp)
    have eG:G9 aG=some (.lst []):=w10.here (aG,_) (by simp)
    have eW:G9 aW=some (.lst []):=w10.here (aW,_) (by simp)
    have eN:G9 aN=some (.dK []):=w10.here (aN,_) (by simp)
    have eO:G9 aO=some (.lst []):=w10.here (aO,_) (by simp)
    have eS:G9 aS=some (.lst []):=w10.here (aS,_) (by simp)
    refine⟨_,rfl,x,dx,_,rfl,w10.ins,FE _ _ _ _ _ _ _ _ _,_,rfl,p,dn,_,rfl,h1,c6 _ _ _ _ Ak Aw zT Au,p,ms,st,rfl,N9,λsa hsa=>?_⟩
    refine⟨x,dx,sa,aS,aT,aB,aP,_,W0 ms st,none,0,aI st,rfl,j5 _ _ _ _ _ _ _ _ _,Li t6,Li c5,t1,⟨w10.ins,⟨[],eS,.nil⟩,eT,eB,eP⟩,hsa,?_,?_,λH' hA' but'=>?_⟩
    ·simp only[KR,Lx,Mi,O5]
     exact⟨aQ hsa eS (λz=>nomatch z),aQ hsa eT (λz=>nomatch z),aQ hsa eB (λz=>nomatch z),aQ hsa eP (λz=>nomatch z)⟩
    ·refine⟨rfl,rfl,by show 0<2 ^ 0;decide,?_,λy hy=>?_,?_,?_⟩
     ·show 0+(aI st).length<=250
      rw[bW]
      have:=so.Jl
      lia
     ·show y∈((cL ms st).map λx=>(x,0)).map (·.1)
      rw[Lk]
      exact K0.mpr ⟨y,Be (bJ.mp hy),rfl⟩
     ·show(((cL ms st).map λx=>(x,0)).map (·.1)).Nodup
      rw[Lk]
      show((cL ms st).map id).Nodup
      rw[Qd]
      exact qC ms st
     ·show((cL ms st).map λx=>(x,0)).length<=12
      rw[Kw]
      exact lp
    ·have keep:∀c o,G9 c=some o->c≠aS->c≠aT->c≠aB->c≠aP->H' c=some o:=λc o e q1 q2 q3 q4=>but' c o e (by simp only[KR,Lx,Mi,O5];exact⟨q1,q2,q3,q4⟩)
     refine kk H' ⟨dx,aS,aO,aN,aW,aG,aB,aT,aP,hA',keep _ _ eO m1 (Li t5) (Li c4) (Li a6),keep _ _ eN l2 (Li t4) (Li c3) (Li a5),keep _ _ eW k3 (Li t3) (Li c2) (Li a4),keep _ _ eG g4 (Li t2) (Li c1) (Li a3),nd,WI.iU w10⟩ λc o e n=>?_
     have fr:∀a o,(a,o)∈_->c≠a:=λa o ha z=>by
      have:=w10.fr (a,o) ha
      rw[z]at e
      rw[this]at e
      cases e
     refine keep c o (w10.old c o e n) (fr aS (.lst []) (by simp)) (fr aT (.lst []) (by simp)) (fr aB (.lst []) (by simp)) (fr aP (.dK (jH (W0 ms st).pl)) (by simp))
end Uf
end
section
namespace UfTs
open PySem PyProof.Rows
def wy:Bool->Keyed->Array Keyed->Nat->Nat->Nat->StateT SortSt Sem (Option Nat):=sortPriv% PySem.Builtin.gallop
def rj:Array Keyed->Array Keyed->StateT SortSt Sem (Array Keyed):=sortPriv% PySem.Builtin.mergeLo
def rS:Array Keyed->Array Keyed->StateT SortSt Sem (Array Keyed):=sortPriv% PySem.Builtin.mergeHi
def lR(prog:Program)(w:World)(A:Around)(s:Shared)(κ:SortKind)(S:Keyed->Prop):Prop:=∀x y,S x->S y->∀(Q:Bool->Shared->Prop) (E:Value->Shared->Prop),(∀b,Q b s)->wpAny (model prog w) A (keyLt' κ x.1 y.1) Q E s
variable {κ:SortKind}{S:Keyed->Prop}
structure Quiet(κ:SortKind)(st:SortSt):Prop where
 kind:kindOf st=κ
 failed:failedOf st=none
def rQ(hL:lR prog w A s κ S){x y:Keyed}{st:SortSt}{Q:Option Bool->SortSt->Prop}(q:Quiet κ st)(hx:S x)(hy:S y)(h:∀b,Q (some b) st):wpS (model prog w) A E s (lt' x y) Q st:=by
 rw[lt'_eq]
 refine KI (Nq ?_)
 rw[q.kind]
 refine KI (OC (Qt (hL x y hx hy _ _ λb=>⟨rfl,?_⟩)))
 exact K3 (h b)
def bM{arr:Array Keyed}{i:Nat}{st:SortSt}{Q:Keyed->SortSt->Prop}(hi:i<arr.size)(h:Q arr[i] st):wpS (model prog w) A E s (elem' arr i) Q st:=by
 rw[elem'_eq,QC arr i hi]
 exact K3 h
def Cg(hL:lR prog w A s κ S){i j:Nat}{st:SortSt}{Q:Option Bool->SortSt->Prop}(q:Quiet κ st)(hS:∀x∈arrOf st,S x)(hi:i<(arrOf st).size)(hj:j<(arrOf st).size)(h:∀b,Q (some b) st):wpS (model prog w) A E s (ltAt' i j) Q st:=by
 rw[ltAt'_eq]
 refine KI (Nq ?_)
 exact KI (bM hi (KI (bM hj (rQ hL q (hS _ (NF hi)) (hS _ (NF hj)) h))))
def fj(hL:lR prog w A s κ S){left:Bool}{key:Keyed}{arr:Array Keyed}{base n hint:Nat}{st:SortSt}{Q:Option Nat->SortSt->Prop}(q:Quiet κ st)(hk:S key)(hS:∀x∈arr,S x)(hb:base+n<=arr.size)(hh:hint<n)(h:∀k,k<=n->Q (some k) st):wpS (model prog w) A E s (wy left key arr base n hint) Q st:=by
 have bey:∀(i:Nat) {β:Type} (f:Option Bool->StateT SortSt Sem β) (R:β->SortSt->Prop),i<n->(∀b,wpS (model prog w) A E s (f (some b)) R st) ->
   wpS (model prog w) A E s (((do
    let x <-elem' arr (base+i)
    if left=true then lt' x key else do
     let r <-lt' key x
     pure (Option.map (λx=>!x) r)):StateT SortSt Sem (Option Bool)) >>= f) R st:=λi β f R hi hf=>by
  refine KI (KI (bM (by lia) ?_))
  have hx:S arr[base+i]:=hS _ (NF _)
  cases left with
  |true =>
   simp only[Of]
   exact rQ hL q hx hk hf
  |false =>
   simp only[LN,MC]
   exact KI (rQ hL q hk hx λb=>K3 (hf _))
 delta wy
 refine bey hint _ _ hh λb=>?_
 dsimp only
 cases b with
 |true =>
  simp only[Of]
  refine KI (Ma (LD (I:=λ_ c st'=>st'=st/\∃a o,c=(none,a,o)) (Q:=λc st'=>st'=st/\∃a o,c=(none,a,o)) ?_ (λc st' z=>z) ⟨rfl,_,_,rfl⟩) ?_)
  ·rintro x c st' _ _ ⟨rfl,l,r,rfl⟩
   dsimp only
   by_cases hge:r>=n-hint
   ·rw[KP hge]
    exact K3 ⟨rfl,_,_,rfl⟩
   ·rw[KD hge]
    refine bey _ _ _ (by lia) λb=>?_
    dsimp only
    cases b with
    |true=>exact K3 ⟨rfl,_,_,rfl⟩
    |false=>exact K3 ⟨rfl,_,_,rfl⟩
  ·rintro c st' ⟨rfl,a,o,rfl⟩
   dsimp only
   refine KI (Ma (LD (I:=λ_ c st''=>st''=st'/\∃lo hi,c=(none,lo,hi)/\hi<=n) (Q:=λc st''=>st''=st'/\∃lo hi,c=(none,lo,hi)/\hi<=n) ?_ (λc st'' z=>z) ⟨rfl,_,_,rfl,by lia⟩) ?_)
   ·rintro x c st'' _ _ ⟨rfl,l,r,rfl,hr⟩
    dsimp only
    by_cases hge:l>=r
    ·rw[KP hge]
     exact K3 ⟨rfl,l,r,rfl,hr⟩
    ·rw[KD hge]
     refine bey _ _ _ (by lia) λb=>?_
     dsimp only
     cases b with
     |true=>exact K3 ⟨rfl,_,_,rfl,hr⟩
     |false=>exact K3 ⟨rfl,_,_,rfl,by lia⟩
   ·rintro c st'' ⟨rfl,l,r,rfl,hr⟩
    exact K3 (h _ hr)
 |false =>
  simp only[LN,MC]
  refine KI (Ma (LD (I:=λ_ c st'=>st'=st/\∃a o,c=(none,a,o)) (Q:=λc st'=>st'=st/\∃a o,c=(none,a,o)) ?_ (λc st' z=>z) ⟨rfl,_,_,rfl⟩) ?_)
  ·rintro x c st' _ _ ⟨rfl,l,r,rfl⟩
   dsimp only
   by_cases hge:r>=hint+1
   ·rw[KP hge]
    exact K3 ⟨rfl,_,_,rfl⟩
   ·rw[KD hge]
    refine bey _ _ _ (by lia) λb=>?_
    dsimp only
    cases b with
    |true=>exact K3 ⟨rfl,_,_,rfl⟩
    |false=>exact K3 ⟨rfl,_,_,rfl⟩
  ·rintro c st' ⟨rfl,a,o,rfl⟩
   dsimp only
   refine KI (Ma (LD (I:=λ_ c st''=>st''=st'/\∃lo hi,c=(none,lo,hi)/\hi<=n) (Q:=λc st''=>st''=st'/\∃lo hi,c=(none,lo,hi)/\hi<=n) ?_ (λc st'' z=>z) ⟨rfl,_,_,rfl,by lia⟩) ?_)
   ·rintro x c st'' _ _ ⟨rfl,l,r,rfl,hr⟩
    dsimp only
    by_cases hge:l>=r
    ·rw[KP hge]
     exact K3 ⟨rfl,l,r,rfl,hr⟩
    ·rw[KD hge]
     refine bey _ _ _ (by lia) λb=>?_
     dsimp only
     cases b with
     |true=>exact K3 ⟨rfl,_,_,rfl,hr⟩
     |false=>exact K3 ⟨rfl,_,_,rfl,by lia⟩
   ·rintro c st'' ⟨rfl,l,r,rfl,hr⟩
    exact K3 (h _ hr)
end UfTs
end
section
namespace UfTs
open PySem PyProof.Rows
def Al(S:Keyed->Prop)(xs:Array Keyed):Prop:=∀x∈xs,S x
section
variable {S:Keyed->Prop}{xs ys:Array Keyed}
theorem Al.push{x:Keyed}(h:Al S xs)(hx:S x):Al S (xs.push x):=λy hy=>by
 rcases Array.mem_push.mp hy with z|z
 ·exact h y z
 ·rw[z];exact hx
def Al.app(h:Al S xs)(k:Al S ys):Al S (xs++ys):=λy hy=>(Array.mem_append.mp hy).elim (h y) (k y)
def Al.ext{i j:Nat}(h:Al S xs):Al S (xs.extract i j):=λy hy=>h y (by
 obtain⟨k,hk,e⟩:=Array.mem_iff_getElem.mp hy
 rw[Array.getElem_extract]at e
 rw[<-e]
 exact NF _)
def Al.rev(h:Al S xs):Al S xs.reverse:=λy hy=>h y (Array.mem_reverse.mp hy)
def Al.one{x:Keyed}(hx:S x):Al S #[x]:=λy hy=>by
 have:y=x:=by simpa using hy
 rw[this];exact hx
def Al.at{i:Nat}(h:Al S xs)(hi:i<xs.size):S xs[i]:=h _ (NF hi)
end
abbrev gs(st:SortSt)(g:Nat):SortSt:=SortSt.mk' (kindOf st) (arrOf st) (pendingOf st) g (failedOf st)
section
variable {prog:Program}{w:World}{A:Around}{E:Value->Shared->Prop}{s:Shared}{κ:SortKind}{S:Keyed->Prop}
def k7{g:Nat}{st:SortSt}{Q:Unit->SortSt->Prop}(h:Q () (gs st g)):wpS (model prog w) A E s ((sortPriv% PySem.Builtin.setMinGallop) g) Q st:=MY h
inductive Lo(S:Keyed->Prop)(a b:Array Keyed)(k:Nat)(out:Array Keyed)(ia ib:Nat):Prop
 |mk (al:Al S out) (la:ia+2<=a.size) (lb:ib+1<=b.size) (gt:k<=ia+ib)
def aJ{α:Type}{c:Prop}[Decidable c]{m n:StateT SortSt Sem α}{Q:α->SortSt->Prop}{st:SortSt}(h1:c->wpS (model prog w) A E s m Q st)(h2:¬c->wpS (model prog w) A E s n Q st):wpS (model prog w) A E s (if c then m else n) Q st:=by
 by_cases z:c
 ·rw[KP z];exact h1 z
 ·rw[KD z];exact h2 z
section
variable {α γ δ:Type}{Q:α->SortSt->Prop}{st:SortSt}
def xC{c:γ->Prop}[∀z,Decidable (c z)]{m n:γ->StateT SortSt Sem α}(g:γ->γ)(hm:∀z,m z=n (g z))(h:∀z,wpS (model prog w) A E s (n z) Q st)(z:γ):wpS (model prog w) A E s (if c z then m z else n z) Q st:=aJ (λ_=>hm z ▸ h _) λ_=>h z
def kY{A1 A2 A3 B c:γ->δ->Prop}[∀y z,Decidable (c y z)]{m n:γ->δ->StateT SortSt Sem α}(h:∀y z,A1 y z->A2 y z->A3 y z->wpS (model prog w) A E s (n y z) Q st)(hm:(∀y z,A1 y z->A2 y z->A3 y z->wpS (model prog w) A E s (n y z) Q st)->∀y z,A1 y z->A2 y z->A3 y z->B y z->wpS (model prog w) A E s (m y z) Q st)(y:γ)(z:δ)(a1:A1 y z)(a2:A2 y z)(a3:A3 y z)(b:B y z):wpS (model prog w) A E s (if c y z then m y z else n y z) Q st:=aJ (λ_=>hm h y z a1 a2 a3 b) λ_=>h y z a1 a2 a3
end
def vB(hL:lR prog w A s κ S){a b:Array Keyed}{st:SortSt}{Q:Array Keyed->SortSt->Prop}(q:Quiet κ st)(ha:Al S a)(hb:Al S b)(na:1<=a.size)(nb:1<=b.size)(h:∀r g,Al S r->Q r (gs st g)):wpS (model prog w) A E s (rj a b) Q st:=by
 delta rj
 refine KI (OC (Mu ⟨rfl,?_⟩))
 refine KI (bM (by lia) ?_)
 have h0:=hb.at (i:=0) (by lia)
 have qg:∀g,Quiet κ (gs st g):=λg=>⟨q.kind,q.failed⟩
 refine aJ (λ_=>K3 (h _ (gallopOf st) (((Al.one h0).app ha.ext).app hb.ext))) λn1=>?_
 refine aJ (λ_=>K3 (h _ (gallopOf st) (((Al.one h0).app hb.ext).app ha.ext))) λn2=>?_
 have n1:1≠b.size:=by simpa using n1
 have n2:0+1≠a.size:=by simpa using n2
 refine KI (Nq ?_)
 refine KI (Ma (LD (I:=λx c st'=>∃out ia ib mg g,c=(none,out,ia,ib,mg)/\st'=gs st g/\Lo S a b (x+1) out ia ib) (Q:=λc st'=>∃r rest g,c=(some r,rest)/\Al S r/\st'=gs st g) ?step ?fin ⟨_,_,_,_,gallopOf st,rfl,rfl,Al.one h0,by lia,by lia,by lia⟩) ?post)
 case fin =>
  rintro c st' ⟨out,ia,ib,mg,g,rfl,rfl,al,la,lb,gt⟩
  lia
 case post =>
  rintro c st' ⟨r,rest,g,rfl,al,rfl⟩
  exact K3 (h _ _ al)
 case step =>
  rintro x c st' _ hx ⟨out,ia,ib,mg,g,rfl,rfl,lo⟩
  refine KI (Ma (LD (I:=λy c st''=>st''=gs st g/\∃out ia ib ac bc,c=(none,out,ia,ib,ac,bc)/\Lo S a b (x+1+min y 1) out ia ib) (Q:=λc st''=>st''=gs st g/\((∃r rest,c=(some r,rest)/\Al S r)\/∃out ia ib ac bc,c=(none,out,ia,ib,ac,bc)/\Lo S a b (x+2) out ia ib)) ?step1 ?fin1 ⟨rfl,_,_,_,_,_,rfl,lo⟩) ?post1)
  case fin1 =>
   rintro c st'' ⟨rfl,out,ia,ib,ac,bc,rfl,al,la,lb,gt⟩
   exact⟨rfl,.inr ⟨_,_,_,_,_,rfl,al,la,lb,by lia⟩⟩
  case step1 =>
   rintro y c st'' _ hy ⟨rfl,out,ia,ib,ac,bc,rfl,al,la,lb,gt⟩
   refine KI (bM (i:=ib) (by lia) (KI (bM (i:=ia) (by lia) (KI (rQ hL (qg g) (hb.at (by lia)) (ha.at (by lia)) λbw=>?_)))))
   refine aJ (λ_=>?_) λ_=>?_
   ·refine KI (bM (i:=ib) (by lia) ?_)
    have al2:=al.push (hb.at (i:=ib) (by lia))
    refine aJ (λ_=>K3 ⟨rfl,.inl ⟨_,_,rfl,(al2.app ha.ext).app hb.ext⟩⟩) λn3=>?_
    have n3:ib+1≠b.size:=by simpa using n3
    exact aJ (λ_=>wpS_pure ⟨rfl,.inr ⟨_,_,_,_,_,rfl,al2,la,by first|lia|(dsimp only;lia),by first|lia|(dsimp only;lia)⟩⟩) λ_=>wpS_pure ⟨rfl,_,_,_,_,_,rfl,al2,la,by first|lia|(dsimp only;lia),by first|lia|(dsimp only;lia)⟩
   ·refine KI (bM (i:=ia) (by lia) ?_)
    have al2:=al.push (ha.at (i:=ia) (by lia))
    refine aJ (λ_=>K3 ⟨rfl,.inl ⟨_,_,rfl,(al2.app hb.ext).app ha.ext⟩⟩) λn3=>?_
    have n3:ia+1+1≠a.size:=by simpa using n3
    exact aJ (λ_=>wpS_pure ⟨rfl,.inr ⟨_,_,_,_,_,rfl,al2,by first|lia|(dsimp only;lia),lb,by first|lia|(dsimp only;lia)⟩⟩) λ_=>wpS_pure ⟨rfl,_,_,_,_,_,rfl,al2,by first|lia|(dsimp only;lia),lb,by first|lia|(dsimp only;lia)⟩
  case post1 =>
   rintro c st'' ⟨rfl,⟨r,rest,rfl,al⟩|⟨out,ia,ib,ac,bc,rfl,lo⟩⟩
   ·exact K3 ⟨_,_,_,rfl,al,rfl⟩
   ·refine KI (OC (Mu ⟨rfl,?_⟩))
    refine KI (Ma (LD (I:=λy c st''=>∃g out ia ib mg ac bc,st''=gs st g/\c=(none,out,ia,ib,mg,ac,bc)/\Lo S a b (x+2) out ia ib) (Q:=λc st''=>∃g,st''=gs st g/\((∃r rest,c=(some r,rest)/\Al S r)\/∃out ia ib mg ac bc,c=(none,out,ia,ib,mg,ac,bc)/\Lo S a b (x+2) out ia ib)) ?step2 ?fin2 ⟨g,_,_,_,_,_,_,rfl,rfl,lo⟩) ?post2)
    case fin2 =>
     rintro c st'' ⟨g,out,ia,ib,mg,ac,bc,rfl,rfl,lo⟩
     exact⟨g,rfl,.inr ⟨_,_,_,_,_,_,rfl,lo⟩⟩
    case post2 =>
     rintro c st'' ⟨g,rfl,⟨r,rest,rfl,al⟩|⟨out,ia,ib,mg,ac,bc,rfl,al,la,lb,gt⟩⟩
     ·exact K3 ⟨_,_,_,rfl,al,rfl⟩
     ·refine KI (k7 ?_)
      exact K3 ⟨_,_,_,_,_,rfl,rfl,al,la,lb,by lia⟩
    case step2 =>
     rintro y c st'' _ hy ⟨g,out,ia,ib,mg,ac,bc,rfl,rfl,al,la,lb,gt⟩
     dsimp only
     revert mg
     refine xC (· - 1) (λ_=>rfl) λmg=>?_
     refine KI (k7 (KI (bM (i:=ib) (by lia) (KI (fj hL (qg _) (hb.at (by lia)) ha (by lia) (by lia) λk hk=>?_)))))
     dsimp only
     revert out ia al la gt hk
     refine kY (λout ia al la gt=>?_) λG out ia al la gt hk=>?_
     ·refine KI (bM (i:=ib) (by lia) ?_)
      have al:=al.push (hb.at (i:=ib) (by lia))
      refine aJ (λ_=>K3 ⟨_,rfl,.inl ⟨_,_,rfl,(al.app ha.ext).app hb.ext⟩⟩) λn6=>?_
      have n6:ib+1≠b.size:=by simpa using n6
      have lb:ib+1+1<=b.size:=by lia
      have gt:x+2<=ia+(ib+1):=by lia
      refine KI (bM (i:=ia) (by lia) (KI (fj hL (qg _) (ha.at (by lia)) hb (by lia) (by lia) λk1 hk1=>?_)))
      dsimp only
      generalize out.push (b[ib]'_)=out at al ⊢
      clear n6
      generalize ib+1=ib at lb gt hk1 ⊢
      revert hk1;revert gt;revert lb;revert al;revert out ib
      refine kY (λout ib al lb gt=>?_) λG out ib al lb gt hk1=>?_
      ·refine KI (bM (i:=ia) (by lia) ?_)
       have al:=al.push (ha.at (i:=ia) (by lia))
       refine aJ (λ_=>K3 ⟨_,rfl,.inl ⟨_,_,rfl,(al.app hb.ext).app ha.ext⟩⟩) λn8=>?_
       have n8:ia+1+1≠a.size:=by simpa using n8
       have lo:Lo S a b (x+2) _ (ia+1) ib:=⟨al,by lia,lb,by lia⟩
       exact aJ (λ_=>K3 ⟨_,rfl,.inr ⟨_,_,_,_,_,_,rfl,lo⟩⟩) λ_=>K3 ⟨_,_,_,_,_,_,_,rfl,rfl,lo⟩
      ·refine aJ (λ_=>K3 ⟨_,rfl,.inl ⟨_,_,rfl,((al.app hb.ext).app ha.ext).app hb.ext⟩⟩) λn7=>?_
       have n7:ib+k1≠b.size:=by simpa using n7
       exact G _ _ (al.app hb.ext) (by lia) (by lia)
     ·refine aJ (λ_=>K3 ⟨_,rfl,.inl ⟨_,_,rfl,((al.app ha.ext).app hb.ext).app ha.ext⟩⟩) λn4=>aJ (λ_=>K3 ⟨_,rfl,.inl ⟨_,_,rfl,((al.app ha.ext).app ha.ext).app hb.ext⟩⟩) λn5=>?_
      have n4:ia+k+1≠a.size:=by simpa using n4
      have n5:ia+k≠a.size:=by simpa using n5
      exact G _ _ (al.app ha.ext) (by lia) (by lia)
end
end UfTs
end
section
namespace UfTs
open PySem PyProof.Rows
section
variable {prog:Program}{w:World}{A:Around}{E:Value->Shared->Prop}{s:Shared}{κ:SortKind}{S:Keyed->Prop}
inductive Hi(S:Keyed->Prop)(a b:Array Keyed)(k:Nat)(na nb:Nat)(out:Array Keyed):Prop
 |mk (al:Al S out) (l1:1<=na) (la:na+1<=a.size) (l2:2<=nb) (lb:nb<=b.size) (gt:na+nb+k<=a.size+b.size)
def ua(hL:lR prog w A s κ S){a b:Array Keyed}{st:SortSt}{Q:Array Keyed->SortSt->Prop}(q:Quiet κ st)(ha:Al S a)(hb:Al S b)(pa:1<=a.size)(pb:1<=b.size)(h:∀r g,Al S r->Q r (gs st g)):wpS (model prog w) A E s (rS a b) Q st:=by
 delta rS
 refine KI (OC (Mu ⟨rfl,?_⟩))
 refine KI (bM (i:=a.size-1) (by lia) ?_)
 have h0:=ha.at (i:=a.size-1) (by lia)
 have qg:∀g,Quiet κ (gs st g):=λg=>⟨q.kind,q.failed⟩
 refine aJ (λ_=>K3 (h _ (gallopOf st) ((ha.ext.app hb.ext).app (Al.one h0).rev))) λn1=>?_
 refine aJ (λ_=>K3 (h _ (gallopOf st) ((hb.ext.app ha.ext).app (Al.one h0).rev))) λn2=>?_
 have n1:a.size-1≠0:=by simpa using n1
 have n2:b.size≠1:=by simpa using n2
 refine KI (Nq ?_)
 refine KI (Ma (LD (I:=λx c st'=>∃na nb out mg g,c=(none,na,nb,out,mg)/\st'=gs st g/\Hi S a b (x+1) na nb out) (Q:=λc st'=>∃r rest g,c=(some r,rest)/\Al S r/\st'=gs st g) ?step ?fin ⟨_,_,_,_,gallopOf st,rfl,rfl,Al.one h0,by lia,by lia,by lia,by lia,by lia⟩) ?post)
 case fin =>
  rintro c st' ⟨na,nb,out,mg,g,rfl,rfl,al,l1,la,l2,lb,gt⟩
  lia
 case post =>
  rintro c st' ⟨r,rest,g,rfl,al,rfl⟩
  exact K3 (h _ _ al)
 case step =>
  rintro x c st' _ hx ⟨na,nb,out,mg,g,rfl,rfl,hi⟩
  refine KI (Ma (LD (I:=λy c st''=>st''=gs st g/\∃na nb out ac bc,c=(none,na,nb,out,ac,bc)/\Hi S a b (x+1+min y 1) na nb out) (Q:=λc st''=>st''=gs st g/\((∃r rest,c=(some r,rest)/\Al S r)\/∃na nb out ac bc,c=(none,na,nb,out,ac,bc)/\Hi S a b (x+2) na nb out)) ?step1 ?fin1 ⟨rfl,_,_,_,_,_,rfl,hi⟩) ?post1)
  case fin1 =>
   rintro c st'' ⟨rfl,na,nb,out,ac,bc,rfl,al,l1,la,l2,lb,gt⟩
   exact⟨rfl,.inr ⟨_,_,_,_,_,rfl,al,l1,la,l2,lb,by lia⟩⟩
  case step1 =>
   rintro y c st'' _ hy ⟨rfl,na,nb,out,ac,bc,rfl,al,l1,la,l2,lb,gt⟩
   refine KI (bM (i:=nb-1) (by lia) (KI (bM (i:=na-1) (by lia) (KI (rQ hL (qg g) (hb.at (by lia)) (ha.at (by lia)) λbw=>?_)))))
   refine aJ (λ_=>?_) λ_=>?_
   ·refine KI (bM (i:=na-1) (by lia) ?_)
    have al2:=al.push (ha.at (i:=na-1) (by lia))
    refine aJ (λ_=>K3 ⟨rfl,.inl ⟨_,_,rfl,(ha.ext.app hb.ext).app al2.rev⟩⟩) λn3=>?_
    have n3:na-1≠0:=by simpa using n3
    exact aJ (λ_=>wpS_pure ⟨rfl,.inr ⟨_,_,_,_,_,rfl,al2,by first|lia|(dsimp only;lia),by first|lia|(dsimp only;lia),by first|lia|(dsimp only;lia),by first|lia|(dsimp only;lia),by first|lia|(dsimp only;lia)⟩⟩) λ_=>wpS_pure ⟨rfl,_,_,_,_,_,rfl,al2,by first|lia|(dsimp only;lia),by first|lia|(dsimp only;lia),by first|lia|(dsimp only;lia),by first|lia|(dsimp only;lia),by first|lia|(dsimp only;lia)⟩
   ·refine KI (bM (i:=nb-1) (by lia) ?_)
    have al2:=al.push (hb.at (i:=nb-1) (by lia))
    refine aJ (λ_=>K3 ⟨rfl,.inl ⟨_,_,rfl,(hb.ext.app ha.ext).app al2.rev⟩⟩) λn3=>?_
    have n3:nb-1≠1:=by simpa using n3
    exact aJ (λ_=>wpS_pure ⟨rfl,.inr ⟨_,_,_,_,_,rfl,al2,by first|lia|(dsimp only;lia),by first|lia|(dsimp only;lia),by first|lia|(dsimp only;lia),by first|lia|(dsimp only;lia),by first|lia|(dsimp only;lia)⟩⟩) λ_=>wpS_pure ⟨rfl,_,_,_,_,_,rfl,al2,by first|lia|(dsimp only;lia),by first|lia|(dsimp only;lia),by first|lia|(dsimp only;lia),by first|lia|(dsimp only;lia),by first|lia|(dsimp only;lia)⟩
  case post1 =>
   rintro c st'' ⟨rfl,⟨r,rest,rfl,al⟩|⟨na,nb,out,ac,bc,rfl,hi⟩⟩
   ·exact K3 ⟨_,_,_,rfl,al,rfl⟩
   ·refine KI (OC (Mu ⟨rfl,?_⟩))
    refine KI (Ma (LD (I:=λy c st''=>∃g na nb out mg ac bc,st''=gs st g/\c=(none,na,nb,out,mg,ac,bc)/\Hi S a b (x+2) na nb out) (Q:=λc st''=>∃g,st''=gs st g/\((∃r rest,c=(some r,rest)/\Al S r)\/∃na nb out mg ac bc,c=(none,na,nb,out,mg,ac,bc)/\Hi S a b (x+2) na nb out)) ?step2 ?fin2 ⟨g,_,_,_,_,_,_,rfl,rfl,hi⟩) ?post2)
    case fin2 =>
     rintro c st'' ⟨g,na,nb,out,mg,ac,bc,rfl,rfl,hi⟩
     exact⟨g,rfl,.inr ⟨_,_,_,_,_,_,rfl,hi⟩⟩
    case post2 =>
     rintro c st'' ⟨g,rfl,⟨r,rest,rfl,al⟩|⟨na,nb,out,mg,ac,bc,rfl,al,l1,la,l2,lb,gt⟩⟩
     ·exact K3 ⟨_,_,_,rfl,al,rfl⟩
     ·refine KI (k7 ?_)
      exact K3 ⟨_,_,_,_,_,rfl,rfl,al,l1,la,l2,lb,by lia⟩
    case step2 =>
     rintro y c st'' _ hy ⟨g,na,nb,out,mg,ac,bc,rfl,rfl,al,l1,la,l2,lb,gt⟩
     dsimp only
     revert mg
     refine xC (· - 1) (λ_=>rfl) λmg=>?_
     refine KI (k7 (KI (bM (i:=nb-1) (by lia) (KI (fj hL (qg _) (hb.at (by lia)) ha (by lia) (by lia) λk hk=>?_)))))
     have lg:na+1<=a.size/\na+nb+(x+2)<=a.size+b.size:=⟨la,gt⟩
     dsimp only
     generalize na-k=ac
     clear la gt
     revert hk;revert lg;revert l1;revert al;revert na out
     refine kY (λna out al l1 lg=>?_) λG na out al l1 lg hk=>?_
     ·obtain⟨la,gt⟩:=lg
      refine KI (bM (i:=nb-1) (by lia) ?_)
      have al:=al.push (hb.at (i:=nb-1) (by lia))
      refine aJ (λ_=>K3 ⟨_,rfl,.inl ⟨_,_,rfl,(hb.ext.app ha.ext).app al.rev⟩⟩) λn6=>?_
      have n6:nb-1≠1:=by simpa using n6
      refine KI (bM (i:=na-1) (by lia) (KI (fj hL (qg _) (ha.at (by lia)) hb (by lia) (by lia) λk1 hk1=>?_)))
      have l2:2<=nb-1:=by lia
      have lg:nb-1<=b.size/\na+(nb-1)+(x+3)<=a.size+b.size:=by lia
      dsimp only
      generalize nb-1-k1=bc
      generalize out.push (b[nb-1]'_)=out at al ⊢
      clear n6 lb gt
      generalize nb-1=nb at l2 lg hk1 ⊢
      revert hk1;revert lg;revert l2;revert al;revert out nb
      refine kY (λout nb al l2 lg=>?_) λG out nb al l2 lg hk1=>?_
      ·refine KI (bM (i:=na-1) (by lia) ?_)
       have al:=al.push (ha.at (i:=na-1) (by lia))
       refine aJ (λ_=>K3 ⟨_,rfl,.inl ⟨_,_,rfl,(ha.ext.app hb.ext).app al.rev⟩⟩) λn8=>?_
       have n8:na-1≠0:=by simpa using n8
       have hi:Hi S a b (x+2) (na-1) nb _:=⟨al,by lia,by lia,l2,lg.1,by lia⟩
       exact aJ (λ_=>K3 ⟨_,rfl,.inr ⟨_,_,_,_,_,_,rfl,hi⟩⟩) λ_=>K3 ⟨_,_,_,_,_,_,_,rfl,rfl,hi⟩
      ·refine aJ (λ_=>K3 ⟨_,rfl,.inl ⟨_,_,rfl,(hb.ext.app ha.ext).app (al.app hb.ext.rev).rev⟩⟩) λn7=>aJ (λ_=>K3 ⟨_,rfl,.inl ⟨_,_,rfl,(ha.ext.app hb.ext).app (al.app hb.ext.rev).rev⟩⟩) λn9=>?_
       have n7:k1≠1:=by simpa using n7
       have n9:k1≠0:=by simpa using n9
       exact G _ _ (al.app hb.ext.rev) (by lia) (by lia)
     ·refine aJ (λ_=>K3 ⟨_,rfl,.inl ⟨_,_,rfl,(ha.ext.app hb.ext).app (al.app ha.ext.rev).rev⟩⟩) λn4=>?_
      have n4:k≠0:=by simpa using n4
      exact G _ _ (al.app ha.ext.rev) (by lia) (by lia)
end
end UfTs
end
section
namespace UfTs
open PySem PyProof.Rows
section
variable {prog:Program}{w:World}{A:Around}{E:Value->Shared->Prop}{s:Shared}{κ:SortKind}{S:Keyed->Prop}
structure Cl(κ:SortKind)(S:Keyed->Prop)(n:Nat)(st:SortSt):Prop where
 q:Quiet κ st
 al:Al S (arrOf st)
 sz:(arrOf st).size=n
def F6{st st':SortSt}{Q:PUnit->SortSt->Prop}(h:Q ⟨⟩ st'):wpS (model prog w) A E s (set st':StateT SortSt Sem PUnit) Q st:=by
 unfold wpS
 rw[StateT.run_set]
 exact Kz ⟨rfl,h⟩
def zt{xs:Array Keyed}{i:Nat}{x:Keyed}(h:Al S xs)(hx:S x):Al S (xs.setIfInBounds i x):=λy hy=>by
 rcases Array.mem_or_eq_of_mem_setIfInBounds hy with z|z
 ·exact h y z
 ·rw[z];exact hx
theorem xM:∀(l:List (Keyed×Nat)) (sa:Nat) (xs:Array Keyed),Al S xs->(∀p∈l,S p.1)->Al S (l.foldl (λa p=>a.setIfInBounds (sa+p.2) p.1) xs)/\(l.foldl (λa p=>a.setIfInBounds (sa+p.2) p.1) xs).size=xs.size
 |[],_,_,h,_=>⟨h,rfl⟩
 |p::l,sa,xs,h,hl=>by
  obtain⟨h1,h2⟩:=xM l sa (xs.setIfInBounds (sa+p.2) p.1) (zt h (hl p K9)) λq hq=>hl q (K6 _ hq)
  exact⟨h1,by rw[L5,h2,Array.size_setIfInBounds]⟩
def yV{r:Array Keyed}(h:Al S r):∀p∈r.toList.zipIdx,S p.1:=λp hp=>by
 have:=List.fst_mem_of_mem_zipIdx (x:=p) hp
 exact h _ (by simpa using this)
def uE(hL:lR prog w A s κ S){n i sa na sb nb pw pw2:Nat}{st:SortSt}{Q:Bool->SortSt->Prop}(c:Cl κ S n st)(h1:(pendingOf st)[i]?=some (sa,na,pw))(h2:(pendingOf st)[i+1]?=some (sb,nb,pw2))(e:sb=sa+na)(pa:1<=na)(pb:1<=nb)(le:sb+nb<=n)(h:∀st',Cl κ S n st'->pendingOf st'=((pendingOf st).setIfInBounds i (sa,na+nb,pw)).eraseIdxIfInBounds (i+1)->Q true st'):wpS (model prog w) A E s (mergeAt' i) Q st:=by
 delta mergeAt'
 refine KI (Nq ?_)
 have sz:=c.sz
 show wpS (model prog w) A E s (match ((pendingOf st)[i]?,(pendingOf st)[i+1]?) with|(some (sa,na,pw),some (sb,nb,_))=>_|_=>_) Q st
 rw[h1,h2]
 refine KI (F6 ?_)
 refine KI (bM (arr:=arrOf st) (i:=sb) (by lia) ?_)
 have q0:Quiet κ (SortSt.mk' (kindOf st) (arrOf st) (((pendingOf st).setIfInBounds i (sa,na+nb,pw)).eraseIdxIfInBounds (i+1)) (gallopOf st) (failedOf st)):=⟨c.q.kind,c.q.failed⟩
 have al:=c.al
 refine KI (fj (arr:=arrOf st) hL q0 (al.at (by lia)) al (by lia) (by lia) λk hk=>?_)
 refine aJ (λ_=>K3 (h _ ⟨q0,al,sz⟩ rfl)) λn1=>?_
 have n1:na-k≠0:=by simpa using n1
 refine KI (bM (arr:=arrOf st) (i:=sa+k+(na-k)-1) (by lia) ?_)
 refine KI (fj (arr:=arrOf st) hL q0 (al.at (by lia)) al (by lia) (by lia) λm hm=>?_)
 refine aJ (λ_=>K3 (h _ ⟨q0,al,sz⟩ rfl)) λn2=>?_
 have n2:m≠0:=by simpa using n2
 have fin:∀(r:Array Keyed) (g:Nat),Al S r->Cl κ S n (SortSt.mk' (kindOf st) (r.toList.zipIdx.foldl (λa p=>a.setIfInBounds (sa+k+p.2) p.1) (arrOf st)) (((pendingOf st).setIfInBounds i (sa,na+nb,pw)).eraseIdxIfInBounds (i+1)) g (failedOf st)):=λr g hr=>by
  obtain⟨f1,f2⟩:=xM r.toList.zipIdx (sa+k) (arrOf st) al (yV hr)
  exact⟨⟨c.q.kind,c.q.failed⟩,f1,by rw[<-sz];exact f2⟩
 have nn:(failedOf st).isNone=true:=by rw[c.q.failed];rfl
 refine aJ (λ_=>?_) λ_=>?_
 ·refine KI (vB (a:=(arrOf st).extract (sa+k) sb) (b:=(arrOf st).extract sb (sb+m)) hL q0 al.ext al.ext (by rw[Od];lia) (by rw[Od];lia) λr g hr=>?_)
  refine KI (MY (KI (Nq (K3 ?_))))
  have:=h _ (fin r g hr) rfl
  rw[<-nn]at this
  exact this
 ·refine KI (ua (a:=(arrOf st).extract (sa+k) sb) (b:=(arrOf st).extract sb (sb+m)) hL q0 al.ext al.ext (by rw[Od];lia) (by rw[Od];lia) λr g hr=>?_)
  refine KI (MY (KI (Nq (K3 ?_))))
  have:=h _ (fin r g hr) rfl
  rw[<-nn]at this
  exact this
def Cl.arr{n:Nat}{st:SortSt}{xs:Array Keyed}(c:Cl κ S n st)(hp:xs.Perm (arrOf st)):Cl κ S n (setArr st xs) :=
 ⟨⟨c.q.kind,c.q.failed⟩,λy hy=>c.al y (by
  have:=(Array.perm_iff_toList_perm.mp hp).mem_iff.mp (show y∈xs.toList by simpa using hy)
  simpa using this),by rw[<-c.sz];exact hp.size_eq⟩
def gK{i j n:Nat}{st:SortSt}{Q:Unit->SortSt->Prop}(c:Cl κ S n st)(h:∀st',Cl κ S n st'->pendingOf st'=pendingOf st->Q () st'):wpS (model prog w) A E s (reverseSlice' i j) Q st:=by
 rw[reverseSlice'_eq]
 exact MY (h _ (c.arr (mirror_perm _ _ _ _)) rfl)
def Ef{i j n:Nat}{st:SortSt}{Q:Unit->SortSt->Prop}(c:Cl κ S n st)(h:∀st',Cl κ S n st'->pendingOf st'=pendingOf st->Q () st'):wpS (model prog w) A E s (moveDown' i j) Q st:=by
 rw[moveDown'_eq]
 exact MY (h _ (c.arr (bubble_perm _ _ _)) rfl)
def ie(hL:lR prog w A s κ S){i j n:Nat}{st:SortSt}{Q:Option Bool->SortSt->Prop}(c:Cl κ S n st)(hi:i<n)(hj:j<n)(h:∀b,Q (some b) st):wpS (model prog w) A E s (ltAt' i j) Q st :=
 Cg hL c.q c.al (by rw[c.sz];exact hi) (by rw[c.sz];exact hj) h
def x3(hL:lR prog w A s κ S){lo m ok n:Nat}{st:SortSt}{Q:Bool->SortSt->Prop}(c:Cl κ S n st)(le:lo+m<=n)(h:∀st',Cl κ S n st'->pendingOf st'=pendingOf st->Q true st'):wpS (model prog w) A E s (binarySort' lo m ok) Q st:=by
 delta binarySort'
 refine KI (Ma (LD (I:=λ_ c st'=>c=(none,())/\Cl κ S n st'/\pendingOf st'=pendingOf st) (Q:=λc st'=>c=(none,())/\Cl κ S n st'/\pendingOf st'=pendingOf st) ?step (λc st' z=>z) ⟨rfl,c,rfl⟩) ?post)
 case post =>
  rintro _ st' ⟨rfl,c',p'⟩
  exact K3 (h st' c' p')
 case step =>
  rintro k _ st' _ hk ⟨rfl,c',p'⟩
  refine KI (Ma (LD (I:=λ_ c st''=>st''=st'/\∃l r,c=(none,l,r)/\r<=k) (Q:=λc st''=>st''=st'/\∃l r,c=(none,l,r)) ?istep (λc st'' ⟨e,l,r,z,_⟩=>⟨e,l,r,z⟩) ⟨rfl,_,_,rfl,by lia⟩) ?ipost)
  case istep =>
   rintro x _ st'' _ hx ⟨rfl,l,r,rfl,hr⟩
   refine aJ (λ_=>K3 ⟨rfl,_,_,rfl⟩) λz=>?_
   have z:¬l>=r:=z
   refine wpS_bind (ie hL c' (by lia) (by dsimp only;lia) λb=>?_)
   exact aJ (λ_=>wpS_pure ⟨rfl,_,_,rfl,by dsimp only;lia⟩) λ_=>wpS_pure ⟨rfl,_,_,rfl,hr⟩
  case ipost =>
   rintro _ st'' ⟨rfl,l,r,rfl⟩
   exact KI (Ef c' λst3 c3 p3=>K3 ⟨rfl,c3,p3.trans p'⟩)
def AE(hL:lR prog w A s κ S){lo nrem n:Nat}{st:SortSt}{Q:Option Nat->SortSt->Prop}(c:Cl κ S n st)(le:lo+nrem<=n)(h1:1<=nrem)(h:∀m st',Cl κ S n st'->pendingOf st'=pendingOf st->1<=m->m<=nrem->Q (some m) st'):wpS (model prog w) A E s (countRun' lo nrem) Q st:=by
 delta countRun'
 refine KI (Ma (LD (I:=λx c st'=>st'=st/\c=(none,x)) (Q:=λc st'=>st'=st/\∃m,c=(none,m)/\1<=m/\m<=nrem) ?step ?fin ⟨rfl,rfl⟩) ?post)
 case fin =>
  rintro _ st' ⟨rfl,rfl⟩
  exact⟨rfl,_,rfl,by lia,by lia⟩
 case step =>
  rintro x _ st' hx1 hx ⟨rfl,rfl⟩
  refine wpS_bind (ie hL c (by dsimp only;lia) (by dsimp only;lia) λb=>?_)
  exact aJ (λ_=>wpS_pure ⟨rfl,_,rfl,by dsimp only;lia,by dsimp only;lia⟩) λ_=>wpS_pure ⟨rfl,rfl⟩
 case post =>
  rintro _ st' ⟨rfl,m,rfl,m1,m2⟩
  refine aJ (λ_=>K3 (h m _ c rfl m1 m2)) λz=>?_
  have z:m≠nrem:=by simpa using z
  refine aJ (λg=>?_) λg=>?_
  ·refine wpS_bind (ie hL c (by lia) (by dsimp only;lia) λb=>?_)
   refine aJ (λ_=>K3 (h m _ c rfl m1 m2)) λ_=>?_
   refine KI (gK c λst2 c2 p2=>?_)
   refine KI (OC (Mu ⟨rfl,?_⟩))
   refine KI (Ma (LD (I:=λx c st3=>∃e,c=(none,x,e)/\Cl κ S n st3/\pendingOf st3=pendingOf st') (Q:=λc st3=>∃l e,c=(none,l,e)/\1<=l/\l<=nrem/\Cl κ S n st3/\pendingOf st3=pendingOf st') ?step2 ?fin2 ⟨_,rfl,c2,p2⟩) ?post2)
   case fin2 =>
    rintro _ st3 ⟨e,rfl,c3,p3⟩
    exact⟨_,e,rfl,by lia,by lia,c3,p3⟩
   case step2 =>
    rintro x _ st3 hx1 hx ⟨e,rfl,c3,p3⟩
    refine wpS_bind (ie hL c3 (by dsimp only;lia) (by dsimp only;lia) λb=>?_)
    refine aJ (λ_=>?_) λ_=>?_
    ·exact aJ (λ_=>KI (gK c3 λst4 c4 p4=>K3 ⟨_,rfl,c4,p4.trans p3⟩)) λ_=>K3 ⟨_,rfl,c3,p3⟩
    ·refine wpS_bind (ie hL c3 (by dsimp only;lia) (by dsimp only;lia) λb=>?_)
     exact aJ (λ_=>wpS_pure ⟨_,_,rfl,by dsimp only;lia,by dsimp only;lia,c3,p3⟩) λ_=>wpS_pure ⟨_,rfl,c3,p3⟩
   case post2 =>
    rintro _ st3 ⟨l,e,rfl,l1,l2,c3,p3⟩
    refine aJ (λ_=>KI (gK c3 λst4 c4 p4=>?_)) λ_=>?_
    ·refine KI (gK c4 λst5 c5 p5=>?_)
     refine KI (Ma (LD (I:=λx c st6=>st6=st5/\c=(none,x)) (Q:=λc st6=>st6=st5/\∃m,c=(none,m)/\1<=m/\m<=nrem) ?_ ?_ ⟨rfl,rfl⟩) ?_)
     ·rintro x _ st6 hx1 hx ⟨rfl,rfl⟩
      have hx1:l<=x:=hx1
      refine wpS_bind (ie hL c5 (by dsimp only;lia) (by dsimp only;lia) λb=>?_)
      exact aJ (λ_=>wpS_pure ⟨rfl,_,rfl,by dsimp only;lia,by dsimp only;lia⟩) λ_=>wpS_pure ⟨rfl,rfl⟩
     ·rintro _ st6 ⟨rfl,rfl⟩
      exact⟨rfl,_,rfl,by dsimp only;lia,by dsimp only;lia⟩
     ·rintro _ st6 ⟨rfl,m,rfl,m1,m2⟩
      exact K3 (h m _ c5 (p5.trans (p4.trans p3)) m1 m2)
    ·refine KI (gK c3 λst5 c5 p5=>?_)
     refine KI (Ma (LD (I:=λx c st6=>st6=st5/\c=(none,x)) (Q:=λc st6=>st6=st5/\∃m,c=(none,m)/\1<=m/\m<=nrem) ?_ ?_ ⟨rfl,rfl⟩) ?_)
     ·rintro x _ st6 hx1 hx ⟨rfl,rfl⟩
      have hx1:l<=x:=hx1
      refine wpS_bind (ie hL c5 (by dsimp only;lia) (by dsimp only;lia) λb=>?_)
      exact aJ (λ_=>wpS_pure ⟨rfl,_,rfl,by dsimp only;lia,by dsimp only;lia⟩) λ_=>wpS_pure ⟨rfl,rfl⟩
     ·rintro _ st6 ⟨rfl,rfl⟩
      exact⟨rfl,_,rfl,by dsimp only;lia,by dsimp only;lia⟩
     ·rintro _ st6 ⟨rfl,m,rfl,m1,m2⟩
      exact K3 (h m _ c5 (p5.trans p3) m1 m2)
  ·refine KI (OC (Mu ⟨rfl,?_⟩))
   refine KI (Ma (LD (I:=λx c st3=>∃e,c=(none,x,e)/\Cl κ S n st3/\pendingOf st3=pendingOf st') (Q:=λc st3=>∃l e,c=(none,l,e)/\1<=l/\l<=nrem/\Cl κ S n st3/\pendingOf st3=pendingOf st') ?step2 ?fin2 ⟨_,rfl,c,rfl⟩) ?post2)
   case fin2 =>
    rintro _ st3 ⟨e,rfl,c3,p3⟩
    exact⟨_,e,rfl,by lia,by lia,c3,p3⟩
   case step2 =>
    rintro x _ st3 hx1 hx ⟨e,rfl,c3,p3⟩
    refine wpS_bind (ie hL c3 (by dsimp only;lia) (by dsimp only;lia) λb=>?_)
    refine aJ (λ_=>?_) λ_=>?_
    ·exact aJ (λ_=>KI (gK c3 λst4 c4 p4=>K3 ⟨_,rfl,c4,p4.trans p3⟩)) λ_=>K3 ⟨_,rfl,c3,p3⟩
    ·refine wpS_bind (ie hL c3 (by dsimp only;lia) (by dsimp only;lia) λb=>?_)
     exact aJ (λ_=>wpS_pure ⟨_,_,rfl,by dsimp only;lia,by dsimp only;lia,c3,p3⟩) λ_=>wpS_pure ⟨_,rfl,c3,p3⟩
   case post2 =>
    rintro _ st3 ⟨l,e,rfl,l1,l2,c3,p3⟩
    refine aJ (λ_=>KI (gK c3 λst4 c4 p4=>?_)) λ_=>?_
    ·refine KI (gK c4 λst5 c5 p5=>?_)
     refine KI (Ma (LD (I:=λx c st6=>st6=st5/\c=(none,x)) (Q:=λc st6=>st6=st5/\∃m,c=(none,m)/\1<=m/\m<=nrem) ?_ ?_ ⟨rfl,rfl⟩) ?_)
     ·rintro x _ st6 hx1 hx ⟨rfl,rfl⟩
      have hx1:l<=x:=hx1
      refine wpS_bind (ie hL c5 (by dsimp only;lia) (by dsimp only;lia) λb=>?_)
      exact aJ (λ_=>wpS_pure ⟨rfl,_,rfl,by dsimp only;lia,by dsimp only;lia⟩) λ_=>wpS_pure ⟨rfl,rfl⟩
     ·rintro _ st6 ⟨rfl,rfl⟩
      exact⟨rfl,_,rfl,by dsimp only;lia,by dsimp only;lia⟩
     ·rintro _ st6 ⟨rfl,m,rfl,m1,m2⟩
      exact K3 (h m _ c5 (p5.trans (p4.trans p3)) m1 m2)
    ·refine KI (gK c3 λst5 c5 p5=>?_)
     refine KI (Ma (LD (I:=λx c st6=>st6=st5/\c=(none,x)) (Q:=λc st6=>st6=st5/\∃m,c=(none,m)/\1<=m/\m<=nrem) ?_ ?_ ⟨rfl,rfl⟩) ?_)
     ·rintro x _ st6 hx1 hx ⟨rfl,rfl⟩
      have hx1:l<=x:=hx1
      refine wpS_bind (ie hL c5 (by dsimp only;lia) (by dsimp only;lia) λb=>?_)
      exact aJ (λ_=>wpS_pure ⟨rfl,_,rfl,by dsimp only;lia,by dsimp only;lia⟩) λ_=>wpS_pure ⟨rfl,rfl⟩
     ·rintro _ st6 ⟨rfl,rfl⟩
      exact⟨rfl,_,rfl,by dsimp only;lia,by dsimp only;lia⟩
     ·rintro _ st6 ⟨rfl,m,rfl,m1,m2⟩
      exact K3 (h m _ c5 (p5.trans p3) m1 m2)
end
end UfTs
end
section
namespace UfTs
open PySem PyProof.Rows
abbrev Run:=Nat×Nat×Nat
def cX:List Run->Nat->Nat->Prop
 |[],a,b=>a=b
 |(s,n,_)::r,a,b=>s=a/\1<=n/\cX r (a+n) b
theorem cX.le:∀{l:List Run} {a b:Nat},cX l a b->a<=b
 |[],_,_,h=>Pj h
 |(s,n,_)::r,a,b,⟨_,h2,h3⟩=>by have:=cX.le h3;lia
theorem cX.merge:∀{l:List Run} {a b i sa na pw sb nb pw2:Nat},cX l a b->l[i]?=some (sa,na,pw)->l[i+1]?=some (sb,nb,pw2) ->
  (sb=sa+na/\1<=na/\1<=nb/\sb+nb<=b)/\cX ((l.set i (sa,na+nb,pw)).eraseIdx (i+1)) a b
 |[],_,_,_,_,_,_,_,_,_,_,h,_=>by simp at h
 |(s,n,p)::r,a,b,0,sa,na,pw,sb,nb,pw2,⟨h1,h2,h3⟩,e1,e2=>by
  have e1:(s,n,p)=(sa,na,pw):=by simpa using e1
  obtain⟨rfl,rfl,rfl⟩:s=sa/\n=na/\p=pw:=by simpa using e1
  match r,h3,e2 with
  |[],_,e2=>simp at e2
  |(s',n',p')::r,⟨k1,k2,k3⟩,e2 =>
   have e2:(s',n',p')=(sb,nb,pw2):=by simpa using e2
   cases e2
   have:=cX.le k3
   refine⟨⟨by lia,h2,k2,by lia⟩,?_⟩
   show cX ((s,n+nb,p)::r) a b
   exact⟨h1,by lia,by rw[<-Nat.add_assoc];exact k3⟩
 |(s,n,p)::r,a,b,i+1,sa,na,pw,sb,nb,pw2,⟨h1,h2,h3⟩,e1,e2=>by
  obtain⟨k1,k2⟩:=cX.merge h3 (i:=i) (by simpa using e1) (by simpa using e2)
  exact⟨k1,h1,h2,k2⟩
theorem cX.snoc:∀{l:List Run} {a b n p:Nat},cX l a b->1<=n->cX (l++[(b,n,p)]) a (b+n)
 |[],a,b,n,p,h,hn=>by
  have h:a=b:=h
  subst h
  exact⟨rfl,hn,rfl⟩
 |(s,m,q)::r,a,b,n,p,⟨h1,h2,h3⟩,hn=>⟨h1,h2,cX.snoc h3 hn⟩
theorem cX.mod:∀{l:List Run} {a b:Nat} (i pw:Nat),cX l a b->cX (l.modify i λx=>(x.1,x.2.1,pw)) a b
 |[],_,_,i,pw,h=>by simpa using h
 |(s,n,p)::r,a,b,0,pw,⟨h1,h2,h3⟩=>by
  rw[List.modify_zero_cons]
  exact⟨h1,h2,h3⟩
 |(s,n,p)::r,a,b,i+1,pw,⟨h1,h2,h3⟩=>by
  rw[List.modify_succ_cons]
  exact⟨h1,h2,cX.mod i pw h3⟩
section
variable {prog:Program}{w:World}{A:Around}{E:Value->Shared->Prop}{s:Shared}{κ:SortKind}{S:Keyed->Prop}
def lP(hL:lR prog w A s κ S){n i lo:Nat}{st:SortSt}{Q:Bool->SortSt->Prop}(c:Cl κ S n st)(ct:cX (pendingOf st).toList 0 lo)(le:lo<=n)(hi:i+1<(pendingOf st).size)(h:∀st',Cl κ S n st'->cX (pendingOf st').toList 0 lo->Q true st'):wpS (model prog w) A E s (mergeAt' i) Q st:=by
 obtain⟨⟨sa,na,pw⟩,e1⟩:∃x,(pendingOf st)[i]?=some x:=⟨_,QC _ i (by lia)⟩
 obtain⟨⟨sb,nb,pw2⟩,e2⟩:∃x,(pendingOf st)[i+1]?=some x:=⟨_,QC _ (i+1) hi⟩
 obtain⟨⟨k1,k2,k3,k4⟩,k5⟩:=ct.merge (by rw[L9];exact e1) (by rw[L9];exact e2)
 refine uE hL c e1 e2 k1 k2 k3 (by lia) λst' c' p'=>h st' c' ?_
 rw[p',Array.toList_eraseIdxIfInBounds,Array.toList_setIfInBounds]
 exact k5
def C0(hL:lR prog w A s κ S){n:Nat}{st:SortSt}{Q:Unit->SortSt->Prop}(c:Cl κ S n st)(p:pendingOf st = #[])(h:∀st',Cl κ S n st'->Q () st'):wpS (model prog w) A E s sortRuns' Q st:=by
 delta sortRuns'
 refine KI (Nq ?_)
 have sz:=c.sz
 refine KI (Ma (LD (I:=λ_ x st'=>∃lo,x=(none,lo)/\lo<=n/\Cl κ S n st'/\cX (pendingOf st').toList 0 lo) (Q:=λx st'=>∃lo,x=(none,lo)/\lo<=n/\Cl κ S n st'/\cX (pendingOf st').toList 0 lo) ?step (λx st' z=>z) ⟨0,rfl,by lia,c,by rw[p];rfl⟩) ?post)
 case post =>
  rintro _ st' ⟨lo,rfl,le,c',ct⟩
  refine KI (Ma (LD (I:=λ_ x st2=>x=(none,())/\Cl κ S n st2/\cX (pendingOf st2).toList 0 lo) (Q:=λx st2=>x=(none,())/\Cl κ S n st2) ?_ (λx st2 z=>⟨z.1,z.2.1⟩) ⟨rfl,c',ct⟩) ?_)
  ·rintro x _ st2 _ _ ⟨rfl,c2,ct2⟩
   refine KI (Nq ?_)
   refine aJ (λ_=>K3 ⟨rfl,c2⟩) λz=>?_
   have z:¬(pendingOf st2).size<=1:=z
   refine KI (lP hL c2 ct2 le ?_ λst3 c3 ct3=>?_)
   ·have any:∀(c:Prop) [Decidable c],(if c then(pendingOf st2).size-2-1 else(pendingOf st2).size-2)+1<(pendingOf st2).size:=λc _=>by split <;> lia
    exact any _
   ·exact aJ (λz=>absurd z (by decide)) λ_=>K3 ⟨rfl,c3,ct3⟩
  ·rintro _ st2 ⟨rfl,c2⟩
   exact K3 (h _ c2)
 case step =>
  rintro x _ st' _ _ ⟨lo,rfl,le,c',ct⟩
  refine aJ (λ_=>K3 ⟨lo,rfl,le,c',ct⟩) λz=>?_
  have z:¬lo>=n:=by rw[<-sz];exact z
  refine wpS_bind (AE hL c' (by dsimp only;show lo+((arrOf st).size-lo)<=n;lia) (by dsimp only;show 1<=(arrOf st).size-lo;lia) λm st2 c2 p2 m1 m2=>?_)
  have m2:m<=(arrOf st).size-lo:=m2
  refine aJ (λg=>?_) λ_=>?_
  ·have g:m<minRun' (arrOf st).size (arrOf st).size 0:=g
   refine KI (OC (Mu ⟨rfl,?_⟩))
   refine KI (x3 hL c2 (show lo+(min ((arrOf st).size-lo) (minRun' (arrOf st).size (arrOf st).size 0))<=n by lia) λst3 c3 p3=>?_)
   refine aJ (λz=>absurd z (by decide)) λ_=>?_
   refine KI (Nq ?_)
   generalize hb:(pendingOf st3).back?=ob
   have ct3:cX (pendingOf st3).toList 0 lo:=by rw[p3,p2];exact ct
   cases ob with
   |none =>
    refine KI (MY (K3 ⟨lo+(min ((arrOf st).size-lo) (minRun' (arrOf st).size (arrOf st).size 0)),rfl,by lia,⟨⟨c3.q.kind,c3.q.failed⟩,c3.al,c3.sz⟩,?_⟩))
    show cX ((pendingOf st3).push (lo,(min ((arrOf st).size-lo) (minRun' (arrOf st).size (arrOf st).size 0)),0)).toList 0 (lo+(min ((arrOf st).size-lo) (minRun' (arrOf st).size (arrOf st).size 0)))
    rw[Nd]
    exact ct3.snoc (by lia)
   |some y =>
    obtain⟨s1,n1,y3⟩:=y
    refine KI (Ma (LD (I:=λ_ x st4=>x=(none,())/\Cl κ S n st4/\cX (pendingOf st4).toList 0 lo) (Q:=λx st4=>x=(none,())/\Cl κ S n st4/\cX (pendingOf st4).toList 0 lo) ?_ (λx st4 z=>z) ⟨rfl,c3,ct3⟩) ?_)
    ·rintro x _ st4 _ _ ⟨rfl,c4,ct4⟩
     refine KI (Nq ?_)
     dsimp only
     generalize hp:(if (pendingOf st4).size > 1 then(pendingOf st4)[(pendingOf st4).size-2]? else none)=op
     cases op with
     |none=>exact K3 ⟨rfl,c4,ct4⟩
     |some y =>
      obtain⟨y1,y2,older⟩:=y
      have g:(pendingOf st4).size > 1:=by
       apply Pg
       intro g
       rw[KD g]at hp
       cases hp
      refine aJ (λ_=>K3 ⟨rfl,c4,ct4⟩) λ_=>?_
      refine KI (lP hL c4 ct4 le (show(pendingOf st4).size-2+1<(pendingOf st4).size by lia) λst5 c5 ct5=>?_)
      exact aJ (λz=>absurd z (by decide)) λ_=>K3 ⟨rfl,c5,ct5⟩
    ·rintro _ st4 ⟨rfl,c4,ct4⟩
     refine KI (MY ?_)
     refine KI (MY (K3 ⟨lo+(min ((arrOf st).size-lo) (minRun' (arrOf st).size (arrOf st).size 0)),rfl,by lia,⟨⟨c4.q.kind,c4.q.failed⟩,c4.al,c4.sz⟩,?_⟩))
     have:=cX.mod ((pendingOf st4).size-1) (power' (arrOf st).size (2*s1+n1) (2*s1+n1+n1+(min ((arrOf st).size-lo) (minRun' (arrOf st).size (arrOf st).size 0))) (arrOf st).size) ct4
     show cX (((pendingOf st4).modify _ _).push (lo,(min ((arrOf st).size-lo) (minRun' (arrOf st).size (arrOf st).size 0)),0)).toList 0 (lo+(min ((arrOf st).size-lo) (minRun' (arrOf st).size (arrOf st).size 0)))
     rw[Nd,Qz]
     exact cX.snoc this (by lia)
  ·refine KI (Nq ?_)
   generalize hb:(pendingOf st2).back?=ob
   have ct3:cX (pendingOf st2).toList 0 lo:=by rw[p2];exact ct
   cases ob with
   |none =>
    refine KI (MY (K3 ⟨lo+m,rfl,by lia,⟨⟨c2.q.kind,c2.q.failed⟩,c2.al,c2.sz⟩,?_⟩))
    show cX ((pendingOf st2).push (lo,m,0)).toList 0 (lo+m)
    rw[Nd]
    exact ct3.snoc (by lia)
   |some y =>
    obtain⟨s1,n1,y3⟩:=y
    refine KI (Ma (LD (I:=λ_ x st4=>x=(none,())/\Cl κ S n st4/\cX (pendingOf st4).toList 0 lo) (Q:=λx st4=>x=(none,())/\Cl κ S n st4/\cX (pendingOf st4).toList 0 lo) ?_ (λx st4 z=>z) ⟨rfl,c2,ct3⟩) ?_)
    ·rintro x _ st4 _ _ ⟨rfl,c4,ct4⟩
     refine KI (Nq ?_)
     dsimp only
     generalize hp:(if (pendingOf st4).size > 1 then(pendingOf st4)[(pendingOf st4).size-2]? else none)=op
     cases op with
     |none=>exact K3 ⟨rfl,c4,ct4⟩
     |some y =>
      obtain⟨y1,y2,older⟩:=y
      have g:(pendingOf st4).size > 1:=by
       apply Pg
       intro g
       rw[KD g]at hp
       cases hp
      refine aJ (λ_=>K3 ⟨rfl,c4,ct4⟩) λ_=>?_
      refine KI (lP hL c4 ct4 le (show(pendingOf st4).size-2+1<(pendingOf st4).size by lia) λst5 c5 ct5=>?_)
      exact aJ (λz=>absurd z (by decide)) λ_=>K3 ⟨rfl,c5,ct5⟩
    ·rintro _ st4 ⟨rfl,c4,ct4⟩
     refine KI (MY ?_)
     refine KI (MY (K3 ⟨lo+m,rfl,by lia,⟨⟨c4.q.kind,c4.q.failed⟩,c4.al,c4.sz⟩,?_⟩))
     have:=cX.mod ((pendingOf st4).size-1) (power' (arrOf st).size (2*s1+n1) (2*s1+n1+n1+m) (arrOf st).size) ct4
     show cX (((pendingOf st4).modify _ _).push (lo,m,0)).toList 0 (lo+m)
     rw[Nd,Qz]
     exact cX.snoc this (by lia)
end
end UfTs
end
section
namespace UfTs
open PySem PySem.Spec PyProof.Rows
structure Hs(h:Heap)(p:Addr)(x:Str)(tk:Tok)(q:Addr)(its:List Value)(ns:List Int):Prop where
 p:IsTup h p #[.str x tk,.ref q]
 q:IsTup h q its.toArray
 i:IntsAre its ns
def yD(h:Heap)(v:Value):Prop:=∃p x tk q its ns,v=.ref p/\Hs h p x tk q its ns
theorem yD.keeps{h h':Heap}{v:Value}(z:yD h v)(hk:∀b o,h.get? b=some o->h'.get? b=some o):yD h' v:=by
 obtain⟨p,x,tk,q,its,ns,rfl,a,b,c⟩:=z
 exact⟨p,x,tk,q,its,ns,rfl,a.keeps hk,b.keeps hk,c⟩
def Dt{p q:Addr}{a b:List Int}{its its2:List Value}(p1:IsTup s.heap p its.toArray)(p2:IsTup s.heap q its2.toArray)(i1:IntsAre its a)(i2:IntsAre its2 b)(hu:A.units<cLine):∃k,SeqAt.EqAt A s (.ref p) (.ref q) k:=by
 by_cases e:p=q
 ·subst e
  exact⟨true,M7 _⟩
 ·have all:∀(v w:Value),v∈its->w∈its2->∃k,SeqAt.EqAt A.in1 s v w k:=λv w hv hw=>by
   obtain⟨n,t,rfl⟩:=i1.all v hv
   obtain⟨m,u,rfl⟩:=i2.all w hw
   exact⟨_,L2.ft (x:=.int m) (y:=.int n) ⟨_,rfl⟩ ⟨_,rfl⟩ rfl rfl⟩
  have:∃e:Nat->Bool,∀j (h1:j<its.toArray.size) (h2:j<its2.toArray.size),SeqAt.EqAt A.in1 s its.toArray[j] its2.toArray[j] (e j):=by
   have c:∀j,∃k,∀(h1:j<its.toArray.size) (h2:j<its2.toArray.size),SeqAt.EqAt A.in1 s its.toArray[j] its2.toArray[j] k:=λj=>by
    by_cases h1:j<its.toArray.size
    ·by_cases h2:j<its2.toArray.size
     ·obtain⟨k,hk⟩:=all its.toArray[j] its2.toArray[j] (by simp) (by simp)
      exact⟨k,λ_ _=>hk⟩
     ·exact⟨true,λ_ z=>absurd z h2⟩
    ·exact⟨true,λz=>absurd z h1⟩
   exact⟨λj=>Classical.choose (c j),λj=>Classical.choose_spec (c j)⟩
  obtain⟨f,hf⟩:=this
  exact⟨_,.of_refs e (Nz (A:=A) p1 p2 hu hf)⟩
def C2{b:Bool}{x y:Str}{t u:Tok}{Q:Bool->Shared->Prop}(h:∀b,Q b s):wpAny (model prog w) A (oneLt' b (.str x t) (.str y u)) Q E s:=by
 cases b with
 |true=>exact oneLt_str (h _)
 |false =>
  rw[oneLt'_eq]
  simp only[LN,MC]
  exact Kv (lt_str (LU (h _)))
def Cj{p q:Addr}{a b:List Int}{its its2:List Value}{Q:Bool->Shared->Prop}(p1:IsTup s.heap p its.toArray)(p2:IsTup s.heap q its2.toArray)(i1:IntsAre its a)(i2:IntsAre its2 b)(hu:A.units<cLine)(h:∀b,Q b s):wpAny (model prog w) A (oneLt' false (.ref p) (.ref q)) Q E s:=by
 rw[oneLt'_eq]
 simp only[LN,MC]
 exact Kv (HT.va p1 p2 i1 i2 hu (LU (h _)))
def GZ{b:Bool}{v u:Value}(hv:yD s.heap v)(hu':yD s.heap u)(hu:A.units<cLine)(Q:Bool->Shared->Prop)(E:Value->Shared->Prop)(h:∀b,Q b s):wpAny (model prog w) A (keyLt' (tuples' b) v u) Q E s:=by
 obtain⟨p,x,tk,q,its,ns,rfl,P1,P2,P3⟩:=hv
 obtain⟨p',x',tk',q',its',ns',rfl,R1,R2,R3⟩:=hu'
 obtain⟨o,ho,hc,n,hd⟩:=P1
 obtain⟨o',ho',hc',n',hd'⟩:=R1
 delta keyLt'
 refine Kv (Py ho hd (Kv (Py ho' hd' ?_)))
 have e1:∃k,SeqAt.EqAt A s (.str x tk) (.str x' tk') k:=⟨_,L2.ft (x:=.str x') (y:=.str x) ⟨_,rfl⟩ ⟨_,rfl⟩ rfl rfl⟩
 obtain⟨k1,e1⟩:=e1
 obtain⟨k2,e2⟩:=Dt P2 R2 P3 R3 hu
 show wpAny (model prog w) A (forIn [((Value.str x tk,Value.str x' tk'),0),((Value.ref q,Value.ref q'),1)] (none,()) _ >>= _) Q E s
 rw[MO]
 refine Kv (Kv (Kv (e1 _ _ _ _ ?_)))
 cases k1 with
 |false=>exact Kv (C2 λr=>Kz (Kz (Kz (h _))))
 |true =>
  refine Kz ?_
  dsimp only
  rw[MO]
  refine Kv (Kv (e2 _ _ _ _ ?_))
  cases k2 with
  |false =>
   have:(b&&(1:Nat)==0)=false:=by cases b <;> rfl
   simp only[this]
   exact Kv (Cj P2 R2 P3 R3 hu λr=>Kz (Kz (Kz (h _))))
  |true =>
   refine Kz ?_
   dsimp only
   rw[OZ]
   exact Kz (Kz (h _))
end UfTs
end
section
namespace UfTs
open PySem PySem.Spec PyProof.Rows
def IsTup.ne{h:Heap}{p a:Addr}{its:Array Value}{xs:Array Value}{n:Nat}(t:IsTup h p its)(ho:h.get? a=some (seqObj "list" xs n)):p≠a:=by
 rintro rfl
 obtain⟨o,e,c,_⟩:=t
 rw[ho]at e
 cases e
 exact absurd (show Value.type "list"=Value.type "tuple" from c) (by decide)
def yD.but{h h':Heap}{v:Value}{a:Addr}{xs:Array Value}{n:Nat}(z:yD h v)(ho:h.get? a=some (seqObj "list" xs n))(hk:∀b o,b≠a->h.get? b=some o->h'.get? b=some o):yD h' v:=by
 obtain⟨p,x,tk,q,its,ns,rfl,a1,b1,c⟩:=z
 have n1:=IsTup.ne a1 ho
 have n2:=IsTup.ne b1 ho
 obtain⟨o1,e1,r1⟩:=a1
 obtain⟨o2,e2,r2⟩:=b1
 exact⟨p,x,tk,q,its,ns,rfl,⟨o1,hk _ _ n1 e1,r1⟩,⟨o2,hk _ _ n2 e2,r2⟩,c⟩
theorem lN{α β:Type}{f:α->Sem β}{P:β->Prop}{M:Model}:∀(l:List α) {Q:List β->Shared->Prop},(∀v∈l,∀(Q':β->Shared->Prop),(∀r,P r->Q' r s)->wpAny M A (f v) Q' E s)->(∀rs,(∀r∈rs,P r)->Q rs s)->wpAny M A (l.mapM f) Q E s
 |[],Q,_,h=>by
  rw[List.mapM_nil]
  exact Kz (h [] λr hr=>nomatch hr)
 |v::l,Q,hf,h=>by
  rw[List.mapM_cons]
  refine Kv (hf v K9 _ λr hr=>Kv (lN l (λu hu=>hf u (K6 _ hu)) λrs hrs=>Kz (h _ λz hz=>?_)))
  rcases KR.mp hz with e|e
  ·rw[e];exact hr
  ·exact hrs z e
def Dq{vs:List Value}{Q:SortKind->Shared->Prop}(hv:∀v∈vs,yD s.heap v)(h:∀b,Q (tuples' b) s):wpAny (model prog w) A (keyKind' vs.toArray) Q E s:=by
 rw[keyKind'_eq,List.mapM_toArray,map_eq_pure_bind]
 refine Kv (Kv (lN (P:=λr=>∃x t,r=some (Value.str x t)) _ (λv hm Q' hq=>?_) λrs hrs=>Kz ?_))
 ·obtain⟨p,x,tk,q,its,ns,rfl,⟨o,ho,hc,n,hd⟩,_,_⟩:=hv v hm
  delta firstOfTuple'
  refine Kv (wpAny_typeOf_ref ho ?_)
  rw[hc]
  refine Kv (Py ho hd ?_)
  exact Kz (hq _ ⟨x,tk,rfl⟩)
 ·have all:(rs.toArray.all (·.isSome))=true:=by
   rw[List.all_toArray,LS]
   intro r hr
   obtain⟨x,t,rfl⟩:=hrs r hr
   rfl
  rw[KP all]
  refine Kv (Mu ?_)
  rw[oneTypeOnly'_eq,List.filterMap_toArray,List.mapM_toArray,map_eq_pure_bind]
  refine Kv (Kv (Kv (lN (P:=λ_=>True) _ (λv hm Q' hq=>?_) λts _=>Kz ?_)))
  ·obtain⟨r,hr,e⟩:=MF.mp hm
   obtain⟨x,t,rfl⟩:=hrs r hr
   cases e
   exact OH (Qn s x t) (hq _ trivial)
  ·cases (List.toArray ts)[0]? with
   |none=>exact Kz (Kz (h _))
   |some t=>exact Kz (Kz (h _))
def qL{a:Addr}{vs:List Value}{n:Nat}{P:Fin->Shared->Prop}(ho:s.heap.get? a=some (seqObj "list" vs.toArray n))(hv:∀v∈vs,yD s.heap v)(hz:vs.length<=sizeLine)(hu:A.units<cLine)
  (h:∀out:Array Value,(∀v∈out,v∈vs)->out.size=vs.length->P (.done (.ret .none)) { s with heap:=sortedHeap s.heap a vs out }):wpAny (model prog w) A (Builtin.«list.sort» ⟨[.ref a],[]⟩) P E s:=by
 rw[list_sort_plain]
 have ha:a<s.heap.objs.size:=KO ho
 have hsz:vs.toArray.size=vs.length:=by simp
 refine Kv (Py ho rfl ?_)
 refine Kv (listUpdate_at ho rfl ?_ (hsz:=by rw[hsz];exact hz))
 obtain⟨e1,ho1⟩:∃e1,(s.heap.update a (Obj.mapSeq λ_=>#[])).get? a=some (seqObj "list" #[] e1):=⟨_,get?_update_seq ho (λ_=>#[])⟩
 refine Kv (seqEpoch_at ho1 rfl ?_)
 refine Kv (wpAny_newTuple ?_ (by simpa using hz))
 refine Kv (Ow ?_)
 refine LY ?_
 have ho6:(((s.heap.update a (Obj.mapSeq λ_=>#[])).push (seqObj "tuple" vs.toArray 0)).push (seqObj "list" #[] 0)).get? a=some (seqObj "list" #[] e1):=by
  rw[Ol _ _ _ (by rw[Nt,MV];exact K5 (Lw ha)),Ol _ _ _ (by rw[MV];exact K5 ha)]
  exact ho1
 show wpAny (model prog w) A _ P E { s with heap:=((s.heap.update a (Obj.mapSeq λ_=>#[])).push (seqObj "tuple" vs.toArray 0)).push (seqObj "list" #[] 0) }
 have kp:∀b o,b≠a->s.heap.get? b=some o->(((s.heap.update a (Obj.mapSeq λ_=>#[])).push (seqObj "tuple" vs.toArray 0)).push (seqObj "list" #[] 0)).get? b=some o:=λb o nb e=>by
  have hb:=KO e
  rw[Ol _ _ _ (by rw[Nt,MV];exact K5 (Lw hb)),Ol _ _ _ (by rw[MV];exact K5 hb),Heap.get?_update_ne _ _ _ _ nb]
  exact e
 have hv6:∀v∈vs,yD (((s.heap.update a (Obj.mapSeq λ_=>#[])).push (seqObj "tuple" vs.toArray 0)).push (seqObj "list" #[] 0)) v:=λv hm=>(hv v hm).but ho kp
 have fin:∀out:Array Keyed,Al (λp=>p.1=p.2/\p.1∈vs) out->out.size=vs.length->P (.done (.ret .none)) { s with heap:=sortedHeap s.heap a vs (out.map (·.2)) }:=λout al sz=>h _ (λv hm=>by
  obtain⟨p,hp,rfl⟩:=Array.mem_map.mp hm
  obtain⟨z1,z2⟩:=al p hp
  rw[<-z1];exact z2) (by rw[Ql];exact sz)
 have al0:Al (λp:Keyed=>p.1=p.2/\p.1∈vs) (vs.toArray.zip vs.toArray):=λp hp=>by
  have:p∈vs.zip vs:=by simpa using hp
  exact mem_zip_self this
 have sz0:(vs.toArray.zip vs.toArray).size=vs.length:=pairsOf_size vs
 dsimp only
 by_cases h2:vs.toArray.size<2
 ·rw[KP h2,KP h2]
  refine Kv (Kz ?_)
  rw[StateT.run_pure]
  refine Kv (Kz ?_)
  dsimp only
  refine Kv (seqEpoch_at ho6 rfl ?_)
  refine Kv (listUpdate_at ho6 rfl ?_ (hsz2:=by rw[Ql];show(pairsOf vs).size<=_;rw[pairsOf_size];lia))
  simp only[bne_self_eq_false,LN,MC]
  exact Kz (fin _ al0 sz0)
 ·rw[KD h2,KD h2]
  refine Kv (Dq hv6 λb=>?_)
  refine Kv (Mp (C0 (κ:=tuples' b) (S:=λp=>p.1=p.2/\p.1∈vs) (n:=vs.length) (st:=SortSt.mk' (tuples' b) (vs.toArray.zip vs.toArray) #[] 7 none) (Q:=λ_ st'=>Cl (tuples' b) (λp=>p.1=p.2/\p.1∈vs) vs.length st') (λx y hx hy Q E hq=>GZ (hv6 _ hx.2) (hv6 _ hy.2) hu Q E hq) ⟨⟨rfl,rfl⟩,al0,sz0⟩ rfl λst' c=>c) ?_ λ_ _ e=>e)
  rintro⟨⟨⟩,st'⟩ s' ⟨rfl,c⟩
  dsimp only
  refine Kv (seqEpoch_at ho6 rfl ?_)
  refine Kv (listUpdate_at ho6 rfl ?_ (hsz2:=by rw[Ql];exact Lh (Pj c.sz) (by lia)))
  rw[c.q.failed]
  simp only[bne_self_eq_false,LN,MC]
  exact Kz (fin _ c.al c.sz)
end UfTs
end
section
namespace UfTs
open PySem PySem.Spec PyProof.Rows
def yU{l:Addr}{vs:List Value}{Q:Value->Shared->Prop}(hl:s.heap.IsList l vs.toArray)(hv:∀v∈vs,yD s.heap v)(hz:vs.length<=sizeLine)(hu:A.units+2<cLine)
  (h:∀h' D (out:Array Value) n,(∀b o,s.heap.get? b=some o->h'.get? b=some o)->s.heap.objs.size<=D->h'.get? D=some (seqObj "list" out n)->(∀v∈out,v∈vs)->out.size=vs.length->Q (.ref D) { s with heap:=h' }):wpAny (model prog w) A (call (.builtin "sorted") [.ref l]) Q E s:=by
 refine Ng kind_sorted Pq Pt (Pu _) ?_
 unfold Builtin.«sorted»
 refine Kv (m:=checkCount "sorted" 1 1 _) (Kz ?_)
 refine Kv (collect_list hl ?_ (by simpa using hz))
 refine Kv (Ow ?_ hz)
 have k0:∀b o,s.heap.get? b=some o->((s.heap.push (seqObj "list" #[] 0)).update s.heap.objs.size (Obj.mapSeq (· ++ vs.toArray))).get? b=some o:=λb o e=>by
  rw[LJ _ _ (MK (KO e))]
  exact Ky _ e
 have z0:s.heap.objs.size<=((s.heap.push (seqObj "list" #[] 0)).update s.heap.objs.size (Obj.mapSeq (· ++ vs.toArray))).objs.size:=by rw[MV,Nt];exact Mn _
 generalize ((s.heap.push (seqObj "list" #[] 0)).update s.heap.objs.size (Obj.mapSeq (· ++ vs.toArray)))=h1 at k0 z0 ⊢
 have hoL:(h1.push (seqObj "list" vs.toArray 0)).get? h1.objs.size=some (seqObj "list" vs.toArray 0):=KY _ rfl
 have hv1:∀v∈vs,yD (h1.push (seqObj "list" vs.toArray 0)) v:=λv hm=>(hv v hm).keeps λb o e=>Ky _ (k0 b o e)
 refine Kv (LY (Ms OV ⟨_,hoL,rfl⟩ OI (qL hoL hv1 hz (by show A.units+1+1<cLine;lia) λout o1 o2=>⟨_,rfl,?_⟩) (OW _)))
 obtain⟨e,he⟩:=Pb (h:=h1.push (seqObj "list" vs.toArray 0)) (a:=h1.objs.size) (vs:=vs) (n:=0) (out:=out) hoL
 refine Kz ⟨_,rfl,h _ _ out e (λb o hb=>?_) z0 he o1 o2⟩
 have hb1:=k0 b o hb
 rw[OX (K5 (KO hb1)) (by rw[Nt];exact Lw (KO hb1))]
 exact Ky _ hb1
def yv{l:Addr}{vs:List Value}{Q:Value->Shared->Prop}(hl:s.heap.IsList l vs.toArray){ns:List Int}(hI:IntsAre vs ns)(h64:vs.length<64)
  (h:∀h' D (out:Array Value) n,(∀b o,s.heap.get? b=some o->h'.get? b=some o)->s.heap.objs.size<=D->h'.get? D=some (seqObj "list" out n)->(∃ns',IntsAre out.toList ns'/\ns'.Perm ns/\ns'.Pairwise (·<=·))->Q (.ref D) { s with heap:=h' }):wpAny (model prog w) A (call (.builtin "sorted") [.ref l]) Q E s:=by
 have hz:vs.length<=sizeLine:=by rw[LF];lia
 refine Ng kind_sorted Pq Pt (Pu _) ?_
 unfold Builtin.«sorted»
 refine Kv (m:=checkCount "sorted" 1 1 _) (Kz ?_)
 refine Kv (collect_list hl ?_ (by simpa using hz))
 refine Kv (Ow ?_ hz)
 have k0:∀b o,s.heap.get? b=some o->((s.heap.push (seqObj "list" #[] 0)).update s.heap.objs.size (Obj.mapSeq (· ++ vs.toArray))).get? b=some o:=λb o e=>by
  rw[LJ _ _ (MK (KO e))]
  exact Ky _ e
 have z0:s.heap.objs.size<=((s.heap.push (seqObj "list" #[] 0)).update s.heap.objs.size (Obj.mapSeq (· ++ vs.toArray))).objs.size:=by rw[MV,Nt];exact Mn _
 generalize ((s.heap.push (seqObj "list" #[] 0)).update s.heap.objs.size (Obj.mapSeq (· ++ vs.toArray)))=h1 at k0 z0 ⊢
 have hoL:(h1.push (seqObj "list" vs.toArray 0)).get? h1.objs.size=some (seqObj "list" vs.toArray 0):=KY _ rfl
 refine Kv (LY (Ms OV ⟨_,hoL,rfl⟩ OI (list_sort_tree hoL hI h64 λout ns' o1 o2 o3=>⟨_,rfl,?_⟩) (OW _)))
 obtain⟨e,he⟩:=Pb (h:=h1.push (seqObj "list" vs.toArray 0)) (a:=h1.objs.size) (vs:=vs) (n:=0) (out:=out) hoL
 refine Kz ⟨_,rfl,h _ _ out e (λb o hb=>?_) z0 he ⟨ns',o1,o2,o3⟩⟩
 have hb1:=k0 b o hb
 rw[OX (K5 (KO hb1)) (by rw[Nt];exact Lw (KO hb1))]
 exact Ky _ hb1
end UfTs
namespace L2
open PySem PySem.Spec PyProof.Rows UfB Uf
def bZ(T:List Nat):List Nat:=T.mergeSort λa b=>decide (a<=b)
def cT(T:List Nat):(bZ T).Perm T:=Qx _ _
def kW(T:List Nat):(bZ T).Pairwise (·<=·):=by
 have:=PQ (le:=λa b:Nat=>decide (a<=b)) (λa b c h1 h2=>by simp at *;lia) (λa b=>by simp;lia) T
 exact this.imp λh=>by simpa using h
def xl{xs T:List Nat}(h:xs.Pairwise (·<=·))(p:xs.Perm T):xs=bZ T:=MP (λa b _ _ h1 h2=>Nat.le_antisymm h1 h2) h (kW T) (p.trans (cT T).symm)
def lY{xs ys:List Nat}(p:xs.Perm ys):bZ xs=bZ ys:=xl (kW xs) ((cT xs).trans p)
def Am{xs:List Nat}{x:Nat}:x∈bZ xs↔x∈xs:=(cT xs).mem_iff
def jS(xs:List Nat):(bZ xs).length=xs.length:=(cT xs).length_eq
section
variable {X:Cx}
def fi(T:List Nat):nats T=(T.map λn:Nat=>(n:Int)).map V.int:=by
 unfold nats
 rw[Lk]
 rfl
def Ga(K:PySem.W.Frag):List V->Hp->VK->Prop:=λxs H Q=>∃l T,xs=[.ref l]/\aA K H l (nats T)/\T.length<64/\∀p,H p=none->Q (.ref p) (upd H p (.lst (nats (bZ T))))
theorem kg:∀{us:List Value} {ns:List Int},IntsAre us ns->Vals (ns.map V.int) us
 |_,_,.nil=>.nil
 |_,_,.cons n t h=>.cons ⟨t,rfl⟩ (kg h)
def vE:dS X (.builtin "sorted") (Ga X.K):=by
 intro pins s σ H xs us Q I r h
 obtain⟨l,T,rfl,hl,hz,q⟩:=h
 obtain⟨u,rfl,ru⟩:=vals1 r
 cases ru
 obtain⟨its,rv,pl,_⟩:=I.list hl
 rw[fi]at rv
 have i1:=intsAre_of rv
 have l1:its.length=T.length:=by
  have:=rv.length
  rw[Kw,Kw]at this
  exact this.symm
 refine UfTs.yv pl.isList i1 (by lia) λh' D out n kp nw at' hZ=>?_
 obtain⟨ns',o1,o2,o3⟩:=hZ
 have e:ns'=(bZ T).map (λn:Nat=>(n:Int)):=by
  refine MP (λa b _ _ h1 h2=>Int.le_antisymm h1 h2) o3 ?_ (o2.trans ((cT T).map _).symm)
  exact Nf.mpr ((kW T).imp λh=>Int.ofNat_le.mpr h)
 subst e
 have hv:=kg o1
 rw[<-fi]at hv
 have hlen:(nats (bZ T)).length<=sizeLine:=by rw[bp,jS,LF];lia
 refine⟨.ref D,_,I.laid (o:=.lst (nats (bZ T))) (t':=s.toks) kp nw (show bU X.prog X.w _ h' D (.lst (nats (bZ T))) from⟨hlen,out.toList,n,hv,by rw[NN];exact at'⟩),rfl,q _ (I.hok.fresh nw)⟩
def FA(X:Cx):List V->Hp->VK->Prop:=λxs H Q=>∃(l:Addr) (qs:List Addr),xs=[.ref l]/\aA X.K H l (qs.map V.ref)/\X.A.units+2<cLine/\(∀q∈qs,∃x t T,H q=some (.tup [.str x,.ref t])/\H t=some (.tup (nats T)))/\∀(p:Addr) (qs':List Addr),H p=none->(∀q∈qs',q∈qs)->qs'.length=qs.length->Q (.ref p) (upd H p (.lst (qs'.map V.ref)))
theorem wc:∀{qs:List Addr} {us:List Value},Vals (qs.map V.ref) us->us=qs.map Value.ref
 |[],_,.nil=>rfl
 |q::qs,_,.cons r h=>by
  have r:_=Value.ref q:=r
  rw[r,wc h]
  rfl
theorem xE:∀(qs:List Addr),Vals (qs.map V.ref) (qs.map Value.ref)
 |[]=>.nil
 |q::qs=>.cons rfl (xE qs)
def vc:dS X (.builtin "sorted") (FA X):=by
 intro pins s σ H xs us Q I r h
 obtain⟨l,qs,rfl,hl,hu,hq,q⟩:=h
 obtain⟨u,rfl,ru⟩:=vals1 r
 cases ru
 obtain⟨its,rv,pl,hz⟩:=I.list hl
 have e:=wc rv
 subst e
 rw[Kw]at hz
 refine UfTs.yU pl.isList (λv hv=>?_) (by rw[Kw];exact hz) hu λh' D out n kp nw at' o1 o2=>?_
 ·obtain⟨p,hp,rfl⟩:=K0.mp hv
  obtain⟨x,t,T,h1,h2⟩:=hq p hp
  obtain⟨i1,r1,p1,_⟩:=I.tuple (bX.of (K:=X.K) h1)
  obtain⟨i2,r2,p2,_⟩:=I.tuple (bX.of (K:=X.K) h2)
  obtain⟨a,b,rfl,⟨tk,rfl⟩,rb⟩:=r1.two
  have rb:b=Value.ref t:=rb
  subst rb
  rw[fi]at r2
  exact⟨p,x,tk,t,i2,_,rfl,p1,p2,intsAre_of r2⟩
 ·have:∃qs':List Addr,out.toList=qs'.map Value.ref/\∀z∈qs',z∈qs:=by
   have all:∀(vs:List Value),(∀v∈vs,v∈qs.map Value.ref)->∃qs':List Addr,vs=qs'.map Value.ref/\∀z∈qs',z∈qs:=λvs=>by
    induction vs with
    |nil=>exactλ_=>⟨[],rfl,λz hz=>nomatch hz⟩
    |cons v vs ih =>
     intro hv
     obtain⟨qs',e1,e2⟩:=ih λu hu=>hv u (K6 _ hu)
     obtain⟨p,hp,rfl⟩:=K0.mp (hv v K9)
     refine⟨p::qs',by rw[e1];rfl,λz hz=>?_⟩
     rcases KR.mp hz with e|e
     ·rw[e];exact hp
     ·exact e2 z e
   exact all _ λv hv=>o1 v (by simpa using hv)
  obtain⟨qs',e1,e2⟩:=this
  have l1:qs'.length=qs.length:=by
   have:out.toList.length=qs'.length:=by rw[e1,Kw]
   rw[L7,o2,Kw]at this
   exact this.symm
  have hlen:(qs'.map V.ref).length<=sizeLine:=by rw[Kw,l1];exact hz
  exact⟨.ref D,_,I.laid (o:=.lst (qs'.map V.ref)) (t':=s.toks) kp nw (show bU X.prog X.w _ h' D (.lst (qs'.map V.ref)) from⟨hlen,out.toList,n,by rw[e1];exact xE _,by rw[NN];exact at'⟩),rfl,q _ _ (I.hok.fresh nw) e2 l1⟩
end
end L2
end
section
namespace UfTs
open PySem PySem.Spec PyProof.Rows L2
abbrev Pr:=Str×List Nat
def Du(h:Heap)(k:Pr)(a:Addr):Prop:=∃tk q its,Hs h a k.1 tk q its (k.2.map λn:Nat=>(n:Int))
def xm{its:List Value}{a b:List Int}(h:IntsAre its a)(k:IntsAre its b):a=b:=by
 rw[<-h.nums,<-k.nums]
def xD{a b:List Nat}(h:a.map (λn:Nat=>(n:Int))=b.map λn:Nat=>(n:Int)):a=b:=Oa (λ_ _ z=>by lia) |>.mp h
def IsTup.uniq{h:Heap}{a:Addr}{xs ys:Array Value}(p:IsTup h a xs)(q:IsTup h a ys):xs=ys:=by
 obtain⟨o,e,_,n,d⟩:=p
 obtain⟨o',e',_,n',d'⟩:=q
 rw[e]at e'
 cases e'
 rw[d]at d'
 cases d'
 rfl
def Du.inj{h:Heap}{a:Addr}{x y:Pr}(p:Du h x a)(q:Du h y a):x=y:=by
 obtain⟨tk,b,its,p1,p2,p3⟩:=p
 obtain⟨tk',b',its',q1,q2,q3⟩:=q
 have e:=IsTup.uniq p1 q1
 have e1:Value.str x.1 tk=Value.str y.1 tk'/\Value.ref b=Value.ref b':=by simpa using e
 obtain⟨e1,e2⟩:=e1
 cases e2
 have e3:=IsTup.uniq p2 q2
 have e3:its=its':=by simpa using e3
 subst e3
 exact Prod.ext (by injection e1) (xD (xm p3 q3))
def IsTup.Es{h h':Heap}{a d:Addr}{xs:Array Value}{o:Obj}{es ep}(t:IsTup h a xs)(ho:h.get? d=some o)(hd:o.data=.dict es ep)(hs:Heap.SameBut d h h'):IsTup h' a xs:=by
 obtain⟨o',e,c,n,dd⟩:=t
 have hne:a≠d:=by
  rintro rfl
  rw[ho]at e
  cases e
  rw[hd]at dd
  exact nomatch dd
 exact⟨o',(hs.2 a hne).trans e,c,n,dd⟩
def CD{p q:Addr}{a b:List Nat}{its its2:List Value}(p1:IsTup s.heap p its.toArray)(p2:IsTup s.heap q its2.toArray)(i1:IntsAre its (a.map λn:Nat=>(n:Int)))(i2:IntsAre its2 (b.map λn:Nat=>(n:Int)))(hu:A.units<cLine):SeqAt.EqAt A s (.ref p) (.ref q) (decide (a=b)):=by
 have n1:=i1.nums
 have n2:=i2.nums
 by_cases e:p=q
 ·subst e
  have:its=its2:=by simpa using IsTup.uniq p1 p2
  subst this
  rw[KC (xD (xm i1 i2))]
  exact M7 _
 ·have l1:its.length=a.length:=by rw[<-Kw (f:=numOf),n1,Kw]
  have l2:its2.length=b.length:=by rw[<-Kw (f:=numOf),n2,Kw]
  have:=Nz (A:=A) (e:=λj=>decide (a[j]?=b[j]?)) p1 p2 hu λj h1 h2=>by
   have h1':j<its.length:=by simpa using h1
   have h2':j<its2.length:=by simpa using h2
   obtain⟨n,t,e1⟩:=i1.all its[j] (by simp)
   obtain⟨m,u,e2⟩:=i2.all its2[j] (by simp)
   have g1:a[j]?=some a[j]:=Kx (by lia)
   have g2:b[j]?=some b[j]:=Kx (by lia)
   have v1:(a[j]:Int)=n:=by
    have:(its.map numOf)[j]?=some n:=by rw[KH,Kx h1',e1];rfl
    rw[n1,KH,g1]at this
    simpa using this
   have v2:(b[j]:Int)=m:=by
    have:(its2.map numOf)[j]?=some m:=by rw[KH,Kx h2',e2];rfl
    rw[n2,KH,g2]at this
    simpa using this
   show SeqAt.EqAt A.in1 s its[j] its2[j] _
   rw[e1,e2]
   have:=L2.ft (A:=A.in1) (s:=s) (x:=.int m) (y:=.int n) (u:=.int n t) (v:=.int m u) ⟨_,rfl⟩ ⟨_,rfl⟩ rfl rfl
   have e5:L2.pD (.int n) (.int m)=decide (a[j]?=b[j]?):=by
    show(n==m)=_
    rw[Lu,ML,Lp,g1,g2]
    constructor
    ·intro z
     congr 1
     lia
    ·intro z
     have:=Lq z
     lia
   rw[e5]at this
   exact this
  have e6:((List.range (min its.toArray.size its2.toArray.size)).all (λj=>decide (a[j]?=b[j]?))&&its.toArray.size==its2.toArray.size)=decide (a=b):=by
   rw[K8,K8,l1,l2,Lu,Md,LS,ML,Lp]
   constructor
   ·rintro⟨h,hl⟩
    refine NB λj=>?_
    by_cases hj:j<a.length
    ·exact Ln (h j (Ly.mpr (by lia)))
    ·rw[Ll (by lia),Ll (by lia)]
   ·rintro rfl
    exact⟨λj _=>KC rfl,rfl⟩
  rw[e6]at this
  exact .of_refs e this
def Fb{a b:Addr}{x y:Pr}(h1:Du s.heap x a)(h2:Du s.heap y b)(hu:A.units+1<cLine):SeqAt.EqAt A s (.ref a) (.ref b) (decide (x=y)):=by
 by_cases e:a=b
 ·subst e
  rw[KC (h1.inj h2)]
  exact M7 _
 ·obtain⟨tk,q,its,p1,p2,p3⟩:=h1
  obtain⟨tk',q',its',r1,r2,r3⟩:=h2
  have:=Nz (A:=A) (e:=λj=>if j=0 then decide (x.1=y.1) else decide (x.2=y.2)) p1 r1 (by lia) λj h1 h2=>by
   match j,h1 with
   |0,_ =>
    have:=L2.ft (A:=A.in1) (s:=s) (x:=.str y.1) (y:=.str x.1) (u:=.str x.1 tk) (v:=.str y.1 tk') ⟨_,rfl⟩ ⟨_,rfl⟩ rfl rfl
    have e5:L2.pD (.str x.1) (.str y.1)=decide (x.1=y.1):=by
     show(x.1==y.1)=_
     rw[Lu,ML,Lp]
    rw[e5]at this
    exact this
   |1,_=>exact CD p2 r2 p3 r3 (show A.units+1<cLine from hu)
   |j+2,h=>exact absurd h (by simp)
  have e6:((List.range 2).all (λj=>if j=0 then decide (x.1=y.1) else decide (x.2=y.2))&&(2:Nat)==2)=decide (x=y):=by
   rw[Lu]
   simp[List.range_succ,Prod.ext_iff]
  exact .of_refs e (by rw[<-e6];exact this)
def AM(prog:Program)(w:World)(k:Pr):Int:=reduceHash (Builtin.Tuple.tupleHashOf [(aR prog w).hash (Sum.inr k.1),tupleKeyHash (aR prog w) (k.2.map λn:Nat=>(Sum.inl (n:Int):Key))])
theorem nJ{prog:Program}{w:World}:∀{its:List Value} {ns:List Int},IntsAre its ns->ItemsAre (aR prog w) (ns.map Sum.inl) its
 |_,_,.nil=>.nil
 |_,_,.cons n t h=>.cons (m7 (k:=Sum.inl n) ⟨t,rfl⟩) (nJ h)
def Bm{h:Heap}{q:Addr}{its:List Value}{T:List Nat}(p:IsTup h q its.toArray)(i:IntsAre its (T.map λn:Nat=>(n:Int))):IsTupleKey (aR prog w) h (T.map λn:Nat=>(Sum.inl (n:Int):Key)) q:=by
 obtain⟨o,e,c,n,d⟩:=p
 refine⟨o,its.toArray,n,e,c,d,?_⟩
 have:=nJ (prog:=prog) (w:=w) i
 rw[Lk]at this
 exact this
def DV{k:Pr}{a:Addr}{Q:Int->Shared->Prop}(hu:A.units+1<cLine)(hk:Du s.heap k a)(h:Q (AM prog w k) { s with toks:=s.toks+(k.2.length+3) }):wpAny (model prog w) A (pyHash (.ref a)) Q E s:=by
 obtain⟨tk,q,its,p1,p2,p3⟩:=hk
 have kt:=Bm (prog:=prog) (w:=w) p2 p3
 obtain⟨o,ho,hc,n,hd⟩:=p1
 have hT:s.TypeIs (.ref a) "tuple":=⟨o,ho,hc⟩
 unfold pyHash
 first|unfold pyHashByItsType|skip
 first|refine Kv (wpAny_cRoomFor_or (.inr (by lia)) ?_)|skip
 refine Kv (Nr hT Om.lookup ?_)
 show wpAny _ _ (if (some (Value.builtin "tuple.__hash__")==some Value.none)=true then _ else _) Q E s
 rw[KD (by rw[beq_builtin_none];exact Lb)]
 refine Kv (Nr hT Om.lookup ?_)
 refine Kv (wpAny_callSpecialIfBoundUnlessNone?_slot hT Om (Ms Om hT F.entry_tuple_hash ?_ (F.args_tuple_hash_1 _)))
 show wpAny _ _ (Builtin.Tuple.tupleItemsOf (.ref a) >>= _) _ _ s
 refine Kv (wpAny_tupleItemsOf ho hd ?_)
 refine Kv ?_
 rw[<-O7]
 show wpAny _ _ (forIn [Value.str k.1 tk,Value.ref q] _ _) _ _ s
 rw[MO]
 refine Kv (Kv ((aR prog w).pyHash (k:=Sum.inr k.1) (m7 (k:=Sum.inr k.1) ⟨tk,rfl⟩) (Kz ?_)))
 show wpAny _ _ (forIn [Value.ref q] _ _) _ _ _
 rw[MO]
 refine Kv (Kv (wpAny_pyHash_tuple (knd:=aR prog w) (show A.units+1<cLine from hu) kt (Kz ?_)))
 show wpAny _ _ (forIn [] _ _) _ _ _
 rw[OZ]
 refine Kz ?_
 show wpAny _ _ (retInt (Builtin.Tuple.tupleHashOf [(aR prog w).hash (Sum.inr k.1),tupleKeyHash (aR prog w) (k.2.map λn:Nat=>(Sum.inl (n:Int):Key))])) _ _ _
 refine wpAny_ret_mkInt ?_
 unfold AM reduceHash at h
 rw[Kw]
 have et:s.toks+1+(k.2.length+1)+1=s.toks+(k.2.length+3):=by lia
 show wpAny _ _ (if (decide (-(2:Int) ^ 63<=Builtin.Tuple.tupleHashOf [(aR prog w).hash (Sum.inr k.1),tupleKeyHash (aR prog w) (k.2.map λn:Nat=>(Sum.inl (n:Int):Key))])&&decide (Builtin.Tuple.tupleHashOf [(aR prog w).hash (Sum.inr k.1),tupleKeyHash (aR prog w) (k.2.map λn:Nat=>(Sum.inl (n:Int):Key))]<2 ^ 63))=true then _ else _) Q E { s with toks:=s.toks+1+(k.2.length+1)+1 }
 rw[et]
 generalize Builtin.Tuple.tupleHashOf [(aR prog w).hash (Sum.inr k.1),tupleKeyHash (aR prog w) (k.2.map λn:Nat=>(Sum.inl (n:Int):Key))]=z at h ⊢
 split
 ·rename_i c
  rw[KP c]at h
  exact Kz h
 ·rename_i c
  rw[KD c]at h
  exact Kv (Mu (Kz h))
def uJ{q:Addr}{its:List Value}{ns:List Int}{Q:Bool->Shared->Prop}(p:IsTup s.heap q its.toArray)(i:IntsAre its ns)(h:Q true s):wpAny (model prog w) A (eqIsQuiet 7 (.ref q)) Q E s:=by
 obtain⟨o,ho,hc,n,hd⟩:=p
 have hT:s.TypeIs (.ref q) "tuple":=⟨o,ho,hc⟩
 unfold eqIsQuiet
 refine Kv (Nr hT F.slot_tuple_eq.lookup ?_)
 show wpAny _ _ (isInstance (.ref q) (.type "tuple") >>= _) _ _ s
 refine Kv (OA hT isSubtype_tuple_tuple ?_)
 simp only[Oy,LN,MC]
 refine Kv (Ni ho hd ?_)
 refine Kv ?_
 show wpAny _ _ (forIn its.toArray _ _) _ _ s
 rw[<-O7]
 refine Pl _ (λrest r s'=>r.1=none/\s'=s/\∀v∈rest,carriedByValue v=true) _ ?_ ?_ _ _ ⟨rfl,rfl,λv hv=>by obtain⟨m,t,rfl⟩:=i.all v hv;rfl⟩
 ·rintro v rest r s' ⟨hr,rfl,hall⟩
  rw[eqIsQuiet_byValue _ (hall v K9)]
  refine Kv (Kz ?_)
  simp only[Oy,LN,MC]
  exact Kz ⟨rfl,rfl,λu hu'=>hall u (K6 _ hu')⟩
 ·rintro⟨r1,r2⟩ s' ⟨hr,rfl,_⟩
  simp only at hr
  subst hr
  exact Kz h
def zN{k:Pr}{a:Addr}{Q:Bool->Shared->Prop}(hk:Du s.heap k a)(h:Q true s):wpAny (model prog w) A (eqIsQuiet 8 (.ref a)) Q E s:=by
 obtain⟨tk,q,its,⟨o,ho,hc,n,hd⟩,p2,p3⟩:=hk
 have hT:s.TypeIs (.ref a) "tuple":=⟨o,ho,hc⟩
 unfold eqIsQuiet
 refine Kv (Nr hT F.slot_tuple_eq.lookup ?_)
 show wpAny _ _ (isInstance (.ref a) (.type "tuple") >>= _) _ _ s
 refine Kv (OA hT isSubtype_tuple_tuple ?_)
 simp only[Oy,LN,MC]
 refine Kv (Ni ho hd ?_)
 refine Kv ?_
 show wpAny _ _ (forIn #[Value.str k.1 tk,Value.ref q] _ _) _ _ s
 rw[<-O7]
 show wpAny _ _ (forIn [Value.str k.1 tk,Value.ref q] _ _) _ _ s
 rw[MO,eqIsQuiet_byValue _ rfl]
 refine Kv (Kv (Kz ?_))
 simp only[Oy,LN,MC]
 refine Kz ?_
 dsimp only
 rw[MO]
 refine Kv (Kv (uJ p2 p3 ?_))
 simp only[Oy,LN,MC]
 refine Kz ?_
 dsimp only
 rw[OZ]
 exact Kz (Kz h)
def fF(prog:Program)(w:World):HeapKind prog w Pr where
 is:=Du
 hash:=AM prog w
 draws:=λk=>k.2.length+3
 room:=λA=>A.units+1<cLine
 inj:=λhx hy=>hx.inj hy
 keeps:=λx ho hd hs=>let ⟨tk,q,its,p1,p2,p3⟩:=x;⟨tk,q,its,IsTup.Es p1 ho hd hs,IsTup.Es p2 ho hd hs,p3⟩
 pyHash:=λhu hk h=>DV hu hk h
 eqBool:=λhu hx hy h=>Fb hx hy hu _ _ _ _ h
 quiet:=λhk h=>zN hk h
end UfTs
end
section
namespace L2
open PySem PySem.Spec PyProof.Rows UfTs Uf UfB
def jL(H:Hp)(k:Pr)(p:Addr):Prop:=∃t,H p=some (.tup [.str k.1,.ref t])/\H t=some (.tup (nats k.2))
def jL.same{H H':Hp}{k:Pr}{p:Addr}(h:jL H k p)(s:∀a xs,H a=some (.tup xs)->H' a=some (.tup xs)):jL H' k p:=let ⟨t,a,b⟩:=h;⟨t,s _ _ a,s _ _ b⟩
def PD(P:Program)(w:World)(a:Addr)(ks:List (Pr×Addr)):HO:=.ext λh=>∃xs:List (Pr×Addr×Value),xs.map (λx=>(x.1,x.2.1))=ks/\(a==sysModules)=false/\xs.length<=sizeLine/\∃o es ep,h.get? a=some o/\o.ExactDict/\o.data=.dict es ep/\es.toList=xs.map (entryOfKey (fF P w))/\(xs.map (·.1)).Nodup
section
variable {X:Cx}{pins:List (Addr×Obj)}{σ:St}{H:Hp}{s:Shared}{a p:Addr}{k:Pr}{ks:List (Pr×Addr)}{A:Around}{E:Value->Shared->Prop}
def qx(I:Inv X pins σ H s)(h:jL H k p):Du s.heap k p:=by
 obtain⟨t,h1,h2⟩:=h
 obtain⟨i1,r1,p1,_⟩:=I.tuple (bX.of (K:=X.K) h1)
 obtain⟨i2,r2,p2,_⟩:=I.tuple (bX.of (K:=X.K) h2)
 obtain⟨u,v,rfl,⟨tk,rfl⟩,rb⟩:=r1.two
 have rb:v=Value.ref t:=rb
 subst rb
 rw[fi]at r2
 exact⟨tk,t,i2,p1,p2,intsAre_of r2⟩
def By(I:Inv X pins σ H s)(e:H a=some (PD X.prog X.w a ks))(hk:∀z∈ks,jL H z.1 z.2):∃xs:List (Pr×Addr×Value),xs.map (λx=>(x.1,x.2.1))=ks/\(a==sysModules)=false/\xs.length<=sizeLine/\s.heap.DictOfH (fF X.prog X.w) a xs:=by
 obtain⟨⟨xs,e1,e2,e3,o,es,ep,h1,h2,h3,h4,h5⟩,_⟩:=I.hok a _ e
 refine⟨xs,e1,e2,e3,o,es,ep,h1,h2,h3,h4,λx hx=>?_,h5⟩
 exact qx I (hk (x.1,x.2.1) (by rw[<-e1];exact K0.mpr ⟨x,hx,rfl⟩))
def EC{P:Program}{w:World}{H':Hp}{h:Heap}{xs:List (Pr×Addr×Value)}(e1:xs.map (λx=>(x.1,x.2.1))=ks)(e2:(a==sysModules)=false)(e3:xs.length<=sizeLine)(d:h.DictOfH (fF P w) a xs):bU P w H' h a (PD P w a ks):=by
 obtain⟨o,es,ep,h1,h2,h3,h4,_,h5⟩:=d
 refine⟨⟨xs,e1,e2,e3,o,es,ep,h1,h2,h3,h4,h5⟩,⟨o,h1⟩,?_⟩
 rintro g1 g2 ⟨xs,e1,e2,e3,o,es,ep,h1,r⟩ k
 exact⟨xs,e1,e2,e3,o,es,ep,k _ h1,r⟩
def kq{xs:List (Pr×Addr×Value)}(e:xs.map (λx=>(x.1,x.2.1))=ks):(atKey xs k).isSome=decide (k∈ks.map (·.1)):=by
 unfold atKey
 rw[Oi,<-e,Lk,Lu,List.find?_isSome]
 simp
def Hv(X:Cx)(neg:Bool):R2:=λx y H Q=>∃(p a:Addr) (k:Pr) (ks:List (Pr×Addr)),x=.ref p/\y=.ref a/\X.A.units+2<cLine/\jL H k p/\H a=some (PD X.prog X.w a ks)/\(∀z∈ks,jL H z.1 z.2)/\Q (.bl (if neg then !decide (k∈ks.map (·.1)) else decide (k∈ks.map (·.1)))) H
def Ig:fZ X (compareOp .In) (Hv X false):=by
 intro pins s σ H x y v u Q I rx ry h
 obtain⟨p,a,k,ks,rfl,rfl,hu,hp,ha,hk,q⟩:=h
 cases rx
 cases ry
 obtain⟨xs,e1,e2,e3,d⟩:=By I ha hk
 refine wpAny_in_heap (knd:=fF X.prog X.w) (show X.A.units+1+1<cLine from hu) (qx I hp) e2 d ?_
 rw[kq e1]
 exact⟨.bl _,H,I.tok _,rfl,q⟩
def AZ:fZ X (compareOp .NotIn) (Hv X true):=by
 intro pins s σ H x y v u Q I rx ry h
 obtain⟨p,a,k,ks,rfl,rfl,hu,hp,ha,hk,q⟩:=h
 cases rx
 cases ry
 obtain⟨xs,e1,e2,e3,d⟩:=By I ha hk
 refine wpAny_notIn_heap (knd:=fF X.prog X.w) (show X.A.units+1+1<cLine from hu) (qx I hp) e2 d ?_
 rw[kq e1]
 exact⟨.bl _,H,I.tok _,rfl,q⟩
def IP(X:Cx)(td ty tv:TE):TS:=λD σ H=>tv σ H λv H1=>td σ H1 λx H2=>ty σ H2 λy H3=>∃(p a:Addr) (k:Pr) (ks:List (Pr×Addr)),y=.ref p/\x=.ref a/\jL H3 k p/\H3 a=some (PD X.prog X.w a ks)/\(∀z∈ks,jL H3 z.1 z.2)/\k∉ks.map (·.1)/\ks.length<sizeLine/\D.nx σ (upd H3 a (PD X.prog X.w a (ks++[(k,p)])))
def Ea{o i value:Expr}{pos pos':Pos}{td ty tv:TE}(hu:X.A.units+2<cLine)(ho:PE X o td)(hi:PE X i ty)(hv:PE X value tv)(hs:swapsWith value (some (.Subscript o i pos')) pos.line X.env=pure false) :
  PS X (.Assign [.Subscript o i pos'] value pos) (IP X td ty tv):=by
 intro pins s σ H D I h
 refine wpAny_Assign_Subscript (cc (hv pins s σ H _ I h) λr s1 ⟨v,H1,I1,rv,q1⟩=>cc (ho pins s1 σ H1 _ I1 q1) λu s2 ⟨x,H2,I2,rx,q2⟩=>cc (hi pins s2 σ H2 _ I2 q2) λiv s3 ⟨y,H3,I3,ry,p,a,k,ks,ey,ex,hp,ha,hk,hn,hl,q3⟩=>?_) hs
 subst ex
 subst ey
 obtain rfl:u=Value.ref a:=rx
 obtain rfl:iv=Value.ref p:=ry
 obtain⟨xs,e1,e2,e3,d⟩:=By I3 ha hk
 have hno:atKey xs k=none:=by
  have:=kq (k:=k) e1
  rw[KU hn]at this
  exact Option.not_isSome_iff_eq_none.mp (by rw[this];exact Lb)
 have ll:ks.length=xs.length:=by rw[<-e1,Kw]
 refine wpAny_setItem_heap (knd:=fF X.prog X.w) (hsz:=e3) (show X.A.units+1+1<cLine from hu) (qx I3 hp) d λh' d' hs'=>⟨σ,_,?_,q3⟩
 rw[storedH_new hno]at d'
 have he:∃q,h'.get? a=some q:=let ⟨q,_,_,hq,_⟩:=d';⟨q,hq⟩
 exact kZ I3 (by rw[ha];exact True.intro) hs' he (EC (by rw[KS,e1];rfl) e2 (by rw[KA];show xs.length+1<=_;lia) d')
def Ki(X:Cx)(te:TE):TE:=λσ H Q=>te σ H λv H1=>∃a,H1 a=some (.dK [])/\Q v (upd H1 a (PD X.prog X.w a []))
def Fj{e:Expr}{te:TE}(he:PE X e te):PE X e (Ki X te):=by
 intro pins s σ H Q I h
 refine cc (he pins s σ H _ I h) λu s1 hZ=>?_
 obtain⟨v,H1,I1,r1,a,ea,q⟩:=hZ
 obtain⟨z,hd,vs,rel,o,es,ep,h1,h2,h3,_,h4,_⟩:=EW I1.hok ea
 cases rel
 have es0:es.toList=[]:=by
  have:=h4.length
  simpa using this
 have d:s1.heap.DictOfH (fF X.prog X.w) a []:=⟨o,es,ep,h1,h2,h3,es0,(λx hx=>by simp at hx),List.nodup_nil⟩
 exact⟨v,_,I1.write (t':=s1.toks) (h':=s1.heap) (x:=a) (e:=a) (by rw[ea];exact True.intro) (.inl rfl) (λb u _ q=>q) ⟨o,h1⟩ (EC rfl hd (K2 _) d),r1,q⟩
end
end L2
end
section
namespace L2
open PySem PySem.Spec PyProof.Rows UfSrt
def rm(H:Hp)(D:Addr):Hp:=λb=>if b=D then none else H b
def ff{H:Hp}{D:Addr}:rm H D D=none:=KP rfl
def jT{H:Hp}{D b:Addr}(h:b≠D):rm H D b=H b:=KD h
def Cc{H H':Hp}(D:Addr)(s:aq H H'):aq (rm H D) (rm H' D):=λb o e=>by
 by_cases h:b=D
 ·subst h
  rw[ff]at e
  cases e
 ·rw[jT h]at e ⊢
  exact s b o e
def nV(H:Hp)(D:Addr):aq (rm H D) H:=λb o e=>by
 by_cases h:b=D
 ·subst h
  rw[ff]at e
  cases e
 ·rwa[jT h]at e
def vL{H:Hp}{D:Addr}{o:HO}:rm (upd H D o) D=rm H D:=by
 funext b
 by_cases h:b=D
 ·subst h
  rw[ff,ff]
 ·rw[jT h,jT h,ah h]
def zF{H:Hp}{D b:Addr}{o:HO}(e:H b=some o)(h:b≠D):rm H D b=some o:=by rw[jT h];exact e
def wX{H:Hp}{D:Addr}(h:H D=none):rm H D=H:=by
 funext b
 by_cases e:b=D
 ·subst e
  rw[ff,h]
 ·rw[jT e]
def Dj(sp:Sp):Sp:=λvs H Q E=>∃D ys,H D=some (.lst ys)/\sp vs (rm H D) (λv H'=>H' D=none->Q v (upd H' D (.lst ys))) E
def a9.frame{P:Program}{w:World}{K:PySem.W.Frag}{mg:Str->Option Value}{base:Heap}{k:Nat}{f:Addr}{fd:FuncData}{ps:List Str}{sp:Sp}(F:a9 P w K mg base (λ_ _ _ _ _ _=>False) k f fd ps sp) :
  a9 P w K mg base (λ_ _ _ _ _ _=>False) k f fd ps (Dj sp):=by
 refine⟨λvs H Q E ⟨D,ys,hD,h⟩=>F.len vs _ _ E h,λA outer s H args us vs Q E hr he hb hv ⟨D,ys,hD,h⟩=>?_⟩
 have nD:∀{b:Addr} {o:HO},H b=some o->(∀xs,o≠.lst xs)->rm H D b=some o:=λ{b o} e n=>zF e λz=>by
  subst z
  rw[hD]at e
  cases e
  exact n _ rfl
 have e0:tL P w K mg base A outer s (rm H D):=by
  refine⟨he.frames,he.mod,λb o e=>⟨(he.bs b o e).1,?_⟩,he.bsz,he.jJ,λb hb=>?_,λb o e=>?_,he.bare⟩
  ·unfold rm
   split
   ·rfl
   ·exact(he.bs b o e).2
  ·unfold rm
   split
   ·rfl
   ·exact he.frf b hb
  ·exact(he.hok b o (nV H D _ _ e)).lX (λc u _ q=>q) (λc q=>nD q (λ_ z=>nomatch z)) λc xs q=>nD q (λ_ z=>nomatch z)
 refine NG (F.run A outer s (rm H D) args us vs _ E hr e0 hb hv h) λr s' hq=>?_
 cases r with
 |error e=>exact hq
 |ok fl =>
  cases fl with
  |next=>exact hq
  |brk=>exact hq
  |cont=>exact hq
  |ret u =>
   obtain⟨v,H',os,bare,un,hok,rv,q⟩:=hq
   obtain⟨z,its,n,rr,e⟩:=he.hok D _ hD
   have nf:D∉iU outer:=λz=>by have:=he.frf D z;rw[hD]at this;cases this
   have fD:H' D=none:=un.free D _ e ff (by simp)
   have kD:=un.keep D _ e ff nf (by simp)
   have ne:∀{b:Addr},H b=none->b≠D:=λ{b} e z=>by rw[z,hD]at e;cases e
   have n0:∀{b:Addr},H b=none->rm H D b=none:=λ{b} e=>by rw[jT (ne e)];exact e
   have nb:∀{b:Addr} {o:HO},H' b=some o->b≠D:=λ{b o} e z=>by rw[z,fD]at e;cases e
   refine⟨v,upd H' D (.lst ys),os,bare,⟨λb o q n=>un.keep b o q (n0 n),λb o q n=>un.slot b o q (n0 n),λb o q n x=>?_,un.there,λb xs q=>?_,λb o u q=>?_,λb ps q=>?_⟩,λb o q=>?_,rv,q fD⟩
   ·rw[ah (ne n)]
    exact un.free b o q (n0 n) x
   ·have:=un.lJ b xs (nD q (λ_ z=>nomatch z))
    rw[ah (nb this)]
    exact this
   ·have:=un.frzs b o u (nD q (λ_ z=>nomatch z))
    rw[ah (nb this)]
    exact this
   ·obtain⟨more,this⟩:=un.tbls b ps (nD q (λ_ z=>nomatch z))
    exact⟨more,by rw[ah (nb this)];exact this⟩
   ·by_cases hb:b=D
    ·subst hb
     rw[ag]at q
     cases q
     exact⟨z,its,n,rr,kD⟩
    ·rw[ah hb]at q
     exact(hok b o q).lX (λc u _ q=>q) (λc q=>by rw[ah (nb q)];exact q) λc xs q=>by rw[ah (nb q)];exact q
end L2
end
section
namespace Uf
open PySem L2 UfSrt UfB UfTs
abbrev qM:Stmt:=inClass mj 5
abbrev qp:Stmt:=inClass mj 9
def dJ{T:List Nat}{i:Nat}{v:V}(h:(nats T)[i]?=some v):∃n,T[i]?=some n/\v=nat n:=by
 unfold nats at h
 rw[KH]at h
 cases e:T[i]? with
 |none=>rw[e]at h;cases h
 |some n=>rw[e]at h;cases h;exact⟨n,rfl,rfl⟩
structure WA where
 p:Addr
 dx:Addr
 aS:Addr
 aO:Addr
 aN:Addr
 aW:Addr
 aG:Addr
 aB:Addr
 aT:Addr
 aP:Addr
def WA.fs(B:WA):List (Str×V):=xN B.p B.aS B.aO B.aN B.aW B.aG B.aB B.aT B.aP
def WA.l(B:WA):List Addr:=[B.aP,B.aT,B.aB,B.aG,B.aW,B.aN,B.aO,B.aS]
section
variable (B:WA)
def WA.fN:B.fs.lookup ("base_net":Str)=some (.ref B.p):=by
 unfold WA.fs xN
 repeat first|rw[av,KP rfl]|rw[av,KD (by decide +kernel)]
def WA.fS:B.fs.lookup ("spot_tuples":Str)=some (.ref B.aS):=(j5 _ _ _ _ _ _ _ _ _).s
def WA.fT:B.fs.lookup ("taker_bits":Str)=some (.ref B.aT):=(j5 _ _ _ _ _ _ _ _ _).t
def WA.fB:B.fs.lookup ("beside_bits":Str)=some (.ref B.aB):=(j5 _ _ _ _ _ _ _ _ _).b
def WA.fP:B.fs.lookup ("place_bits":Str)=some (.ref B.aP):=(j5 _ _ _ _ _ _ _ _ _).p
def WA.fO:B.fs.lookup ("occurrence_tuples":Str)=some (.ref B.aO):=by
 unfold WA.fs xN
 repeat first|rw[av,KP rfl]|rw[av,KD (by decide +kernel)]
def WA.fH:B.fs.lookup ("numbers_there":Str)=some (.ref B.aN):=by
 unfold WA.fs xN
 repeat first|rw[av,KP rfl]|rw[av,KD (by decide +kernel)]
def WA.fW:B.fs.lookup ("own_bits":Str)=some (.ref B.aW):=by
 unfold WA.fs xN
 repeat first|rw[av,KP rfl]|rw[av,KD (by decide +kernel)]
def WA.fG:B.fs.lookup ("given_bits":Str)=some (.ref B.aG):=by
 unfold WA.fs xN
 repeat first|rw[av,KP rfl]|rw[av,KD (by decide +kernel)]
end
abbrev mO(H:Hp):List Pr->List Addr->Prop:=Paired (jL H)
structure c7(P:Program)(w:World)(C CW:Addr)(H:Hp)(x:Addr)(B:WA)(ms:List Mv)(S:List Str)(f:WF):Prop where
 ad:Cm CW H x B.dx B.fs B.aS B.aT B.aB B.aP f.W
 oc:∃qs,H B.aO=some (.lst (qs.map V.ref))/\mO H f.oc qs/\H B.aN=some (PD P w B.aN (f.oc.zip qs))
 ow:H B.aW=some (.lst (nats f.own))
 gb:∃gs,H B.aG=some (.lst (nats gs))/\gs.length=f.oc.length
 nd:B.l.Nodup
 net:cB C (rm H B.aP) B.p ms S
section
variable {P:Program}{w:World}{C CW x:Addr}{H H':Hp}{B:WA}{ms:List Mv}{S:List Str}{f:WF}
def c7.qT(h:c7 P w C CW H x B ms S f):cB C H B.p ms S:=h.net.same (nV _ _)
theorem c7.same(h:c7 P w C CW H x B ms S f)(s:aq H H'):c7 P w C CW H' x B ms S f:=by
 obtain⟨qs,e1,e2,e3⟩:=h.oc
 obtain⟨gs,g1,g2⟩:=h.gb
 obtain⟨q2,i1,i2⟩:=h.ad.sp
 exact⟨⟨s _ _ h.ad.ins,⟨q2,s _ _ i1,Paired.cH i2 λ_ _ e=>s _ _ e⟩,s _ _ h.ad.tk,s _ _ h.ad.be,s _ _ h.ad.pl⟩,⟨qs,s _ _ e1,Paired.cH e2 λ_ _ e=>e.same λ_ _ e=>s _ _ e,s _ _ e3⟩,s _ _ h.ow,⟨gs,s _ _ g1,g2⟩,h.nd,h.net.same (Cc _ s)⟩
end
def EF:Sp:=λvs H Q _=>∃b n:Nat,vs=[nat b,nat n]/\Q (.bl (b.testBit n)) H
def ID:aD ["bits", "number"] ["bits", "number"] (ar C8):=eA
def CU(x n:Nat):decide (V.int (Builtin.bitAnd ((x:Int) / 2 ^ ((n:Nat):Int).toNat) 1)=V.int 1)=x.testBit n:=by
 have e:((x:Int) / 2 ^ ((n:Nat):Int).toNat)=((x / 2 ^ n:Nat):Int):=by
  rw[LI]
  push_cast
  rfl
 have e2:Builtin.bitAnd ((x / 2 ^ n:Nat):Int) 1=((x / 2 ^ n &&& 1:Nat):Int):=jt (x / 2 ^ n) 1
 rw[e,e2,Lu,Lp,Nat.testBit_eq_decide_div_mod_eq,Lp,Nat.and_one_is_mod]
 constructor
 ·intro z
  have:=V.int.inj z
  lia
 ·intro z
  rw[z]
  rfl
def E5{f:Addr}{fd:FuncData}(F:dj K "has" "has" C8 f fd):a9 P w K mg base cR 1 f fd ["bits", "number"] EF:=by
 refine F.oK ID λcdv A outer s H vs Q E hr h=>?_
 ·obtain⟨b,n,rfl,k⟩:=h
  refine⟨_,aj (aK (de hX (az gf (az lK (pv 0) (pv 1)) ak) ak (bC _))),?_⟩
  try dsimp only[bK,Cx.dP,Cx.bQ]
  refine⟨_,rfl,_,rfl,_,_,rfl,rfl,(by lia),_,_,rfl,rfl,rfl,?_⟩
  rw[CU]
  exact k
def xh(P:Program)(w:World)(C CW:Addr):Sp:=λvs H Q _=>∃(x:Addr) (B:WA) (ms:List Mv) (S:List Str) (f:WF) (n:Nat),vs=[.ref x,nat n]/\c7 P w C CW H x B ms S f/\n<f.W.sp.length/\Q .non H
def Df:aD ["self", "number"] ["self", "number"] (ar qM):=eA
def zC{f C CW:Addr}{fd:FuncData}(F:dj K "must_have_spot" "Web.must_have_spot" qM f fd)(T:Txt K mg)(CT:gX K CW):a9 P w K mg base cR 1 f fd ["self", "number"] (xh P w C CW):=by
 refine F.oK Df λcdv A outer s H vs Q E hr h=>?_
 ·obtain⟨x,B,ms,S,f,n,rfl,W,hn,k⟩:=h
  refine⟨_,aj (bO (c9 (tQ mY xa ak (pv 1) (ay aY rfl T.len cx (aa (aZ (pv 0) rfl) ae)))) (aj dq) aX),?_⟩
  try dsimp only[bK,Cx.dP,Cx.bQ]
  obtain⟨qs,h1,h2⟩:=W.ad.sp
  have lq:=KZ h2
  refine⟨_,rfl,_,_,rfl,rfl,_,rfl,?_⟩
  rw[KC (show(0:Int)<=((n:Nat):Int) by lia)]
  refine cv ⟨_,rfl,x,CW,B.dx,_,_,rfl,W.ad.ins,CT.cl,CT.nS,B.fS,_,qs.length,rfl,.inl ⟨_,aA.of h1,by rw[Kw]⟩,_,_,rfl,rfl,_,rfl,?_⟩
  rw[KC (show((n:Nat):Int)<((qs.length:Nat):Int) by lia)]
  exact bF k
def xG(P:Program)(w:World)(C CW:Addr):Sp:=λvs H Q _=>∃(x t:Addr) (fs:List (Str×V)) (dx aS aW:Addr) (f:WF) (T:List Nat),vs=[.ref x,.ref t]/\H x=some (.ins CW dx fs)/\fs.lookup ("spot_tuples":Str)=some (.ref aS)/\fs.lookup ("own_bits":Str)=some (.ref aW)/\(∃qs,H aS=some (.lst (qs.map V.ref))/\iy H f.W.sp qs)/\H aW=some (.lst (nats f.own))/\H t=some (.tup (nats T))/\(∀t∈T,t<f.W.sp.length)/\(∀s g,bR f.W.sp s=some g->g<f.own.length)/\Q (nat (cM f T)) H
def jC:aD ["self", "spots", "ahead", "spot", "giver"] ["self", "spots"] (ar qp):=eA
inductive AhI(H:Hp)(x t:Addr)(f:WF)(T:List Nat)(i:Nat)(σ:St)(H2:Hp):Prop
 |mk (v3 v4:Option V) (q0:σ=[some (.ref x),some (.ref t),some (nat (cM f (T.take i))),v3,v4]) (q1:H2=H)
def zi{f C CW:Addr}{fd:FuncData}(F:dj K "bits_ahead" "Web.bits_ahead" qp f fd)(CT:gX K CW):a9 P w K mg base cR 1 f fd ["self", "spots"] (xG P w C CW):=by
 refine F.oK jC λcdv A outer s H vs Q E hr h=>?_
 ·obtain⟨x,t,fs,dx,aS,aW,f,T,rfl,ins,lS,lW,⟨qs,hqs,hp⟩,how,ht,tl,gl,kk⟩:=h
  refine⟨_,af (cD 2 jC ak)
   (af (bo K7 rfl (gN (pv 1)) (eu 3 jC)
    (af (cD 4 jC (aM dF (aM aE (aZ (pv 0) rfl) (pv 3) (λ_ _=>rfl)) ak (λ_ _=>rfl)))
    (aj (bO (a8 lB (pv 4) gS (bC _)) (aj (cD 2 jC (az oP (pv 2) (aM aE (aZ (pv 0) rfl) (pv 4) (λ_ _=>rfl))))) aX))))
   (aj (aK (pv 2)))),?_⟩
  try dsimp only[bK,Cx.dP,Cx.bQ]
  have lq:=KZ hp
  refine⟨_,rfl,t,rfl,⟨_,bX.of ht⟩,ju (K:=K) (a:=t) (xs:=nats T) (AhI H x t f T) ⟨none,none,rfl,rfl⟩ (λi σ H2 _ h=>by cases h;subst_vars;exact bX.of ht) ?_ ?_⟩
  ·rintro i v σ H2 hi ⟨v3,v4,rfl,rfl⟩
   obtain⟨n,hn,rfl⟩:=dJ hi
   have hlt:=tl n (KJ hn)
   have hqn:qs[n]?=some (qs[n]'(by lia)):=Kx (by lia)
   obtain⟨p,hpn,hq⟩:=bE hp hqn
   generalize qs[n]'(by lia)=q at hqn hq
   have eg:bR f.W.sp n=p.2:=by unfold bR;rw[hpn];rfl
   have es:cM f (T.take (i+1))=match p.2 with|some g=>cM f (T.take i) ||| f.own.getD g 0|none=>cM f (T.take i):=by
    unfold cM
    rw[au hn,ND,<-eg]
    rfl
   refine⟨_,rfl,x,CW,dx,_,_,rfl,ins,CT.cl,CT.nS,lS,_,rfl,aS,_,_,_,rfl,rfl,aA.of hqs,aF (j:=n) (by rw[KH,hqn];rfl),q,_,1,_,rfl,rfl,bX.of hq,aF (j:=1) rfl,?_⟩
   have gl:=gl n
   rw[eg]at gl
   obtain⟨y,g⟩:=p
   cases g with
   |none =>
    refine⟨_,rfl,rfl,_,rfl,?_⟩
    refine bF ?_
    exact⟨_,_,by rw[es];rfl,rfl⟩
   |some g =>
    refine⟨_,rfl,rfl,_,rfl,?_⟩
    refine cv ?_
    refine⟨_,rfl,_,rfl,x,CW,dx,_,_,rfl,ins,CT.cl,CT.nW,lW,_,rfl,aW,_,_,_,rfl,rfl,aA.of how,aF (j:=g) (gC (gl g rfl)),_,_,rfl,rfl,?_⟩
    dsimp only[nat]
    rw[jb]
    exact⟨_,_,by rw[es];rfl,rfl⟩
  ·rintro σ H2 ⟨v3,v4,rfl,rfl⟩
   rw[bp,Le]
   exact⟨_,rfl,kk⟩
abbrev qh:Stmt:=inClass mj 7
abbrev qb:Stmt:=inClass mj 8
def ot(f:WF)(t:Nat):Str:=((f.W.sp[t]?).map (·.1)).getD ""
def cF(B:WA)(x:Str)(h:x∉[("base_net":Str), "spot_tuples", "occurrence_tuples", "numbers_there", "own_bits", "given_bits", "beside_bits", "taker_bits", "place_bits"]):B.fs.lookup x=none:=by
 simp only[KR,Lx,Mi,O5]at h
 obtain⟨h1,h2,h3,h4,h5,h6,h7,h8,h9⟩:=h
 unfold WA.fs xN
 rw[av,KD h9,av,KD h8,av,KD h7,av,KD h6,av,KD h5,av,KD h4,av,KD h3,av,KD h2,av,KD h1]
 rfl
def vQ(P:Program)(w:World)(C CW:Addr):Sp:=λvs H Q _=>∃(x l:Addr) (B:WA) (ms:List Mv) (S:List Str) (f:WF) (m:Mv) (T:List Nat),vs=[.ref x,.str m.1,.ref l]/\c7 P w C CW H x B ms S f/\m∈ms/\H l=some (.lst (nats T))/\T.length<=4/\(∀t∈T,t<f.W.sp.length)/\aI (T.map (ot f))=aI m.2.1/\∀H',aq H H'->Q .non H'
def k9:aD ["self", "move", "spots", "places", "spot"] ["self", "move", "spots"] (ar qh):=eA
inductive MfI(H:Hp)(x l pl:Addr)(m:Str)(i:Nat)(σ:St)(H2:Hp):Prop
 |mk (v4:Option V) (q0:σ=[some (.ref x),some (.str m),some (.ref l),some (.ref pl),v4]) (q1:H2=H)
def zS{f C CW:Addr}{fd:FuncData}(F:dj K "must_fit" "Web.must_fit" qh f fd)(T0:Txt K mg)(NC:gO K C)(CT:gX K CW)
  (DT:jE P w K mg base C "takes" "Net.takes" ik ["self", "move"] 3 (iX C (·.2.1)))
  (DS:jE P w K mg base CW "must_have_spot" "Web.must_have_spot" qM ["self", "number"] 1 (xh P w C CW)) :
  a9 P w K mg base cR 4 f fd ["self", "move", "spots"] (vQ P w C CW):=by
 refine F.oK k9 λcdv A outer s H vs Q E hr h=>?_
 ·obtain⟨x,l,B,ms,S,f,m,T,rfl,W,hm,hl,l4,tl,hs,kk⟩:=h
  have hu:=eZ hr
  have hsl:=Lg
  refine⟨_,af (cD 3 k9 (cz (aZ (pv 0) rfl) NC.cl DT.d.mt DT.g hr DT.d.bd .nil br (aa (pv 1) ae)))
   (af (bo K7 rfl (aL (pv 2)) (eu 4 k9)
    (aj (bj (cz (pv 0) CT.cl DS.d.mt DS.g (hr.mono (by decide)) DS.d.bd .nil br (aa (pv 4) ae)))))
   (aj (bO (a8 Aa (ay cy rfl T0.aI cj (aa (bB (N:=["spot", "self"]) (n:=1) (ci:=[0]) rfl (aL (pv 2))
     (iO k9)
     (λz=>⟨g0 0,bD,aM dF (aM aE (aZ (pv 1) rfl) (pv 0) (λ_ _=>rfl)) ak (λ_ _=>rfl)⟩)) ae)) (pv 3) (bC _)) (aj dq) aX))),?_⟩
  try dsimp only[bK,Cx.dP,Cx.bQ]
  obtain⟨dn,aP,aS,aT,aG,kT,kG,n1,_⟩:=W.qT.at'.ob
  refine⟨_,rfl,x,CW,B.dx,_,_,rfl,W.ad.ins,CT.cl,CT.nN,B.fN,B.p,dn,_,rfl,n1,c6 _ _ _ _ qW tH qR tS,_,rfl,B.p,ms,S,m,rfl,W.qT,hm,λH1 pl s1 npl hpl=>?_⟩
  have W1:=W.same s1
  have hl1:=s1 _ _ hl
  refine⟨_,rfl,l,rfl,⟨_,aA.of hl1⟩,bq (K:=K) (a:=l) (xs:=nats T) (MfI H1 x l pl m.1) ⟨none,rfl,rfl⟩ (λi σ H2 _ h=>by cases h;subst_vars;exact aA.of hl1) ?_ ?_⟩
  ·rintro i v σ H2 hi ⟨v4,rfl,rfl⟩
   obtain⟨n,hn,rfl⟩:=dJ hi
   exact⟨_,rfl,x,B.dx,_,rfl,W1.ad.ins,cF B _ (by decide +kernel),_,rfl,x,B,ms,S,f,n,rfl,W1,tl n (KJ hn),_,rfl,rfl⟩
  ·rintro σ H2 ⟨v4,rfl,rfl⟩
   obtain⟨qs,hqs,hp⟩:=W1.ad.sp
   have lq:=KZ hp
   refine⟨_,rfl,l,rfl,⟨_,aA.of hl1⟩,λz D hD=>cg (a:=l) (xs:=nats T) (λi ys H3=>ys=aH ((T.take i).map (ot f))/\H3 D=some (.lst ys)/\aq H2 H3) ⟨rfl,ag,ao hD⟩ (λi ys H3 _ p=>aA.of (p.2.2 _ _ hl1)) ?_ ?_⟩
   ·rintro i v ys H3 hi ⟨rfl,hys,s3⟩
    obtain⟨n,hn,rfl⟩:=dJ hi
    have hlt:=tl n (KJ hn)
    have hqn:qs[n]?=some (qs[n]'(by lia)):=Kx (by lia)
    obtain⟨p,hpn,hq⟩:=bE hp hqn
    generalize qs[n]'(by lia)=q at hqn hq
    have en:ot f n=p.1:=by unfold ot;rw[hpn];rfl
    refine⟨_,rfl,x,CW,B.dx,_,_,rfl,s3 _ _ W1.ad.ins,CT.cl,CT.nS,B.fS,_,rfl,B.aS,_,_,_,rfl,rfl,aA.of (s3 _ _ hqs),aF (j:=n) (by rw[KH,hqn];rfl),q,_,0,_,rfl,rfl,bX.of (s3 _ _ hq),aF (j:=0) rfl,hys,?_,?_,ag,aU s3 hD⟩
    ·rw[aw,Kw,La]
     lia
    ·rw[au hn,KS]
     unfold aH
     rw[KS]
     show _=_++[V.str (ot f n)]
     rw[en]
   rintro ys H3 ⟨rfl,hys,s3⟩
   rw[bp,Le]at hys
   refine⟨D,_,rfl,aA.of hys,by rw[Kw];lia,λso nso=>?_⟩
   rw[hs]
   obtain⟨H4,eU,s4,hso⟩:=oh nso (.lst (aH (aI m.2.1)))
   rw[eU]
   refine⟨_,rfl,so,pl,_,_,rfl,rfl,hu,aA.of hso,aA.of ((s3.trans s4) _ _ hpl),jd (dI _),_,rfl,?_⟩
   exact bF (kk _ (s1.trans (s3.trans s4)))
def wR(P:Program)(w:World)(C CW:Addr):Sp:=λvs H Q _=>∃(x l:Addr) (B:WA) (ms:List Mv) (S:List Str) (f:WF) (T:List Nat),vs=[.ref x,.ref l]/\c7 P w C CW H x B ms S f/\f.W.be.length=f.W.sp.length/\H l=some (.lst (nats T))/\(∀t∈T,t<f.W.sp.length)/\T.Nodup/\(∀a∈T,∀b∈T,a≠b->(f.W.be.getD a 0).testBit b=true)/\∀H',aq H H'->Q .non H'
def lz:aD ["self", "spots", "at", "other", "one"] ["self", "spots"] (ar qb):=eA
inductive JL(H:Hp)(x l:Addr)(i:Nat)(σ:St)(H2:Hp):Prop
 |mk (v2 v3 v4:Option V) (q0:σ=[some (.ref x),some (.ref l),v2,v3,v4]) (q1:aq H H2)
inductive JB(H:Hp)(x l:Addr)(v2 v3:Option V)(i:Nat)(σ:St)(H2:Hp):Prop
 |mk (v4:Option V) (q0:σ=[some (.ref x),some (.ref l),v2,v3,v4]) (q1:H2=H)
def zU{f C CW:Addr}{fd:FuncData}(F:dj K "must_stand_beside" "Web.must_stand_beside" qb f fd)(T2:Txt2 mg)(CT:gX K CW)
  (DH:gI P w K mg base "has" C8 ["bits", "number"] 1 EF) :
  a9 P w K mg base cR 2 f fd ["self", "spots"] (wR P w C CW):=by
 refine F.oK lz λcdv A outer s H vs Q E hr h=>?_
 ·obtain⟨x,l,B,ms,S,f,T,rfl,W,bl,hl,tl,nd,sd,kk⟩:=h
  refine⟨_,aj (bo K7 rfl (lI rfl T2.enm (aa (pv 1) ae)) (dQ rfl (aV (eu 2 lz) (aV (eu 3 lz) cZ)))
   (aj (bo K7 rfl (aL (dt fQ (pv 1) fY (dw (pv 2)))) (eu 4 lz)
    (aj (bO (c9 (cG (e7 DH hr (aa (aM aE (aZ (pv 0) rfl) (pv 4) (λ_ _=>rfl)) (aa (pv 3) ae))))) (aj dq) aX))))),?_⟩
  try dsimp only[bK,Cx.dP,Cx.bQ]
  refine⟨_,rfl,l,rfl,⟨_,aA.of hl⟩,jo (K:=K) (a:=l) (xs:=nats T) (JL H x l) ⟨none,none,none,rfl,λ_ _ e=>e⟩ (λi σ H2 _ h=>by obtain⟨_,_,_,_,s⟩:=h;exact aA.of (s _ _ hl)) ?_ ?_⟩
  ·rintro i v p σ H2 hi ⟨v2,v3,v4,rfl,s2⟩ np
   obtain⟨n,hn,rfl⟩:=dJ hi
   obtain⟨H3,eU,s3,hp⟩:=oh np (.tup [.int (i:Int),nat n])
   rw[eU]
   have s03:=s2.trans s3
   have cut:hC (nats T) none (some (i:Int))=nats (T.take i):=by
    rw[FC]
    unfold nats
    rw[Ox]
   refine⟨p,_,rfl,bX.of hp,rfl,_,_,rfl,_,_,rfl,rfl,?_⟩
   refine⟨_,rfl,_,rfl,_,rfl,l,_,rfl,aA.of (s03 _ _ hl),λc nc=>?_⟩
   rw[cut]
   obtain⟨H4,eU,s4,hc⟩:=oh nc (.lst (nats (T.take i)))
   rw[eU]
   have W4:=W.same (s03.trans s4)
   refine⟨c,rfl,⟨_,aA.of hc⟩,bq (K:=K) (a:=c) (xs:=nats (T.take i)) (JB H4 x l _ _) ⟨_,rfl,rfl⟩ (λj σ H5 _ h=>by cases h;subst_vars;exact aA.of hc) ?_ ?_⟩
   ·rintro j v σ H5 hj ⟨v4,rfl,rfl⟩
    obtain⟨k,hk,rfl⟩:=dJ hj
    have hk':k∈T.take i:=KJ hk
    have kT:=L0 hk'
    have ne:k≠n:=λz=>by
     obtain⟨j',hj',e⟩:=List.mem_take_iff_getElem.mp hk'
     have e1:T[j']?=some n:=by rw[Kx (by lia),e,z]
     have:=(List.getElem?_inj (by lia) nd).mp (e1.trans hn.symm)
     lia
    refine⟨_,rfl,x,CW,B.dx,_,_,rfl,W4.ad.ins,CT.cl,CT.nB,B.fB,_,rfl,B.aB,_,_,_,rfl,rfl,aA.of W4.ad.be,aF (j:=k) (gC (by rw[bl];exact tl k kT)),_,rfl,_,n,rfl,_,rfl,?_⟩
    rw[sd k kT n (KJ hn) ne]
    exact bF ⟨_,rfl,rfl⟩
   ·rintro σ H5 ⟨v4,rfl,rfl⟩
    exact⟨_,_,_,rfl,s03.trans s4⟩
  ·rintro σ H2 ⟨v2,v3,v4,rfl,s2⟩
   exact kk _ s2
end Uf
end
section
namespace Uf
open PySem L2 UfB UfSrt UfM
def zh(f:WF)(x:Str):Nat:=((f.W.pl.find? λp=>decide (p.1=x)).map (·.2)).getD 0
def eY(W:nX):Prop:=∀p∈W.pl,∀s,p.2.testBit s=true↔(W.sp[s]?).map (·.1)=some p.1
def yZ{W:nX}{g:Option Nat}{b:Nat}{x:Str}(h:eY W):eY (gj g (W,b) x).1:=by
 intro p hp s
 have hp:p∈iN W.pl x W.sp.length:=hp
 show p.2.testBit s=true↔((W.sp++[(x,g)])[s]?).map (·.1)=some p.1
 unfold iN at hp
 obtain⟨q,hq,rfl⟩:=K0.mp hp
 have hs:=h q hq s
 by_cases e:q.1=x
 ·rw[KP e,NJ,OP,MS,Lp,hs]
  by_cases l:s<W.sp.length
  ·rw[Ls l]
   constructor
   ·rintro(z|z)
    ·exact z
    ·lia
   ·exact .inl
  ·rw[LB (by lia),Ll (by lia)]
   by_cases l2:s=W.sp.length
   ·subst l2
    rw[Ob]
    simp[e]
   ·rw[Ll (by simp;lia)]
    simp
    lia
 ·rw[KD e,hs]
  by_cases l:s<W.sp.length
  ·rw[Ls l]
  ·rw[LB (by lia),Ll (by lia)]
   by_cases l2:s=W.sp.length
   ·subst l2
    rw[Ob]
    simp
    exactλz=>e z.symm
   ·rw[Ll (by simp;lia)]
theorem kh{g:Option Nat}:∀(xs:List Str) (p:nX×Nat),eY p.1->eY (bu g p xs).1
 |[],_,h=>h
 |x::xs,p,h=>kh xs (gj g p x) (yZ (W:=p.1) (b:=p.2) h)
def uo{f:WF}{m:Str}{T:List Nat}{gs:List Str}(h:eY f.W):eY (dk f m T gs).W:=kh gs _ h
def wt{f:WF}(h:eY f.W){x:Str}(hx:x∈f.W.pl.map (·.1))(s:Nat):(zh f x).testBit s=true↔(f.W.sp[s]?).map (·.1)=some x:=by
 unfold zh
 cases e:f.W.pl.find? λp=>decide (p.1=x) with
 |none =>
  obtain⟨p,hp,rfl⟩:=K0.mp hx
  have:=N8.mp e p hp
  simp at this
 |some p =>
  have h1:=List.mem_of_find?_eq_some e
  have h2:p.1=x:=by have:=List.find?_some e;simpa using this
  rw[<-h2]
  exact h p h1 s
abbrev Ch:=List Nat×Nat
def Eo(f:WF)(x:Str)(c:Ch):List Ch:=(mem (c.2 &&& zh f x)).map λs=>(c.1++[s],c.2 &&& f.W.be.getD s 0)
def iR(f:WF)(x:Str)(cs:List Ch):List Ch:=cs.flatMap (Eo f x)
def yO(f:WF)(xs:List Str):List Ch:=xs.foldl (λcs x=>iR f x cs) [([],2 ^ f.W.sp.length-1)]
structure vD(f:WF)(xs:List Str)(c:Ch):Prop where
 lt:∀t∈c.1,t<f.W.sp.length
 nd:c.1.Nodup
 nm:c.1.map (ot f)=xs
 side:∀a∈c.1,∀b∈c.1,a≠b->(f.W.be.getD a 0).testBit b=true
 b:∀s,c.2.testBit s=true↔s<f.W.sp.length/\∀t∈c.1,(f.W.be.getD t 0).testBit s=true
def xv{f:WF}{xs:List Str}{c:Ch}(h:vD f xs c):c.2<2 ^ f.W.sp.length:=by
 refine NX _ λi hi=>?_
 cases e:c.2.testBit i with
 |false=>rfl
 |true =>
  have:=((h.b i).mp e).1
  lia
def yM{f:WF}(gd:Good f)(gp:eY f.W){xs:List Str}{x:Str}(hx:x∈f.W.pl.map (·.1)){c d:Ch}(h:vD f xs c)(hd:d∈Eo f x c):vD f (xs++[x]) d:=by
 obtain⟨s,hs,rfl⟩:=K0.mp hd
 have jk:=gd.jk
 have b256:(c.2 &&& zh f x)<2 ^ 256:=Lz P0 (K4 (xv h) (LC (by decide) (by lia)))
 have hb:=(mem_iff b256).mp hs
 rw[Nv,Md]at hb
 obtain⟨s1,s2⟩:=(h.b s).mp hb.1
 have s3:=(wt gp hx s).mp hb.2
 have sym:∀{a b:Nat},a<f.W.sp.length->b<f.W.sp.length->(f.W.be.getD a 0).testBit b=true->(f.W.be.getD b 0).testBit a=true:=λ{a b} ha hb z=>by
  obtain⟨z1,z2⟩:=(gd.be a b ha hb).mp z
  exact(gd.be b a hb ha).mpr ⟨λq=>z1 q.symm,z2.symm⟩
 have irr:(f.W.be.getD s 0).testBit s≠true:=λz=>((gd.be s s s1 s1).mp z).1 rfl
 have ns:s∉c.1:=λz=>irr (s2 s z)
 refine⟨λt ht=>?_,?_,?_,λa ha b hb' n=>?_,λt=>?_⟩
 ·rcases KW.mp ht with z|z
  ·exact h.lt t z
  ·have:t=s:=by simpa using z
   rw[this];exact s1
 ·refine LM.mpr ⟨h.nd,by simp,λa ha b hb'=>?_⟩
  have:b=s:=by simpa using hb'
  rw[this]
  rintro rfl
  exact ns ha
 ·rw[KS,h.nm]
  show xs++[ot f s]=_
  unfold ot
  rw[s3]
  rfl
 ·have hA:a∈c.1\/a=s:=by simpa using ha
  have hB:b∈c.1\/b=s:=by simpa using hb'
  clear ha hb'
  rcases hA with hA|hA
  ·rcases hB with hB|hB
   ·exact h.side a hA b hB n
   ·rw[hB]
    exact s2 a hA
  ·rcases hB with hB|hB
   ·rw[hA]
    exact sym (h.lt b hB) s1 (s2 b hB)
   ·exact absurd (hA.trans hB.symm) n
 ·show(c.2 &&& f.W.be.getD s 0).testBit t=true↔_
  rw[Nv,Md,h.b t]
  simp only[KW,KG]
  constructor
  ·rintro⟨⟨z1,z2⟩,z3⟩
   exact⟨z1,λu hu=>hu.elim (z2 u) λe=>by rw[e];exact z3⟩
  ·rintro⟨z1,z2⟩
   exact⟨⟨z1,λu hu=>z2 u (.inl hu)⟩,z2 s (.inr rfl)⟩
theorem ph{f:WF}(gd:Good f)(gp:eY f.W):∀(ys xs:List Str) (cs:List Ch),(∀y∈ys,y∈f.W.pl.map (·.1))->(∀c∈cs,vD f xs c)->∀c∈ys.foldl (λcs x=>iR f x cs) cs,vD f (xs++ys) c
 |[],xs,cs,_,h=>by
  rw[MM]
  exact h
 |y::ys,xs,cs,hy,h=>by
  rw[L5,show xs++y::ys=(xs++[y])++ys by simp]
  refine ph gd gp ys (xs++[y]) (iR f y cs) (λz hz=>hy z (K6 _ hz)) λd hd=>?_
  obtain⟨c,hc,hd⟩:=Px.mp hd
  exact yM gd gp (hy y K9) (h c hc) hd
def lO{f:WF}(gd:Good f)(gp:eY f.W){xs:List Str}(hx:∀y∈xs,y∈f.W.pl.map (·.1)):∀c∈yO f xs,vD f xs c:=by
 refine ph gd gp xs [] _ hx λc hc=>?_
 have:c=([],2 ^ f.W.sp.length-1):=by simpa using hc
 subst this
 refine⟨λt ht=>(by simp at ht),.nil,rfl,λa ha=>(by simp at ha),λs=>?_⟩
 show(2 ^ f.W.sp.length-1).testBit s=true↔_
 rw[M4]
 simp
def cnt(f:WF)(x:Str):Nat:=((List.range f.W.sp.length).filter λi=>decide ((f.W.sp[i]?).map (·.1)=some x)).length
theorem two_le{α:Type}{p q:α->Bool}(h:∀a,p a=true->q a=true->False):∀l:List α,(l.filter p).length+(l.filter q).length<=l.length
 |[]=>by simp
 |a::l=>by
  have ih:=two_le h l
  have ha:=h a
  rw[Nk,Nk,Lj]
  cases e1:p a <;> cases e2:q a
  ·simp;lia
  ·simp;lia
  ·simp;lia
  ·exact(ha e1 e2).elim
def Cf(f:WF){x y:Str}(h:x≠y):cnt f x+cnt f y<=f.W.sp.length:=by
 have:=two_le (p:=λi=>decide ((f.W.sp[i]?).map (·.1)=some x)) (q:=λi=>decide ((f.W.sp[i]?).map (·.1)=some y)) (λa h1 h2=>by
  have h1:=Ln h1
  have h2:=Ln h2
  rw[h1]at h2
  exact h (Lq h2)) (List.range f.W.sp.length)
 rw[LV]at this
 exact this
def Fy(f:WF)(x:Str):cnt f x<=f.W.sp.length:=Lh (LH _ _) (by rw[LV];exact KL _)
def Cd{f:WF}(gp:eY f.W){x:Str}(hx:x∈f.W.pl.map (·.1))(b:Nat):(mem (b &&& zh f x)).length<=cnt f x:=by
 unfold mem cnt
 refine(List.Nodup.length_le_of_subset (Nl.filter _) λi hi=>?_)
 have hb:=(K1.mp hi).2
 rw[Nv,Md]at hb
 have:=(wt gp hx i).mp hb.2
 refine K1.mpr ⟨Ly.mpr ?_,KC this⟩
 refine OB λz=>?_
 rw[Ll z]at this
 cases this
theorem dM{f:WF}(gp:eY f.W){x:Str}(hx:x∈f.W.pl.map (·.1)):∀cs:List Ch,(iR f x cs).length<=cs.length*cnt f x
 |[]=>by simp[iR]
 |c::cs=>by
  have ih:=dM gp hx cs
  have:(iR f x (c::cs)).length=(Eo f x c).length+(iR f x cs).length:=by unfold iR;rw[List.flatMap_cons,List.length_append]
  rw[this,Lj,Nat.succ_mul]
  have:(Eo f x c).length<=cnt f x:=by unfold Eo;rw[List.length_map];exact Cd gp hx _
  lia
def C7{a b n:Nat}(h:a+b<=n):4*(a*b)<=n*n:=by
 have h1:(a+b)*(a+b)<=n*n:=O1 h h
 have h2:4*(a*b)<=(a+b)*(a+b):=by
  rcases QB a b with z|z
  ·obtain⟨c,rfl⟩:=Oh z
   have:(a+(a+c))*(a+(a+c))=4*(a*(a+c))+c*c:=by grind
   lia
  ·obtain⟨c,rfl⟩:=Oh z
   have:(b+c+b)*(b+c+b)=4*((b+c)*b)+c*c:=by grind
   lia
 lia
def qz{f:WF}(gp:eY f.W)(n68:f.W.sp.length<=68):∀{ys:List Str},ys.Nodup->ys.length<=4->(∀y∈ys,y∈f.W.pl.map (·.1))->(yO f ys).length<=1336336:=by
 have two:∀{a b:Str},a≠b->cnt f a*cnt f b<=1156:=λ{a b} h=>by
  have:=C7 (Cf f h)
  have:f.W.sp.length*f.W.sp.length<=68*68:=O1 n68 n68
  lia
 have one:∀a,cnt f a<=68:=λa=>Lh (Fy f a) n68
 intro ys nd l4 hy
 unfold yO
 match ys,nd,l4,hy with
 |[],_,_,_=>simp
 |[a],_,_,hy =>
  have:=dM gp (hy a (by simp)) [([],2 ^ f.W.sp.length-1)]
  have:=one a
  simp only[L5,O2,Mg] at *
  lia
 |[a,b],nd,_,hy =>
  have nab:a≠b:=by simp at nd;exact nd
  have h1:=dM gp (hy a (by simp)) [([],2 ^ f.W.sp.length-1)]
  have h2:=dM gp (hy b (by simp)) (iR f a [([],2 ^ f.W.sp.length-1)])
  have h3:=two nab
  simp only[L5,O2,Mg,QE] at *
  have:=Nh (cnt f b) h1
  lia
 |[a,b,c],nd,_,hy =>
  have nab:a≠b:=by simp at nd;exact nd.1.1
  have h1:=dM gp (hy a (by simp)) [([],2 ^ f.W.sp.length-1)]
  have h2:=dM gp (hy b (by simp)) (iR f a [([],2 ^ f.W.sp.length-1)])
  have h4:=dM gp (hy c (by simp)) (iR f b (iR f a [([],2 ^ f.W.sp.length-1)]))
  have h3:=two nab
  simp only[L5,O2,Mg,QE] at *
  have h5:=Nh (cnt f b) h1
  have h6:(iR f b (iR f a [([],2 ^ f.W.sp.length-1)])).length<=1156:=by lia
  have:=O1 h6 (one c)
  lia
 |[a,b,c,d],nd,_,hy =>
  have nab:a≠b:=by simp at nd;exact nd.1.1
  have ncd:c≠d:=by simp at nd;exact nd.2.2
  have h1:=dM gp (hy a (by simp)) [([],2 ^ f.W.sp.length-1)]
  have h2:=dM gp (hy b (by simp)) (iR f a [([],2 ^ f.W.sp.length-1)])
  have h4:=dM gp (hy c (by simp)) (iR f b (iR f a [([],2 ^ f.W.sp.length-1)]))
  have h7:=dM gp (hy d (by simp)) (iR f c (iR f b (iR f a [([],2 ^ f.W.sp.length-1)])))
  have h3:=two nab
  have h8:=two ncd
  simp only[L5,O2,Mg,QE] at *
  have h5:=Nh (cnt f b) h1
  have h6:(iR f b (iR f a [([],2 ^ f.W.sp.length-1)])).length<=1156:=by lia
  have h9:=Nh (cnt f d) h4
  have h10:(iR f b (iR f a [([],2 ^ f.W.sp.length-1)])).length*cnt f c*cnt f d<=1156*1156:=by
   rw[Nat.mul_assoc]
   exact O1 h6 h8
  lia
 |a::b::c::d::e::r,_,l4,_=>simp at l4
end Uf
end
section
namespace UfTs
open PySem PySem.Spec PyProof.Rows
def uM{l:Addr}{vs:List Value}{Q:Value->Shared->Prop}(hl:IsTup s.heap l vs.toArray){ns:List Int}(hI:IntsAre vs ns)(h64:vs.length<64)
  (h:∀(h1 h':Heap) (D:Addr) (out:Array Value) n,(∀b o,s.heap.get? b=some o->h1.get? b=some o)->(∀b o,h1.get? b=some o->h'.get? b=some o)->h1.objs.size<=D->h'.get? D=some (seqObj "list" out n)->(∃ns',IntsAre out.toList ns'/\ns'.Perm ns/\ns'.Pairwise (·<=·))->Q (.ref D) { s with heap:=h' }):wpAny (model prog w) A (call (.builtin "sorted") [.ref l]) Q E s:=by
 have hz:vs.length<=sizeLine:=by rw[LF];lia
 obtain⟨o,ho,hc,n,hd⟩:=hl
 refine Ng kind_sorted Pq Pt (Pu _) ?_
 unfold Builtin.«sorted»
 refine Kv (m:=checkCount "sorted" 1 1 _) (Kz ?_)
 refine Kv (wpAny_collect_seq l (.inr rfl) ho hc hd (λh1 k0=>?_) (by simpa using hz))
 show wpAny _ _ (newList vs >>= _) _ _ _
 refine Kv (Ow ?_ hz)
 have hoL:(h1.push (seqObj "list" vs.toArray 0)).get? h1.objs.size=some (seqObj "list" vs.toArray 0):=KY _ rfl
 refine Kv (LY (Ms OV ⟨_,hoL,rfl⟩ OI (list_sort_tree hoL hI h64 λout ns' o1 o2 o3=>⟨_,rfl,?_⟩) (OW _)))
 obtain⟨e,he⟩:=Pb (h:=h1.push (seqObj "list" vs.toArray 0)) (a:=h1.objs.size) (vs:=vs) (n:=0) (out:=out) hoL
 refine Kz ⟨_,rfl,h h1 _ _ out e k0 (λb o hb1=>?_) (KL _) he ⟨ns',o1,o2,o3⟩⟩
 rw[OX (K5 (KO hb1)) (by rw[Nt];exact Lw (KO hb1))]
 exact Ky _ hb1
end UfTs
namespace L2
open PySem PySem.Spec PyProof.Rows UfB Uf
section
variable {X:Cx}
def Gx(K:PySem.W.Frag):List V->Hp->VK->Prop:=λxs H Q=>∃l T,xs=[.ref l]/\bX K H l (nats T)/\T.length<64/\∀p,H p=none->Q (.ref p) (upd H p (.lst (nats (bZ T))))
def vG:dS X (.builtin "sorted") (Gx X.K):=by
 intro pins s σ H xs us Q I r h
 obtain⟨l,T,rfl,hl,hz,q⟩:=h
 obtain⟨u,rfl,ru⟩:=vals1 r
 cases ru
 obtain⟨its,rv,pl,_⟩:=I.tuple hl
 rw[fi]at rv
 have i1:=intsAre_of rv
 have l1:its.length=T.length:=by
  have:=rv.length
  rw[Kw,Kw]at this
  exact this.symm
 refine UfTs.uM pl i1 (by lia) λh1 h' D out n k1 kp nw at' hZ=>?_
 obtain⟨ns',o1,o2,o3⟩:=hZ
 have e:ns'=(bZ T).map (λn:Nat=>(n:Int)):=by
  refine MP (λa b _ _ h1 h2=>Int.le_antisymm h1 h2) o3 ?_ (o2.trans ((cT T).map _).symm)
  exact Nf.mpr ((kW T).imp λh=>Int.ofNat_le.mpr h)
 subst e
 have hv:=kg o1
 rw[<-fi]at hv
 have hlen:(nats (bZ T)).length<=sizeLine:=by rw[bp,jS,LF];lia
 have I1:Inv X pins σ H { s with heap:=h1 }:=I.kept (t':=s.toks) k1
 exact⟨.ref D,_,I1.laid (o:=.lst (nats (bZ T))) (t':=s.toks) kp nw (show bU X.prog X.w _ h' D (.lst (nats (bZ T))) from⟨hlen,out.toList,n,hv,by rw[NN];exact at'⟩),rfl,q _ (I1.hok.fresh nw)⟩
end
end L2
end
section
namespace L2
open PySem PySem.Spec PyProof.Rows UfSrt
section
variable {X:Cx}
def Iu(K:PySem.W.Frag):R2:=λx y H Q=>∃a b xs ys,x=.ref a/\y=.ref b/\bX K H a xs/\bX K H b ys/\xs.length+ys.length<=1000/\∀H' r,aq H H'->bX K H' r (xs++ys)->Q (.ref r) H'
def Dc:fZ X (binaryOp .Add) (Iu X.K):=by
 intro pins s σ H x y v u Q I rx ry h
 obtain⟨a,b,xs,ys,rfl,rfl,ha,hb,hz,q⟩:=h
 have hsl:=LF
 by_cases hx:xs=[]
 ·subst hx
  cases rx
  cases ry
  obtain⟨its,r1,p1,_⟩:=I.tuple ha
  obtain⟨its2,r2,p2,_⟩:=I.tuple hb
  cases r1
  obtain⟨⟨cls,dd,data,sl⟩,ho,hc,n,hd⟩:=id p1
  obtain⟨⟨cls2,dd2,data2,sl2⟩,ho2,hc2,n2,hd2⟩:=id p2
  simp only at hc hd hc2 hd2
  subst hc hd hc2 hd2
  exact concat_meets ⟨_,ho,rfl⟩ ⟨_,ho2,rfl⟩ Pm Qr Ot Og (NZ _ _)
   (tuple_addW0 a b #[] its2.toArray n n2 dd dd2 sl sl2 rfl) ⟨ho,ho2,⟨.ref b,H,I,rfl,q H b (aq.refl _) hb⟩⟩
 ·refine C5 pins s σ H _ _ _ _ Q I rx ry ⟨a,b,xs,ys,rfl,rfl,ha,hb,hx,by lia,λhy=>q H a (aq.refl _) (by rw[hy,MM];exact ha),λ_ p np=>q _ p (λc o e=>?_) (bX.of ag)⟩
  rw[ah (ai e np)]
  exact e
end
end L2
end
section
namespace Uf
open PySem L2 UfSrt UfB UfTs
abbrev wD:Stmt:=inClass mj 10
abbrev vP:Stmt:=inClass mj 4
def lV{A:Around}{k:Nat}(hr:cI k A):A.units+2<cLine:=Lz (OT (by decide:2<=64) _) hr.units
def Ic(n:Nat):(((2 ^ n:Nat):Int))-1=((2 ^ n-1:Nat):Int):=by
 have:=Nat.one_le_two_pow (n:=n)
 lia
theorem gM{α β:Type}{R:α->β->Prop}:∀{xs:List α} {ys:List β} {z:α×β},Paired R xs ys->z∈xs.zip ys->R z.1 z.2
 |_,_,_,.nil,h=>nomatch h
 |_,_,_,.cons e r,h=>by
  rcases KR.mp h with q|q
  ·rw[q];exact e
  ·exact gM r q
def EH(f:WF)(T:List Nat)(i:Nat):nX:=⟨f.W.sp,bL f.W.tk (T.take i) f.oc.length,f.W.be,f.W.pl⟩
def JY(f:WF)(T:List Nat):Nat:=T.foldl (λb t=>b &&& f.W.be.getD t 0) (2 ^ f.W.sp.length-1)
section
variable {P:Program}{w:World}{C CW x:Addr}{H H':Hp}{B:WA}{ms:List Mv}{S:List Str}{f:WF}
def c7.own(h:c7 P w C CW H x B ms S f):∀a∈B.l,∀o,H a=some o->(∀xs,o≠.tup xs)/\(∀c d fs,o≠.ins c d fs)/\(a≠B.aP->∀kv,o≠.dK kv):=by
 obtain⟨qs,e1,e2,e3⟩:=h.oc
 obtain⟨gs,g1,g2⟩:=h.gb
 obtain⟨q2,i1,i2⟩:=h.ad.sp
 intro a ha o e
 unfold WA.l at ha
 simp only[KR,Lx,Mi]at ha
 rcases ha with rfl|rfl|rfl|rfl|rfl|rfl|rfl|rfl
 ·rw[h.ad.pl]at e;cases e;exact⟨(λ_ z=>nomatch z),(λ_ _ _ z=>nomatch z),λz=>absurd rfl z⟩
 ·rw[h.ad.tk]at e;cases e;exact⟨(λ_ z=>nomatch z),(λ_ _ _ z=>nomatch z),λ_ _ z=>nomatch z⟩
 ·rw[h.ad.be]at e;cases e;exact⟨(λ_ z=>nomatch z),(λ_ _ _ z=>nomatch z),λ_ _ z=>nomatch z⟩
 ·rw[g1]at e;cases e;exact⟨(λ_ z=>nomatch z),(λ_ _ _ z=>nomatch z),λ_ _ z=>nomatch z⟩
 ·rw[h.ow]at e;cases e;exact⟨(λ_ z=>nomatch z),(λ_ _ _ z=>nomatch z),λ_ _ z=>nomatch z⟩
 ·rw[e3]at e;cases e;exact⟨(λ_ z=>nomatch z),(λ_ _ _ z=>nomatch z),λ_ _ z=>nomatch z⟩
 ·rw[e1]at e;cases e;exact⟨(λ_ z=>nomatch z),(λ_ _ _ z=>nomatch z),λ_ _ z=>nomatch z⟩
 ·rw[i1]at e;cases e;exact⟨(λ_ z=>nomatch z),(λ_ _ _ z=>nomatch z),λ_ _ z=>nomatch z⟩
def c7.AF(h:c7 P w C CW H x B ms S f)(b:ij B.l H H'):cB C (rm H' B.aP) B.p ms S:=by
 have go:∀c o,rm H B.aP c=some o->((∃xs,o=.tup xs)\/(∃c d fs,o=.ins c d fs)\/∃kv,o=.dK kv)->rm H' B.aP c=some o:=λc o e z=>by
  have nc:c≠B.aP:=λq=>by rw[q,ff]at e;cases e
  rw[jT nc]at e ⊢
  refine b _ _ e λhc=>?_
  obtain⟨o1,o2,o3⟩:=h.own c hc o e
  rcases z with⟨xs,z⟩|⟨c',d,fs,z⟩|⟨kv,z⟩
  ·exact o1 _ z
  ·exact o2 _ _ _ z
  ·exact o3 nc _ z
 obtain⟨dn,aP,aS,aT,aG,kT,kG,h1,h2,h3,h4,h5,h6,h7⟩:=h.net.at'.ob
 have tp:∀c xs,rm H B.aP c=some (.tup xs)->rm H' B.aP c=some (.tup xs):=λc xs e=>go c _ e (.inl ⟨_,rfl⟩)
 exact⟨⟨dn,aP,aS,aT,aG,kT,kG,go _ _ h1 (.inr (.inl ⟨_,_,_,rfl⟩)),tp _ _ h2,tp _ _ h3,go _ _ h4 (.inr (.inr ⟨_,rfl⟩)),go _ _ h5 (.inr (.inr ⟨_,rfl⟩)),h6.same tp,h7.same tp⟩,h.net.so⟩
end
structure vC(f:WF)(ms:List Mv)(S:List Str)(m:Mv)(T:List Nat):Prop where
 mm:m∈ms
 may:CA f T (aI m.2.2)
 l4:T.length<=4
 nd:T.Nodup
 nm:aI (T.map (ot f))=aI m.2.1
 new:(m.1,T)∉f.oc
 oc:f.oc.length<=200
 pl:(f.W.pl.map (·.1)).Nodup/\f.W.pl.length<=12/\∀y∈m.2.2,y∈f.W.pl.map (·.1)
def BN(P:Program)(w:World)(C CW:Addr):Sp:=λvs H Q _=>∃(x q:Addr) (B:WA) (ms:List Mv) (S:List Str) (f:WF) (m:Mv) (T:List Nat),vs=[.ref x,.ref q]/\c7 P w C CW H x B ms S f/\Good f/\jL H (m.1,T) q/\vC f ms S m T /\
 ∀H',c7 P w C CW H' x B ms S (dk f m.1 T (aI m.2.2))->ij B.l H H'->Q (nat f.oc.length) H'
def j7:aD ["self", "occurrence", "number", "spots_ahead", "beside", "spot"] ["self", "occurrence"] (ar wD):=eA
inductive AoI(CW:Addr)(H:Hp)(x q:Addr)(B:WA)(f:WF)(T:List Nat)(i:Nat)(σ:St)(H2:Hp):Prop
 |mk (v5:Option V) (q0:σ=[some (.ref x),some (.ref q),some (nat f.oc.length),some (nat (2 ^ f.W.sp.length)),some (nat (JY f (T.take i))),v5]) (q1:Cm CW H2 x B.dx B.fs B.aS B.aT B.aB B.aP (EH f T i)) (q2:ij [B.aT] H H2)
def CH{f C CW:Addr}{fd:FuncData}(F:dj K "add_occurrence" "Web.add_occurrence" wD f fd)(T0:Txt K mg)(NC:gO K C)(CT:gX K CW)
  (DB:gI P w K mg base "bit" xW ["number"] 1 xy)
  (DG:jE P w K mg base C "gives" "Net.gives" ki ["self", "move"] 3 (iX C (·.2.2)))
  (DH:jE P w K mg base CW "bits_ahead" "Web.bits_ahead" qp ["self", "spots"] 1 (xG P w C CW))
  (DA:jE P w K mg base CW "add_spots" "Web.add_spots" As ["self", "places", "giver", "beside"] 2 (Bw CW .lst)) :
  a9 P w K mg base cR 4 f fd ["self", "occurrence"] (BN P w C CW):=by
 refine F.oK j7 λcdv A outer s H vs Q E hr h=>?_
 ·obtain⟨x,q,B,ms,S,f,m,T,rfl,W,gd,⟨t,hq,ht⟩,can,kk⟩:=h
  have hu:=eZ hr
  have hsl:=Lg
  refine⟨_,af (cD 2 j7 (ay aY rfl T0.len cx (aa (aZ (pv 0) rfl) ae)))
   (af (cD 3 j7 (e7 DB (hr.mono (by decide)) (aa (ay aY rfl T0.len cx (aa (aZ (pv 0) rfl) ae)) ae)))
   (af (cD 4 j7 (az nK (pv 3) ak))
   (af (bo K7 rfl (gN (aM dF (pv 1) ak (λ_ _=>rfl))) (eu 5 j7)
    (af (cD 4 j7 (az gf (pv 4) (aM aE (aZ (pv 0) rfl) (pv 5) (λ_ _=>rfl))))
    (aj (ko (az oP (aM aE (aZ (pv 0) rfl) (pv 5) (λ_ _=>rfl)) (e7 DB (hr.mono (by decide)) (aa (pv 2) ae))) (uP (aZ (pv 0) rfl) (pv 5) set_list)))))
   (af (bj (c8 Lf Lc Ld bf (aZ (pv 0) rfl) (aa (pv 1) ae)))
   (af (Ea (lV hr) (aZ (pv 0) rfl) (pv 1) (pv 2) rfl)
   (af (bj (c8 Lf Lc Ld bf (aZ (pv 0) rfl) (aa (az oP (e7 DB (hr.mono (by decide)) (aa (pv 2) ae)) (cz (pv 0) CT.cl DH.d.mt DH.g (hr.mono (by decide)) DH.d.bd .nil br (aa (aM dF (pv 1) ak (λ_ _=>rfl)) ae))) ae)))
   (af (bj (cz (pv 0) CT.cl DA.d.mt DA.g (hr.mono (by decide)) DA.d.bd .nil br (aa (cz (aZ (pv 0) rfl) NC.cl DG.d.mt DG.g hr DG.d.bd .nil br (aa (aM dF (pv 1) ak (λ_ _=>rfl)) ae)) (aa (pv 2) (aa (pv 4) ae)))))
   (af (bj (c8 Lf Lc Ld bf (aZ (pv 0) rfl) (aa (az nK (e7 DB (hr.mono (by decide)) (aa (ay aY rfl T0.len cx (aa (aZ (pv 0) rfl) ae)) ae)) (pv 3)) ae)))
   (aj (aK (pv 2))))))))))),?_⟩
  try dsimp only[bK,Cx.dP,Cx.bQ]
  obtain⟨qo,o1,o2,o3⟩:=W.oc
  obtain⟨gs,g1,g2⟩:=W.gb
  obtain⟨qs,i1,i2⟩:=W.ad.sp
  have lo:=KZ o2
  have ls:=KZ i2
  have jk:=gd.jk
  have loc:=can.oc
  have may:=can.may
  have nd:=W.nd
  unfold WA.l at nd
  simp only[LR,KR,Lx,Mi,O5]at nd
  obtain⟨⟨p1,p2,p3,p4,p5,p6,p7⟩,⟨t1,t2,t3,t4,t5,t6⟩,⟨b1,b2,b3_,b4,b5⟩,⟨gg1,gg2,gg3,gg4⟩,⟨w1,w2,w3⟩,⟨n1,n2⟩,n3,_⟩:=nd
  refine⟨_,rfl,x,CW,B.dx,_,_,rfl,W.ad.ins,CT.cl,CT.nO,B.fO,_,qo.length,rfl,.inl ⟨_,aA.of o1,by rw[Kw]⟩,?_⟩
  rw[<-lo]
  refine⟨_,rfl,x,CW,B.dx,_,_,rfl,W.ad.ins,CT.cl,CT.nS,B.fS,_,qs.length,rfl,.inl ⟨_,aA.of i1,by rw[Kw]⟩,qs.length,rfl,by lia,?_⟩
  rw[<-ls]
  refine⟨_,rfl,_,_,rfl,rfl,?_⟩
  have e0:V.int (((2 ^ f.W.sp.length:Nat):Int)-1)=nat (2 ^ f.W.sp.length-1):=by rw[Ic];rfl
  have hadT:∀c ys,H c=some (.tup ys)->c∉[B.aT]:=λc ys e z=>by
   have z:c=B.aT:=by simpa using z
   rw[z,W.ad.tk]at e
   cases e
  refine⟨_,rfl,q,_,1,_,rfl,rfl,bX.of hq,aF (j:=1) rfl,t,rfl,⟨_,bX.of ht⟩,ju (K:=K) (a:=t) (xs:=nats T) (AoI CW H x q B f T) ⟨none,?_,W.ad,λc o e _=>e⟩ (λi σ H2 _ h=>?_) ?_ ?_⟩
  ·show _=[_,_,_,_,some (nat (2 ^ f.W.sp.length-1)),_]
   rw[<-e0]
   rfl
  ·obtain⟨_,_,_,b⟩:=h
   exact bX.of (b _ _ ht (hadT _ _ ht))
  ·rintro i v σ H2 hi ⟨v5,rfl,A2,b2'⟩
   obtain⟨n,hn,rfl⟩:=dJ hi
   have hnl:=may.lt n (KJ hn)
   have l1:(EH f T i).tk.length=f.W.sp.length:=by show(bL _ _ _).length=_;rw[dE,gd.tl]
   have l2:(EH f T i).be.length=f.W.sp.length:=gd.bl
   refine⟨_,rfl,_,rfl,x,CW,B.dx,_,_,rfl,A2.ins,CT.cl,CT.nB,B.fB,_,rfl,B.aB,_,_,_,rfl,rfl,aA.of A2.be,aF (j:=n) (gC (by lia)),_,_,rfl,rfl,?_⟩
   refine⟨_,rfl,x,CW,B.dx,_,_,rfl,A2.ins,CT.cl,CT.nT,B.fT,_,rfl,B.aT,_,_,_,rfl,rfl,aA.of A2.tk,aF (j:=n) (gC (by lia)),_,rfl,f.oc.length,rfl,by lia,_,_,rfl,rfl,?_⟩
   dsimp only[nat]
   rw[jb,jt]
   refine⟨_,rfl,x,CW,B.dx,_,_,rfl,A2.ins,CT.cl,CT.nT,B.fT,_,rfl,B.aT,_,_,n,rfl,rfl,A2.tk,wg (by rw[bp];lia),?_⟩
   have set1:(nats (EH f T i).tk).set n (V.int (((EH f T i).tk.getD n 0 ||| 2 ^ f.oc.length:Nat):Int))=nats (EH f T (i+1)).tk:=by
    show _=nats (bL f.W.tk (T.take (i+1)) f.oc.length)
    rw[au hn,ni]
    exact rn _ _ _
   rw[set1]
   obtain⟨q2,j1,j2⟩:=A2.sp
   have nx:x≠B.aT:=aQ A2.ins A2.tk (λz=>nomatch z)
   refine⟨some (nat n),?_,⟨by rw[ah nx];exact A2.ins,⟨q2,by rw[ah (Li t6)];exact j1,iy.put j2 A2.tk⟩,ag,by rw[ah (Li t1)];exact A2.be,by rw[ah p1];exact A2.pl⟩,b2'.upd (by simp)⟩
   show _=[_,_,_,_,some (nat (JY f (T.take (i+1)))),_]
   unfold JY
   rw[au hn,ND]
   rfl
  ·rintro σ H3 ⟨v5,rfl,A3,b3⟩
   have eT:T.take (nats T).length=T:=by rw[bp,Le]
   have eW:EH f T (nats T).length=⟨f.W.sp,bL f.W.tk T f.oc.length,f.W.be,f.W.pl⟩:=by unfold EH;rw[eT]
   rw[eT]
   rw[eW]at A3
   have nT:∀{c o},H c=some o->c≠B.aT->H3 c=some o:=λ{c o} e n=>b3 _ _ e (by simpa using n)
   have tup3:∀{c ys},H c=some (.tup ys)->H3 c=some (.tup ys):=λ{c ys} e=>b3 _ _ e (hadT _ _ e)
   have o13:=nT o1 (Li t5)
   have o33:=nT o3 (Li t4)
   have w3':=nT W.ow (Li t3)
   have g13:=nT g1 (Li t2)
   have hq3:=tup3 hq
   have ht3:=tup3 ht
   have pr3:mO H3 f.oc qo:=Paired.cH o2 λ_ _ e=>e.same λ_ _ e=>tup3 e
   refine⟨_,rfl,x,CW,B.dx,_,_,rfl,A3.ins,CT.cl,CT.nO,B.fO,.inl ⟨rfl,_,aA.of o13⟩,_,rfl,B.aO,_,_,rfl,rfl,o13,by rw[Kw];lia,?_⟩
   have u4:∀{c o},H3 c=some o->c≠B.aO->(upd H3 B.aO (.lst (qo.map V.ref++[V.ref q]))) c=some o:=λ{c o} e n=>by rw[ah n];exact e
   have tup4:∀{c ys},H3 c=some (.tup ys)->(upd H3 B.aO (.lst (qo.map V.ref++[V.ref q]))) c=some (.tup ys):=λ{c ys} e=>u4 e (aQ e o13 (λz=>nomatch z))
   have o14:(upd H3 B.aO (.lst (qo.map V.ref++[V.ref q]))) B.aO=some (.lst ((qo++[q]).map V.ref)):=by rw[ag,KS];rfl
   generalize upd H3 B.aO (.lst (qo.map V.ref++[V.ref q]))=H4 at u4 tup4 o14 ⊢
   have ins4:=u4 A3.ins (aQ A3.ins o13 (λz=>nomatch z))
   have pr4:mO H4 f.oc qo:=Paired.cH pr3 λ_ _ e=>e.same λ_ _ e=>tup4 e
   have pq4:jL H4 (m.1,T) q:=⟨t,tup4 hq3,tup4 ht3⟩
   have zk:(f.oc.zip qo).map (·.1)=f.oc:=Pz (by lia)
   refine⟨_,rfl,_,rfl,x,CW,B.dx,_,_,rfl,ins4,CT.cl,CT.nH,B.fH,_,rfl,q,B.aN,(m.1,T),f.oc.zip qo,rfl,rfl,pq4,u4 o33 n1,λz hz=>gM pr4 hz,by rw[zk];exact can.new,by rw[List.length_zip];lia,?_⟩
   have u5:∀{c o},H4 c=some o->c≠B.aN->(upd H4 B.aN (PD P w B.aN (f.oc.zip qo++[((m.1,T),q)]))) c=some o:=λ{c o} e n=>by rw[ah n];exact e
   have tup5:∀{c ys},H4 c=some (.tup ys)->(upd H4 B.aN (PD P w B.aN (f.oc.zip qo++[((m.1,T),q)]))) c=some (.tup ys):=λ{c ys} e=>u5 e (aQ e (u4 o33 n1) (λz=>nomatch z))
   have o35:(upd H4 B.aN (PD P w B.aN (f.oc.zip qo++[((m.1,T),q)]))) B.aN=some (PD P w B.aN (f.oc.zip qo++[((m.1,T),q)])):=ag
   have ins5:=u5 ins4 (aQ ins4 (u4 o33 n1) (λz=>nomatch z))
   change (Iq _ _) _ _ (upd H4 B.aN (PD P w B.aN (f.oc.zip qo++[((m.1,T),q)])))
   generalize upd H4 B.aN (PD P w B.aN (f.oc.zip qo++[((m.1,T),q)]))=H5 at u5 tup5 o35 ins5 ⊢
   have to5:∀{c o},H3 c=some o->c≠B.aO->c≠B.aN->H5 c=some o:=λ{c o} e n n'=>u5 (u4 e n) n'
   have w5:=to5 w3' w2 w1
   have tup35:∀{c ys},H3 c=some (.tup ys)->H5 c=some (.tup ys):=λ{c ys} e=>tup5 (tup4 e)
   obtain⟨q3,s31,s32⟩:=A3.sp
   have s51:=to5 s31 (Li n3) (Li n2)
   have s52:iy H5 f.W.sp q3:=Paired.cH s32 λ_ _ e=>tup35 e
   have hq5:=tup35 hq3
   have ht5:=tup35 ht3
   refine⟨_,rfl,x,CW,B.dx,_,_,rfl,ins5,CT.cl,CT.nW,B.fW,.inl ⟨rfl,_,aA.of w5⟩,_,rfl,f.oc.length,rfl,by lia,_,rfl,x,B.dx,_,rfl,ins5,cF B _ (by decide +kernel),_,rfl,q,_,1,_,rfl,rfl,bX.of hq5,aF (j:=1) rfl,x,t,B.fs,B.dx,B.aS,B.aW,f,T,rfl,ins5,B.fS,B.fW,⟨q3,s51,s52⟩,w5,ht5,may.lt,λs g hg=>by rw[gd.wl];exact gd.gvlt s g hg,_,_,rfl,rfl,B.aW,_,_,rfl,rfl,w5,by rw[bp,gd.wl];lia,?_⟩
   dsimp only[nat]
   rw[jb,show nats f.own++[V.int ((2 ^ f.oc.length ||| cM f T:Nat):Int)]=nats (f.own++[2 ^ f.oc.length ||| cM f T]) from iL _ _]
   have u6:∀{c o},H5 c=some o->c≠B.aW->(upd H5 B.aW (.lst (nats (f.own++[2 ^ f.oc.length ||| cM f T])))) c=some o:=λ{c o} e n=>by rw[ah n];exact e
   have tup6:∀{c ys},H5 c=some (.tup ys)->(upd H5 B.aW (.lst (nats (f.own++[2 ^ f.oc.length ||| cM f T])))) c=some (.tup ys):=λ{c ys} e=>u6 e (aQ e w5 (λz=>nomatch z))
   have w6:(upd H5 B.aW (.lst (nats (f.own++[2 ^ f.oc.length ||| cM f T])))) B.aW=some (.lst (nats (f.own++[2 ^ f.oc.length ||| cM f T]))):=ag
   have ins6:=u6 ins5 (aQ ins5 w5 (λz=>nomatch z))
   generalize upd H5 B.aW (.lst (nats (f.own++[2 ^ f.oc.length ||| cM f T])))=H6 at u6 tup6 w6 ins6 ⊢
   have to6:∀{c o},H3 c=some o->c≠B.aO->c≠B.aN->c≠B.aW->H6 c=some o:=λ{c o} e n n' n''=>u6 (to5 e n n') n''
   have tup36:∀{c ys},H3 c=some (.tup ys)->H6 c=some (.tup ys):=λ{c ys} e=>tup6 (tup35 e)
   have A6:Cm CW H6 x B.dx B.fs B.aS B.aT B.aB B.aP ⟨f.W.sp,bL f.W.tk T f.oc.length,f.W.be,f.W.pl⟩:=⟨ins6,⟨q3,u6 s51 (Li w3),Paired.cH s32 λ_ _ e=>tup36 e⟩,to6 A3.tk t5 t4 t3,to6 A3.be b4 b3_ b2,to6 A3.pl p6 p5 p4⟩
   have but6:ij B.l H H6:=λc o e n=>by
    unfold WA.l at n
    simp only[KR,Lx,Mi,O5]at n
    exact to6 (nT e n.2.1) n.2.2.2.2.2.2.1 n.2.2.2.2.2.1 n.2.2.2.2.1
   have N6:cB C H6 B.p ms S:=(W.AF but6).same (nV _ _)
   obtain⟨dn,nP,nS,nT',nG,kT,kG,nn1,_⟩:=N6.at'.ob
   refine⟨_,rfl,x,B.dx,_,rfl,ins6,cF B _ (by decide +kernel),_,rfl,x,CW,B.dx,_,_,rfl,ins6,CT.cl,CT.nN,B.fN,B.p,dn,_,rfl,nn1,c6 _ _ _ _ AV zM Bc Bl,_,rfl,q,_,0,_,rfl,rfl,bX.of (tup6 hq5),aF (j:=0) rfl,B.p,ms,S,m,rfl,N6,can.mm,λH7 gl s7 ngl hgl=>?_⟩
   have A7:Cm CW H7 x B.dx B.fs B.aS B.aT B.aB B.aP ⟨f.W.sp,bL f.W.tk T f.oc.length,f.W.be,f.W.pl⟩:=let ⟨i,⟨q,a,b⟩,c,d,e⟩:=A6;⟨s7 _ _ i,⟨q,s7 _ _ a,Paired.cH b λ_ _ z=>s7 _ _ z⟩,s7 _ _ c,s7 _ _ d,s7 _ _ e⟩
   have ngl4:gl∉[B.aS,B.aT,B.aB,B.aP]:=λz=>by
    simp only[KR,Lx,Mi]at z
    obtain⟨q6,a6,_⟩:=A6.sp
    rcases z with z|z|z|z
    ·rw[z,a6]at ngl;cases ngl
    ·rw[z,A6.tk]at ngl;cases ngl
    ·rw[z,A6.be]at ngl;cases ngl
    ·rw[z,A6.pl]at ngl;cases ngl
   have pl:=can.pl
   have lg:(aI m.2.2).length=m.2.2.length:=by rw[bW]
   have fit:kO (⟨f.W.sp,bL f.W.tk T f.oc.length,f.W.be,f.W.pl⟩,fz f T) (aI m.2.2):=⟨by show(bL _ _ _).length=_;rw[dE,gd.tl],gd.bl,xi gd,may.jk,λy hy=>pl.2.2 y (bJ.mp hy),pl.1,pl.2.1⟩
   refine⟨_,rfl,_,rfl,x,B.dx,gl,B.aS,B.aT,B.aB,B.aP,B.fs,⟨f.W.sp,bL f.W.tk T f.oc.length,f.W.be,f.W.pl⟩,some f.oc.length,fz f T,aI m.2.2,rfl,j5 _ _ _ _ _ _ _ _ _,Li t6,Li b5,t1,A7,hgl,ngl4,fit,λH8 A8 b8=>?_⟩
   have to8:∀{c o},H6 c=some o->c∉[B.aS,B.aT,B.aB,B.aP]->H8 c=some o:=λ{c o} e n=>b8 _ _ (s7 _ _ e) n
   have tup8:∀{c ys},H6 c=some (.tup ys)->H8 c=some (.tup ys):=λ{c ys} e=>to8 e λz=>by
    simp only[KR,Lx,Mi]at z
    obtain⟨q6,a6,_⟩:=A6.sp
    rcases z with z|z|z|z
    ·rw[z,a6]at e;cases e
    ·rw[z,A6.tk]at e;cases e
    ·rw[z,A6.be]at e;cases e
    ·rw[z,A6.pl]at e;cases e
   have g8:H8 B.aG=some (.lst (nats gs)):=to8 (to6 g13 gg3 gg2 gg1) (by simp[gg4,Li t2,Li b1,Li p3])
   obtain⟨q8,s81,s82⟩:=A8.sp
   have l8:=KZ s82
   have lsp:(bu (some f.oc.length) (⟨f.W.sp,bL f.W.tk T f.oc.length,f.W.be,f.W.pl⟩,fz f T) (aI m.2.2)).1.sp.length=f.W.sp.length+(aI m.2.2).length:=by
    rw[(gy gd may).sp,KA,Kw]
   have fw:=may.jk
   refine⟨_,rfl,x,CW,B.dx,_,_,rfl,A8.ins,CT.cl,CT.nG,B.fG,.inl ⟨rfl,_,aA.of g8⟩,_,rfl,x,CW,B.dx,_,_,rfl,A8.ins,CT.cl,CT.nS,B.fS,_,q8.length,rfl,.inl ⟨_,aA.of s81,by rw[Kw]⟩,q8.length,rfl,by lia,_,rfl,_,_,rfl,rfl,B.aG,_,_,rfl,rfl,g8,by rw[bp];lia,?_⟩
   have eg:V.int (((2 ^ q8.length:Nat):Int)-((2 ^ f.W.sp.length:Nat):Int))=nat (2 ^ q8.length-2 ^ f.W.sp.length):=by
    have:=LC (n:=2) (by decide) (show f.W.sp.length<=q8.length by lia)
    unfold nat
    congr 1
    lia
   dsimp only[nat]at eg ⊢
   rw[eg,show nats gs++[V.int ((2 ^ q8.length-2 ^ f.W.sp.length:Nat):Int)]=nats (gs++[2 ^ q8.length-2 ^ f.W.sp.length]) from iL _ _]
   have u9:∀{c o},H8 c=some o->c≠B.aG->(upd H8 B.aG (.lst (nats (gs++[2 ^ q8.length-2 ^ f.W.sp.length])))) c=some o:=λ{c o} e n=>by rw[ah n];exact e
   have tup9:∀{c ys},H8 c=some (.tup ys)->(upd H8 B.aG (.lst (nats (gs++[2 ^ q8.length-2 ^ f.W.sp.length])))) c=some (.tup ys):=λ{c ys} e=>u9 e (aQ e g8 (λz=>nomatch z))
   have g9:(upd H8 B.aG (.lst (nats (gs++[2 ^ q8.length-2 ^ f.W.sp.length])))) B.aG=some (.lst (nats (gs++[2 ^ q8.length-2 ^ f.W.sp.length]))):=ag
   generalize upd H8 B.aG (.lst (nats (gs++[2 ^ q8.length-2 ^ f.W.sp.length])))=H9 at u9 tup9 g9 ⊢
   have tup39:∀{c ys},H3 c=some (.tup ys)->H9 c=some (.tup ys):=λ{c ys} e=>tup9 (tup8 (tup36 e))
   have but9:ij B.l H H9:=λc o e n=>by
    have e6:=but6 c o e n
    unfold WA.l at n
    simp only[KR,Lx,Mi,O5]at n
    exact u9 (to8 e6 (by simp[n.1,n.2.1,n.2.2.1,n.2.2.2.2.2.2.2])) n.2.2.2.1
   have n4:∀{c},c∈[B.aO,B.aN,B.aW]->c∉[B.aS,B.aT,B.aB,B.aP]:=λ{c} hc=>by
    simp only[KR,Lx,Mi]at hc
    rcases hc with rfl|rfl|rfl
    ·simp[n3,Li t5,Li b4,Li p6]
    ·simp[n2,Li t4,Li b3_,Li p5]
    ·simp[w3,Li t3,Li b2,Li p4]
   refine⟨_,rfl,kk _ ⟨⟨u9 A8.ins (aQ A8.ins g8 (λz=>nomatch z)),⟨q8,u9 s81 (Li gg4),Paired.cH s82 λ_ _ e=>tup9 e⟩,u9 A8.tk t2,u9 A8.be b1,u9 A8.pl p3⟩,⟨qo++[q],u9 (to8 (u6 (u5 o14 (Li n1)) (Li w2)) (n4 (by simp))) (Li gg3),?_,?_⟩,u9 (to8 w6 (n4 (by simp))) (Li gg1),⟨_,g9,?_⟩,W.nd,W.AF but9⟩ but9⟩
   ·exact L1 (Paired.cH pr3 λ_ _ e=>e.same λ_ _ e=>tup39 e) ⟨t,tup39 hq3,tup39 ht3⟩
   ·have ez:(f.oc++[(m.1,T)]).zip (qo++[q])=f.oc.zip qo++[((m.1,T),q)]:=by rw[List.zip_append lo];rfl
    show H9 B.aN=some (PD P w B.aN ((f.oc++[(m.1,T)]).zip (qo++[q])))
    rw[ez]
    exact u9 (to8 (u6 o35 (Li w1)) (n4 (by simp))) (Li gg2)
   ·show(gs++[_]).length=(f.oc++[_]).length
    rw[KA,KA,g2]
    rfl
def Ac(P:Program)(w:World)(C CW:Addr):Sp:=λvs H Q _=>∃(x l:Addr) (B:WA) (ms:List Mv) (S:List Str) (f:WF) (m:Mv) (U:List Nat),vs=[.ref x,.str m.1,.ref l]/\c7 P w C CW H x B ms S f/\Good f/\H l=some (.lst (nats U))/\vC f ms S m (bZ U) /\
 ∀H',c7 P w C CW H' x B ms S (dk f m.1 (bZ U) (aI m.2.2))->ij B.l H H'->Q (nat f.oc.length) H'
def uf:aD ["self", "move", "spots", "taken", "occurrence"] ["self", "move", "spots"] (ar vP):=eA
def Ce{f C CW:Addr}{fd:FuncData}(F:dj K "come" "Web.come" vP f fd)(T0:Txt K mg)(CT:gX K CW)
  (DF:jE P w K mg base CW "must_fit" "Web.must_fit" qh ["self", "move", "spots"] 4 (vQ P w C CW))
  (DB:jE P w K mg base CW "must_stand_beside" "Web.must_stand_beside" qb ["self", "spots"] 2 (wR P w C CW))
  (DO:jE P w K mg base CW "add_occurrence" "Web.add_occurrence" wD ["self", "occurrence"] 4 (BN P w C CW)) :
  a9 P w K mg base cR 5 f fd ["self", "move", "spots"] (Ac P w C CW):=by
 refine F.oK uf λcdv A outer s H vs Q E hr h=>?_
 ·obtain⟨x,l,B,ms,S,f,m,U,rfl,W,gd,hl,can,kk⟩:=h
  have hsl:=Lg
  refine⟨_,af (cD 3 uf (ay vE rfl T0.aI cj (aa (pv 2) ae)))
   (af (bj (cz (pv 0) CT.cl DF.d.mt DF.g hr DF.d.bd .nil br (aa (pv 1) (aa (pv 3) ae))))
   (af (bj (cz (pv 0) CT.cl DB.d.mt DB.g (hr.mono (by decide)) DB.d.bd .nil br (aa (pv 3) ae)))
   (af (cD 4 uf (gc (aa (pv 1) (aa (bb bV rfl T0.tup fh (aa (pv 3) ae)) ae))))
   (af (bO (a8 Ig (pv 4) (aZ (pv 0) rfl) (by with_unfolding_all rfl)) (aj dq) aX)
   (aj (aK (cz (pv 0) CT.cl DO.d.mt DO.g hr DO.d.bd .nil br (aa (pv 4) ae)))))))),?_⟩
  try dsimp only[bK,Cx.dP,Cx.bQ]
  have may:=can.may
  have l4:=can.l4
  have lU:(bZ U).length=U.length:=jS U
  refine⟨_,rfl,l,U,rfl,aA.of hl,by lia,λta nta=>?_⟩
  obtain⟨H1,eU,s1,hta⟩:=oh nta (.lst (nats (bZ U)))
  rw[eU]
  have W1:=W.same s1
  refine⟨_,rfl,x,B.dx,_,rfl,W1.ad.ins,cF B _ (by decide +kernel),_,rfl,_,rfl,x,ta,B,ms,S,f,m,bZ U,rfl,W1,can.mm,hta,l4,may.lt,can.nm,λH2 s2=>?_⟩
  have W2:=W1.same s2
  refine⟨_,rfl,x,B.dx,_,rfl,W2.ad.ins,cF B _ (by decide +kernel),_,rfl,x,ta,B,ms,S,f,bZ U,rfl,W2,gd.bl,s2 _ _ hta,may.lt,can.nd,may.side,λH3 s3=>?_⟩
  refine⟨_,rfl,_,rfl,ta,_,rfl,.inl ⟨aA.of ((s2.trans s3) _ _ hta),λtt ntt=>⟨by show 2<=sizeLine;lia,λq nq=>?_⟩⟩⟩
  have s4:aq H3 (upd (upd H3 tt (.tup (nats (bZ U)))) q (.tup [.str m.1,.ref tt])):=(ao ntt).trans (ao nq)
  have htt:(upd (upd H3 tt (.tup (nats (bZ U)))) q (.tup [.str m.1,.ref tt])) tt=some (.tup (nats (bZ U))):=ao nq _ _ ag
  have hq:(upd (upd H3 tt (.tup (nats (bZ U)))) q (.tup [.str m.1,.ref tt])) q=some (.tup [.str m.1,.ref tt]):=ag
  generalize upd (upd H3 tt (.tup (nats (bZ U)))) q (.tup [.str m.1,.ref tt])=H4 at s4 htt hq ⊢
  have s04:=(s1.trans s2).trans (s3.trans s4)
  have W4:=W.same s04
  obtain⟨qo,o1,o2,o3⟩:=W4.oc
  have lo:=KZ o2
  have zk:(f.oc.zip qo).map (·.1)=f.oc:=Pz (by lia)
  refine⟨_,rfl,_,rfl,x,CW,B.dx,_,_,rfl,W4.ad.ins,CT.cl,CT.nH,B.fH,q,B.aN,(m.1,bZ U),f.oc.zip qo,rfl,rfl,lV hr,⟨tt,hq,htt⟩,o3,λz hz=>gM o2 hz,_,rfl,?_⟩
  rw[zk,KU can.new]
  refine bF ?_
  exact⟨_,rfl,x,B.dx,_,rfl,W4.ad.ins,cF B _ (by decide +kernel),_,rfl,x,q,B,ms,S,f,m,bZ U,rfl,W4,gd,⟨tt,hq,htt⟩,can,λH5 W5 b5=>kk _ W5 λc o e n=>b5 _ _ (s04 _ _ e) n⟩
end Uf
end
section
namespace Uf
open PySem L2 UfB UfSrt UfTs
abbrev sC:Stmt:=inClass mj 1
abbrev yy:Stmt:=inClass mj 2
abbrev AW:Stmt:=inClass mj 3
abbrev DI:Stmt:=top 35
def vh(P:Program)(w:World)(C CW:Addr):Sp:=λvs H Q _=>∃(x:Addr) (B:WA) (ms:List Mv) (S:List Str) (f:WF),vs=[.ref x]/\c7 P w C CW H x B ms S f/\Q (.ref B.p) H
def E7:aD ["self"] ["self"] (ar sC):=eA
def Cz{f C CW:Addr}{fd:FuncData}(F:dj K "net" "Web.net" sC f fd)(CT:gX K CW):a9 P w K mg base cR 1 f fd ["self"] (vh P w C CW):=by
 refine F.oK E7 λcdv A outer s H vs Q E hr h=>?_
 ·obtain⟨x,B,ms,S,f,rfl,W,k⟩:=h
  refine⟨_,aj (aK (aZ (pv 0) rfl)),?_⟩
  try dsimp only[bK,Cx.dP,Cx.bQ]
  exact⟨_,rfl,x,CW,B.dx,_,_,rfl,W.ad.ins,CT.cl,CT.nN,B.fN,k⟩
def mJ(P:Program)(w:World)(C CW:Addr)(sel:WA->Addr):Sp:=λvs H Q _=>∃(x:Addr) (B:WA) (ms:List Mv) (S:List Str) (f:WF) (ys:List V),vs=[.ref x]/\c7 P w C CW H x B ms S f/\H (sel B)=some (.lst ys)/\∀q,H q=none->Q (.ref q) (upd H q (.lst ys))
def IG:aD ["self"] ["self"] (ar yy):=eA
def IJ:aD ["self"] ["self"] (ar AW):=eA
def Gs{f C CW:Addr}{fd:FuncData}(F:dj K "spots" "Web.spots" yy f fd)(T:Txt K mg)(CT:gX K CW):a9 P w K mg base cR 1 f fd ["self"] (mJ P w C CW WA.aS):=by
 refine F.oK IG λcdv A outer s H vs Q E hr h=>?_
 ·obtain⟨x,B,ms,S,f,ys,rfl,W,hy,k⟩:=h
  refine⟨_,aj (aK (bb cn rfl T.lst eR (aa (aZ (pv 0) rfl) ae))),?_⟩
  try dsimp only[bK,Cx.dP,Cx.bQ]
  exact⟨_,rfl,x,CW,B.dx,_,_,rfl,W.ad.ins,CT.cl,CT.nS,B.fS,B.aS,_,rfl,.inl (aA.of hy),k⟩
def Fc{f C CW:Addr}{fd:FuncData}(F:dj K "occurrences" "Web.occurrences" AW f fd)(T:Txt K mg)(CT:gX K CW):a9 P w K mg base cR 1 f fd ["self"] (mJ P w C CW WA.aO):=by
 refine F.oK IJ λcdv A outer s H vs Q E hr h=>?_
 ·obtain⟨x,B,ms,S,f,ys,rfl,W,hy,k⟩:=h
  refine⟨_,aj (aK (bb cn rfl T.lst eR (aa (aZ (pv 0) rfl) ae))),?_⟩
  try dsimp only[bK,Cx.dP,Cx.bQ]
  exact⟨_,rfl,x,CW,B.dx,_,_,rfl,W.ad.ins,CT.cl,CT.nO,B.fO,B.aO,_,rfl,.inl (aA.of hy),k⟩
abbrev vg(K:PySem.W.Frag)(H:Hp):List Ch->List Addr->Prop:=Paired λc q=>∃t,H q=some (.tup [.ref t,nat c.2])/\bX K H t (nats c.1)
def vg.same{K:PySem.W.Frag}{H H':Hp}{cs:List Ch}{qs:List Addr}(h:vg K H cs qs)(s:aq H H'):vg K H' cs qs:=Paired.cH h λ_ _ ⟨t,a,b⟩=>⟨t,s _ _ a,cw s b⟩
structure IK(f:WF)(ms:List Mv)(m:Mv):Prop where
 gd:Good f
 gp:eY f.W
 n68:f.W.sp.length<=68
 mm:m∈ms
 tn:m.2.1.Nodup
 t4:m.2.1.length<=4
 tp:∀y∈m.2.1,y∈f.W.pl.map (·.1)
def Ep(P:Program)(w:World)(C CW:Addr):Sp:=λvs H Q _=>∃(x:Addr) (B:WA) (ms:List Mv) (S:List Str) (f:WF) (m:Mv),vs=[.ref x,.str m.1,nat (2 ^ f.W.sp.length-1)]/\c7 P w C CW H x B ms S f/\IK f ms m /\
 ∀H' r qs,aq H H'->H r=none->H' r=some (.lst (qs.map V.ref))->Paired (λT q=>H' q=some (.tup (nats T))) ((yO f (aI m.2.1)).map λc=>bZ c.1) qs->Q (.ref r) H'
def jn:aD ["web", "move", "among", "choices", "place", "longer", "chosen", "beside", "spot"] ["web", "move", "among"] (ar DI):=eA
theorem wV{f:WF}:∀{pl:List (Str×Nat)} {x:Str},x∈pl.map (·.1)->dv (jH pl) (Sum.inr x:Key)=some (nat (((pl.find? λp=>decide (p.1=x)).map (·.2)).getD 0))
 |[],_,h=>by simp at h
 |p::pl,x,h=>by
  show dv ((Sum.inr p.1,nat p.2)::jH pl) _=_
  by_cases e:p.1=x
  ·rw[cJ (by rw[e]),List.find?_cons_of_pos (by simpa using e)]
   rfl
  ·rw[cK (λz=>e (NP z)),List.find?_cons_of_neg (by simpa using e)]
   have h2:x∈pl.map (·.1):=by
    rcases KR.mp h with z|z
    ·exact absurd z.symm e
    ·exact z
   exact wV (f:=f) h2
inductive FtI(K:PySem.W.Frag)(H Hb:Hp)(x:Addr)(m:Str)(f:WF)(xs:List Str)(i:Nat)(σ:St)(H2:Hp):Prop
 |mk (v4 v5 v6 v7 v8:Option V) (cl:Addr) (qs:List Addr) (q0:σ=[some (.ref x),some (.str m),some (nat (2 ^ f.W.sp.length-1)),some (.ref cl),v4,v5,v6,v7,v8]) (q1:aq Hb H2) (q2:H2 cl=some (.lst (qs.map V.ref))) (q3:vg K H2 (yO f (xs.take i)) qs) (q4:H cl=none)
inductive FtJ(K:PySem.W.Frag)(H:Hp)(x cl lo:Addr)(m:Str)(f:WF)(y:Str)(cs:List Ch)(j:Nat)(σ:St)(H2:Hp):Prop
 |mk (v6 v7 v8:Option V) (rs:List Addr) (q0:σ=[some (.ref x),some (.str m),some (nat (2 ^ f.W.sp.length-1)),some (.ref cl),some (.str y),some (.ref lo),v6,v7,v8]) (q1:aq H H2) (q2:H2 lo=some (.lst (rs.map V.ref))) (q3:vg K H2 (iR f y (cs.take j)) rs)
inductive FtL(K:PySem.W.Frag)(H:Hp)(x cl lo:Addr)(m:Str)(f:WF)(y:Str)(cs:List Ch)(c:Ch)(t ml:Addr)(k:Nat)(σ:St)(H2:Hp):Prop
 |mk (v8:Option V) (rs:List Addr) (q0:σ=[some (.ref x),some (.str m),some (nat (2 ^ f.W.sp.length-1)),some (.ref cl),some (.str y),some (.ref lo),some (.ref t),some (nat c.2),v8]) (q1:aq H H2) (q2:H2 lo=some (.lst (rs.map V.ref))) (q3:vg K H2 (iR f y cs++((mem (c.2 &&& zh f y)).take k).map λs=>(c.1++[s],c.2 &&& f.W.be.getD s 0)) rs) (q4:H2 ml=some (.lst (nats (mem (c.2 &&& zh f y)))))
def CG{K:PySem.W.Frag}{H:Hp}{a l:Addr}{xs ys:List V}{o:HO}(h:bX K H a xs)(hl:H l=some (.lst ys)):bX K (upd H l o) a xs:=by
 rcases h with(h|⟨o',h⟩)|h
 ·exact .inl (.inl (by rw[ah (aQ h hl (λz=>nomatch z))];exact h))
 ·exact .inl (.inr ⟨o',by rw[ah (aQ h hl (λz=>nomatch z))];exact h⟩)
 ·exact .inr h
def fV{qs:List Addr}{i:Nat}{v:V}(h:(qs.map V.ref)[i]?=some v):∃q,qs[i]?=some q/\v=.ref q:=by
 rw[KH]at h
 obtain⟨q,e1,e2⟩:=LW.mp h
 exact⟨q,e1,e2.symm⟩
def rO{f:WF}{xs:List Str}{i:Nat}{y:Str}(h:xs[i]?=some y):yO f (xs.take (i+1))=iR f y (yO f (xs.take i)):=by
 unfold yO
 rw[au h,ND]
 rfl
def FO{f C CW:Addr}{fd:FuncData}(F:dj K "fitting_spots" "fitting_spots" DI f fd)(T0:Txt K mg)(NC:gO K C)(CT:gX K CW)
  (DN:jE P w K mg base CW "net" "Web.net" sC ["self"] 1 (vh P w C CW))
  (DT:jE P w K mg base C "takes" "Net.takes" ik ["self", "move"] 3 (iX C (·.2.1)))
  (DM:gI P w K mg base "members" hV ["bits"] 1 jV) :
  a9 P w K mg base cR 4 f fd ["web", "move", "among"] (Ep P w C CW):=by
 refine F.oK jn λcdv A outer s H vs Q E hr h=>?_
 ·obtain⟨x,B,ms,S,f,m,rfl,W,fc,kk⟩:=h
  have hu:=eZ hr
  have hsl:=Lg
  refine⟨_,af (cD 3 jn (eQ (aa (gc (aa (gc ae) (aa (pv 2) ae))) ae)))
   (af (bo K7 rfl (aL (cz (cE (pv 0) CT.cl DN.d.mt DN.g (hr.mono (by decide)) DN.d.bd .nil br) NC.cl DT.d.mt DT.g hr DT.d.bd .nil br (aa (pv 1) ae))) (eu 4 jn)
    (af (cD 5 jn (eQ ae))
    (af (bo K7 rfl (aL (pv 3)) (dQ rfl (aV (eu 6 jn) (aV (eu 7 jn) cZ)))
     (aj (bo K7 rfl (aL (e7 DM (hr.mono (by decide)) (aa (az gf (pv 7) (iF hu (aZ (pv 0) rfl) (pv 4) (λ_ _=>rfl))) ae))) (eu 8 jn)
      (aj (bj (c8 Lf Lc Ld bf (pv 5) (aa (gc (aa (az Dc (pv 6) (gc (aa (pv 8) ae))) (aa (az gf (pv 7) (aM aE (aZ (pv 0) rfl) (pv 8) (λ_ _=>rfl))) ae))) ae)))))))
    (aj (cD 3 jn (pv 5))))))
   (aj (aK (bB (N:=["chosen", "beside"]) (n:=2) (ci:=[]) rfl (aL (pv 3))
     (iO jn)
     (λz=>⟨dQ rfl (aV (g0 0) (aV (g0 1) cZ)),bD,bb bV rfl T0.tup fh (aa (ay vG rfl T0.aI cj (aa (pv 0) ae)) ae)⟩))))),?_⟩
  try dsimp only[bK,Cx.dP,Cx.bQ]
  have gd:=fc.gd
  have gp:=fc.gp
  have n68:=fc.n68
  have xn:(aI m.2.1).Nodup:=iK.mpr fc.tn
  have x4:(aI m.2.1).length<=4:=by rw[bW];exact fc.t4
  have xp:∀y∈aI m.2.1,y∈f.W.pl.map (·.1):=λy hy=>fc.tp y (bJ.mp hy)
  refine⟨K2 _,λt0 nt0=>⟨_,rfl,by show 2<=sizeLine;lia,λp0 np0=>⟨by show 1<=sizeLine;lia,λc0 nc0=>?_⟩⟩⟩
  have s1:aq H (upd (upd (upd H t0 (.tup [])) p0 (.tup [.ref t0,nat (2 ^ f.W.sp.length-1)])) c0 (.lst [.ref p0])):=((ao nt0).trans (ao np0)).trans (ao nc0)
  have ht0:(upd (upd (upd H t0 (.tup [])) p0 (.tup [.ref t0,nat (2 ^ f.W.sp.length-1)])) c0 (.lst [.ref p0])) t0=some (.tup []):=ao nc0 _ _ (ao np0 _ _ ag)
  have hp0:(upd (upd (upd H t0 (.tup [])) p0 (.tup [.ref t0,nat (2 ^ f.W.sp.length-1)])) c0 (.lst [.ref p0])) p0=some (.tup [.ref t0,nat (2 ^ f.W.sp.length-1)]):=ao nc0 _ _ ag
  have hc0:(upd (upd (upd H t0 (.tup [])) p0 (.tup [.ref t0,nat (2 ^ f.W.sp.length-1)])) c0 (.lst [.ref p0])) c0=some (.lst ([p0].map V.ref)):=ag
  have nc0':H c0=none:=((ao nt0).trans (ao np0)).free nc0
  generalize upd (upd (upd H t0 (.tup [])) p0 (.tup [.ref t0,nat (2 ^ f.W.sp.length-1)])) c0 (.lst [.ref p0])=H1 at s1 ht0 hp0 hc0 ⊢
  have W1:=W.same s1
  have N1:=W1.qT
  obtain⟨dn,nP,nS,nT',nG,kT,kG,nn1,_⟩:=N1.at'.ob
  refine⟨_,rfl,x,B.dx,_,rfl,W1.ad.ins,cF B _ (by decide +kernel),x,B,ms,S,f,rfl,W1,B.p,dn,_,rfl,nn1,c6 _ _ _ _ qW tH qR tS,_,rfl,B.p,ms,S,m,rfl,N1,fc.mm,λH2 tl s2 ntl htl=>?_⟩
  have c2:vg K H2 (yO f ((aI m.2.1).take 0)) [p0]:=.cons ⟨t0,s2 _ _ hp0,bX.of (s2 _ _ ht0)⟩ .nil
  refine⟨tl,rfl,⟨_,aA.of htl⟩,bq (K:=K) (a:=tl) (xs:=aH (aI m.2.1)) (FtI K H H2 x m.1 f (aI m.2.1)) ⟨none,none,none,none,none,c0,[p0],rfl,λ_ _ e=>e,s2 _ _ hc0,c2,nc0'⟩ (λi σ H3 _ h=>by obtain⟨_,_,_,_,_,_,_,_,s,_⟩:=h;exact aA.of (s _ _ htl)) ?_ ?_⟩
  ·rintro i v σ H3 hi ⟨v4,v5,v6,v7,v8,cl,qs,rfl,s3b,hcl,hch,ncl⟩
   have s3:=(s1.trans s2).trans s3b
   obtain⟨y,hy,rfl⟩:=dy hi
   have yp:=xp y (KJ hy)
   have few0:(yO f ((aI m.2.1).take i)).length<=1336336:=qz gp n68 (xn.sublist (Ny _ _)) (by rw[La];lia) λz hz=>xp z (L0 hz)
   have few1:(iR f y (yO f ((aI m.2.1).take i))).length<=1336336:=by
    rw[<-rO hy]
    exact qz gp n68 (xn.sublist (Ny _ _)) (by rw[La];lia) λz hz=>xp z (L0 hz)
   have okc:=lO gd gp (xs:=(aI m.2.1).take i) λz hz=>xp z (L0 hz)
   have eS:=rO (f:=f) hy
   generalize yO f ((aI m.2.1).take i)=cs at hch few0 few1 okc eS
   have lch:=KZ hch
   refine⟨K2 _,λlo nlo=>?_⟩
   have s4:aq H3 (upd H3 lo (.lst [])):=ao nlo
   have hlo:(upd H3 lo (.lst [])) lo=some (.lst (([]:List Addr).map V.ref)):=ag
   generalize upd H3 lo (.lst [])=H4 at s4 hlo ⊢
   have nlo0:H lo=none:=s3.free nlo
   refine⟨_,rfl,cl,rfl,⟨_,aA.of (s4 _ _ hcl)⟩,bq (K:=K) (a:=cl) (xs:=qs.map V.ref) (FtJ K H3 x cl lo m.1 f y cs) ⟨_,_,_,[],rfl,s4,hlo,.nil⟩ (λj σ H5 _ h=>?_) ?_ ?_⟩
   ·obtain⟨_,_,_,_,_,s5,_⟩:=h
    exact aA.of (s5 _ _ hcl)
   ·rintro j v σ H5 hj ⟨v6,v7,v8,rs,rfl,s5,hlo5,hch5⟩
    obtain⟨q,hqj,rfl⟩:=fV hj
    obtain⟨c,hcj,t,hq,htc⟩:=bE hch hqj
    have okc:=okc c (KJ hcj)
    have cl250:=xv okc
    have b256:(c.2 &&& zh f y)<2 ^ 256:=Lz P0 (K4 cl250 (LC (by decide) (by lia)))
    have W5:=W.same (s3.trans s5)
    have dg:gP H5 B.aP (V.str y) (some (nat (zh f y))):=by
     have:=gP.k (k:=Sum.inr y) W5.ad.pl
     rw[wV (f:=f) yp]at this
     exact this
    refine⟨q,_,rfl,bX.of (s5 _ _ hq),rfl,_,_,rfl,_,_,rfl,rfl,?_⟩
    refine⟨_,rfl,_,rfl,x,CW,B.dx,_,_,rfl,W5.ad.ins,CT.cl,CT.nP,B.fP,_,rfl,B.aP,_,rfl,dg,_,_,rfl,rfl,c.2 &&& zh f y,(by dsimp only;rw[jt];rfl),b256,λH6 ml s6 nml hml=>?_⟩
    have ec:iR f y (cs.take (j+1))=iR f y (cs.take j)++Eo f y c:=by
     unfold iR
     rw[au hcj,NR]
     simp
    have lec:(iR f y (cs.take (j+1))).length<=1336336:=by
     refine Lh ?_ few1
     unfold iR
     conv=>rhs;rw[<-M8 (j+1) cs,NR,KA]
     exact ME _ _
    refine⟨ml,rfl,⟨_,aA.of hml⟩,bq (K:=K) (a:=ml) (xs:=nats (mem (c.2 &&& zh f y))) (FtL K H3 x cl lo m.1 f y (cs.take j) c t ml) ⟨_,rs,rfl,s5.trans s6,s6 _ _ hlo5,(by rw[List.take_zero,Pn,MM];exact hch5.same s6),hml⟩ (λk σ H7 _ h=>by obtain⟨_,_,_,_,_,_,e⟩:=h;exact aA.of e) ?_ ?_⟩
    ·rintro k v σ H7 hk ⟨v8,rs,rfl,s7,hlo7,hch7,hml7⟩
     obtain⟨n,hn,rfl⟩:=dJ hk
     have W7:=W.same (s3.trans s7)
     have l7:=KZ hch7
     have nl:n<f.W.sp.length:=vq (Lz P0 cl250) (KJ hn)
     have lk:rs.length<1336336:=by
      rw[<-l7,KA,Kw,La]
      rw[ec,KA]at lec
      have hkl:=(KQ.mp hn).1
      have:(Eo f y c).length=(mem (c.2 &&& zh f y)).length:=by unfold Eo;rw[List.length_map]
      lia
     have lc1:c.1.length<=4:=by
      have:=LZ List.length okc.nm
      rw[Kw,La]at this
      lia
     refine⟨_,rfl,.inl ⟨rfl,_,aA.of hlo7⟩,_,rfl,_,rfl,by show 1<=sizeLine;lia,λu nu=>?_⟩
     have s8:aq H7 (upd H7 u (.tup [nat n])):=ao nu
     have hu8:(upd H7 u (.tup [nat n])) u=some (.tup (nats [n])):=ag
     generalize upd H7 u (.tup [nat n])=H8 at s8 hu8 ⊢
     refine⟨t,u,nats c.1,nats [n],rfl,rfl,cw (s7.trans s8) htc,bX.of hu8,by rw[bp,bp];show c.1.length+1<=1000;lia,λH9 r s9 hr9=>?_⟩
     have W9:=W7.same (s8.trans s9)
     refine⟨_,rfl,_,rfl,x,CW,B.dx,_,_,rfl,W9.ad.ins,CT.cl,CT.nB,B.fB,_,rfl,B.aB,_,_,_,rfl,rfl,aA.of W9.ad.be,aF (j:=n) (gC (by rw[gd.bl];exact nl)),_,_,rfl,rfl,by show 2<=sizeLine;lia,λz nz=>?_⟩
     dsimp only[nat]
     rw[jt]
     have s10:aq H9 (upd H9 z (.tup [.ref r,V.int ((c.2 &&& f.W.be.getD n 0:Nat):Int)])):=ao nz
     have hz10:(upd H9 z (.tup [.ref r,V.int ((c.2 &&& f.W.be.getD n 0:Nat):Int)])) z=some (.tup [.ref r,nat (c.2 &&& f.W.be.getD n 0)]):=ag
     generalize upd H9 z (.tup [.ref r,V.int ((c.2 &&& f.W.be.getD n 0:Nat):Int)])=H10 at s10 hz10 ⊢
     have s710:aq H7 H10:=s8.trans (s9.trans s10)
     have hlo10:=s710 _ _ hlo7
     refine⟨lo,_,_,rfl,rfl,hlo10,by rw[Kw];lia,?_⟩
     have nT:∀{a xs},H10 a=some (.tup xs)->(upd H10 lo (.lst (rs.map V.ref++[V.ref z]))) a=some (.tup xs):=λ{a xs} e=>by rw[ah (aQ e hlo10 (λz=>nomatch z))];exact e
     have nS:∀{a xs},bX K H10 a xs->bX K (upd H10 lo (.lst (rs.map V.ref++[V.ref z]))) a xs:=λ{a xs} e=>CG e hlo10
     have nml':ml≠lo:=(ai hlo5 nml).symm
     refine⟨_,rs++[z],rfl,aU (s7.trans s710) nlo,(by rw[ag,KS];rfl),?_,by rw[ah nml'];exact s710 _ _ hml7⟩
     rw[au hn,KS,<-Mw]
     refine L1 (Paired.cH (hch7.same s710) λ_ _ ⟨t,a,b⟩=>⟨t,nT a,nS b⟩) ⟨r,nT hz10,nS (cw s10 ?_)⟩
     have:nats c.1++nats [n]=nats (c.1++[n]):=by unfold nats;rw[List.map_append]
     rw[<-this]
     exact hr9
    ·rintro σ H7 ⟨v8,rs,rfl,s7,hlo7,hch7,_⟩
     rw[bp,Le]at hch7
     refine⟨_,_,_,rs,rfl,s7,hlo7,?_⟩
     rw[ec]
     exact hch7
   ·rintro σ H5 ⟨v6,v7,v8,rs,rfl,s5,hlo5,hch5⟩
    rw[Kw,<-lch,Le]at hch5
    refine⟨_,rfl,?_⟩
    refine⟨_,_,_,_,_,lo,rs,rfl,s3b.trans s5,hlo5,?_,nlo0⟩
    rw[eS]
    exact hch5
  ·rintro σ H3 ⟨v4,v5,v6,v7,v8,cl,qs,rfl,s3b,hcl,hch,ncl⟩
   have s3:=(s1.trans s2).trans s3b
   rw[aw,Le]at hch
   have jk:=qz gp n68 xn x4 xp
   have okc:=lO gd gp (xs:=aI m.2.1) xp
   have lch:=KZ hch
   refine⟨_,rfl,cl,rfl,⟨_,aA.of hcl⟩,λz D hD=>cg (a:=cl) (xs:=qs.map V.ref) (λj ys H4=>∃rs:List Addr,ys=rs.map V.ref/\H4 D=some (.lst ys)/\aq H3 H4/\Paired (λT q=>H4 q=some (.tup (nats T))) (((yO f (aI m.2.1)).take j).map λc=>bZ c.1) rs) ⟨[],rfl,ag,ao hD,.nil⟩ (λj ys H4 _ ⟨_,_,_,s4,_⟩=>aA.of (s4 _ _ hcl)) ?_ ?_⟩
   ·rintro j v ys H4 hj ⟨rs,rfl,hys,s4,hrs⟩
    obtain⟨q,hqj,rfl⟩:=fV hj
    obtain⟨c,hcj,t,hq,htc⟩:=bE hch hqj
    have hjl:=(KQ.mp hcj).1
    have okc:=okc c (KJ hcj)
    have lc1:c.1.length<=4:=by
     have:=LZ List.length okc.nm
     rw[Kw]at this
     lia
    have lrs:=KZ hrs
    rw[Kw,La]at lrs
    refine⟨q,_,rfl,bX.of (s4 _ _ hq),rfl,_,_,rfl,_,_,rfl,rfl,_,rfl,t,c.1,rfl,cw s4 htc,by lia,λso nso=>⟨so,_,rfl,.inl ⟨aA.of ag,λu nu=>?_⟩⟩⟩
    have s5:aq H4 (upd (upd H4 so (.lst (nats (bZ c.1)))) u (.tup (nats (bZ c.1)))):=(ao nso).trans (ao nu)
    have hu5:(upd (upd H4 so (.lst (nats (bZ c.1)))) u (.tup (nats (bZ c.1)))) u=some (.tup (nats (bZ c.1))):=ag
    generalize upd (upd H4 so (.lst (nats (bZ c.1)))) u (.tup (nats (bZ c.1)))=H5 at s5 hu5 ⊢
    have hys5:=s5 _ _ hys
    refine⟨hys5,by rw[Kw];lia,rs++[u],by rw[KS];rfl,ag,aU (s4.trans s5) hD,?_⟩
    rw[au hcj,KS]
    have nT:∀{a xs},H5 a=some (.tup xs)->(upd H5 D (.lst (rs.map V.ref++[V.ref u]))) a=some (.tup xs):=λ{a xs} e=>by rw[ah (aQ e hys5 (λz=>nomatch z))];exact e
    exact L1 (Paired.cH hrs λ_ _ e=>nT (s5 _ _ e)) (nT hu5)
   ·rintro ys H4 ⟨rs,rfl,hys,s4,hrs⟩
    rw[Kw,<-lch,Le]at hrs
    exact kk _ D rs (s3.trans s4) (s3.free hD) hys hrs
abbrev xr:Stmt:=top 36
structure CB(f:WF)(ms:List Mv)(S:List Str):Prop where
 gd:Good f
 gp:eY f.W
 pk:f.W.pl.map (·.1)=cL ms S
 n68:f.W.sp.length<=68
 oc:f.oc.length<=200
def F2{f:WF}{ms:List Mv}{S:List Str}{m:Mv}(so:Sound ms S)(g:CB f ms S)(hm:m∈ms){c:Ch}(h:vD f (aI m.2.1) c)(new:(m.1,bZ c.1)∉f.oc):vC f ms S m (bZ c.1):=by
 obtain⟨t1,t2,t3,t4,t5⟩:=eE (so.mv m hm)
 have lc:c.1.length=m.2.1.length:=by
  have:=LZ List.length h.nm
  rw[Kw,bW]at this
  exact this
 have n68:=g.n68
 have pk:=g.pk
 have mem:∀{t},t∈bZ c.1->t∈c.1:=λ{t} ht=>Am.mp ht
 have lT:(bZ c.1).length=c.1.length:=jS _
 refine⟨hm,⟨λt ht=>h.lt t (mem ht),λz=>?_,λa ha b hb n=>h.side a (mem ha) b (mem hb) n,by rw[bW];lia⟩,by lia,(cT c.1).nodup_iff.mpr h.nd,?_,new,g.oc,by rw[pk];exact qC ms S,?_,λy hy=>by rw[pk];exact jG.mpr (.inr ⟨m,hm,.inr hy⟩)⟩
 ·rw[z]at lT
  simp at lT
  lia
 ·rw[fm ((cT c.1).map (ot f)),h.nm,CI]
 ·have:=LZ List.length pk
  rw[Kw]at this
  rw[this]
  exact so.pl
def Gy{f:WF}{ms:List Mv}{S:List Str}{m:Mv}(so:Sound ms S)(g:CB f ms S)(hm:m∈ms):IK f ms m:=by
 obtain⟨t1,t2,t3,t4,t5⟩:=eE (so.mv m hm)
 exact⟨g.gd,g.gp,g.n68,hm,cV t1,t4,λy hy=>by rw[g.pk];exact jG.mpr (.inr ⟨m,hm,.inl hy⟩)⟩
def named{ms:List Mv}{z:Str}(h:z∈names ms):∃m∈ms,m.1=z:=by
 obtain⟨m,hm,e⟩:=K0.mp h
 exact⟨m,hm,e⟩
def Bv(P:Program)(w:World)(C CW:Addr):Sp:=λvs H Q _=>∃(x:Addr) (B:WA) (ms:List Mv) (S:List Str) (f:WF),vs=[.ref x]/\c7 P w C CW H x B ms S f/\CB f ms S /\
 ∀(H':Hp) (r:Addr) (qs:List Addr),aq H H'->H r=none->H' r=some (.lst (qs.map V.ref))->(∀q∈qs,∃m T,jL H' (m.1,T) q/\vC f ms S m T/\bZ T=T)->Q (.ref r) H'
def m9:aD ["web", "every_spot", "found", "move", "spots"] ["web"] (ar xr):=eA
def Fd(f:WF)(ms:List Mv)(S:List Str)(H:Hp)(q:Addr):Prop:=∃m T,jL H (m.1,T) q/\vC f ms S m T/\bZ T=T
def Fd.put{f:WF}{ms:List Mv}{S:List Str}{H H':Hp}{q:Addr}(h:Fd f ms S H q)(s:∀a xs,H a=some (.tup xs)->H' a=some (.tup xs)):Fd f ms S H' q:=let ⟨m,T,a,b⟩:=h;⟨m,T,a.same s,b⟩
inductive CgI(H Hb:Hp)(x fo:Addr)(f:WF)(ms:List Mv)(S:List Str)(i:Nat)(σ:St)(H2:Hp):Prop
 |mk (v3 v4:Option V) (rs:List Addr) (q0:σ=[some (.ref x),some (nat (2 ^ f.W.sp.length-1)),some (.ref fo),v3,v4]) (q1:∀c o,Hb c=some o->c≠fo->H2 c=some o) (q2:H2 fo=some (.lst (rs.map V.ref))) (q3:∀q∈rs,Fd f ms S H2 q) (q4:rs.length<=i*1336336)
inductive CgJ(Hb:Hp)(x fo:Addr)(f:WF)(ms:List Mv)(S:List Str)(n:Nat)(v3:Option V)(j:Nat)(σ:St)(H2:Hp):Prop
 |mk (v4:Option V) (rs:List Addr) (q0:σ=[some (.ref x),some (nat (2 ^ f.W.sp.length-1)),some (.ref fo),v3,v4]) (q1:∀c o,Hb c=some o->c≠fo->H2 c=some o) (q2:H2 fo=some (.lst (rs.map V.ref))) (q3:∀q∈rs,Fd f ms S H2 q) (q4:rs.length<=n+j)
def Cv{f C CW:Addr}{fd:FuncData}(F:dj K "comings" "comings" xr f fd)(T0:Txt K mg)(NC:gO K C)(CT:gX K CW)
  (DB:gI P w K mg base "bit" xW ["number"] 1 xy)
  (DS:jE P w K mg base CW "spots" "Web.spots" yy ["self"] 1 (mJ P w C CW WA.aS))
  (DN:jE P w K mg base CW "net" "Web.net" sC ["self"] 1 (vh P w C CW))
  (DG:jE P w K mg base C "moves" "Net.moves" o7 ["self"] 1 (pL C))
  (DF:gI P w K mg base "fitting_spots" DI ["web", "move", "among"] 4 (Ep P w C CW)) :
  a9 P w K mg base cR 5 f fd ["web"] (Bv P w C CW):=by
 refine F.oK m9 λcdv A outer s H vs Q E hr h=>?_
 ·obtain⟨x,B,ms,S,f,rfl,W,g,kk⟩:=h
  have hsl:=Lg
  have hr1:cI 1 _:=hr.mono (by decide)
  refine⟨_,af (cD 1 m9 (az nK (e7 DB hr1 (aa (ay aY rfl T0.len cx (aa (cE (pv 0) CT.cl DS.d.mt DS.g hr1 DS.d.bd .nil br) ae)) ae)) ak))
   (af (cD 2 m9 (eQ ae))
   (af (bo K7 rfl (aL (cE (cE (pv 0) CT.cl DN.d.mt DN.g hr1 DN.d.bd .nil br) NC.cl DG.d.mt DG.g hr1 DG.d.bd .nil br)) (eu 3 m9)
    (aj (bo K7 rfl (aL (e7 DF hr (aa (pv 0) (aa (pv 3) (aa (pv 1) ae))))) (eu 4 m9)
     (aj (bO (a8 AZ (gc (aa (pv 3) (aa (pv 4) ae))) (aZ (pv 0) rfl) (by with_unfolding_all rfl))
      (aj (bj (c8 Lf Lc Ld bf (pv 2) (aa (gc (aa (pv 3) (aa (pv 4) ae))) ae)))) aX)))))
   (aj (aK (ay vc rfl T0.aI cj (aa (pv 2) ae)))))),?_⟩
  try dsimp only[bK,Cx.dP,Cx.bQ]
  have so:=W.qT.so
  obtain⟨qs,i1,i2⟩:=W.ad.sp
  have ls:=KZ i2
  have n68:=g.n68
  refine⟨_,rfl,x,B.dx,_,rfl,W.ad.ins,cF B _ (by decide +kernel),x,B,ms,S,f,_,rfl,W,i1,λsl nsl=>?_⟩
  obtain⟨H1,eU,s1,hsl1⟩:=oh nsl (.lst (qs.map V.ref))
  rw[eU]
  refine⟨_,qs.length,rfl,.inl ⟨_,aA.of hsl1,by rw[Kw]⟩,qs.length,rfl,by lia,_,_,rfl,rfl,?_⟩
  rw[<-ls]
  have e0:V.int (((2 ^ f.W.sp.length:Nat):Int)-1)=nat (2 ^ f.W.sp.length-1):=by rw[Ic];rfl
  refine⟨K2 _,λfo nfo=>?_⟩
  have s2:aq H1 (upd H1 fo (.lst [])):=ao nfo
  have hfo:(upd H1 fo (.lst [])) fo=some (.lst (([]:List Addr).map V.ref)):=ag
  generalize upd H1 fo (.lst [])=H2 at s2 hfo ⊢
  have nfo0:H fo=none:=s1.free nfo
  have s02:=s1.trans s2
  have W2:=W.same s02
  have N2:=W2.qT
  obtain⟨dn,nP,nS,nT',nG,kT,kG,nn1,_⟩:=N2.at'.ob
  refine⟨_,rfl,x,B.dx,_,rfl,W2.ad.ins,cF B _ (by decide +kernel),x,B,ms,S,f,rfl,W2,B.p,dn,_,rfl,nn1,c6 _ _ _ _ AL AG AR Ab,B.p,ms,S,rfl,N2,λH3 ml s3 nml hml=>?_⟩
  have hfo3:=s3 _ _ hfo
  have nmf:ml≠fo:=(ai hfo nml).symm
  have s03:=s02.trans s3
  refine⟨ml,rfl,⟨_,aA.of hml⟩,bq (K:=K) (a:=ml) (xs:=aH (aI (names ms))) (CgI H H3 x fo f ms S) ⟨none,none,[],?_,λ_ _ e _=>e,hfo3,λq hq=>(by simp at hq),by simp⟩ (λi σ H4 _ h=>by obtain⟨_,_,_,_,b,_⟩:=h;exact aA.of (b _ _ hml nmf)) ?_ ?_⟩
  ·show _=[_,some (nat (2 ^ f.W.sp.length-1)),_,_,_]
   rw[<-e0]
   rfl
  ·rintro i v σ H4 hi ⟨v3,v4,rs,rfl,b4,hfo4,hfd,lr⟩
   obtain⟨z,hz,rfl⟩:=dy hi
   obtain⟨m,hm,rfl⟩:=named (bJ.mp (KJ hz))
   have fc:=Gy so g hm
   have okc:=lO g.gd g.gp (xs:=aI m.2.1) λy hy=>fc.tp y (bJ.mp hy)
   have jk:=qz g.gp n68 (iK.mpr fc.tn) (by rw[bW];exact fc.t4) λy hy=>fc.tp y (bJ.mp hy)
   have s04:aq H H4:=λc o e=>b4 _ _ (s03 _ _ e) (ai e nfo0)
   have W4:=W.same s04
   refine⟨_,rfl,_,rfl,_,rfl,x,B,ms,S,f,m,rfl,W4,fc,λH5 r us s5 nr hr5 hus=>?_⟩
   have nrf:r≠fo:=(ai hfo4 nr).symm
   have il:i<12:=by
    have:=(KQ.mp hz).1
    rw[bW]at this
    have:=so.ml
    unfold names at *
    rw[Kw] at *
    lia
   have lus:=KZ hus
   rw[Kw]at lus
   refine⟨r,rfl,⟨_,aA.of hr5⟩,bq (K:=K) (a:=r) (xs:=us.map V.ref) (CgJ H5 x fo f ms S rs.length _) ⟨_,rs,rfl,λ_ _ e _=>e,s5 _ _ hfo4,λq hq=>(hfd q hq).put λ_ _ e=>s5 _ _ e,by lia⟩ (λj σ H6 _ h=>by obtain⟨_,_,_,b,_⟩:=h;exact aA.of (b _ _ hr5 nrf)) ?_ ?_⟩
   ·rintro j v σ H6 hj ⟨v4,rs,rfl,b6,hfo6,hfd6,lr6⟩
    obtain⟨u,huj,rfl⟩:=fV hj
    have jl:=(KQ.mp huj).1
    obtain⟨T,hT,hu⟩:=bE hus huj
    rw[KH]at hT
    obtain⟨c,hc,rfl⟩:=LW.mp hT
    have okc:=okc c (KJ hc)
    have hu6:=b6 _ _ hu (aQ hu (s5 _ _ hfo4) (λz=>nomatch z))
    have s06:aq H H6:=λa o e=>b6 _ _ (s5 _ _ (s04 _ _ e)) (ai e nfo0)
    refine⟨_,rfl,_,rfl,by show 2<=sizeLine;lia,λt nt=>?_⟩
    obtain⟨H7,eU,s7,ht7⟩:=oh nt (.tup [.str m.1,.ref u])
    rw[eU]
    have W7:=W.same (s06.trans s7)
    obtain⟨qo,o1,o2,o3⟩:=W7.oc
    have lo:=KZ o2
    have zk:(f.oc.zip qo).map (·.1)=f.oc:=Pz (by lia)
    refine⟨_,rfl,x,CW,B.dx,_,_,rfl,W7.ad.ins,CT.cl,CT.nH,B.fH,t,B.aN,(m.1,bZ c.1),f.oc.zip qo,rfl,rfl,lV hr,⟨u,ht7,s7 _ _ hu6⟩,o3,λz hz=>gM o2 hz,_,rfl,?_⟩
    rw[zk]
    have b7:∀c o,H5 c=some o->c≠fo->H7 c=some o:=λc o e n=>s7 _ _ (b6 c o e n)
    by_cases hin:(m.1,bZ c.1)∈f.oc
    ·rw[KC hin]
     exact bF ⟨_,rs,rfl,b7,s7 _ _ hfo6,λq hq=>(hfd6 q hq).put λ_ _ e=>s7 _ _ e,by lia⟩
    ·rw[KU hin]
     refine cv ?_
     have hfo7:=s7 _ _ hfo6
     refine⟨_,rfl,.inl ⟨rfl,_,aA.of hfo7⟩,_,rfl,_,rfl,by show 2<=sizeLine;lia,λt2 nt2=>?_⟩
     obtain⟨H8,eU,s8,ht8⟩:=oh nt2 (.tup [.str m.1,.ref u])
     rw[eU]
     have hfo8:=s8 _ _ hfo7
     have lb:rs.length<16777216:=by
      have:i*1336336<=11*1336336:=Nh _ (by lia)
      lia
     refine⟨fo,_,_,rfl,rfl,hfo8,by rw[Kw];lia,?_⟩
     have nT:∀a xs,H8 a=some (.tup xs)->(upd H8 fo (.lst (rs.map V.ref++[V.ref t2]))) a=some (.tup xs):=λa xs e=>by rw[ah (aQ e hfo8 (λz=>nomatch z))];exact e
     refine⟨_,rs++[t2],rfl,λa o e n=>by rw[ah n];exact s8 _ _ (b7 a o e n),by rw[ag,KS];rfl,λq hq=>?_,by rw[KA];show rs.length+1<=_;lia⟩
     rcases KW.mp hq with z|z
     ·exact((hfd6 q z).put λ_ _ e=>s8 _ _ (s7 _ _ e)).put nT
     ·have z:q=t2:=by simpa using z
      rw[z]
      exact⟨m,bZ c.1,⟨u,nT _ _ ht8,nT _ _ (s8 _ _ (s7 _ _ hu6))⟩,F2 so g hm okc hin,lY (cT c.1)⟩
   ·rintro σ H6 ⟨v4,rs',rfl,b6,hfo6,hfd6,lr6⟩
    refine⟨_,_,rs',rfl,λc o e n=>b6 _ _ (s5 _ _ (b4 c o e n)) n,hfo6,hfd6,?_⟩
    rw[Kw]at lr6
    rw[Nat.succ_mul]
    lia
  ·rintro σ H4 ⟨v3,v4,rs,rfl,b4,hfo4,hfd,lr⟩
   have s04:aq H H4:=λc o e=>b4 _ _ (s03 _ _ e) (ai e nfo0)
   refine⟨_,rfl,fo,rs,rfl,aA.of hfo4,lV hr,λq hq=>?_,λp qs' np hq' _=>?_⟩
   ·obtain⟨m,T,⟨t,a,b⟩,_⟩:=hfd q hq
    exact⟨_,t,T,a,b⟩
   ·have s5:aq H4 (upd H4 p (.lst (qs'.map V.ref))):=ao np
    exact kk _ p qs' (s04.trans s5) (s04.free np) ag λq hq=>(hfd q (hq' q hq)).put λ_ _ e=>s5 _ _ e
end Uf
end
section
set_option maxHeartbeats 400000
namespace Uf
open PySem L2 UfB UfM UfSrt
def dX(pl:List (Str×Nat))(xs:List Str):WF:=⟨(bu none (⟨[],[],[],pl⟩,0) xs).1,[],[]⟩
def jX(pl:List (Str×Nat)){xs:List Str}(h:xs.length<=250):Gn none (⟨[],[],[],pl⟩,0) (bu none (⟨[],[],[],pl⟩,0) xs) xs 0 :=
 II (n:=0) rfl rfl (show 0<2 ^ 0 by decide) _ xs rfl (by lia)
def rep0(n a:Nat):(List.replicate n 0).getD a 0=0:=by
 rw[KN,Nn]
 split <;> rfl
def uZ(pl:List (Str×Nat)){xs:List Str}(h:xs.length<=250):Good (dX pl xs):=by
 have A:=jX pl h
 have hsp:(dX pl xs).W.sp=xs.map (λx=>(x,none)):=by
  have:=A.sp
  rw[M9]at this
  exact this
 have htk:(dX pl xs).W.tk=List.replicate xs.length 0:=by
  have:=A.tk
  rw[M9]at this
  exact this
 have lsp:(dX pl xs).W.sp.length=xs.length:=by rw[hsp,Kw]
 have lbe:(dX pl xs).W.be.length=xs.length:=by
  have:=A.bl
  rwa[OJ]at this
 have ntk:∀s o,¬((dX pl xs).W.tk.getD s 0).testBit o=true:=λs o z=>by
  rw[htk,rep0,PB]at z
  cases z
 have ngv:∀s g,¬bR (dX pl xs).W.sp s=some g:=λs g z=>by
  rw[hsp]at z
  unfold bR at z
  rw[KH]at z
  cases e:xs[s]? with
  |none=>rw[e]at z;cases z
  |some x=>rw[e]at z;cases z
 have nfk:∀Pr,¬(wb (dX pl xs)).forked Pr:=λPr ⟨o1,_,u,_,_,_,t1,_⟩=>ntk u o1 t1
 have bits:∀i k,i<xs.length->((dX pl xs).W.be.getD i 0).testBit k=(decide (k<xs.length)&&decide (k≠i)):=λi k hi=>by
  have:=A.new i k hi
  rw[OJ,OJ]at this
  show((bu none (⟨[],[],[],pl⟩,0) xs).1.be.getD i 0).testBit k=_
  rw[this]
  simp
 refine⟨by rw[lsp,htk,MH],by rw[lbe,lsp],rfl,by rw[lsp];exact h,λs g z=>absurd z (ngv s g),λo j z=>?_,λs o z=>absurd z (ntk s o),λs o z=>absurd z (ntk s o),λs=>nfk _,λa k z=>?_,λa b ha hb=>?_⟩
 ·have z:(([]:List Nat).getD o 0).testBit j=true:=z
  rw[gx (K2 _),PB]at z
  cases z
 ·rw[lsp]
  by_cases ha:a<xs.length
  ·rw[bits a k ha,Md,Lp]at z
   exact z.1
  ·rw[gx (by rw[lbe];lia),PB]at z
   cases z
 ·rw[lsp]at ha hb
  rw[bits a b ha,KC hb,Nb,Lp]
  exact⟨λz=>⟨z.symm,λo t=>absurd t (ntk a o),λo t=>absurd t (ntk b o),nfk _⟩,λz=>z.1.symm⟩
end Uf
end
section
namespace Uf
open PySem L2 UfB UfSrt UfTs
theorem vp{g:Option Nat}:∀(xs:List Str) (p:nX×Nat),(bu g p xs).1.pl.map (·.1)=p.1.pl.map (·.1)
 |[],_=>rfl
 |x::xs,p=>(vp xs (gj g p x)).trans (ke _ _ _)
structure gB(f:WF)(ms:List Mv)(S:List Str)(k:Nat):Prop where
 gd:Good f
 gp:eY f.W
 pk:f.W.pl.map (·.1)=cL ms S
 sl:f.W.sp.length<=12+4*k
 oc:f.oc.length<=k
 ol:∀p∈f.oc,p.2.length<=4/\∀s∈p.2,s<f.W.sp.length
def gB.g{f:WF}{ms:List Mv}{S:List Str}{k:Nat}(h:gB f ms S k)(hk:k<=14):CB f ms S:=⟨h.gd,h.gp,h.pk,by have:=h.sl;lia,by have:=h.oc;lia⟩
def gB.le{f:WF}{ms:List Mv}{S:List Str}{k j:Nat}(h:gB f ms S k)(hk:k<=j):gB f ms S j:=⟨h.gd,h.gp,h.pk,by have:=h.sl;lia,by have:=h.oc;lia,h.ol⟩
def uS{ms:List Mv}{S:List Str}(so:Sound ms S):gB (dX (W0 ms S).pl (aI S)) ms S 0:=by
 have sl:=so.Jl
 have l:(aI S).length<=250:=by rw[bW];lia
 refine⟨uZ _ l,kh _ _ λp hp s=>?_,(vp _ _).trans ?_,?_,K2 _,λp hp=>(by cases hp)⟩
 ·obtain⟨x,hx,rfl⟩:=K0.mp (show p∈(cL ms S).map λx=>(x,0) from hp)
  show(0:Nat).testBit s=true↔(([]:List (Str×Option Nat))[s]?).map (·.1)=some x
  simp
 ·show((cL ms S).map λx=>(x,0)).map (·.1)=_
  rw[Lk]
  exact Qd _
 ·have:=(jX (W0 ms S).pl l).sp
  show(bu _ _ _).1.sp.length<=_
  rw[this,KA,Kw,bW]
  show 0+S.length<=12+4*0
  lia
def yF{f:WF}{ms:List Mv}{S:List Str}{m:Mv}{T:List Nat}{k:Nat}(so:Sound ms S)(h:gB f ms S k)(c:vC f ms S m T):gB (dk f m.1 T (aI m.2.2)) ms S (k+1):=by
 obtain⟨_,_,_,_,g4⟩:=eE (so.mv m c.mm)
 have sl:=h.sl
 have oc:=h.oc
 refine⟨yj h.gd c.may,uo h.gp,(vp _ _).trans h.pk,?_,?_,λp hp=>?_⟩
 ·have:=(gy h.gd c.may).sp
  show(bu _ _ _).1.sp.length<=_
  rw[this,KA,Kw,bW]
  show f.W.sp.length+_<=_
  lia
 ·show(f.oc++[_]).length<=_
  rw[KA]
  show f.oc.length+1<=_
  lia
 ·have:=(gy h.gd c.may).sp
  have l:f.W.sp.length<=(dk f m.1 T (aI m.2.2)).W.sp.length:=by
   show _<=(bu _ _ _).1.sp.length
   rw[this,KA]
   exact ME _ _
  rcases KW.mp (show p∈f.oc++[(m.1,T)] from hp) with z|z
  ·exact⟨(h.ol p z).1,λs hs=>K4 ((h.ol p z).2 s hs) l⟩
  ·have z:p=(m.1,T):=by simpa using z
   subst z
   exact⟨c.l4,λs hs=>K4 (c.may.lt s hs) l⟩
end Uf
end
section
namespace L2
open PySem PySem.Spec PyProof.Rows
def CL(a d:Value):argsOk "max" ⟨[a],[(Str.ofString "default",d)]⟩:=by unfold argsOk;kernel_rfl
section
variable {prog:Program}{w:World}{A:Around}{R:Result->Shared->Prop}{I S:Addr}{fp wr:List Addr}{n:Nat}{P:Nat->Value->Prop}{St:Nat->Heap->Prop}{num:Nat->Int}{kw:List (Str×Value)}
def BV(W:Walks prog w A.in1 I fp wr n P St)(hP:∀i v,P i v->∃t,v=.int (num i) t)(hSf:S∉fp) :
  ∀(k j:Nat) (s:Shared) (b:Nat) (vb:Value) (c:Nat),n-j=k->j<=n->b<n->St j s.heap->P b vb->(∀i,i<j->num i<=num b) ->
  s.heap.get? S=some { cls:=.type "list",dict:=none,data:=.seq #[vb,vb] c,slots:=#[] } ->
  (∀b v h' tk,b<n->P b v->(∀i,i<n->num i<=num b)->(∀a o,a∉wr->a≠S->s.heap.get? a=some o->h'.get? a=some o)->R (.ok (.ret v)) { s with heap:=h',toks:=tk }) ->
  codeAny (model prog w) A (.builtin "max.loop" ⟨[.ref I,.none,.ref S],kw⟩) R s:=by
 have hcmp:CmpOf prog w A.in1 .Gt P (λi j=>decide (num i > num j)):=CmpOf.ints_gt num hP
 have hSw:S∉wr:=λh=>hSf (W.sub _ h)
 have hname:(toString "max"++toString ".loop":String)="max.loop":=by decide
 intro k
 induction k with
 |zero =>
  intro j s b vb c hk hj hb hst hPb hm hS hR
  obtain rfl:j=n:=by lia
  refine L4 PF ?_
  rw[LQ MW _]
  show wpAny _ A.in1 (seqItems? (.ref S) >>= _) _ _ s
  refine Kv (Ni hS rfl ?_)
  show wpAny _ A.in1 (tryCatch (pyNext (.ref I)) _ >>= _) _ _ s
  refine Kv (NK (W.done s _ _ hst λh' tk hk'=>?_))
  show wpAny _ A.in1 (updateSeq S (λ_=>#[]) >>= _) _ _ _
  exact Kv (NV (hk' S _ hSw hS) rfl (Kv (Qe (Kz (hR b vb _ tk hb hPb hm λa o haw haS e=>(LJ _ _ (Li haS)).trans (hk' a o haw e))))))
 |succ k ih =>
  intro j s b vb c hk hj hb hst hPb hm hS hR
  have hlt:j<n:=by lia
  refine L4 PF ?_
  rw[LQ MW _]
  show wpAny _ A.in1 (seqItems? (.ref S) >>= _) _ _ s
  refine Kv (Ni hS rfl ?_)
  show wpAny _ A.in1 (tryCatch (pyNext (.ref I)) _ >>= _) _ _ s
  refine Kv (NK (W.item j s _ _ hlt hst λv h' tk hv hst' hk'=>?_))
  have hS':=hk' S _ hSw hS
  show wpAny _ A.in1 (tryCatch (holding [v,v] (richCompare .Gt v vb >>= _)) _ >>= _) _ _ _
  refine Kv (NK (LY (Kv (hcmp j b v vb _ _ _ hv hPb ?_))))
  refine Kv (LY (LU ?_))
  refine Kv (Qe (Kz ?_))
  by_cases hg:num j > num b
  ·rw[KP (KC hg)]
   refine Kv (NV hS' rfl (Kv (Qe ?_)))
   rw[hname]
   refine Kz ⟨Mf MW _,ih (j+1) _ j v _ (by lia) hlt hlt (W.frame _ _ _ hst' λa haf o e=>?_) hv (λi hij=>?_) (L8 _ hS' rfl)
    λb' v' h'' tk'' hb' hP' hm' hk''=>hR b' v' h'' tk'' hb' hP' hm' λa o haw haS e=>hk'' a o haw haS ((LJ _ _ (Li haS)).trans (hk' a o haw e))⟩
   ·exact(LJ _ _ (λh:S=a=>hSf (by rw[h];exact haf))).trans e
   ·rcases PH.mp hij with z|rfl
    ·have:=hm i z;lia
    ·exact Int.le_refl _
  ·rw[KD (λz=>hg (Ln z))]
   refine Kv (Qe ?_)
   rw[hname]
   refine Kz ⟨Mf MW _,ih (j+1) _ b vb c (by lia) hlt hb hst' hPb (λi hij=>?_) hS' λb' v' h'' tk'' hb' hP' hm' hk''=>hR b' v' h'' tk'' hb' hP' hm' λa o haw haS e=>hk'' a o haw haS (hk' a o haw e)⟩
   rcases PH.mp hij with z|rfl
   ·exact hm i z
   ·lia
end
def Cq{l:Addr}{xs:Array (Int×Tok)}{d:Value}{Q:Value->Shared->Prop}(hh:A.handled=none)(hl:s.heap.IsList l (intItems xs))
  (h0:xs.size=0->∀h' tk,(∀b o,s.heap.get? b=some o->h'.get? b=some o)->Q d { s with heap:=h',toks:=tk })
  (h1:∀b t h' tk,b<xs.size->(∀i,i<xs.size->numAt xs i<=numAt xs b)->(∀b o,s.heap.get? b=some o->h'.get? b=some o)->Q (.int (numAt xs b) t) { s with heap:=h',toks:=tk }) :
  wpAny (model prog w) A (call (.builtin "max") [.ref l] [(Str.ofString "default",d)]) Q E s:=by
 have hname:(toString "max"++toString ".loop":String)="max.loop":=by decide
 refine kmk_tree PySem.F.kind_max PySem.F.plain_max PySem.F.entry_max (CL _ _) ?_
 show wpAny _ A.in1 (Builtin.Builtins.bindParams "max" ["key", "default"] 0 ⟨[],[(Str.ofString "default",d)]⟩ >>= _) _ _ s
 refine Kv (wpAny_of_eq (show Builtin.Builtins.bindParams "max" ["key", "default"] 0 ⟨[],[(Str.ofString "default",d)]⟩=pure [none,some d] from rfl) ?_)
 refine Kv (Kz ?_)
 refine Kv (iter_intList hl λs₂ e st hfp hlI=>?_)
 subst e
 refine Kv (Mo ?_)
 rw[hname]
 have W:=Qp (prog:=prog) (w:=w) (A:=A.in1) hh _ l hlI (intItems xs)
 have hsz:(intItems xs).size=xs.size:=by simp[intItems]
 have hP:∀i v,(intItems xs)[i]?=some v->∃t,v=Value.int (numAt xs i) t:=λ_ _=>intItems_at
 have hSf:(s.heap.push { cls:=.type "list_iterator",data:=.fields #[.ref l,.int 0 0] }).objs.size∉[s.heap.objs.size,l]:=λhm=>LA _ (hfp _ hm)
 have hst:=W.frame 0 _ _ st λb _ o e=>Ky { cls:=.type "list",data:=.seq #[] } e
 have kp:∀{h':Heap},(∀a o,a∉[s.heap.objs.size]->a≠(s.heap.push { cls:=.type "list_iterator",data:=.fields #[.ref l,.int 0 0] }).objs.size->((s.heap.push { cls:=.type "list_iterator",data:=.fields #[.ref l,.int 0 0] }).push { cls:=.type "list",data:=.seq #[] }).get? a=some o->h'.get? a=some o)->∀a o,s.heap.get? a=some o->h'.get? a=some o :=
  λhk=>old_kept λa o ha e=>hk a o ha (K5 (KO e)) (Ky _ e)
 refine Kz ⟨Mf MW _,?_⟩
 refine L4 PF ?_
 rw[LQ MW _]
 show wpAny _ A.in1 (seqItems? (.ref _) >>= _) _ _ _
 refine Kv (Ni (KY _ rfl) rfl ?_)
 show wpAny _ A.in1 (tryCatch (pyNext (.ref s.heap.objs.size)) _ >>= _) _ _ _
 by_cases hz:xs.size=0
 ·refine Kv (NK (W.done _ _ _ (by rw[hsz,hz];exact hst) λh' tk hk'=>?_))
  exact Kv (Mu (Kz (h0 hz h' tk (kp λa o ha _ e=>hk' a o ha e))))
 ·refine Kv (NK (W.item 0 _ _ _ (by rw[hsz];lia) hst λv h' tk hv hst' hk'=>?_))
  have hS':=hk' _ _ (λhm=>hSf (W.sub _ hm)) (KY _ rfl)
  show wpAny _ A.in1 (updateSeq _ (λ_=>#[v,v]) >>= _) _ _ _
  refine Kv (NV hS' rfl ?_)
  rw[hname]
  refine Kz ⟨Mf MW _,BV W hP hSf _ 1 _ 0 v _ rfl (by rw[hsz];lia) (by rw[hsz];lia) (W.frame _ _ _ hst' λa haf o e=>?_) hv (λi hi=>Int.le_of_eq (by rw[show i=0 by lia])) (L8 _ hS' rfl) λb v' h'' tk'' hb hv' hm hk''=>?_⟩
  ·exact(LJ _ _ (λh:_=a=>hSf (by rw[h];exact haf))).trans e
  ·obtain⟨t,rfl⟩:=hP _ _ hv'
   rw[hsz]at hb hm
   exact h1 b t h'' tk'' hb hm (kp λa o ha haS e=>hk'' a o ha haS ((LJ _ _ (Li haS)).trans (hk' a o ha e)))
def MxD(d:Int)(ns:List Int)(M:Int):Prop:=(ns=[]/\M=d)\/(M∈ns/\∀a∈ns,a<=M)
section
variable {X:Cx}{e d:Expr}{x:Str}{p pos kpos:Pos}{ta tk:TA}
def Kd(K:PySem.W.Frag)(ta tk:TA):TE:=λσ H Q=>ta σ H λvs H1=>tk σ H1 λzs H2=>∃l ns D,vs=[.ref l]/\zs=[.int D]/\aA K H2 l (ns.map V.int)/\∀M,MxD D ns M->Q (.int M) H2
def we(hc:X.calm=true)(hg:Gl X "max")(hm:X.mg "max"=none)(ha:PA X [e] ta)(hkw:PK X [⟨some "default",d,kpos⟩] tk)(he:backTo pos (starEach [e] X.env)=(false,eval e X.env)::backTo pos (starEach [] X.env):=by rfl)(hpl:(backTo pos (starEach [e] X.env)).any (·.1)=false:=by rfl) :
  PE X (.Call (.Name "max" p) [e] [⟨some "default",d,kpos⟩] pos) (Kd X.K ta tk):=by
 intro pins s σ H Q I h
 refine MG (iA I hg hm boot_max ?_ (by decide) (by decide))
 refine callWith_kw (cc (ha pos pins s σ H _ I h) λus s1 ⟨vs,H1,I1,r,q⟩=>cc (hkw pos pins s1 σ H1 _ I1 q) λws s2 ⟨zs,H2,I2,rz,l,ns,D,ev,ez,hl,q2⟩=>?_) he hpl
 subst ev ez
 obtain⟨u,rfl,rx⟩:=vals1 r
 cases rx
 obtain⟨u,rfl,t,rfl⟩:=vals1 rz
 obtain⟨its,r',pl,hz⟩:=I2.list hl
 have hi:=intsAre_of r'
 obtain⟨xs,ex⟩:=hi.allInts.items
 have hns:ns=xs.toList.map (·.1):=by rw[<-hi.numsOf,<-nums_intItems,<-ex]
 have hll:ns.length=xs.size:=by rw[hns,Kw,L7]
 have hil:=pl.isList
 rw[ex]at hil
 refine Cq (s:=s2) (I2.ok.hd hc) hil (λz h' tk kp=>⟨.int D,_,I2.kept (t':=tk) kp,⟨t,rfl⟩,q2 D (.inl ⟨PR.mp (by lia),rfl⟩)⟩) λb t h' tk hb hmx kp=>⟨.int (numAt xs b),_,I2.kept (t':=tk) kp,⟨t,rfl⟩,q2 _ (.inr ⟨?_,λa ha=>?_⟩)⟩
 ·rw[hns,numAt_eq]
  exact getD_mem (by rw[<-hns];lia)
 ·rw[hns]at ha
  obtain⟨j,hj,rfl⟩:=mem_getD ha
  rw[<-hns]at hj
  rw[<-numAt_eq]
  exact hmx j (by lia)
end
end L2
end
section
namespace Uf
open PySem L2 UfB UfTs
def my:List Nat->Nat
 |[]=>0
 |x::xs=>max x (my xs)
theorem qD:∀{xs:List Nat} {n:Nat},n∈xs->n<=my xs
 |x::xs,n,h=>by
  rcases KR.mp h with rfl|h
  ·exact Nat.le_max_left _ _
  ·exact Lh (qD h) (Nat.le_max_right _ _)
theorem uV:∀{xs:List Nat},my xs≠0->my xs∈xs
 |[],h=>absurd rfl h
 |x::xs,h=>by
  show max x (my xs)∈_
  rcases QB x (my xs) with z|z
  ·rw[Nat.max_eq_right z]
   have:my xs≠0:=λe=>h (by show max x (my xs)=0;lia)
   exact K6 _ (uV this)
  ·rw[Nat.max_eq_left z]
   exact K9
theorem xk:∀(xs ys:List Nat),my (xs++ys)=max (my xs) (my ys)
 |[],ys=>(Nat.max_eq_right (K2 _)).symm
 |x::xs,ys=>by
  show max x (my (xs++ys))=max (max x (my xs)) (my ys)
  rw[xk xs ys,Nat.max_assoc]
def mx0{xs:List Nat}{M:Int}(h:MxD 0 (xs.map λx=>(((x:Nat):Int)+1)) M):M=(my (xs.map (· + 1)):Nat):=by
 rcases h with⟨e,rfl⟩|⟨h1,h2⟩
 ·rw[List.map_eq_nil_iff.mp e]
  rfl
 ·obtain⟨x,hx,rfl⟩:=K0.mp h1
  have a:=qD (K0.mpr ⟨x,hx,rfl⟩:x+1∈xs.map (· + 1))
  obtain⟨y,hy,e⟩:=K0.mp (uV (xs:=xs.map (· + 1)) (by lia))
  have b:=h2 _ (K0.mpr ⟨y,hy,rfl⟩)
  lia
def kQ(f:WF)(o:Nat):List Nat:=(f.oc.getD o ("",[])).2
def mC(f:WF)(o:Nat):List Nat:=(kQ f o).filterMap (bR f.W.sp)
def lv(f:WF)(o:Nat):Nat:=my ((mC f o).attach.map λg=>if h:g.1<o then lv f g.1+1 else 0)
termination_by o
decreasing_by exact h
def Hn{f:WF}{o:Nat}(h:∀g∈mC f o,g<o):lv f o=my ((mC f o).map λg=>lv f g+1):=by
 rw[lv]
 congr 1
 have:((mC f o).attach.map λg=>if h:g.1<o then lv f g.1+1 else 0)=(mC f o).attach.map ((λg=>lv f g+1) ∘ Subtype.val):=MT λg _=>dif_pos (h g.1 g.2)
 rw[this,<-Lk,List.attach_map_subtype_val]
structure rV(f:WF)(T:List Nat):Prop where
 inc:T.Pairwise (· < ·)
 lt:∀o∈T,o<f.oc.length
 cl:∀o∈T,∀g∈mC f o,g∈T/\g<o
def rV.eq{f:WF}{T:List Nat}(t:rV f T){o:Nat}(h:o∈T):lv f o=my ((mC f o).map λg=>lv f g+1):=Hn λg hg=>(t.cl o h g hg).2
def rV.nd{f:WF}{T:List Nat}(t:rV f T):T.Nodup:=t.inc.imp λh=>K5 h
def gq(f:WF)(T:List Nat):Nat:=my (T.map λo=>lv f o+1)
def lvl(f:WF)(T:List Nat)(d:Nat):List Nat:=T.filter λo=>lv f o==d
def gJ(f:WF)(T:List Nat):List (List Nat):=(List.range (gq f T)).map (lvl f T)
def pC{f:WF}{T:List Nat}{o:Nat}(h:o∈T):lv f o<gq f T:=qD (K0.mpr ⟨o,h,rfl⟩)
def En{f:WF}{T:List Nat}{o:Nat}(e:lv f o=my ((mC f o).map λg=>lv f g+1))(h:∀g∈mC f o,g∈T):lv f o<=gq f T:=by
 by_cases z:lv f o=0
 ·lia
 ·rw[e]at z
  obtain⟨g,hg,e2⟩:=K0.mp (uV z)
  have:=pC (f:=f) (h g hg)
  lia
theorem uF:∀{xs:List Nat} {n:Nat},(∀x∈xs,x<=n)->my xs<=n
 |[],_,_=>K2 _
 |x::xs,n,h=>Nat.max_le.mpr ⟨h x K9,uF λy hy=>h y (K6 _ hy)⟩
def Ds(f:WF)(o:Nat):lv f o<=o:=by
 induction o using Nat.strongRecOn with
 |ind o ih =>
  rw[lv]
  refine uF λx hx=>?_
  obtain⟨g,_,rfl⟩:=K0.mp hx
  split
  ·rename_i h
   have:=ih g.1 h
   lia
  ·exact K2 _
def qr{f:WF}{T:List Nat}{n:Nat}(h:∀o∈T,o<n):gq f T<=n:=uF λx hx=>by
 obtain⟨o,ho,rfl⟩:=K0.mp hx
 exact Lz (Ds f o) (h o ho)
def AQ(f:WF)(T:List Nat)(o:Nat):gq f (T++[o])=max (gq f T) (lv f o+1):=by
 unfold gq
 rw[KS,xk]
 show max _ (max (lv f o+1) 0)=_
 rw[Nat.max_eq_left (K2 _)]
def rN(f:WF)(T:List Nat)(o d:Nat):lvl f (T++[o]) d=if d=lv f o then lvl f T d++[o] else lvl f T d:=by
 unfold lvl
 rw[Mb]
 split
 ·rename_i h
  rw[List.filter_cons_of_pos (by simp[h])]
  rfl
 ·rename_i h
  rw[List.filter_cons_of_neg (by simpa using Li h)]
  simp
def hU(f:WF)(T:List Nat)(o:Nat):List (List Nat):=if lv f o=gq f T then gJ f T++[[]] else gJ f T
def eJ(f:WF)(T:List Nat):(gJ f T).length=gq f T:=by unfold gJ;rw[List.length_map,List.length_range]
def tO{f:WF}{T:List Nat}{o:Nat}(h:lv f o<=gq f T):hU f T o=(List.range (max (gq f T) (lv f o+1))).map (lvl f T):=by
 unfold hU
 split
 ·rename_i e
  have e0:lvl f T (gq f T)=[]:=L3.mpr λx hx=>by
   have:=pC (f:=f) hx
   simp
   lia
  rw[show max (gq f T) (lv f o+1)=gq f T+1 by lia,List.range_succ,KS]
  show _=_++[lvl f T (gq f T)]
  rw[e0]
  rfl
 ·rw[show max (gq f T) (lv f o+1)=gq f T by lia]
  rfl
def oQ{f:WF}{T:List Nat}{o:Nat}(h:lv f o<=gq f T):gJ f (T++[o])=(hU f T o).set (lv f o) (lvl f T (lv f o)++[o]):=by
 rw[tO h]
 unfold gJ
 rw[AQ]
 refine NB λi=>?_
 rw[List.getElem?_set,KH,KH,Kw,LV]
 by_cases z:lv f o=i
 ·subst z
  rw[KP rfl,KP (by lia),Mz (by lia)]
  show some (lvl f (T++[o]) _)=_
  rw[rN,KP rfl]
 ·rw[KD z]
  by_cases y:i<max (gq f T) (lv f o+1)
  ·rw[Mz y]
   show some (lvl f (T++[o]) _)=some _
   rw[rN,KD (Li z)]
  ·rw[Ll (by rw[LV];lia)]
   rfl
def rp{f:WF}{T:List Nat}{o:Nat}(h:lv f o<=gq f T):(hU f T o)[lv f o]?=some (lvl f T (lv f o)):=by
 rw[tO h,KH,Mz (by lia)]
 rfl
section
variable {f:WF}{T:List Nat}
def gW{d o:Nat}:o∈lvl f T d↔o∈T/\lv f o=d:=by
 unfold lvl
 rw[K1,ML]
def ye(t:rV f T):bZ (gJ f T).flatten=T:=by
 have p:T.Perm (gJ f T).flatten:=by
  refine(Ml t.nd ?_).mpr λo=>?_
  ·refine List.pairwise_flatten.mpr ⟨λl hl=>?_,?_⟩
   ·obtain⟨d,_,rfl⟩:=K0.mp hl
    exact t.nd.filter _
   ·refine Nf.mpr (Nl.imp λ{a b} n x hx y hy e=>n ?_)
    rw[<-(gW.mp hx).2,<-(gW.mp hy).2,e]
  ·constructor
   ·intro h
    exact List.mem_flatten.mpr ⟨_,K0.mpr ⟨lv f o,Ly.mpr (pC h),rfl⟩,gW.mpr ⟨h,rfl⟩⟩
   ·intro h
    obtain⟨l,hl,ho⟩:=List.mem_flatten.mp h
    obtain⟨d,_,rfl⟩:=K0.mp hl
    exact(gW.mp ho).1
 exact(xl (t.inc.imp λh=>OD h) p).symm
end
end Uf
end
section
namespace L2
open PySem PySem.Spec PyProof.Rows UfSrt
section
variable {X:Cx}{tg:Expr}
end
end L2
end
section
namespace L2
open PySem PySem.Spec PyProof.Rows UfSrt
theorem jW{α β:Type}{F:α->β->Prop}:∀{l:List α} {m:List β} {i:Nat} {a:α},Paired F l m->l[i]?=some a->∃b,m[i]?=some b/\F a b
 |_,_,_,_,.nil,e=>by simp at e
 |_,_,0,_,.cons r _,e=>by
  simp at e
  subst e
  exact⟨_,rfl,r⟩
 |_,_,i+1,_,.cons _ t,e=>by
  obtain⟨a,h1,h2⟩:=jW (i:=i) t (by simpa using e)
  exact⟨a,by simpa using h1,h2⟩
section
variable {X:Cx}{elts:List Expr}{x1:Nat}{tpos:Pos}
end
end L2
end
section
namespace Uf
open PySem L2 UfB UfSrt UfTs
abbrev Jh:Stmt:=top 2
def kN(g:Nat->V)(T:List Nat):List (Key×V):=T.map λo:Nat=>(Sum.inl (o:Int),g o)
theorem mG(g:Nat->V)(o:Nat):∀T:List Nat,dv (kN g T) (Sum.inl (o:Int):Key)=if o∈T then some (g o) else none
 |[]=>rfl
 |x::T=>by
  by_cases e:x=o
  ·subst e
   rw[KP K9]
   exact cJ rfl
  ·have:=mG g o T
   unfold kN at this ⊢
   rw[LK,cK (λz=>e (by injection z with z;lia)),this]
   simp[Li e]
def EY(g:Nat->V)(o:Nat)(T:List Nat):((kN g T).any λkv=>decide (kv.1=(Sum.inl (o:Int):Key)))=decide (o∈T):=by
 rw[gG,mG]
 by_cases h:o∈T
 ·rw[KP h,KC h];rfl
 ·rw[KD h,KU h];rfl
def qc(T:List Nat)(o:Nat):List Nat:=if o∈T then T else T++[o]
def m8{T:List Nat}{o x:Nat}:x∈qc T o↔x∈T\/x=o:=by
 unfold qc
 split
 ·rename_i h
  exact⟨.inl,λz=>z.elim id λe=>e ▸ h⟩
 ·simp
def vi(g:Nat->V)(o:Nat)(T:List Nat):putK (kN g T) (Sum.inl (o:Int):Key) (g o)=kN g (qc T o):=by
 unfold putK qc
 rw[EY]
 by_cases h:o∈T
 ·rw[KC h,KP rfl,KP h]
  unfold kN
  rw[Lk]
  refine MT λx hx=>?_
  show(if (Sum.inl (x:Int):Key)=Sum.inl (o:Int) then _ else _)=_
  split
  ·rename_i e
   have e:x=o:=by injection e with e;lia
   rw[e]
  ·rfl
 ·rw[KU h,KD (by decide),KD h]
  unfold kN
  rw[KS]
  rfl
def vJ(g:Nat->V)(T:List Nat):(kN g T).length=T.length:=Kw _
section
variable {P:Program}{w:World}{C CW x:Addr}{H:Hp}{B:WA}{ms:List Mv}{S:List Str}{f:WF}
def c7.FQ(W:c7 P w C CW H x B ms S f):∃qs:List Addr,H B.aO=some (.lst (qs.map V.ref))/\qs.length=f.oc.length/\∀o,o<f.oc.length->∃q t m,(qs.map V.ref)[o]?=some (V.ref q)/\H q=some (.tup [.str m,.ref t])/\H t=some (.tup (nats (kQ f o))):=by
 obtain⟨qs,h1,h2,_⟩:=W.oc
 have lq:=KZ h2
 refine⟨qs,h1,lq.symm,λo ho=>?_⟩
 have hq:qs[o]?=some (qs[o]'(by lia)):=Kx (by lia)
 obtain⟨p,hp,t,a,b⟩:=bE h2 hq
 refine⟨_,t,p.1,by rw[KH,hq];rfl,a,?_⟩
 have:kQ f o=p.2:=by unfold kQ;rw[List.getD_eq_getElem?_getD,hp];rfl
 rw[this]
 exact b
def c7.FW(W:c7 P w C CW H x B ms S f):∃qs:List Addr,H B.aS=some (.lst (qs.map V.ref))/\∀s,s<f.W.sp.length->∃q m,(qs.map V.ref)[s]?=some (V.ref q)/\H q=some (.tup [.str m,gv (bR f.W.sp s)]):=by
 obtain⟨qs,h1,h2⟩:=W.ad.sp
 have lq:=KZ h2
 refine⟨qs,h1,λo ho=>?_⟩
 have hq:qs[o]?=some (qs[o]'(by lia)):=Kx (by lia)
 obtain⟨p,hp,a⟩:=bE h2 hq
 refine⟨_,p.1,by rw[KH,hq];rfl,?_⟩
 have:bR f.W.sp o=p.2:=by unfold bR;rw[hp];rfl
 rw[this]
 exact a
end
def gB.tk{f:WF}{ms:List Mv}{S:List Str}{k o:Nat}(h:gB f ms S k)(ho:o<f.oc.length):(kQ f o).length<=4/\∀s∈kQ f o,s<f.W.sp.length:=by
 unfold kQ
 rw[KN,Kx ho]
 exact h.ol _ (Mr ho)
def jO{α β:Type}{F G:α->β->Prop}{xs:List α}{ys:List β}(h:Paired F xs ys):(∀a b,b∈ys->F a b->G a b)->Paired G xs ys:=by
 induction h with
 |nil=>exactλ_=>.nil
 |cons h _ ih=>exactλk=>.cons (k _ _ K9 h) (ih λa b hb e=>k a b (K6 _ hb) e)
abbrev BO(H:Hp):List (List Nat)->List Addr->Prop:=Paired λt a=>H a=some (.lst (nats t))
theorem BO.set{H:Hp}{tss:List (List Nat)}{as:List Addr}(h:BO H tss as)(nd:as.Nodup){i:Nat}{a:Addr}(ha:as[i]?=some a)(t:List Nat):BO (upd H a (.lst (nats t))) (tss.set i t) as:=by
 induction h generalizing i with
 |nil=>cases ha
 |@cons t0 a0 ts as h0 hr ih =>
  have nd':=LR.mp nd
  cases i with
  |zero =>
   cases ha
   refine .cons ag (jO hr λt b hb e=>?_)
   rw[ah (by rintro rfl;exact nd'.1 hb)]
   exact e
  |succ i =>
   have hm:a∈as:=KJ ha
   refine .cons ?_ (ih nd'.2 ha)
   rw[ah (by rintro rfl;exact nd'.1 hm)]
   exact h0
def Ib(P:Program)(w:World)(C CW:Addr):Sp:=λvs H Q _=>∃(x l:Addr) (B:WA) (ms:List Mv) (S:List Str) (f:WF) (T:List Nat),vs=[.ref x,.ref l]/\c7 P w C CW H x B ms S f/\gB f ms S 14/\H l=some (.lst (nats T))/\rV f T /\
 ∀(H':Hp) (r:Addr) (as:List Addr),aq H H'->H' r=some (.lst (as.map V.ref))->BO H' (gJ f T) as->as.Nodup->r∉as->(∀a∈r::as,H a=none)->Q (.ref r) H'
def tJ:aD ["web", "troop", "numbers", "found", "one", "givers", "number"] ["web", "troop"] (ar Jh):=eA
inductive LvI(H:Hp)(x l nd fo:Addr)(f:WF)(T:List Nat)(i:Nat)(σ:St)(H2:Hp):Prop
 |mk (v4 v5 v6:Option V) (as:List Addr) (q0:σ=[some (.ref x),some (.ref l),some (.ref nd),some (.ref fo),v4,v5,v6]) (q1:aq H H2) (q2:H2 nd=some (.dK (kN (λo=>nat (lv f o)) (T.take i)))) (q3:H2 fo=some (.lst (as.map V.ref))) (q4:BO H2 (gJ f (T.take i)) as) (q5:as.Nodup) (q6:fo∉as) (q7:∀a∈fo::as,H a=none)
theorem iM:∀{T:List Nat} {a n:Nat},T.Pairwise (· < ·)->(∀o∈T,a<=o/\o<n)->T.length<=n-a
 |[],_,_,_,_=>K2 _
 |x::T,a,n,h,k=>by
  have h':=O4.mp h
  have:=iM (a:=x+1) (n:=n) h'.2 λo ho=>⟨h'.1 o ho,(k o (K6 _ ho)).2⟩
  have:=k x K9
  rw[Lj]
  lia
def rB(T:List Nat)(k:Nat):nats (T++[k])=nats T++[nat k]:=KS
def wY{T:List Nat}{i o:Nat}(h:T.Pairwise (· < ·))(ho:T[i]?=some o):o∉T.take i:=λz=>by
 obtain⟨j,hj⟩:=MJ.mp z
 rw[List.getElem?_take]at hj
 split at hj
 ·obtain⟨h1,e1⟩:=KQ.mp hj
  obtain⟨h2,e2⟩:=KQ.mp ho
  have:=Ph.mp h j i h1 h2 (by assumption)
  lia
 ·cases hj
def sH{T:List Nat}{i o g:Nat}(h:T.Pairwise (· < ·))(ho:T[i]?=some o)(hg:g∈T)(hl:g<o):g∈T.take i:=by
 obtain⟨j,hj⟩:=MJ.mp hg
 obtain⟨h1,e1⟩:=KQ.mp hj
 obtain⟨h2,e2⟩:=KQ.mp ho
 have lt:j<i:=by
  rcases Nat.lt_trichotomy j i with z|z|z
  ·exact z
  ·subst z
   lia
  ·have:=Ph.mp h i j h2 h1 z
   lia
 exact MJ.mpr ⟨j,by rw[List.getElem?_take,KP lt];exact hj⟩
def Bf{H H2:Hp}{as:List Addr}{fo:Addr}{T:List Nat}{f:WF}{k:Nat}(q1:aq H H2)(q3:H2 fo=some (.lst (as.map V.ref)))(q4:BO H2 (hU f T k) as)(q5:as.Nodup)(q6:fo∉as)(q7:∀a∈fo::as,H a=none)(hl:lv f k<=gq f T) :
  ∃a,as[lv f k]?=some a/\H2 a=some (.lst (nats (lvl f T (lv f k))))/\aq H (upd H2 a (.lst (nats (lvl f T (lv f k))++[nat k])))/\(upd H2 a (.lst (nats (lvl f T (lv f k))++[nat k]))) fo=some (.lst (as.map V.ref))/\BO (upd H2 a (.lst (nats (lvl f T (lv f k))++[nat k]))) (gJ f (T++[k])) as:=by
 obtain⟨a,ha,e⟩:=jW q4 (rp hl)
 have hm:=KJ ha
 refine⟨a,ha,e,aU q1 (q7 a (K6 _ hm)),?_,?_⟩
 ·rw[ah (by rintro rfl;exact q6 hm)]
  exact q3
 ·rw[oQ hl,<-rB]
  exact q4.set q5 ha _
def IV{fL C CW:Addr}{fd:FuncData}(F:dj K "levels" "levels" Jh fL fd)(T0:Txt K mg)(mx:mg "max"=none)(CT:gX K CW):a9 P w K mg base cR 1 fL fd ["web", "troop"] (Ib P w C CW):=by
 refine F.oK tJ λcdv A outer s H vs Q E hr h=>?_
 ·obtain⟨x,l,B,ms,S,f,T,rfl,W,wk,hl,tr,kk⟩:=h
  have hu:=eZ hr
  have hsl:=Lg
  refine⟨_,af (cD 2 tJ gz)
   (af (cD 3 tJ (bz ae))
   (af (bo K7 rfl (aL (pv 1)) (eu 4 tJ)
    (af (fX (j:=5) (N:=["spot", "web"]) (n:=1) (ci:=[0]) rfl tJ.nd rfl rfl (gN (aM dF (aM aE (aZ (pv 0) rfl) (pv 4) (λ_ _=>rfl)) ak (λ_ _=>rfl))) (iO tJ) (λz=>⟨g0 0,bD,aM dF (aM aE (aZ (pv 1) rfl) (pv 0) (λ_ _=>rfl)) ak (λ_ _=>rfl)⟩))
    (af (cD 6 tJ (we rfl rfl mx (aa (bB (N:=["giver", "numbers"]) (n:=1) (ci:=[2]) rfl (aL (pv 5)) (iO tJ) (λz=>⟨g0 0,fg (a8 lB (pv 0) gS (bC _)),az cY (iF hu (pv 1) (pv 0) (λ_ _=>rfl)) ak⟩)) ae) (wz ak zD)))
    (af (gQ hu (pv 2) (pv 4) (pv 6) rfl)
    (af (bO (a8 hX (pv 6) (ay aY rfl T0.len cx (aa (pv 3) ae)) (bC _)) (aj (bj (c8 Lf Lc Ld bf (pv 3) (aa (bz ae) ae)))) aX)
    (aj (bj (c8 Lf Lc Ld bf (aM aE (pv 3) (pv 6) (λ_ _=>rfl)) (aa (pv 4) ae)))))))))
   (aj (aK (pv 3))))),?_⟩
  try dsimp only[bK,Cx.dP,Cx.bQ]
  have oc:=wk.oc
  have lT:T.length<=14:=by
   have:=iM (a:=0) (n:=f.oc.length) tr.inc λo ho=>⟨K2 _,tr.lt o ho⟩
   lia
  refineλnd nnd=>⟨K2 _,λfo H1 nfo s1 hfo=>?_⟩
  have s0:aq H (upd H nd (.dK [])):=ao nnd
  have s01:=s0.trans s1
  have frs0:∀a∈[fo],H a=none:=λa ha=>by
   rw[KG.mp ha]
   exact s0.free nfo
  refine⟨_,rfl,l,rfl,⟨_,aA.of (s01 _ _ hl)⟩,bq (K:=K) (a:=l) (xs:=nats T) (LvI H x l nd fo f T) ⟨none,none,none,[],rfl,s01,s1 _ _ ag,hfo,.nil,.nil,(λz=>nomatch z),frs0⟩ (λi σ H2 _ h=>by obtain⟨_,_,_,_,_,b,_⟩:=h;exact aA.of (b _ _ hl)) ?_ ?_⟩
  ·rintro i v σ H2 hi ⟨v4,v5,v6,as,rfl,s2,hnd,hfo,hls,asn,fon,iU⟩
   obtain⟨o,ho,rfl⟩:=dJ hi
   have hoT:=KJ ho
   have hol:=tr.lt o hoT
   have W2:=W.same s2
   obtain⟨qs,o1,_,o2⟩:=W2.FQ
   obtain⟨q,t,m,o3,o4,o5⟩:=o2 o hol
   obtain⟨tk4,tkl⟩:=wk.tk hol
   have hot:o∉T.take i:=wY tr.inc ho
   have gT:∀g∈mC f o,g∈T.take i:=λg hg=>sH tr.inc ho (tr.cl o hoT g hg).1 (tr.cl o hoT g hg).2
   have et:T.take (i+1)=T.take i++[o]:=au ho
   have lti:(T.take i).length<=14:=by rw[La];lia
   have lle:lv f o<=gq f (T.take i):=En (tr.eq hoT) gT
   refine⟨_,rfl,x,CW,B.dx,_,_,rfl,W2.ad.ins,CT.cl,CT.nO,B.fO,_,rfl,B.aO,_,_,_,rfl,rfl,aA.of o1,aF (j:=o) o3,q,_,1,_,rfl,rfl,bX.of o4,aF (j:=1) rfl,t,rfl,⟨_,bX.of o5⟩,λz D hD=>mq (zs:=kQ f o) (v:=nat) (F:=λs=>some (gv (bR f.W.sp s))) (bX.of o5) (by lia) hD (λs hs H3 s3 no yes _ hyes=>?_) λH3 s3 hD3=>?_⟩
   ·obtain⟨qs,e1,e2⟩:=(W2.same s3).FW
    obtain⟨q,m,e3,e4⟩:=e2 s (tkl s hs)
    exact⟨_,rfl,x,CW,B.dx,_,_,rfl,s3 _ _ W2.ad.ins,CT.cl,CT.nS,B.fS,_,rfl,B.aS,_,_,_,rfl,rfl,aA.of e1,aF (j:=s) e3,q,_,1,_,rfl,rfl,bX.of e4,aF (j:=1) rfl,hyes _ rfl _ (aq.refl _)⟩
   rw[filterMap_some]at hD3
   have hnd3:=s3 _ _ hnd
   refine⟨_,rfl,D,rfl,⟨_,aA.of hD3⟩,λz2 D2 hD2=>eF (zs:=kQ f o) (v:=λs=>gv (bR f.W.sp s)) (F:=λs=>(bR f.W.sp s).map λg=>V.int ((lv f g:Nat)+1)) (aA.of hD3) (by lia) hD2 (λs hs H4 s4 no yes hno hyes=>?_) λH4 s4 hD4=>?_⟩
   ·refine⟨_,rfl,rfl,_,rfl,?_⟩
    cases eg:bR f.W.sp s with
    |none=>exact bF (hno (by rw[eg];rfl) _ (aq.refl _))
    |some g =>
     have hg:g∈mC f o:=MF.mpr ⟨s,hs,eg⟩
     exact cv ⟨_,rfl,_,rfl,nd,nat (lv f g),rfl,.inl ⟨_,Sum.inl (g:Int),.inl (s4 _ _ hnd3),rfl,by rw[mG,KP (gT g hg)]⟩,_,_,rfl,rfl,hyes _ (by rw[eg];rfl) _ (aq.refl _)⟩
   have e4:(kQ f o).filterMap (λs=>(bR f.W.sp s).map λg=>V.int ((lv f g:Nat)+1))=(((mC f o).map (lv f)).map λx=>((x:Nat):Int)+1).map V.int:=by
    unfold mC
    rw[Lk,Lk,List.map_filterMap]
    rfl
   rw[e4]at hD4
   refine⟨D2,_,0,rfl,rfl,aA.of hD4,λM hM=>?_⟩
   have eM:=mx0 hM
   rw[Lk,show my ((mC f o).map ((· + 1) ∘ lv f))=lv f o from(tr.eq hoT).symm]at eM
   subst eM
   have s34:=s3.trans s4
   have hnd4:=s34 _ _ hnd
   refine⟨_,rfl,_,rfl,_,rfl,nd,_,rfl,ku.k (k:=Sum.inl (o:Int)) hnd4 (by rw[vJ];lia),?_⟩
   rw[show putK (kN (λo=>nat (lv f o)) (T.take i)) (Sum.inl (o:Int):Key) (V.int (lv f o:Nat))=kN (λo=>nat (lv f o)) (T.take (i+1)) by rw[et];exact(vi _ o _).trans (by unfold qc;rw[if_neg hot])]
   have nf:fo≠nd:=aQ (s34 _ _ hfo) hnd4 (λz=>nomatch z)
   have s5:aq H (upd H4 nd (.dK (kN (λo=>nat (lv f o)) (T.take (i+1))))):=aU (s2.trans s34) nnd
   have hfo5:(upd H4 nd (.dK (kN (λo=>nat (lv f o)) (T.take (i+1))))) fo=some (.lst (as.map V.ref)):=by rw[ah nf];exact s34 _ _ hfo
   have hls5:BO (upd H4 nd (.dK (kN (λo=>nat (lv f o)) (T.take (i+1))))) (gJ f (T.take i)) as:=Paired.cH hls λt a e=>by rw[ah (aQ (s34 _ _ e) hnd4 (λz=>nomatch z))];exact s34 _ _ e
   have hnd5:(upd H4 nd (.dK (kN (λo=>nat (lv f o)) (T.take (i+1))))) nd=some (.dK (kN (λo=>nat (lv f o)) (T.take (i+1)))):=ag
   generalize upd H4 nd (.dK (kN (λo=>nat (lv f o)) (T.take (i+1))))=H5 at s5 hfo5 hls5 hnd5 ⊢
   have la:as.length=gq f (T.take i):=by rw[<-KZ hls5,eJ]
   have lh:gq f (T.take i)<=14:=Lh (qr λo ho=>tr.lt o (L0 ho)) oc
   refine⟨_,rfl,_,rfl,_,as.length,rfl,.inl ⟨_,aA.of hfo5,by rw[Kw]⟩,rfl,_,rfl,?_⟩
   by_cases ee:lv f o=gq f (T.take i)
   ·rw[KC (show V.int (lv f o:Nat)=V.int (as.length:Nat) by rw[la,ee])]
    refine cv ⟨_,rfl,.inl ⟨rfl,_,aA.of hfo5⟩,K2 _,λa H6 na s6 ha=>⟨fo,_,_,rfl,rfl,s6 _ _ hfo5,by rw[Kw];lia,?_⟩⟩
    have naf:fo≠a:=ai hfo5 na
    have nda:a≠nd:=(ai hnd5 na).symm
    have naa:a∉as:=λz=>by
     obtain⟨j,hj⟩:=MJ.mp z
     obtain⟨_,_,e⟩:=bH hls5 hj
     rw[na]at e
     cases e
    have na0:H a=none:=s5.free na
    have s7:aq H (upd H6 fo (.lst (as.map V.ref++[V.ref a]))):=aU (s5.trans s6) (iU fo K9)
    have hfo7:(upd H6 fo (.lst (as.map V.ref++[V.ref a]))) fo=some (.lst ((as++[a]).map V.ref)):=by rw[ag,KS];rfl
    have hnd7:(upd H6 fo (.lst (as.map V.ref++[V.ref a]))) nd=some (.dK (kN (λo=>nat (lv f o)) (T.take (i+1)))):=by rw[ah nf.symm];exact s6 _ _ hnd5
    have hls7:BO (upd H6 fo (.lst (as.map V.ref++[V.ref a]))) (hU f (T.take i) o) (as++[a]):=by
     unfold hU
     rw[KP ee]
     refine L1 (jO hls5 λt b hb e=>?_) ?_
     ·rw[ah (by rintro rfl;exact fon hb)]
      exact s6 _ _ e
     ·rw[ah naf.symm]
      exact ha
    have fon7:fo∉as++[a]:=λz=>by
     rcases KW.mp z with z|z
     ·exact fon z
     ·exact naf (KG.mp z)
    have asn7:(as++[a]).Nodup:=LM.mpr ⟨asn,by simp,λu hu v hv e=>by rw[KG.mp hv]at e;exact naa (e ▸ hu)⟩
    have frs7:∀u∈fo::(as++[a]),H u=none:=λu hu=>by
     rcases KR.mp hu with z|z
     ·exact iU u (z ▸ K9)
     ·rcases KW.mp z with z|z
      ·exact iU u (K6 _ z)
      ·rw[KG.mp z]
       exact na0
    generalize upd H6 fo (.lst (as.map V.ref++[V.ref a]))=H7 at s7 hfo7 hnd7 hls7 ⊢
    obtain⟨b,hb,e1,e2,e3,e4⟩:=Bf s7 hfo7 hls7 asn7 fon7 frs7 lle
    have ll:(lvl f (T.take i) (lv f o)).length<=(T.take i).length:=LH _ _
    refine⟨_,rfl,_,rfl,fo,_,_,V.ref b,rfl,rfl,aA.of hfo7,aF (j:=lv f o) (by rw[KH,hb];rfl),.inl ⟨rfl,_,aA.of e1⟩,_,rfl,b,_,_,rfl,rfl,e1,by rw[bp];lia,_,_,_,as++[a],rfl,e2,?_,e3,by rw[et];exact e4,asn7,fon7,frs7⟩
    rw[ah (aQ hnd7 e1 (λz=>nomatch z))]
    exact hnd7
   ·rw[KU (show ¬V.int (lv f o:Nat)=V.int (as.length:Nat) fromλz=>ee (by injection z with z;lia))]
    refine bF ?_
    have hls7:BO H5 (hU f (T.take i) o) as:=by
     unfold hU
     rw[KD ee]
     exact hls5
    obtain⟨b,hb,e1,e2,e3,e4⟩:=Bf s5 hfo5 hls7 asn fon iU lle
    have ll:(lvl f (T.take i) (lv f o)).length<=(T.take i).length:=LH _ _
    refine⟨_,rfl,_,rfl,fo,_,_,V.ref b,rfl,rfl,aA.of hfo5,aF (j:=lv f o) (by rw[KH,hb];rfl),.inl ⟨rfl,_,aA.of e1⟩,_,rfl,b,_,_,rfl,rfl,e1,by rw[bp];lia,_,_,_,as,rfl,e2,?_,e3,by rw[et];exact e4,asn,fon,iU⟩
    rw[ah (aQ hnd5 e1 (λz=>nomatch z))]
    exact hnd5
  ·rintro σ H2 ⟨v4,v5,v6,as,rfl,s2,hnd,hfo,hls,asn,fon,iU⟩
   rw[bp,Le]at hls
   exact⟨_,rfl,kk H2 fo as s2 hfo hls asn fon iU⟩
end Uf
end
section
namespace Uf
open PySem L2 UfSrt UfB
abbrev rA:=List (Str×Option Nat)
abbrev ET:=List (Str×List Nat)
def pn(sp:rA)(s:Nat):Str:=((sp[s]?).map (·.1)).getD ""
def x9(sp:rA)(g:Option Nat):List Nat:=(List.range sp.length).filter λs=>decide (bR sp s=g)
def lD{sp:rA}{g:Option Nat}{s:Nat}:s∈x9 sp g↔s<sp.length/\bR sp s=g:=by
 unfold x9
 rw[K1,Ly,Lp]
def Ag(sp:rA)(g:Option Nat):(x9 sp g).Nodup:=Nl.filter _
structure Nm(sp:rA)(oc:ET)(ms:List Mv)(S:List Str):Prop where
 st:((x9 sp none).map (pn sp)).Perm S
 ev:∀o p,oc[o]?=some p->∃m∈ms,m.1=p.1/\(p.2.map (pn sp)).Perm m.2.1/\((x9 sp (some o)).map (pn sp)).Perm m.2.2/\∀s∈p.2,s<sp.length/\∀g,bR sp s=some g->g<o
 lt:∀s g,bR sp s=some g->g<oc.length
def pF{sp new:rA}{s:Nat}(h:s<sp.length):bR (sp++new) s=bR sp s:=by
 unfold bR
 rw[Ls h]
def Fh{sp new:rA}{s:Nat}(h:s<sp.length):pn (sp++new) s=pn sp s:=by
 unfold pn
 rw[Ls h]
def A4{sp:rA}{xs:List Str}{g:Option Nat}{i:Nat}(h:i<xs.length):bR (sp++xs.map λx=>(x,g)) (sp.length+i)=g:=by
 unfold bR
 rw[LB (ME _ _),PU,KH,Kx h]
 rfl
def lj(sp:rA)(xs:List Str)(g g':Option Nat):x9 (sp++xs.map λx=>(x,g)) g'=x9 sp g'++if g=g' then(List.range xs.length).map (sp.length + ·) else []:=by
 unfold x9
 rw[KA,Kw,Qk,Mb]
 congr 1
 ·refine Pe λs hs=>?_
  rw[pF (Ly.mp hs)]
 ·split
  ·rename_i e
   refine OU.mpr λs hs=>?_
   obtain⟨i,hi,rfl⟩:=K0.mp hs
   rw[A4 (Ly.mp hi)]
   exact KC e
  ·rename_i e
   refine L3.mpr λs hs=>?_
   obtain⟨i,hi,rfl⟩:=K0.mp hs
   rw[A4 (Ly.mp hi)]
   simpa using e
def AO(sp:rA)(xs:List Str)(g:Option Nat):((List.range xs.length).map (sp.length + ·)).map (pn (sp++xs.map λx=>(x,g)))=xs:=by
 rw[Lk]
 refine List.ext_getElem (by simp) λi h1 h2=>?_
 rw[List.getElem_map,List.getElem_range]
 show pn _ (sp.length+i)=_
 unfold pn
 rw[LB (ME _ _),PU,KH,Kx h2]
 rfl
def lH{sp new:rA}{l:List Nat}(h:∀s∈l,s<sp.length):l.map (pn (sp++new))=l.map (pn sp):=MT λs hs=>Fh (h s hs)
def BF{ms:List Mv}{S:List Str}:Nm ((aI S).map λx=>(x,none)) [] ms S:=by
 have e:=lj [] (aI S) none none
 rw[M9,KP rfl]at e
 refine⟨?_,λo p h=>by simp at h,λs g h=>?_⟩
 ·rw[e,KS]
  have:=AO [] (aI S) none
  rw[M9]at this
  rw[this]
  exact bN S
 ·unfold bR at h
  rw[KH]at h
  cases q:(aI S)[s]? with
  |none=>rw[q]at h;cases h
  |some x=>rw[q]at h;cases h
def BS{sp:rA}{oc:ET}{ms:List Mv}{S:List Str}{m:Mv}{T:List Nat}(h:Nm sp oc ms S)(hm:m∈ms)(ht:(T.map (pn sp)).Perm m.2.1)(hl:∀s∈T,s<sp.length):Nm (sp++(aI m.2.2).map λx=>(x,some oc.length)) (oc++[(m.1,T)]) ms S:=by
 have ol:∀{g},∀s∈x9 sp g,s<sp.length:=λs hs=>(lD.mp hs).1
 refine⟨?_,λo p e=>?_,λs g e=>?_⟩
 ·rw[lj,KD (by simp),MM,lH ol]
  exact h.st
 ·by_cases z:o<oc.length
  ·rw[Ls z]at e
   obtain⟨m',h1,h2,h3,h4,h5⟩:=h.ev o p e
   refine⟨m',h1,h2,?_,?_,λs hs=>⟨?_,?_⟩⟩
   ·rw[lH λs hs=>(h5 s hs).1]
    exact h3
   ·rw[lj,KD (by simp;lia),MM,lH ol]
    exact h4
   ·rw[KA]
    exact K4 (h5 s hs).1 (ME _ _)
   ·rw[pF (h5 s hs).1]
    exact(h5 s hs).2
  ·have ho:o=oc.length:=by
    have:=(KQ.mp e).1
    rw[KA]at this
    have:o<oc.length+1:=this
    lia
   subst ho
   rw[LB (KL _),Ob]at e
   cases e
   refine⟨m,hm,rfl,by rw[lH hl];exact ht,?_,λs hs=>⟨?_,?_⟩⟩
   ·have e0:x9 sp (some oc.length)=[]:=L3.mpr λs _ z=>LA _ (h.lt s _ (Ln z))
    rw[lj,KP rfl,e0,M9,AO]
    exact bN _
   ·rw[KA]
    exact K4 (hl s hs) (ME _ _)
   ·rw[pF (hl s hs)]
    exact h.lt s
 ·rw[KA]
  show g<oc.length+1
  by_cases z:s<sp.length
  ·rw[pF z]at e
   exact Lw (h.lt s g e)
  ·unfold bR at e
   rw[LB (by lia),KH]at e
   cases q:(aI m.2.2)[s-sp.length]? with
   |none=>rw[q]at e;cases e
   |some x=>rw[q]at e;cases e;exact Mc _
def mH(oc:ET)(o:Nat):List Nat:=(oc.getD o ("",[])).2
structure Cl(sp:rA)(oc:ET)(T:List Nat):Prop where
 inc:T.Pairwise (· < ·)
 lt:∀o∈T,o<oc.length
 cl:∀o∈T,∀s∈mH oc o,∀g,bR sp s=some g->g∈T
 cf:∀o∈T,∀o'∈T,o≠o'->∀s∈mH oc o,s∉mH oc o'
def fv(sp:rA)(oc:ET)(T:List Nat):List Nat:=(List.range sp.length).filter λs=>(match bR sp s with|none=>true|some g=>decide (g∈T))&&T.all λo=>!decide (s∈mH oc o)
def iD{sp:rA}{oc:ET}{T:List Nat}{s:Nat}:s∈fv sp oc T↔s<sp.length/\(∀g,bR sp s=some g->g∈T)/\∀o∈T,s∉mH oc o:=by
 unfold fv
 rw[K1,Ly,Md,LS]
 refine and_congr Iff.rfl (and_congr ?_ ?_)
 ·cases bR sp s with
  |none=>simp
  |some g=>simp
 ·simp
def vt(sp:rA)(oc:ET)(T:List Nat):(fv sp oc T).Nodup:=Nl.filter _
theorem kR{α β:Type}{f:α->β}:∀{l:List α},(l.map f).Nodup->∀{a b:α},a∈l->b∈l->f a=f b->a=b
 |x::l,h,a,b,ha,hb,e=>by
  rw[LK,LR]at h
  rcases KR.mp ha with z|z
  ·rcases KR.mp hb with y|y
   ·rw[z,y]
   ·exact absurd (K0.mpr ⟨b,y,by rw[<-z,e]⟩) h.1
  ·rcases KR.mp hb with y|y
   ·exact absurd (K0.mpr ⟨a,z,by rw[<-y,e]⟩) h.1
   ·exact kR h.2 z y e
section
variable {sp:rA}{oc:ET}{ms:List Mv}{S:List Str}
def Nm.tk(N:Nm sp oc ms S){o:Nat}(h:o<oc.length):∃m∈ms,oc[o]?=some (m.1,mH oc o)/\((mH oc o).map (pn sp)).Perm m.2.1/\((x9 sp (some o)).map (pn sp)).Perm m.2.2/\∀s∈mH oc o,s<sp.length/\∀g,bR sp s=some g->g<o:=by
 obtain⟨m,h1,h2,h3,h4,h5⟩:=N.ev o oc[o] (Kx h)
 have e:mH oc o=oc[o].2:=by unfold mH;rw[List.getD_eq_getElem?_getD,List.getElem?_eq_getElem h];rfl
 rw[e]
 exact⟨m,h1,by rw[Kx h,h2],h3,h4,h5⟩
def Cl.init{A:List Nat}{o:Nat}(N:Nm sp oc ms S)(c:Cl sp oc (A++[o])):Cl sp oc A:=by
 have hp:=NO.mp c.inc
 refine⟨hp.1,λx hx=>c.lt x (Lr _ hx),λx hx s hs g hg=>?_,λx hx y hy=>c.cf x (Lr _ hx) y (Lr _ hy)⟩
 rcases KW.mp (c.cl x (Lr _ hx) s hs g hg) with z|z
 ·exact z
 ·rw[KG.mp z]at hg
  obtain⟨_,_,_,_,_,h⟩:=N.tk (c.lt x (Lr _ hx))
  have:=(h s hs).2 o hg
  have:=hp.2.2 x hx o (KG.mpr rfl)
  lia
def AK{A:List Nat}{o:Nat}(N:Nm sp oc ms S)(c:Cl sp oc (A++[o])):(fv sp oc (A++[o])).Perm (((fv sp oc A).filter λs=>!decide (s∈mH oc o))++x9 sp (some o)):=by
 have hp:=NO.mp c.inc
 have lo:∀x∈A,x<o:=λx hx=>hp.2.2 x hx o (KG.mpr rfl)
 refine(Ml (vt _ _ _) (LM.mpr ⟨(vt _ _ _).filter _,Ag _ _,λa ha b hb e=>?_⟩)).mpr λs=>?_
 ·subst e
  have:=lo o ((iD.mp (K1.mp ha).1).2.1 o (lD.mp hb).2)
  lia
 ·rw[KW,K1,iD,iD,lD]
  constructor
  ·rintro⟨h1,h2,h3⟩
   have h3':∀x∈A,s∉mH oc x:=λx hx=>h3 x (Lr _ hx)
   have ho:(!decide (s∈mH oc o))=true:=by simpa using h3 o (by simp)
   by_cases z:bR sp s=some o
   ·exact .inr ⟨h1,z⟩
   ·refine .inl ⟨⟨h1,λg hg=>?_,h3'⟩,ho⟩
    rcases KW.mp (h2 g hg) with y|y
    ·exact y
    ·rw[KG.mp y]at hg
     exact absurd hg z
  ·rintro(⟨⟨h1,h2,h3⟩,ho⟩|⟨h1,h2⟩)
   ·refine⟨h1,λg hg=>Lr _ (h2 g hg),λx hx=>?_⟩
    rcases KW.mp hx with y|y
    ·exact h3 x y
    ·rw[KG.mp y]
     simpa using ho
   ·refine⟨h1,λg hg=>?_,λx hx z=>?_⟩
    ·rw[h2]at hg
     cases hg
     simp
    ·obtain⟨_,_,_,_,_,h⟩:=N.tk (c.lt x hx)
     have l1:=(h s z).2 o h2
     rcases KW.mp hx with y|y
     ·have:=lo x y
      lia
     ·rw[KG.mp y]at l1
      exact LA _ l1
def Gr{A:List Nat}{o:Nat}(N:Nm sp oc ms S)(c:Cl sp oc (A++[o])):∀s∈mH oc o,s∈fv sp oc A:=λs hs=>by
 have hp:=NO.mp c.inc
 have ho:o∈A++[o]:=by simp
 obtain⟨_,_,_,_,_,h⟩:=N.tk (c.lt o ho)
 refine iD.mpr ⟨(h s hs).1,λg hg=>?_,λx hx=>c.cf o ho x (Lr _ hx) (λz=>?_) s hs⟩
 ·rcases KW.mp (c.cl o ho s hs g hg) with z|z
  ·exact z
  ·have:=(h s hs).2 g hg
   rw[KG.mp z]at this
   exact absurd this (LA _)
 ·have:=hp.2.2 x hx o (KG.mpr rfl)
  lia
def safe(N:Nm sp oc ms S)(so:Sound ms S)(told:UfBfs.Told (graph ms) (aI S) none):∀(n:Nat) (T:List Nat),T.length=n->Cl sp oc T ->
  ((fv sp oc T).map (pn sp)).Nodup/\∃k,UfBfs.At (graph ms) (aI S) k (aI ((fv sp oc T).map (pn sp))):=by
 intro n
 induction n with
 |zero =>
  intro T hT c
  have hT:T=[]:=PR.mp hT
  subst hT
  have p:(fv sp oc []).Perm (x9 sp none):=(Ml (vt _ _ _) (Ag _ _)).mpr λs=>by
   rw[iD,lD]
   refine and_congr Iff.rfl ⟨λh=>?_,λh=>⟨λg hg=>?_,λ_ z=>nomatch z⟩⟩
   ·cases e:bR sp s with
    |none=>rfl
    |some g=>exact absurd (h.1 g e) (by simp)
   ·rw[h]at hg
    cases hg
  have q:=(p.map (pn sp)).trans N.st
  exact⟨q.nodup_iff.mpr (cV so.su),0,by rw[fm q];exact .zero⟩
 |succ n ih =>
  intro T hT c
  have ne:T≠[]:=λz=>by rw[z]at hT;cases hT
  obtain⟨A,o,rfl⟩:∃A o,T=A++[o]:=⟨T.dropLast,T.getLast ne,(O0 ne).symm⟩
  have lA:A.length=n:=by simpa using hT
  obtain⟨nd,k,hk⟩:=ih A lA (c.init N)
  obtain⟨m,hm,_,h1,h2,h3⟩:=N.tk (c.lt o (by simp))
  obtain⟨t1,t2,t3,t4,t5⟩:=eE (so.mv m hm)
  have tc:=Gr N c
  have inT:∀x∈m.2.1,x∈aI ((fv sp oc A).map (pn sp)):=λx hx=>by
   obtain⟨s,hs,rfl⟩:=K0.mp (h1.mem_iff.mpr hx)
   exact bJ.mpr (K0.mpr ⟨s,tc s hs,rfl⟩)
  have hl:dh m.2.1 (aI ((fv sp oc A).map (pn sp)))=false:=by
   unfold dh
   refine Pd.mpr λx hx=>?_
   simp[inT x hx]
  have hmn:m.1∈aI (names ms):=bJ.mpr (K0.mpr ⟨m,hm,rfl⟩)
  have hs:second m.2.1 m.2.2 (aI ((fv sp oc A).map (pn sp)))=false:=by
   have:=told k _ hk
   have:=N8.mp (show(aI (names ms)).find? _=none from this) m.1 hmn
   unfold eK i9 at this
   rw[dW so.nd hm,eD so.nd hm,hl]at this
   simpa using this
  have hmay:m.1∈(graph ms).may (aI ((fv sp oc A).map (pn sp))):=by
   show m.1∈kM ms _
   unfold kM
   rw[K1,K1]
   unfold eK i9
   rw[dW so.nd hm,eD so.nd hm,hl,hs]
   exact⟨⟨hmn,rfl⟩,rfl⟩
  have en:(graph ms).nxt (aI ((fv sp oc A).map (pn sp))) m.1=behind m.2.1 m.2.2 (aI ((fv sp oc A).map (pn sp))):=by
   show gr ms _ m.1=_
   unfold gr
   rw[dW so.nd hm,eD so.nd hm]
  have pf:((aI ((fv sp oc A).map (pn sp))).filter λx=>!decide (x∈m.2.1)).Perm (((fv sp oc A).filter λs=>!decide (s∈mH oc o)).map (pn sp)):=by
   refine((bN _).filter _).trans ?_
   rw[List.filter_map]
   refine List.Perm.of_eq (LZ _ (Pe λs hs=>?_))
   show(!decide (pn sp s∈m.2.1))=_
   congr 1
   refine Mj.mpr ⟨λz=>?_,λz=>h1.mem_iff.mp (K0.mpr ⟨s,z,rfl⟩)⟩
   obtain⟨s',hs',e⟩:=K0.mp (h1.mem_iff.mpr z)
   rw[<-kR nd (tc s' hs') hs e]
   exact hs'
  have pp:((fv sp oc (A++[o])).map (pn sp)).Perm (((aI ((fv sp oc A).map (pn sp))).filter λx=>!decide (x∈m.2.1))++m.2.2):=by
   refine((AK N c).map (pn sp)).trans ?_
   rw[KS]
   exact List.Perm.append pf.symm h2
  refine⟨pp.nodup_iff.mpr (LM.mpr ⟨((iK.mpr nd).filter _),cV t2,λa ha b hb e=>?_⟩),k+1,?_⟩
  ·subst e
   obtain⟨x1,x2⟩:=K1.mp ha
   have:second m.2.1 m.2.2 (aI ((fv sp oc A).map (pn sp)))=true:=Mq.mpr ⟨a,hb,by rw[KC x1];simpa using x2⟩
   rw[hs]at this
   cases this
  ·have:=hk.succ hmay
   rw[en]at this
   rw[fm pp]
   exact this
end
end Uf
end
section
namespace Uf
open PySem L2 UfSrt UfB UfTs
structure pO(f:WF)(ms:List Mv)(S:List Str):Prop where
 nm:Nm f.W.sp f.oc ms S
 nd:f.oc.Nodup
 ri:∀p∈f.oc,bZ p.2=p.2
def uX{ms:List Mv}{S:List Str}(pl:List (Str×Nat))(l:(aI S).length<=250):pO (dX pl (aI S)) ms S:=by
 have e:(dX pl (aI S)).W.sp=(aI S).map λx=>(x,none):=by
  have:=(jX pl l).sp
  rw[M9]at this
  exact this
 refine⟨?_,.nil,λp hp=>by cases hp⟩
 rw[e]
 exact BF
def yb{f:WF}{ms:List Mv}{S:List Str}{m:Mv}{T:List Nat}(g:Good f)(h:pO f ms S)(c:vC f ms S m T)(r:bZ T=T):pO (dk f m.1 T (aI m.2.2)) ms S:=by
 have e:(dk f m.1 T (aI m.2.2)).W.sp=f.W.sp++(aI m.2.2).map λx=>(x,some f.oc.length):=(gy g c.may).sp
 refine⟨?_,?_,λp hp=>?_⟩
 ·rw[e]
  refine BS h.nm c.mm ?_ c.may.lt
  exact((bN _).symm.trans (List.Perm.of_eq c.nm)).trans (bN _)
 ·exact LM.mpr ⟨h.nd,by simp,λa ha b hb z=>c.new (by rw[<-KG.mp hb,<-z];exact ha)⟩
 ·rcases KW.mp (show p∈f.oc++[(m.1,T)] from hp) with z|z
  ·exact h.ri p z
  ·rw[KG.mp z]
   exact r
structure kx(f:WF)(T:List Nat):Prop where
 tr:rV f T
 cf:∀o∈T,∀o'∈T,o≠o'->∀s∈kQ f o,s∉kQ f o'
def hE(f:WF)(o:Nat):Str:=(f.oc.getD o ("",[])).1
section
variable {f:WF}{ms:List Mv}{S:List Str}{T T':List Nat}
def zP{o s g:Nat}(hs:s∈kQ f o)(hg:bR f.W.sp s=some g):g∈mC f o:=MF.mpr ⟨s,hs,hg⟩
def vO(t:rV f T){o g:Nat}(ho:o∈T)(hg:g∈mC f o):lv f g<lv f o:=by
 rw[t.eq ho]
 exact qD (K0.mpr ⟨g,hg,rfl⟩)
def Bj(t:kx f T)(d:Nat):Cl f.W.sp f.oc (T.filter λo=>decide (lv f o<d)):=by
 refine⟨t.tr.inc.filter _,λo ho=>t.tr.lt o (K1.mp ho).1,λo ho s hs g hg=>?_,λo ho o' ho'=>t.cf o (K1.mp ho).1 o' (K1.mp ho').1⟩
 obtain⟨h1,h2⟩:=K1.mp ho
 have hgo:=zP (f:=f) hs hg
 refine K1.mpr ⟨(t.tr.cl o h1 g hgo).1,?_⟩
 have:=vO t.tr h1 hgo
 have:=Ln h2
 exact KC (by lia)
def xK(N:pO f ms S)(t:kx f T){o:Nat}(ho:o∈T):∀s∈kQ f o,s∈fv f.W.sp f.oc (T.filter λx=>decide (lv f x<lv f o)):=λs hs=>by
 obtain⟨_,_,_,_,_,h⟩:=N.nm.tk (t.tr.lt o ho)
 refine iD.mpr ⟨(h s hs).1,λg hg=>?_,λx hx=>?_⟩
 ·have hgo:=zP (f:=f) hs hg
  exact K1.mpr ⟨(t.tr.cl o ho g hgo).1,KC (vO t.tr ho hgo)⟩
 ·obtain⟨h1,h2⟩:=K1.mp hx
  exact t.cf o ho x h1 (λz=>by rw[z]at h2;exact absurd (Ln h2) (LA _)) s hs
def Cy(N:pO f ms S)(so:Sound ms S)(told:UfBfs.Told (graph ms) (aI S) none)(t:kx f T)(t':kx f T'){o o':Nat}(ho:o∈T)(ho':o'∈T')(hl:lv f o=lv f o')(hn:hE f o=hE f o')
  (hb:(T.filter λx=>decide (lv f x<lv f o))=T'.filter λx=>decide (lv f x<lv f o)):o=o':=by
 have lo:=t.tr.lt o ho
 have lo':=t'.tr.lt o' ho'
 obtain⟨m,hm,e1,p1,_,_⟩:=N.nm.tk lo
 obtain⟨m',hm',e2,p2,_,_⟩:=N.nm.tk lo'
 have em:m=m':=by
  have a1:hE f o=m.1:=by unfold hE;rw[List.getD_eq_getElem?_getD,e1];rfl
  have a2:hE f o'=m'.1:=by unfold hE;rw[List.getD_eq_getElem?_getD,e2];rfl
  exact kR (f:=λm:Mv=>m.1) so.nd hm hm' (by rw[<-a1,<-a2,hn])
 subst em
 have c1:=xK N t ho
 have c2:=xK N t' ho'
 rw[<-hl,<-hb]at c2
 have nd:=(safe N.nm so told _ _ rfl (Bj t (lv f o))).1
 have sub:∀{a b:List Nat},(∀s∈a,s∈fv f.W.sp f.oc (T.filter λx=>decide (lv f x<lv f o)))->(∀s∈b,s∈fv f.W.sp f.oc (T.filter λx=>decide (lv f x<lv f o)))->(a.map (pn f.W.sp)).Perm m.2.1->(b.map (pn f.W.sp)).Perm m.2.1->∀s∈a,s∈b:=λha hb pa pb s hs=>by
  obtain⟨s',hs',e⟩:=K0.mp (pb.mem_iff.mpr (pa.mem_iff.mp (K0.mpr ⟨s,hs,rfl⟩)))
  rw[<-kR nd (hb s' hs') (ha s hs) e]
  exact hs'
 obtain⟨t1,_⟩:=eE (so.mv m hm)
 have ndt:∀{a:List Nat},(a.map (pn f.W.sp)).Perm m.2.1->a.Nodup:=λpa=>(Nf.mp (pa.nodup_iff.mpr (cV t1))).imp λh e=>h (by rw[e])
 have pt:(mH f.oc o).Perm (mH f.oc o'):=(Ml (ndt p1) (ndt p2)).mpr λs=>⟨sub c1 c2 p1 p2 s,sub c2 c1 p2 p1 s⟩
 have et:mH f.oc o=mH f.oc o':=by
  have r1:=N.ri _ (KJ e1)
  have r2:=N.ri _ (KJ e2)
  have r1:bZ (mH f.oc o)=mH f.oc o:=r1
  have r2:bZ (mH f.oc o')=mH f.oc o':=r2
  rw[<-r1,<-r2]
  exact lY pt
 rw[et,<-e2]at e1
 obtain⟨h1,g1⟩:=KQ.mp (e1.trans e2)
 obtain⟨h2,g2⟩:=KQ.mp e2
 exact(Oz N.nd).mp (g1.trans g2.symm)
def Je(N:pO f ms S)(so:Sound ms S)(told:UfBfs.Told (graph ms) (aI S) none)(t:kx f T)(t':kx f T')(h:∀d,((lvl f T d).map (hE f)).Perm ((lvl f T' d).map (hE f))):T=T':=by
 have all:∀d,(T.filter λx=>decide (lv f x<d))=T'.filter λx=>decide (lv f x<d):=by
  intro d
  induction d with
  |zero=>rw[L3.mpr λo _=>by simp,L3.mpr λo _=>by simp]
  |succ d ih =>
   have half:∀{A B:List Nat},kx f A->kx f B->(A.filter λx=>decide (lv f x<d))=(B.filter λx=>decide (lv f x<d))->((lvl f A d).map (hE f)).Perm ((lvl f B d).map (hE f))->∀o∈A,lv f o<d+1->o∈B:=λ{A B} ta tb e p o ho hl=>by
    by_cases z:lv f o<d
    ·have:o∈A.filter λx=>decide (lv f x<d):=K1.mpr ⟨ho,KC z⟩
     rw[e]at this
     exact(K1.mp this).1
    ·have ed:lv f o=d:=by lia
     obtain⟨o',ho',en⟩:=K0.mp (p.mem_iff.mp (K0.mpr ⟨o,gW.mpr ⟨ho,ed⟩,rfl⟩))
     obtain⟨ho',el⟩:=gW.mp ho'
     rw[Cy N so told ta tb ho ho' (by rw[ed,el]) en.symm (by rw[ed];exact e)]
     exact ho'
   refine MP (λa b _ _ h1 h2=>absurd h1 (Nat.lt_asymm h2)) (t.tr.inc.filter _) (t'.tr.inc.filter _) ((Ml (t.tr.nd.filter _) (t'.tr.nd.filter _)).mpr λo=>?_)
   rw[K1,K1,Lp]
   exact⟨λz=>⟨half t t' ih (h d) o z.1 z.2,z.2⟩,λz=>⟨half t' t ih.symm (h d).symm o z.1 z.2,z.2⟩⟩
 have e:=all (max (gq f T) (gq f T'))
 rw[OU.mpr λo ho=>KC (by have:=pC (f:=f) ho;lia),OU.mpr λo ho=>KC (by have:=pC (f:=f) ho;lia)]at e
 exact e
end
end Uf
end
section
namespace UfLt
open PySem PySem.Spec PySem.SeqAt PySem.MeetsSeq PySem.MeetsSeq2 PySem.MeetsSeq3 PyProof.Rows
open PySem.AutoSeq1 (wpAny_loadPart')
def iu(A:Around)(s:Shared)(u v:Value)(b:Bool):Prop :=
 ∀(prog:Program) (w:World) (E:Value->Shared->Prop) (Q:Value->Shared->Prop),Q (.bool b) s->wpAny (model prog w) A (richCompare .Lt u v) Q E s
def res(e l:Nat->Bool)(n1 n2 i:Nat):Bool:=match ((List.range (min n1 n2)).drop i).find? (λj=>!(e j)) with
 |some j=>l j
 |none=>decide (n1<n2)
def lx{e l:Nat->Bool}{n1 n2 i:Nat}(h:min n1 n2<=i):res e l n1 n2 i=decide (n1<n2):=by
 unfold res
 rw[LP (by rw[LV];exact h)]
 rfl
def iz{e l:Nat->Bool}{n1 n2 i:Nat}(h:i<min n1 n2):res e l n1 n2 i=if e i=true then res e l n1 n2 (i+1) else l i:=by
 unfold res
 rw[LO (by rw[LV];exact h),List.getElem_range,MN]
 cases e i <;> rfl
def xO(l b:Addr)(items items2:Array Value)(n n2:Nat)(dd dd2:Option Addr)(sl sl2:Array (Option Value))(e f:Nat->Bool)(k:Nat) :
  ∀i:Nat,min items.size items2.size-i=k->Meets (Builtin.«list.__eq__.loop» ⟨[.ref l,.ref b,rawInt i,rawInt 0],[]⟩)
   (λA R s=>s.heap.get? l = some { cls:=.type "list",dict:=dd,data:=.seq items n,slots:=sl }/\s.heap.get? b = some { cls:=.type "list",dict:=dd2,data:=.seq items2 n2,slots:=sl2 } /\
    (∀j (h1:j<items.size) (h2:j<items2.size),EqAt A.in1 s items[j] items2[j] (e j)/\(e j=false->iu A.in1 s items[j] items2[j] (f j))) /\
    R (.ok (.ret (.bool (res e f items.size items2.size i)))) s):=by
 induction k with
 |zero =>
  intro i hk prog w A R s h
  obtain⟨hp,g,d,tk,os⟩:=s;obtain⟨hl,hb,he,h⟩:=h
  rw[lx (by lia)]at h
  wp_walk using wpAny_loadPart' hl,wpAny_loadPart' hb
  by_cases z:items.size<=i
  ·have hi1:items[((i:Nat):Int).toNat]?=none:=by simp;lia
   rw[hi1]
   wp_walk using wpAny_loadPart' hl,wpAny_loadPart' hb
   exact h
  ·have hi1:items[((i:Nat):Int).toNat]?=some (items[i]'(by lia)):=by simp
   have hi2:items2[((i:Nat):Int).toNat]?=none:=by simp;lia
   rw[hi1,hi2]
   wp_walk using wpAny_loadPart' hl,wpAny_loadPart' hb
   exact h
 |succ k ih =>
  intro i hk prog w A R s h
  obtain⟨hp,g,d,tk,os⟩:=s;obtain⟨hl,hb,he,h⟩:=h
  wp_walk using wpAny_loadPart' hl,wpAny_loadPart' hb
  have hlt:i<items.size:=by lia
  have hlt2:i<items2.size:=by lia
  have hi1:items[((i:Nat):Int).toNat]?=some items[i]:=by simp[hlt]
  have hi2:items2[((i:Nat):Int).toNat]?=some items2[i]:=by simp[hlt2]
  have hc:((i:Int)+1)=((i+1:Nat):Int):=by push_cast;rfl
  rw[iz (by lia)]at h
  rw[hi1,hi2]
  obtain⟨h1,h2⟩:=he i hlt hlt2
  refine Kv (h1 prog w _ _ ?_)
  cases hb':e i with
  |true =>
   rw[hb',KP rfl]at h
   wp_walk
   rw[hc]
   exact⟨Mf Pc _,L4 entry_eq_loop (by
    rw[LQ Pc _]
    exact ih (i+1) (by lia) prog w A R _ ⟨hl,hb,he,h⟩)⟩
  |false =>
   rw[hb',KD Lb]at h
   wp_walk using wpAny_loadPart' hl,wpAny_loadPart' hb
   rw[hi1,hi2]
   have hri:=h2 hb' prog w
   wp_walk using hri
   exact h
def yz(l b:Addr)(items items2:Array Value)(n n2:Nat)(dd dd2:Option Addr)(sl sl2:Array (Option Value))(e f:Nat->Bool) :
  Meets (Builtin.«list.__lt__» ⟨[.ref l,.ref b],[]⟩)
   (λA R s=>s.heap.get? l = some { cls:=.type "list",dict:=dd,data:=.seq items n,slots:=sl }/\s.heap.get? b = some { cls:=.type "list",dict:=dd2,data:=.seq items2 n2,slots:=sl2 } /\
    (∀j (h1:j<items.size) (h2:j<items2.size),EqAt A.in1 s items[j] items2[j] (e j)/\(e j=false->iu A.in1 s items[j] items2[j] (f j))) /\
    R (.ok (.ret (.bool (res e f items.size items2.size 0)))) s):=by
 intro prog w A R s h
 obtain⟨hp,g,d,tk,os⟩:=s;obtain⟨hl,hb,he,h⟩:=h
 have f3:=AutoSeq1.sub_list_list
 wp_walk using wpAny_loadPart' hl,wpAny_loadPart' hb
 exact⟨Mf Pc _,L4 entry_eq_loop (by
  rw[LQ Pc _]
  exact xO l b items items2 n n2 dd dd2 sl sl2 e f _ 0 rfl prog w A R _ ⟨hl,hb,he,h⟩)⟩
def uG(l b:Addr)(items items2:Array Value)(n n2:Nat)(dd dd2:Option Addr)(sl sl2:Array (Option Value))(e f:Nat->Bool) :
  Meets (Builtin.«tuple.__lt__» ⟨[.ref l,.ref b],[]⟩)
   (λA R s=>s.heap.get? l = some { cls:=.type "tuple",dict:=dd,data:=.seq items n,slots:=sl }/\s.heap.get? b = some { cls:=.type "tuple",dict:=dd2,data:=.seq items2 n2,slots:=sl2 } /\
    (∀j (h1:j<items.size) (h2:j<items2.size),EqAt A.in1 s items[j] items2[j] (e j)/\(e j=false->iu A.in1 s items[j] items2[j] (f j))) /\
    R (.ok (.ret (.bool (res e f items.size items2.size 0)))) s) :=
 .of_wp λprog w A R s h=>by
  obtain⟨hp,g,d,tk,os⟩:=s;obtain⟨hl,hb,he,h⟩:=h
  have f2:=Pk
  have hZ:(items.toList.zip items2.toList).length=min items.size items2.size:=by simp
  wp_walk using wpAny_loadPart' hl,wpAny_loadPart' hb,Pl _ (λrest b s'=>b.1=none/\s'=⟨hp,g,d,tk,os⟩/\∃i,rest=(items.toList.zip items2.toList).drop i /\
   R (.ok (.ret (.bool (res e f items.size items2.size i)))) ⟨hp,g,d,tk,os⟩) _
  case turn =>
   rintro⟨y,x⟩ rest b s' ⟨hb',rfl,i,hz,hR⟩
   have hlt:i<min items.size items2.size:=by
    rw[<-hZ]
    refine OB λz=>?_
    rw[LP z]at hz
    cases hz
   have g1:i<items.size:=by lia
   have g2:i<items2.size:=by lia
   rw[LO (by rw[hZ];exact hlt)]at hz
   injection hz with hyx hrest
   have hyx:(y,x)=(items[i],items2[i]):=by rw[hyx];simp
   injection hyx with hy hx
   subst hy hx
   rw[iz hlt]at hR
   obtain⟨h1,h2⟩:=he i g1 g2
   refine Kv (h1 prog w _ _ ?_)
   cases hb'':e i with
   |true =>
    rw[hb'',KP rfl]at hR
    wp_walk
    exact⟨rfl,rfl,i+1,hrest,hR⟩
   |false =>
    rw[hb'',KD Lb]at hR
    have hri:=h2 hb'' prog w
    wp_walk using hri
    exact⟨_,rfl,by simpa using hR⟩
  case fin =>
   rintro⟨b1,b2⟩ s' ⟨hb',rfl,i,hz,hR⟩
   simp only at hb'
   subst hb'
   have hle:min items.size items2.size<=i:=by
    rw[<-hZ]
    refine Nat.le_of_not_lt λz=>?_
    rw[LO z]at hz
    cases hz
   rw[lx hle]at hR
   wp_walk
   exact⟨_,rfl,by simpa[Builtin.Tuple.tupleCompareSizes] using hR⟩
  case h =>
   exact⟨rfl,rfl,0,rfl,h⟩
section
variable {A:Around}{s:Shared}{l b:Addr}{items items2:Array Value}{e f:Nat->Bool}
def iu.lists(hl:s.heap.IsList l items)(hb:s.heap.IsList b items2)(hu:A.units<cLine)
  (he:∀j (h1:j<items.size) (h2:j<items2.size),EqAt A.in1 s items[j] items2[j] (e j)/\(e j=false->iu A.in1 s items[j] items2[j] (f j))):iu A s (.ref l) (.ref b) (res e f items.size items2.size 0):=λprog w E Q h=>by
 obtain⟨⟨cls,dd,data,sl⟩,ho,hc,n,hd⟩:=id hl
 obtain⟨⟨cls2,dd2,data2,sl2⟩,ho2,hc2,n2,hd2⟩:=id hb
 simp only at hc hd hc2 hd2
 subst hc hd hc2 hd2
 exact Oq (op:=.Lt) ⟨_,ho,rfl⟩ ⟨_,ho2,rfl⟩ PySem.F.slot_list_lt PySem.F.entry_list_lt (PySem.F.args_list_lt_2 _ _) (yz l b items items2 n n2 dd dd2 sl sl2 e f)
  ⟨ho,ho2,he,show Value.bool _≠Value.notImplemented/\Q (.bool _) s from⟨(λx=>nomatch x),h⟩⟩ hu
def iu.tuples(hl:IsTup s.heap l items)(hb:IsTup s.heap b items2)(hu:A.units<cLine)
  (he:∀j (h1:j<items.size) (h2:j<items2.size),EqAt A.in1 s items[j] items2[j] (e j)/\(e j=false->iu A.in1 s items[j] items2[j] (f j))):iu A s (.ref l) (.ref b) (res e f items.size items2.size 0):=λprog w E Q h=>by
 obtain⟨⟨cls,dd,data,sl⟩,ho,hc,n,hd⟩:=id hl
 obtain⟨⟨cls2,dd2,data2,sl2⟩,ho2,hc2,n2,hd2⟩:=id hb
 simp only at hc hd hc2 hd2
 subst hc hd hc2 hd2
 exact Oq (op:=.Lt) ⟨_,ho,rfl⟩ ⟨_,ho2,rfl⟩ Qg Qb (PJ _ _) (uG l b items items2 n n2 dd dd2 sl sl2 e f)
  ⟨ho,ho2,he,show Value.bool _≠Value.notImplemented/\Q (.bool _) s from⟨(λx=>nomatch x),h⟩⟩ hu
end
end UfLt
end
section
namespace UfLt
open PySem PySem.Spec PySem.SeqAt PyProof.Rows L2 UfSrt
structure Ask(A:Around)(s:Shared){α:Type}[DecidableEq α](lt:α->α->Bool)(R:α->Value->Prop):Prop where
 fn:∀{a c u},R a u->R c u->a=c
 eq:∀{a c u v},R a u->R c v->EqAt A s u v (decide (a=c))
 lt:∀{a c u v},R a u->R c v->a≠c->iu A s u v (lt a c)
section
variable {A:Around}{s:Shared}
def ltI(a c:Int):Bool:=decide (a<c)
def GR(a c:Str):Bool:=decide (a.cps.toList<c.cps.toList)
def Jg(a:Int)(u:Value):Prop:=∃t,u=.int a t
def GQ(a:Str)(u:Value):Prop:=∃t,u=.str a t
def HJ:Ask A s ltI Jg where
 fn:=by rintro a c u ⟨t,rfl⟩ ⟨t',e⟩;cases e;rfl
 eq:=by
  rintro a c u v ⟨t,rfl⟩ ⟨t',rfl⟩
  have:=ft (A:=A) (s:=s) (y:=.int a) (x:=.int c) ⟨t,rfl⟩ ⟨t',rfl⟩ rfl rfl
  have e:pD (.int a) (.int c)=decide (a=c):=by show(a==c)=_;rw[Lu];simp
  rwa[e]at this
 lt:=by
  rintro a c u v ⟨t,rfl⟩ ⟨t',rfl⟩ _
  exactλprog w E Q h=>HT.sM A s a t c t' prog w E Q h
def IQ:Ask A s GR GQ where
 fn:=by rintro a c u ⟨t,rfl⟩ ⟨t',e⟩;cases e;rfl
 eq:=by
  rintro a c u v ⟨t,rfl⟩ ⟨t',rfl⟩
  have:=ft (A:=A) (s:=s) (y:=.str a) (x:=.str c) ⟨t,rfl⟩ ⟨t',rfl⟩ rfl rfl
  have e:pD (.str a) (.str c)=decide (a=c):=by show(a==c)=_;rw[Lu];simp
  rwa[e]at this
 lt:=by
  rintro a c u v ⟨t,rfl⟩ ⟨t',rfl⟩ _
  exactλprog w E Q h=>(lt_str h:wpAny (model prog w) A (compareOp .Lt (.str a t) (.str c t')) Q E s)
end
def eI{α:Type}[DecidableEq α](lt:α->α->Bool):List α->List α->Bool
 |[],[]=>false
 |[],_::_=>true
 |_::_,[]=>false
 |a::as,c::cs=>if a=c then eI lt as cs else lt a c
def Kq{α:Type}(lt:α->α->Bool):Option α->Option α->Bool
 |some a,some c=>lt a c
 |_,_=>false
def Dm{α:Type}[DecidableEq α](lt:α->α->Bool)(as cs:List α):∀(k i:Nat),min as.length cs.length-i=k->i<=min as.length cs.length ->
  res (λj=>decide (as[j]?=cs[j]?)) (λj=>Kq lt as[j]? cs[j]?) as.length cs.length i=eI lt (as.drop i) (cs.drop i):=by
 intro k
 induction k with
 |zero =>
  intro i hk hi
  rw[lx (by lia)]
  rcases Nat.lt_trichotomy as.length cs.length with z|z|z
  ·rw[LP (show as.length<=i by lia),LO (show i<cs.length by lia),KC z]
   rfl
  ·rw[LP (show as.length<=i by lia),LP (show cs.length<=i by lia),KU (by lia)]
   rfl
  ·rw[LP (show cs.length<=i by lia),LO (show i<as.length by lia),KU (by lia)]
   rfl
 |succ k ih =>
  intro i hk hi
  have h1:i<as.length:=by lia
  have h2:i<cs.length:=by lia
  rw[iz (by lia),ih (i+1) (by lia) (by lia),LO h1,LO h2]
  show _=if as[i]=cs[i] then _ else _
  rw[Kx h1,Kx h2]
  by_cases e:as[i]=cs[i]
  ·rw[KP e,KC (by rw[e]),KP rfl]
  ·rw[KD e,KU (λz=>e (Lq z)),KD Lb]
   rfl
def all_eq{α:Type}[DecidableEq α]{as cs:List α}(h:as.length=cs.length):((List.range as.length).all λj=>decide (as[j]?=cs[j]?))=decide (as=cs):=by
 rw[Lu,LS,Lp]
 constructor
 ·intro z
  refine NB λj=>?_
  by_cases hj:j<as.length
  ·exact Ln (z j (Ly.mpr hj))
  ·rw[Ll (by lia),Ll (by lia)]
 ·rintro rfl j _
  exact KC rfl
theorem j9{α:Type}{R:α->Value->Prop}(h:∀a c u,R a u->R c u->a=c):∀{as cs:List α} {us:List Value},Paired R as us->Paired R cs us->as=cs
 |_,_,_,.nil,.nil=>rfl
 |_,_,_,.cons h1 t1,.cons h2 t2=>by rw[h _ _ _ h1 h2,j9 h t1 t2]
def kb(s:Shared){α:Type}(R:α->Value->Prop)(as:List α)(v:Value):Prop:=∃p us,v=.ref p/\s.heap.IsList p us.toArray/\Paired R as us
section
variable {A:Around}{s:Shared}{α β γ:Type}[DecidableEq α][DecidableEq β][DecidableEq γ]{lt:α->α->Bool}{R:α->Value->Prop}{lt':β->β->Bool}{R':β->Value->Prop}{lt'':γ->γ->Bool}{R'':γ->Value->Prop}
def zL{as cs:List α}{us vs:List Value}(h:Ask A s lt R)(p1:Paired R as us)(p2:Paired R cs vs){j:Nat}(h1:j<us.toArray.size)(h2:j<vs.toArray.size) :
  EqAt A s us.toArray[j] vs.toArray[j] (decide (as[j]?=cs[j]?))/\(decide (as[j]?=cs[j]?)=false->iu A s us.toArray[j] vs.toArray[j] (Kq lt as[j]? cs[j]?)):=by
 have h1':j<us.length:=by simpa using h1
 have h2':j<vs.length:=by simpa using h2
 obtain⟨a,e1,r1⟩:=bH p1 (Kx h1')
 obtain⟨c,e2,r2⟩:=bH p2 (Kx h2')
 rw[e1,e2]
 have ed:decide (some a=some c)=decide (a=c):=Mj.mpr ⟨Lq,λz=>by rw[z]⟩
 rw[ed]
 exact⟨h.eq r1 r2,λz=>h.lt r1 r2 (M5 z)⟩
def Ask.list(h:Ask A.in1 s lt R)(hu:A.units<cLine):Ask A s (eI lt) (kb s R) where
 fn:=by
  rintro as cs v ⟨p,us,rfl,⟨o,e,_,n,d⟩,pr⟩ ⟨p',us',ep,⟨o',e',_,n',d'⟩,pr'⟩
  cases ep
  rw[e]at e'
  cases e'
  rw[d]at d'
  have:us=us':=by injection d' with z;simpa using z
  subst this
  exact j9 (R:=R) (λ_ _ _=>h.fn) pr pr'
 eq:=by
  rintro as cs u v ⟨p,us,rfl,i1,p1⟩ ⟨q,vs,rfl,i2,p2⟩
  have l1:=KZ p1
  have l2:=KZ p2
  by_cases e:p=q
  ·subst e
   obtain⟨o,e,_,n,d⟩:=id i1
   obtain⟨o',e',_,n',d'⟩:=id i2
   rw[e]at e'
   cases e'
   rw[d]at d'
   have:us=vs:=by injection d' with z;simpa using z
   subst this
   rw[KC (j9 (R:=R) (λ_ _ _=>h.fn) p1 p2)]
   exact EqAt.same _
  ·refine .of_refs e ?_
   by_cases hl:as.length=cs.length
   ·have:=RcAt.lists (A:=A) (e:=λj=>decide (as[j]?=cs[j]?)) i1 i2 (by simp;lia) hu λj h1 h2=>(zL h p1 p2 h1 h2).1
    rw[K8,<-l1,all_eq hl]at this
    exact this
   ·rw[KU (λz=>hl (by rw[z]))]
    exact RcAt.lists_lengths i1 i2 (by simp;lia) hu
 lt:=by
  rintro as cs u v ⟨p,us,rfl,i1,p1⟩ ⟨q,vs,rfl,i2,p2⟩ _
  have l1:=KZ p1
  have l2:=KZ p2
  have:=iu.lists (e:=λj=>decide (as[j]?=cs[j]?)) (f:=λj=>Kq lt as[j]? cs[j]?) i1 i2 hu λj h1 h2=>zL h p1 p2 h1 h2
  rw[K8,K8,<-l1,<-l2,Dm lt as cs _ 0 rfl (K2 _)]at this
  exact this
def GO(lt:α->α->Bool)(lt':β->β->Bool)(x y:α×β):Bool:=if x.1=y.1 then lt' x.2 y.2 else lt x.1 y.1
def gk(s:Shared)(R:α->Value->Prop)(R':β->Value->Prop)(x:α×β)(v:Value):Prop:=∃p u w,v=.ref p/\IsTup s.heap p #[u,w]/\R x.1 u/\R' x.2 w
def FZ{h:Heap}{p:Addr}{i j:Array Value}(a:IsTup h p i)(b:IsTup h p j):i=j:=by
 obtain⟨o,e,_,n,d⟩:=a
 obtain⟨o',e',_,n',d'⟩:=b
 rw[e]at e'
 cases e'
 rw[d]at d'
 injection d'
def Ask.pair(h:Ask A.in1 s lt R)(h':Ask A.in1 s lt' R')(hu:A.units<cLine):Ask A s (GO lt lt') (gk s R R'):=by
 have fn:∀{x y v},gk s R R' x v->gk s R R' y v->x=y:=by
  rintro⟨a,b⟩ ⟨c,d⟩ v ⟨p,u,w,rfl,t1,r1,r2⟩ ⟨p',u',w',ep,t2,r3,r4⟩
  cases ep
  have z:=FZ t1 t2
  have z:u=u'/\w=w':=by simpa using z
  obtain⟨rfl,rfl⟩:=z
  rw[show a=c from h.fn r1 r3,show b=d from h'.fn r2 r4]
 have at':∀{a c:α} {b d:β} {u w u' w':Value},R a u->R' b w->R c u'->R' d w'->∀j (h1:j<(#[u,w]:Array Value).size) (h2:j<(#[u',w']:Array Value).size),
   EqAt A.in1 s #[u,w][j] #[u',w'][j] (if j=0 then decide (a=c) else decide (b=d))/\((if j=0 then decide (a=c) else decide (b=d))=false->iu A.in1 s #[u,w][j] #[u',w'][j] (if j=0 then lt a c else lt' b d)):=by
  intro a c b d u w u' w' r1 r2 r3 r4 j h1 h2
  match j,h1,h2 with
  |0,_,_=>exact⟨h.eq r1 r3,λz=>h.lt r1 r3 (M5 z)⟩
  |1,_,_=>exact⟨h'.eq r2 r4,λz=>h'.lt r2 r4 (M5 z)⟩
 refine⟨fn,?_,?_⟩
 ·rintro⟨a,b⟩ ⟨c,d⟩ v v' ⟨p,u,w,rfl,t1,r1,r2⟩ ⟨q,u',w',rfl,t2,r3,r4⟩
  by_cases e:p=q
  ·subst e
   rw[KC (fn ⟨p,u,w,rfl,t1,r1,r2⟩ ⟨p,u',w',rfl,t2,r3,r4⟩)]
   exact EqAt.same _
  ·refine .of_refs e ?_
   have:=RcAt.tuples (A:=A) (e:=λj=>if j=0 then decide (a=c) else decide (b=d)) t1 t2 hu λj h1 h2=>(at' r1 r2 r3 r4 j h1 h2).1
   have q:((List.range (min (#[u,w]:Array Value).size (#[u',w']:Array Value).size)).all (λj=>if j=0 then decide (a=c) else decide (b=d))&&(#[u,w]:Array Value).size==(#[u',w']:Array Value).size)=decide ((a,b)=(c,d)):=by
    show((decide (a=c)&&(decide (b=d)&&true))&&true)=_
    rw[Lu]
    simp
   rwa[q]at this
 ·rintro⟨a,b⟩ ⟨c,d⟩ v v' ⟨p,u,w,rfl,t1,r1,r2⟩ ⟨q,u',w',rfl,t2,r3,r4⟩ ne
  have:=iu.tuples (A:=A) (e:=λj=>if j=0 then decide (a=c) else decide (b=d)) (f:=λj=>if j=0 then lt a c else lt' b d) t1 t2 hu (at' r1 r2 r3 r4)
  have q:res (λj=>if j=0 then decide (a=c) else decide (b=d)) (λj=>if j=0 then lt a c else lt' b d) (#[u,w]:Array Value).size (#[u',w']:Array Value).size 0=GO lt lt' (a,b) (c,d):=by
   show res _ _ 2 2 0=if a=c then lt' b d else lt a c
   rw[iz (by decide)]
   by_cases e:a=c
   ·have nb:b≠d:=λz=>ne (by rw[e,z])
    rw[KP e,KP (by rw[KP rfl];exact KC e),iz (by decide),KD (by rw[KD (by decide)];simpa using nb)]
    rfl
   ·rw[KD e,KD (by rw[KP rfl];simpa using e)]
    rfl
  rwa[q]at this
def IZ(lt:α->α->Bool)(lt':β->β->Bool)(lt'':γ->γ->Bool)(x y:α×β×γ):Bool:=if x.1=y.1 then GO lt' lt'' x.2 y.2 else lt x.1 y.1
def ug(s:Shared)(R:α->Value->Prop)(R':β->Value->Prop)(R'':γ->Value->Prop)(x:α×β×γ)(v:Value):Prop:=∃p u w y,v=.ref p/\IsTup s.heap p #[u,w,y]/\R x.1 u/\R' x.2.1 w/\R'' x.2.2 y
def Ask.E1(h:Ask A.in1 s lt R)(h':Ask A.in1 s lt' R')(h'':Ask A.in1 s lt'' R'')(hu:A.units<cLine){x y:α×β×γ}{v v':Value}(hx:ug s R R' R'' x v)(hy:ug s R R' R'' y v'):iu A s v v' (if x=y then false else IZ lt lt' lt'' x y):=by
 obtain⟨a,b,z⟩:=x
 obtain⟨c,d,z'⟩:=y
 obtain⟨p,u,w,k,rfl,t1,r1,r2,r3⟩:=hx
 obtain⟨q,u',w',k',rfl,t2,r4,r5,r6⟩:=hy
 have at':∀j (h1:j<(#[u,w,k]:Array Value).size) (h2:j<(#[u',w',k']:Array Value).size),
   EqAt A.in1 s #[u,w,k][j] #[u',w',k'][j] (if j=0 then decide (a=c) else if j=1 then decide (b=d) else decide (z=z'))/\((if j=0 then decide (a=c) else if j=1 then decide (b=d) else decide (z=z'))=false->iu A.in1 s #[u,w,k][j] #[u',w',k'][j] (if j=0 then lt a c else if j=1 then lt' b d else lt'' z z')):=by
  intro j h1 h2
  match j,h1,h2 with
  |0,_,_=>exact⟨h.eq r1 r4,λz=>h.lt r1 r4 (M5 z)⟩
  |1,_,_=>exact⟨h'.eq r2 r5,λz=>h'.lt r2 r5 (M5 z)⟩
  |2,_,_=>exact⟨h''.eq r3 r6,λz=>h''.lt r3 r6 (M5 z)⟩
 have:=iu.tuples (A:=A) (e:=λj=>if j=0 then decide (a=c) else if j=1 then decide (b=d) else decide (z=z')) (f:=λj=>if j=0 then lt a c else if j=1 then lt' b d else lt'' z z') t1 t2 hu at'
 have q:res (λj=>if j=0 then decide (a=c) else if j=1 then decide (b=d) else decide (z=z')) (λj=>if j=0 then lt a c else if j=1 then lt' b d else lt'' z z') (#[u,w,k]:Array Value).size (#[u',w',k']:Array Value).size 0=if (a,b,z)=(c,d,z') then false else IZ lt lt' lt'' (a,b,z) (c,d,z'):=by
  show res _ _ 3 3 0=if _ then false else if a=c then(if b=d then lt'' z z' else lt' b d) else lt a c
  rw[iz (by decide)]
  by_cases e:a=c
  ·rw[KP (by rw[KP rfl];exact KC e),KP e,iz (by decide)]
   by_cases e2:b=d
   ·rw[KP (by rw[KD (by decide),KP rfl];exact KC e2),KP e2,iz (by decide)]
    by_cases e3:z=z'
    ·rw[KP (by rw[KD (by decide),KD (by decide)];exact KC e3),KP (by rw[e,e2,e3]),lx (by decide)]
     rfl
    ·rw[KD (by rw[KD (by decide),KD (by decide)];simpa using e3),KD (show ¬(a,b,z)=(c,d,z') fromλq=>e3 (LZ (λt=>t.2.2) q))]
     rfl
   ·rw[KD (by rw[KD (by decide),KP rfl];simpa using e2),KD e2,KD (show ¬(a,b,z)=(c,d,z') fromλq=>e2 (LZ (λt=>t.2.1) q))]
    rfl
  ·rw[KD (by rw[KP rfl];simpa using e),KD e,KD (show ¬(a,b,z)=(c,d,z') fromλq=>e (LZ (λt=>t.1) q))]
   rfl
 rwa[q]at this
end
end UfLt
end
section
namespace UfLt
open PySem
structure sR{α:Type}(lt:α->α->Bool):Prop where
 irr:∀a,lt a a=false
 tri:∀a c,a≠c->(lt a c=true/\lt c a=false)\/(lt a c=false/\lt c a=true)
 tr:∀a b c,lt a b=true->lt b c=true->lt a c=true
def Hy:sR ltI where
 irr a:=KU (by lia)
 tri a c n:=by
  rcases Int.lt_or_lt_of_ne n with z|z
  ·exact .inl ⟨KC z,KU (by lia)⟩
  ·exact .inr ⟨KU (by lia),KC z⟩
 tr a b c h1 h2:=KC (by have:=Ln h1;have:=Ln h2;lia)
def IM:sR GR where
 irr a:=KU (List.lt_irrefl _)
 tri a c n:=by
  have n':a.cps.toList≠c.cps.toList:=λz=>n (by
   obtain⟨x⟩:=a
   obtain⟨y⟩:=c
   exact LZ _ (Pp.mp z))
  by_cases z:a.cps.toList<c.cps.toList
  ·exact .inl ⟨KC z,KU (List.lt_asymm z)⟩
  ·refine .inr ⟨KU z,KC ?_⟩
   by_cases y:c.cps.toList<a.cps.toList
   ·exact y
   ·exact absurd (List.le_antisymm (QD.mp y) (QD.mp z)) n'
 tr a b c h1 h2:=KC (List.lt_trans (Ln h1) (Ln h2))
section
variable {α β γ:Type}[DecidableEq α][DecidableEq β][DecidableEq γ]{lt:α->α->Bool}{lt':β->β->Bool}{lt'':γ->γ->Bool}
theorem sI:∀as:List α,eI lt as as=false
 |[]=>rfl
 |a::as=>by
  show(if a=a then eI lt as as else _)=false
  rw[KP rfl]
  exact sI as
theorem rq(h:sR lt):∀as cs:List α,as≠cs->(eI lt as cs=true/\eI lt cs as=false)\/(eI lt as cs=false/\eI lt cs as=true)
 |[],[],n=>absurd rfl n
 |[],_::_,_=>.inl ⟨rfl,rfl⟩
 |_::_,[],_=>.inr ⟨rfl,rfl⟩
 |a::as,c::cs,n=>by
  show((if a=c then eI lt as cs else lt a c)=true/\(if c=a then eI lt cs as else lt c a)=false)\/((if a=c then eI lt as cs else lt a c)=false/\(if c=a then eI lt cs as else lt c a)=true)
  by_cases e:a=c
  ·subst e
   rw[KP rfl,KP rfl]
   exact rq h as cs λz=>n (by rw[z])
  ·rw[KD e,KD (Li e)]
   exact h.tri a c e
theorem xc(h:sR lt):∀as bs cs:List α,eI lt as bs=true->eI lt bs cs=true->eI lt as cs=true
 |[],[],_,h1,_=>by cases h1
 |[],_::_,[],_,h2=>by cases h2
 |[],_::_,_::_,_,_=>rfl
 |_::_,[],_,h1,_=>by cases h1
 |_::_,_::_,[],_,h2=>by cases h2
 |a::as,b::bs,c::cs,h1,h2=>by
  have h1:(if a=b then eI lt as bs else lt a b)=true:=h1
  have h2:(if b=c then eI lt bs cs else lt b c)=true:=h2
  show(if a=c then eI lt as cs else lt a c)=true
  by_cases e:a=b
  ·subst e
   rw[KP rfl]at h1
   by_cases e2:a=c
   ·rw[KP e2]at h2 ⊢
    exact xc h as bs cs h1 h2
   ·rw[KD e2]at h2 ⊢
    exact h2
  ·rw[KD e]at h1
   by_cases e2:b=c
   ·subst e2
    rw[KD e]
    exact h1
   ·rw[KD e2]at h2
    have:=h.tr a b c h1 h2
    by_cases e3:a=c
    ·subst e3
     rw[h.irr]at this
     cases this
    ·rw[KD e3]
     exact this
def sR.list(h:sR lt):sR (eI lt):=⟨sI,rq h,xc h⟩
def sR.pair(h:sR lt)(h':sR lt'):sR (GO lt lt') where
 irr x:=by
  show(if x.1=x.1 then lt' x.2 x.2 else _)=false
  rw[KP rfl]
  exact h'.irr _
 tri x y n:=by
  obtain⟨a,b⟩:=x
  obtain⟨c,d⟩:=y
  show((if a=c then lt' b d else lt a c)=true/\(if c=a then lt' d b else lt c a)=false)\/((if a=c then lt' b d else lt a c)=false/\(if c=a then lt' d b else lt c a)=true)
  by_cases e:a=c
  ·subst e
   rw[KP rfl,KP rfl]
   exact h'.tri b d λz=>n (by rw[z])
  ·rw[KD e,KD (Li e)]
   exact h.tri a c e
 tr x y z h1 h2:=by
  obtain⟨a,a'⟩:=x
  obtain⟨b,b'⟩:=y
  obtain⟨c,c'⟩:=z
  have h1:(if a=b then lt' a' b' else lt a b)=true:=h1
  have h2:(if b=c then lt' b' c' else lt b c)=true:=h2
  show(if a=c then lt' a' c' else lt a c)=true
  by_cases e:a=b
  ·subst e
   rw[KP rfl]at h1
   by_cases e2:a=c
   ·rw[KP e2]at h2 ⊢
    exact h'.tr _ _ _ h1 h2
   ·rw[KD e2]at h2 ⊢
    exact h2
  ·rw[KD e]at h1
   by_cases e2:b=c
   ·subst e2
    rw[KD e]
    exact h1
   ·rw[KD e2]at h2
    have:=h.tr a b c h1 h2
    by_cases e3:a=c
    ·subst e3
     rw[h.irr]at this
     cases this
    ·rw[KD e3]
     exact this
def sR.E1(h:sR lt)(h':sR lt')(h'':sR lt''):sR (IZ lt lt' lt''):=h.pair (h'.pair h'')
end
end UfLt
end
section
namespace L2
open PySem PySem.Spec PyProof.Rows UfLt Uf
abbrev qU:=Int×List Str×List (Int×List Str)
def jP:qU->qU->Bool:=IZ ltI (eI GR) (eI (GO ltI (eI GR)))
def qj:sR jP:=Hy.E1 IM.list (Hy.pair IM.list).list
def iT(H:Hp)(a:Addr)(k:qU):Prop:=∃p q rs,H a=some (.tup [.int k.1,.ref p,.ref q])/\H p=some (.lst (aH k.2.1))/\H q=some (.lst (rs.map V.ref))/\Paired (λ(x:Int×List Str) r=>∃b,H r=some (.tup [.int x.1,.ref b])/\H b=some (.lst (aH x.2))) k.2.2 rs
def iT.same{H H':Hp}{a:Addr}{k:qU}(h:iT H a k)(s:aq H H'):iT H' a k:=by
 obtain⟨p,q,rs,h1,h2,h3,h4⟩:=h
 exact⟨p,q,rs,s _ _ h1,s _ _ h2,s _ _ h3,Paired.cH h4 λ_ _ ⟨b,e1,e2⟩=>⟨b,s _ _ e1,s _ _ e2⟩⟩
section
variable {X:Cx}{pins:List (Addr×Obj)}{σ:St}{H:Hp}{s:Shared}
theorem vU:∀{xs:List Str} {us:List Value},Vals (aH xs) us->Paired GQ xs us
 |[],_,.nil=>.nil
 |_::_,_,.cons r rs=>.cons r (vU rs)
def xI(I:Inv X pins σ H s){b:Addr}{xs:List Str}(h:H b=some (.lst (aH xs))):kb s GQ xs (.ref b):=by
 obtain⟨its,r,pl,_⟩:=I.list (aA.of (K:=X.K) h)
 exact⟨b,its,rfl,pl.isList,vU r⟩
def BG(I:Inv X pins σ H s){a:Addr}{k:qU}(h:iT H a k):ug s Jg (kb s GQ) (kb s (gk s Jg (kb s GQ))) k (.ref a):=by
 obtain⟨p,q,rs,h1,h2,h3,h4⟩:=h
 obtain⟨its,r1,p1,_⟩:=I.tuple (bX.of (K:=X.K) h1)
 cases r1 with
 |cons r1 t1 =>
  cases t1 with
  |cons r2 t2 =>
   cases t2 with
   |cons r3 t3 =>
    cases t3
    cases r2
    cases r3
    refine⟨a,_,_,_,rfl,p1,r1,xI I h2,?_⟩
    obtain⟨us,r,pl,_⟩:=I.list (aA.of (K:=X.K) h3)
    refine⟨q,us,rfl,pl.isList,?_⟩
    have go:∀{xs:List (Int×List Str)} {rs:List Addr} {us:List Value},Paired (λ(x:Int×List Str) r=>∃b,H r=some (.tup [.int x.1,.ref b])/\H b=some (.lst (aH x.2))) xs rs->Vals (rs.map V.ref) us->Paired (gk s Jg (kb s GQ)) xs us:=by
     intro xs rs us hp
     induction hp generalizing us with
     |nil=>intro hv;cases hv;exact .nil
     |cons h0 _ ih =>
      intro hv
      cases hv with
      |cons r0 rt =>
       cases r0
       obtain⟨b,e1,e2⟩:=h0
       obtain⟨its,q1,p1,_⟩:=I.tuple (bX.of (K:=X.K) e1)
       cases q1 with
       |cons q1 t1 =>
        cases t1 with
        |cons q2 t2 =>
         cases t2
         cases q2
         exact .cons ⟨_,_,_,rfl,p1,q1,xI I e2⟩ (ih rt)
    exact go h4 r
def zE:fZ X (compareOp .Lt) (λx y H Q=>∃a b k k',x=.ref a/\y=.ref b/\X.A.units+4<cLine/\iT H a k/\iT H b k'/\Q (.bl (jP k k')) H):=by
 intro pins s σ H x y v u Q I rx ry h
 obtain⟨a,b,k,k',rfl,rfl,hu,ha,hb,q⟩:=h
 cases rx
 cases ry
 have u1:X.A.units<cLine:=by lia
 have u2:X.A.in1.units<cLine:=by show X.A.units+1<cLine;lia
 have u3:X.A.in1.in1.units<cLine:=by show X.A.units+1+1<cLine;lia
 have u4:X.A.in1.in1.in1.units<cLine:=by show X.A.units+1+1+1<cLine;lia
 have:=Ask.E1 (A:=X.A) (s:=s) HJ (IQ.list u2) ((HJ.pair (IQ.list u4) u3).list u2) u1 (BG I ha) (BG I hb)
 have e:(if k=k' then false else IZ ltI (eI GR) (eI (GO ltI (eI GR))) k k')=jP k k':=by
  split
  ·rename_i z
   rw[z]
   exact(qj.irr k').symm
  ·rfl
 rw[e]at this
 exact this X.prog X.w X.xe _ ⟨.bl _,H,I,rfl,q⟩
end
end L2
end
section
namespace Uf
open PySem L2 UfB UfSrt UfTs UfLt
abbrev Jn:Stmt:=top 3
abbrev xf:Stmt:=top 4
abbrev wU:Stmt:=top 5
def mF(f:WF)(T:List Nat):List (List Str):=(gJ f T).map λl=>aI (l.map (hE f))
abbrev tX(H:Hp):List (List Str)->List Addr->Prop:=Paired λl a=>H a=some (.lst (aH l))
def uN(L:List (List Str)):qU:=((L.flatten.length:Int),aI L.flatten,L.map λl=>((l.length:Int),l))
def rk(f:WF)(T:List Nat):qU:=uN (mF f T)
section
variable {P:Program}{w:World}{C CW x:Addr}{H:Hp}{B:WA}{ms:List Mv}{S:List Str}{f:WF}
def c7.ocN(W:c7 P w C CW H x B ms S f):∃qs:List Addr,H B.aO=some (.lst (qs.map V.ref))/\∀o,o<f.oc.length->∃q t,(qs.map V.ref)[o]?=some (V.ref q)/\H q=some (.tup [.str (hE f o),.ref t]):=by
 obtain⟨qs,h1,h2,_⟩:=W.oc
 have lq:=KZ h2
 refine⟨qs,h1,λo ho=>?_⟩
 have hq:qs[o]?=some (qs[o]'(by lia)):=Kx (by lia)
 obtain⟨p,hp,t,a,b⟩:=bE h2 hq
 have:hE f o=p.1:=by unfold hE;rw[List.getD_eq_getElem?_getD,hp];rfl
 exact⟨_,t,by rw[KH,hq];rfl,by rw[this];exact a⟩
end
def Eh{f:WF}{T:List Nat}{i:Nat}{t:List Nat}(h:(gJ f T)[i]?=some t):i<gq f T/\t=lvl f T i:=by
 have:=(KQ.mp h).1
 rw[eJ]at this
 refine⟨this,?_⟩
 unfold gJ at h
 rw[KH,Mz this]at h
 exact(Lq h).symm
def kr{α:Type}(L:List (List α))(i:Nat):(L.take i).flatten.length<=L.flatten.length:=by
 conv=>rhs;rw[<-M8 i L,MU,KA]
 exact ME _ _
def HC(P:Program)(w:World)(C CW:Addr):Sp:=λvs H Q _=>∃(x l:Addr) (B:WA) (ms:List Mv) (S:List Str) (f:WF) (T:List Nat),vs=[.ref x,.ref l]/\c7 P w C CW H x B ms S f/\gB f ms S 14/\H l=some (.lst (nats T))/\rV f T /\
 ∀(H':Hp) (r:Addr) (as:List Addr),aq H H'->H' r=some (.lst (as.map V.ref))->tX H' (mF f T) as->Q (.ref r) H'
def HA:aD ["web", "troop"] ["web", "troop"] (ar Jn):=eA
inductive Ji(H:Hp)(D:Addr)(L:List (List Str))(i:Nat)(ys:List V)(H2:Hp):Prop
 |mk (bs:List Addr) (q0:ys=bs.map V.ref) (q1:aq H H2) (q2:H2 D=some (.lst ys)) (q3:tX H2 (L.take i) bs) (q4:D∉bs)
def Ji.put{H H2 H3:Hp}{D b:Addr}{L:List (List Str)}{t:List Str}{i:Nat}{bs:List Addr}(hD:H D=none)(q1:aq H H2)(q2:H2 D=some (.lst (bs.map V.ref)))(q3:tX H2 (L.take i) bs)(q4:D∉bs)(ht:L[i]?=some t)(s:aq H2 H3)(hb:H3 b=some (.lst (aH t)))(nb:b≠D):Ji H D L (i+1) (bs.map V.ref++[V.ref b]) (upd H3 D (.lst (bs.map V.ref++[V.ref b]))):=by
 refine⟨bs++[b],by rw[KS];rfl,aU (q1.trans s) hD,ag,?_,λz=>?_⟩
 ·rw[au ht]
  refine L1 (jO q3 λt c hc e=>?_) ?_
  ·rw[ah (by rintro rfl;exact q4 hc)]
   exact s _ _ e
  ·rw[ah nb]
   exact hb
 ·rcases KW.mp z with z|z
  ·exact q4 z
  ·exact nb (KG.mp z).symm
def HB{f C CW:Addr}{fd:FuncData}(F:dj K "level_names" "level_names" Jn f fd)(T0:Txt K mg)(CT:gX K CW)
  (DL:gI P w K mg base "levels" Jh ["web", "troop"] 1 (Ib P w C CW)) :
  a9 P w K mg base cR 2 f fd ["web", "troop"] (HC P w C CW):=by
 refine F.oK HA λcdv A outer s H vs Q E hr h=>?_
 ·obtain⟨x,l,B,ms,S,f,T,rfl,W,wk,hl,tr,kk⟩:=h
  have hsl:=Lg
  refine⟨_,aj (aK (bB (N:=["level", "web"]) (n:=1) (ci:=[0]) rfl (aL (e7 DL hr (aa (pv 0) (aa (pv 1) ae)))) (iO HA)
   (λz=>⟨g0 0,bD,ay cy rfl T0.aI cj (aa (bB (N:=["one", "web"]) (n:=1) (ci:=[1]) rfl (aL (pv 0)) ⟨rfl,by decide +kernel,by decide +kernel,(λy hy hf=>by simp only[KR,Lx,Mi]at hy;rcases hy with rfl|rfl|rfl <;> first|exact .inl rfl|exact .inr rfl|cases hf),rfl,(λj i e=>by match j,e with|0,e=>cases e;exact ⟨"web",rfl,rfl,rfl⟩)⟩
    (λz=>⟨g0 0,bD,aM dF (aM aE (aZ (pv 1) rfl) (pv 0) (λ_ _=>rfl)) ak (λ_ _=>rfl)⟩)) ae)⟩))),?_⟩
  try dsimp only[bK,Cx.dP,Cx.bQ]
  have oc:=wk.oc
  have lT:T.length<=14:=by
   have:=iM (a:=0) (n:=f.oc.length) tr.inc λo ho=>⟨K2 _,tr.lt o ho⟩
   lia
  have lh:gq f T<=14:=Lh (qr tr.lt) oc
  refine⟨_,rfl,_,rfl,x,l,B,ms,S,f,T,rfl,W,wk,hl,tr,λH1 r as s1 hr1 hls _ _ _=>?_⟩
  have las:as.length=gq f T:=by rw[<-KZ hls,eJ]
  refine⟨r,rfl,⟨_,aA.of hr1⟩,λz D hD=>cg (a:=r) (xs:=as.map V.ref) (Ji H1 D (mF f T)) ⟨[],rfl,ao hD,ag,.nil,(λz=>nomatch z)⟩ (λi ys H2 _ h=>by obtain⟨_,_,b,_⟩:=h;exact aA.of (b _ _ hr1)) ?_ ?_⟩
  ·rintro i v ys H2 hi ⟨bs,rfl,s2,hD2,hbs,nD⟩
   obtain⟨a,ha,rfl⟩:=fV hi
   obtain⟨t,ht,hat⟩:=bH hls ha
   have hn:(mF f T)[i]?=some (aI (t.map (hE f))):=by unfold mF;rw[List.getElem?_map,ht];rfl
   have ha2:=s2 _ _ hat
   have lbs:=KZ hbs
   rw[La]at lbs
   obtain⟨il,rfl⟩:=Eh ht
   have W2:=W.same (s1.trans s2)
   have lt:(lvl f T i).length<=14:=Lh (LH _ _) lT
   refine⟨_,rfl,a,rfl,⟨_,aA.of ha2⟩,λz D2 hD2'=>eF (zs:=lvl f T i) (v:=nat) (F:=λo=>some (V.str (hE f o))) (aA.of ha2) (by lia) hD2' (λo ho H3 s3 no yes _ hyes=>?_) λH3 s3 hD3=>?_⟩
   ·obtain⟨qs,e1,e2⟩:=(W2.same s3).ocN
    obtain⟨q,t,e3,e4⟩:=e2 o (tr.lt o (gW.mp ho).1)
    exact⟨_,rfl,x,CW,B.dx,_,_,rfl,s3 _ _ W2.ad.ins,CT.cl,CT.nO,B.fO,_,rfl,B.aO,_,_,_,rfl,rfl,aA.of e1,aF (j:=o) e3,q,_,0,_,rfl,rfl,bX.of e4,aF (j:=0) rfl,hyes _ rfl _ (aq.refl _)⟩
   rw[filterMap_some]at hD3
   have hD3:H3 D2=some (.lst (aH ((lvl f T i).map (hE f)))):=by
    rw[hD3]
    unfold aH
    rw[Lk]
    rfl
   refine⟨D2,_,rfl,aA.of hD3,by rw[Kw];lia,λso nso=>⟨?_,by rw[Kw];lia,Ji.put hD s2 hD2 hbs nD hn (s3.trans (ao nso)) ag (ai (s3 _ _ hD2) nso).symm⟩⟩
   exact ao nso _ _ (s3 _ _ hD2)
  ·rintro ys H2 ⟨bs,rfl,s2,hD2,hbs,nD⟩
   rw[List.length_map,las,<-eJ,show(gJ f T).length=(mF f T).length by unfold mF;rw[List.length_map],List.take_length]at hbs
   exact kk H2 D bs (s1.trans s2) hD2 hbs
def AJ{A:Around}{k:Nat}(hr:cI k A):A.units+4<cLine:=Lz (OT (by decide:4<=64) _) hr.units
def Eg(f:WF)(T:List Nat):(mF f T).length=gq f T:=by unfold mF;rw[List.length_map,eJ]
def tU{f:WF}{T:List Nat}(t:rV f T):(mF f T).flatten.Perm (T.map (hE f)):=by
 have h1:∀L:List (List Nat),(L.map λl=>aI (l.map (hE f))).flatten.Perm (L.flatten.map (hE f)):=by
  intro L
  induction L with
  |nil=>exact .nil
  |cons l L ih =>
   rw[LK,Oo,Oo,KS]
   exact(bN _).append ih
 refine(h1 _).trans (List.Perm.map _ ?_)
 have:=cT (gJ f T).flatten
 rw[ye t]at this
 exact this.symm
def BI:Sp:=λvs H Q _=>∃(r:Addr) (as:List Addr) (L:List (List Str)),vs=[.ref r]/\H r=some (.lst (as.map V.ref))/\tX H L as/\L.flatten.length<=14/\L.length<=14/\∀H' a,aq H H'->iT H' a (uN L)->Q (.ref a) H'
def ma:aD ["names_by_level", "names", "level"] ["names_by_level"] (ar xf):=eA
inductive RkI(H:Hp)(r:Addr)(L:List (List Str))(i:Nat)(σ:St)(H2:Hp):Prop
 |mk (na:Addr) (v2:Option V) (q0:σ=[some (.ref r),some (.ref na),v2]) (q1:aq H H2) (q2:H2 na=some (.lst (aH (L.take i).flatten)))
inductive GJ(H:Hp)(D:Addr)(L:List (List Str))(i:Nat)(ys:List V)(H2:Hp):Prop
 |mk (rs:List Addr) (q0:ys=rs.map V.ref) (q1:aq H H2) (q2:H2 D=some (.lst ys)) (q3:Paired (λ(x:Int×List Str) r=>∃b,H2 r=some (.tup [.int x.1,.ref b])/\b≠D/\H2 b=some (.lst (aH x.2))) ((L.take i).map λl=>((l.length:Int),l)) rs)
def GJ.put{H H2 H3:Hp}{D b r:Addr}{L:List (List Str)}{t:List Str}{i:Nat}{rs:List Addr}(hD:H D=none)(q1:aq H H2)(q2:H2 D=some (.lst (rs.map V.ref)))(q3:Paired (λ(x:Int×List Str) r=>∃b,H2 r=some (.tup [.int x.1,.ref b])/\b≠D/\H2 b=some (.lst (aH x.2))) ((L.take i).map λl=>((l.length:Int),l)) rs)(ht:L[i]?=some t)(s:aq H2 H3)(hr:H3 r=some (.tup [.int (t.length:Int),.ref b]))(nb:b≠D)(hb:H3 b=some (.lst (aH t))):GJ H D L (i+1) (rs.map V.ref++[V.ref r]) (upd H3 D (.lst (rs.map V.ref++[V.ref r]))):=by
 have hD3:=s _ _ q2
 have tp:∀{c:Addr} {xs:List V},H3 c=some (.tup xs)->(upd H3 D (.lst (rs.map V.ref++[V.ref r]))) c=some (.tup xs):=λe=>by rw[ah (aQ e hD3 (λz=>nomatch z))];exact e
 refine⟨rs++[r],by rw[KS];rfl,aU (q1.trans s) hD,ag,?_⟩
 rw[au ht,KS]
 refine L1 (Paired.cH q3 λx r ⟨b,e1,e2,e3⟩=>⟨b,tp (s _ _ e1),e2,by rw[ah e2];exact s _ _ e3⟩) ⟨b,tp hr,nb,by rw[ah nb];exact hb⟩
def Ee{f:Addr}{fd:FuncData}(F:dj K "rank" "rank" xf f fd)(T0:Txt K mg):a9 P w K mg base cR 1 f fd ["names_by_level"] BI:=by
 refine F.oK ma λcdv A outer s H vs Q E hr h=>?_
 ·obtain⟨r,as,L,rfl,hr0,hls,lf,lL,kk⟩:=h
  have hsl:=Lg
  refine⟨_,af (cD 1 ma (bz ae))
   (af (bo K7 rfl (aL (pv 0)) (eu 2 ma) (aj (cD 1 ma (az jf (pv 1) (pv 2)))))
   (aj (aK (dR (aa (ay aY rfl T0.len cx (aa (pv 1) ae)) (aa (ay cy rfl T0.aI cj (aa (pv 1) ae)) (aa (bB (N:=["level"]) (n:=1) (ci:=[]) rfl (aL (pv 0)) (iO ma)
    (λz=>⟨g0 0,bD,dR (aa (ay aY rfl T0.len cx (aa (pv 0) ae)) (aa (pv 0) ae))⟩)) ae))))))),?_⟩
  try dsimp only[bK,Cx.dP,Cx.bQ]
  have las:as.length=L.length:=(KZ hls).symm
  refine⟨K2 _,λna H1 nna s1 hna=>?_⟩
  refine⟨_,rfl,r,rfl,⟨_,aA.of (s1 _ _ hr0)⟩,bq (K:=K) (a:=r) (xs:=as.map V.ref) (RkI H r L) ⟨na,none,rfl,s1,hna⟩ (λi σ H2 _ h=>by obtain⟨_,_,_,b,_⟩:=h;exact aA.of (b _ _ hr0)) ?_ ?_⟩
  ·rintro i v σ H2 hi ⟨na,v2,rfl,s2,hna2⟩
   obtain⟨a,ha,rfl⟩:=fV hi
   obtain⟨t,ht,hat⟩:=bH hls ha
   have:=kr L (i+1)
   rw[au ht,MU,MZ,KA]at this
   refine⟨_,rfl,_,rfl,na,a,_,_,rfl,rfl,hna2,s2 _ _ hat,by rw[aw,aw];lia,λp np=>⟨p,_,rfl,s2.trans (ao np),?_⟩⟩
   rw[ag,au ht,MU,MZ]
   unfold aH
   rw[KS]
  ·rintro σ H2 ⟨na,v2,rfl,s2,hna2⟩
   rw[Kw,las,Le]at hna2
   refine⟨_,rfl,_,L.flatten.length,rfl,.inl ⟨_,aA.of hna2,by rw[aw]⟩,_,rfl,na,_,rfl,aA.of hna2,by lia,λso nso=>?_⟩
   obtain⟨H3,eU,s3,hso⟩:=oh nso (.lst (aH (aI L.flatten)))
   rw[eU]
   have s03:=s2.trans s3
   have hr3:=s03 _ _ hr0
   refine⟨_,rfl,r,rfl,⟨_,aA.of hr3⟩,λz D hD=>cg (a:=r) (xs:=as.map V.ref) (GJ H3 D L) ⟨[],rfl,ao hD,ag,.nil⟩ (λi ys H2 _ h=>by obtain⟨_,_,b,_⟩:=h;exact aA.of (b _ _ hr3)) ?_ ?_⟩
   ·rintro i v ys H4 hi ⟨rs,rfl,s4,hD4,hrs⟩
    obtain⟨a,ha,rfl⟩:=fV hi
    obtain⟨t,ht,hat⟩:=bH hls ha
    have il:=(KQ.mp ht).1
    have ha4:=s4 _ _ (s03 _ _ hat)
    have lrs:=KZ hrs
    rw[Kw,La]at lrs
    refine⟨_,rfl,_,t.length,rfl,.inl ⟨_,aA.of ha4,by rw[aw]⟩,_,rfl,by show 2<=sizeLine;lia,λp H5 np s5 hp=>⟨s5 _ _ hD4,by rw[Kw];lia,GJ.put hD s4 hD4 hrs ht s5 hp (ai (s03 _ _ hat) hD) (s5 _ _ ha4)⟩⟩
   ·rintro ys H4 ⟨rs,rfl,s4,hD4,hrs⟩
    rw[Kw,las,Le]at hrs
    refine⟨by show 3<=sizeLine;lia,λa H5 na s5 ha=>kk H5 a (s03.trans (s4.trans s5)) ⟨so,D,rs,ha,(s4.trans s5) _ _ hso,s5 _ _ hD4,Paired.cH hrs λx r ⟨b,e1,_,e3⟩=>⟨b,s5 _ _ e1,s5 _ _ e3⟩⟩⟩
def pK(P:Program)(w:World)(C CW:Addr):Sp:=λvs H Q _=>∃(x l l':Addr) (B:WA) (ms:List Mv) (S:List Str) (f:WF) (T T':List Nat),vs=[.ref x,.ref l,.ref l']/\c7 P w C CW H x B ms S f/\gB f ms S 14/\H l=some (.lst (nats T))/\rV f T/\H l'=some (.lst (nats T'))/\rV f T'/\∀H',aq H H'->Q (.bl (jP (rk f T) (rk f T'))) H'
def FN:aD ["web", "one", "other"] ["web", "one", "other"] (ar wU):=eA
def pz{f:WF}{ms:List Mv}{S:List Str}{T:List Nat}(wk:gB f ms S 14)(t:rV f T):T.length<=14:=by
 have:=iM (a:=0) (n:=f.oc.length) t.inc λo ho=>⟨K2 _,t.lt o ho⟩
 have:=wk.oc
 lia
def qJ{f:WF}{ms:List Mv}{S:List Str}{T:List Nat}(wk:gB f ms S 14)(t:rV f T):(mF f T).flatten.length<=14/\(mF f T).length<=14:=by
 refine⟨?_,by rw[Eg];exact Lh (qr t.lt) wk.oc⟩
 rw[(tU t).length_eq,Kw]
 exact pz wk t
def Dk{f C CW:Addr}{fd:FuncData}(F:dj K "less" "less" wU f fd)
  (DN:gI P w K mg base "level_names" Jn ["web", "troop"] 2 (HC P w C CW))
  (DR:gI P w K mg base "rank" xf ["names_by_level"] 1 BI) :
  a9 P w K mg base cR 3 f fd ["web", "one", "other"] (pK P w C CW):=by
 refine F.oK FN λcdv A outer s H vs Q E hr h=>?_
 ·obtain⟨x,l,l',B,ms,S,f,T,T',rfl,W,wk,hl,tr,hl',tr',kk⟩:=h
  refine⟨_,aj (aK (de zE (e7 DR (hr.mono (by decide)) (aa (e7 DN hr (aa (pv 0) (aa (pv 1) ae))) ae)) (e7 DR (hr.mono (by decide)) (aa (e7 DN hr (aa (pv 0) (aa (pv 2) ae))) ae)) (bC _))),?_⟩
  try dsimp only[bK,Cx.dP,Cx.bQ]
  obtain⟨n1,n2⟩:=qJ wk tr
  obtain⟨n3,n4⟩:=qJ wk tr'
  refine⟨_,rfl,_,rfl,x,l,B,ms,S,f,T,rfl,W,wk,hl,tr,λH1 r as s1 hr1 hn1=>⟨r,as,_,rfl,hr1,hn1,n1,n2,λH2 a s2 ha=>?_⟩⟩
  have s02:=s1.trans s2
  refine⟨_,rfl,_,rfl,x,l',B,ms,S,f,T',rfl,W.same s02,wk,s02 _ _ hl',tr',λH3 r' as' s3 hr3 hn3=>⟨r',as',_,rfl,hr3,hn3,n3,n4,λH4 a' s4 ha'=>?_⟩⟩
  exact⟨a,a',_,_,rfl,rfl,AJ hr,ha.same (s3.trans s4),ha',kk H4 (s02.trans (s3.trans s4))⟩
abbrev Ei:Stmt:=top 61
def ox(f:WF)(T:List Nat):List (List Str):=(gJ f T).map λl=>l.map (hE f)
def qd(f:WF)(T:List Nat)(o:Nat):List (List Str):=(hU f T o).map λl=>l.map (hE f)
def BZ(f:WF)(T:List Nat):(ox f T).length=gq f T:=by unfold ox;rw[List.length_map,eJ]
def vX(f:WF)(T:List Nat)(o:Nat):qd f T o=if lv f o=gq f T then ox f T++[[]] else ox f T:=by
 unfold qd hU ox
 split
 ·rw[KS]
  rfl
 ·rfl
theorem tX.set{H:Hp}{tss:List (List Str)}{as:List Addr}(h:tX H tss as)(nd:as.Nodup){i:Nat}{a:Addr}(ha:as[i]?=some a)(t:List Str):tX (upd H a (.lst (aH t))) (tss.set i t) as:=by
 induction h generalizing i with
 |nil=>cases ha
 |@cons t0 a0 ts as h0 hr ih =>
  have nd':=LR.mp nd
  cases i with
  |zero =>
   cases ha
   refine .cons ag (jO hr λt b hb e=>?_)
   rw[ah (by rintro rfl;exact nd'.1 hb)]
   exact e
  |succ i =>
   have hm:a∈as:=KJ ha
   refine .cons ?_ (ih nd'.2 ha)
   rw[ah (by rintro rfl;exact nd'.1 hm)]
   exact h0
def zA{H H2:Hp}{as:List Addr}{fo:Addr}{T:List Nat}{f:WF}{k:Nat}(q1:aq H H2)(q3:H2 fo=some (.lst (as.map V.ref)))(q4:tX H2 (qd f T k) as)(q5:as.Nodup)(q6:fo∉as)(q7:∀a∈fo::as,H a=none)(hl:lv f k<=gq f T) :
  ∃a,as[lv f k]?=some a/\H2 a=some (.lst (aH ((lvl f T (lv f k)).map (hE f))))/\aq H (upd H2 a (.lst (aH ((lvl f T (lv f k)).map (hE f))++[V.str (hE f k)])))/\(upd H2 a (.lst (aH ((lvl f T (lv f k)).map (hE f))++[V.str (hE f k)]))) fo=some (.lst (as.map V.ref))/\tX (upd H2 a (.lst (aH ((lvl f T (lv f k)).map (hE f))++[V.str (hE f k)]))) (ox f (T++[k])) as:=by
 have e0:(qd f T k)[lv f k]?=some ((lvl f T (lv f k)).map (hE f)):=by unfold qd;rw[List.getElem?_map,rp hl];rfl
 obtain⟨a,ha,e⟩:=jW q4 e0
 have hm:=KJ ha
 refine⟨a,ha,e,aU q1 (q7 a (K6 _ hm)),?_,?_⟩
 ·rw[ah (by rintro rfl;exact q6 hm)]
  exact q3
 ·have e1:ox f (T++[k])=(qd f T k).set (lv f k) ((lvl f T (lv f k)).map (hE f)++[hE f k]):=by
   unfold ox qd
   rw[oQ hl,List.map_set,KS]
   rfl
  have e2:aH ((lvl f T (lv f k)).map (hE f))++[V.str (hE f k)]=aH ((lvl f T (lv f k)).map (hE f)++[hE f k]):=by unfold aH;rw[List.map_append];rfl
  rw[e1,e2]
  exact tX.set q4 q5 ha _
def EL(P:Program)(w:World)(C CW:Addr):Sp:=λvs H Q _=>∃(x l:Addr) (B:WA) (ms:List Mv) (S:List Str) (f:WF) (T:List Nat),vs=[.ref x,.ref l]/\c7 P w C CW H x B ms S f/\gB f ms S 14/\H l=some (.lst (nats T))/\rV f T /\
 ∀(H':Hp) (r:Addr) (as:List Addr),aq H H'->H' r=some (.lst (as.map V.ref))->tX H' (ox f T) as->Q (.ref r) H'
def iS:aD ["_law_web", "_law_troop_here", "_law_stood", "_law_came", "_law_layers_here", "_law_deep_of", "_law_number", "_law_givers", "_law_deep"] ["_law_web", "_law_troop_here"] (ar Ei):=eA
inductive LyI(H:Hp)(x l sd ca nd fo:Addr)(f:WF)(T:List Nat)(i:Nat)(σ:St)(H2:Hp):Prop
 |mk (v4 v5 v6:Option V) (as:List Addr) (q0:σ=[some (.ref x),some (.ref l),some (.ref sd),some (.ref ca),some (.ref fo),some (.ref nd),v4,v5,v6]) (q1:aq H H2) (q2:H2 nd=some (.dK (kN (λo=>nat (lv f o)) (T.take i)))) (q3:H2 fo=some (.lst (as.map V.ref))) (q4:tX H2 (ox f (T.take i)) as) (q5:as.Nodup) (q6:fo∉as) (q7:∀a∈fo::as,H a=none)
def yC{fL C CW:Addr}{fd:FuncData}(F:dj K "_law_layers" "_law_layers" Ei fL fd)(T0:Txt K mg)(mx:mg "max"=none)(CT:gX K CW)
  (DS:jE P w K mg base CW "spots" "Web.spots" yy ["self"] 1 (mJ P w C CW WA.aS))
  (DO:jE P w K mg base CW "occurrences" "Web.occurrences" AW ["self"] 1 (mJ P w C CW WA.aO)):a9 P w K mg base cR 2 fL fd ["_law_web", "_law_troop_here"] (EL P w C CW):=by
 refine F.oK iS λcdv A outer s H vs Q E hr h=>?_
 ·obtain⟨x,l,B,ms,S,f,T,rfl,W,wk,hl,tr,kk⟩:=h
  have hu:=eZ hr
  have hsl:=Lg
  refine⟨_,af (cD 2 iS (cE (pv 0) CT.cl DS.d.mt DS.g hr DS.d.bd .nil br))
   (af (cD 3 iS (cE (pv 0) CT.cl DO.d.mt DO.g hr DO.d.bd .nil br))
   (af (cD 4 iS (bz ae))
   (af (cD 5 iS gz)
   (af (bo K7 rfl (aL (pv 1)) (eu 6 iS)
    (af (fX (j:=7) (N:=["_law_spot", "_law_stood"]) (n:=1) (ci:=[2]) rfl iS.nd rfl rfl (gN (aM dF (aM aE (pv 3) (pv 6) (λ_ _=>rfl)) ak (λ_ _=>rfl))) (iO iS) (λz=>⟨g0 0,bD,aM dF (aM aE (pv 1) (pv 0) (λ_ _=>rfl)) ak (λ_ _=>rfl)⟩))
    (af (cD 8 iS (we rfl rfl mx (aa (bB (N:=["_law_giver", "_law_deep_of"]) (n:=1) (ci:=[5]) rfl (aL (pv 7)) (iO iS) (λz=>⟨g0 0,fg (a8 lB (pv 0) gS (bC _)),az cY (iF hu (pv 1) (pv 0) (λ_ _=>rfl)) ak⟩)) ae) (wz ak zD)))
    (af (gQ hu (pv 5) (pv 6) (pv 8) rfl)
    (af (bO (a8 hX (pv 8) (ay aY rfl T0.len cx (aa (pv 4) ae)) (bC _)) (aj (bj (c8 Lf Lc Ld bf (pv 4) (aa (bz ae) ae)))) aX)
    (aj (bj (c8 Lf Lc Ld bf (aM aE (pv 4) (pv 8) (λ_ _=>rfl)) (aa (aM dF (aM aE (pv 3) (pv 6) (λ_ _=>rfl)) ak (λ_ _=>rfl)) ae)))))))))
   (aj (aK (pv 4))))))),?_⟩
  try dsimp only[bK,Cx.dP,Cx.bQ]
  have oc:=wk.oc
  have lT:T.length<=14:=by
   have:=iM (a:=0) (n:=f.oc.length) tr.inc λo ho=>⟨K2 _,tr.lt o ho⟩
   lia
  obtain⟨sq,sp1,sp2⟩:=W.FW
  obtain⟨oq,oc1,ocl,oc2⟩:=W.FQ
  obtain⟨oq',oc1',oc3⟩:=W.ocN
  obtain rfl:oq=oq':=by
   rw[oc1]at oc1'
   injection oc1' with z
   injection z with z
   exact Oa (λ_ _ z=>by injection z) |>.mp z
  clear oc1'
  refine⟨_,rfl,x,B.dx,_,rfl,W.ad.ins,cF B _ (by decide +kernel),x,B,ms,S,f,_,rfl,W,sp1,λsd nsd=>?_⟩
  obtain⟨H1,eU,t1,hsd⟩:=oh nsd (.lst (sq.map V.ref))
  rw[eU]
  have W1:=W.same t1
  refine⟨_,rfl,x,B.dx,_,rfl,W1.ad.ins,cF B _ (by decide +kernel),x,B,ms,S,f,_,rfl,W1,t1 _ _ oc1,λca nca=>?_⟩
  obtain⟨H2,eU,t2,hca⟩:=oh nca (.lst (oq.map V.ref))
  rw[eU]
  have s0':=t1.trans t2
  have hsd2:=t2 _ _ hsd
  refine⟨K2 _,λfo H3 nfo s1 hfo nd nnd=>?_⟩
  have hl2:=s0' _ _ hl
  have sb:aq H2 (upd H3 nd (.dK [])):=s1.trans (ao nnd)
  have frs0:∀a∈[fo],H2 a=none:=λa ha=>by
   rw[KG.mp ha]
   exact nfo
  have nnd2:H2 nd=none:=s1.free nnd
  refine⟨_,rfl,l,rfl,⟨_,aA.of (sb _ _ hl2)⟩,bq (K:=K) (a:=l) (xs:=nats T) (LyI H2 x l sd ca nd fo f T) ⟨none,none,none,[],rfl,sb,ag,ao nnd _ _ hfo,.nil,.nil,(λz=>nomatch z),frs0⟩ (λi σ H2 _ h=>by obtain⟨_,_,_,_,_,b,_⟩:=h;exact aA.of (b _ _ hl2)) ?_ ?_⟩
  ·rintro i v σ Hq hi ⟨v4,v5,v6,as,rfl,s2,hnd,hfo,hls,asn,fon,iU⟩
   obtain⟨o,ho,rfl⟩:=dJ hi
   have hoT:=KJ ho
   have hol:=tr.lt o hoT
   have sq2:=s0'.trans s2
   obtain⟨q,t,m,o3,o4,o5⟩:=oc2 o hol
   have o4:=sq2 _ _ o4
   have o5:=sq2 _ _ o5
   have hca2:=s2 _ _ hca
   obtain⟨tk4,tkl⟩:=wk.tk hol
   obtain⟨q',t',o3',o4'⟩:=oc3 o hol
   have hot:o∉T.take i:=wY tr.inc ho
   have gT:∀g∈mC f o,g∈T.take i:=λg hg=>sH tr.inc ho (tr.cl o hoT g hg).1 (tr.cl o hoT g hg).2
   have et:T.take (i+1)=T.take i++[o]:=au ho
   have lti:(T.take i).length<=14:=by rw[La];lia
   have lle:lv f o<=gq f (T.take i):=En (tr.eq hoT) gT
   refine⟨_,rfl,_,rfl,ca,_,_,_,rfl,rfl,aA.of hca2,aF (j:=o) o3,q,_,1,_,rfl,rfl,bX.of o4,aF (j:=1) rfl,t,rfl,⟨_,bX.of o5⟩,λz D hD=>mq (zs:=kQ f o) (v:=nat) (F:=λs=>some (gv (bR f.W.sp s))) (bX.of o5) (by lia) hD (λs hs H3 s3 no yes _ hyes=>?_) λH3 s3 hD3=>?_⟩
   ·obtain⟨q,m,e3,e4⟩:=sp2 s (tkl s hs)
    exact⟨_,rfl,_,rfl,sd,_,_,_,rfl,rfl,aA.of (s3 _ _ (s2 _ _ hsd2)),aF (j:=s) e3,q,_,1,_,rfl,rfl,bX.of (s3 _ _ (sq2 _ _ e4)),aF (j:=1) rfl,hyes _ rfl _ (aq.refl _)⟩
   rw[filterMap_some]at hD3
   have hnd3:=s3 _ _ hnd
   refine⟨_,rfl,D,rfl,⟨_,aA.of hD3⟩,λz2 D2 hD2=>eF (zs:=kQ f o) (v:=λs=>gv (bR f.W.sp s)) (F:=λs=>(bR f.W.sp s).map λg=>V.int ((lv f g:Nat)+1)) (aA.of hD3) (by lia) hD2 (λs hs H4 s4 no yes hno hyes=>?_) λH4 s4 hD4=>?_⟩
   ·refine⟨_,rfl,rfl,_,rfl,?_⟩
    cases eg:bR f.W.sp s with
    |none=>exact bF (hno (by rw[eg];rfl) _ (aq.refl _))
    |some g =>
     have hg:g∈mC f o:=MF.mpr ⟨s,hs,eg⟩
     exact cv ⟨_,rfl,_,rfl,nd,nat (lv f g),rfl,.inl ⟨_,Sum.inl (g:Int),.inl (s4 _ _ hnd3),rfl,by rw[mG,KP (gT g hg)]⟩,_,_,rfl,rfl,hyes _ (by rw[eg];rfl) _ (aq.refl _)⟩
   have e4:(kQ f o).filterMap (λs=>(bR f.W.sp s).map λg=>V.int ((lv f g:Nat)+1))=(((mC f o).map (lv f)).map λx=>((x:Nat):Int)+1).map V.int:=by
    unfold mC
    rw[Lk,Lk,List.map_filterMap]
    rfl
   rw[e4]at hD4
   refine⟨D2,_,0,rfl,rfl,aA.of hD4,λM hM=>?_⟩
   have eM:=mx0 hM
   rw[Lk,show my ((mC f o).map ((· + 1) ∘ lv f))=lv f o from(tr.eq hoT).symm]at eM
   subst eM
   have s34:=s3.trans s4
   have hnd4:=s34 _ _ hnd
   refine⟨_,rfl,_,rfl,_,rfl,nd,_,rfl,ku.k (k:=Sum.inl (o:Int)) hnd4 (by rw[vJ];lia),?_⟩
   rw[show putK (kN (λo=>nat (lv f o)) (T.take i)) (Sum.inl (o:Int):Key) (V.int (lv f o:Nat))=kN (λo=>nat (lv f o)) (T.take (i+1)) by rw[et];exact(vi _ o _).trans (by unfold qc;rw[if_neg hot])]
   have nf:fo≠nd:=aQ (s34 _ _ hfo) hnd4 (λz=>nomatch z)
   have s5:aq H2 (upd H4 nd (.dK (kN (λo=>nat (lv f o)) (T.take (i+1))))):=aU (s2.trans s34) nnd2
   have hfo5:(upd H4 nd (.dK (kN (λo=>nat (lv f o)) (T.take (i+1))))) fo=some (.lst (as.map V.ref)):=by rw[ah nf];exact s34 _ _ hfo
   have hls5:tX (upd H4 nd (.dK (kN (λo=>nat (lv f o)) (T.take (i+1))))) (ox f (T.take i)) as:=Paired.cH hls λt a e=>by rw[ah (aQ (s34 _ _ e) hnd4 (λz=>nomatch z))];exact s34 _ _ e
   have hnd5:(upd H4 nd (.dK (kN (λo=>nat (lv f o)) (T.take (i+1))))) nd=some (.dK (kN (λo=>nat (lv f o)) (T.take (i+1)))):=ag
   generalize upd H4 nd (.dK (kN (λo=>nat (lv f o)) (T.take (i+1))))=H5 at s5 hfo5 hls5 hnd5 ⊢
   have la:as.length=gq f (T.take i):=by rw[<-KZ hls5,BZ]
   have lh:gq f (T.take i)<=14:=Lh (qr λo ho=>tr.lt o (L0 ho)) oc
   refine⟨_,rfl,_,rfl,_,as.length,rfl,.inl ⟨_,aA.of hfo5,by rw[Kw]⟩,rfl,_,rfl,?_⟩
   by_cases ee:lv f o=gq f (T.take i)
   ·rw[KC (show V.int (lv f o:Nat)=V.int (as.length:Nat) by rw[la,ee])]
    refine cv ⟨_,rfl,.inl ⟨rfl,_,aA.of hfo5⟩,K2 _,λa H6 na s6 ha=>⟨fo,_,_,rfl,rfl,s6 _ _ hfo5,by rw[Kw];lia,?_⟩⟩
    have naf:fo≠a:=ai hfo5 na
    have nda:a≠nd:=(ai hnd5 na).symm
    have naa:a∉as:=λz=>by
     obtain⟨j,hj⟩:=MJ.mp z
     obtain⟨_,_,e⟩:=bH hls5 hj
     rw[na]at e
     cases e
    have na0:H2 a=none:=s5.free na
    have s7:aq H2 (upd H6 fo (.lst (as.map V.ref++[V.ref a]))):=aU (s5.trans s6) (iU fo K9)
    have hfo7:(upd H6 fo (.lst (as.map V.ref++[V.ref a]))) fo=some (.lst ((as++[a]).map V.ref)):=by rw[ag,KS];rfl
    have hnd7:(upd H6 fo (.lst (as.map V.ref++[V.ref a]))) nd=some (.dK (kN (λo=>nat (lv f o)) (T.take (i+1)))):=by rw[ah nf.symm];exact s6 _ _ hnd5
    have hls7:tX (upd H6 fo (.lst (as.map V.ref++[V.ref a]))) (qd f (T.take i) o) (as++[a]):=by
     rw[vX]
     rw[KP ee]
     refine L1 (jO hls5 λt b hb e=>?_) ?_
     ·rw[ah (by rintro rfl;exact fon hb)]
      exact s6 _ _ e
     ·rw[ah naf.symm]
      exact ha
    have fon7:fo∉as++[a]:=λz=>by
     rcases KW.mp z with z|z
     ·exact fon z
     ·exact naf (KG.mp z)
    have asn7:(as++[a]).Nodup:=LM.mpr ⟨asn,by simp,λu hu v hv e=>by rw[KG.mp hv]at e;exact naa (e ▸ hu)⟩
    have frs7:∀u∈fo::(as++[a]),H2 u=none:=λu hu=>by
     rcases KR.mp hu with z|z
     ·exact iU u (z ▸ K9)
     ·rcases KW.mp z with z|z
      ·exact iU u (K6 _ z)
      ·rw[KG.mp z]
       exact na0
    generalize upd H6 fo (.lst (as.map V.ref++[V.ref a]))=H7 at s7 hfo7 hnd7 hls7 ⊢
    obtain⟨b,hb,e1,e2,e3,e4⟩:=zA s7 hfo7 hls7 asn7 fon7 frs7 lle
    have ll:(lvl f (T.take i) (lv f o)).length<=(T.take i).length:=LH _ _
    refine⟨_,rfl,_,rfl,fo,_,_,V.ref b,rfl,rfl,aA.of hfo7,aF (j:=lv f o) (by rw[KH,hb];rfl),.inl ⟨rfl,_,aA.of e1⟩,_,rfl,_,rfl,ca,_,_,_,rfl,rfl,aA.of (s7 _ _ hca),aF (j:=o) o3',q',_,0,_,rfl,rfl,bX.of (s7 _ _ (s0' _ _ o4')),aF (j:=0) rfl,b,_,_,rfl,rfl,e1,by rw[aw,Kw];lia,_,_,_,as++[a],rfl,e2,?_,e3,by rw[et];exact e4,asn7,fon7,frs7⟩
    rw[ah (aQ hnd7 e1 (λz=>nomatch z))]
    exact hnd7
   ·rw[KU (show ¬V.int (lv f o:Nat)=V.int (as.length:Nat) fromλz=>ee (by injection z with z;lia))]
    refine bF ?_
    have hls7:tX H5 (qd f (T.take i) o) as:=by
     rw[vX]
     rw[KD ee]
     exact hls5
    obtain⟨b,hb,e1,e2,e3,e4⟩:=zA s5 hfo5 hls7 asn fon iU lle
    have ll:(lvl f (T.take i) (lv f o)).length<=(T.take i).length:=LH _ _
    refine⟨_,rfl,_,rfl,fo,_,_,V.ref b,rfl,rfl,aA.of hfo5,aF (j:=lv f o) (by rw[KH,hb];rfl),.inl ⟨rfl,_,aA.of e1⟩,_,rfl,_,rfl,ca,_,_,_,rfl,rfl,aA.of (s5 _ _ hca),aF (j:=o) o3',q',_,0,_,rfl,rfl,bX.of (s5 _ _ (s0' _ _ o4')),aF (j:=0) rfl,b,_,_,rfl,rfl,e1,by rw[aw,Kw];lia,_,_,_,as,rfl,e2,?_,e3,by rw[et];exact e4,asn,fon,iU⟩
    rw[ah (aQ hnd5 e1 (λz=>nomatch z))]
    exact hnd5
  ·rintro σ Hq ⟨v4,v5,v6,as,rfl,s2,hnd,hfo,hls,asn,fon,iU⟩
   rw[bp,Le]at hls
   exact⟨_,rfl,kk Hq fo as (s0'.trans s2) hfo hls⟩
end Uf
end
section
namespace Uf
open PySem L2 UfB UfSrt UfTs
abbrev qm:Stmt:=top 60
def Ci{g:Nat}{T:List Nat}(h:Cp (nat g) (nats T)=true):g∈T:=by
 obtain⟨y,hy,e⟩:=Mq.mp h
 obtain⟨n,hn,rfl⟩:=K0.mp hy
 have e:((n:Int)==(g:Int))=true:=e
 have:n=g:=by have:=eq_of_beq e;lia
 exact this ▸ hn
def km(T:List Nat):(nats T).all eX=true:=LS.mpr λv hv=>by
 obtain⟨n,_,rfl⟩:=K0.mp hv
 rfl
structure ux(f:WF)(T:List Nat)(i:Nat):Prop where
 inc:T.Pairwise (· < ·)
 lt:∀o∈T,o<i
 cl:∀o∈T,∀g∈mC f o,g∈T/\g<o
def ux.skip{f:WF}{T:List Nat}{i:Nat}(h:ux f T i):ux f T (i+1):=⟨h.inc,λo ho=>Lw (h.lt o ho),h.cl⟩
def ux.snoc{f:WF}{T:List Nat}{i:Nat}(h:ux f T i)(k:∀g∈mC f i,g∈T):ux f (T++[i]) (i+1):=by
 refine⟨NO.mpr ⟨h.inc,List.pairwise_singleton _ _,λa ha b hb=>by rw[KG.mp hb];exact h.lt a ha⟩,λo ho=>?_,λo ho g hg=>?_⟩
 ·rcases KW.mp ho with z|z
  ·exact Lw (h.lt o z)
  ·rw[KG.mp z]
   exact Mc _
 ·rcases KW.mp ho with z|z
  ·exact⟨Lr _ (h.cl o z g hg).1,(h.cl o z g hg).2⟩
  ·rw[KG.mp z]at hg ⊢
   exact⟨Lr _ (k g hg),h.lt g (k g hg)⟩
def A5(T:List Nat)(o:Nat):(qc T o).length<=T.length+1:=by
 unfold qc
 split
 ·lia
 ·simp
def wM(P:Program)(w:World)(C CW:Addr):Sp:=λvs H Q _=>∃(x:Addr) (b:Int) (B:WA) (ms:List Mv) (S:List Str) (f:WF),vs=[.ref x,.int b]/\c7 P w C CW H x B ms S f/\gB f ms S 14 /\
 ∀(H':Hp) (r:Addr) (T:List Nat),aq H H'->H r=none->H' r=some (.lst (nats T))->kx f T->Q (.ref r) H'
def dA:aD ["_law_web", "_law_bits", "_law_stood", "_law_troop_here", "_law_gone", "_law_number", "_law_move", "_law_spots", "_law_fits", "_law_spot", "_law_giver"] ["_law_web", "_law_bits"] (ar qm):=eA
abbrev zO(G:List Nat):HO:=.dK (kN (λ_=>.bl true) G)
inductive TrI(H:Hp)(x sd th gd:Addr)(b:Int)(f:WF)(i:Nat)(σ:St)(H2:Hp):Prop
 |mk (v5 v6 v7 v8 v9 v10:Option V) (T G:List Nat) (q0:σ=[some (.ref x),some (.int b),some (.ref sd),some (.ref th),some (.ref gd),v5,v6,v7,v8,v9,v10]) (q1:∀c o,H c=some o->c≠th->c≠gd->H2 c=some o) (q2:H2 th=some (.lst (nats T))) (q3:H2 gd=some (zO G)) (q4:G.length<=4*i) (q5:ux f T i) (q6:∀o∈T,∀s∈kQ f o,s∈G) (q7:∀o∈T,∀o'∈T,o≠o'->∀s∈kQ f o,s∉kQ f o')
inductive TrJ(H:Hp)(x sd th gd:Addr)(b:Int)(f:WF)(T G:List Nat)(U:List Nat)(v5 v6 v7:Option V)(j:Nat)(σ:St)(H2:Hp):Prop
 |mk (c:Bool) (v9 v10:Option V) (q0:σ=[some (.ref x),some (.int b),some (.ref sd),some (.ref th),some (.ref gd),v5,v6,v7,some (.bl c),v9,v10]) (q1:H2=H) (q2:c=true->∀s∈U.take j,s∉G/\∀g,bR f.W.sp s=some g->g∈T)
inductive TrG(H:Hp)(x sd th gd:Addr)(b:Int)(G U:List Nat)(v5 v6 v7 v8 v10:Option V)(j:Nat)(σ:St)(H2:Hp):Prop
 |mk (v9:Option V) (G':List Nat) (q0:σ=[some (.ref x),some (.int b),some (.ref sd),some (.ref th),some (.ref gd),v5,v6,v7,v8,v9,v10]) (q1:∀c o,H c=some o->c≠gd->H2 c=some o) (q3:H2 gd=some (zO G')) (q4:G'.length<=G.length+j) (q5:∀s,s∈G\/s∈U.take j->s∈G')
def Ae{f C CW:Addr}{fd:FuncData}(F:dj K "_law_troop" "_law_troop" qm f fd)(T0:Txt K mg)(T2:Txt2 mg)(CT:gX K CW)
  (DS:jE P w K mg base CW "spots" "Web.spots" yy ["self"] 1 (mJ P w C CW WA.aS))
  (DO:jE P w K mg base CW "occurrences" "Web.occurrences" AW ["self"] 1 (mJ P w C CW WA.aO)) :
  a9 P w K mg base cR 2 f fd ["_law_web", "_law_bits"] (wM P w C CW):=by
 refine F.oK dA λcdv A outer s H vs Q E hr h=>?_
 ·obtain⟨x,b,B,ms,S,f,rfl,W,wk,kk⟩:=h
  have hu:=eZ hr
  have hsl:=Lg
  refine⟨_,af (cD 2 dA (cE (pv 0) CT.cl DS.d.mt DS.g hr DS.d.bd .nil br))
   (af (cD 3 dA (bz ae))
   (af (cD 4 dA gz)
   (af (bo K7 rfl (lI rfl T2.enm (aa (cE (pv 0) CT.cl DO.d.mt DO.g hr DO.d.bd .nil br) ae)) (dQ rfl (aV (eu 5 dA) (aV (dQ rfl (aV (eu 6 dA) (aV (eu 7 dA) cZ))) cZ)))
    (af (cD 8 dA (de hX (az gf (az lK (pv 1) (pv 5)) ak) ak (bC _)))
    (af (bo K7 rfl (gN (pv 7)) (eu 9 dA)
     (af (cD 10 dA (aM dF (aM aE (pv 2) (pv 9) (λ_ _=>rfl)) ak (λ_ _=>rfl)))
     (aj (bO (PW.pt (pw_or (mr (F3 hu (pv 9) (pv 4))) (pw_or1 (PW.pt (pw_and (a8 lB (pv 10) gS (bC _)) (pw_and1 (a8 dc (pv 10) (pv 3) (by with_unfolding_all rfl)))))))) (aj (cD 8 dA jB)) aX))))
    (aj (bO (cG (pv 8))
     (af (bj (c8 Lf Lc Ld bf (pv 3) (aa (pv 5) ae)))
     (aj (bo K7 rfl (gN (pv 7)) (eu 9 dA) (aj (gQ hu (pv 4) (pv 9) jB rfl))))) aX)))))
   (aj (aK (pv 3)))))),?_⟩
  try dsimp only[bK,Cx.dP,Cx.bQ]
  have oc:=wk.oc
  obtain⟨sq,sp1,sp2⟩:=W.FW
  obtain⟨oq,oc1,ocl,oc2⟩:=W.FQ
  refine⟨_,rfl,x,B.dx,_,rfl,W.ad.ins,cF B _ (by decide +kernel),x,B,ms,S,f,_,rfl,W,sp1,λsd nsd=>?_⟩
  obtain⟨H1,eU,s1,hsd⟩:=oh nsd (.lst (sq.map V.ref))
  rw[eU]
  refine⟨K2 _,λth H2 nth s2 hth gd ngd=>?_⟩
  have s3:aq H2 (upd H2 gd (.dK [])):=ao ngd
  have hgd:(upd H2 gd (.dK [])) gd=some (zO []):=ag
  generalize upd H2 gd (.dK [])=H3 at s3 hgd ⊢
  have s13:=s2.trans s3
  have W3:=W.same (s1.trans s13)
  refine⟨_,rfl,x,B.dx,_,rfl,W3.ad.ins,cF B _ (by decide +kernel),x,B,ms,S,f,_,rfl,W3,(s1.trans s13) _ _ oc1,λol nol=>?_⟩
  obtain⟨H4,eU,s4,hol⟩:=oh nol (.lst (oq.map V.ref))
  rw[eU]
  have s04:=(s1.trans s13).trans s4
  have nth0:H th=none:=s1.free nth
  have ngd0:H gd=none:=(s1.trans s2).free ngd
  have hth4:=(s3.trans s4) _ _ hth
  have hgd4:=s4 _ _ hgd
  have hsd4:=(s13.trans s4) _ _ hsd
  have n1:sd≠th:=ai hsd nth
  have n2:sd≠gd:=aQ hsd4 hgd4 (λz=>nomatch z)
  have n3:ol≠th:=(ai (s3 _ _ hth) nol).symm
  have n4:ol≠gd:=(ai hgd nol).symm
  have n5:th≠gd:=aQ hth4 hgd4 (λz=>nomatch z)
  refine⟨ol,rfl,⟨_,aA.of hol⟩,jo (K:=K) (a:=ol) (xs:=oq.map V.ref) (TrI H4 x sd th gd b f) ⟨none,none,none,none,none,none,[],[],rfl,λ_ _ e _ _=>e,hth4,hgd4,KL _,⟨.nil,(λ_ h=>nomatch h),(λ_ h=>nomatch h)⟩,(λ_ h=>nomatch h),(λ_ h=>nomatch h)⟩ (λi σ H2 _ h=>by obtain⟨_,_,_,_,_,_,_,_,_,b,_⟩:=h;exact aA.of (b _ _ hol n3 n4)) ?_ ?_⟩
  ·rintro i v p σ H5 hi ⟨v5,v6,v7,v8,v9,v10,T,G,rfl,b5,hth5,hgd5,lG,tr,tG,cf⟩ np
   have il:i<f.oc.length:=by
    have:=(KQ.mp hi).1
    rw[Kw]at this
    lia
   obtain⟨q,t,m,o3,o4,o5⟩:=oc2 i il
   obtain rfl:v=.ref q:=by rw[o3]at hi;exact(Lq hi).symm
   obtain⟨tk4,tkl⟩:=wk.tk il
   obtain⟨H6,eU,s6,hp6⟩:=oh np (.tup [.int (i:Int),.ref q])
   rw[eU]
   have k6:∀{c o},H c=some o->H6 c=some o:=λ{c o} e=>s6 _ _ (b5 _ _ (s04 _ _ e) (ai e nth0) (ai e ngd0))
   have hth6:=s6 _ _ hth5
   have hgd6:=s6 _ _ hgd5
   have hsd6:=s6 _ _ (b5 _ _ hsd4 n1 n2)
   refine⟨p,_,rfl,bX.of hp6,rfl,_,_,rfl,_,_,rfl,q,_,rfl,bX.of (k6 o4),rfl,_,_,rfl,_,_,rfl,rfl,rfl,?_⟩
   refine⟨_,rfl,_,rfl,_,_,rfl,rfl,(by lia),_,_,rfl,rfl,rfl,?_⟩
   generalize decide (V.int _=V.int _)=c0
   refine⟨_,rfl,t,rfl,⟨_,bX.of (k6 o5)⟩,ju (K:=K) (a:=t) (xs:=nats (kQ f i)) (TrJ H6 x sd th gd b f T G (kQ f i) _ _ _) ⟨c0,_,_,rfl,rfl,λ_ _ h=>nomatch h⟩ (λi σ H2 _ h=>by cases h;subst_vars;exact bX.of (k6 o5)) ?_ ?_⟩
   ·rintro j v σ H7 hj ⟨c,v9,v10,rfl,rfl,hc⟩
    obtain⟨s,hs,rfl⟩:=dJ hj
    obtain⟨q2,m2,e3,e4⟩:=sp2 s (tkl s (KJ hs))
    refine⟨_,rfl,_,rfl,sd,_,_,_,rfl,rfl,aA.of hsd6,aF (j:=s) e3,q2,_,1,_,rfl,rfl,bX.of (k6 e4),aF (j:=1) rfl,?_⟩
    have up:s∉G->(∀g,bR f.W.sp s=some g->g∈T)->c=true->∀s∈(kQ f i).take (j+1),s∉G/\∀g,bR f.W.sp s=some g->g∈T:=λh0 h1 h2 s' hs'=>by
     rw[au hs]at hs'
     rcases KW.mp hs' with z|z
     ·exact hc h2 s' z
     ·rw[KG.mp z]
      exact⟨h0,h1⟩
    refine⟨_,rfl,_,rfl,gd,_,rfl,.inl ⟨_,Sum.inl (s:Int),.inl hgd6,rfl,rfl⟩,_,rfl,?_⟩
    cases ein:(dv (kN (λ_=>V.bl true) G) (Sum.inl (s:Int):Key)).isSome with
    |true=>exact cv (cv ⟨false,_,_,rfl,rfl,λz=>nomatch z⟩)
    |false =>
     have sG:s∉G:=λz=>by rw[mG,KP z]at ein;cases ein
     refine bF ⟨_,rfl,rfl,_,rfl,?_⟩
     cases eg:bR f.W.sp s with
     |none=>exact bF (bF ⟨c,_,_,rfl,rfl,up sG λg h=>by rw[eg]at h;cases h⟩)
     |some g =>
      refine cv ⟨_,rfl,_,rfl,th,_,rfl,.inl (aA.of hth6),rfl,km T,_,rfl,?_⟩
      cases eV:Cp (gv (some g)) (nats T) with
      |true=>exact bF ⟨c,_,_,rfl,rfl,up sG λg' h=>by rw[eg]at h;cases h;exact Ci eV⟩
      |false=>exact cv ⟨false,_,_,rfl,rfl,λz=>nomatch z⟩
   ·rintro σ H7 ⟨c,v9,v10,rfl,rfl,hc⟩
    rw[bp,Le]at hc
    refine⟨_,rfl,_,rfl,?_⟩
    cases c with
    |false=>exact bF ⟨_,_,_,_,_,_,T,G,rfl,λc o e a b=>s6 _ _ (b5 c o e a b),hth6,hgd6,by lia,tr.skip,tG,cf⟩
    |true =>
     have lT:T.length<=i:=iM (a:=0) tr.inc λo ho=>⟨K2 _,tr.lt o ho⟩
     refine cv ⟨_,rfl,.inl ⟨rfl,_,aA.of hth6⟩,_,rfl,th,_,_,rfl,rfl,hth6,by rw[bp];lia,?_⟩
     have nt:t≠th:=aQ (k6 o5) hth6 (λz=>nomatch z)
     refine⟨_,rfl,t,rfl,⟨_,bX.of (by rw[ah nt];exact k6 o5)⟩,ju (K:=K) (a:=t) (xs:=nats (kQ f i)) (TrG (upd H7 th (.lst (nats T++[nat i]))) x sd th gd b G (kQ f i) _ _ _ _ _) ⟨_,G,rfl,λ_ _ e _=>e,by rw[ah n5.symm];exact hgd6,KL _,λs h=>h.elim id λz=>nomatch z⟩ (λi σ H2 _ h=>by obtain⟨_,_,_,b,_⟩:=h;exact bX.of (b _ _ (by rw[ah nt];exact k6 o5) (aQ (k6 o5) hgd6 (λz=>nomatch z)))) ?_ ?_⟩
     ·rintro j v σ H8 hj ⟨v9,G',rfl,b8,hgd8,lG',hG'⟩
      obtain⟨s,hs,rfl⟩:=dJ hj
      have jl:=(KQ.mp hs).1
      refine⟨_,rfl,_,rfl,gd,_,rfl,ku.k (k:=Sum.inl (s:Int)) hgd8 (by rw[vJ];lia),?_⟩
      refine⟨_,qc G' s,rfl,λc o e n=>by rw[ah n];exact b8 c o e n,by rw[ag];exact LZ (λk=>some (HO.dK k)) (vi (λ_=>V.bl true) s G'),?_,λu hu=>?_⟩
      ·have:=A5 G' s
       lia
      ·rw[au hs]at hu
       rcases hu with z|z
       ·exact m8.mpr (.inl (hG' u (.inl z)))
       ·rcases KW.mp z with z|z
        ·exact m8.mpr (.inl (hG' u (.inr z)))
        ·exact m8.mpr (.inr (KG.mp z))
     ·rintro σ H8 ⟨v9,G',rfl,b8,hgd8,lG',hG'⟩
      rw[bp]at lG' hG'
      rw[Le]at hG'
      refine⟨_,_,_,_,_,_,T++[i],G',rfl,λc o e n m=>b8 _ _ (by rw[ah n];exact s6 _ _ (b5 c o e n m)) m,?_,hgd8,by lia,tr.snoc λg hg=>?_,λo ho s hs=>?_,λo ho o' ho' ne s hs=>?_⟩
      ·rw[rB]
       exact b8 _ _ ag n5
      ·obtain⟨s,hs,e⟩:=MF.mp hg
       exact(hc rfl s hs).2 g e
      ·rcases KW.mp ho with z|z
       ·exact hG' s (.inl (tG o z s hs))
       ·rw[KG.mp z]at hs
        exact hG' s (.inr hs)
      ·rcases KW.mp ho with z|z
       ·rcases KW.mp ho' with y|y
        ·exact cf o z o' y ne s hs
        ·rw[KG.mp y]
         exactλq=>(hc rfl s q).1 (tG o z s hs)
       ·rw[KG.mp z]at hs ne
        rcases KW.mp ho' with y|y
        ·exactλq=>(hc rfl s hs).1 (tG o' y s q)
        ·exact absurd (KG.mp y).symm ne
  ·rintro σ H5 ⟨v5,v6,v7,v8,v9,v10,T,G,rfl,b5,hth5,hgd5,lG,tr,tG,cf⟩
   rw[Kw,ocl]at tr
   exact⟨_,rfl,kk H5 th T (λc o e=>b5 _ _ (s04 _ _ e) (ai e nth0) (ai e ngd0)) nth0 hth5 ⟨⟨tr.inc,tr.lt,tr.cl⟩,cf⟩⟩
end Uf
end
section
namespace Uf
open PySem L2 UfB UfSrt UfTs UfLt
abbrev CP:Stmt:=top 62
def DQ(f:WF)(T:List Nat):mF f T=(ox f T).map aI:=by unfold mF ox;rw[List.map_map];rfl
theorem pA:∀L:List (List Str),(L.map aI).flatten.Perm L.flatten
 |[]=>.nil
 |l::L=>by
  rw[LK,Oo,Oo]
  exact(bN _).append (pA L)
def EA(P:Program)(w:World)(C CW:Addr):Sp:=λvs H Q _=>∃(x l:Addr) (B:WA) (ms:List Mv) (S:List Str) (f:WF) (T:List Nat),vs=[.ref x,.ref l]/\c7 P w C CW H x B ms S f/\gB f ms S 14/\H l=some (.lst (nats T))/\rV f T /\
 ∀H' a,aq H H'->iT H' a (rk f T)->Q (.ref a) H'
def oO:aD ["_law_web", "_law_troop_here", "_law_layers_here", "_law_named", "_law_layer"] ["_law_web", "_law_troop_here"] (ar CP):=eA
inductive KyI(H:Hp)(x l r:Addr)(L:List (List Str))(i:Nat)(σ:St)(H2:Hp):Prop
 |mk (na:Addr) (v4:Option V) (q0:σ=[some (.ref x),some (.ref l),some (.ref r),some (.ref na),v4]) (q1:aq H H2) (q2:H2 na=some (.lst (aH (L.take i).flatten)))
def E4{f C CW:Addr}{fd:FuncData}(F:dj K "_law_key" "_law_key" CP f fd)(T0:Txt K mg)
  (DL:gI P w K mg base "_law_layers" Ei ["_law_web", "_law_troop_here"] 2 (EL P w C CW)) :
  a9 P w K mg base cR 3 f fd ["_law_web", "_law_troop_here"] (EA P w C CW):=by
 refine F.oK oO λcdv A outer s H vs Q E hr h=>?_
 ·obtain⟨x,l,B,ms,S,f,T,rfl,W,wk,hl,tr,kk⟩:=h
  have hsl:=Lg
  refine⟨_,af (cD 2 oO (e7 DL hr (aa (pv 0) (aa (pv 1) ae))))
   (af (cD 3 oO (bz ae))
   (af (bo K7 rfl (aL (pv 2)) (eu 4 oO) (aj (cD 3 oO (az jf (pv 3) (pv 4)))))
   (aj (aK (dR (aa (ay aY rfl T0.len cx (aa (pv 1) ae)) (aa (ay cy rfl T0.aI cj (aa (pv 3) ae)) (aa (bB (N:=["_law_layer"]) (n:=1) (ci:=[]) rfl (aL (pv 2)) (iO oO)
    (λz=>⟨g0 0,bD,dR (aa (ay aY rfl T0.len cx (aa (pv 0) ae)) (aa (ay cy rfl T0.aI cj (aa (pv 0) ae)) ae))⟩)) ae)))))))),?_⟩
  try dsimp only[bK,Cx.dP,Cx.bQ]
  obtain⟨n1,n2⟩:=qJ wk tr
  have lT:=pz wk tr
  have en:=DQ f T
  have pf:=pA (ox f T)
  rw[<-en]at pf
  have lf:(ox f T).flatten.length=T.length:=by rw[<-pf.length_eq,(tU tr).length_eq,Kw]
  have ln:(mF f T).length=(ox f T).length:=by rw[en,Kw]
  refine⟨_,rfl,_,rfl,x,l,B,ms,S,f,T,rfl,W,wk,hl,tr,λH1 r as s1 hr1 hls=>⟨K2 _,λna H2 nna s2 hna=>?_⟩⟩
  have s02:=s1.trans s2
  have hr2:=s2 _ _ hr1
  have hls2:tX H2 (ox f T) as:=Paired.cH hls λ_ _ e=>s2 _ _ e
  have las:as.length=(ox f T).length:=(KZ hls).symm
  refine⟨_,rfl,r,rfl,⟨_,aA.of hr2⟩,bq (K:=K) (a:=r) (xs:=as.map V.ref) (KyI H2 x l r (ox f T)) ⟨na,none,rfl,aq.refl _,hna⟩ (λi σ H2 _ h=>by obtain⟨_,_,_,b,_⟩:=h;exact aA.of (b _ _ hr2)) ?_ ?_⟩
  ·rintro i v σ H3 hi ⟨na,v2,rfl,s3,hna3⟩
   obtain⟨a,ha,rfl⟩:=fV hi
   obtain⟨t,ht,hat⟩:=bH hls2 ha
   have:=kr (ox f T) (i+1)
   rw[au ht,MU,MZ,KA]at this
   refine⟨_,rfl,_,rfl,na,a,_,_,rfl,rfl,hna3,s3 _ _ hat,by rw[aw,aw];lia,λp np=>⟨p,_,rfl,s3.trans (ao np),?_⟩⟩
   rw[ag,au ht,MU,MZ]
   unfold aH
   rw[KS]
  ·rintro σ H3 ⟨na,v2,rfl,s3,hna3⟩
   rw[Kw,las,Le]at hna3
   have s03:=s02.trans s3
   refine⟨_,rfl,_,T.length,rfl,.inl ⟨_,aA.of (s03 _ _ hl),by rw[bp]⟩,_,rfl,na,_,rfl,aA.of hna3,by lia,λso nso=>?_⟩
   rw[fm pf.symm]
   obtain⟨H4,eU,s4,hso⟩:=oh nso (.lst (aH (aI (mF f T).flatten)))
   rw[eU]
   have s24:=s3.trans s4
   have hr4:=s24 _ _ hr2
   refine⟨_,rfl,r,rfl,⟨_,aA.of hr4⟩,λz D hD=>cg (a:=r) (xs:=as.map V.ref) (GJ H4 D (mF f T)) ⟨[],rfl,ao hD,ag,.nil⟩ (λi ys H2 _ h=>by obtain⟨_,_,b,_⟩:=h;exact aA.of (b _ _ hr4)) ?_ ?_⟩
   ·rintro i v ys H5 hi ⟨rs,rfl,s5,hD5,hrs⟩
    obtain⟨a,ha,rfl⟩:=fV hi
    obtain⟨t,ht,hat⟩:=bH hls2 ha
    have hn:(mF f T)[i]?=some (aI t):=by rw[en,KH,ht];rfl
    have il:=(KQ.mp hn).1
    have lt:t.length<=14:=by
     have:=kr (ox f T) (i+1)
     rw[au ht,MU,MZ,KA]at this
     lia
    have ha5:=s5 _ _ (s24 _ _ hat)
    have lrs:=KZ hrs
    rw[Kw,La]at lrs
    refine⟨_,rfl,_,t.length,rfl,.inl ⟨_,aA.of ha5,by rw[aw]⟩,_,rfl,a,_,rfl,aA.of ha5,by lia,λsl nsl=>⟨by show 2<=sizeLine;lia,λp H6 np s6 hp=>⟨(ao nsl).trans s6 _ _ hD5,by rw[Kw];lia,GJ.put hD s5 hD5 hrs hn ((ao nsl).trans s6) (by rw[bW];exact hp) (ai hD5 nsl).symm (s6 _ _ ag)⟩⟩⟩
   ·rintro ys H5 ⟨rs,rfl,s5,hD5,hrs⟩
    rw[Kw,las,<-ln,Le]at hrs
    refine⟨by show 3<=sizeLine;lia,λa H6 na s6 ha=>kk H6 a (s02.trans (s24.trans (s5.trans s6))) ⟨so,D,rs,?_,(s5.trans s6) _ _ hso,s6 _ _ hD5,Paired.cH hrs λx r ⟨b,e1,_,e3⟩=>⟨b,s6 _ _ e1,s6 _ _ e3⟩⟩⟩
    show H6 a=some (.tup [.int ((mF f T).flatten.length:Nat),_,_])
    rw[pf.length_eq,lf]
    exact ha
end Uf
end
section
namespace L2
open PySem PySem.Spec PyProof.Rows UfSrt Uf UfB
section
variable {X:Cx}
def Jv(K:PySem.W.Frag)(A:Around):R2:=λx y H Q=>∃p q as bs,x=.ref p/\y=.ref q/\A.units+2<cLine/\aA K H p (as.map V.ref)/\aA K H q (bs.map V.ref)/\Paired (λa b=>∃ts:List V,aA K H a ts/\aA K H b ts/\ts.all eX=true) as bs/\Q (.bl false) H
def yB:fZ X (compareOp .NotEq) (Jv X.K X.A):=by
 intro pins s σ H x y v u Q I rx ry h
 obtain⟨p,q,as,bs,rfl,rfl,hu,hp,hq,hal,k⟩:=h
 cases rx
 cases ry
 obtain⟨its,r1,p1,_⟩:=I.list hp
 obtain⟨its2,r2,p2,_⟩:=I.list hq
 have l1:=r1.length
 have l2:=r2.length
 have l3:=KZ hal
 rw[Kw]at l1 l2
 refine O6 (e:=λ_=>true) p1.isList p2.isList (by simp;lia) (by lia) (λj h1 h2=>?_) X.prog X.w X.xe _ ⟨.bl false,H,I,?_,k⟩
 ·have h1':j<its.length:=by simpa using h1
  have h2':j<its2.length:=by simpa using h2
  obtain⟨w,e1,e2⟩:=iI r1 (Kx h1')
  obtain⟨w',e3,e4⟩:=iI r2 (Kx h2')
  rw[KH]at e1 e3
  obtain⟨a,ea,rfl⟩:=LW.mp e1
  obtain⟨b,eb,rfl⟩:=LW.mp e3
  obtain⟨a',ea',ts,t1,t2,tf⟩:=bH hal eb
  rw[ea]at ea'
  cases ea'
  have e2:its[j]=Value.ref a:=e2
  have e4:its2[j]=Value.ref b:=e4
  show SeqAt.EqAt X.A.in1 s its.toArray[j] its2.toArray[j] true
  rw[Qq,Qq,e2,e4]
  exact yd I t1 t2 tf hu
 ·show Value.bool _=Value.bool false
  simp
def Km(X:Cx):R2:=λx y H Q=>∃p q xs ys,x=.ref p/\y=.ref q/\X.A.units+1<cLine/\aA X.K H p (nats xs)/\aA X.K H q (nats ys)/\Q (.bl (!decide (xs=ys))) H
def eqn(a b:Nat):pD (nat a) (nat b)=decide (a=b):=by
 show(((a:Int))==b)=_
 rw[Lu,ML,Lp]
 lia
def Dp:fZ X (compareOp .NotEq) (Km X):=by
 intro pins s σ H x y v u Q I rx ry h
 obtain⟨p,q,xs,ys,rfl,rfl,hu,hp,hq,k⟩:=h
 cases rx
 cases ry
 obtain⟨its,r1,p1,_⟩:=I.list hp
 obtain⟨its2,r2,p2,_⟩:=I.list hq
 have l1:=r1.length
 have l2:=r2.length
 rw[bp]at l1 l2
 have gt:∀{xs:List Nat} {us:List Value},Vals (nats xs) us->∀(j:Nat) x,xs[j]?=some x->∃u,us[j]?=some u/\RelV (nat x) u:=λ{xs us} r j x e=>r.get (by unfold nats;rw[List.getElem?_map,e];rfl)
 by_cases hl:xs.length=ys.length
 ·refine O6 (e:=λj=>decide (xs[j]?=ys[j]?)) p1.isList p2.isList (by simp;lia) (by lia) (λj h1 h2=>?_) X.prog X.w X.xe _ ⟨.bl (!decide (xs=ys)),H,I,?_,k⟩
  ·have h1':j<its.length:=by simpa using h1
   have h2':j<its2.length:=by simpa using h2
   have g1:xs[j]?=some xs[j]:=Kx (by lia)
   have g2:ys[j]?=some ys[j]:=Kx (by lia)
   obtain⟨w,e1,e2⟩:=gt r1 j _ g1
   obtain⟨w',e3,e4⟩:=gt r2 j _ g2
   rw[Kx h1']at e1
   rw[Kx h2']at e3
   cases e1
   cases e3
   have:=ft (A:=X.A.in1) (s:=s) e2 e4 rfl rfl
   rw[eqn]at this
   have e5:decide (xs[j]?=ys[j]?)=decide (xs[j]=ys[j]):=by
    rw[g1,g2]
    exact Mj.mpr ⟨λz=>Lq z,λz=>by rw[z]⟩
   rw[e5]
   exact this
  ·show Value.bool _=Value.bool _
   congr 2
   rw[Lu,LS,Lp]
   constructor
   ·intro h
    refine NB λj=>?_
    by_cases hj:j<its.length
    ·exact Ln (h j (Ly.mpr (by simpa using hj)))
    ·rw[Ll (by lia),Ll (by lia)]
   ·rintro rfl j _
    exact KC rfl
 ·refine SeqAt.RcNeAt.lists_lengths p1.isList p2.isList (by simp;lia) (by lia) X.prog X.w X.xe _ ⟨.bl (!decide (xs=ys)),H,I,?_,k⟩
  rw[KU λz=>hl (by rw[z])]
  rfl
end
end L2
end
section
namespace Uf
open PySem L2 UfB UfSrt UfTs UfLt
abbrev CZ:Stmt:=top 63
def zq:aD ["_law_web", "_law_one", "_law_other", "_law_handed", "_law_found"] ["_law_web", "_law_one", "_law_other"] (ar CZ):=eA
def Gm{f C CW:Addr}{fd:FuncData}(F:dj K "_law_truth" "_law_truth" CZ f fd)(T0:Txt K mg)(mb:mg "bool"=none)
  (DL:gI P w K mg base "less" wU ["web", "one", "other"] 3 (pK P w C CW)) :
  a9 P w K mg base cR 4 f fd ["_law_web", "_law_one", "_law_other"] (pK P w C CW):=by
 refine F.oK zq λcdv A outer s H vs Q E hr h=>?_
 ·obtain⟨x,l,l',B,ms,S,f,T,T',rfl,W,wk,hl,tr,hl',tr',kk⟩:=h
  have hsl:=Lg
  refine⟨_,af (cD 3 zq (bz (aa (bb ji rfl T0.lst eR (aa (pv 1) ae)) (aa (bb ji rfl T0.lst eR (aa (pv 2) ae)) ae))))
   (af (cD 4 zq (e7 DL hr (aa (pv 0) (aa (aM aE (pv 3) ak (λ_ _=>rfl)) (aa (aM aE (pv 3) ak (λ_ _=>rfl)) ae)))))
   (af (bO (PW.pt (pw_or (c9 (cG (ay rX rfl T0.isi Et (aa (pv 4) (aa (xg (v:=.ty "bool") rfl mb PyProof.Rows.boot_bool rfl) ae))))) (pw_or1 (a8 yB (pv 3) (bz (aa (pv 1) (aa (pv 2) ae))) (bC _))))) (aj dq) aX)
   (aj (aK (pv 4))))),?_⟩
  try dsimp only[bK,Cx.dP,Cx.bQ]
  refine⟨_,rfl,l,_,rfl,.inl (aA.of hl),λp H1 np s1 hp=>⟨_,rfl,l',_,rfl,.inl (aA.of (s1 _ _ hl')),λq H2 nq s2 hq=>⟨by show 2<=sizeLine;lia,λr H3 nr s3 hr3=>?_⟩⟩⟩
  have s03:=s1.trans (s2.trans s3)
  have hp3:=(s2.trans s3) _ _ hp
  have hq3:=s3 _ _ hq
  refine⟨_,rfl,_,rfl,r,_,_,V.ref p,rfl,rfl,aA.of hr3,aF (j:=0) rfl,_,rfl,r,_,_,V.ref q,rfl,rfl,aA.of hr3,aF (j:=1) rfl,x,p,q,B,ms,S,f,T,T',rfl,W.same s03,wk,hp3,tr,hq3,tr',λH4 s4=>?_⟩
  refine⟨_,rfl,_, "bool",_,true,rfl,jj.bl _,(by rfl),true,rfl,bF ⟨_,rfl,_,rfl,_,rfl,by show 2<=sizeLine;lia,λr' H5 nr' s5 hr5=>?_⟩⟩
  have s35:=s4.trans s5
  have s05:=s03.trans s35
  exact⟨r,r',[p,q],[l,l'],rfl,rfl,lV hr,aA.of (s35 _ _ hr3),aA.of hr5,.cons ⟨_,aA.of (s35 _ _ hp3),aA.of (s05 _ _ hl),km T⟩ (.cons ⟨_,aA.of (s35 _ _ hq3),aA.of (s05 _ _ hl'),km T'⟩ .nil),_,rfl,bF ⟨_,rfl,kk H5 s05⟩⟩
end Uf
end
section
namespace Uf
open PySem L2 UfB UfSrt UfTs
abbrev wJ:Stmt:=top 59
def AS(P:Program)(w:World)(C CW:Addr):Sp:=λvs H Q _=>∃(p l:Addr) (ms:List Mv) (S:List Str) (cs:List Int),vs=[.ref p,.ref l]/\cB C H p ms S/\UfBfs.Told (graph ms) (aI S) none/\H l=some (.lst (cs.map V.int))/\cs.length<=14 /\
 ∀H' x B f,aq H H'->c7 P w C CW H' x B ms S f->gB f ms S 14->pO f ms S->Q (.ref x) H'
def ka:aD ["_law_net", "_law_cells", "_law_web", "_law_cell", "_law_some", "_law_move", "_law_spots"] ["_law_net", "_law_cells"] (ar wJ):=eA
inductive HwI(P:Program)(w:World)(C CW:Addr)(H:Hp)(p l x:Addr)(B:WA)(ms:List Mv)(S:List Str)(i:Nat)(σ:St)(H2:Hp):Prop
 |mk (v3 v4 v5 v6:Option V) (f:WF) (q0:σ=[some (.ref p),some (.ref l),some (.ref x),v3,v4,v5,v6]) (q1:aq H H2) (q2:c7 P w C CW H2 x B ms S f) (q3:gB f ms S i) (q4:pO f ms S)
def Bg{C CW x p:Addr}{H H0 H1:Hp}{ms:List Mv}{S:List Str}(N:cB C H p ms S)(s0:aq H H0)(nx:H x=none)(hw:BD CW H0 H1 x p (bu none (W0 ms S,0) (aI S)).1)(b:∀c o,H0 c=some o->c≠x->H1 c=some o) :
  ∃B:WA,H1 B.aN=some (.dK [])/\aq H (upd H1 B.aN (PD P w B.aN []))/\c7 P w C CW (upd H1 B.aN (PD P w B.aN [])) x B ms S (dX (W0 ms S).pl (aI S))/\∀a∈B.l,H a=none:=by
 obtain⟨dx,aS,aO,aN,aW,aG,aB,aT,aP,hA,hO,hN,hW,hG,nd,fr⟩:=hw
 have fr':∀a∈[aP,aT,aB,aG,aW,aN,aO,aS],H a=none:=λa ha=>s0.free (fr a ha)
 have s1:aq H (upd H1 aN (PD P w aN [])):=λc o e=>by
  rw[ah (ai e (fr' aN (by simp)))]
  exact b c o (s0 _ _ e) (ai e nx)
 have k:∀{c o},H1 c=some o->o≠.dK []->(upd H1 aN (PD P w aN [])) c=some o:=λ{c o} e n=>by
  rw[ah (aQ e hN n)]
  exact e
 obtain⟨qs,i1,i2⟩:=hA.sp
 refine⟨⟨p,dx,aS,aO,aN,aW,aG,aB,aT,aP⟩,hN,s1,⟨⟨k hA.ins (λz=>nomatch z),⟨qs,k i1 (λz=>nomatch z),Paired.cH i2 λ_ _ e=>k e (λz=>nomatch z)⟩,k hA.tk (λz=>nomatch z),k hA.be (λz=>nomatch z),?_⟩,⟨[],k hO (λz=>nomatch z),.nil,ag⟩,k hW (λz=>nomatch z),⟨[],k hG (λz=>nomatch z),rfl⟩,nd,?_⟩,fr'⟩
 ·show upd H1 aN _ aP=_
  rw[ah (λz=>by simp[z]at nd)]
  exact hA.pl
 ·refine N.same λc o e=>?_
  have n:c≠aP:=ai e (fr' aP (by simp))
  show rm _ aP c=_
  rw[jT n]
  exact s1 _ _ e
def CC{f C CW fI:Addr}{fd fdI:FuncData}(F:dj K "_law_hand_web" "_law_hand_web" wJ f fd)(T:Txt K mg)(CT:gX K CW)(mgC:mg "Web"=some (.ref CW))(M:Mk K CW fI)(bI:Binds K fdI ["self", "net"] [])(GI:a9 P w K mg base cR 8 fI fdI ["self", "net"] (xu C CW))
  (DC:gI P w K mg base "comings" xr ["web"] 5 (Bv P w C CW))
  (DM:jE P w K mg base CW "come" "Web.come" vP ["self", "move", "spots"] 5 (Ac P w C CW)) :
  a9 P w K mg base cR 10 f fd ["_law_net", "_law_cells"] (AS P w C CW):=by
 refine F.oK ka λcdv A outer s H vs Q E hr h=>?_
 ·obtain⟨p,l,ms,S,cs,rfl,N,told,hl,lc,kk⟩:=h
  have hr5:cI 5 _:=hr.mono (by decide)
  refine⟨_,af (cD 2 ka (Fj (vW M GI hr rfl mgC bI .nil br (aa (pv 0) ae))))
   (af (bo K7 rfl (aL (pv 1)) (eu 3 ka)
    (af (cD 4 ka (e7 DC hr5 (aa (pv 2) ae)))
    (aj (bO (a8 ne_nil (pv 4) (bz ae) (bC _))
     (af (ko (aM aE (pv 4) (az bY (pv 3) (ay aY rfl T.len cx (aa (pv 4) ae))) (λ_ _=>rfl)) (dQ rfl (aV (eu 5 ka) (aV (eu 6 ka) cZ))))
     (aj (bj (cz (pv 2) CT.cl DM.d.mt DM.g hr5 DM.d.bd .nil br (aa (pv 5) (aa (bb ji rfl T.lst eR (aa (pv 6) ae)) ae)))))) aX))))
   (aj (aK (pv 2)))),?_⟩
  try dsimp only[bK,Cx.dP,Cx.bQ]
  have so:=N.so
  refine⟨_,rfl,λx dx nx ndx nxd=>?_⟩
  have sn:aq H (upd (upd H dx (.own x)) x (.ins CW dx [])):=λb o e=>by
   rw[ah (ai e nx),ah (ai e ndx)]
   exact e
  refine⟨x,dx,p,ms,S,rfl,ag,N.same sn,told,λH1 nw b1=>⟨rfl,?_⟩⟩
  obtain⟨B,hN,s1,W,fr⟩:=Bg (P:=P) (w:=w) N sn nx nw b1
  refine⟨B.aN,hN,?_⟩
  refine⟨_,rfl,l,rfl,⟨_,aA.of (s1 _ _ hl)⟩,bq (K:=K) (a:=l) (xs:=cs.map V.int) (HwI P w C CW H p l x B ms S) ⟨none,none,none,none,_,rfl,s1,W,uS so,uX _ (by rw[bW];have:=so.Jl;lia)⟩ (λi σ H2 _ h=>by obtain⟨_,_,_,_,_,_,b,_⟩:=h;exact aA.of (b _ _ hl)) ?_ ?_⟩
  ·rintro i v σ H3 hi ⟨v3,v4,v5,v6,f,rfl,s3,W3,wk,wn⟩
   obtain⟨c,hc,rfl⟩:=ints_get hi
   have il:i<cs.length:=(KQ.mp hc).1
   refine⟨_,rfl,x,B,ms,S,f,rfl,W3,wk.g (by lia),λH4 r qs s4 nr hr4 hqs=>?_⟩
   refine⟨_,rfl,K2 _,λe H5 ne s5 he=>⟨r,e,_,rfl,rfl,hr.zQ,aA.of (s5 _ _ hr4),aA.of he,_,rfl,?_⟩⟩
   have s35:=s4.trans s5
   cases qs with
   |nil=>exact bF ⟨_,_,_,_,f,rfl,s3.trans s35,W3.same s35,wk.le (Mn _),wn⟩
   |cons q0 qs =>
    refine cv ?_
    have hr5':=s5 _ _ hr4
    generalize hq:q0::qs=us at hqs hr5'
    have l0:0<us.length:=by rw[<-hq];exact Nat.succ_pos _
    have m0:0<=c % (us.length:Int):=Nu _ (by lia)
    have m1:c % (us.length:Int)<us.length:=M3 _ (by lia)
    obtain⟨j,ej⟩:∃j:Nat,c % (us.length:Int)=(j:Int):=⟨(c % (us.length:Int)).toNat,by lia⟩
    have jl:j<us.length:=by lia
    have huj:us[j]?=some us[j]:=Kx jl
    generalize us[j]=u at huj
    obtain⟨m,U,⟨t,ht,htU⟩,can,eU⟩:=hqs u (KJ huj)
    refine⟨_,rfl,_,rfl,_,rfl,_,us.length,rfl,.inl ⟨_,aA.of hr5',by rw[Kw]⟩,_,_,rfl,rfl,(by lia),r,_,_,_,rfl,rfl,aA.of hr5',by rw[ej];exact aF (j:=j) (by rw[KH,huj];rfl),u,_,rfl,bX.of (s5 _ _ ht),rfl,_,_,rfl,_,_,rfl,rfl,?_⟩
    have W5:=W3.same s35
    refine⟨_,rfl,x,B.dx,_,rfl,W5.ad.ins,cF B _ (by decide +kernel),_,rfl,_,rfl,t,_,rfl,.inr (bX.of (s5 _ _ htU)),λa H6 na s6 ha=>?_⟩
    have W6:=W5.same s6
    rw[<-eU]at can
    exact⟨x,a,B,ms,S,f,m,U,rfl,W6,wk.gd,ha,can,λH7 W7 b7=>⟨_,_,_,_,_,rfl,λa o e=>b7 _ _ ((s3.trans (s35.trans s6)) _ _ e) λz=>(by have:=fr a z;rw[e]at this;cases this),W7,yF so wk can,yb wk.gd wn can (by rw[eU,eU])⟩⟩
  ·rintro σ H3 ⟨v3,v4,v5,v6,f,rfl,s3,W3,wk,wn⟩
   rw[Kw]at wk
   exact⟨_,rfl,kk _ x B f s3 W3 (wk.le lc) wn⟩
end Uf
end
section
namespace Uf
open PySem L2 UfSrt UfFin UfB UfLt
abbrev yc:Stmt:=top 64
def Dr(f:WF):rV f []:=⟨.nil,(λ_ h=>nomatch h),(λ_ h=>nomatch h)⟩
def pj{α β:Type}{R:α->β->Prop}{xs:List α}{ys:List β}(h:Paired R xs ys){i:Nat}(hi:i<xs.length):∃y,ys[i]?=some y/\R xs[i] y:=by
 have hl:=KZ h
 have e:ys[i]?=some ys[i]:=Kx (by lia)
 obtain⟨x,hx,r⟩:=bH h e
 rw[Kx hi]at hx
 cases hx
 exact⟨_,e,r⟩
def xj{f:WF}{T:List Nat}{d:Nat}(h:gq f T<=d):lvl f T d=[]:=L3.mpr λo ho z=>by
 have:=pC (f:=f) ho
 have:=eq_of_beq z
 lia
def F7{f:WF}{ms:List Mv}{S:List Str}{T T':List Nat}(N:pO f ms S)(so:Sound ms S)(told:UfBfs.Told (graph ms) (aI S) none)(t:kx f T)(t':kx f T')(h:rk f T=rk f T'):T=T':=by
 have e:mF f T=mF f T':=by
  have:=LZ (λr:qU=>r.2.2.map (·.2)) h
  unfold rk uN at this
  simpa[Lk,Function.comp_def] using this
 have eh:gq f T=gq f T':=by
  have:=LZ List.length e
  unfold mF at this
  rwa[Kw,Kw,eJ,eJ]at this
 refine Je N so told t t' λd=>?_
 by_cases z:d<gq f T
 ·have e1:=LZ (λl=>l[d]?) e
  unfold mF gJ at e1
  simp only[KH,Mz z,Mz (eh ▸ z),Option.map_some,Option.some.injEq]at e1
  exact(bN _).symm.trans (e1 ▸ bN _)
 ·rw[xj (by lia),xj (by lia)]
def wC(K:PySem.W.Frag):Sp:=λvs H Q _=>∃(a:Addr) (ns:List Int),vs=[.ref a]/\aA K H a (ns.map V.int)/\ns.length<=63/\∀H',Q (.bl true) H'
def fJ:aD ["_law_script", "_law_moves", "_law_start", "_law_web", "_law_troops", "_law_cell", "_law_keys", "_law_told", "_law_one", "_law_other", "_law_third"] ["_law_script"] (ar yc):=eA
def E9{c A G:Prop}{_:Decidable c}(h:G->c->A)(k:G):if c then A else G:=uI (h k) λ_=>k
inductive TpI(H:Hp)(a mv st x tA:Addr)(f:WF)(i:Nat)(σ:St)(H2:Hp):Prop
 |mk (v5:Option V) (ts:List Addr) (Ts:List (List Nat)) (q0:σ=[some (.ref a),some (.ref mv),some (.ref st),some (.ref x),some (.ref tA),v5,none,none,none,none,none]) (q1:aq (rm H tA) H2) (q2:H2 tA=some (.lst (ts.map V.ref))) (q3:Paired (λT t=>t≠tA/\H2 t=some (.lst (nats T))/\kx f T) Ts ts) (q4:ts.length=i+1)
inductive KeI(H:Hp)(D:Addr)(f:WF)(zs:List (List Nat×Addr))(i:Nat)(ys:List V)(H2:Hp):Prop
 |mk (ks:List Addr) (q0:ys=ks.map V.ref) (q1:aq H (rm H2 D)) (q2:H2 D=some (.lst ys)) (q3:Paired (λz k=>iT (rm H2 D) k (rk f z.1)) (zs.take i) ks)
inductive RoI(H:Hp)(a mv st x tA kA bA:Addr)(f:WF)(zs:List (List Nat×Addr))(i:Nat)(σ:St)(H2:Hp):Prop
 |mk (v5 v8:Option V) (rs:List Addr) (q0:σ=[some (.ref a),some (.ref mv),some (.ref st),some (.ref x),some (.ref tA),v5,some (.ref kA),some (.ref bA),v8,none,none]) (q1:aq H H2) (q2:H2 bA=some (.lst (rs.map V.ref))) (q3:Paired (λz r=>r≠bA/\H2 r=some (.lst (zs.map λz'=>V.bl (jP (rk f z.1) (rk f z'.1))))) (zs.take i) rs)
inductive L1I(g:Option V->Option V->Option V->St)(H:Hp)(i:Nat)(σ:St)(H2:Hp):Prop
 |mk (v8 v9 v10:Option V) (q0:σ=g v8 v9 v10) (q1:H=H2)
inductive L2I(g:Option V->Option V->St)(H:Hp)(i:Nat)(σ:St)(H2:Hp):Prop
 |mk (v9 v10:Option V) (q0:σ=g v9 v10) (q1:H=H2)
inductive L3I(g:Option V->St)(H:Hp)(i:Nat)(σ:St)(H2:Hp):Prop
 |mk (v10:Option V) (q0:σ=g v10) (q1:H=H2)
def Gq{f C CW fI:Addr}{fd fdI:FuncData}(F:dj K "law" "law" yc f fd)(T0:Txt K mg)(T2:Txt2 mg)(mgC:mg "Net"=some (.ref C))(M:Mk K C fI)(bI:Binds K fdI ["self", "moves", "start"] [])(GI:a9 P w K mg base cR 5 fI fdI ["self", "moves", "start"] (Ah K C))
  (DP:gI P w K mg base "_law_parts" p9 ["_law_script", "_law_most"] 3 (iJ K))
  (DH:gI P w K mg base "_law_hand_web" wJ ["_law_net", "_law_cells"] 10 (AS P w C CW))
  (DT:gI P w K mg base "_law_troop" qm ["_law_web", "_law_bits"] 2 (wM P w C CW))
  (DK:gI P w K mg base "_law_key" CP ["_law_web", "_law_troop_here"] 3 (EA P w C CW))
  (DU:gI P w K mg base "_law_truth" CZ ["_law_web", "_law_one", "_law_other"] 4 (pK P w C CW)) :
  a9 P w K mg base cR 12 f fd ["_law_script"] (wC K):=by
 refine F.oK fJ λcdv A outer s H vs Q E hr h=>?_
 ·obtain⟨a,ns,rfl,ha,hz,kk⟩:=h
  have hsl:=Lg
  have hr2:cI 2 _:=hr.mono (by decide)
  have hr3:cI 3 _:=hr.mono (by decide)
  have hr4:cI 4 _:=hr.mono (by decide)
  have hu:=eZ hr
  refine⟨_,af (ko (e7 DP hr3 (aa (pv 0) (aa ak ae))) (dQ rfl (aV (eu 1 fJ) (aV (eu 2 fJ) cZ))))
   (af (cD 3 fJ (e7 DH (hr.mono (by decide)) (aa (vW M GI (hr.mono (by decide)) rfl mgC bI .nil br (aa (pv 1) (aa (pv 2) ae))) (aa (dt fQ (pv 0) (dw ak) (dw ak)) ae))))
   (af (cD 4 fJ (bz (aa (bz ae) ae)))
   (af (bo K7 rfl (aL (dt fQ (pv 0) fY (dw ak))) (eu 5 fJ)
    (aj (bj (c8 Lf Lc Ld bf (pv 4) (aa (e7 DT hr2 (aa (pv 3) (aa (az bY (az cA (pv 5) ak) ak) ae))) ae)))))
   (af (fX (j:=6) (N:=["_law_troop_here", "_law_web"]) (n:=1) (ci:=[3]) rfl fJ.nd rfl rfl (aL (pv 4)) (iO fJ) (λz=>⟨g0 0,bD,dz DK.g.frame hr3 rfl DK.d.mg DK.d.fn.kp DK.d.bd .nil br (aa (pv 1) (aa (pv 0) ae))⟩))
   (af (cD 7 fJ (bz ae))
   (af (bo K7 rfl (cu rfl T2.rng (aa (ay aY rfl T0.len cx (aa (pv 4) ae)) ae)) (eu 8 fJ)
    (aj (bj (c8 Lf Lc Ld bf (pv 7) (aa (bB (N:=["_law_troop_here", "_law_one", "_law_troops", "_law_web"]) (n:=1) (ci:=[8,4,3]) rfl (aL (pv 4)) (iO fJ) (λz=>⟨g0 0,bD,e7 DU hr4 (aa (pv 3) (aa (aM aE (pv 2) (pv 1) (λ_ _=>rfl)) (aa (pv 0) ae)))⟩)) ae)))))
   (af (bo K7 rfl (cu rfl T2.rng (aa (ay aY rfl T0.len cx (aa (pv 4) ae)) ae)) (eu 8 fJ)
    (aj (bo K7 rfl (cu rfl T2.rng (aa (ay aY rfl T0.len cx (aa (pv 4) ae)) ae)) (eu 9 fJ)
     (af (bO (PW.pt (pw_or (a8 FT (aM aE (aM aE (pv 7) (pv 8) (λ_ _=>rfl)) (pv 9) (λ_ _=>rfl)) gS (bC _)) (pw_or1 (a8 Iw (aM aE (aM aE (pv 7) (pv 8) (λ_ _=>rfl)) (pv 9) (λ_ _=>rfl)) (de zE (aM aE (pv 6) (pv 8) (λ_ _=>rfl)) (aM aE (pv 6) (pv 9) (λ_ _=>rfl)) (bC _)) (bC _))))) (aj dq) aX)
     (af (bO (PW.pt (pw_and (a8 Dp (aM aE (pv 4) (pv 8) (λ_ _=>rfl)) (aM aE (pv 4) (pv 9) (λ_ _=>rfl)) (bC _)) (pw_and1 (a8 hX (aM aE (aM aE (pv 7) (pv 8) (λ_ _=>rfl)) (pv 9) (λ_ _=>rfl)) (aM aE (aM aE (pv 7) (pv 9) (λ_ _=>rfl)) (pv 8) (λ_ _=>rfl)) (bC _))))) (aj dq) aX)
     (aj (bo K7 rfl (cu rfl T2.rng (aa (ay aY rfl T0.len cx (aa (pv 4) ae)) ae)) (eu 10 fJ)
      (aj (bO (PW.pt (pw_and (cG (aM aE (aM aE (pv 7) (pv 8) (λ_ _=>rfl)) (pv 9) (λ_ _=>rfl))) (pw_and (cG (aM aE (aM aE (pv 7) (pv 9) (λ_ _=>rfl)) (pv 10) (λ_ _=>rfl))) (pw_and1 (c9 (cG (aM aE (aM aE (pv 7) (pv 8) (λ_ _=>rfl)) (pv 10) (λ_ _=>rfl)))))))) (aj dq) aX)))))))))
   (aj (aK jB))))))))),?_⟩
  try dsimp only[bK,Cx.dP,Cx.bQ]
  refine⟨_,rfl,a,ns,rfl,ha,hz,λH1 t mv st ms S s1 ht mvs hst dr told=>⟨t,_,rfl,bX.of ht,rfl,_,_,rfl,_,_,rfl,rfl,?_⟩⟩
  obtain⟨qs,hqs,hpq⟩:=mvs
  refine⟨_,rfl,_,rfl,λp dx np ndx npd=>?_⟩
  have sn:aq H1 (upd (upd H1 dx (.own p)) p (.ins C dx [])):=λb o e=>by
   rw[ah (ai e np),ah (ai e ndx)]
   exact e
  refine⟨p,dx,mv,st,ms,S,rfl,ag,⟨qs,aA.of (sn _ _ hqs),Paired.cH hpq λ_ _=>nR.same sn⟩,aA.of (sn _ _ hst),dr.fit,dr.net,λH2 NA kp=>⟨rfl,?_⟩⟩
  have s12:aq H1 H2:=λb o e=>kp b o (sn b o e) (ai e np)
  have s02:=s1.trans s12
  refine⟨_,rfl,_,rfl,_,rfl,a,_,rfl,s02.seq ha,λq3 n3=>?_⟩
  rw[show hC (ns.map V.int) (some (3:Int)) (some (17:Int))=((ns.drop 3).take 14).map V.int by rw[show(3:Int)=((3:Nat):Int) from rfl,show(17:Int)=((17:Nat):Int) from rfl,Ew,Ox,Qu]]
  obtain⟨H3,eU,s3,hq3⟩:=oh n3 (.lst (((ns.drop 3).take 14).map V.int))
  rw[eU]
  refine⟨p,q3,ms,S,_,rfl,(show cB C H2 p ms S from⟨NA,nU dr.net⟩).same s3,told,hq3,by rw[La];exact NW _ _,λH4 x B f s4 W wk wn=>?_⟩
  have s04:=s02.trans (s3.trans s4)
  refine⟨K2 _,λe H5 ne s5 he=>⟨by show 1<=sizeLine;lia,λtA H6 ntA s6 htA=>?_⟩⟩
  refine⟨_,rfl,_,rfl,a,_,rfl,(s04.trans (s5.trans s6)).seq ha,λq6 n6=>?_⟩
  rw[show hC (ns.map V.int) none (some (6:Int))=(ns.take 6).map V.int by rw[show(6:Int)=((6:Nat):Int) from rfl,FC,Ox]]
  have lcs:(ns.take 6).length<=6:=by rw[La];exact NW _ _
  generalize ns.take 6=cs at lcs
  have s7:aq H6 (upd H6 q6 (.lst (cs.map V.int))):=ao n6
  have hq6:(upd H6 q6 (.lst (cs.map V.int))) q6=some (.lst (cs.map V.int)):=ag
  have nq6:q6≠tA:=(ai htA n6).symm
  generalize upd H6 q6 (.lst (cs.map V.int))=H7 at s7 hq6 ⊢
  have s57:=s6.trans s7
  have sW:aq H4 (rm H7 tA):=λb o e=>zF (s57 _ _ (s5 _ _ e)) (ai (s5 _ _ e) ntA)
  have hq7:rm H7 tA q6=some (.lst (cs.map V.int)):=zF hq6 nq6
  refine⟨q6,rfl,⟨_,aA.of hq6⟩,bq (K:=K) (a:=q6) (xs:=cs.map V.int) (TpI H7 a mv st x tA f) ⟨none,[e],[[]],rfl,nV _ _,s7 _ _ htA,.cons ⟨ai he ntA,s57 _ _ he,Dr f,λ_ h=>nomatch h⟩ .nil,rfl⟩ (λi σ H2 _ h=>by obtain⟨_,_,_,_,b,_⟩:=h;exact aA.of (b _ _ hq7)) ?_ ?_⟩
  ·rintro i v σ H8 hi ⟨v5,ts,Ts,rfl,s8,htA8,hts,lts⟩
   obtain⟨c,hc,rfl⟩:=ints_get hi
   have il:=(KQ.mp hc).1
   refine⟨_,rfl,.inl ⟨rfl,_,aA.of htA8⟩,_,rfl,_,rfl,_,_,rfl,rfl,⟨by decide,by decide⟩,_,_,rfl,rfl,(by show(0:Int)<16384;decide),x,_,B,ms,S,f,rfl,W.same (sW.trans s8),wk,λH9 r T s9 nr hr9 tr=>⟨tA,_,_,rfl,rfl,s9 _ _ htA8,by rw[Kw];lia,⟨_,ts++[r],Ts++[T],rfl,λb o e=>?_,by rw[ag,KS];rfl,L1 (Paired.cH hts λT t ⟨n,e,tr⟩=>⟨n,by rw[ah n];exact s9 _ _ e,tr⟩) ⟨(ai htA8 nr).symm,by rw[ah (ai htA8 nr).symm];exact hr9,tr⟩,by rw[KA];show ts.length+1=_;lia⟩⟩⟩
   rw[ah (by rintro rfl;rw[ff]at e;cases e)]
   exact s9 _ _ (s8 _ _ e)
  rintro σ H8 ⟨v5,ts,Ts,rfl,s8,htA8,hts,lts⟩
  rw[Kw]at lts
  have W8:=W.same (sW.trans s8)
  obtain⟨zs,rfl,rfl,hzs⟩:=oR hts
  rw[Kw]at lts
  have hA8:H8 tA=some (.lst (zs.map λz=>V.ref z.2)):=by rw[htA8,Lk];rfl
  refine⟨_,rfl,tA,rfl,⟨_,aA.of hA8⟩,λz kA hD=>cg (a:=tA) (xs:=zs.map λz=>V.ref z.2) (KeI H8 kA f zs) ⟨[],rfl,by rw[vL,wX hD];exact aq.refl _,ag,.nil⟩ (λi ys H2 _ h=>by obtain⟨_,_,b,_⟩:=h;exact aA.of ((b.trans (nV _ _)) _ _ hA8)) ?_ ?_⟩
  ·rintro i v ys H9 hi ⟨ks,rfl,s9,hD9,hks⟩
   rw[KH]at hi
   obtain⟨z,hz',rfl⟩:=LW.mp hi
   obtain⟨_,hzt,tr⟩:=hzs z (KJ hz')
   have lks:=KZ hks
   rw[La]at lks
   have er:∀{H:Hp} {o o':HO},H kA=none->rm (upd (upd H kA o) kA o') kA=H:=λn=>by rw[vL,vL,wX n]
   refine⟨_,rfl,_,rfl,kA,_,hD9,x,z.2,B,ms,S,f,z.1,rfl,W8.same s9,wk,s9 _ _ hzt,tr.tr,λHa k sa hk nD=>⟨ag,by rw[Kw];lia,ks++[k],by rw[KS];rfl,by rw[er nD];exact s9.trans sa,ag,?_⟩⟩
   rw[er nD,au hz']
   exact L1 (Paired.cH hks λ_ _ h=>h.same sa) hk
  rintro ys H9 ⟨ks,rfl,s9,hkA,hks⟩
  rw[Kw,Le]at hks
  have hks:=Paired.cH hks λ_ _ h=>h.same (nV _ _)
  have s9:=s9.trans (nV _ _)
  have hlen:∀{H':Hp},aq H8 H'->FU K (.ref tA) H' zs.length:=λs=>.inl ⟨_,aA.of (s _ _ hA8),by rw[Kw]⟩
  refine⟨K2 _,λbA Ha nbA sa hbA=>?_⟩
  refine⟨_,rfl,_,_,rfl,hlen (s9.trans sa),_,rfl,by lia,by lia,fk (lo:=0) (n:=((zs.length:Nat):Int).toNat) (RoI H9 a mv st x tA kA bA f zs) ⟨_,none,[],rfl,sa,hbA,.nil⟩ ?_ ?_⟩
  ·rintro i σ Hb hi ⟨v5,v8,rs,rfl,sb,hbb,hrs⟩
   have hi:i<zs.length:=by lia
   rw[show(0+((i:Nat):Int))=((i:Nat):Int) by lia]
   obtain⟨_,hti,tri⟩:=hzs zs[i] (Mr hi)
   have s8b:=s9.trans sb
   refine⟨_,rfl,.inl ⟨rfl,_,aA.of hbb⟩,_,rfl,tA,rfl,⟨_,aA.of (s8b _ _ hA8)⟩,λz D hD=>eF (zs:=zs) (F:=λz=>some (V.bl (jP (rk f zs[i].1) (rk f z.1)))) (aA.of (s8b _ _ hA8)) (by lia) hD (λz hz Hc sc no yes _ hyes=>?_) λHc sc hDc=>?_⟩
   ·obtain⟨_,htz,trz⟩:=hzs z hz
    have s8c:=s8b.trans sc
    exact⟨_,rfl,_,rfl,_,rfl,tA,_,_,V.ref zs[i].2,rfl,rfl,aA.of (s8c _ _ hA8),aF (j:=i) (by rw[KH,Kx hi];rfl),_,rfl,x,zs[i].2,z.2,B,ms,S,f,zs[i].1,z.1,rfl,W8.same s8c,wk,s8c _ _ hti,tri.tr,s8c _ _ htz,trz.tr,λHd sd=>hyes _ rfl _ sd⟩
   rw[filterMap_some]at hDc
   have lrs:=KZ hrs
   rw[La]at lrs
   have nD:D≠bA:=(ai hbb hD).symm
   refine⟨bA,_,_,rfl,rfl,sc _ _ hbb,by rw[Kw];lia,⟨_,_,rs++[D],rfl,aU (sb.trans sc) nbA,by rw[ag,KS];rfl,?_⟩⟩
   rw[au (Kx hi)]
   exact L1 (Paired.cH hrs λz r ⟨n,e⟩=>⟨n,by rw[ah n];exact sc _ _ e⟩) ⟨nD,by rw[ah nD];exact hDc⟩
  rintro σ Hb ⟨v5,v8,rs,rfl,sb,hbb,hrs⟩
  rw[LI,Le]at hrs
  have s8b:=s9.trans sb
  have hA:=s8b _ _ hA8
  have hK:=sb _ _ hkA
  have tl:∀{i j:Nat} (hi:i<zs.length) (hj:j<zs.length),∃r,(rs.map V.ref)[i]?=some (.ref r)/\Hb r=some (.lst (zs.map λz=>V.bl (jP (rk f zs[i].1) (rk f z.1))))/\(zs.map λz=>V.bl (jP (rk f zs[i].1) (rk f z.1)))[j]?=some (V.bl (jP (rk f zs[i].1) (rk f zs[j].1))):=λ{i j} hi hj=>by
   obtain⟨r,e1,_,e2⟩:=pj hrs hi
   exact⟨r,by rw[KH,e1];rfl,e2,by rw[KH,Kx hj];rfl⟩
  have ky:∀{i:Nat} (hi:i<zs.length),∃k,(ks.map V.ref)[i]?=some (.ref k)/\iT Hb k (rk f zs[i].1):=λ{i} hi=>by
   obtain⟨k,e1,e2⟩:=pj hks hi
   exact⟨k,by rw[KH,e1];rfl,e2.same sb⟩
  have tp:∀{i:Nat} (hi:i<zs.length),(zs.map λz=>V.ref z.2)[i]?=some (.ref zs[i].2)/\Hb zs[i].2=some (.lst (nats zs[i].1))/\kx f zs[i].1:=λ{i} hi=>by
   obtain⟨_,e,tr⟩:=hzs zs[i] (Mr hi)
   exact⟨by rw[KH,Kx hi];rfl,s8b _ _ e,tr⟩
  have so:=nU dr.net
  have hl:=hlen s8b
  refine⟨_,rfl,_,_,rfl,hl,_,rfl,by lia,by lia,fk (lo:=0) (n:=((zs.length:Nat):Int).toNat) (L1I (λv8 v9 v10=>[some (.ref a),some (.ref mv),some (.ref st),some (.ref x),some (.ref tA),v5,some (.ref kA),some (.ref bA),v8,v9,v10]) Hb) ⟨_,_,_,rfl,rfl⟩ ?_ ?_⟩
  ·rintro i σ H2 hi ⟨v8,v9,v10,rfl,rfl⟩
   have hi:i<zs.length:=by lia
   rw[show(0+((i:Nat):Int))=((i:Nat):Int) by lia]
   obtain⟨pi,pt,ptr⟩:=tp hi
   obtain⟨k,k1,k2⟩:=ky hi
   refine⟨_,rfl,_,_,rfl,hl,_,rfl,by lia,by lia,fk (lo:=0) (n:=((zs.length:Nat):Int).toNat) (L2I (λv9 v10=>[some (.ref a),some (.ref mv),some (.ref st),some (.ref x),some (.ref tA),v5,some (.ref kA),some (.ref bA),some (.int (i:Int)),v9,v10]) Hb) ⟨_,_,rfl,rfl⟩ ?_ λσ H2 h=>by obtain⟨_,_,rfl,rfl⟩:=h;exact⟨_,_,_,rfl,rfl⟩⟩
   rintro j σ H2 hj ⟨v9,v10,rfl,rfl⟩
   have hj:j<zs.length:=by lia
   rw[show(0+((j:Nat):Int))=((j:Nat):Int) by lia]
   obtain⟨qi,qt,qtr⟩:=tp hj
   obtain⟨k',k3,k4⟩:=ky hj
   obtain⟨r,r1,r2,r3⟩:=tl hi hj
   obtain⟨r',r4,r5,r6⟩:=tl hj hi
   refine⟨_,rfl,_,rfl,bA,_,_,V.ref r,rfl,rfl,aA.of hbb,aF (j:=i) r1,_,rfl,r,_,_,_,rfl,rfl,aA.of r2,aF (j:=j) r3,rfl,_,rfl,?_⟩
   rw[KU (λz=>nomatch z)]
   refine bF ⟨_,rfl,_,rfl,bA,_,_,V.ref r,rfl,rfl,aA.of hbb,aF (j:=i) r1,_,rfl,r,_,_,_,rfl,rfl,aA.of r2,aF (j:=j) r3,_,rfl,_,rfl,kA,_,_,V.ref k,rfl,rfl,aA.of hK,aF (j:=i) k1,_,rfl,_,rfl,kA,_,_,V.ref k',rfl,rfl,aA.of hK,aF (j:=j) k3,k,k',_,_,rfl,rfl,AJ hr,k2,k4,rfl,_,rfl,?_⟩
   rw[KC rfl]
   refine bF ⟨_,rfl,_,rfl,tA,_,_,V.ref zs[i].2,rfl,rfl,aA.of hA,aF (j:=i) pi,_,rfl,_,rfl,tA,_,_,V.ref zs[j].2,rfl,rfl,aA.of hA,aF (j:=j) qi,_,_,_,_,rfl,rfl,hu,aA.of pt,aA.of qt,_,rfl,?_⟩
   refine E9 (λnext c=>⟨_,rfl,_,rfl,bA,_,_,V.ref r,rfl,rfl,aA.of hbb,aF (j:=i) r1,_,rfl,r,_,_,_,rfl,rfl,aA.of r2,aF (j:=j) r3,_,rfl,_,rfl,bA,_,_,V.ref r',rfl,rfl,aA.of hbb,aF (j:=j) r4,_,rfl,r',_,_,_,rfl,rfl,aA.of r5,aF (j:=i) r6,rfl,_,rfl,?_⟩) (bF ?_)
   ·have ne:zs[i].1≠zs[j].1:=λz=>by rw[KC z]at c;cases c
    have nk:rk f zs[i].1≠rk f zs[j].1:=λz=>ne (F7 wn so told ptr qtr z)
    rw[KU λz=>by
     have z:=V.bl.inj z
     rcases qj.tri _ _ nk with⟨a,b⟩|⟨a,b⟩ <;> rw[a,b]at z <;> cases z]
    exact next
   refine⟨_,rfl,_,_,rfl,hl,_,rfl,by lia,by lia,fk (lo:=0) (n:=((zs.length:Nat):Int).toNat) (L3I (λv10=>[some (.ref a),some (.ref mv),some (.ref st),some (.ref x),some (.ref tA),v5,some (.ref kA),some (.ref bA),some (.int (i:Int)),some (.int (j:Int)),v10]) Hb) ⟨_,rfl,rfl⟩ ?_ λσ H2 h=>by obtain⟨_,rfl,rfl⟩:=h;exact⟨_,_,rfl,rfl⟩⟩
   rintro m σ H2 hm ⟨v10,rfl,rfl⟩
   have hm:m<zs.length:=by lia
   rw[show(0+((m:Nat):Int))=((m:Nat):Int) by lia]
   obtain⟨r7,r8,r9,ra⟩:=tl hj hm
   obtain⟨rb,rc,rd,re⟩:=tl hi hm
   refine⟨_,rfl,_,rfl,bA,_,_,V.ref r,rfl,rfl,aA.of hbb,aF (j:=i) r1,_,rfl,r,_,_,_,rfl,rfl,aA.of r2,aF (j:=j) r3,_,rfl,?_⟩
   have tr3:=qj.tr (rk f zs[i].1) (rk f zs[j].1) (rk f zs[m].1)
   refine E9 (λnext c=>⟨_,rfl,_,rfl,bA,_,_,V.ref r7,rfl,rfl,aA.of hbb,aF (j:=j) r8,_,rfl,r7,_,_,_,rfl,rfl,aA.of r9,aF (j:=m) ra,_,rfl,E9 (λ_ c'=>⟨_,rfl,_,rfl,bA,_,_,V.ref rb,rfl,rfl,aA.of hbb,aF (j:=i) rc,_,rfl,rb,_,_,_,rfl,rfl,aA.of rd,aF (j:=m) re,_,rfl,?_⟩) next⟩) (bF ⟨_,rfl,rfl⟩)
   rw[tr3 c c']
   exact next
  ·rintro σ H2 ⟨v8,v9,v10,rfl,rfl⟩
   exact kk _
end Uf
end
section
namespace Uf
open PySem L2 UfSrt PyProof.Rows
def Gw{n:Nat}{us:List Value}(h:us.length=n+1):∃a t,us=a::t/\t.length=n:=by
 cases us with
 |nil=>cases h
 |cons a t=>exact⟨a,t,rfl,Nat.succ.inj h⟩
def FJ{us:List Value}(h:us.length=1):∃a,us=[a]:=List.length_eq_one_iff.mp h
def Gk{us:List Value}(h:us.length=2):∃a b,us=[a,b]:=by
 obtain⟨a,t,rfl,k⟩:=Gw h
 obtain⟨b,rfl⟩:=FJ k
 exact⟨a,b,rfl⟩
def FX{us:List Value}(h:us.length=3):∃a b c,us=[a,b,c]:=by
 obtain⟨a,t,rfl,k⟩:=Gw h
 obtain⟨b,c,rfl⟩:=Gk k
 exact⟨a,b,c,rfl⟩
def I0{us:List Value}(h:us.length=4):∃a b c d,us=[a,b,c,d]:=by
 obtain⟨a,t,rfl,k⟩:=Gw h
 obtain⟨b,c,d,rfl⟩:=FX k
 exact⟨a,b,c,d,rfl⟩
def DX(K:W.Frag)(x:Str)(st:Stmt)(ps:List Str):Prop:=∃f fd,W.nsIn K mainGlobals x=some (some (.ref f))/\dj K x x st f fd/\Binds K fd ps []
def MX(K:W.Frag)(C:Addr)(x q:Str)(st:Stmt)(ps:List Str):Prop:=∃f fd,W.findIn K (.ref C) x=some (some (.ref f))/\W.isFn K (.ref f)=true/\dj K x q st f fd/\Binds K fd ps []
section
variable {K:W.Frag}{h:Heap}{mg:Str->Option Value}{C:Addr}{x q:Str}{st:Stmt}{ps:List Str}
def DX.d(X:K.In h)(G:h.Ns mainGlobals mg)(l:DX K x st ps):∃f fd,Def K mg x st ps f fd:=let ⟨_,_,a,b,c⟩:=l;⟨_,_,b,NQ X G a,c⟩
def MX.d(l:MX K C x q st ps):∃f fd,BU K C x q st ps f fd:=let ⟨_,_,a,i,b,c⟩:=l;⟨_,_,b,⟨a,i,b.kp⟩,c⟩
variable {f:Addr}{oc:Value}{od an:Option Addr}{osl:Array (Option Value)}{kV doc pm cdv ct:Value}
def Ho(a:W.nsIn K mainGlobals x=some (some (.ref f)))(l:K.lookup f=some ⟨oc,od,.func (W.fnOf x x (fe st) (dH st) (ar st) .none kV doc pm an cdv ct),osl⟩)(c:W.codeIn K cdv x=true)(k:W.keepIn K (.ref f)=true)
  (b:∀(kV doc pm:Value) (an:Option Addr) (cdv ct:Value) (us:List Value),us.length=ps.length->bindArgs (W.fnOf x x (fe st) (dH st) (ar st) .none kV doc pm an cdv ct) ⟨us,[]⟩=pure (ps.zip us):=by intro _ _ _ _ _ _ us hl;first|(obtain⟨_,rfl⟩:=Uf.FJ hl;rfl)|(obtain⟨_,_,rfl⟩:=Uf.Gk hl;rfl)|(obtain⟨_,_,_,rfl⟩:=Uf.FX hl;rfl)|(obtain⟨_,_,_,_,rfl⟩:=Uf.I0 hl;rfl)):DX K x st ps:=⟨f,_,a,pZ l c k,(pZ l c k).binds b⟩
def IC(a:W.findIn K (.ref C) x=some (some (.ref f)))(i:W.isFn K (.ref f)=true)(l:K.lookup f=some ⟨oc,od,.func (W.fnOf x q (fe st) (dH st) (ar st) .none kV doc pm an cdv ct),osl⟩)(c:W.codeIn K cdv q=true)(k:W.keepIn K (.ref f)=true)
  (b:∀(kV doc pm:Value) (an:Option Addr) (cdv ct:Value) (us:List Value),us.length=ps.length->bindArgs (W.fnOf x q (fe st) (dH st) (ar st) .none kV doc pm an cdv ct) ⟨us,[]⟩=pure (ps.zip us):=by intro _ _ _ _ _ _ us hl;first|(obtain⟨_,rfl⟩:=Uf.FJ hl;rfl)|(obtain⟨_,_,rfl⟩:=Uf.Gk hl;rfl)|(obtain⟨_,_,_,rfl⟩:=Uf.FX hl;rfl)|(obtain⟨_,_,_,_,rfl⟩:=Uf.I0 hl;rfl)):MX K C x q st ps:=⟨f,_,a,i,pZ l c k,(pZ l c k).binds b⟩
end
def all_mk{l:W.OpenLaw}{w:World}{K:W.Frag}{h:Heap}{mg:Str->Option Value}{fa C CW:Addr}(X:K.In h)(G:h.Ns mainGlobals mg)(hfa:mg "law"=some (.ref fa))
  {tk1 tk2 tk3 tk4 tk5 tk6 tk7:Tok}
  (aC:W.nsIn K mainGlobals "Net"=some (some (.ref C)))
  (aW:W.nsIn K mainGlobals "Web"=some (some (.ref CW)))
  (l1:DX K "levels" Jh ["web", "troop"])
  (l2:DX K "level_names" Jn ["web", "troop"])
  (l3:DX K "rank" xf ["names_by_level"])
  (l4:DX K "less" wU ["web", "one", "other"])
  (l5:DX K "bit" xW ["number"])
  (l6:DX K "has" C8 ["bits", "number"])
  (l7:DX K "members" hV ["bits"])
  (l8:DX K "fitting_spots" DI ["web", "move", "among"])
  (l9:DX K "comings" xr ["web"])
  (l10:DX K "lacks_bead" mQ ["net", "state", "move"])
  (l11:DX K "gives_second" jz ["net", "state", "move"])
  (l12:DX K "state_behind" lE ["net", "state", "move"])
  (l13:DX K "may" CM ["net", "state"])
  (l14:DX K "crowder" jM ["net", "state"])
  (l15:DX K "newly_reached" qk ["net", "states", "ways"])
  (l16:DX K "crowding" iB ["net"])
  (l17:DX K "is_name" eC ["thing"])
  (l18:DX K "are_unlike_names" iH ["things"])
  (l19:DX K "is_move" jI ["taken", "given"])
  (l20:DX K "places_of" jy ["moves", "start"])
  (l21:DX K "makes_net" qv ["moves", "start"])
  (l22:DX K "_law_cell_at" pd ["_law_script", "_law_k"])
  (l23:DX K "_law_name" sZ ["_law_cell", "_law_k"])
  (l24:DX K "_law_folded" kU ["_law_cells", "_law_many"])
  (l25:DX K "_law_step" wj ["_law_number", "_law_sizes", "_law_names"])
  (l26:DX K "_law_rings" qO ["_law_script", "_law_most"])
  (l27:DX K "_law_crowds" k8 ["_law_moves", "_law_start"])
  (l28:DX K "_law_move_name" Ck ["_law_number"])
  (l29:DX K "_law_mixed" pJ ["_law_cell", "_law_k"])
  (l30:DX K "_law_free" xt ["_law_script", "_law_most"])
  (l31:DX K "_law_parts" p9 ["_law_script", "_law_most"])
  (l32:DX K "_law_hand_web" wJ ["_law_net", "_law_cells"])
  (l33:DX K "_law_troop" qm ["_law_web", "_law_bits"])
  (l34:DX K "_law_layers" Ei ["_law_web", "_law_troop_here"])
  (l35:DX K "_law_key" CP ["_law_web", "_law_troop_here"])
  (l36:DX K "_law_truth" CZ ["_law_web", "_law_one", "_law_other"])
  (l37:DX K "law" yc ["_law_script"])
  (l38:MX K C "__init__" "Net.__init__" AB ["self", "moves", "start"])
  (l39:MX K C "places" "Net.places" wL ["self"])
  (l40:MX K C "moves" "Net.moves" o7 ["self"])
  (l41:MX K C "start" "Net.start" mh ["self"])
  (l42:MX K C "must_have" "Net.must_have" rH ["self", "move"])
  (l43:MX K C "takes" "Net.takes" ik ["self", "move"])
  (l44:MX K C "gives" "Net.gives" ki ["self", "move"])
  (l45:MX K CW "__init__" "Web.__init__" u7 ["self", "net"])
  (l46:MX K CW "net" "Web.net" sC ["self"])
  (l47:MX K CW "spots" "Web.spots" yy ["self"])
  (l48:MX K CW "occurrences" "Web.occurrences" AW ["self"])
  (l49:MX K CW "come" "Web.come" vP ["self", "move", "spots"])
  (l50:MX K CW "must_have_spot" "Web.must_have_spot" qM ["self", "number"])
  (l51:MX K CW "must_fit" "Web.must_fit" qh ["self", "move", "spots"])
  (l52:MX K CW "must_stand_beside" "Web.must_stand_beside" qb ["self", "spots"])
  (l53:MX K CW "bits_ahead" "Web.bits_ahead" qp ["self", "spots"])
  (l54:MX K CW "add_occurrence" "Web.add_occurrence" wD ["self", "occurrence"])
  (l55:MX K CW "add_spots" "Web.add_spots" As ["self", "places", "giver", "beside"])
  (pg:W.plainGet K C Str.empty=true)
  (hd:W.hasDictIn K C=true)
  (po:W.plainOver K C=true)
  (sa:W.findIn K (.ref C) "__setattr__"=some (some (.builtin "object.__setattr__")))
  (mk:W.makesIn K C=true)
  (kc:W.keepIn K (.ref C)=true)
  (pgW:W.plainGet K CW Str.empty=true)
  (hdW:W.hasDictIn K CW=true)
  (poW:W.plainOver K CW=true)
  (saW:W.findIn K (.ref CW) "__setattr__"=some (some (.builtin "object.__setattr__")))
  (mkW:W.makesIn K CW=true)
  (kcW:W.keepIn K (.ref CW)=true)
  (wN:W.findIn K (.ref CW) "base_net"=some none)
  (wS:W.findIn K (.ref CW) "spot_tuples"=some none)
  (wO:W.findIn K (.ref CW) "occurrence_tuples"=some none)
  (wH:W.findIn K (.ref CW) "numbers_there"=some none)
  (wW:W.findIn K (.ref CW) "own_bits"=some none)
  (wG:W.findIn K (.ref CW) "given_bits"=some none)
  (wB:W.findIn K (.ref CW) "beside_bits"=some none)
  (wT:W.findIn K (.ref CW) "taker_bits"=some none)
  (wP:W.findIn K (.ref CW) "place_bits"=some none)
  (nP:W.findIn K (.ref C) "place_names"=some none)
  (nS:W.findIn K (.ref C) "start_state"=some none)
  (nT:W.findIn K (.ref C) "taken_by"=some none)
  (nG:W.findIn K (.ref C) "given_by"=some none)
  (z1:W.nsIn K mainGlobals "all"=some none)
  (z2:W.nsIn K mainGlobals "len"=some none)
  (z3:W.nsIn K mainGlobals "set"=some none)
  (z4:W.nsIn K mainGlobals "list"=some none)
  (z5:W.nsIn K mainGlobals "tuple"=some none)
  (z6:W.nsIn K mainGlobals "str"=some none)
  (z7:W.nsIn K mainGlobals "sorted"=some none)
  (z8:W.nsIn K mainGlobals "isinstance"=some none)
  (z9:W.nsIn K mainGlobals "range"=some none)
  (z10:W.nsIn K mainGlobals "enumerate"=some none)
  (z11:W.nsIn K mainGlobals "any"=some none)
  (z12:W.nsIn K mainGlobals "dict"=some none)
  (z13:W.nsIn K mainGlobals "max"=some none)
  (z14:W.nsIn K mainGlobals "min"=some none)
  (z15:W.nsIn K mainGlobals "bool"=some none)
  (y1:W.nsIn K mainGlobals "LETTERS"=some (some (.str BQ tk1)))
  (y2:W.nsIn K mainGlobals "LONGEST_NAME"=some (some (.int 8 tk2)))
  (y3:W.nsIn K mainGlobals "MOST_PLACES"=some (some (.int 12 tk3)))
  (y4:W.nsIn K mainGlobals "MOST_MOVES"=some (some (.int 12 tk4)))
  (y5:W.nsIn K mainGlobals "LEAST_TAKEN"=some (some (.int 1 tk5)))
  (y6:W.nsIn K mainGlobals "MOST_TAKEN"=some (some (.int 4 tk6)))
  (y7:W.nsIn K mainGlobals "MOST_GIVEN"=some (some (.int 4 tk7))) :
  ∃fd:FuncData,(∀(s:Shared) (v:Value),BindsTo s fd ⟨[v],[]⟩ [("_law_script",v)])/\∀base:Heap,K.In base->base.Ns mainGlobals mg->a9 l.prog w K mg base cR 12 fa fd ["_law_script"] (wC K):=by
 have T:Txt K mg:=⟨L6 X G z1,L6 X G z2,L6 X G z3,L6 X G z4,L6 X G z5,L6 X G z6,L6 X G z7,L6 X G z8,⟨_,NQ X G y1⟩,⟨_,NQ X G y2⟩,⟨_,NQ X G y3⟩,⟨_,NQ X G y4⟩,⟨_,NQ X G y5⟩,⟨_,NQ X G y6⟩,⟨_,NQ X G y7⟩⟩
 have T2:Txt2 mg:=⟨L6 X G z9,L6 X G z10,L6 X G z11⟩
 have NC:gO K C:=⟨⟨pg,hd,po,sa⟩,nP,nS,nT,nG⟩
 have WC:gX K CW:=⟨⟨pgW,hdW,poW,saW⟩,wN,wS,wO,wH,wW,wG,wB,wT,wP⟩
 obtain⟨f1,d1,D1⟩:=l1.d X G
 obtain⟨f2,d2,D2⟩:=l2.d X G
 obtain⟨f3,d3,D3⟩:=l3.d X G
 obtain⟨f4,d4,D4⟩:=l4.d X G
 obtain⟨f5,d5,D5⟩:=l5.d X G
 obtain⟨f6,d6,D6⟩:=l6.d X G
 obtain⟨f7,d7,D7⟩:=l7.d X G
 obtain⟨f8,d8,D8⟩:=l8.d X G
 obtain⟨f9,d9,D9⟩:=l9.d X G
 obtain⟨f10,d10,D10⟩:=l10.d X G
 obtain⟨f11,d11,D11⟩:=l11.d X G
 obtain⟨f12,d12,D12⟩:=l12.d X G
 obtain⟨f13,d13,D13⟩:=l13.d X G
 obtain⟨f14,d14,D14⟩:=l14.d X G
 obtain⟨f15,d15,D15⟩:=l15.d X G
 obtain⟨f16,d16,D16⟩:=l16.d X G
 obtain⟨f17,d17,D17⟩:=l17.d X G
 obtain⟨f18,d18,D18⟩:=l18.d X G
 obtain⟨f19,d19,D19⟩:=l19.d X G
 obtain⟨f20,d20,D20⟩:=l20.d X G
 obtain⟨f21,d21,D21⟩:=l21.d X G
 obtain⟨f22,d22,D22⟩:=l22.d X G
 obtain⟨f23,d23,D23⟩:=l23.d X G
 obtain⟨f24,d24,D24⟩:=l24.d X G
 obtain⟨f25,d25,D25⟩:=l25.d X G
 obtain⟨f26,d26,D26⟩:=l26.d X G
 obtain⟨f27,d27,D27⟩:=l27.d X G
 obtain⟨f28,d28,D28⟩:=l28.d X G
 obtain⟨f29,d29,D29⟩:=l29.d X G
 obtain⟨f30,d30,D30⟩:=l30.d X G
 obtain⟨f31,d31,D31⟩:=l31.d X G
 obtain⟨f32,d32,D32⟩:=l32.d X G
 obtain⟨f33,d33,D33⟩:=l33.d X G
 obtain⟨f34,d34,D34⟩:=l34.d X G
 obtain⟨f35,d35,D35⟩:=l35.d X G
 obtain⟨f36,d36,D36⟩:=l36.d X G
 obtain⟨f38,d38,D38⟩:=l38.d
 obtain⟨f39,d39,D39⟩:=l39.d
 obtain⟨f40,d40,D40⟩:=l40.d
 obtain⟨f41,d41,D41⟩:=l41.d
 obtain⟨f42,d42,D42⟩:=l42.d
 obtain⟨f43,d43,D43⟩:=l43.d
 obtain⟨f44,d44,D44⟩:=l44.d
 obtain⟨f45,d45,D45⟩:=l45.d
 obtain⟨f46,d46,D46⟩:=l46.d
 obtain⟨f47,d47,D47⟩:=l47.d
 obtain⟨f48,d48,D48⟩:=l48.d
 obtain⟨f49,d49,D49⟩:=l49.d
 obtain⟨f50,d50,D50⟩:=l50.d
 obtain⟨f51,d51,D51⟩:=l51.d
 obtain⟨f52,d52,D52⟩:=l52.d
 obtain⟨f53,d53,D53⟩:=l53.d
 obtain⟨f54,d54,D54⟩:=l54.d
 obtain⟨f55,d55,D55⟩:=l55.d
 obtain⟨fl,_,a,FL,_⟩:=l37
 cases hfa.symm.trans (NQ X G a)
 obtain⟨oc,od,kV,doc,pm,an,cdv,ct,osl,rfl,lk,hcd⟩:=id FL.ex
 refine⟨W.fnOf "law" "law" (fe yc) (dH yc) (ar yc) .none kV doc pm an cdv ct,λs v=>.of_eq rfl,λbase _ _=>?_⟩
 have GI:=Ej (P:=l.prog) (w:=w) (mg:=mg) (base:=base) D38.fn T NC D17 D18 D19 D20 D21
 have GPl:=B3 (P:=l.prog) (w:=w) (mg:=mg) (base:=base) D39.fn T NC
 have GM:=CY (P:=l.prog) (w:=w) (mg:=mg) (base:=base) D40.fn T NC
 have GS:=zz (P:=l.prog) (w:=w) (mg:=mg) (base:=base) D41.fn NC
 have GT:=zX (P:=l.prog) (w:=w) (mg:=mg) (base:=base) D43.fn T NC D17 D42
 have GG:=Bk (P:=l.prog) (w:=w) (mg:=mg) (base:=base) D44.fn T NC D17 D42
 have GL:=zY (P:=l.prog) (w:=w) (mg:=mg) (base:=base) D10.fn T T2.any NC ⟨_,_,D43,GT⟩
 have GSe:=ym (P:=l.prog) (w:=w) (mg:=mg) (base:=base) D11.fn T T2.any NC ⟨_,_,D43,GT⟩ ⟨_,_,D44,GG⟩
 have GB:=yr (P:=l.prog) (w:=w) (mg:=mg) (base:=base) D12.fn T NC ⟨_,_,D43,GT⟩ ⟨_,_,D44,GG⟩
 have GMay:=Fx (P:=l.prog) (w:=w) (mg:=mg) (base:=base) D13.fn NC ⟨_,_,D40,GM⟩ ⟨_,_,D10,GL⟩ ⟨_,_,D11,GSe⟩
 have GCd:=vz (P:=l.prog) (w:=w) (mg:=mg) (base:=base) D14.fn NC ⟨_,_,D40,GM⟩ ⟨_,_,D10,GL⟩ ⟨_,_,D11,GSe⟩
 have GN:=Ao (P:=l.prog) (w:=w) (mg:=mg) (base:=base) D15.fn ⟨_,_,D13,GMay⟩ ⟨_,_,D12,GB⟩
 have GCr:=rE (P:=l.prog) (w:=w) (mg:=mg) (base:=base) D16.fn NC ⟨_,_,D41,GS⟩ ⟨_,_,D14,GCd⟩ ⟨_,_,D15,GN⟩
 have GBi:=FI (P:=l.prog) (w:=w) (mg:=mg) (base:=base) D5.fn
 have GHa:=E5 (P:=l.prog) (w:=w) (mg:=mg) (base:=base) D6.fn
 have GMe:=vI (P:=l.prog) (w:=w) (mg:=mg) (base:=base) D7.fn
 have GAd:=AX false (P:=l.prog) (w:=w) (mg:=mg) (base:=base) D55.fn T WC ⟨_,_,D7,GMe⟩ ⟨_,_,D5,GBi⟩
 have GAl:=AX true (P:=l.prog) (w:=w) (mg:=mg) (base:=base) D55.fn T WC ⟨_,_,D7,GMe⟩ ⟨_,_,D5,GBi⟩
 have GWi:=An (P:=l.prog) (w:=w) (mg:=mg) (base:=base) (C:=C) (CW:=CW) D45.fn T (L6 X G z12) NC WC ⟨_,_,D16,GCr⟩ ⟨_,_,D39,GPl⟩ ⟨_,_,D41,GS⟩ ⟨_,_,D55,GAd⟩
 have GWn:=Cz (P:=l.prog) (w:=w) (mg:=mg) (base:=base) (C:=C) (CW:=CW) D46.fn WC
 have GWs:=Gs (P:=l.prog) (w:=w) (mg:=mg) (base:=base) (C:=C) (CW:=CW) D47.fn T WC
 have GWo:=Fc (P:=l.prog) (w:=w) (mg:=mg) (base:=base) (C:=C) (CW:=CW) D48.fn T WC
 have GMs:=zC (P:=l.prog) (w:=w) (mg:=mg) (base:=base) (C:=C) (CW:=CW) D50.fn T WC
 have GMf:=zS (P:=l.prog) (w:=w) (mg:=mg) (base:=base) (C:=C) (CW:=CW) D51.fn T NC WC ⟨_,_,D43,GT⟩ ⟨_,_,D50,GMs⟩
 have GMb:=zU (P:=l.prog) (w:=w) (mg:=mg) (base:=base) (C:=C) (CW:=CW) D52.fn T2 WC ⟨_,_,D6,GHa⟩
 have GAh:=zi (P:=l.prog) (w:=w) (mg:=mg) (base:=base) (C:=C) (CW:=CW) D53.fn WC
 have GAo:=CH (P:=l.prog) (w:=w) (mg:=mg) (base:=base) (C:=C) (CW:=CW) D54.fn T NC WC ⟨_,_,D5,GBi⟩ ⟨_,_,D44,GG⟩ ⟨_,_,D53,GAh⟩ ⟨_,_,D55,GAl⟩
 have GCo:=Ce (P:=l.prog) (w:=w) (mg:=mg) (base:=base) (C:=C) (CW:=CW) D49.fn T WC ⟨_,_,D51,GMf⟩ ⟨_,_,D52,GMb⟩ ⟨_,_,D54,GAo⟩
 have GFi:=FO (P:=l.prog) (w:=w) (mg:=mg) (base:=base) (C:=C) (CW:=CW) D8.fn T NC WC ⟨_,_,D46,GWn⟩ ⟨_,_,D43,GT⟩ ⟨_,_,D7,GMe⟩
 have GCg:=Cv (P:=l.prog) (w:=w) (mg:=mg) (base:=base) (C:=C) (CW:=CW) D9.fn T NC WC ⟨_,_,D5,GBi⟩ ⟨_,_,D47,GWs⟩ ⟨_,_,D46,GWn⟩ ⟨_,_,D40,GM⟩ ⟨_,_,D8,GFi⟩
 have GLv:=IV (P:=l.prog) (w:=w) (mg:=mg) (base:=base) (C:=C) (CW:=CW) D1.fn T (L6 X G z13) WC
 have GCe:=DZ (P:=l.prog) (w:=w) (mg:=mg) (base:=base) D22.fn T
 have GNa:=CN (P:=l.prog) (w:=w) (mg:=mg) (base:=base) D23.fn
 have GFo:=yQ (P:=l.prog) (w:=w) (mg:=mg) (base:=base) D24.fn T T2
 have GSt:=Dd (P:=l.prog) (w:=w) (mg:=mg) (base:=base) D25.fn T T2
 have GRg:=AA (P:=l.prog) (w:=w) (mg:=mg) (base:=base) D26.fn T T2 (L6 X G z14) ⟨_,_,D22,GCe⟩ ⟨_,_,D23,GNa⟩ ⟨_,_,D24,GFo⟩ ⟨_,_,D25,GSt⟩
 have GCw:=ya (P:=l.prog) (w:=w) (mg:=mg) (base:=base) D27.fn T T2
 have GMn:=Fn (P:=l.prog) (w:=w) (mg:=mg) (base:=base) D28.fn
 have GMx:=Ai (P:=l.prog) (w:=w) (mg:=mg) (base:=base) D29.fn
 have GFr:=Dx (P:=l.prog) (w:=w) (mg:=mg) (base:=base) D30.fn T T2 ⟨_,_,D22,GCe⟩ ⟨_,_,D23,GNa⟩ ⟨_,_,D28,GMn⟩ ⟨_,_,D29,GMx⟩ ⟨_,_,D27,GCw⟩
 have GPa:=zr (P:=l.prog) (w:=w) (mg:=mg) (base:=base) D31.fn ⟨_,_,D22,GCe⟩ ⟨_,_,D26,GRg⟩ ⟨_,_,D30,GFr⟩
 have GHw:=CC (P:=l.prog) (w:=w) (mg:=mg) (base:=base) (C:=C) (CW:=CW) D32.fn T WC (NQ X G aW) ⟨mkW,D45.mt.at_,D45.mt.fn,kcW⟩ D45.bd GWi ⟨_,_,D9,GCg⟩ ⟨_,_,D49,GCo⟩
 have GTr:=Ae (P:=l.prog) (w:=w) (mg:=mg) (base:=base) (C:=C) (CW:=CW) D33.fn T T2 WC ⟨_,_,D47,GWs⟩ ⟨_,_,D48,GWo⟩
 have GLn:=HB (P:=l.prog) (w:=w) (mg:=mg) (base:=base) (C:=C) (CW:=CW) D2.fn T WC ⟨_,_,D1,GLv⟩
 have GRk:=Ee (P:=l.prog) (w:=w) (mg:=mg) (base:=base) D3.fn T
 have GLs:=Dk (P:=l.prog) (w:=w) (mg:=mg) (base:=base) (C:=C) (CW:=CW) D4.fn ⟨_,_,D2,GLn⟩ ⟨_,_,D3,GRk⟩
 have GLa:=yC (P:=l.prog) (w:=w) (mg:=mg) (base:=base) (C:=C) (CW:=CW) D34.fn T (L6 X G z13) WC ⟨_,_,D47,GWs⟩ ⟨_,_,D48,GWo⟩
 have GKe:=E4 (P:=l.prog) (w:=w) (mg:=mg) (base:=base) (C:=C) (CW:=CW) D35.fn T ⟨_,_,D34,GLa⟩
 have GTu:=Gm (P:=l.prog) (w:=w) (mg:=mg) (base:=base) (C:=C) (CW:=CW) D36.fn T (L6 X G z15) ⟨_,_,D4,GLs⟩
 exact Gq FL T T2 (NQ X G aC) ⟨mk,D38.mt.at_,D38.mt.fn,kc⟩ D38.bd GI ⟨_,_,D31,GPa⟩ ⟨_,_,D32,GHw⟩ ⟨_,_,D33,GTr⟩ ⟨_,_,D35,GKe⟩ ⟨_,_,D36,GTu⟩
def walk{l:W.OpenLaw}{q:Program}{loose:List Str}{XP:(Str->Option Value)->Heap->Prop}{YP:World->Heap->Prop}{d:DefRec}{K:Params->W.Frag}(hn:l.most=some 63)(hdf:d.params.defaults=[])
  (hY:∀(w:World) (h:Heap),YP w h->(K w.params).In h)
  (F:∀(w:World) (mg:Str->Option Value) (fa:Addr) (h:Heap),(K w.params).In h->h.Ns mainGlobals mg->mg d.name = some (.ref fa) ->
   ∃fd:FuncData,(∀(s:Shared) (u:Value),BindsTo s fd ⟨[u],[]⟩ [("_law_script",u)])/\∀base:Heap,(K w.params).In base->base.Ns mainGlobals mg->a9 l.prog w (K w.params) mg base cR 12 fa fd ["_law_script"] (wC (K w.params))) :
  W.WalkO q loose XP YP l.row.toRowW d [] (λf vs=>PySem.call f vs) :=
 L2.Cn (n:=63) (k:=12) (x:="_law_script") (CX:=λ_=>cR) (sp:=λw=>wC (K w.params)) hn (by decide) hdf ⟨rfl,by decide,by decide,rfl⟩ hY F (λ_ _ a ns hl _ hS=>⟨a,ns,rfl,hS,hl,λ_=>rfl⟩) λ_ _ _ _ _ z=>z
end Uf
end
section
open PySem PySem.W PyProof.Rows
namespace PySem.W.Fast
def tw1212323926155372824:=()
def tw4117311855170600381:=()
def tw16115525405978450984:=()
def tw10443434563733595936:=()
def tw5641678886138804781:=()
def tw12012749664355909181:=()
def tw2931775331508333803:=()
def tw10408029543521064424:=()
def tw17508178268043219457:=()
def tw2603859066459937930:=()
def tw2502079668358896421:=()
def tw9459570361604834292:=()
def tw13223285481533021986:=()
def tw6218598723824770868:=()
def tw11005265002462526760:=()
def tw6131363657388672901:=()
def tw13999519293796882316:=()
def tw6193484434902536757:=()
def tw12820076439858732931:=()
def tw4474404856628231538:=()
def tw10620503502404774046:=()
def tw4045925907430905420:=()
def tw16251212506675219161:=()
def tw8820583370160427174:=()
def tw15230916802726545433:=()
def tw11077915743659888216:=()
def tw8818922672423862707:=()
def tw17474276831824538835:=()
def tw12996333244241158714:=()
def tw7384167239014025655:=()
def tw14706660820065585259:=()
def tw3229085877718352959:=()
def tw13629280002786415891:=()
def tw3838523245463965741:=()
def tw13890782570988099510:=()
def tw5534808615113302187:=()
def tw17574474550185512332:=()
def tw7686647201797486913:=()
def tw10310458118535625924:=()
def tw7919194272180988361:=()
def tw11783511445571080857:=()
def tw1270555296104424205:=()
def tw3748179644966266532:=()
def tw981528973145305308:=()
def tw2636184991644186044:=()
def tw6516282401159088715:=()
def tw12051325415824528543:=()
def tw2196808303746137885:=()
def tw16962929862097184164:=()
def tw13711783033148435985:=()
def tw11072299032232895743:=()
def tw1304838654408898290:=()
def tw6809186489422410349:=()
def tw13230790216275096106:=()
def tw13240818810777102419:=()
def tw11229469661406177864:=()
def tw4843630437587292259:=()
def tw10008287608570548379:=()
def tw4076937140297074898:=()
def tw17695294878625275802:=()
def tw10133913669179797420:=()
def tw8340806466431499286:=()
def tw17953289638293743256:=()
def tw11936384318860123757:=()
def tw2767594049400038586:=()
def tw12482855365212931636:=()
def tw12960944231138687395:=()
def tw18100609948356152431:=()
def tw10314679484029253913:=()
def tw5018994322179124528:=()
def tw2304691517780271067:=()
def tw13464716671211794000:=()
def tw369461670928850367:=()
def tw6716573977030656734:=()
def tw11938442939473959076:=()
def tw6126643820763165062:=()
def tw7541877600314501433:=()
def tw12351018232444793784:=()
def tw7651555211926821275:=()
def tw18203398770852860525:=()
def tw8264087106145283035:=()
def tw10121842602784554689:=()
def tw17597852735145290805:=()
def tw12352562648975372195:=()
def tw12268904447144656514:=()
def tw16501992068274926415:=()
def tw16255753993653609785:=()
def tw10939769167405530970:=()
def tw312637735871307852:=()
def tw3624674587493192692:=()
def tw2472078423089715498:=()
def tw553257385128599140:=()
def tw1904186441513058388:=()
def tw1120154827067748585:=()
def tw251390836401528248:=()
def tw1237596522772331045:=()
def tw4398680835928283922:=()
def tw6338450729518420157:=()
def tw9055804235327579526:=()
def tw14815197706453127213:=()
def tw5818817771425979020:=()
def tw11553909450991627298:=()
def tw5931146396494216126:=()
def tw6225853216375327884:=()
def tw12433216810576301250:=()
def tw5300807750298778764:=()
def tw8185785102303137143:=()
def tw3463116909683582123:=()
def tw291366551058956745:=()
def tw2041443846221929859:=()
def tw14173202060993466933:=()
def tw14068755799517143393:=()
def tw12511003311251874938:=()
def tw12980954197818717435:=()
def tw1891417120251773277:=()
def tw2355079449215823824:=()
def tw7714487448533052345:=()
def tw2494352164654901491:=()
def tw6441663451624866594:=()
def tw18284090855076271227:=()
def tw2351639664940672955:=()
def tw1198893927832322221:=()
def tw2096157808350818305:=()
def tw5677968842813028211:=()
def tw3178892992190921214:=()
def tw5093663310199466729:=()
def tw15871764460289967643:=()
def tw14135410480375600998:=()
def tw12326504333379231685:=()
def tw8791798904214151613:=()
def tw1425598024909366081:=()
def tw4504969596421652175:=()
def tw17031681076281069196:=()
def tw1485413969274207790:=()
def tw17474359900760024406:=()
def tw1090018648878640449:=()
def tw13713828623245026388:=()
def tw7784544910580022999:=()
def tw15492779905923550541:=()
def tw14420929790124564669:=()
def tw3881346622567477499:=()
def tw6704175462132738731:=()
def tw5229054726375468268:=()
def tw8461759418528756557:=()
def tw15647724710210787172:=()
def tw5503212588176826324:=()
def tw3225562798936502643:=()
def tw14683870801042882935:=()
def tw3118033746801314522:=()
def tw5145511342076485935:=()
def tw9036784734420662318:=()
def tw4373830675700992757:=()
def tw3918105570886557141:=()
def tw8740736118775233930:=()
def tw4894362792336419321:=()
def tw343547249901632470:=()
def tw7664429855768625037:=()
def tw16066113918125128890:=()
def tw2277439598848044989:=()
def tw416724444606815914:=()
def tw11896740843326997608:=()
def tw14602386839584235181:=()
def tw13782738349891641000:=()
def tw15961904039268446544:=()
def tw7907728965259128844:=()
def tw14245865331038456874:=()
def tw1554763198517558428:=()
def tw16421598252661106113:=()
def tw1304076410149832041:=()
def tw14947707311440410367:=()
def tw5247512958396415392:=()
def tw11562697760325254651:=()
def tw12558919144360097503:=()
def tw17750354871252376360:=()
def tw511843750941213799:=()
def tw9294741696680831539:=()
def tw7013461327606927956:=()
def tw18444027712210175843:=()
def tw14268565267637666497:=()
def tw15026458785823042208:=()
def tw10798344965589648193:=()
def tw9923233549653985876:=()
def tw15411650367096130578:=()
def tw6857454627410089093:=()
def tw8269874596121232476:=()
def tw1370570319386296121:=()
def tw11208144224303555538:=()
def tw2183787289802821894:=()
def tw5065383103931034498:=()
def tw13861001142451029306:=()
def tw13082658080063336347:=()
def tw14764895288631635462:=()
def tw1935687359160408284:=()
def tw18205204455301055640:=()
def tw13749284724732227518:=()
def tw8557838408387120621:=()
def tw10302661053784746674:=()
def tw17597609823478032975:=()
def tw4892823780601686657:=()
def tw14845826088084619967:=()
def tw16925511504960163856:=()
def tw8358975789519190834:=()
def tw10531534003895223788:=()
def tw11747790607352760921:=()
def tw7191098696314460867:=()
def tw16250837769915330748:=()
def tw6529923879902490040:=()
def tw12451932598601463368:=()
def tw16112701290251061490:=()
def tw900166271859131860:=()
def tw6537907634542780055:=()
def tw18263170114168771571:=()
def tw1107250074164000438:=()
def tw16940915814930179100:=()
def tw10307727150669370046:=()
def tw1153142619253503285:=()
def tw16374115990806372722:=()
def tw13736719762085347647:=()
def tw10285859578865632609:=()
def tw5417993528896942480:=()
def tw12086913342778650884:=()
def tw18188995322233494940:=()
def tw8387239958279556758:=()
def tw2127891337031693994:=()
def tw1601742769554737484:=()
def tw12361829725309872563:=()
def tw18063603772917573792:=()
def tw15877424704485633788:=()
def tw15049142416332032947:=()
def tw9788380909070935032:=()
def tw3001678188808284722:=()
def tw3754502429558415530:=()
def tw10664943944346872445:=()
def tw363642333257769867:=()
def tw15059462247758004295:=()
def tw3764482829349401824:=()
def tw10123159202446188237:=()
def tw15188993662631316365:=()
def tw2789321576649895797:=()
def tw718225583681311661:=()
def tw4838052328613529949:=()
def tw14629782585759482257:=()
def tw1856043544233826860:=()
def tw4090233333172180184:=()
def tw13910322536034028105:=()
def tw2205140507434888575:=()
def tw4575193063700730423:=()
def tw8435881080261654527:=()
def tw16872610947110423125:=()
def tw1365607786755856518:=()
def tw17655316276631168505:=()
def tw7571806095952272739:=()
def tw6819166046538797824:=()
def tw2604842244095263697:=()
def tw12200622991619460887:=()
def tw7562273698948109269:=()
def tw5613374127708622031:=()
def tw18397372709348480525:=()
def tw600830205043693310:=()
def tw3427727511869810490:=()
def tw11134337594283199509:=()
def tw5178545497203964337:=()
def tw3397140666760316607:=()
def tw1185340622714437339:=()
def tw6304593437793471355:=()
def tw15947439975575785543:=()
def tw12899489949032166008:=()
def tw13697104324021158667:=()
def tw7664809980338393027:=()
def tw15059962615935413928:=()
def tw1956228794013449675:=()
def tw16670575919309332782:=()
def tw1036417745160113840:=()
def tw13522483199803774012:=()
def tw7784975062034245564:=()
def tw13596846494459468359:=()
def tw148534367649242166:=()
def tw10938968795044833041:=()
def tw6264424081171371652:=()
def tw10665865587810525754:=()
def tw7606913284700717664:=()
def tw2105239636012935436:=()
def tw1363540376159345320:=()
def tw528516116146213539:=()
def tw5677791872414977026:=()
def tw4301563413512503577:=()
def tw11990742877833119600:=()
def tw13015807118051846532:=()
def tw8067156297649449742:=()
def tw12523116059846679863:=()
def tw4388768442638993996:=()
def tw14662199399652694309:=()
def tw15294256051762118177:=()
def tw11062175557356102419:=()
def tw9960958801353667093:=()
def tw6174742495073607813:=()
def tw10728055151666986307:=()
def tw10713667708650713837:=()
def tw6158846888728085423:=()
def tw8138962601518955730:=()
def tw3007221926410133008:=()
def tw7297455334252134568:=()
def tw9734679886538470678:=()
def tw11452088570567841006:=()
def tw14680146523870659446:=()
def tw9436114142137811675:=()
def tw6732497226334151771:=()
def tw9447308176542796939:=()
def tw9992565406862429601:=()
def tw15784956447918810576:=()
def tw15529002080740970840:=()
def tw11093659971254879056:=()
def tw7079964770558972389:=()
def tw13206090588851956873:=()
def tw8958402558514894776:=()
def tw6553456413576126909:=()
def tw1375102285171385656:=()
def tw11174839825076579954:=()
def tw7936071926252930092:=()
def tw5234366543755043608:=()
def tw13205134669736629421:=()
def tw15485032329719472687:=()
def tw15980394417375772558:=()
def tw12708121027278146697:=()
def tw12306322253058534871:=()
def tw10848968774144149257:=()
def tw5315860024471358928:=()
def tw6198750056844716981:=()
def tw1228927648592381348:=()
def tw9197327514689868811:=()
def tw17833655887644913335:=()
def tw16926505619032559018:=()
def tw14860225966165094968:=()
def tw17366408282851933259:=()
def tw10161507186753955685:=()
def tw17911754944967414181:=()
def tw16811249258832494690:=()
def tw6635855020891632565:=()
def tw2999476767445540687:=()
def tw6942263359161264411:=()
def tw10270878215533836368:=()
def tw11622134536888452737:=()
def tw18073898414275474520:=()
def tw8497721241262213425:=()
def tw3453348930488651466:=()
def tw13314882070298922652:=()
def tw8640998165862620325:=()
def tw4530790660163684900:=()
def tw11017113311328102781:=()
def tw16372390336990687359:=()
def tw8735969653711363541:=()
def tw4961706734486636577:=()
def tw4179651042493802949:=()
def tw3644968784407972504:=()
def tw2880920522040613444:=()
def tw8720492029610330402:=()
def tw4924213883490092291:=()
def tw13084225395426115974:=()
def tw15193736498689096998:=()
def tw14398261776998337504:=()
def tw6234952865026855471:=()
def tw2529413103873040477:=()
def tw6146145898800907585:=()
def tw12871222055398720472:=()
def tw1962875111337020589:=()
def tw18006547028689751437:=()
def tw13157517837779554737:=()
def tw8008699341528016415:=()
def tw16323041453877691104:=()
def tw16607428626533676101:=()
def tw15216368975525464964:=()
def tw12841036509583381794:=()
def tw17294388615184354772:=()
def tw8122745170135622068:=()
def tw10773520796439598322:=()
def tw5774409305059590325:=()
def tw10267118162096852833:=()
def tw12394672749302114649:=()
def tw13467889968481051176:=()
def tw16795630893816555884:=()
def tw15594470782521224782:=()
def tw14020836383251915756:=()
def tw12676622247370588445:=()
def tw17801855011117151802:=()
def tw5834864477749375102:=()
def tw14729433904152194753:=()
def tw4995522139462966875:=()
def tw7371725635629350465:=()
def tw15099930589422624275:=()
def tw7307894078176925343:=()
def tw10864044180782089923:=()
def tw8682800139964614059:=()
def tw12901134901156518874:=()
def tw14623257471628288712:=()
def tw10677355243886946139:=()
def tw7378800984324818393:=()
def tw12623408060574586399:=()
def tw16403879280083003310:=()
def tw1524159279119379585:=()
def tw8880016552120338571:=()
def tw18430602442308377637:=()
def tw15630336432608828592:=()
def tw17788294682284234166:=()
def tw4159277347044785002:=()
def tw15230968726948997375:=()
def tw3351943143028020196:=()
def tw5161575775248348556:=()
def tw12476079672272605985:=()
def tw15759668669722552426:=()
def tw500951862947244486:=()
def tw9846164671829366861:=()
def tw8699975885827075452:=()
def tw12953820426741598340:=()
def tw7944563654836672501:=()
def tw9662407071234843465:=()
def tw5121613276351056352:=()
def tw14893625858474365256:=()
def tw5141840529473433352:=()
def tw2871035415188241014:=()
def tw10755234463374542036:=()
def tw2053577122064787206:=()
def tw3473526790022361991:=()
def tw1301422518974090341:=()
def tw11207454441538539368:=()
def tw7798119869278491285:=()
def tw10521383556353846374:=()
def tw9904708106274989745:=()
def tw4358642717809189338:=()
def tw16435657277083639662:=()
def tw17835153416933740466:=()
def tw8714528341912172303:=()
def tw3805162655554943798:=()
def tw3133904747813839452:=()
def tw8342017102363336879:=()
def tw670363492602141541:=()
def tw2927670582820552770:=()
def tw6567683797563625570:=()
def tw1681800175511720952:=()
def tw10459942480855781343:=()
def tw10052362333584052432:=()
def tw7114995295627835886:=()
def tw12449265999941504920:=()
def tw937854018177898846:=()
def tw15957791552540789118:=()
def tw11889659945188672073:=()
def tw7384670770671971526:=()
def tw2959311550471557745:=()
def tw14355791231301880088:=()
def tw11693850415880622694:=()
def tw14167744417904370609:=()
def tw15124602196701491969:=()
def tw6646045072878434298:=()
def tw10484707764188390555:=()
def tw9514986419999638997:=()
def tw4749018246068583845:=()
def tw3501760670314761386:=()
def tw15019843730055943730:=()
def tw16583800364522342040:=()
def tw5958132168275720926:=()
def tw3127937413103374288:=()
def tw16769297426712753944:=()
def tw15097612955514013815:=()
def tw4376821379468145416:=()
def tw3190024388609515518:=()
def tw16075595107858097724:=()
def tw10330714383834530693:=()
def tw15189399892094331026:=()
def tw14740836054753154937:=()
def tw17384730985343675181:=()
def tw1664253448998256320:=()
def tw8481395960352688584:=()
def tw16410241322714473038:=()
def tw16147054675640877085:=()
def tw11990161316297858852:=()
def tw11005581759945245816:=()
def tw11344455304220565606:=()
def tw426651419725394155:=()
def tw8392495484260724874:=()
def tw1932013705267169336:=()
def tw18376086527672840113:=()
def tw2048690534233499098:=()
def tw14549742257986959768:=()
def tw14990349680066070675:=()
def tw10566197241641168925:=()
def tw8703321171322750509:=()
def tw2208923921077895891:=()
def tw15671807766434641895:=()
def tw14070422562224123893:=()
def tw801440547963927147:=()
def tw14602262374842623498:=()
def tw4293838238355939161:=()
def tw5637737022042157842:=()
def tw10582805000755923243:=()
def tw6346193155885815856:=()
def tw5137068745399823570:=()
def tw4160005639461478636:=()
def tw7565594804652639380:=()
def tw18106480335505197099:=()
def tw6345960058079269747:=()
def tw5988366173353680094:=()
def tw9646510934145487621:=()
def tw5271818256392857806:=()
def tw243358788788204319:=()
def tw1644842113397657028:=()
def tw15657207605369554479:=()
def tw6149359194528726814:=()
def tw9528537201803507639:=()
def tw16081866271389136411:=()
def tw8355015465531050742:=()
def tw15950550934839523081:=()
def tw13656662072872792263:=()
def tw3128984481551441477:=()
def tw6927986269172169934:=()
def tw1356049309072335655:=()
def tw5384119321825234026:=()
def tw10199922364882214733:=()
def tw7474043305882458918:=()
def tw17456625011991845377:=()
def tw16224241032204799451:=()
def tw7125715682974224196:=()
def tw734352857331469028:=()
def tw17692159287120173364:=()
def tw3502001020504352814:=()
def tw12310252717430566462:=()
def tw4466013160757364922:=()
def tw17072791928333911198:=()
def tw11907507590988211818:=()
def tw13590957143384620077:=()
def tw13255244137113403303:=()
def tw16532395530513435190:=()
def tw10808698287631970562:=()
def tw16434474430520075663:=()
def tw5306344250112610716:=()
def tw16467843458090162739:=()
def tw7984068175225993592:=()
def tw3458509032603685078:=()
def tw2864823590138487105:=()
def tw11020285486754228209:=()
def tw13103574296984850158:=()
def tw7828624759692744543:=()
def tw18379647657031637586:=()
def tw7240094188884916045:=()
def tw4858720169320680448:=()
def tw17135735616713026727:=()
def tw5590463129954272058:=()
def tw3907407296167140096:=()
def tw178976500506031629:=()
def tw17770189731892614580:=()
def tw8167971086859855432:=()
def tw14062556222277192755:=()
def tw17662147608034083888:=()
def tw15886299605878352981:=()
def tw12304851184245969630:=()
def tw10334431809046874779:=()
def tw9531721485780701032:=()
def tw18255127445185008951:=()
def tw10401861585665885671:=()
def tw3015744523664428998:=()
def tw11290761043372582467:=()
def tw7982789203913387973:=()
def tw17506540841269394534:=()
def tw905627747717460586:=()
def tw16859854923164315159:=()
def tw3537485922122818010:=()
def tw17368490273664416852:=()
def tw15643760944515603484:=()
def tw11321199324445968670:=()
def tw7774540895582867365:=()
def tw13664431442081088939:=()
def tw17615176062190393728:=()
def tw13239769709511218601:=()
def tw12727633863536725725:=()
def tw9099030081706711942:=()
def tw13003260706593250086:=()
def tw470550649255112708:=()
def tw5102261820293834415:=()
def tw15427416293760973581:=()
def tw10522538385222270949:=()
def tw7149708037363621800:=()
def tw2430293722308570806:=()
def tw7315065859974204090:=()
def tw5422170160373718813:=()
def tw9300692717504119806:=()
def tw3194070893885933764:=()
def tw3221683334424378521:=()
def tw18041798309291031221:=()
def tw7992107516133889082:=()
def tw5155394242593048481:=()
def tw17475904240980446268:=()
def tw5805371915193153420:=()
def tw12858017344506007830:=()
def tw16122085333056498112:=()
def tw14295566494202945780:=()
def tw567123922001521492:=()
def tw6848902291994098205:=()
def tw7369973527205272860:=()
def tw17023906465180436327:=()
def tw8814071204724129628:=()
def tw13324123919678319112:=()
def tw11135833600426289404:=()
def tw4503021927901752099:=()
def tw17717613258526058925:=()
def tw14290674882564475112:=()
def tw16885509365701539927:=()
def tw4344147634393156460:=()
def tw3863693711987472799:=()
def tw13486080757735379583:=()
def tw11536207934203923926:=()
def tw16972286092144750422:=()
def tw17945533347849952173:=()
def tw8253827488126890134:=()
def tw504849613126078667:=()
def tw7610470585717270358:=()
def tw9051752019748003242:=()
def tw1176150980196523892:=()
def tw14681888553106271259:=()
def tw8996258440000944810:=()
def tw17949932185380968318:=()
end PySem.W.Fast
set_option maxRecDepth 100000 in
set_option maxHeartbeats 0 in
theorem PySem.Challenge.cw_unfoldnet_k42_whole_a_total_order_holds : PySem.Challenge.rw_unfoldnet_k42_whole_a_total_order.Holds := by
 w_on;o_law;k_head;(case hw=>w_witness2)
 k_fill
 refine Uf.walk (l:=PySem.Challenge.rw_unfoldnet_k42_whole_a_total_order) rfl rfl (fun w h Y=>PySem.W.kIn_of Y) ?F
 case F =>
  intro w mg fa h KX G hmg
  refine' Uf.all_mk KX G hmg ..
  all_goals try first|refine' Uf.Ho ?_ ?_ ?_ ?_|refine' Uf.IC ?_ ?_ ?_ ?_ ?_
  all_goals first|k_is|rfl|kernel_rfl|decide +kernel|skip
end
